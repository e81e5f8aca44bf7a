import PyProof.Rows.All
import Wide.All
import OpenK.AllK
import Wide.FinOn
import Lean
import PyProof.EqAt
import PyProof.EqKinds
import PyProof.TupleCall
import PySem.Challenge.RW_nearnames_k24_fewer_silent
set_option Elab.async false
set_option linter.all false
set_option maxRecDepth 100000
namespace L2
open PySem PySem.Spec PyProof.Rows
abbrev Key := Sum Int Str
def keyIs : Key → Value → Bool
  | .inl k, v => Value.isInt k v
  | .inr x, v => Value.isStrOf x v
def keyH (w : World) : Key → Int
  | .inl k => hashInt k
  | .inr x => hashStr w x
theorem keyIs_shape : ∀ {k : Key} {v : Value}, keyIs k v = true → (∃ i t, k = Sum.inl i ∧ v = Value.int i t) ∨ (∃ x t, k = Sum.inr x ∧ v = Value.str x t)
  | .inl i, v, h => by
    obtain ⟨t, e⟩ := Value.isInt_shape (k := i) (v := v) h
    exact .inl ⟨i, t, rfl, e⟩
  | .inr x, v, h => by
    obtain ⟨t, e⟩ := Value.isStrOf_shape (x := x) (v := v) h
    exact .inr ⟨x, t, rfl, e⟩
theorem keyIs_int (i : Int) (t : Tok) : keyIs (.inl i) (.int i t) = true := by simp [keyIs, Value.isInt]
theorem keyIs_str (x : Str) (t : Tok) : keyIs (.inr x) (.str x t) = true := by simp [keyIs, Value.isStrOf]
theorem key_ll (a b : Int) : decide ((Sum.inl a : Key) = Sum.inl b) = (a == b) := by
  by_cases e : a = b
  · subst e; simp
  · have h : ¬ (Sum.inl a : Key) = Sum.inl b := fun q => e (Sum.inl.inj q)
    rw [decide_eq_false h]
    exact (beq_eq_false_iff_ne.mpr e).symm
theorem key_rr (a b : Str) : decide ((Sum.inr a : Key) = Sum.inr b) = decide (a = b) := by
  by_cases e : a = b
  · subst e; simp
  · have h : ¬ (Sum.inr a : Key) = Sum.inr b := fun q => e (Sum.inr.inj q)
    rw [decide_eq_false h, decide_eq_false e]
theorem key_lr (a : Int) (b : Str) : decide ((Sum.inl a : Key) = Sum.inr b) = false := decide_eq_false (fun q => nomatch q)
theorem key_rl (a : Str) (b : Int) : decide ((Sum.inr a : Key) = Sum.inl b) = false := decide_eq_false (fun q => nomatch q)
def mixKind (prog : Program) (w : World) : PySem.KeyKind prog w Key where
  is := keyIs
  hash := keyH w
  inj := fun v a b ha hb => by
    rcases keyIs_shape ha with ⟨i, t, rfl, rfl⟩ | ⟨x, t, rfl, rfl⟩
    · rcases keyIs_shape hb with ⟨j, u, rfl, e⟩ | ⟨y, u, rfl, e⟩
      · injection e with e1 _; rw [e1]
      · exact nomatch e
    · rcases keyIs_shape hb with ⟨j, u, rfl, e⟩ | ⟨y, u, rfl, e⟩
      · exact nomatch e
      · injection e with e1 _; rw [e1]
  byValue := fun k v h => by
    rcases keyIs_shape h with ⟨i, t, rfl, rfl⟩ | ⟨x, t, rfl, rfl⟩ <;> rfl
  pyHash := fun hv h => by
    rcases keyIs_shape hv with ⟨i, t, rfl, rfl⟩ | ⟨x, t, rfl, rfl⟩
    · exact wpAny_pyHash_int h
    · exact wpAny_pyHash_str h
  eqBool := fun hu hv h => by
    rcases keyIs_shape hu with ⟨i, t, rfl, rfl⟩ | ⟨x, t, rfl, rfl⟩
    · rcases keyIs_shape hv with ⟨j, u, rfl, rfl⟩ | ⟨y, u, rfl, rfl⟩
      · rw [key_ll] at h; exact wpAny_eqBool_int h
      · rw [key_lr] at h; exact SeqAt.EqAt.int_str i t y u _ _ _ _ h
    · rcases keyIs_shape hv with ⟨j, u, rfl, rfl⟩ | ⟨y, u, rfl, rfl⟩
      · rw [key_rl] at h; exact SeqAt.EqAt.str_int x t j u _ _ _ _ h
      · rw [key_rr] at h; exact wpAny_eqBool_str h
  «strs» := fun k x t v h => by
    rcases keyIs_shape h with ⟨i, u, rfl, e⟩ | ⟨y, u, rfl, e⟩
    · exact nomatch e
    · injection e with e1 _
      subst e1
      cases v <;> rfl
theorem mixKind_int (prog : Program) (w : World) (i : Int) (t : Tok) : (mixKind prog w).is (.inl i) (.int i t) = true := keyIs_int i t
theorem mixKind_str (prog : Program) (w : World) (x : Str) (t : Tok) : (mixKind prog w).is (.inr x) (.str x t) = true := keyIs_str x t
end L2
namespace L2
open PySem PySem.Spec PyProof.Rows
inductive V where
  | non | bl (b : Bool) | int (i : Int) | str (x : Str) | byt (b : Array UInt8) | flt (b : UInt64) | ref (a : Addr) | ty (n : String)
  deriving DecidableEq
def RelV : V → Value → Prop
  | .non, u => u = Value.none
  | .bl b, u => u = Value.bool b
  | .int i, u => ∃ t, u = Value.int i t
  | .str x, u => ∃ t, u = Value.str x t
  | .byt b, u => ∃ t, u = Value.bytes b t
  | .flt b, u => ∃ t, u = Value.float b t
  | .ref a, u => u = Value.ref a
  | .ty n, u => u = Value.type n
abbrev Vals : List V → List Value → Prop := Paired RelV
theorem Vals.length {xs : List V} {us : List Value} (r : Vals xs us) : xs.length = us.length := Paired.length r
theorem Vals.get : ∀ {xs : List V} {us : List Value} {i : Nat} {x : V}, Vals xs us → xs[i]? = some x → ∃ u, us[i]? = some u ∧ RelV x u
  | _, _, _, _, .nil, e => by simp at e
  | _, _, 0, _, .cons r _, e => by simp at e; subst e; exact ⟨_, rfl, r⟩
  | _, _, i + 1, x, .cons _ t, e => by
    obtain ⟨u, h1, h2⟩ := Vals.get (i := i) (x := x) t (by simpa using e)
    exact ⟨u, by simpa using h1, h2⟩
theorem Vals.set {x : V} {u : Value} (r : RelV x u) : ∀ {xs : List V} {us : List Value} (i : Nat), Vals xs us → Vals (xs.set i x) (us.set i u)
  | _, _, _, .nil => .nil
  | _, _, 0, .cons _ t => .cons r t
  | _, _, i + 1, .cons q t => .cons q (Vals.set r i t)
theorem Vals.append : ∀ {xs ys : List V} {us ws : List Value}, Vals xs us → Vals ys ws → Vals (xs ++ ys) (us ++ ws)
  | _, _, _, _, .nil, s => s
  | _, _, _, _, .cons r t, s => .cons r (Vals.append t s)
theorem Vals.take : ∀ {xs : List V} {us : List Value} (n : Nat), Vals xs us → Vals (xs.take n) (us.take n)
  | _, _, 0, _ => .nil
  | _, _, _ + 1, .nil => .nil
  | _, _, n + 1, .cons r t => .cons r (Vals.take n t)
theorem Vals.drop : ∀ {xs : List V} {us : List Value} (n : Nat), Vals xs us → Vals (xs.drop n) (us.drop n)
  | _, _, 0, r => r
  | _, _, _ + 1, .nil => .nil
  | _, _, n + 1, .cons _ t => Vals.drop n t
theorem Vals.none_of : ∀ {xs : List V} {us : List Value} {i : Nat}, Vals xs us → xs[i]? = none → us[i]? = none := fun {xs us i} r e => by
  have h1 := r.length
  have h2 : xs.length ≤ i := List.getElem?_eq_none_iff.mp e
  exact List.getElem?_eq_none_iff.mpr (by omega)
def RelO : Option V → Option Value → Prop
  | some v, some u => RelV v u
  | none, none => True
  | _, _ => False
def KV {κ : Type} : List (κ × V) → List (κ × Value) → Prop := Paired fun (p : κ × V) (q : κ × Value) => p.1 = q.1 ∧ RelV p.2 q.2
def kV : Key → V
  | .inl i => .int i
  | .inr x => .str x
inductive HO where
  | lst (xs : List V)
  | tup (xs : List V)
  | dK (kvs : List (Key × V)) | dT (kvs : List (List Key × V))
  | set (S : Int → Bool) (n : Nat)
  | ins (C dx : Addr) (fs : List (Str × V))
  | own (x : Addr)
  | xd (fs : List (Str × V))
  | met (f x : Addr)
  | rng (lo hi : Int)
  | frz (o : Obj) (u : HO)
  | tbl (ps : Array Value)
  | ext (φ : Heap → Prop)
abbrev Hp := Addr → Option HO
def upd (H : Hp) (a : Addr) (o : HO) : Hp := fun b => if b = a then some o else H b
theorem upd_same {H : Hp} {a : Addr} {o : HO} : upd H a o a = some o := by unfold upd; rw [if_pos rfl]
theorem upd_ne {H : Hp} {a b : Addr} {o : HO} (h : b ≠ a) : upd H a o b = H b := by unfold upd; rw [if_neg h]
theorem upd_upd {H : Hp} {a : Addr} {o u : HO} : upd (upd H a o) a u = upd H a u := by
  funext b; unfold upd; split <;> rfl
theorem ne_of {H : Hp} {a b : Addr} {o u : HO} (h : H a = some o) (h' : H b = some u) (d : o ≠ u) : a ≠ b := by
  intro e; subst e; rw [h] at h'; exact d (Option.some.inj h')
theorem ne_of_none {H : Hp} {a b : Addr} {o : HO} (h : H a = some o) (h' : H b = none) : a ≠ b := by
  intro e; subst e; rw [h] at h'; cases h'
section
variable (P : Program) (w : World)
def ObjOk (H : Hp) (h : Heap) (a : Addr) : HO → Prop
  | .lst xs => xs.length ≤ sizeLine ∧ ∃ (its : List Value) (n : Nat), Vals xs its ∧ h.get? a = some { cls := .type "list", data := .seq its.toArray n }
  | .tup xs => xs.length ≤ sizeLine ∧ ∃ its : List Value, Vals xs its ∧ IsTup h a its.toArray
  | .dK kvs => kvs.length ≤ sizeLine ∧ (a == sysModules) = false ∧ ∃ vs, KV kvs vs ∧ h.DictOf (mixKind P w) a vs
  | .dT kvs => kvs.length ≤ sizeLine ∧ (a == sysModules) = false ∧ ∃ xs : List (List Key × Addr × Value),
      Paired (fun (p : List Key × V) (q : List Key × Addr × Value) => p.1 = q.1 ∧ H q.2.1 = some (.tup (p.1.map kV)) ∧ RelV p.2 q.2.2) kvs xs ∧
      ∃ o es ep, h.get? a = some o ∧ o.ExactDict ∧ o.data = .dict es ep ∧ es.toList = xs.map (entryOfKey (tupleKind (mixKind P w))) ∧ (xs.map (·.1)).Nodup
  | .set S n => h.SetOf (intKind P w) a S n
  | .ins C dx fs => H dx = some (.own a) ∧ fs.length ≤ 1000 ∧ dx ≠ a ∧ h.get? a = some (PySem.W.instObj C dx) ∧
      ∃ mA, h.Ns1 dx mA ∧ (∀ f, RelO (fs.lookup f) (mA f)) ∧ PySem.Within mA (fs.map (·.1))
  | .own _ => ∃ o, h.get? a = some o
  | .xd fs => ∃ mA, h.Ns1 a mA ∧ ∀ f, RelO (fs.lookup f) (mA f)
  | .rng lo hi => ∃ t u v, h.get? a = some { cls := .type "range", data := .fields #[.int lo t, .int hi u, .int 1 v] }
  | .frz o u => h.get? a = some o ∧ ObjOk H h a u
  | .tbl ps => h.get? a = some { cls := .none, data := .fields ps }
  | .met f x => h.get? a = some (PySem.W.methodObj (.ref f) (.ref x))
  | .ext φ => φ h ∧ (∃ o, h.get? a = some o) ∧ ∀ h1 h2 : Heap, φ h1 → (∀ o, h1.get? a = some o → h2.get? a = some o) → φ h2
def HOk (H : Hp) (h : Heap) : Prop := ∀ a o, H a = some o → ObjOk P w H h a o
end
section
variable {P : Program} {w : World} {H H' : Hp} {h h' : Heap} {a : Addr} {o : HO}
theorem ObjOk.lt (x : ObjOk P w H h a o) : a < h.objs.size := by
  cases o with
  | lst xs => obtain ⟨_, _, _, _, e⟩ := x; exact Heap.lt_size e
  | tup xs => obtain ⟨_, _, _, p⟩ := x; exact p.lt
  | dK kvs => obtain ⟨_, _, _, _, o, _, _, e, _⟩ := x; exact Heap.lt_size e
  | dT kvs => obtain ⟨_, _, _, _, o, _, _, e, _⟩ := x; exact Heap.lt_size e
  | set S n => obtain ⟨o, _, _, _, e, _⟩ := x; exact Heap.lt_size e
  | ins C dx fs => obtain ⟨_, _, _, e, _⟩ := x; exact Heap.lt_size e
  | own y => obtain ⟨_, e⟩ := x; exact Heap.lt_size e
  | xd fs => obtain ⟨_, ⟨_, _, _, e, _⟩, _⟩ := x; exact Heap.lt_size e
  | rng lo hi => obtain ⟨_, _, _, e⟩ := x; exact Heap.lt_size e
  | frz ob u => obtain ⟨e, _⟩ := x; exact Heap.lt_size e
  | tbl ps => exact Heap.lt_size (show h.get? a = some _ from x)
  | met f y => exact Heap.lt_size (show h.get? a = some _ from x)
  | ext φ => obtain ⟨_, ⟨_, e⟩, _⟩ := x; exact Heap.lt_size e
theorem Paired.mapP {α β : Type} {F G : α → β → Prop} : ∀ {l₁ : List α} {l₂ : List β}, Paired F l₁ l₂ → (∀ a b, F a b → G a b) → Paired G l₁ l₂
  | _, _, .nil, _ => .nil
  | _, _, .cons r t, f => .cons (f _ _ r) (Paired.mapP t f)
theorem ObjOk.stay (x : ObjOk P w H h a o) (k : ∀ b u, (b = a ∨ H b = some (.own a)) → h.get? b = some u → h'.get? b = some u)
    (ho : ∀ b, H b = some (.own a) → H' b = some (.own a)) (ht : ∀ b xs, H b = some (.tup xs) → H' b = some (.tup xs)) : ObjOk P w H' h' a o := by
  induction o with
  | lst xs => obtain ⟨z, its, n, r, e⟩ := x; exact ⟨z, its, n, r, k _ _ (.inl rfl) e⟩
  | tup xs => obtain ⟨z, its, r, ob, e, c⟩ := x; exact ⟨z, its, r, ob, k _ _ (.inl rfl) e, c⟩
  | dK kvs => obtain ⟨z, y, vs, r, ob, es, ep, e, c⟩ := x; exact ⟨z, y, vs, r, ob, es, ep, k _ _ (.inl rfl) e, c⟩
  | dT kvs =>
    obtain ⟨z, y, xs, r, ob, es, ep, e, c⟩ := x
    exact ⟨z, y, xs, Paired.mapP r fun p q z => ⟨z.1, ht _ _ z.2.1, z.2.2⟩, ob, es, ep, k _ _ (.inl rfl) e, c⟩
  | set S n => obtain ⟨ob, es, ep, t, e, c⟩ := x; exact ⟨ob, es, ep, t, k _ _ (.inl rfl) e, c⟩
  | ins C dx fs =>
    obtain ⟨d, z, ne, e, mA, ⟨od, es, ep, e2, c⟩, r⟩ := x
    exact ⟨ho _ d, z, ne, k _ _ (.inl rfl) e, mA, ⟨od, es, ep, k _ _ (.inr d) e2, c⟩, r⟩
  | own y => obtain ⟨ob, e⟩ := x; exact ⟨ob, k _ _ (.inl rfl) e⟩
  | xd fs => obtain ⟨mA, ⟨od, es, ep, e, c⟩, r⟩ := x; exact ⟨mA, ⟨od, es, ep, k _ _ (.inl rfl) e, c⟩, r⟩
  | rng lo hi => obtain ⟨t, u, v, e⟩ := x; exact ⟨t, u, v, k _ _ (.inl rfl) e⟩
  | frz ob u ih => obtain ⟨e, q⟩ := x; exact ⟨k _ _ (.inl rfl) e, ih q⟩
  | tbl ps =>
    have e : h.get? a = some { cls := .none, data := .fields ps } := x
    show h'.get? a = some { cls := .none, data := .fields ps }
    exact k a _ (.inl rfl) e
  | met f y =>
    have e : h.get? a = some (PySem.W.methodObj (.ref f) (.ref y)) := x
    show h'.get? a = some (PySem.W.methodObj (.ref f) (.ref y))
    exact k a _ (.inl rfl) e
  | ext φ => obtain ⟨p, ⟨o, e⟩, st⟩ := x; exact ⟨st _ _ p fun o q => k _ _ (.inl rfl) q, ⟨o, k _ _ (.inl rfl) e⟩, st⟩
theorem HOk.lt (x : HOk P w H h) (e : H a = some o) : a < h.objs.size := (x a o e).lt
theorem HOk.fresh (x : HOk P w H h) (e : h.objs.size ≤ a) : H a = none := by
  cases q : H a with
  | none => rfl
  | some u => exact absurd (Nat.lt_of_lt_of_le (x.lt q) e) (Nat.lt_irrefl _)
theorem HOk.kept (x : HOk P w H h) (k : ∀ b u, h.get? b = some u → h'.get? b = some u) : HOk P w H h' := fun a o e =>
  (x a o e).stay (fun b u _ q => k b u q) (fun _ q => q) fun _ _ q => q
theorem HOk.laid (x : HOk P w H h) (k : ∀ b u, h.get? b = some u → h'.get? b = some u) (hp : h.objs.size ≤ a) (new : ObjOk P w (upd H a o) h' a o) : HOk P w (upd H a o) h' := fun b u e => by
  have hn := x.fresh hp
  by_cases hb : b = a
  · subst hb; rw [upd_same] at e; cases e; exact new
  · rw [upd_ne hb] at e
    exact (x b u e).stay (fun c v _ q => k c v q) (fun c q => by rw [upd_ne (ne_of_none q hn)]; exact q) fun c xs q => by rw [upd_ne (ne_of_none q hn)]; exact q
end
def Rd (H : Hp) (a : Addr) (u : HO) : Prop := H a = some u ∨ ∃ o, H a = some (.frz o u)
theorem Rd.of {H : Hp} {a : Addr} {u : HO} (h : H a = some u) : Rd H a u := .inl h
theorem Rd.ok {P : Program} {w : World} {H : Hp} {h : Heap} {a : Addr} {u : HO} (r : Rd H a u) (x : HOk P w H h) : ObjOk P w H h a u := by
  rcases r with r | ⟨o, r⟩
  · exact x a u r
  · obtain ⟨_, q⟩ := x a _ r
    exact q
def Mut : Option HO → Prop
  | some (.lst _) => True
  | some (.dK _) => True
  | some (.dT _) => True
  | some (.set _ _) => True
  | some (.ins _ _ _) => True
  | some (.ext _) => True
  | _ => False
section
variable {P : Program} {w : World} {H : Hp} {h h' : Heap} {x e : Addr} {o' : HO}
theorem HOk.write (ok : HOk P w H h) (mu : Mut (H x)) (he : e = x ∨ H e = some (.own x)) (k : ∀ b u, b ≠ e → h.get? b = some u → h'.get? b = some u) (heo : ∃ u, h'.get? e = some u)
    (new : ObjOk P w (upd H x o') h' x o') : HOk P w (upd H x o') h' := fun b u q => by
  have nown : ∀ c y, H c = some (.own y) → c ≠ x := fun c y r z => by subst z; rw [r] at mu; exact mu
  have ntup : ∀ c xs, H c = some (.tup xs) → c ≠ x := fun c xs r z => by subst z; rw [r] at mu; exact mu
  by_cases hb : b = x
  · subst hb; rw [upd_same] at q; cases q; exact new
  · rw [upd_ne hb] at q
    by_cases hbe : b = e
    · have q' : H b = some (.own x) := by
        rcases he with z | z
        · exact absurd (hbe.trans z) hb
        · rw [hbe]; exact z
      rw [q] at q'; cases q'
      obtain ⟨v, hv⟩ := heo
      exact ⟨v, by rw [hbe]; exact hv⟩
    · refine (ok b u q).stay (fun c v hc r => k c v ?_ r) (fun c r => by rw [upd_ne (nown c b r)]; exact r) fun c xs r => by rw [upd_ne (ntup c xs r)]; exact r
      rcases hc with rfl | hc
      · exact hbe
      · rintro rfl
        rcases he with z | z
        · exact nown c b hc z
        · rw [hc] at z; cases z; exact hb rfl
end
structure Un (fs ex : List Addr) (H H' : Hp) (h h' : Heap) : Prop where
  keep : ∀ b o, h.get? b = some o → H b = none → b ∉ fs → b ∉ ex → h'.get? b = some o
  slot : ∀ b o, h.get? b = some o → H b = none → b ∈ fs → b ∉ ex → ∃ sl, h'.get? b = some { o with slots := sl }
  free : ∀ b o, h.get? b = some o → H b = none → b ∉ ex → H' b = none
  there : ∀ b o, h.get? b = some o → b ∉ ex → ∃ o', h'.get? b = some o'
  tups : ∀ b xs, H b = some (.tup xs) → H' b = some (.tup xs)
  frzs : ∀ b o u, H b = some (.frz o u) → H' b = some (.frz o u)
  tbls : ∀ b ps, H b = some (.tbl ps) → ∃ more, H' b = some (.tbl (ps ++ more))
section
variable {fs fs' ex ex' : List Addr} {H H1 H2 : Hp} {h h1 h2 h' : Heap} {a x e : Addr} {o : HO}
theorem Un.any (u : Un fs ex H H1 h h1) {b : Addr} {ob : Obj} (q : h.get? b = some ob) (n : H b = none) (hx : b ∉ ex) : ∃ sl, h1.get? b = some { ob with slots := sl } := by
  by_cases hb : b ∈ fs
  · exact u.slot b ob q n hb hx
  · exact ⟨ob.slots, u.keep b ob q n hb hx⟩
theorem Un.trans (a : Un fs ex H H1 h h1) (b : Un fs ex H1 H2 h1 h2) : Un fs ex H H2 h h2 where
  keep := fun c ob q n hc hx => b.keep c ob (a.keep c ob q n hc hx) (a.free c ob q n hx) hc hx
  slot := fun c ob q n hc hx => by
    obtain ⟨sl, e1⟩ := a.slot c ob q n hc hx
    obtain ⟨sl', e2⟩ := b.slot c _ e1 (a.free c ob q n hx) hc hx
    exact ⟨sl', e2⟩
  free := fun c ob q n hx => by
    obtain ⟨o', e1⟩ := a.there c ob q hx
    exact b.free c o' e1 (a.free c ob q n hx) hx
  there := fun c ob q hx => by
    obtain ⟨o', e1⟩ := a.there c ob q hx
    exact b.there c o' e1 hx
  tups := fun c xs q => b.tups c xs (a.tups c xs q)
  frzs := fun c ob xs q => b.frzs c ob xs (a.frzs c ob xs q)
  tbls := fun c ps q => by
    obtain ⟨m1, e1⟩ := a.tbls c ps q
    obtain ⟨m2, e2⟩ := b.tbls c _ e1
    exact ⟨m1 ++ m2, by rw [e2, Array.append_assoc]⟩
theorem Un.kept (k : ∀ b u, h.get? b = some u → h'.get? b = some u) : Un fs ex H H h h' :=
  ⟨fun b ob q _ _ _ => k b ob q, fun b ob q _ _ _ => ⟨ob.slots, k b ob q⟩, fun _ _ _ n _ => n, fun b ob q _ => ⟨ob, k b ob q⟩, fun _ _ q => q, fun _ _ _ q => q, fun _ ps q => ⟨#[], by rw [q]; simp⟩⟩
theorem Un.refl : Un fs ex H H h h := Un.kept fun _ _ q => q
theorem Un.laid (k : ∀ b u, h.get? b = some u → h'.get? b = some u) (hp : h.objs.size ≤ a) (hn : H a = none) : Un fs ex H (upd H a o) h h' where
  keep := fun b u q _ _ _ => k b u q
  slot := fun b u q _ _ _ => ⟨u.slots, k b u q⟩
  free := fun b u q n _ => by rw [upd_ne (Nat.ne_of_lt (Nat.lt_of_lt_of_le (Heap.lt_size q) hp))]; exact n
  there := fun b u q _ => ⟨u, k b u q⟩
  tups := fun b xs q => by rw [upd_ne (ne_of_none q hn)]; exact q
  frzs := fun b u xs q => by rw [upd_ne (ne_of_none q hn)]; exact q
  tbls := fun b ps q => ⟨#[], by rw [upd_ne (ne_of_none q hn), q]; simp⟩
theorem Un.write (mu : Mut (H x)) (he : e = x ∨ H e = some (.own x)) (k : ∀ b u, b ≠ e → h.get? b = some u → h'.get? b = some u) (heo : ∃ u, h'.get? e = some u) : Un fs ex H (upd H x o) h h' := by
  have hx : ∀ b, H b = none → b ≠ x := fun b n z => by subst z; rw [n] at mu; exact mu
  have hb : ∀ b, H b = none → b ≠ e := fun b n z => by
    subst z
    rcases he with r | r
    · exact hx b n r
    · rw [n] at r; cases r
  have hm : ∀ b u, H b = some u → ¬ Mut (some u) → b ≠ x := fun b u q nm z => by subst z; rw [q] at mu; exact nm mu
  refine ⟨fun b u q n _ _ => k b u (hb b n) q, fun b u q n _ _ => ⟨u.slots, k b u (hb b n) q⟩, fun b u q n _ => by rw [upd_ne (hx b n)]; exact n, fun b u q _ => ?_,
    fun b xs q => by rw [upd_ne (hm b _ q fun z => z)]; exact q, fun b u xs q => by rw [upd_ne (hm b _ q fun z => z)]; exact q, fun b ps q => ⟨#[], by rw [upd_ne (hm b _ q fun z => z), q]; simp⟩⟩
  by_cases hbe : b = e
  · subst hbe; exact heo
  · exact ⟨u, k b u hbe q⟩
theorem Un.mono (u : Un fs ex H H1 h h1) (hs : ∀ b ∈ fs, b ∈ fs') (hx : ∀ b ∈ ex, b ∈ ex') : Un fs' ex' H H1 h h1 :=
  ⟨fun b ob q n hb he => u.keep b ob q n (fun z => hb (hs b z)) fun z => he (hx b z), fun _ _ q n _ he => u.any q n fun z => he (hx _ z), fun b ob q n he => u.free b ob q n fun z => he (hx b z), fun b ob q he => u.there b ob q fun z => he (hx b z), u.tups, u.frzs, u.tbls⟩
end
def trk (h : Heap) (H : Hp) : List Addr := (List.range h.objs.size).filter fun a => (H a).isSome
def hidT (h : Heap) (H : Hp) : Heap := PySem.W.hideAll h (trk h H)
theorem hidT_size (h : Heap) (H : Hp) : (hidT h H).objs.size = h.objs.size := PySem.W.hideAll_size _ _
theorem hidT_get {h : Heap} {H : Hp} {b : Addr} {o : Obj} (e : h.get? b = some o) (n : H b = none) : (hidT h H).get? b = some o :=
  PySem.W.hideAll_get _ e fun hm => by
    have q : (H b).isSome = true := (List.mem_filter.mp hm).2
    rw [n] at q; simp at q
theorem of_hidT {h : Heap} {H : Hp} {b : Addr} {o : Obj} (e : (hidT h H).get? b = some o) : h.get? b = some o ∧ H b = none := by
  have e' : h.get? b = some o := PySem.W.of_hideAll (trk h H) e
  refine ⟨e', ?_⟩
  cases q : H b with
  | none => rfl
  | some x =>
    have hm : b ∈ trk h H := List.mem_filter.mpr ⟨List.mem_range.mpr (Heap.lt_size e'), by simp [q]⟩
    have z : (hidT h H).get? b = none := PySem.W.hideAll_none (trk h H) hm
    rw [z] at e; cases e
def allNews (g h : Heap) (L : Addr) : List (Addr × Obj) := (List.range h.objs.size).filterMap fun a => if a = L ∨ (g.get? a).isSome = true then none else (h.get? a).map fun o => (a, o)
def rest (g h : Heap) (L d : Addr) : List (Addr × Obj) := (allNews g h L).filter fun p => decide (p.1 ≠ d)
end L2
namespace L2
open PySem PySem.Spec PyProof.Rows
structure Mod (K : PySem.W.Frag) (mg : Str → Option Value) (base : Heap) : Prop where
  kin : K.In base
  glob : base.Ns mainGlobals mg
  blt : ∃ mb, base.Ns builtinsNs mb ∧ ∀ x : Str, x ≠ "__name__" → mb x = bootBuiltins x
  nolimit : base.NoLimit
structure Cx where
  prog : Program
  w : World
  K : PySem.W.Frag
  mg : Str → Option Value
  base : Heap
  A : Around
  N : List Str
  s₀ : Shared
  H₀ : Hp
  env : Env
  outer : List Env
  stack : List Env
  ex : List Addr
  fn : Str → Bool
  calm : Bool
  pn : List (Addr × Obj)
  xe : Value → Shared → Prop
def frs (l : List Env) : List Addr := l.filterMap (·.frame)
abbrev Cx.fs (X : Cx) : List Addr := frs X.outer
def Vis (sc : Scope) (x : Str) : Prop := sc.names.lookup x = some .local ∨ sc.names.lookup x = some .cell ∨ sc.names.lookup x = some .free
def Loc (sc : Scope) (x : Str) : Prop := sc.names.lookup x = some .local ∨ sc.names.lookup x = some .cell
def Look (env : Env) (h : Heap) (m : Str → Option Value) (x : Str) (u : Value) : Prop :=
  (env.kindOf x = some .local ∧ m x = some u) ∨ ((env.kindOf x = some .cell ∨ env.kindOf x = some .free) ∧ ∃ c, env.cells.lookup x = some c ∧ h.IsCell c (some u))
structure Cx.Ok (X : Cx) : Prop where
  mod : Mod X.K X.mg X.base
  kind : X.env.scope.kind = .function
  glob : X.env.globals = mainGlobals
  blt : X.env.builtins = builtinsNs
  above : X.s₀.heap.objs.size ≤ X.env.locals
  inj : ∀ x y c, X.env.cells.lookup x = some c → X.env.cells.lookup y = some c → x = y
  has : ∀ x, (X.env.kindOf x = some .cell ∨ X.env.kindOf x = some .free) → ∃ c, X.env.cells.lookup x = some c
  cab : ∀ x c, X.fn x = true → X.env.cells.lookup x = some c → X.s₀.heap.objs.size ≤ c
  hd : X.calm = true → X.A.handled = none
  frames : X.A.frames = some X.stack
  stk : X.stack = X.outer ∨ (X.stack = X.env :: X.outer ∧ X.env.frame = some X.env.locals)
  exf : ∀ b ∈ X.ex, b ≠ X.env.locals ∧ ∀ x c, X.env.cells.lookup x = some c → c ≠ b
  bs : ∀ b o, X.base.get? b = some o → X.s₀.heap.get? b = some o ∧ X.H₀ b = none
  bsz : X.base.objs.size ≤ X.s₀.heap.objs.size
  noex : ∀ b o, X.base.get? b = some o → b ∉ X.ex
  exfs : ∀ b ∈ X.ex, b ∉ X.fs
  funs : X.s₀.heap.FunFrames X.base X.outer
  frf : ∀ b ∈ X.fs, X.H₀ b = none
structure Inv (X : Cx) (pins : List (Addr × Obj)) (σ : List (Option V)) (H : Hp) (s : Shared) : Prop where
  ok : X.Ok
  os : s.os = X.s₀.os
  bare : AllBare s.gens
  base : Un X.fs X.ex X.H₀ H X.s₀.heap s.heap
  loc : ∃ m, s.heap.Ns X.env.locals m ∧ ∀ (i : Nat) (x : Str) (v : V), X.N[i]? = some x → σ[i]? = some (some v) → Vis X.env.scope x → ∃ u, RelV v u ∧ Look X.env s.heap m x u
  cell : ∀ x c, X.env.cells.lookup x = some c → ∃ v, s.heap.IsCell c v
  free : H X.env.locals = none
  freeC : ∀ x c, X.env.cells.lookup x = some c → (X.fn x = true → H c = none) ∧ (H c = none ∨ ∃ o u, H c = some (.frz o u))
  pin : ∀ p ∈ X.pn ++ pins, s.heap.get? p.1 = some p.2 ∧ H p.1 = none ∧ p.1 ≠ X.env.locals ∧ p.1 ∉ X.fs ∧ ∀ v, p.2.data ≠ .cell v
  hok : HOk X.prog X.w H s.heap
  len : σ.length = X.N.length
section
variable {X : Cx} {pins : List (Addr × Obj)} {σ : List (Option V)} {H H' : Hp} {s : Shared} {h' : Heap}
theorem Cx.Ok.nofr (ok : X.Ok) {b : Addr} {o : Obj} (e : X.base.get? b = some o) : b ∉ X.fs := fun hb => by
  have := (ok.funs.mem hb).1
  rw [e] at this; cases this
theorem Inv.bs (I : Inv X pins σ H s) : ∀ b o, X.base.get? b = some o → s.heap.get? b = some o ∧ H b = none := fun b o e =>
  ⟨I.base.keep b o (I.ok.bs b o e).1 (I.ok.bs b o e).2 (I.ok.nofr e) (I.ok.noex b o e), I.base.free b o (I.ok.bs b o e).1 (I.ok.bs b o e).2 (I.ok.noex b o e)⟩
theorem Inv.bk (I : Inv X pins σ H s) : ∀ b o, X.base.get? b = some o → s.heap.get? b = some o := fun b o e => (I.bs b o e).1
theorem Inv.mod (I : Inv X pins σ H s) : Mod X.K X.mg X.base := I.ok.mod
theorem Inv.kIn (I : Inv X pins σ H s) : X.K.In s.heap := I.ok.mod.kin.keeps I.bk
theorem Inv.nolimit (I : Inv X pins σ H s) : s.heap.NoLimit := I.ok.mod.nolimit.keeps I.bk
theorem Inv.fr (I : Inv X pins σ H s) : ∃ m, Fr X.base X.env.locals s.heap m :=
  let ⟨m, hn, _⟩ := I.loc
  ⟨m, hn, I.bk, Nat.le_trans I.ok.bsz I.ok.above⟩
theorem Inv.lt (I : Inv X pins σ H s) : X.env.locals < s.heap.objs.size := let ⟨_, hn, _⟩ := I.loc; hn.lt
theorem Inv.sz (I : Inv X pins σ H s) : X.s₀.heap.objs.size ≤ s.heap.objs.size := Nat.le_trans I.ok.above (Nat.le_of_lt I.lt)
theorem Inv.nofs (I : Inv X pins σ H s) {a : Addr} (h : s.heap.objs.size ≤ a) : a ∉ X.fs := fun hb => by
  obtain ⟨_, o, ho, _⟩ := I.ok.funs.mem hb
  exact absurd (Nat.lt_of_lt_of_le (Heap.lt_size ho) (Nat.le_trans I.sz h)) (Nat.lt_irrefl _)
theorem Inv.cne (I : Inv X pins σ H s) : ∀ x c, X.env.cells.lookup x = some c → c ≠ X.env.locals := fun x c e z => by
  obtain ⟨v, o, ho, hd⟩ := I.cell x c e
  obtain ⟨m, ⟨o', es, ep, ho', hd', _⟩, _⟩ := I.loc
  rw [z, ho'] at ho; cases ho; rw [hd'] at hd; cases hd
theorem Inv.funs (I : Inv X pins σ H s) : s.heap.FunFrames X.base X.outer := by
  have all : ∀ (l : List Env), (∀ b ∈ frs l, b ∈ X.fs) → X.s₀.heap.FunFrames X.base l → s.heap.FunFrames X.base l := by
    intro l
    induction l with
    | nil => intro _ _; trivial
    | cons env r ih =>
      intro hs hl
      obtain ⟨hk, ⟨L, o, hf, hn, ho, hd⟩, hr⟩ := hl
      have hL : L ∈ X.fs := hs L (by unfold frs; rw [List.filterMap_cons, hf]; exact List.mem_cons_self)
      obtain ⟨sl, e⟩ := I.base.slot L o ho (I.ok.frf L hL) hL fun z => I.ok.exfs L z hL
      exact ⟨hk, ⟨L, _, hf, hn, e, hd⟩, ih (fun b hb => hs b (by unfold frs; rw [List.filterMap_cons, hf]; exact List.mem_cons_of_mem _ hb)) hr⟩
  exact all X.outer (fun _ hb => hb) I.ok.funs
theorem Inv.stack (I : Inv X pins σ H s) : s.heap.FunFrames X.base X.stack := by
  rcases I.ok.stk with e | ⟨e, hf⟩
  · rw [e]; exact I.funs
  · rw [e]
    obtain ⟨m, hn, _⟩ := I.loc
    refine .cons (by rw [I.ok.kind]; decide) hf hn ?_ I.funs
    exact Heap.get?_none_of_le (Nat.le_trans I.ok.bsz I.ok.above)
theorem Inv.stkSub (I : Inv X pins σ H s) : ∀ b ∈ frs X.stack, b ∈ X.env.locals :: X.fs := fun b hb => by
  rcases I.ok.stk with e | ⟨e, hf⟩
  · rw [e] at hb; exact List.mem_cons_of_mem _ hb
  · rw [e] at hb
    unfold frs at hb
    rw [List.filterMap_cons, hf] at hb
    exact hb
theorem Inv.stkFree (I : Inv X pins σ H s) : ∀ b ∈ frs X.stack, H b = none := fun b hb => by
  rcases List.mem_cons.mp (I.stkSub b hb) with e | hb
  · rw [e]; exact I.free
  · obtain ⟨_, o, ho, _⟩ := I.ok.funs.mem hb
    exact I.base.free b o ho (I.ok.frf b hb) fun z => I.ok.exfs b z hb
theorem Inv.step {g' : Array GenState} {t' : Nat} {d' : Drawn} {ch : List Addr} (I : Inv X pins σ H s)
    (hch : ∀ b ∈ ch, (b ∈ X.ex ∨ X.s₀.heap.objs.size ≤ b) ∧ b ≠ X.env.locals ∧ (∀ x c, X.env.cells.lookup x = some c → c ≠ b) ∧ ∀ p ∈ X.pn ++ pins, p.1 ≠ b)
    (keep : ∀ b o, b ≠ X.env.locals → b ∉ X.fs → b ∉ ch → s.heap.get? b = some o → H b = none → h'.get? b = some o)
    (slot : ∀ b o, b ≠ X.env.locals → b ∈ X.fs → b ∉ ch → s.heap.get? b = some o → H b = none → ∃ sl, h'.get? b = some { o with slots := sl }) (free : ∀ b o, b ∉ ch → s.heap.get? b = some o → H b = none → H' b = none)
    (there : ∀ b o, b ∉ ch → s.heap.get? b = some o → ∃ o', h'.get? b = some o')
    (tups : ∀ b xs, H b = some (.tup xs) → H' b = some (.tup xs)) (frzs : ∀ b o u, H b = some (.frz o u) → H' b = some (.frz o u)) (tbls : ∀ b ps, H b = some (.tbl ps) → ∃ more, H' b = some (.tbl (ps ++ more)))
    (ns : ∀ m, s.heap.Ns X.env.locals m → h'.Ns X.env.locals m) (hok : HOk X.prog X.w H' h') (hg : AllBare g') :
    Inv X pins σ H' { s with heap := h', gens := g', drawn := d', toks := t' } := by
  have neL : ∀ b o, X.s₀.heap.get? b = some o → b ≠ X.env.locals := fun b o e => Nat.ne_of_lt (Nat.lt_of_lt_of_le (Heap.lt_size e) I.ok.above)
  have neC : ∀ b o, X.s₀.heap.get? b = some o → b ∉ X.ex → b ∉ ch := fun b o e hx hb => by
    rcases (hch b hb).1 with z | z
    · exact hx z
    · exact absurd (Nat.lt_of_lt_of_le (Heap.lt_size e) z) (Nat.lt_irrefl _)
  have cellK : ∀ x c, X.env.cells.lookup x = some c → ∀ v, s.heap.IsCell c v → h'.IsCell c v := fun x c e v ⟨o, ho, hd⟩ => by
    have nch : c ∉ ch := fun z => (hch c z).2.2.1 x c e rfl
    rcases (I.freeC x c e).2 with fr | ⟨oz, uz, fz⟩
    · by_cases hc : c ∈ X.fs
      · obtain ⟨sl, q⟩ := slot c o (I.cne x c e) hc nch ho fr
        exact ⟨_, q, hd⟩
      · exact ⟨o, keep c o (I.cne x c e) hc nch ho fr, hd⟩
    · obtain ⟨z1, _⟩ := I.hok c _ fz
      obtain ⟨z2, _⟩ := hok c _ (frzs c oz uz fz)
      rw [ho] at z1
      cases z1
      exact ⟨o, z2, hd⟩
  refine ⟨I.ok, I.os, hg, ⟨fun b o e n hb hx => ?_, fun b o e n hb hx => ?_, fun b o e n hx => ?_, fun b o e hx => ?_, fun b xs e => tups b xs (I.base.tups b xs e), fun b o xs e => frzs b o xs (I.base.frzs b o xs e), fun b ps e => ?_⟩, ?_, fun x c e => ?_, ?_, fun x c e => ?_, fun p hp => ?_, hok, I.len⟩
  · exact keep b o (neL b o e) hb (neC b o e hx) (I.base.keep b o e n hb hx) (I.base.free b o e n hx)
  · obtain ⟨sl, e1⟩ := I.base.slot b o e n hb hx
    obtain ⟨sl', e2⟩ := slot b _ (neL b o e) hb (neC b o e hx) e1 (I.base.free b o e n hx)
    exact ⟨sl', e2⟩
  · obtain ⟨o', e1⟩ := I.base.there b o e hx
    exact free b o' (neC b o e hx) e1 (I.base.free b o e n hx)
  · obtain ⟨o', e1⟩ := I.base.there b o e hx
    exact there b o' (neC b o e hx) e1
  · obtain ⟨m1, e1⟩ := I.base.tbls b ps e
    obtain ⟨m2, e2⟩ := tbls b _ e1
    exact ⟨m1 ++ m2, by rw [e2, Array.append_assoc]⟩
  · obtain ⟨m, hn, hl⟩ := I.loc
    refine ⟨m, ns m hn, fun i x v e1 e2 e3 => ?_⟩
    obtain ⟨u, r, l⟩ := hl i x v e1 e2 e3
    refine ⟨u, r, ?_⟩
    rcases l with l | ⟨k, c, e, z⟩
    · exact .inl l
    · exact .inr ⟨k, c, e, cellK x c e _ z⟩
  · obtain ⟨v, z⟩ := I.cell x c e
    exact ⟨v, cellK x c e v z⟩
  · obtain ⟨m, ⟨o, _, _, ho, _⟩, _⟩ := I.loc
    exact free _ o (fun z => (hch _ z).2.1 rfl) ho I.free
  · obtain ⟨v, o, ho, hd⟩ := I.cell x c e
    refine ⟨fun q => free c o (fun z => (hch c z).2.2.1 x c e rfl) ho ((I.freeC x c e).1 q), ?_⟩
    rcases (I.freeC x c e).2 with fr | ⟨oz, uz, fz⟩
    · exact .inl (free c o (fun z => (hch c z).2.2.1 x c e rfl) ho fr)
    · exact .inr ⟨oz, uz, frzs c oz uz fz⟩
  · obtain ⟨e, n, ne, nf, d⟩ := I.pin p hp
    have nch : p.1 ∉ ch := fun z => (hch p.1 z).2.2.2 p hp rfl
    exact ⟨keep p.1 p.2 ne nf nch e n, free p.1 p.2 nch e n, ne, nf, d⟩
theorem Inv.un {t' : Nat} (I : Inv X pins σ H s) (u : Un X.fs [] H H' s.heap h') (hok : HOk X.prog X.w H' h') : Inv X pins σ H' { s with heap := h', toks := t' } := by
  obtain ⟨m, ⟨o, es, ep, ho, r⟩, _⟩ := id I.loc
  obtain ⟨sl, hL⟩ := u.any ho I.free (by simp)
  exact I.step (g' := s.gens) (d' := s.drawn) (ch := []) (fun _ z => nomatch z) (fun b o _ hb _ e n => u.keep b o e n hb (by simp)) (fun b o _ hb _ e n => u.slot b o e n hb (by simp)) (fun b o _ e n => u.free b o e n (by simp)) (fun b o _ e => u.there b o e (by simp)) u.tups u.frzs u.tbls (fun m' hm => by
    obtain ⟨o', es', ep', ho', r'⟩ := hm
    rw [ho] at ho'; cases ho'
    exact ⟨_, es', ep', hL, r'⟩) hok I.bare
theorem Inv.call {g' : Array GenState} {t' : Nat} {d' : Drawn} {ch : List Addr} (I : Inv X pins σ H s) (u : Un (frs X.stack) ch H H' s.heap h') (hok : HOk X.prog X.w H' h') (hg : AllBare g')
    (hch : ∀ b ∈ ch, (b ∈ X.ex ∨ X.s₀.heap.objs.size ≤ b) ∧ b ≠ X.env.locals ∧ (∀ x c, X.env.cells.lookup x = some c → c ≠ b) ∧ ∀ p ∈ X.pn ++ pins, p.1 ≠ b) :
    Inv X pins σ H' { s with heap := h', gens := g', drawn := d', toks := t' } := by
  obtain ⟨m, ⟨o, es, ep, ho, r⟩, _⟩ := id I.loc
  obtain ⟨sl, hL⟩ := u.any ho I.free fun z => (hch _ z).2.1 rfl
  exact I.step (ch := ch) hch (fun b o hL hb hc e n => u.keep b o e n (fun z => (List.mem_cons.mp (I.stkSub b z)).elim hL hb) hc) (fun b o _ _ hc e n => u.any e n hc) (fun b o hc e n => u.free b o e n hc) (fun b o hc e => u.there b o e hc) u.tups u.frzs u.tbls (fun m' hm => by
    obtain ⟨o', es', ep', ho', r'⟩ := hm
    rw [ho] at ho'; cases ho'
    exact ⟨_, es', ep', hL, r'⟩) hok hg
theorem Inv.turned {t' : Nat} {it : Addr} (I : Inv X pins σ H s) (k : ∀ b o, b ≠ it → s.heap.get? b = some o → h'.get? b = some o) (hn : H it = none) (hL : it ≠ X.env.locals)
    (h1 : it ∈ X.ex ∨ X.s₀.heap.objs.size ≤ it) (h2 : ∀ x c, X.env.cells.lookup x = some c → c ≠ it) (h3 : ∀ p ∈ X.pn ++ pins, p.1 ≠ it) : Inv X pins σ H { s with heap := h', toks := t' } := by
  have nit : ∀ b u, H b = some u → b ≠ it := fun b u e z => by rw [z, hn] at e; cases e
  refine I.step (g' := s.gens) (d' := s.drawn) (ch := [it]) (fun b hb => ?_) (fun b o _ _ hc e _ => k b o (fun z => hc (by simp [z])) e) (fun b o _ _ hc e _ => ⟨o.slots, k b o (fun z => hc (by simp [z])) e⟩) (fun _ _ _ _ n => n)
    (fun b o hc e => ⟨o, k b o (fun z => hc (by simp [z])) e⟩) (fun _ _ e => e) (fun _ _ _ e => e) (fun b ps e => ⟨#[], by rw [e]; simp⟩) (fun m hm => ?_) (fun b u e => ?_) I.bare
  · have e : b = it := by simpa using hb
    subst e
    exact ⟨h1, hL, h2, h3⟩
  · obtain ⟨o, es, ep, ho, r⟩ := hm
    exact ⟨o, es, ep, k _ o (Ne.symm hL) ho, r⟩
  · refine (I.hok b u e).stay (fun c v hc q => k c v ?_ q) (fun _ q => q) fun _ _ q => q
    rcases hc with z | z
    · rw [z]; exact nit b u e
    · exact nit c _ z
theorem Inv.tok (I : Inv X pins σ H s) (t : Nat) : Inv X pins σ H { s with toks := t } := I.un (h' := s.heap) (t' := t) Un.refl I.hok
theorem Inv.kept {t' : Nat} (I : Inv X pins σ H s) (k : ∀ b u, s.heap.get? b = some u → h'.get? b = some u) : Inv X pins σ H { s with heap := h', toks := t' } := I.un (Un.kept k) (I.hok.kept k)
theorem Inv.laid {a : Addr} {o : HO} {t' : Nat} (I : Inv X pins σ H s) (k : ∀ b u, s.heap.get? b = some u → h'.get? b = some u) (hp : s.heap.objs.size ≤ a) (new : ObjOk X.prog X.w (upd H a o) h' a o) :
    Inv X pins σ (upd H a o) { s with heap := h', toks := t' } := I.un (Un.laid k hp (I.hok.fresh hp)) (I.hok.laid k hp new)
theorem Inv.write {x e : Addr} {o : HO} {t' : Nat} (I : Inv X pins σ H s) (mu : Mut (H x)) (he : e = x ∨ H e = some (.own x)) (k : ∀ b u, b ≠ e → s.heap.get? b = some u → h'.get? b = some u) (heo : ∃ u, h'.get? e = some u)
    (new : ObjOk X.prog X.w (upd H x o) h' x o) : Inv X pins σ (upd H x o) { s with heap := h', toks := t' } := I.un (Un.write mu he k heo) (I.hok.write mu he k heo new)
theorem Inv.pins_of {pins' : List (Addr × Obj)} (I : Inv X pins σ H s) (h : ∀ p ∈ pins', s.heap.get? p.1 = some p.2 ∧ H p.1 = none ∧ p.1 ≠ X.env.locals ∧ p.1 ∉ X.fs ∧ ∀ v, p.2.data ≠ .cell v) : Inv X pins' σ H s :=
  ⟨I.ok, I.os, I.bare, I.base, I.loc, I.cell, I.free, I.freeC, fun p hp => (List.mem_append.mp hp).elim (fun z => I.pin p (List.mem_append_left _ z)) (h p), I.hok, I.len⟩
theorem nodup_ix {N : List Str} (hN : N.Nodup) {i j : Nat} {x : Str} (a : N[i]? = some x) (b : N[j]? = some x) : i = j := by
  obtain ⟨h1, e1⟩ := List.getElem?_eq_some_iff.mp a
  obtain ⟨h2, e2⟩ := List.getElem?_eq_some_iff.mp b
  exact (List.getElem_inj hN).mp (e1.trans e2.symm)
theorem store_ok2 {M : Model} {A : Around} {E : Value → Shared → Prop} {i : Nat} {x : Str} {v : V} {u : Value} {Q : Unit → Shared → Prop} (I : Inv X pins σ H s) (hN : X.N.Nodup) (hi : X.N[i]? = some x) (hx : Loc X.env.scope x) (r : RelV v u)
    (h : ∀ s', Inv X pins (σ.set i (some v)) H s' → (∃ a, Heap.SameBut a s.heap s'.heap ∧ (a = X.env.locals ∨ X.env.cells.lookup x = some a)) → Q () s') (hf : X.fn x = true ∨ X.env.scope.names.lookup x = some .local := by first | exact .inl rfl | exact .inr rfl | assumption) : wpAny M A (storeName X.env x u) Q E s := by
  obtain ⟨m, hn, hl⟩ := id I.loc
  have hcls : (X.env.scope.kind == .class || (X.env.scope.kind == .module && X.env.locals != X.env.globals)) = false := by rw [I.ok.kind]; rfl
  have hiσ : i < σ.length := by rw [I.len]; exact (List.getElem?_eq_some_iff.mp hi).1
  have cne := I.cne
  have tracked : ∀ {a : Addr} {h' : Heap}, (∃ o, s.heap.get? a = some o ∧ H a = none) → Heap.SameBut a s.heap h' → HOk X.prog X.w H h' := fun {a h'} ha hs b ob e => by
    obtain ⟨_, _, hfree⟩ := ha
    refine (I.hok b ob e).stay (fun c w' hc q => (hs.2 c ?_).trans q) (fun _ q => q) fun _ _ q => q
    rintro rfl
    rcases hc with rfl | hc
    · rw [hfree] at e; cases e
    · rw [hfree] at hc; cases hc
  rcases hx with hk | hk
  · refine wpAny_storeName_local hk hn (fun h' hn' hs => ?_) hcls
    obtain ⟨oL, _, _, hoL, _⟩ := id hn
    refine h _ ⟨I.ok, I.os, I.bare, ⟨fun b o e n hb hx => ?_, fun b o e n hb hx => ?_, I.base.free, fun b o e hx => ?_, I.base.tups, I.base.frzs, I.base.tbls⟩, ⟨_, hn', fun j y v' e1 e2 e3 => ?_⟩, fun y c e => ?_, I.free, I.freeC, fun p hp => ?_, tracked ⟨oL, hoL, I.free⟩ hs, by simpa using I.len⟩ ⟨_, hs, .inl rfl⟩
    · exact (hs.2 b (Nat.ne_of_lt (Nat.lt_of_lt_of_le (Heap.lt_size e) I.ok.above))).trans (I.base.keep b o e n hb hx)
    · obtain ⟨sl, e1⟩ := I.base.slot b o e n hb hx
      exact ⟨sl, (hs.2 b (Nat.ne_of_lt (Nat.lt_of_lt_of_le (Heap.lt_size e) I.ok.above))).trans e1⟩
    · obtain ⟨o', e1⟩ := I.base.there b o e hx
      exact ⟨o', (hs.2 b (Nat.ne_of_lt (Nat.lt_of_lt_of_le (Heap.lt_size e) I.ok.above))).trans e1⟩
    · by_cases hj : j = i
      · subst hj
        rw [hi] at e1; cases e1
        rw [List.getElem?_set_self hiσ] at e2
        cases e2
        exact ⟨u, r, .inl ⟨hk, by simp⟩⟩
      · rw [List.getElem?_set_ne (Ne.symm hj)] at e2
        obtain ⟨u', r', q⟩ := hl j y v' e1 e2 e3
        refine ⟨u', r', ?_⟩
        rcases q with ⟨k, e⟩ | ⟨k, c, e, z⟩
        · refine .inl ⟨k, ?_⟩
          have : y ≠ x := fun e => hj (nodup_ix hN e1 (e ▸ hi))
          simp [this, e]
        · exact .inr ⟨k, c, e, z.sameBut hs (cne y c e)⟩
    · obtain ⟨w', z⟩ := I.cell y c e
      exact ⟨w', z.sameBut hs (cne y c e)⟩
    · obtain ⟨e, n, ne, nf, d⟩ := I.pin p hp
      exact ⟨(hs.2 p.1 ne).trans e, n, ne, nf, d⟩
  · have hfn : X.fn x = true := by
      rcases hf with z | z
      · exact z
      · rw [z] at hk; cases hk
    obtain ⟨c, hc⟩ := I.ok.has x (.inl hk)
    obtain ⟨w', z⟩ := I.cell x c hc
    refine wpAny_storeName_cell I.ok.kind hk hc z (fun h' hc' hs => ?_)
    obtain ⟨oc, hoc, hocd⟩ := id z
    refine h { s with heap := h' } ⟨I.ok, I.os, I.bare, ⟨fun b o e n hb hx => ?_, fun b o e n hb hx => ?_, I.base.free, fun b o e hx => ?_, I.base.tups, I.base.frzs, I.base.tbls⟩, ⟨m, hn.sameBut hs (Ne.symm (cne x c hc)), fun j y v' e1 e2 e3 => ?_⟩, fun y c' e => ?_, I.free, I.freeC, fun p hp => ?_, tracked ⟨oc, hoc, (I.freeC x c hc).1 hfn⟩ hs, by simpa using I.len⟩ ⟨c, hs, .inr hc⟩
    · exact (hs.2 b (Nat.ne_of_lt (Nat.lt_of_lt_of_le (Heap.lt_size e) (I.ok.cab x c hfn hc)))).trans (I.base.keep b o e n hb hx)
    · obtain ⟨sl, e1⟩ := I.base.slot b o e n hb hx
      exact ⟨sl, (hs.2 b (Nat.ne_of_lt (Nat.lt_of_lt_of_le (Heap.lt_size e) (I.ok.cab x c hfn hc)))).trans e1⟩
    · obtain ⟨o', e1⟩ := I.base.there b o e hx
      exact ⟨o', (hs.2 b (Nat.ne_of_lt (Nat.lt_of_lt_of_le (Heap.lt_size e) (I.ok.cab x c hfn hc)))).trans e1⟩
    · by_cases hj : j = i
      · subst hj
        rw [hi] at e1; cases e1
        rw [List.getElem?_set_self hiσ] at e2
        cases e2
        exact ⟨u, r, .inr ⟨.inl hk, c, hc, hc'⟩⟩
      · rw [List.getElem?_set_ne (Ne.symm hj)] at e2
        obtain ⟨u', r', q⟩ := hl j y v' e1 e2 e3
        refine ⟨u', r', ?_⟩
        rcases q with q | ⟨k, c', e, z'⟩
        · exact .inl q
        · refine .inr ⟨k, c', e, z'.sameBut hs ?_⟩
          rintro rfl
          exact hj (nodup_ix hN e1 (I.ok.inj _ _ _ e hc ▸ hi))
    · by_cases hcc : c' = c
      · subst hcc; exact ⟨_, hc'⟩
      · obtain ⟨w2, z2⟩ := I.cell y c' e
        exact ⟨w2, z2.sameBut hs hcc⟩
    · obtain ⟨e, n, ne, nf, d⟩ := I.pin p hp
      refine ⟨(hs.2 p.1 ?_).trans e, n, ne, nf, d⟩
      intro q
      rw [q, hoc] at e
      have q' : oc = p.2 := Option.some.inj e
      exact d w' (by rw [← q']; exact hocd)
theorem store_ok {M : Model} {A : Around} {E : Value → Shared → Prop} {i : Nat} {x : Str} {v : V} {u : Value} {Q : Unit → Shared → Prop} (I : Inv X pins σ H s) (hN : X.N.Nodup) (hi : X.N[i]? = some x) (hx : Loc X.env.scope x) (r : RelV v u)
    (h : ∀ s', Inv X pins (σ.set i (some v)) H s' → Q () s') (hf : X.fn x = true ∨ X.env.scope.names.lookup x = some .local := by first | exact .inl rfl | exact .inr rfl | assumption) : wpAny M A (storeName X.env x u) Q E s :=
  store_ok2 I hN hi hx r (fun s' I' _ => h s' I') hf
theorem Inv.call' {s' : Shared} {ch : List Addr} (I : Inv X pins σ H s) (ho : s'.os = s.os) (u : Un (frs X.stack) ch H H' s.heap s'.heap) (hok : HOk X.prog X.w H' s'.heap) (hg : AllBare s'.gens)
    (hch : ∀ b ∈ ch, (b ∈ X.ex ∨ X.s₀.heap.objs.size ≤ b) ∧ b ≠ X.env.locals ∧ (∀ x c, X.env.cells.lookup x = some c → c ≠ b) ∧ ∀ p ∈ X.pn ++ pins, p.1 ≠ b) : Inv X pins σ H' s' := by
  obtain ⟨h', g', d', t', o'⟩ := s'
  have e : o' = s.os := ho
  subst e
  exact I.call (g' := g') (t' := t') (d' := d') u hok hg hch
end
abbrev XK := Value → Option Addr → Hp → Prop
abbrev St := List (Option V)
abbrev VK := V → Hp → Prop
abbrev TE := St → Hp → VK → Prop
abbrev TT := St → Hp → (Bool → Hp → Prop) → Prop
abbrev TA := St → Hp → (List V → Hp → Prop) → Prop
structure Ends where
  nx : St → Hp → Prop
  rt : VK
  bk : St → Hp → Prop := fun _ _ => False
  ct : St → Hp → Prop := fun _ _ => False
abbrev TS := Ends → St → Hp → Prop
def EP (X : Cx) (pins : List (Addr × Obj)) (σ : St) (Q : VK) (u : Value) (s' : Shared) : Prop := ∃ v H', Inv X pins σ H' s' ∧ RelV v u ∧ Q v H'
def TP (X : Cx) (pins : List (Addr × Obj)) (σ : St) (Q : Bool → Hp → Prop) (b : Bool) (s' : Shared) : Prop := ∃ H', Inv X pins σ H' s' ∧ Q b H'
def AP (X : Cx) (pins : List (Addr × Obj)) (σ : St) (Q : List V → Hp → Prop) (us : List Value) (s' : Shared) : Prop := ∃ vs H', Inv X pins σ H' s' ∧ Vals vs us ∧ Q vs H'
def SP (X : Cx) (pins : List (Addr × Obj)) (D : Ends) (f : Flow) (s' : Shared) : Prop :=
  match f with
  | .next => ∃ σ' H', Inv X pins σ' H' s' ∧ D.nx σ' H'
  | .brk => ∃ σ' H', Inv X pins σ' H' s' ∧ D.bk σ' H'
  | .cont => ∃ σ' H', Inv X pins σ' H' s' ∧ D.ct σ' H'
  | .ret u => ∃ v σ' H', Inv X pins σ' H' s' ∧ RelV v u ∧ D.rt v H'
def PE (X : Cx) (e : Expr) (t : TE) : Prop :=
  ∀ (pins : List (Addr × Obj)) (s : Shared) (σ : St) (H : Hp) (Q : VK), Inv X pins σ H s → t σ H Q → wpAny (model X.prog X.w) X.A (eval e X.env) (EP X pins σ Q) X.xe s
def PT (X : Cx) (e : Expr) (t : TT) : Prop :=
  ∀ (pins : List (Addr × Obj)) (s : Shared) (σ : St) (H : Hp) (Q : Bool → Hp → Prop), Inv X pins σ H s → t σ H Q → wpAny (model X.prog X.w) X.A (isTrue e X.env (eval e X.env)) (TP X pins σ Q) X.xe s
def PW (X : Cx) (e : Expr) (t : TT) : Prop :=
  ∀ (whole : Sem Value) (pins : List (Addr × Obj)) (s : Shared) (σ : St) (H : Hp) (Q : Bool → Hp → Prop), Inv X pins σ H s → t σ H Q → wpAny (model X.prog X.w) X.A (isTrue e X.env whole) (TP X pins σ Q) X.xe s
theorem PW.pt {X : Cx} {e : Expr} {t : TT} (h : PW X e t) : PT X e t := h _
def PA (X : Cx) (es : List Expr) (t : TA) : Prop :=
  ∀ (pos : Pos) (pins : List (Addr × Obj)) (s : Shared) (σ : St) (H : Hp) (Q : List V → Hp → Prop), Inv X pins σ H s → t σ H Q → wpAny (model X.prog X.w) X.A (spliced (backTo pos (starEach es X.env))) (AP X pins σ Q) X.xe s
def PS (X : Cx) (st : Stmt) (t : TS) : Prop :=
  ∀ (pins : List (Addr × Obj)) (s : Shared) (σ : St) (H : Hp) (D : Ends), Inv X pins σ H s → t D σ H → wpAny (model X.prog X.w) X.A (exec st X.env) (SP X pins D) X.xe s
def PSs (X : Cx) (st : List Stmt) (t : TS) : Prop :=
  ∀ (pins : List (Addr × Obj)) (s : Shared) (σ : St) (H : Hp) (D : Ends), Inv X pins σ H s → t D σ H → wpAny (model X.prog X.w) X.A (execs st X.env) (SP X pins D) X.xe s
theorem thn {α : Type} {t : Sem α} {Q Q' : α → Shared → Prop} {M : Model} {A : Around} {E : Value → Shared → Prop} {s : Shared} (h : wpAny M A t Q E s) (hQ : ∀ a s, Q a s → Q' a s) : wpAny M A t Q' E s := wpAny_mono h hQ fun _ _ x => x
end L2
namespace L2
open PySem PySem.Spec PyProof.Rows
section
variable {X : Cx}
def tVar (i : Nat) : TE := fun σ H Q => ∃ v, σ[i]? = some (some v) ∧ Q v H
def tC (v : V) : TE := fun _ H Q => Q v H
theorem pe_var {i : Nat} {x : Str} {pos : Pos} (hN : X.N[i]? = some x) (hv : Vis X.env.scope x) (hd : (x == ("__debug__" : Str)) = false := by decide) (hcd : (x == ("__classdict__" : Str)) = false := by decide) : PE X (.Name x pos) (tVar i) := by
  intro pins s σ H Q I h
  obtain ⟨v, e, h⟩ := h
  obtain ⟨m, hn, hl⟩ := I.loc
  obtain ⟨u, r, l⟩ := hl i x v hN e hv
  have fin : EP X pins σ Q u s := ⟨v, H, I, r, h⟩
  rcases l with ⟨hk, hm⟩ | ⟨hk, c, hc, hcell⟩
  · exact wpAny_Name (wpAny_loadName_local I.ok.kind hk hn hm fin) hd
  · rcases hk with hk | hk
    · exact wpAny_Name (wpAny_loadName_cell I.ok.kind hk hc hcell fin) hd
    · exact wpAny_Name (wpAny_loadName_free I.ok.kind hk hc hcell fin hcd) hd
theorem pe_int {i j pos} : PE X (.Constant (.int i) j pos) (tC (.int i)) := fun _ _ _ H _ I h => wpAny_Constant_int ⟨.int i, H, I.tok _, ⟨_, rfl⟩, h⟩
theorem pe_bl {b j pos} : PE X (.Constant (.bool b) j pos) (tC (.bl b)) := fun _ _ _ H _ I h => Constant_bool ⟨.bl b, H, I, rfl, h⟩
theorem pe_non {j pos} : PE X (.Constant .none j pos) (tC .non) := fun _ _ _ H _ I h => Constant_none ⟨.non, H, I, rfl, h⟩
def Gl (X : Cx) (x : Str) : Prop := X.env.kindOf x = some .globalImplicit
theorem ld_glob {E : Value → Shared → Prop} {pins : List (Addr × Obj)} {s : Shared} {σ : St} {H : Hp} {x : Str} {u : Value} {pos : Pos} {Q : Value → Shared → Prop} (I : Inv X pins σ H s) (hg : Gl X x) (hm : X.mg x = some u) (h : Q u s)
    (hd : (x == ("__debug__" : Str)) = false := by decide) : wpAny (model X.prog X.w) X.A (eval (.Name x pos) X.env) Q E s :=
  Calls.Name_function_global I.ok.kind hg (Calls.loadGlobal_global (by rw [I.ok.glob]; exact I.mod.glob.keeps I.bk) hm h) hd
theorem ld_blt {E : Value → Shared → Prop} {pins : List (Addr × Obj)} {s : Shared} {σ : St} {H : Hp} {x : Str} {u : Value} {pos : Pos} {Q : Value → Shared → Prop} (I : Inv X pins σ H s) (hg : Gl X x) (hm : X.mg x = none) (hv : bootBuiltins x = some u) (h : Q u s)
    (hn : x ≠ "__name__" := by decide) (hd : (x == ("__debug__" : Str)) = false := by decide) : wpAny (model X.prog X.w) X.A (eval (.Name x pos) X.env) Q E s := by
  obtain ⟨mb, h1, h2⟩ := I.mod.blt
  exact Calls.Name_function_global I.ok.kind hg (Calls.loadGlobal_builtin (by rw [I.ok.glob]; exact I.mod.glob.keeps I.bk) hm (by rw [I.ok.blt]; exact h1.keeps I.bk) ((h2 x hn).trans hv) h) hd
variable {a b : Expr} {ta tb : TE} {pos : Pos}
def tB (t : TE) : TT := fun σ H Q => t σ H fun x H1 => ∃ c, x = .bl c ∧ Q c H1
theorem pt_val {e : Expr} {t : TE} (h : PE X e t) (he : ∀ whole, isTrue e X.env whole = (do let v ← whole; standAt e.pos; holding [v] (truthy v)) := by intro _; rfl) : PT X e (tB t) := by
  intro pins s σ H Q I hw
  refine isTrue_plain (thn (h pins s σ H _ I hw) fun v s1 ⟨x, H1, I1, r1, q1⟩ => ?_) (he _)
  obtain ⟨d, rfl, q⟩ := q1
  cases r1
  exact wpAny_truthy_bool ⟨H1, I1, q⟩
variable {tA tB' : TT} {rest : List Expr}
def tOr (t u : TT) : TT := fun σ H Q => t σ H fun c H1 => if c = true then Q true H1 else u σ H1 Q
def tNot (t : TT) : TT := fun σ H Q => t σ H fun c H1 => Q (!c) H1
theorem pw_or1 (ha : PT X a tA) : PW X (.BoolOp .Or [a] pos) tA := by
  intro wh pins s σ H Q I h
  refine isTrue_or (thn (ha pins s σ H Q I h) fun c s1 e => ?_)
  cases c with
  | false => exact isTrue_or_nil e
  | true => exact e
theorem pw_or (ha : PT X a tA) (hb : PW X (.BoolOp .Or (b :: rest) pos) tB') : PW X (.BoolOp .Or (a :: b :: rest) pos) (tOr tA tB') := by
  intro wh pins s σ H Q I h
  refine isTrue_or (thn (ha pins s σ H _ I h) fun c s1 ⟨H1, I1, q1⟩ => ?_)
  cases c with
  | true => exact ⟨H1, I1, q1⟩
  | false => exact hb wh pins s1 σ H1 Q I1 q1
theorem pt_not (ha : PT X a tA) : PT X (.UnaryOp .Not a pos) (tNot tA) := by
  intro pins s σ H Q I h
  exact isTrue_not (ha pins s σ H (fun c H1 => Q (!c) H1) I h)
def tAndV (ta tb : TE) : TE := fun σ H Q => ta σ H fun x H1 => ∃ c, x = .bl c ∧ if c = true then tb σ H1 Q else Q (.bl false) H1
theorem pe_one {op} {t : TE} (h : PE X a t) : PE X (.BoolOp op [a] pos) t := fun pins s σ H Q I hw => BoolOp_one (h pins s σ H Q I hw)
theorem pe_and (ha : PE X a ta) (hb : PE X (.BoolOp .And (b :: rest) pos) tb) : PE X (.BoolOp .And (a :: b :: rest) pos) (tAndV ta tb) := by
  intro pins s σ H Q I h
  refine BoolOp_and (thn (ha pins s σ H _ I h) fun v s1 ⟨x, H1, I1, r1, q1⟩ => ?_)
  obtain ⟨c, rfl, q1⟩ := q1
  cases r1
  refine wpAny_truthy_bool ?_
  cases c with
  | true => exact hb pins s1 σ H1 Q I1 q1
  | false => exact ⟨.bl false, H1, I1, rfl, q1⟩
def tIf (t : TT) (ta tb : TE) : TE := fun σ H Q => t σ H fun c H1 => if c = true then ta σ H1 Q else tb σ H1 Q
theorem pe_ifExp {c : Expr} (hc : PT X c tA) (ha : PE X a ta) (hb : PE X b tb) : PE X (.IfExp c a b pos) (tIf tA ta tb) := by
  intro pins s σ H Q I h
  refine wpAny_IfExp (thn (hc pins s σ H _ I h) fun d s1 ⟨H1, I1, q1⟩ => ?_)
  cases d with
  | true => exact ha pins s1 σ H1 Q I1 q1
  | false => exact hb pins s1 σ H1 Q I1 q1
end
end L2
namespace L2
open PySem PySem.Spec PyProof.Rows
def SqL (K : PySem.W.Frag) (H : Hp) (a : Addr) (xs : List V) : Prop :=
  Rd H a (.lst xs) ∨
    ∃ (o : Obj) (its : Array Value) (n : Nat), K.lookup a = some o ∧ o.cls = .type "list" ∧ o.dict = none ∧ o.data = .seq its n ∧ its.size ≤ sizeLine ∧ Vals xs its.toList
def SqT (K : PySem.W.Frag) (H : Hp) (a : Addr) (xs : List V) : Prop :=
  Rd H a (.tup xs) ∨
    ∃ (o : Obj) (its : Array Value) (n : Nat), K.lookup a = some o ∧ o.cls = .type "tuple" ∧ o.data = .seq its n ∧ its.size ≤ sizeLine ∧ Vals xs its.toList
def absV : Value → Option V
  | .none => some .non
  | .bool b => some (.bl b)
  | .int i _ => some (.int i)
  | .str x _ => some (.str x)
  | .bytes b _ => some (.byt b)
  | .float b _ => some (.flt b)
  | .ref a => some (.ref a)
  | .type n => some (.ty n)
  | _ => none
theorem RelV.abs {x : V} {u : Value} (r : RelV x u) : absV u = some x := by
  cases x with
  | non => cases r; rfl
  | bl _ => cases r; rfl
  | int _ => obtain ⟨t, rfl⟩ := r; rfl
  | str _ => obtain ⟨t, rfl⟩ := r; rfl
  | byt _ => obtain ⟨t, rfl⟩ := r; rfl
  | flt _ => obtain ⟨t, rfl⟩ := r; rfl
  | ref _ => cases r; rfl
  | ty _ => cases r; rfl
theorem RelV.inj {x y : V} {u : Value} (r : RelV x u) (q : RelV y u) : x = y := Option.some.inj (r.abs.symm.trans q.abs)
theorem Vals.inj : ∀ {xs ys : List V} {us : List Value}, Vals xs us → Vals ys us → xs = ys
  | _, _, _, .nil, .nil => rfl
  | _, _, _, .cons r t, .cons r' t' => by rw [r.inj r', Vals.inj t t']
section
variable {X : Cx} {pins : List (Addr × Obj)} {σ : St} {H : Hp} {s : Shared} {a : Addr} {xs ys : List V}
theorem SqL.of {K : PySem.W.Frag} (h : H a = some (.lst xs)) : SqL K H a xs := .inl (.inl h)
theorem SqT.of {K : PySem.W.Frag} (h : H a = some (.tup xs)) : SqT K H a xs := .inl (.inl h)
theorem Inv.list (I : Inv X pins σ H s) (h : SqL X.K H a xs) : ∃ its : List Value, Vals xs its ∧ PlainL s.heap a its.toArray ∧ xs.length ≤ sizeLine := by
  rcases h with h | ⟨o, its, n, hk, hc, hd, hs, hz, r⟩
  · obtain ⟨z, its, n, r, e⟩ := h.ok I.hok
    exact ⟨its, r, ⟨_, n, e, rfl, rfl, rfl⟩, z⟩
  · refine ⟨its.toList, r, ⟨o, n, I.kIn a o hk, hc, hd, by simpa using hs⟩, ?_⟩
    have e := r.length
    simp only [Array.length_toList] at e
    omega
theorem Inv.tuple (I : Inv X pins σ H s) (h : SqT X.K H a xs) : ∃ its : List Value, Vals xs its ∧ IsTup s.heap a its.toArray ∧ xs.length ≤ sizeLine := by
  rcases h with h | ⟨o, its, n, hk, hc, hs, hz, r⟩
  · obtain ⟨z, its, r, p⟩ := h.ok I.hok
    exact ⟨its, r, p, z⟩
  · refine ⟨its.toList, r, ⟨o, I.kIn a o hk, hc, n, by simpa using hs⟩, ?_⟩
    have e := r.length
    simp only [Array.length_toList] at e
    omega
theorem Inv.list_inj (I : Inv X pins σ H s) (h : SqL X.K H a xs) (h' : SqL X.K H a ys) : xs = ys := by
  obtain ⟨its, r, ⟨o, n, e, _, _, d⟩, _⟩ := I.list h
  obtain ⟨its', r', ⟨o', n', e', _, _, d'⟩, _⟩ := I.list h'
  rw [e] at e'; cases e'
  rw [d] at d'
  injection d' with d1 _
  have : its = its' := by simpa using congrArg Array.toList d1
  subst this
  exact r.inj r'
end
abbrev Cx.wish (X : Cx) (E : Value → Shared → Prop) : Cx := { X with xe := E }
abbrev Cx.nox (X : Cx) : Cx := X.wish fun _ _ => False
theorem Cx.Ok.wish {X : Cx} (ok : X.Ok) (E : Value → Shared → Prop) : (X.wish E).Ok :=
  ⟨ok.mod, ok.kind, ok.glob, ok.blt, ok.above, ok.inj, ok.has, ok.cab, ok.hd, ok.frames, ok.stk, ok.exf, ok.bs, ok.bsz, ok.noex, ok.exfs, ok.funs, ok.frf⟩
theorem Cx.Ok.unwish {X : Cx} {E : Value → Shared → Prop} (ok : (X.wish E).Ok) : X.Ok :=
  ⟨ok.mod, ok.kind, ok.glob, ok.blt, ok.above, ok.inj, ok.has, ok.cab, ok.hd, ok.frames, ok.stk, ok.exf, ok.bs, ok.bsz, ok.noex, ok.exfs, ok.funs, ok.frf⟩
section
variable {X : Cx} {pins : List (Addr × Obj)} {σ : St} {H : Hp} {s : Shared} {E : Value → Shared → Prop}
theorem Inv.wish (I : Inv X pins σ H s) (E : Value → Shared → Prop) : Inv (X.wish E) pins σ H s := ⟨I.ok.wish E, I.os, I.bare, I.base, I.loc, I.cell, I.free, I.freeC, I.pin, I.hok, I.len⟩
theorem Inv.unwish (I : Inv (X.wish E) pins σ H s) : Inv X pins σ H s := ⟨I.ok.unwish, I.os, I.bare, I.base, I.loc, I.cell, I.free, I.freeC, I.pin, I.hok, I.len⟩
theorem SP.unwish {D : Ends} {f : Flow} {s' : Shared} (h : SP (X.wish E) pins D f s') : SP X pins D f s' := by
  cases f with
  | next => obtain ⟨σ', H', I, q⟩ := h; exact ⟨σ', H', I.unwish, q⟩
  | brk => obtain ⟨σ', H', I, q⟩ := h; exact ⟨σ', H', I.unwish, q⟩
  | cont => obtain ⟨σ', H', I, q⟩ := h; exact ⟨σ', H', I.unwish, q⟩
  | ret u => obtain ⟨v, σ', H', I, r, q⟩ := h; exact ⟨v, σ', H', I.unwish, r, q⟩
theorem PE.nox {e : Expr} {t : TE} (h : PE X.nox e t) : PE X e t := fun pins s σ H Q I hw =>
  wpAny_mono (h pins s σ H Q (I.wish _) hw) (fun _ _ ⟨v, H', I', r, q⟩ => ⟨v, H', I'.unwish, r, q⟩) fun _ _ z => False.elim z
theorem PT.nox {e : Expr} {t : TT} (h : PT X.nox e t) : PT X e t := fun pins s σ H Q I hw =>
  wpAny_mono (h pins s σ H Q (I.wish _) hw) (fun _ _ ⟨H', I', q⟩ => ⟨H', I'.unwish, q⟩) fun _ _ z => False.elim z
theorem PSs.nox {st : List Stmt} {t : TS} (h : PSs X.nox st t) : PSs X st t := fun pins s σ H D I hw =>
  wpAny_mono (h pins s σ H D (I.wish _) hw) (fun _ _ q => q.unwish) fun _ _ z => False.elim z
end
section
variable {X : Cx} {st : Stmt} {rest : List Stmt} {t u : TS} {e : Expr} {te : TE} {pos : Pos}
def tNext : TS := fun D σ H => D.nx σ H
def tSeq (t u : TS) : TS := fun D σ H => t { D with nx := u D } σ H
theorem pss_nil : PSs X [] tNext := fun _ _ σ H _ I h => wpAny_execs_nil ⟨σ, H, I, h⟩
theorem pss_cons (h1 : PS X st t) (h2 : PSs X rest u) : PSs X (st :: rest) (tSeq t u) := by
  intro pins s σ H D I h
  refine wpAny_execs_cons (thn (h1 pins s σ H { D with nx := u D } I h) fun f s1 q => ?_)
  cases f with
  | next =>
    obtain ⟨σ', H', I', q⟩ := q
    exact h2 pins s1 σ' H' D I' q
  | ret v => exact q
  | brk => exact q
  | cont => exact q
theorem pss_one (h1 : PS X st t) : PSs X [st] t := by
  intro pins s σ H D I h
  refine wpAny_execs_cons (thn (h1 pins s σ H D I h) fun f s1 q => ?_)
  cases f with
  | next => exact wpAny_execs_nil q
  | ret v => exact q
  | brk => exact q
  | cont => exact q
theorem Inv.quiet {pins : List (Addr × Obj)} {σ : St} {H : Hp} {s : Shared} (I : Inv X pins σ H s) : interactive X.env = false := by simp [interactive, I.ok.kind]
def tDrop (te : TE) : TS := fun D σ H => te σ H fun _ H1 => D.nx σ H1
theorem ps_expr (he : PE X e te) (hs : swapsWith e none pos.line X.env = pure false := by rfl) : PS X (.Expr e pos) (tDrop te) := by
  intro pins s σ H D I h
  exact wpAny_Expr_any (thn (he pins s σ H _ I h) fun v s1 ⟨x, H1, I1, r1, q1⟩ => ⟨σ, H1, I1, q1⟩) I.quiet hs
def tRet (te : TE) : TS := fun D σ H => te σ H D.rt
theorem ps_ret (he : PE X e te) : PS X (.Return (some e) pos) (tRet te) := by
  intro pins s σ H D I h
  exact wpAny_Return_some (thn (he pins s σ H _ I h) fun v s1 ⟨x, H1, I1, r1, q1⟩ => ⟨x, σ, H1, I1, r1, q1⟩)
def tRetN : TS := fun D _ H => D.rt .non H
theorem ps_retN : PS X (.Return none pos) tRetN := fun _ _ σ H _ I h => wpAny_Return_none ⟨.non, σ, H, I, rfl, h⟩
def tIfS (c : TT) (t u : TS) : TS := fun D σ H => c σ H fun b H1 => if b = true then t D σ H1 else u D σ H1
theorem ps_if {c : Expr} {a b : List Stmt} {tc : TT} (hc : PT X c tc) (ha : PSs X a t) (hb : PSs X b u) : PS X (.If c a b pos) (tIfS tc t u) := by
  intro pins s σ H D I h
  refine wpAny_If (thn (hc pins s σ H _ I h) fun d s1 ⟨H1, I1, q1⟩ => ?_)
  cases d with
  | true => exact ha pins s1 σ H1 D I1 q1
  | false => exact hb pins s1 σ H1 D I1 q1
end
abbrev TG := V → St → Hp → (St → Hp → Prop) → Prop
abbrev TGs := List V → St → Hp → (St → Hp → Prop) → Prop
def PG (X : Cx) (target : Expr) (t : TG) : Prop :=
  ∀ (pins : List (Addr × Obj)) (s : Shared) (σ : St) (H : Hp) (v : V) (u : Value) (Q : St → Hp → Prop), Inv X pins σ H s → RelV v u → t v σ H Q →
    wpAny (model X.prog X.w) X.A (assign target X.env u) (fun _ s' => ∃ σ' H', Inv X pins σ' H' s' ∧ Q σ' H') X.xe s
def PGs (X : Cx) (ts : List Expr) (t : TGs) : Prop :=
  ∀ (pins : List (Addr × Obj)) (s : Shared) (σ : St) (H : Hp) (vs : List V) (us : List Value) (Q : St → Hp → Prop), Inv X pins σ H s → Vals vs us → t vs σ H Q →
    wpAny (model X.prog X.w) X.A (assignInOrder ((assignEach ts X.env).map (·.2)) us) (fun _ s' => ∃ σ' H', Inv X pins σ' H' s' ∧ Q σ' H') X.xe s
section
variable {X : Cx} {pos : Pos}
def gName (i : Nat) : TG := fun v σ H Q => Q (σ.set i (some v)) H
theorem pg_name {i : Nat} {x : Str} (hN : X.N.Nodup) (hi : X.N[i]? = some x) (hx : Loc X.env.scope x) (hf : X.fn x = true ∨ X.env.scope.names.lookup x = some .local := by first | exact .inl rfl | exact .inr rfl | assumption) : PG X (.Name x pos) (gName i) := by
  intro pins s σ H v u Q I r h
  exact wpAny_assign_Name (store_ok I hN hi hx r (fun s' I' => ⟨_, H, I', h⟩) hf)
def gNil : TGs := fun vs σ H Q => vs = [] ∧ Q σ H
def gCons (t : TG) (u : TGs) : TGs := fun vs σ H Q => ∃ v r, vs = v :: r ∧ t v σ H fun σ' H' => u r σ' H' Q
theorem pgs_nil : PGs X [] gNil := by
  intro pins s σ H vs us Q I r h
  obtain ⟨e, h⟩ := h
  subst e
  cases r
  exact assignInOrder_nil ⟨σ, H, I, h⟩
theorem pgs_cons {e : Expr} {es : List Expr} {t : TG} {u : TGs} (h1 : PG X e t) (h2 : PGs X es u)
    (hs : (assignEach (e :: es) X.env).map (·.2) = assign e X.env :: (assignEach es X.env).map (·.2) := by rfl) : PGs X (e :: es) (gCons t u) := by
  intro pins s σ H vs us Q I r h
  obtain ⟨v, vr, e1, h⟩ := h
  subst e1
  cases r with
  | cons r rr =>
    rw [hs]
    refine assignInOrder_cons (thn (h1 pins s σ H _ _ _ I r h) fun _ s1 ⟨σ1, H1, I1, q1⟩ => ?_)
    exact h2 pins s1 σ1 H1 _ _ Q I1 rr q1
def gTup (K : PySem.W.Frag) (n : Nat) (t : TGs) : TG := fun v σ H Q => ∃ a xs, v = .ref a ∧ SqT K H a xs ∧ xs.length = n ∧ t xs σ H Q
theorem pg_tup {es : List Expr} {k : Nat} {t : TGs} {n : Nat} (hc : X.calm = true) (h : PGs X es t)
    (hn : (assignEach es X.env).length = n := by rfl) (hst : (assignEach es X.env).findIdx? (·.1) = none := by rfl) : PG X (.Tuple es k pos) (gTup X.K n t) := by
  intro pins s σ H v u Q I r hw
  obtain ⟨a, xs, e1, hq, hl, hw⟩ := hw
  subst e1
  cases r
  obtain ⟨its, rv, ht, hz⟩ := I.tuple hq
  refine assign_Tuple_tuple (I.ok.hd hc) ht (by simp [hn, ← hl, rv.length]) hst fun h' hx => ?_
  have I1 : Inv X pins σ H { s with heap := h' } := I.kept (t' := s.toks) fun b o e => hx b o (Nat.ne_of_lt (Heap.lt_size e)) e
  exact h pins _ σ H xs _ Q I1 (by simpa using rv) hw
def tAsg (te : TE) (g : TG) : TS := fun D σ H => te σ H fun x H1 => g x σ H1 D.nx
theorem ps_asg {tg e : Expr} {te : TE} {g : TG} (he : PE X e te) (hg : PG X tg g) (hs : swapsWithSole [tg] e pos.line X.env = pure false := by rfl) (hw : swappedStores [tg] e X.env = pure none := by rfl)
    (h1 : (assignEach [tg] X.env).map (·.2) = [assign tg X.env] := by rfl) : PS X (.Assign [tg] e pos) (tAsg te g) := by
  intro pins s σ H D I h
  refine wpAny_Assign_stores (thn (he pins s σ H _ I h) fun v s1 ⟨x, H1, I1, r1, q1⟩ => ?_) hs hw
  rw [h1]
  exact thn (hg pins s1 σ H1 x v _ I1 r1 q1) fun _ s2 q => q
theorem ps_set {i : Nat} {x : Str} {e : Expr} {te : TE} {pos' : Pos} (hN : X.N.Nodup) (hi : X.N[i]? = some x) (hx : Loc X.env.scope x) (he : PE X e te) (hs : swapsWith e (some (.Name x pos')) pos.line X.env = pure false := by rfl) (hf : X.fn x = true ∨ X.env.scope.names.lookup x = some .local := by first | exact .inl rfl | exact .inr rfl | assumption) :
    PS X (.Assign [.Name x pos'] e pos) (tAsg te (gName i)) := by
  intro pins s σ H D I h
  refine wpAny_Assign_Name (thn (he pins s σ H _ I h) fun v s1 ⟨y, H1, I1, r1, q1⟩ => ?_) hs
  exact store_ok I1 hN hi hx r1 (fun s2 I2 => ⟨_, H1, I2, q1⟩) hf
end
section
variable {X : Cx} {pos : Pos}
def tWhile (c : TT) (tb : TS) : TS := fun D σ H => ∃ W : Nat → St → Hp → Prop, (∃ m, W m σ H) ∧ ∀ m σ H, W m σ H →
  c σ H fun b H1 => if b = true then ∃ N : St → Hp → Prop, (∀ σ' H', N σ' H' → ∃ m', m' < m ∧ W m' σ' H') ∧ tb { D with nx := N, ct := N, bk := D.nx } σ H1 else D.nx σ H1
theorem ps_while {c : Expr} {body : List Stmt} {tc : TT} {tb : TS} (hp : PassesOwn (model X.prog X.w) X.A X.env X.xe) (hc : PT X c tc) (hb : PSs X body tb) : PS X (.While c body [] pos) (tWhile tc tb) := by
  intro pins s σ H D I h
  obtain ⟨W, ⟨m0, w0⟩, turn⟩ := h
  refine wpAny_While (codeAny_whileLoop (fun n s' => ∃ σ' H', Inv X pins σ' H' s' ∧ W n σ' H') ?_ m0 ⟨σ, H, I, w0⟩)
  rintro n s1 ⟨σ1, H1, I1, w1⟩
  refine wpAny_passesOwn hp (thn (hc pins s1 σ1 H1 _ I1 (turn n σ1 H1 w1)) fun b s2 ⟨H2, I2, q2⟩ => ?_)
  cases b with
  | true =>
    obtain ⟨N, hN, q2⟩ := q2
    rw [if_pos rfl]
    refine wpAny_passesOwn hp (thn (hb pins s2 σ1 H2 _ I2 q2) fun f s3 q3 => ?_)
    cases f with
    | next =>
      obtain ⟨σ3, H3, I3, n3⟩ := q3
      obtain ⟨m', hm, w3⟩ := hN σ3 H3 n3
      exact ⟨m', hm, σ3, H3, I3, w3⟩
    | cont =>
      obtain ⟨σ3, H3, I3, n3⟩ := q3
      obtain ⟨m', hm, w3⟩ := hN σ3 H3 n3
      exact ⟨m', hm, σ3, H3, I3, w3⟩
    | brk => exact q3
    | ret v => exact q3
  | false =>
    rw [if_neg Bool.false_ne_true]
    exact wpAny_execs_nil ⟨σ1, H2, I2, q2⟩
end
structure It where
  go : Nat → Hp → Prop
  yld : Nat → Hp → V → Hp → Prop
  stop : Nat → Hp → Prop
def FpOk (X : Cx) (pins : List (Addr × Obj)) (H : Hp) (b : Addr) : Prop :=
  H b = none ∧ b ≠ X.env.locals ∧ b ∉ X.fs ∧ (b ∈ X.ex ∨ X.s₀.heap.objs.size ≤ b) ∧ (∀ x c, X.env.cells.lookup x = some c → c ≠ b) ∧ ∀ p ∈ X.pn ++ pins, p.1 ≠ b
theorem Inv.fpOk {X : Cx} {pins : List (Addr × Obj)} {σ : St} {H H' : Hp} {s : Shared} {b : Addr} (I : Inv X pins σ H s) (hb : s.heap.objs.size ≤ b) (hn : H' b = none) : FpOk X pins H' b := by
  refine ⟨hn, Nat.ne_of_gt (Nat.lt_of_lt_of_le I.lt hb), I.nofs hb, .inr (Nat.le_trans I.sz hb), fun x c e z => ?_, fun p hp z => ?_⟩
  · obtain ⟨v, q⟩ := I.cell x c e
    exact absurd (Nat.lt_of_lt_of_le q.lt (by rw [z]; exact hb)) (Nat.lt_irrefl _)
  · exact absurd (Nat.lt_of_lt_of_le (Heap.lt_size (I.pin p hp).1) (by rw [z]; exact hb)) (Nat.lt_irrefl _)
structure Turn (P : Program) (w : World) (K : PySem.W.Frag) (tg : Expr) (J : It) (fp : List Addr) (it : Addr) (tn : Nat → Heap → Prop) : Prop where
  mem : it ∈ fp
  obj : ∀ i h, tn i h → ∀ b ∈ fp, ∃ o, h.get? b = some o ∧ ∀ v, o.data ≠ .cell v
  keep : ∀ i h h', tn i h → (∀ b ∈ fp, ∀ o, h.get? b = some o → h'.get? b = some o) → tn i h'
  item : ∀ (X : Cx), X.prog = P → X.w = w → X.K = K → X.calm = true → ∀ (i : Nat) (pins : List (Addr × Obj)) (s : Shared) (σ : St) (H : Hp) (E : Value → Shared → Prop), Inv X pins σ H s → (∀ b ∈ fp, FpOk X pins H b) → tn i s.heap → J.go i H →
    wpAny (model P w) X.A (pyNext (.ref it)) (fun r s1 => ∃ u, r = some u ∧
      wpAny (model P w) X.A (letOwnedTupleGo tg (.ref it) u) (fun _ s2 => ∃ x H', Inv X pins σ H' s2 ∧ RelV x u ∧ J.yld i H x H' ∧ tn (i + 1) s2.heap ∧ ∀ b ∈ fp, H' b = none) E s1) E s
  done : ∀ (X : Cx), X.prog = P → X.w = w → X.K = K → X.calm = true → ∀ (i : Nat) (pins : List (Addr × Obj)) (s : Shared) (σ : St) (H : Hp) (E : Value → Shared → Prop), Inv X pins σ H s → (∀ b ∈ fp, FpOk X pins H b) → tn i s.heap → J.stop i H →
    wpAny (model P w) X.A (pyNext (.ref it)) (fun r s1 => r = none ∧ Inv X pins σ H s1) E s
  self : ∀ (A : Around) (i : Nat) (s : Shared) (Q : Value → Shared → Prop) (E : Value → Shared → Prop), tn i s.heap → Q (.ref it) s → wpAny (model P w) A (pyIter (.ref it)) Q E s
abbrev TI := St → Hp → (It → Hp → Prop) → Prop
def PIE (X : Cx) (pins : List (Addr × Obj)) (σ : St) (tg : Expr) (R : It → Hp → Prop) (itv : Value) (s2 : Shared) : Prop :=
  ∃ (it : Addr) (fp : List Addr) (tn : Nat → Heap → Prop) (J : It) (H' : Hp), itv = .ref it ∧ Inv X pins σ H' s2 ∧ Turn X.prog X.w X.K tg J fp it tn ∧ tn 0 s2.heap ∧ (∀ b ∈ fp, FpOk X pins H' b) ∧ R J H'
def PI (X : Cx) (tg iter : Expr) (wi : TI) : Prop :=
  ∀ (pins : List (Addr × Obj)) (s : Shared) (σ : St) (H : Hp) (R : It → Hp → Prop), Inv X pins σ H s → wi σ H R →
    wpAny (model X.prog X.w) X.A (eval iter X.env) (fun v s1 => wpAny (model X.prog X.w) X.A (pyIter v) (PIE X pins σ tg R) X.xe s1) X.xe s
theorem go_of {M : Model} {A : Around} {E : Value → Shared → Prop} {s : Shared} {tg : Expr} {it : Addr} {u : Value} {o : Obj} {n : String} {vs : Array Value} {Q : Unit → Shared → Prop} (ho : s.heap.get? it = some o) (hc : o.cls = .type n) (hd : o.data = .fields vs)
    (hn : ["enumerate", "zip", "dict_itemiterator", "dict_reverseitemiterator", "odict_iterator", "itertools.zip_longest", "itertools.pairwise"].contains n = false) (hQ : Q () s) : wpAny M A (letOwnedTupleGo tg (.ref it) u) Q E s := by
  unfold letOwnedTupleGo
  cases tg <;> first
    | exact wpAny_pure hQ
    | (cases u <;> first
        | exact wpAny_pure hQ
        | (refine wpAny_bind (wpAny_load ho ?_)
           rw [hc, hd]
           show wpAny M A (if (["enumerate", "zip", "dict_itemiterator", "dict_reverseitemiterator", "odict_iterator", "itertools.zip_longest", "itertools.pairwise"].contains n && vs[0]? == some (rawInt _)) = true then _ else _) Q E s
           rw [if_neg (by intro h; rw [hn, Bool.false_and] at h; cases h)]
           exact wpAny_pure hQ))
def Itl (K : PySem.W.Frag) (a : Addr) : It :=
  ⟨fun i H => ∃ xs x, SqL K H a xs ∧ xs[i]? = some x, fun i H x H' => H' = H ∧ ∀ xs, SqL K H a xs → xs[i]? = some x, fun i H => ∃ xs, SqL K H a xs ∧ xs.length ≤ i⟩
def Itr (lo : Int) (n : Nat) : It := ⟨fun i _ => i < n, fun i H x H' => H' = H ∧ x = .int (lo + i), fun i _ => n ≤ i⟩
theorem turn_list {P : Program} {w : World} {K : PySem.W.Frag} {tg : Expr} (a it : Addr) : Turn P w K tg (Itl K a) [it] it (fun i h => h.IsListIter it a i) where
  mem := by simp
  obj := fun i h st b hb => by
    have e : b = it := by simpa using hb
    subst e
    obtain ⟨o, e, c, d⟩ := st
    exact ⟨o, e, fun v z => by rw [d] at z; cases z⟩
  keep := fun i h h' st k => st.at fun o e => k it (by simp) o e
  item := by
    intro X hP hw hK hc i pins s σ H E I hf st hg
    subst hP hw hK
    obtain ⟨xs, x, hq, hx⟩ := hg
    obtain ⟨its, rv, p, hz⟩ := I.list hq
    obtain ⟨u, hu, ru⟩ := rv.get hx
    obtain ⟨f0, f1, f2, f3, f4, f5⟩ := hf it (by simp)
    refine wpAny_pyNext_list_item st p.isList (x := u) (by simpa using hu) fun h' st' sb => ?_
    have I1 : Inv X pins σ H { s with heap := h' } := I.turned (t' := s.toks) (fun b o hb e => (sb.2 b hb).trans e) f0 f1 f3 f4 f5
    obtain ⟨o, e, c, d⟩ := id st'
    exact ⟨u, rfl, go_of (s := { s with heap := h' }) e c d (by decide) ⟨x, H, I1, ru, ⟨rfl, fun ys hy => by rw [I.list_inj hy hq]; exact hx⟩, st', fun b hb => (hf b hb).1⟩⟩
  done := by
    intro X hP hw hK hc i pins s σ H E I hf st hg
    subst hP hw hK
    obtain ⟨xs, hq, hx⟩ := hg
    obtain ⟨its, rv, p, hz⟩ := I.list hq
    obtain ⟨f0, f1, f2, f3, f4, f5⟩ := hf it (by simp)
    have hl := rv.length
    exact wpAny_pyNext_list_end (I.ok.hd hc) st p.isList (by simp; omega) fun h' eb => ⟨rfl, I.turned (t' := s.toks) (fun b o hb e => eb b o hb e) f0 f1 f3 f4 f5⟩
  self := fun _ _ _ _ _ st h => wpAny_pyIter_listiter st h
theorem turn_range {P : Program} {w : World} {K : PySem.W.Frag} {tg : Expr} (it : Addr) (lo : Int) (n : Nat) : Turn P w K tg (Itr lo n) [it] it (fun i h => IsRangeIter h it (lo + (i : Nat) * 1) ((n : Int) - (i : Nat)) 1) where
  mem := by simp
  obj := fun i h st b hb => by
    have e : b = it := by simpa using hb
    subst e
    exact ⟨_, st, fun v z => by
      have z' : Data.fields _ = Data.cell v := z
      cases z'⟩
  keep := fun i h h' st k => k it (by simp) _ st
  item := by
    intro X hP hw hK hc i pins s σ H E I hf st hg
    subst hP hw hK
    obtain ⟨f0, f1, f2, f3, f4, f5⟩ := hf it (by simp)
    have W := Walks.range (prog := X.prog) (w := X.w) (I.ok.hd hc) it lo 1 n
    refine W.item i s _ _ hg st fun v h' tk hv st' kk => ?_
    obtain ⟨t, rfl⟩ := hv
    have I1 : Inv X pins σ H { s with heap := h', toks := tk } := I.turned (fun b o hb e => kk b o (by simpa using hb) e) f0 f1 f3 f4 f5
    refine ⟨_, rfl, go_of (s := { s with heap := h', toks := tk }) (n := "range_iterator") st' rfl rfl (by decide) ⟨.int (lo + i), H, I1, ⟨t, ?_⟩, ⟨rfl, rfl⟩, st', fun b hb => (hf b hb).1⟩⟩
    rw [Int.mul_one]
  done := by
    intro X hP hw hK hc i pins s σ H E I hf st hg
    subst hP hw hK
    obtain ⟨f0, f1, f2, f3, f4, f5⟩ := hf it (by simp)
    exact wpAny_pyNext_range_end (I.ok.hd hc) st (by have : n ≤ i := hg; omega) fun h' eb => ⟨rfl, I.turned (t' := s.toks) (fun b o hb e => eb b o hb e) f0 f1 f3 f4 f5⟩
  self := fun _ _ _ _ _ st h => wpAny_pyIter_rangeiter st h
end L2
namespace L2
open PySem PySem.Spec PyProof.Rows
section
variable {X : Cx} {tg : Expr}
def iList (K : PySem.W.Frag) (tl : TE) : TI := fun σ H R => tl σ H fun x H1 => ∃ a, x = .ref a ∧ (∃ xs, SqL K H1 a xs) ∧ R (Itl K a) H1
theorem pi_list {l : Expr} {tl : TE} (hl : PE X l tl) : PI X tg l (iList X.K tl) := by
  intro pins s σ H R I h
  refine thn (hl pins s σ H _ I h) fun v s1 ⟨x, H1, I1, r1, q1⟩ => ?_
  obtain ⟨a, e, ⟨xs, hq⟩, q⟩ := q1
  subst e
  cases r1
  obtain ⟨its, rv, p, hz⟩ := I1.list hq
  refine wpAny_pyIter_list p.isList ?_
  refine ⟨s1.heap.objs.size, [s1.heap.objs.size], _, _, H1, rfl, I1.kept (t' := s1.toks) fun b o e => Heap.get?_push_of_some _ e, turn_list a _, ⟨_, Heap.get?_push_size _ rfl, rfl, rfl⟩, fun b hb => ?_, q⟩
  have e : b = s1.heap.objs.size := by simpa using hb
  subst e
  exact I1.fpOk (Nat.le_refl _) (I1.hok.fresh (Nat.le_refl _))
theorem range_it {pins : List (Addr × Obj)} {σ : St} {H : Hp} {s : Shared} {R : It → Hp → Prop} {E : Value → Shared → Prop} {lo hi : Int} {t u v : Tok} {tk : Nat} (I : Inv X pins σ H s) (h1 : -(2 ^ 62) ≤ lo) (h2 : lo < 2 ^ 62) (h3 : -(2 ^ 62) ≤ hi) (h4 : hi < 2 ^ 62)
    (q : R (Itr lo (hi - lo).toNat) H) : wpAny (model X.prog X.w) X.A (pyIter (.ref s.heap.objs.size)) (PIE X pins σ tg R) E { s with heap := s.heap.push { cls := .type "range", data := .fields #[.int lo t, .int hi u, .int 1 v] }, toks := tk } := by
  refine wpAny_pyIter_range (IsRange.new ..) (small_one h1 h2 h3 h4) ?_
  have I1 : Inv X pins σ H { s with heap := s.heap.push { cls := .type "range", data := .fields #[.int lo t, .int hi u, .int 1 v] }, toks := tk } := I.kept fun b o e => Heap.get?_push_of_some _ e
  refine ⟨(s.heap.push { cls := .type "range", data := .fields #[.int lo t, .int hi u, .int 1 v] }).objs.size, [(s.heap.push { cls := .type "range", data := .fields #[.int lo t, .int hi u, .int 1 v] }).objs.size], _, _, H, rfl,
    I1.kept (t' := tk) fun b o e => Heap.get?_push_of_some _ e, turn_range _ lo (hi - lo).toNat, ?_, fun b hb => ?_, q⟩
  · have e1 : lo + ((0 : Nat) : Int) * 1 = lo := by simp
    have e2 : (((hi - lo).toNat : Nat) : Int) - ((0 : Nat) : Int) = Builtin.Range.rangeSize lo hi 1 := by rw [rangeSize_one]; split <;> omega
    show IsRangeIter _ _ (lo + ((0 : Nat) : Int) * 1) ((((hi - lo).toNat : Nat) : Int) - ((0 : Nat) : Int)) 1
    rw [e1, e2]
    exact Heap.get?_push_size _ rfl
  · have e : b = (s.heap.push { cls := .type "range", data := .fields #[.int lo t, .int hi u, .int 1 v] }).objs.size := by simpa using hb
    subst e
    exact I1.fpOk (Nat.le_refl _) (I1.hok.fresh (Nat.le_refl _))
def iRng1 (ta : TA) : TI := fun σ H R => ta σ H fun vs H1 => ∃ j : Int, vs = [.int j] ∧ -(2 ^ 62) ≤ j ∧ j < 2 ^ 62 ∧ R (Itr 0 j.toNat) H1
theorem pi_range1 {a : Expr} {ta : TA} {p pos : Pos} (hg : Gl X "range") (hm : X.mg "range" = none) (ha : PA X [a] ta) (hs : starEach [a] X.env = [(false, eval a X.env)] := by rfl) : PI X tg (.Call (.Name "range" p) [a] [] pos) (iRng1 ta) := by
  intro pins s σ H R I h
  refine Call_ (ld_blt I hg hm boot_range (PyProof.Rows.callWith_type1 (thn (ha pos pins s σ H _ I h) fun us s1 ⟨vs, H1, I1, r1, q1⟩ => ?_) hs rfl))
  obtain ⟨j, e, q1, q2, q⟩ := q1
  subst e
  cases r1 with
  | cons r rr =>
    cases rr
    obtain ⟨t, rfl⟩ := r
    exact call_range_1 (range_it I1 (by omega) (by omega) q1 q2 (by simpa using q))
def tFor (wi : TI) (g : TG) (tb : TS) : TS := fun D σ H => wi σ H fun J H1 => ∃ W : Nat → Nat → St → Hp → Prop, (∃ m, W 0 m σ H1) ∧ ∀ i m σ H, W i m σ H →
  (J.stop i H ∧ D.nx σ H) ∨ (J.go i H ∧ ∃ N : St → Hp → Prop, (∀ σ' H', N σ' H' → ∃ m', m' < m ∧ W (i + 1) m' σ' H') ∧ ∀ x H', J.yld i H x H' → g x σ H' fun σ2 H2 => tb { D with nx := N, ct := N, bk := D.nx } σ2 H2)
def pinsAt (fp : List Addr) (h : Heap) : List (Addr × Obj) := fp.filterMap fun b => (h.get? b).map fun o => (b, o)
theorem mem_pinsAt {fp : List Addr} {h : Heap} {b : Addr} {o : Obj} (hb : b ∈ fp) (e : h.get? b = some o) : (b, o) ∈ pinsAt fp h := List.mem_filterMap.mpr ⟨b, hb, by rw [e]; rfl⟩
theorem of_pinsAt {fp : List Addr} {h : Heap} {p : Addr × Obj} (hp : p ∈ pinsAt fp h) : p.1 ∈ fp ∧ h.get? p.1 = some p.2 := by
  obtain ⟨b, hb, e⟩ := List.mem_filterMap.mp hp
  cases q : h.get? b with
  | none => rw [q] at e; cases e
  | some o =>
    rw [q] at e
    have e' : (b, o) = p := Option.some.inj e
    subst e'
    exact ⟨hb, q⟩
theorem Inv.pinned {pins : List (Addr × Obj)} {σ : St} {H : Hp} {s : Shared} {fp : List Addr} (I : Inv X pins σ H s) (hf : ∀ b ∈ fp, FpOk X pins H b) (ho : ∀ b ∈ fp, ∃ o, s.heap.get? b = some o ∧ ∀ v, o.data ≠ .cell v) : Inv X (pins ++ pinsAt fp s.heap) σ H s :=
  I.pins_of fun p hp => (List.mem_append.mp hp).elim (fun z => I.pin p (List.mem_append_right _ z)) fun z => by
    obtain ⟨hb, e⟩ := of_pinsAt z
    obtain ⟨f0, f1, f2, _⟩ := hf p.1 hb
    obtain ⟨o, e', d⟩ := ho p.1 hb
    rw [e] at e'; cases e'
    exact ⟨e, f0, f1, f2, d⟩
theorem Inv.unpinned {pins pl : List (Addr × Obj)} {σ : St} {H : Hp} {s : Shared} (I : Inv X (pins ++ pl) σ H s) : Inv X pins σ H s := I.pins_of fun p hp => I.pin p (List.mem_append_right _ (List.mem_append_left _ hp))
theorem ps_for {iter : Expr} {body : List Stmt} {wi : TI} {g : TG} {tb : TS} {pos : Pos} (hp : PassesOwn (model X.prog X.w) X.A X.env X.xe) (hc : X.calm = true) (hi : PI X tg iter wi) (hg : PG X tg g) (hb : PSs X body tb)
    (hs : ∀ x, foldedSetIterable iter X.env x = pure x := by intro _; rfl) : PS X (.For tg iter body [] pos) (tFor wi g tb) := by
  intro pins s σ H D I h
  refine wpAny_For (thn (hi pins s σ H _ I h) fun v s1 h1 => thn h1 fun itv s2 h2 => ?_) hs
  obtain ⟨it, fp, tn, J, H2, e, I2, T, st2, f2, W, ⟨m0, w0⟩, turn⟩ := h2
  subst e
  have stat : ∀ {H' : Hp}, (∀ b ∈ fp, H' b = none) → ∀ b ∈ fp, FpOk X pins H' b := fun hn b hb => ⟨hn b hb, (f2 b hb).2⟩
  refine codeAny_forLoop_any (fun n s' => ∃ i σ' H', Inv X pins σ' H' s' ∧ tn i s'.heap ∧ (∀ b ∈ fp, H' b = none) ∧ W i n σ' H') ?_ m0 ⟨0, σ, H2, I2, st2, fun b hb => (f2 b hb).1, w0⟩
  rintro n s3 ⟨i, σ3, H3, I3, st3, fr3, w3⟩
  rcases turn i n σ3 H3 w3 with ⟨stop, qn⟩ | ⟨go, N, hN, step⟩
  · refine wpAny_passesOwn hp (thn (T.done X rfl rfl rfl hc i pins s3 σ3 H3 X.xe I3 (stat fr3) st3 stop) fun r s4 ⟨hr, I4⟩ => ?_)
    subst hr
    exact wpAny_execs_nil ⟨σ3, H3, I4, qn⟩
  · refine wpAny_passesOwn hp (thn (T.item X rfl rfl rfl hc i pins s3 σ3 H3 X.xe I3 (stat fr3) st3 go) fun r s4 ⟨u, hr, h4⟩ => ?_)
    subst hr
    refine wpAny_passesOwn hp (thn h4 fun _ s5 ⟨x, H5, I5, r5, y5, st5, fr5⟩ => ?_)
    have I5' := I5.pinned (stat fr5) (T.obj _ _ st5)
    refine wpAny_passesOwn hp (thn (hg _ s5 σ3 H5 x u _ I5' r5 (step x H5 y5)) fun _ s6 ⟨σ6, H6, I6, q6⟩ => ?_)
    refine wpAny_passesOwn hp (thn (hb _ s6 σ6 H6 _ I6 q6) fun f s7 q7 => ?_)
    have again : ∀ {σ7 : St} {H7 : Hp}, Inv X (pins ++ pinsAt fp s5.heap) σ7 H7 s7 → N σ7 H7 → ∃ m, m < n ∧ ∃ i σ' H', Inv X pins σ' H' s7 ∧ tn i s7.heap ∧ (∀ b ∈ fp, H' b = none) ∧ W i m σ' H' := fun {σ7 H7} I7 n7 => by
      obtain ⟨m', hm, w7⟩ := hN σ7 H7 n7
      refine ⟨m', hm, i + 1, σ7, H7, I7.unpinned, T.keep _ _ _ st5 fun b hb o e => (I7.pin (b, o) (List.mem_append_right _ (List.mem_append_right _ (mem_pinsAt hb e)))).1, fun b hb => ?_, w7⟩
      obtain ⟨o, e, d⟩ := T.obj _ _ st5 b hb
      exact (I7.pin (b, o) (List.mem_append_right _ (List.mem_append_right _ (mem_pinsAt hb e)))).2.1
    cases f with
    | next => obtain ⟨σ7, H7, I7, n7⟩ := q7; exact again I7 n7
    | cont => obtain ⟨σ7, H7, I7, n7⟩ := q7; exact again I7 n7
    | brk => obtain ⟨σ7, H7, I7, q7⟩ := q7; exact ⟨σ7, H7, I7.unpinned, q7⟩
    | ret v => obtain ⟨x7, σ7, H7, I7, r7, q7⟩ := q7; exact ⟨x7, σ7, H7, I7.unpinned, r7, q7⟩
end
theorem for_list {K : PySem.W.Frag} {a : Addr} {xs : List V} {g : TG} {tb : TS} {D : Ends} {σ : St} {H : Hp} (Pv : Nat → St → Hp → Prop) (h0 : Pv 0 σ H) (hl : ∀ i σ H, i ≤ xs.length → Pv i σ H → SqL K H a xs)
    (hs : ∀ i x σ H, xs[i]? = some x → Pv i σ H → g x σ H fun σ2 H2 => tb { D with nx := Pv (i + 1), ct := Pv (i + 1), bk := D.nx } σ2 H2) (hd : ∀ σ H, Pv xs.length σ H → D.nx σ H) :
    ∃ W : Nat → Nat → St → Hp → Prop, (∃ m, W 0 m σ H) ∧ ∀ i m σ H, W i m σ H →
      ((Itl K a).stop i H ∧ D.nx σ H) ∨ ((Itl K a).go i H ∧ ∃ N : St → Hp → Prop, (∀ σ' H', N σ' H' → ∃ m', m' < m ∧ W (i + 1) m' σ' H') ∧ ∀ x H', (Itl K a).yld i H x H' → g x σ H' fun σ2 H2 => tb { D with nx := N, ct := N, bk := D.nx } σ2 H2) := by
  refine ⟨fun i m σ H => m = xs.length - i ∧ i ≤ xs.length ∧ Pv i σ H, ⟨xs.length, by simp, Nat.zero_le _, h0⟩, ?_⟩
  rintro i m σ H ⟨rfl, hi, p⟩
  have q := hl i σ H hi p
  by_cases hlt : i < xs.length
  · refine .inr ⟨⟨xs, xs[i], q, by simp [hlt]⟩, Pv (i + 1), fun σ' H' p' => ⟨xs.length - (i + 1), by omega, rfl, hlt, p'⟩, fun x H' y => ?_⟩
    obtain ⟨e, y⟩ := y
    subst e
    exact hs i x σ _ (y xs q) p
  · have e : i = xs.length := by omega
    subst e
    exact .inl ⟨⟨xs, q, Nat.le_refl _⟩, hd σ H p⟩
theorem for_range {lo : Int} {n : Nat} {g : TG} {tb : TS} {D : Ends} {σ : St} {H : Hp} (Pv : Nat → St → Hp → Prop) (h0 : Pv 0 σ H)
    (hs : ∀ i σ H, i < n → Pv i σ H → g (.int (lo + i)) σ H fun σ2 H2 => tb { D with nx := Pv (i + 1), ct := Pv (i + 1), bk := D.nx } σ2 H2) (hd : ∀ σ H, Pv n σ H → D.nx σ H) :
    ∃ W : Nat → Nat → St → Hp → Prop, (∃ m, W 0 m σ H) ∧ ∀ i m σ H, W i m σ H →
      ((Itr lo n).stop i H ∧ D.nx σ H) ∨ ((Itr lo n).go i H ∧ ∃ N : St → Hp → Prop, (∀ σ' H', N σ' H' → ∃ m', m' < m ∧ W (i + 1) m' σ' H') ∧ ∀ x H', (Itr lo n).yld i H x H' → g x σ H' fun σ2 H2 => tb { D with nx := N, ct := N, bk := D.nx } σ2 H2) := by
  refine ⟨fun i m σ H => m = n - i ∧ i ≤ n ∧ Pv i σ H, ⟨n, by simp, Nat.zero_le _, h0⟩, ?_⟩
  rintro i m σ H ⟨rfl, hi, p⟩
  by_cases hlt : i < n
  · refine .inr ⟨hlt, Pv (i + 1), fun σ' H' p' => ⟨n - (i + 1), by omega, rfl, hlt, p'⟩, fun x H' y => ?_⟩
    obtain ⟨e, y⟩ := y
    subst e y
    exact hs i σ _ hlt p
  · have e : i = n := by omega
    subst e
    exact .inl ⟨Nat.le_refl _, hd σ H p⟩
end L2
namespace L2
open PySem PySem.Spec PyProof.Rows
abbrev R2 := V → V → Hp → VK → Prop
def OpR (X : Cx) (f : Value → Value → Sem Value) (r : R2) : Prop :=
  ∀ (pins : List (Addr × Obj)) (s : Shared) (σ : St) (H : Hp) (x y : V) (v u : Value) (Q : VK), Inv X pins σ H s → RelV x v → RelV y u → r x y H Q →
    wpAny (model X.prog X.w) X.A (f v u) (EP X pins σ Q) X.xe s
def UnR (X : Cx) (f : Value → Sem Value) (r : V → Hp → VK → Prop) : Prop :=
  ∀ (pins : List (Addr × Obj)) (s : Shared) (σ : St) (H : Hp) (x : V) (v : Value) (Q : VK), Inv X pins σ H s → RelV x v → r x H Q →
    wpAny (model X.prog X.w) X.A (f v) (EP X pins σ Q) X.xe s
def CallR (X : Cx) (f : Value) (r : List V → Hp → VK → Prop) : Prop :=
  ∀ (pins : List (Addr × Obj)) (s : Shared) (σ : St) (H : Hp) (xs : List V) (us : List Value) (Q : VK), Inv X pins σ H s → Vals xs us → r xs H Q →
    wpAny (model X.prog X.w) X.A (call f us) (EP X pins σ Q) X.xe s
def tOp (r : R2) (ta tb : TE) : TE := fun σ H Q => ta σ H fun x H1 => tb σ H1 fun y H2 => r x y H2 Q
def tUn (r : V → Hp → VK → Prop) (ta : TE) : TE := fun σ H Q => ta σ H fun x H1 => r x H1 Q
def rI (C : Int → Int → Prop) (g : Int → Int → V) : R2 := fun x y H Q => ∃ i j, x = .int i ∧ y = .int j ∧ C i j ∧ Q (g i j) H
def rI0 (g : Int → Int → V) : R2 := fun x y H Q => ∃ i j, x = .int i ∧ y = .int j ∧ Q (g i j) H
def rU (g : Int → V) : V → Hp → VK → Prop := fun x H Q => ∃ i, x = .int i ∧ Q (g i) H
section
variable {X : Cx} {a b c : Expr} {ta tb tc : TE} {pos : Pos}
theorem binT (ha : PE X a ta) (hb : PE X b tb) {pins : List (Addr × Obj)} {s : Shared} {σ : St} {H : Hp} {R : V → V → Hp → Prop} (I : Inv X pins σ H s)
    (h : ta σ H fun x H1 => tb σ H1 fun y H2 => R x y H2) {Q : Value → Shared → Prop} {f : Value → Value → Sem Value}
    (hf : ∀ v u s2 x y H2, Inv X pins σ H2 s2 → RelV x v → RelV y u → R x y H2 → wpAny (model X.prog X.w) X.A (f v u) Q X.xe s2) :
    wpAny (model X.prog X.w) X.A (eval a X.env) (fun v s₁ => wpAny (model X.prog X.w) X.A (eval b X.env) (fun u s₂ => wpAny (model X.prog X.w) X.A (f v u) Q X.xe s₂) X.xe s₁) X.xe s := by
  refine thn (ha pins s σ H _ I h) fun v s1 ⟨x, H1, I1, r1, q1⟩ => ?_
  refine thn (hb pins s1 σ H1 _ I1 q1) fun u s2 ⟨y, H2, I2, r2, q2⟩ => ?_
  exact hf v u s2 x y H2 I2 r1 r2 q2
theorem pe_op {op : Operator} {r : R2} (ho : OpR X (binaryOp op) r) (ha : PE X a ta) (hb : PE X b tb) : PE X (.BinOp a op b pos) (tOp r ta tb) := by
  intro pins s σ H Q I h
  exact wpAny_BinOp (binT ha hb I h fun v u s2 x y H2 I2 rx ry q => ho pins s2 σ H2 x y v u Q I2 rx ry q)
theorem pe_un {op : UnaryOp} {r : V → Hp → VK → Prop} (ho : UnR X (unaryOp op) r) (ha : PE X a ta) : PE X (.UnaryOp op a pos) (tUn r ta) := by
  intro pins s σ H Q I h
  exact UnaryOp_ (thn (ha pins s σ H _ I h) fun v s1 ⟨x, H1, I1, r1, q1⟩ => ho pins s1 σ H1 x v Q I1 r1 q1)
theorem opI {f : Value → Value → Sem Value} {C : Int → Int → Prop} {g : Int → Int → Int}
    (rule : ∀ (i j : Int) (t u : Tok) (s : Shared) (Q : Value → Shared → Prop) (E : Value → Shared → Prop), C i j → Q (.int (g i j) s.toks) { s with toks := s.toks + 1 } → wpAny (model X.prog X.w) X.A (f (.int i t) (.int j u)) Q E s) :
    OpR X f (rI C fun i j => .int (g i j)) := by
  intro pins s σ H x y v u Q I rx ry h
  obtain ⟨i, j, rfl, rfl, hc, q⟩ := h
  obtain ⟨t, rfl⟩ := rx
  obtain ⟨t', rfl⟩ := ry
  exact rule i j t t' s _ _ hc ⟨.int (g i j), H, I.tok _, ⟨_, rfl⟩, q⟩
theorem opI0 {f : Value → Value → Sem Value} {g : Int → Int → Int}
    (rule : ∀ (i j : Int) (t u : Tok) (s : Shared) (Q : Value → Shared → Prop) (E : Value → Shared → Prop), Q (.int (g i j) s.toks) { s with toks := s.toks + 1 } → wpAny (model X.prog X.w) X.A (f (.int i t) (.int j u)) Q E s) :
    OpR X f (rI0 fun i j => .int (g i j)) := by
  intro pins s σ H x y v u Q I rx ry h
  obtain ⟨i, j, rfl, rfl, q⟩ := h
  obtain ⟨t, rfl⟩ := rx
  obtain ⟨t', rfl⟩ := ry
  exact rule i j t t' s _ _ ⟨.int (g i j), H, I.tok _, ⟨_, rfl⟩, q⟩
theorem opB0 {f : Value → Value → Sem Value} {g : Int → Int → Bool}
    (rule : ∀ (i j : Int) (t u : Tok) (s : Shared) (Q : Value → Shared → Prop) (E : Value → Shared → Prop), Q (.bool (g i j)) s → wpAny (model X.prog X.w) X.A (f (.int i t) (.int j u)) Q E s) :
    OpR X f (rI0 fun i j => .bl (g i j)) := by
  intro pins s σ H x y v u Q I rx ry h
  obtain ⟨i, j, rfl, rfl, q⟩ := h
  obtain ⟨t, rfl⟩ := rx
  obtain ⟨t', rfl⟩ := ry
  exact rule i j t t' s _ _ ⟨.bl (g i j), H, I, rfl, q⟩
def CDiv (i j : Int) : Prop := 0 < j ∧ j < 1073741824
def CPow (i j : Int) : Prop := 0 ≤ j ∧ j ≤ 1000000 ∧ i.natAbs < 2 ^ 64
def CMul (i j : Int) : Prop := (-(2 ^ 64) < i ∧ i < 2 ^ 64) ∨ (-(2 ^ 64) < j ∧ j < 2 ^ 64)
theorem CMul.ok {i j : Int} (h : CMul i j) : IntMulOk i j := by
  rcases h with ⟨h1, h2⟩ | ⟨h1, h2⟩
  · exact .of_left (intBits_le_64 h1 h2)
  · exact .of_right (intBits_le_64 h1 h2)
theorem two_pow_nn (k : Nat) : (0 : Int) ≤ 2 ^ k := by
  rw [two_pow_cast]
  exact Int.natCast_nonneg _
theorem op_add : OpR X (binaryOp .Add) (rI0 fun i j => .int (i + j)) := opI0 fun _ _ _ _ _ _ _ q => add_int q
theorem op_sub : OpR X (binaryOp .Sub) (rI0 fun i j => .int (i - j)) := opI0 fun _ _ _ _ _ _ _ q => sub_int q
theorem op_mul : OpR X (binaryOp .Mult) (rI CMul fun i j => .int (i * j)) := opI fun _ _ _ _ _ _ _ hc q => mul_int q hc.ok
theorem op_fdiv : OpR X (binaryOp .FloorDiv) (rI CDiv fun i j => .int (i / j)) := opI fun i j _ _ _ _ _ hc q => by
  have h1 : (0 : Int) < j := hc.1
  have h2 : j < 1073741824 := hc.2
  exact floordiv_int (by omega) (by rw [Int.fdiv_eq_ediv_of_nonneg i (by omega)]; exact q) (.inl (PyProof.noPylong_small (by omega)))
theorem op_mod : OpR X (binaryOp .Mod) (rI (fun _ j => 0 < j) fun i j => .int (i % j)) := opI fun i j _ _ _ _ _ hc q => by
  have h1 : (0 : Int) < j := hc
  exact mod_int' (by omega) (by rw [Int.fmod_eq_emod_of_nonneg i (by omega)]; exact q)
theorem op_pow : OpR X (binaryOp .Pow) (rI CPow fun i j => .int (i ^ j.toNat)) := opI fun _ _ _ _ _ _ _ hc q => pow_int_small hc.1 hc.2.1 hc.2.2 q
theorem op_shl : OpR X (binaryOp .LShift) (rI CPow fun i j => .int (i * 2 ^ j.toNat)) := opI fun _ _ _ _ _ _ _ hc q => lshift_int_small hc.1 hc.2.1 hc.2.2 q
theorem op_shr : OpR X (binaryOp .RShift) (rI (fun _ j => 0 ≤ j) fun i j => .int (i / 2 ^ j.toNat)) := opI fun i j _ _ _ _ _ hc q =>
  rshift_int hc (by rw [Int.fdiv_eq_ediv_of_nonneg i (two_pow_nn _)]; exact q)
theorem op_xor : OpR X (binaryOp .BitXor) (rI0 fun i j => .int (Builtin.bitXor i j)) := opI0 fun _ _ _ _ _ _ _ q => xor_int q
theorem unI {f : Value → Sem Value} {g : Int → Int}
    (rule : ∀ (i : Int) (t : Tok) (s : Shared) (Q : Value → Shared → Prop) (E : Value → Shared → Prop), Q (.int (g i) s.toks) { s with toks := s.toks + 1 } → wpAny (model X.prog X.w) X.A (f (.int i t)) Q E s) :
    UnR X f (rU fun i => .int (g i)) := by
  intro pins s σ H x v Q I rx h
  obtain ⟨i, rfl, q⟩ := h
  obtain ⟨t, rfl⟩ := rx
  exact rule i t s _ _ ⟨.int (g i), H, I.tok _, ⟨_, rfl⟩, q⟩
theorem un_neg : UnR X (unaryOp .USub) (rU fun i => .int (-i)) := unI fun _ _ _ _ _ q => neg_int q
end
def scal : V → V → Bool
  | .non, .non => true | .non, .int _ => true | .int _, .non => true | .non, .bl _ => true | .bl _, .non => true | .non, .str _ => true | .str _, .non => true
  | .int _, .int _ => true | .bl _, .bl _ => true | .str _, .str _ => true | .byt _, .byt _ => true
  | .int _, .str _ => true | .str _, .int _ => true | .bl _, .str _ => true | .str _, .bl _ => true
  | _, _ => false
def rEq : R2 := fun x y H Q => scal x y = true ∧ Q (.bl (decide (x = y))) H
def rNe : R2 := fun x y H Q => scal x y = true ∧ Q (.bl (!decide (x = y))) H
theorem dec_int {i j : Int} : decide (V.int i = V.int j) = (i == j) := by
  rw [Bool.eq_iff_iff]
  simp
theorem dec_bl {i j : Bool} : decide (V.bl i = V.bl j) = (i == j) := by
  rw [Bool.eq_iff_iff]
  simp
theorem dec_str {i j : Str} : decide (V.str i = V.str j) = (i == j) := by
  rw [Bool.eq_iff_iff]
  simp
theorem dec_byt {i j : Array UInt8} : decide (V.byt i = V.byt j) = (i.toList == j.toList) := by
  rw [Bool.eq_iff_iff]
  cases i
  cases j
  simp
section
variable {X : Cx} {a b c : Expr} {ta tb tc : TE} {pos : Pos}
theorem fin_bl {pins : List (Addr × Obj)} {σ : St} {H : Hp} {s : Shared} {Q : VK} {k k' : Bool} (I : Inv X pins σ H s) (q : Q (.bl k) H) (e : k = k') : EP X pins σ Q (.bool k') s := by
  subst e
  exact ⟨.bl k, H, I, rfl, q⟩
theorem op_eq : OpR X (compareOp .Eq) rEq := by
  intro pins s σ H x y v u Q I rx ry h
  obtain ⟨hs, q⟩ := h
  cases x with
  | non =>
    cases rx
    cases y with
    | non => cases ry; exact PySem.EqNone.eq_none_none (fin_bl I q (by simp))
    | bl j => cases ry; exact PySem.EqNone.eq_none_bool (fin_bl I q (by simp))
    | int j => obtain ⟨t', rfl⟩ := ry; exact PySem.EqNone.eq_none_int (fin_bl I q (by simp))
    | str j => obtain ⟨t', rfl⟩ := ry; exact PySem.EqNone.eq_none_str (fin_bl I q (by simp))
    | _ => exact absurd (show false = true from hs) Bool.false_ne_true
  | bl i =>
    cases rx
    cases y with
    | non => cases ry; exact PySem.EqNone.eq_bool_none (fin_bl I q (by simp))
    | bl j => cases ry; exact eq_bool (fin_bl I q dec_bl)
    | str j => obtain ⟨t', rfl⟩ := ry; exact PySem.EqMixed.eq_bool_str (fin_bl I q (by simp))
    | _ => exact absurd (show false = true from hs) Bool.false_ne_true
  | int i =>
    obtain ⟨t, rfl⟩ := rx
    cases y with
    | non => cases ry; exact PySem.EqNone.eq_int_none (fin_bl I q (by simp))
    | int j => obtain ⟨t', rfl⟩ := ry; exact eq_int (fin_bl I q dec_int)
    | str j => obtain ⟨t', rfl⟩ := ry; exact PySem.EqMixed.eq_int_str (fin_bl I q (by simp))
    | _ => exact absurd (show false = true from hs) Bool.false_ne_true
  | str i =>
    obtain ⟨t, rfl⟩ := rx
    cases y with
    | non => cases ry; exact PySem.EqNone.eq_str_none (fin_bl I q (by simp))
    | bl j => cases ry; exact PySem.EqMixed.eq_str_bool (fin_bl I q (by simp))
    | int j => obtain ⟨t', rfl⟩ := ry; exact PySem.EqMixed.eq_str_int (fin_bl I q (by simp))
    | str j => obtain ⟨t', rfl⟩ := ry; exact eq_str (fin_bl I q dec_str)
    | _ => exact absurd (show false = true from hs) Bool.false_ne_true
  | byt i =>
    obtain ⟨t, rfl⟩ := rx
    cases y with
    | byt j => obtain ⟨t', rfl⟩ := ry; exact PySem.W.eq_bytes (fin_bl I q dec_byt)
    | _ => exact absurd (show false = true from hs) Bool.false_ne_true
  | _ => cases y <;> exact absurd (show false = true from hs) Bool.false_ne_true
theorem op_ne : OpR X (compareOp .NotEq) rNe := by
  intro pins s σ H x y v u Q I rx ry h
  obtain ⟨hs, q⟩ := h
  cases x with
  | non =>
    cases rx
    cases y with
    | non => cases ry; exact PySem.EqNone.ne_none_none (fin_bl I q (by simp))
    | bl j => cases ry; exact PySem.EqNone.ne_none_bool (fin_bl I q (by simp))
    | int j => obtain ⟨t', rfl⟩ := ry; exact PySem.EqNone.ne_none_int (fin_bl I q (by simp))
    | str j => obtain ⟨t', rfl⟩ := ry; exact PySem.EqNone.ne_none_str (fin_bl I q (by simp))
    | _ => exact absurd (show false = true from hs) Bool.false_ne_true
  | bl i =>
    cases rx
    cases y with
    | non => cases ry; exact PySem.EqNone.ne_bool_none (fin_bl I q (by simp))
    | bl j => cases ry; exact ne_bool (fin_bl I q (congrArg not dec_bl))
    | str j => obtain ⟨t', rfl⟩ := ry; exact PySem.EqMixed.ne_bool_str (fin_bl I q (by simp))
    | _ => exact absurd (show false = true from hs) Bool.false_ne_true
  | int i =>
    obtain ⟨t, rfl⟩ := rx
    cases y with
    | non => cases ry; exact PySem.EqNone.ne_int_none (fin_bl I q (by simp))
    | int j => obtain ⟨t', rfl⟩ := ry; exact ne_int (fin_bl I q (congrArg not dec_int))
    | str j => obtain ⟨t', rfl⟩ := ry; exact PySem.EqMixed.ne_int_str (fin_bl I q (by simp))
    | _ => exact absurd (show false = true from hs) Bool.false_ne_true
  | str i =>
    obtain ⟨t, rfl⟩ := rx
    cases y with
    | non => cases ry; exact PySem.EqNone.ne_str_none (fin_bl I q (by simp))
    | bl j => cases ry; exact PySem.EqMixed.ne_str_bool (fin_bl I q (by simp))
    | int j => obtain ⟨t', rfl⟩ := ry; exact PySem.EqMixed.ne_str_int (fin_bl I q (by simp))
    | str j => obtain ⟨t', rfl⟩ := ry; exact ne_str (fin_bl I q (congrArg not dec_str))
    | _ => exact absurd (show false = true from hs) Bool.false_ne_true
  | byt i =>
    obtain ⟨t, rfl⟩ := rx
    cases y with
    | byt j => obtain ⟨t', rfl⟩ := ry; exact PySem.W.ne_bytes (fin_bl I q (congrArg not dec_byt))
    | _ => exact absurd (show false = true from hs) Bool.false_ne_true
  | _ => cases y <;> exact absurd (show false = true from hs) Bool.false_ne_true
theorem op_lt : OpR X (compareOp .Lt) (rI0 fun i j => .bl (decide (i < j))) := opB0 fun _ _ _ _ _ _ _ q => lt_int q
theorem op_le : OpR X (compareOp .LtE) (rI0 fun i j => .bl (decide (i ≤ j))) := opB0 fun _ _ _ _ _ _ _ q => le_int q
theorem op_gt : OpR X (compareOp .Gt) (rI0 fun i j => .bl (decide (j < i))) := opB0 fun _ _ _ _ _ _ _ q => gt_int q
theorem op_isN : OpR X (compareOp .Is) (fun x y H Q => y = .non ∧ Q (.bl (decide (x = .non))) H) := by
  intro pins s σ H x y v u Q I rx ry h
  obtain ⟨rfl, q⟩ := h
  cases ry
  refine is_none_gen (fin_bl I q ?_)
  cases x <;> first
    | (cases rx; rfl)
    | (obtain ⟨t, rfl⟩ := rx; rfl)
theorem op_notN : OpR X (compareOp .IsNot) (fun x y H Q => y = .non ∧ Q (.bl (!decide (x = .non))) H) := by
  intro pins s σ H x y v u Q I rx ry h
  obtain ⟨rfl, q⟩ := h
  cases ry
  refine isnot_none_gen (fin_bl I q ?_)
  cases x <;> first
    | (cases rx; rfl)
    | (obtain ⟨t, rfl⟩ := rx; rfl)
theorem OpR.or {f : Value → Value → Sem Value} {r r' : R2} (h : OpR X f r) (h' : OpR X f r') : OpR X f (fun x y H Q => r x y H Q ∨ r' x y H Q) := by
  intro pins s σ H x y v u Q I rx ry q
  rcases q with q | q
  · exact h pins s σ H x y v u Q I rx ry q
  · exact h' pins s σ H x y v u Q I rx ry q
theorem nomark (b : Expr) {op : CmpOp} (h : op ≠ .In := by decide) (h2 : op ≠ .NotIn := by decide) : behindInMarks op b = false := by
  have e1 : (op == CmpOp.In) = false := by cases op <;> first | rfl | exact absurd rfl h
  have e2 : (op == CmpOp.NotIn) = false := by cases op <;> first | rfl | exact absurd rfl h2
  cases b <;> simp [behindInMarks, e1, e2]
theorem pe_cmpR {op : CmpOp} {r : R2} (ho : OpR X (compareOp op) r) (ha : PE X a ta) (hb : PE X b tb) (hm : behindInMarks op b = false) : PE X (.Compare a [op] [b] pos) (tOp r ta tb) := by
  intro pins s σ H Q I h
  exact wpAny_Compare1 (binT ha hb I h fun v u s2 x y H2 I2 rx ry q => ho pins s2 σ H2 x y v u Q I2 rx ry q) hm
def tTest (t : TE) : TT := fun σ H Q => t σ H fun x H' => ∃ k, x = .bl k ∧ Q k H'
theorem pt_cmpR {op : CmpOp} {r : R2} (ho : OpR X (compareOp op) r) (ha : PE X a ta) (hb : PE X b tb) (hm : behindInMarks op b = false) : PT X (.Compare a [op] [b] pos) (tTest (tOp r ta tb)) := by
  intro pins s σ H Q I h
  refine wpAny_isTrue_Compare1 (thn (ha pins s σ H _ I h) fun v s1 ⟨x, H1, I1, r1, q1⟩ => thn (hb pins s1 σ H1 _ I1 q1) fun u s2 ⟨y, H2, I2, r2, q2⟩ =>
    thn (ho pins s2 σ H2 x y v u _ I2 r1 r2 q2) fun c s3 ⟨z, H3, I3, r3, k, e, q3⟩ => ?_) hm
  subst e
  cases r3
  exact wpAny_truthy_bool ⟨H3, I3, q3⟩
theorem line63 : (sizeLine : Nat) < 2 ^ 63 := by rw [sizeLine_eq]; decide
theorem vals1 {x : V} {us : List Value} (r : Vals [x] us) : ∃ u, us = [u] ∧ RelV x u := by
  cases r with
  | cons r1 r2 => cases r2; exact ⟨_, rfl, r1⟩
theorem vals2 {x y : V} {us : List Value} (r : Vals [x, y] us) : ∃ u w', us = [u, w'] ∧ RelV x u ∧ RelV y w' := by
  cases r with
  | cons r1 r2 =>
    cases r2 with
    | cons r3 r4 => cases r4; exact ⟨_, _, rfl, r1, r3⟩
theorem call_min2 (hc : X.calm = true) : CallR X (.builtin "min") (fun xs H Q => ∃ i j, xs = [.int i, .int j] ∧ Q (.int (if j < i then j else i)) H) := by
  intro pins s σ H xs us Q I r h
  obtain ⟨i, j, rfl, q⟩ := h
  obtain ⟨u, w', rfl, ⟨t, rfl⟩, ⟨t', rfl⟩⟩ := vals2 r
  refine min_two_ints (I.ok.hd hc) fun h' tk k => ⟨_, H, I.kept k, ?_, q⟩
  by_cases hj : j < i
  · rw [if_pos hj, if_pos hj]; exact ⟨_, rfl⟩
  · rw [if_neg hj, if_neg hj]; exact ⟨_, rfl⟩
end
end L2
namespace L2
open PySem PySem.Spec PyProof.Rows
structure ObjM (h : Heap) (x dx C : Addr) (mA : Str → Option Value) : Prop where
  obj : h.get? x = some (PySem.W.instObj C dx)
  ns : h.Ns1 dx mA
  ne : dx ≠ x
theorem lookIn_ns {h : Heap} {dx : Addr} {mA : Str → Option Value} (n : h.Ns1 dx mA) : ∃ od, h.get? dx = some od ∧ ∀ name, PySem.W.lookIn name od = some (mA name) := by
  obtain ⟨o, es, ep, ho, hd, hk, _, hm⟩ := n
  refine ⟨o, ho, fun name => ?_⟩
  have e := hm name
  unfold nsFind findBy at e
  rw [← Array.find?_toList] at e
  unfold PySem.W.lookIn
  rw [hd]
  dsimp only
  split
  · rename_i y q
    rw [q] at e
    exact congrArg some e
  · rename_i q
    rw [q] at e
    have a : es.toList.any (·.refKey) = false := by
      rw [List.any_eq_false]
      intro y hy
      obtain ⟨z, t, hkey⟩ := hk y (Array.mem_toList_iff.mp hy)
      simp [DictEntry.refKey, hkey]
    have a' : ¬ es.toList.any (·.refKey) = true := by rw [a]; exact Bool.false_ne_true
    rw [if_neg a']
    exact congrArg some e
theorem ObjM.look {h : Heap} {x dx C : Addr} {mA : Str → Option Value} (I : ObjM h x dx C mA) : ∃ od, PySem.W.InstAt h x (PySem.W.instObj C dx) C (some od) ∧ ∀ name, PySem.W.lookIn name od = some (mA name) :=
  let ⟨od, ho, hl⟩ := lookIn_ns I.ns
  ⟨od, ⟨I.obj, rfl, rfl, ho⟩, hl⟩
section
variable {prog : Program} {w : World} {A : Around} {E : Value → Shared → Prop} {s : Shared} {K : PySem.W.Frag} {x dx C f : Addr} {mA : Str → Option Value} {name : Str} {v : Value}
end
theorem RelO.some_of {v : V} {o : Option Value} (r : RelO (some v) o) : ∃ u, o = some u ∧ RelV v u := by
  cases o with
  | none => exact (show False from r).elim
  | some u => exact ⟨u, rfl, r⟩
theorem RelO.none_of {o : Option Value} (r : RelO none o) : o = none := by
  cases o with
  | none => rfl
  | some u => exact (show False from r).elim
section
variable {P : Program} {w : World} {H H' : Hp} {h h' : Heap} {a C dx : Addr} {fs fs' : List (Str × V)}
end
structure Cls (K : PySem.W.Frag) (C : Addr) : Prop where
  pg : PySem.W.plainGet K C Str.empty = true
  hd : PySem.W.hasDictIn K C = true
  po : PySem.W.plainOver K C = true
  sa : PySem.W.findIn K (.ref C) "__setattr__" = some (some (.builtin "object.__setattr__"))
theorem Cls.get {K : PySem.W.Frag} {C : Addr} (c : Cls K C) (f : Str) : PySem.W.plainGet K C f = true := c.pg
def NoAttr (K : PySem.W.Frag) (C : Addr) (f : Str) : Prop := PySem.W.findIn K (.ref C) f = some none
structure Con (K : PySem.W.Frag) (C : Addr) (f : Str) (v : V) (u : Value) : Prop where
  at_ : PySem.W.findIn K (.ref C) f = some (some u)
  rel : RelV v u
  get : PySem.W.specialIn K u "__get__" = some none
  cp : PySem.W.copiedNames.contains f = false
structure Meth (K : PySem.W.Frag) (C : Addr) (m : Str) (f : Addr) : Prop where
  at_ : PySem.W.findIn K (.ref C) m = some (some (.ref f))
  fn : PySem.W.isFn K (.ref f) = true
  kp : PySem.W.keepIn K (.ref f) = true
section
variable {X : Cx} {pins : List (Addr × Obj)} {σ : St} {H : Hp} {s : Shared} {a C dx : Addr} {fs : List (Str × V)} {f : Str} {v : V} {A : Around} {E : Value → Shared → Prop}
theorem Inv.made (I : Inv X pins σ H s) : Inv X pins σ (upd (upd H s.heap.objs.size (.own (s.heap.objs.size + 1))) (s.heap.objs.size + 1) (.ins C s.heap.objs.size []))
    { s with heap := (s.heap.push PySem.W.emptyDict).push (PySem.W.instObj C s.heap.objs.size) } := by
  have e1 : (s.heap.push PySem.W.emptyDict).get? s.heap.objs.size = some PySem.W.emptyDict := Heap.get?_push_size s.heap rfl
  have e2 : ((s.heap.push PySem.W.emptyDict).push (PySem.W.instObj C s.heap.objs.size)).get? (s.heap.objs.size + 1) = some (PySem.W.instObj C s.heap.objs.size) := by
    have := Heap.get?_push_size (s.heap.push PySem.W.emptyDict) (o := PySem.W.instObj C s.heap.objs.size) rfl
    rwa [Heap.size_push] at this
  have e3 : (s.heap.push PySem.W.emptyDict).Ns s.heap.objs.size (fun _ => none) := ⟨PySem.W.emptyDict, #[], _, e1, rfl, (fun e he => absurd he (by simp)), fun _ => rfl⟩
  have I1 := I.laid (a := s.heap.objs.size) (o := .own (s.heap.objs.size + 1)) (h' := s.heap.push PySem.W.emptyDict) (t' := s.toks) (fun b u q => Heap.get?_push_of_some _ q) (Nat.le_refl _) ⟨_, e1⟩
  refine I1.laid (a := s.heap.objs.size + 1) (o := .ins C s.heap.objs.size []) (t' := s.toks) (fun b u q => Heap.get?_push_of_some _ q) (Nat.le_of_eq (Heap.size_push _ _)) ?_
  have ne : s.heap.objs.size ≠ s.heap.objs.size + 1 := Nat.ne_of_lt (Nat.lt_succ_self _)
  refine ⟨by rw [upd_ne ne, upd_same], Nat.zero_le _, ne, e2, fun _ => none, (Heap.Ns1.of_empty e3).at fun o q => Heap.get?_push_of_some _ q, fun _ => True.intro, fun y hy => absurd rfl hy⟩
end
section
variable {X : Cx} {o e value : Expr} {f : Str} {pos pos' tpos : Pos} {ta tv : TE}
end
section
variable {X : Cx} {pins : List (Addr × Obj)} {σ : St} {H : Hp} {s : Shared} {A : Around} {E : Value → Shared → Prop} {Q : Value → Shared → Prop} {c : Value} {b : Bool}
inductive TyOf (K : PySem.W.Frag) (H : Hp) : V → Value → Prop where
  | non : TyOf K H .non (.type "NoneType")
  | bl (x : Bool) : TyOf K H (.bl x) (.type "bool")
  | int (i : Int) : TyOf K H (.int i) (.type "int")
  | str (x : Str) : TyOf K H (.str x) (.type "str")
  | flt (x : UInt64) : TyOf K H (.flt x) (.type "float")
  | lst {a : Addr} {xs : List V} (e : H a = some (.lst xs)) : TyOf K H (.ref a) (.type "list")
  | frz {a : Addr} {o : Obj} {xs : List V} (e : H a = some (.frz o (.lst xs))) : TyOf K H (.ref a) (.type "list")
  | tup {a : Addr} {xs : List V} (e : H a = some (.tup xs)) : TyOf K H (.ref a) (.type "tuple")
  | dK {a : Addr} {kvs : List (Key × V)} (e : H a = some (.dK kvs)) : TyOf K H (.ref a) (.type "dict")
  | dT {a : Addr} {kvs : List (List Key × V)} (e : H a = some (.dT kvs)) : TyOf K H (.ref a) (.type "dict")
  | ins {a C dx : Addr} {fs : List (Str × V)} (e : H a = some (.ins C dx fs)) (cl : Cls K C) (ha : PySem.W.findIn K (.ref C) "__class__" = some (some (.builtin "object.__class__")))
      (hn : PySem.W.specialIn K (.builtin "object.__class__") "__get__" = some (some (.builtin "getset_descriptor.__get__"))) (htk : PySem.W.takesIn K (.builtin "object.__class__") = some true)
      (hm : PySem.W.mroIn K C (.type "object") = some true) : TyOf K H (.ref a) (.ref C)
end
end L2
namespace L2
open PySem PySem.Spec PyProof.Rows
structure Room (k : Nat) (A : Around) : Prop where
  hd : A.handled = none
  dp : A.depth + 3 * k + 5 < recursionLimit
  un : A.units + 16 * k + 200 < cLine
theorem Room.mono {j k : Nat} {A : Around} (r : Room k A) (h : j ≤ k) : Room j A := ⟨r.hd, by have := r.dp; omega, by have := r.un; omega⟩
theorem Room.deeper {k : Nat} {A : Around} (r : Room (k + 1) A) (env : Env) : Room k (A.deeper env) :=
  ⟨r.hd, by have := r.dp; show A.depth + 1 + 3 * k + 5 < _; omega, by have := r.un; show A.units + 3 + 16 * k + 200 < _; omega⟩
theorem Room.in1 {k : Nat} {A : Around} (r : Room (k + 1) A) : Room k A.in1 :=
  ⟨r.hd, by have := r.dp; show A.depth + 3 * k + 5 < _; omega, by have := r.un; show A.units + 1 + 16 * k + 200 < _; omega⟩
theorem make_depth {A : Around} {C : Addr} {us : List Value} {kw : List (Str × Value)} : (A.under (.builtin "type.__call__" ⟨.ref C :: us, kw⟩)).depth = A.depth + 1 := by
  first | rfl | simp [Around.under, Code.weight, Code.isCreation, Code.isGuard, Code.isCaller, Code.frames, Code.isFrame, guardIds]
theorem make_units {A : Around} {C : Addr} {us : List Value} {kw : List (Str × Value)} : (A.under (.builtin "type.__call__" ⟨.ref C :: us, kw⟩)).units = A.units + 1 := by
  first | rfl | simp [Around.under, Code.cUnits, Code.frames, Code.isFrame]
theorem Room.make {k : Nat} {A : Around} (r : Room (k + 1) A) (C : Addr) (us : List Value) (kw : List (Str × Value)) : Room k (A.under (.builtin "type.__call__" ⟨.ref C :: us, kw⟩)) :=
  ⟨r.hd, by have := r.dp; rw [make_depth]; omega, by have := r.un; rw [make_units]; omega⟩
theorem Room.depth {k : Nat} {A : Around} (r : Room k A) : A.depth < recursionLimit := by have := r.dp; omega
theorem Room.units {k : Nat} {A : Around} (r : Room k A) : A.units + 64 < cLine := by have := r.un; omega
def tNil : TA := fun _ H Q => Q [] H
def tCons (ta : TE) (tr : TA) : TA := fun σ H Q => ta σ H fun x H1 => tr σ H1 fun xs H2 => Q (x :: xs) H2
section
variable {X : Cx} {e : Expr} {es : List Expr} {te : TE} {t : TA} {pos : Pos}
theorem pa_nil : PA X [] tNil := fun _ _ _ _ H Q I h => Calls.spliced_nil ⟨[], H, I, .nil, h⟩
theorem pa_cons (ha : PE X e te) (hr : PA X es t) (hs : starEach (e :: es) X.env = (false, eval e X.env) :: starEach es X.env := by rfl) : PA X (e :: es) (tCons te t) := by
  intro pos pins s σ H Q I h
  rw [hs]
  show wpAny _ _ (spliced ((false, eval e X.env) :: backTo pos (starEach es X.env))) _ _ s
  refine Calls.spliced_cons (thn (ha pins s σ H _ I h) fun u s1 ⟨x, H1, I1, r1, q1⟩ => ?_)
  exact thn (hr pos pins s1 σ H1 _ I1 q1) fun us s2 ⟨xs, H2, I2, r2, q2⟩ => ⟨x :: xs, H2, I2, .cons r1 r2, q2⟩
def tTup (t : TA) : TE := fun σ H Q => t σ H fun xs H1 => xs.length ≤ sizeLine ∧ ∀ p, H1 p = none → Q (.ref p) (upd H1 p (.tup xs))
def tLst (t : TA) : TE := fun σ H Q => t σ H fun xs H1 => xs.length ≤ sizeLine ∧ ∀ p, H1 p = none → Q (.ref p) (upd H1 p (.lst xs))
theorem pe_tup {x1} (h : PA X es t) : PE X (.Tuple es x1 pos) (tTup t) := by
  intro pins s σ H Q I hq
  refine wpAny_Tuple_spliced (thn (h pos pins s σ H _ I hq) fun us s1 ⟨xs, H1, I1, r, z, q⟩ => ⟨by rw [← r.length]; exact z, ?_⟩)
  have hf : H1 s1.heap.objs.size = none := I1.hok.fresh (Nat.le_refl _)
  refine ⟨.ref s1.heap.objs.size, upd H1 s1.heap.objs.size (.tup xs), I1.laid (t' := s1.toks) (fun b u e => Heap.get?_push_of_some _ e) (Nat.le_refl _) ?_, rfl, q _ hf⟩
  exact ⟨z, us, r, ⟨_, Heap.get?_push_size _ rfl, rfl, _, rfl⟩⟩
theorem pe_lst (h : PA X es t) : PE X (.List es pos) (tLst t) := by
  intro pins s σ H Q I hq
  refine wpAny_List_spliced (thn (h pos pins s σ H _ I hq) fun us s1 ⟨xs, H1, I1, r, z, q⟩ => ⟨by rw [← r.length]; exact z, ?_⟩)
  have hf : H1 s1.heap.objs.size = none := I1.hok.fresh (Nat.le_refl _)
  refine ⟨.ref s1.heap.objs.size, upd H1 s1.heap.objs.size (.lst xs), I1.laid (t' := s1.toks) (fun b u e => Heap.get?_push_of_some _ e) (Nat.le_refl _) ?_, rfl, q _ hf⟩
  exact ⟨z, us, 0, r, Heap.get?_push_size _ rfl⟩
end
abbrev Sp := List V → Hp → VK → XK → Prop
abbrev CXT := List Env → Hp → Shared → XK → Value → Shared → Prop
structure Env0 (P : Program) (w : World) (K : PySem.W.Frag) (mg : Str → Option Value) (base : Heap) (A : Around) (outer : List Env) (s : Shared) (H : Hp) : Prop where
  frames : A.frames = some outer
  mod : Mod K mg base
  bs : ∀ b o, base.get? b = some o → s.heap.get? b = some o ∧ H b = none
  bsz : base.objs.size ≤ s.heap.objs.size
  funs : s.heap.FunFrames base outer
  frf : ∀ b ∈ frs outer, H b = none
  hok : HOk P w H s.heap
  bare : AllBare s.gens
def CE (outer : List Env) (P : Program) (w : World) (H : Hp) (s : Shared) (Q : VK) (u : Value) (s' : Shared) : Prop :=
  ∃ v H', s'.os = s.os ∧ AllBare s'.gens ∧ Un (frs outer) [] H H' s.heap s'.heap ∧ HOk P w H' s'.heap ∧ RelV v u ∧ Q v H'
def CR (CX : CXT) (outer : List Env) (P : Program) (w : World) (H : Hp) (s : Shared) (Q : VK) (E : XK) (r : Result) (s' : Shared) : Prop :=
  match r with
  | .ok (.ret u) => CE outer P w H s Q u s'
  | .ok _ => False
  | .error e => CX outer H s E e s'
structure FnOk (P : Program) (w : World) (K : PySem.W.Frag) (mg : Str → Option Value) (base : Heap) (CX : CXT) (k : Nat) (f : Addr) (fd : FuncData) (ps : List Str) (sp : Sp) : Prop where
  len : ∀ vs H Q E, sp vs H Q E → vs.length = ps.length
  run : ∀ (A : Around) (outer : List Env) (s : Shared) (H : Hp) (args : Args) (us : List Value) (vs : List V) (Q : VK) (E : XK), Room k A → Env0 P w K mg base A outer s H → BindsTo s fd args (ps.zip us) → Vals vs us → sp vs H Q E →
    codeAny (model P w) A (.call (.ref f) args) (CR CX outer P w H s Q E) s
theorem FnOk.mono {P : Program} {w : World} {K : PySem.W.Frag} {mg : Str → Option Value} {base : Heap} {CX : CXT} {j k : Nat} {f : Addr} {fd : FuncData} {ps : List Str} {sp : Sp} (F : FnOk P w K mg base CX j f fd ps sp) (h : j ≤ k) :
    FnOk P w K mg base CX k f fd ps sp := ⟨F.len, fun A outer s H args us vs Q E hr => F.run A outer s H args us vs Q E (hr.mono h)⟩
theorem FnOk.imp {P : Program} {w : World} {K : PySem.W.Frag} {mg : Str → Option Value} {base : Heap} {CX : CXT} {k : Nat} {f : Addr} {fd : FuncData} {ps : List Str} {sp sp' : Sp} (F : FnOk P w K mg base CX k f fd ps sp)
    (h : ∀ vs H Q E, sp' vs H Q E → sp vs H Q E) : FnOk P w K mg base CX k f fd ps sp' :=
  ⟨fun vs H Q E q => F.len vs H Q E (h _ _ _ _ q), fun A outer s H args us vs Q E hr he hb hv hs => F.run A outer s H args us vs Q E hr he hb hv (h _ _ _ _ hs)⟩
theorem Env0.make {P : Program} {w : World} {K : PySem.W.Frag} {mg : Str → Option Value} {base : Heap} {A : Around} {outer : List Env} {s : Shared} {H : Hp} (e : Env0 P w K mg base A outer s H) (C : Addr) (us : List Value) (kw : List (Str × Value)) :
    Env0 P w K mg base (A.under (.builtin "type.__call__" ⟨.ref C :: us, kw⟩)) outer s H := ⟨by first | exact e.frames | (simpa [Around.under, Code.envs, Code.isFrame, pushEnvs] using e.frames), e.mod, e.bs, e.bsz, e.funs, e.frf, e.hok, e.bare⟩
theorem Env0.in1 {P : Program} {w : World} {K : PySem.W.Frag} {mg : Str → Option Value} {base : Heap} {A : Around} {outer : List Env} {s : Shared} {H : Hp} (e : Env0 P w K mg base A outer s H) :
    Env0 P w K mg base A.in1 outer s H := ⟨e.frames, e.mod, e.bs, e.bsz, e.funs, e.frf, e.hok, e.bare⟩
section
variable {X : Cx} {pins : List (Addr × Obj)} {σ : St} {H : Hp} {s s' : Shared}
theorem Inv.env0 (I : Inv X pins σ H s) : Env0 X.prog X.w X.K X.mg X.base X.A X.stack s H :=
  ⟨I.ok.frames, I.ok.mod, I.bs, Nat.le_trans I.ok.bsz I.sz, I.stack, I.stkFree, I.hok, I.bare⟩
theorem Inv.after {Q : VK} {u : Value} (I : Inv X pins σ H s) (h : CE X.stack X.prog X.w H s Q u s') : EP X pins σ Q u s' := by
  obtain ⟨v, H', os, bare, un, hok, r, q⟩ := h
  obtain ⟨hh, g, d, t, os'⟩ := s'
  obtain rfl : os' = s.os := os
  exact ⟨v, H', I.call (h' := hh) (g' := g) (d' := d) (t' := t) (ch := []) un hok bare (fun b z => absurd z (by simp)), r, q⟩
end
def tCall (sp : Sp) (dvs : List V) (E : XK) (t : TA) : TE := fun σ H Q => t σ H fun vs H1 => sp (vs ++ dvs) H1 Q E
def Binds (K : PySem.W.Frag) (fd : FuncData) (ps : List Str) (ds : List Value) : Prop :=
  ∀ (s : Shared) (us : List Value), K.In s.heap → (us ++ ds).length = ps.length → BindsTo s fd ⟨us, []⟩ (ps.zip (us ++ ds))
theorem Binds.all {K : PySem.W.Frag} {fd : FuncData} {ps : List Str} (h : ∀ us : List Value, us.length = ps.length → bindArgs fd ⟨us, []⟩ = pure (ps.zip us)) : Binds K fd ps [] := fun s us _ hl => by
  rw [List.append_nil] at hl ⊢
  exact .of_eq (h us hl)
def Passes (CX : CXT) (X : Cx) (E : XK) : Prop := ∀ (pins : List (Addr × Obj)) (σ : St) (H : Hp) (s : Shared) (e : Value) (s' : Shared), Inv X pins σ H s → CX X.stack H s E e s' → X.xe e s'
section
variable {X : Cx} {CX : CXT} {k : Nat} {f C : Addr} {fd : FuncData} {ps : List Str} {sp : Sp} {dvs : List V} {ds : List Value} {E : XK} {x m : Str} {p pos apos : Pos} {e o : Expr} {es : List Expr} {ta : TE} {t : TA}
theorem run_fn {pins : List (Addr × Obj)} {σ : St} {H : Hp} {s : Shared} {Q : VK} {us : List Value} {vs : List V} (F : FnOk X.prog X.w X.K X.mg X.base CX k f fd ps sp) (hr : Room k X.A) (hb : Binds X.K fd ps ds) (hd : Vals dvs ds) (hx : Passes CX X E)
    (I : Inv X pins σ H s) (r : Vals vs us) (h : sp (vs ++ dvs) H Q E) : wpAny (model X.prog X.w) X.A (call (.ref f) us) (EP X pins σ Q) X.xe s := by
  have r2 : Vals (vs ++ dvs) (us ++ ds) := r.append hd
  have hl : (us ++ ds).length = ps.length := by rw [← r2.length]; exact F.len _ _ _ _ h
  refine wpAny_call (codeAny_mono (F.run X.A X.stack s H ⟨us, []⟩ (us ++ ds) (vs ++ dvs) Q E hr I.env0 (hb s us I.kIn hl) r2 h) fun r s' hq => ?_)
  cases r with
  | error e => exact hx pins σ H s e s' I hq
  | ok fl =>
    cases fl with
    | ret u => exact I.after hq
    | next => exact False.elim hq
    | brk => exact False.elim hq
    | cont => exact False.elim hq
theorem pe_call (F : FnOk X.prog X.w X.K X.mg X.base CX k f fd ps sp) (hr : Room k X.A) (hg : Gl X x) (hm : X.mg x = some (.ref f)) (hk : PySem.W.keepIn X.K (.ref f) = true) (hb : Binds X.K fd ps ds) (hd : Vals dvs ds) (hx : Passes CX X E)
    (ha : PA X (e :: es) t) (hdb : (x == ("__debug__" : Str)) = false := by decide) (he : starEach (e :: es) X.env = (false, eval e X.env) :: starEach es X.env := by rfl) (hpl : (backTo pos (starEach es X.env)).any (·.1) = false := by rfl) :
    PE X (.Call (.Name x p) (e :: es) [] pos) (tCall sp dvs E t) := by
  intro pins s σ H Q I h
  refine wpAny_Call_Name_kw (ld_glob I hg hm ?_ hdb)
  refine PySem.W.callWith_K (h₀ := X.base) I.ok.mod.kin hk (thn (ha pos pins s σ H _ I h) fun us s1 ⟨vs, H1, I1, r, q⟩ => ⟨I1.kIn, ?_⟩) he hpl
  exact run_fn F hr hb hd hx I1 r q
structure Mk (K : PySem.W.Frag) (C f : Addr) : Prop where
  makes : PySem.W.makesIn K C = true
  init : PySem.W.findIn K (.ref C) "__init__" = some (some (.ref f))
  fn : PySem.W.isFn K (.ref f) = true
  kp : PySem.W.keepIn K (.ref C) = true
end
def PK (X : Cx) (kws : List Keyword) (t : TA) : Prop :=
  ∀ (pos : Pos) (pins : List (Addr × Obj)) (s : Shared) (σ : St) (H : Hp) (Q : List V → Hp → Prop), Inv X pins σ H s → t σ H Q → wpAny (model X.prog X.w) X.A (evalAll ((backToKw pos (keywordEach kws X.env)).map (·.2))) (AP X pins σ Q) X.xe s
section
variable {X : Cx} {CX : CXT} {k : Nat} {f C : Addr} {fd : FuncData} {ps ks : List Str} {sp : Sp} {E : XK} {x m : Str} {p pos apos kpos : Pos} {e o : Expr} {es : List Expr} {kws : List Keyword} {te ta : TE} {t tk : TA} {nm : Option Str}
theorem pk_nil : PK X [] tNil := fun _ _ _ _ H Q I h => wpAny_evalAll_nil ⟨[], H, I, .nil, h⟩
theorem pk_cons (ha : PE X e te) (hr : PK X kws t) : PK X (⟨nm, e, kpos⟩ :: kws) (tCons te t) := by
  intro pos pins s σ H Q I h
  show wpAny _ _ (evalAll ((do let v ← eval e X.env; standAt pos; pure v) :: (backToKw pos (keywordEach kws X.env)).map (·.2))) _ _ s
  refine wpAny_evalAll_cons (wpAny_bind (thn (ha pins s σ H _ I h) fun u s1 ⟨x, H1, I1, r1, q1⟩ => wpAny_bind (wpAny_standAt (wpAny_pure ?_))))
  exact thn (hr pos pins s1 σ H1 _ I1 q1) fun us s2 ⟨xs, H2, I2, r2, q2⟩ => ⟨x :: xs, H2, I2, .cons r1 r2, q2⟩
structure KBinds (K : PySem.W.Frag) (fd : FuncData) (ps ks : List Str) (g : List Value → List Value → List Value) (gV : List V → List V → List V) : Prop where
  to : ∀ (s : Shared) (us ws : List Value), K.In s.heap → (g us ws).length = ps.length → BindsTo s fd ⟨us, ks.zip ws⟩ (ps.zip (g us ws))
  rel : ∀ {vs : List V} {us : List Value} {zs : List V} {ws : List Value}, Vals vs us → Vals zs ws → Vals (gV vs zs) (g us ws)
variable {g : List Value → List Value → List Value} {gV : List V → List V → List V}
end
structure FnScope (N P : List Str) (sc : Scope) : Prop where
  kind : sc.kind = .function
  co : sc.isCoroutine = false
  gen : sc.isGenerator = false
  nd : N.Nodup
  pre : N.take P.length = P
  par : ∀ x ∈ P, sc.names.lookup x = some .local ∨ sc.names.lookup x = some .cell
  nofree : ∀ y ∈ sc.names, y.2 ≠ .free
theorem bindL_out {kindOf : Str → Option NameKind} {x : Str} : ∀ {binds : List (Str × Value)} {m : Str → Option Value}, (∀ v, (x, v) ∉ binds) → bindL kindOf binds m x = m x
  | [], _, _ => rfl
  | (n, v) :: r, m, h => by
    unfold bindL
    rw [bindL_out fun w hw => h w (List.mem_cons_of_mem _ hw)]
    split
    · have : x ≠ n := by rintro rfl; exact h v List.mem_cons_self
      simp [this]
    · rfl
theorem bindC_out {kindOf : Str → Option NameKind} {x : Str} : ∀ {binds : List (Str × Value)} {m : Str → Option Value}, (∀ v, (x, v) ∉ binds) → bindC kindOf binds m x = m x
  | [], _, _ => rfl
  | (n, v) :: r, m, h => by
    unfold bindC
    rw [bindC_out fun w hw => h w (List.mem_cons_of_mem _ hw)]
    split
    · rfl
    · have : x ≠ n := by rintro rfl; exact h v List.mem_cons_self
      simp [this]
theorem bindL_get {kindOf : Str → Option NameKind} {x : Str} {v : Value} : ∀ {P : List Str} {vs : List Value} {i : Nat} {m : Str → Option Value}, P.Nodup → P[i]? = some x → vs[i]? = some v → kindOf x = some .local →
    bindL kindOf (P.zip vs) m x = some v
  | [], _, _, _, _, h, _, _ => by simp at h
  | _ :: _, [], _, _, _, _, h, _ => by simp at h
  | p :: P, w :: vs, 0, m, nd, h1, h2, hk => by
    simp at h1 h2; subst h1; subst h2
    show bindL kindOf ((p, w) :: P.zip vs) m p = _
    unfold bindL
    rw [bindL_out fun v hv => (List.nodup_cons.mp nd).1 (List.of_mem_zip hv).1, if_pos hk]
    simp
  | p :: P, w :: vs, i + 1, m, nd, h1, h2, hk => by
    show bindL kindOf ((p, w) :: P.zip vs) m x = _
    unfold bindL
    exact bindL_get (i := i) (List.nodup_cons.mp nd).2 (by simpa using h1) (by simpa using h2) hk
theorem bindC_get {kindOf : Str → Option NameKind} {x : Str} {v : Value} : ∀ {P : List Str} {vs : List Value} {i : Nat} {m : Str → Option Value}, P.Nodup → P[i]? = some x → vs[i]? = some v → kindOf x ≠ some .local →
    bindC kindOf (P.zip vs) m x = some v
  | [], _, _, _, _, h, _, _ => by simp at h
  | _ :: _, [], _, _, _, _, h, _ => by simp at h
  | p :: P, w :: vs, 0, m, nd, h1, h2, hk => by
    simp at h1 h2; subst h1; subst h2
    show bindC kindOf ((p, w) :: P.zip vs) m p = _
    unfold bindC
    rw [bindC_out fun v hv => (List.nodup_cons.mp nd).1 (List.of_mem_zip hv).1, if_neg hk]
    simp
  | p :: P, w :: vs, i + 1, m, nd, h1, h2, hk => by
    show bindC kindOf ((p, w) :: P.zip vs) m x = _
    unfold bindC
    exact bindC_get (i := i) (List.nodup_cons.mp nd).2 (by simpa using h1) (by simpa using h2) hk
def start (N : List Str) (vs : List V) : St := vs.map some ++ List.replicate (N.length - vs.length) none
def cxOf (CX : CXT) (P : Program) (w : World) (K : PySem.W.Frag) (mg : Str → Option Value) (base : Heap) (N : List Str) (qual : Str) (scope : Scope) (f : Addr) (cd : Value) (A : Around) (outer : List Env) (s : Shared) (H : Hp) (E : XK) (fn : Str → Bool := fun _ => true) : Cx where
  prog := P
  w := w
  K := K
  mg := mg
  base := base
  A := A.deeper (envOfC qual scope s.heap.objs.size f cd)
  N := N
  s₀ := s
  H₀ := H
  env := envOfC qual scope s.heap.objs.size f cd
  outer := outer
  stack := envOfC qual scope s.heap.objs.size f cd :: outer
  ex := []
  calm := true
  fn := fn
  pn := []
  xe := fun e s' => wpAny (model P w) (A.deeper (envOfC qual scope s.heap.objs.size f cd)) (leaving (envOfC qual scope s.heap.objs.size f cd) e) (fun _ s'' => CX outer H s E e s'') (fun e' s'' => CX outer H s E e' s'') s'
theorem cell_has {sc : Scope} {n : Nat} {x : Str} (h : sc.names.lookup x = some .cell) : ∃ c, (cellsFrom n sc.names []).lookup x = some c := by
  have q := PySem.W.cellsFrom_some sc.names n [] (.inl h)
  exact Option.isSome_iff_exists.mp q
theorem inv_start {CX : CXT} {P : Program} {w : World} {K : PySem.W.Frag} {mg : Str → Option Value} {base : Heap} {N ps : List Str} {qual : Str} {scope : Scope} {f : Addr} {cd : Value} {A : Around} {outer : List Env} {s s1 : Shared} {H : Hp} {E : XK} {us : List Value} {vs : List V} {fn : Str → Bool}
    (S : FnScope N ps scope) (hd : A.handled = none) (e0 : Env0 P w K mg base A outer s H) (hl : vs.length = ps.length) (r : Vals vs us)
    (x : InCallC s s.heap.objs.size (bindL (envOfC qual scope s.heap.objs.size f cd).kindOf (ps.zip us) fun _ => none) (cellsFrom (s.heap.objs.size + 1) scope.names []) (bindC (envOfC qual scope s.heap.objs.size f cd).kindOf (ps.zip us) fun _ => none) s1) :
    Inv (cxOf CX P w K mg base N qual scope f cd A outer s H E fn) [] (start N vs) H s1 := by
  have hpl : ps.length ≤ N.length := by have := congrArg List.length S.pre; rw [List.length_take] at this; omega
  obtain ⟨h1, tk, rfl, hk⟩ := x.done
  have noA : ∀ b : Addr, b ∉ (cxOf CX P w K mg base N qual scope f cd A outer s H E fn).ex := fun b z => absurd (show b ∈ ([] : List Addr) from z) (by simp)
  refine ⟨⟨e0.mod, S.kind, rfl, rfl, Nat.le_refl _, fun y z c h1 h2 => ?_, fun y hy => ?_, fun y c _ h => ?_, fun _ => hd, Around.frames_deeper e0.frames, .inr ⟨rfl, rfl⟩, fun b z => absurd z (noA b), e0.bs, e0.bsz, fun b _ _ => noA b, fun b z => absurd z (noA b), e0.funs, e0.frf⟩,
    rfl, e0.bare, Un.kept hk, ⟨_, x.toInCall.ns, fun i y v h1 h2 h3 => ?_⟩, fun y c h => ⟨_, x.cell y c h⟩, e0.hok.fresh (Nat.le_refl _), fun y c h => ?_, fun p hp => absurd (show p ∈ ([] : List (Addr × Obj)) from hp) (by simp), e0.hok.kept hk, ?_⟩
  · exact name_of_addr x.apart (PySem.mem_of_lookup h1) (PySem.mem_of_lookup h2)
  · have hy : scope.names.lookup y = some .cell ∨ scope.names.lookup y = some .free := hy
    rcases hy with hy | hy
    · exact cell_has hy
    · exact absurd rfl (S.nofree _ (PySem.mem_of_lookup hy))
  · exact Nat.le_of_lt (x.above y c (PySem.mem_of_lookup h))
  · have hi : i < vs.length := by
      unfold start at h2
      by_cases hi : i < vs.length
      · exact hi
      · rw [List.getElem?_append_right (by simpa using hi)] at h2
        rw [List.getElem?_replicate] at h2
        split at h2 <;> cases h2
    have ha : vs[i]? = some v := by
      unfold start at h2
      rw [List.getElem?_append_left (by simpa using hi), List.getElem?_map] at h2
      cases e : vs[i]? with
      | none => rw [e] at h2; cases h2
      | some a => rw [e] at h2; cases h2; rfl
    obtain ⟨u, hu, rv⟩ := r.get ha
    have hp : ps[i]? = some y := by
      rw [← S.pre, List.getElem?_take_of_lt (by omega)]; exact h1
    have ndP : ps.Nodup := by rw [← S.pre]; exact S.nd.sublist (List.take_sublist _ _)
    refine ⟨u, rv, ?_⟩
    rcases S.par y (List.mem_of_getElem? hp) with k | k
    · exact .inl ⟨k, bindL_get ndP hp hu k⟩
    · obtain ⟨c, e⟩ := cell_has (n := s.heap.objs.size + 1) k
      refine .inr ⟨.inl k, c, e, ?_⟩
      have q := x.cell y c e
      rw [bindC_get ndP hp hu (by show scope.names.lookup y ≠ _; rw [k]; decide)] at q
      exact q
  · have z := e0.hok.fresh (Nat.le_of_lt (x.above y c (PySem.mem_of_lookup h)))
    exact ⟨fun _ => z, .inl z⟩
  · unfold start
    show _ = N.length
    rw [List.length_append, List.length_map, List.length_replicate]
    omega
theorem fn_of {CX : CXT} {P : Program} {w : World} {K : PySem.W.Frag} {mg : Str → Option Value} {base : Heap} {k : Nat} {f : Addr} {name qual : Str} {params : Arguments} {body : List Stmt} {scope : Scope} {dV kV doc pm cdv ct oc : Value} {an od : Option Addr}
    {osl : Array (Option Value)} {N ps : List Str} {sp : Sp} (lk : K.lookup f = some ⟨oc, od, .func (PySem.W.fnOf name qual params body scope dV kV doc pm an cdv ct), osl⟩) (hcd : PySem.W.codeIn K cdv qual = true) (S : FnScope N ps scope)
    (len : ∀ vs H Q E, sp vs H Q E → vs.length = ps.length)
    (hbody : ∀ (A : Around) (outer : List Env) (s : Shared) (H : Hp) (vs : List V) (Q : VK) (E : XK), Room k (A.deeper (envOfC qual scope s.heap.objs.size f cdv)) → sp vs H Q E →
      ∃ t, PSs (cxOf CX P w K mg base N qual scope f cdv A outer s H E) body t ∧ t { nx := fun _ H' => Q .non H', rt := Q } (start N vs) H) :
    FnOk P w K mg base CX (k + 1) f (PySem.W.fnOf name qual params body scope dV kV doc pm an cdv ct) ps sp := by
  refine ⟨len, fun A outer s H args us vs Q E hr e0 hb r hsp => ?_⟩
  have hl := len _ _ _ _ hsp
  have KX : K.In s.heap := e0.mod.kin.keeps fun b o e => (e0.bs b o e).1
  have lim : s.heap.NoLimit := e0.mod.nolimit.keeps fun b o e => (e0.bs b o e).1
  have hkind : ∀ y ∈ ps.zip us, scope.names.lookup y.1 = some .local ∨ (scope.names.lookup y.1 = some .cell ∧ ((cellsFrom (s.heap.objs.size + 1) scope.names []).lookup y.1).isSome = true) := fun ⟨n, v⟩ hy => by
    rcases S.par n (List.of_mem_zip hy).1 with q | q
    · exact .inl q
    · exact .inr ⟨q, PySem.W.cellsFrom_some _ _ _ (.inl q)⟩
  refine codeAny_call_function hr.depth (KX _ _ lk) rfl S.co S.gen rfl (PySem.W.codeRec_of KX hcd) (hb _ _ _ _ ?_)
  refine wpAny_newFunctionEnv_cells S.kind hkind fun env he s1 x => ?_
  subst he
  refine ⟨lim.keeps x.toInCall.keep, codeAny_func ?_⟩
  obtain ⟨t, ht, hq⟩ := hbody A outer s H vs Q E (hr.deeper _) hsp
  have I : Inv (cxOf CX P w K mg base N qual scope f cdv A outer s H E) [] (start N vs) H s1 := inv_start S hr.hd e0 hl r x
  refine wpAny_mono (ht [] s1 (start N vs) H _ I hq) (fun fl s' hs => ?_) fun e s' hs => hs
  have fin : ∀ {σ' : St} {H' : Hp} {v : V} {u : Value}, Inv (cxOf CX P w K mg base N qual scope f cdv A outer s H E) [] σ' H' s' → RelV v u → Q v H' → CE outer P w H s Q u s' :=
    fun {σ' H' v u} J rv q => ⟨v, H', J.os, J.bare, J.base, J.hok, rv, q⟩
  cases fl with
  | ret u =>
    obtain ⟨v, σ', H', J, rv, q⟩ := hs
    exact fin J rv q
  | next =>
    obtain ⟨σ', H', J, q⟩ := hs
    exact fin (v := V.non) (u := Value.none) J rfl q
  | brk =>
    obtain ⟨_, _, _, q⟩ := hs
    exact False.elim q
  | cont =>
    obtain ⟨_, _, _, q⟩ := hs
    exact False.elim q
end L2
namespace L2
open PySem PySem.Spec PyProof.Rows
section
variable {X : Cx} {x : Str} {p pos : Pos} {e : Expr} {es : List Expr} {t : TA} {id T : String} {r : List V → Hp → VK → Prop}
def tCB (r : List V → Hp → VK → Prop) (t : TA) : TE := fun σ H Q => t σ H fun vs H1 => r vs H1 Q
theorem pe_callB (hc : CallR X (.builtin id) r) (hg : Gl X x) (hm : X.mg x = none) (hv : bootBuiltins x = some (.builtin id)) (ha : PA X (e :: es) t) (hn : x ≠ "__name__" := by decide) (hdb : (x == ("__debug__" : Str)) = false := by decide)
    (he : starEach (e :: es) X.env = (false, eval e X.env) :: starEach es X.env := by rfl) (hpl : (backTo pos (starEach es X.env)).any (·.1) = false := by rfl) : PE X (.Call (.Name x p) (e :: es) [] pos) (tCB r t) := by
  intro pins s σ H Q I h
  refine wpAny_Call_Name_kw (ld_blt I hg hm hv ?_ hn hdb)
  exact PyProof.Rows.callWith_builtin1 (thn (ha pos pins s σ H _ I h) fun us s1 ⟨vs, H1, I1, r1, q1⟩ => hc pins s1 σ H1 vs us Q I1 r1 q1) he hpl
theorem pe_callTy (hc : CallR X (.type T) r) (hg : Gl X x) (hm : X.mg x = none) (hv : bootBuiltins x = some (.type T)) (ha : PA X (e :: es) t) (hn : x ≠ "__name__" := by decide) (hdb : (x == ("__debug__" : Str)) = false := by decide)
    (he : starEach (e :: es) X.env = (false, eval e X.env) :: starEach es X.env := by rfl) (hpl : (backTo pos (starEach es X.env)).any (·.1) = false := by rfl) : PE X (.Call (.Name x p) (e :: es) [] pos) (tCB r t) := by
  intro pins s σ H Q I h
  refine wpAny_Call_Name_kw (ld_blt I hg hm hv ?_ hn hdb)
  exact PyProof.Rows.callWith_type1 (thn (ha pos pins s σ H _ I h) fun us s1 ⟨vs, H1, I1, r1, q1⟩ => hc pins s1 σ H1 vs us Q I1 r1 q1) he hpl
end
end L2
namespace HT
open PySem PyProof.Rows
section
open PySem.SeqAt
open PySem.AutoSeq1 (wpAny_loadPart')
open PySem.MeetsSeq PySem.MeetsSeq2 PySem.MeetsSeq3
end
section
variable {prog : Program} {w : World} {A : Around} {E : Value → Shared → Prop} {s : Shared}
def sIx (n d : Nat) : Option Int → Nat
  | none => d
  | some v => if v < 0 then (v + (n : Int)).toNat else min v.toNat n
theorem sIx_none (n d : Nat) : sIx n d none = d := rfl
theorem sIx_nat (n d k : Nat) : sIx n d (some (k : Int)) = min k n := by
  show (if (k : Int) < 0 then ((k : Int) + (n : Int)).toNat else min (k : Int).toNat n) = min k n
  rw [if_neg (by omega), Int.toNat_natCast]
end
end HT
namespace L2
open PySem PySem.Spec PyProof.Rows
abbrev TO := St → Hp → (Option Int → Hp → Prop) → Prop
def PO (X : Cx) (e : Option Expr) (t : TO) : Prop :=
  ∀ (pins : List (Addr × Obj)) (s : Shared) (σ : St) (H : Hp) (Q : Option Int → Hp → Prop), Inv X pins σ H s → t σ H Q →
    wpAny (model X.prog X.w) X.A (evalPart e X.env) (fun u s' => ∃ o H', Inv X pins σ H' s' ∧ IsPart u o ∧ Q o H') X.xe s
def tNoPart : TO := fun _ H Q => Q none H
def tPart (t : TE) : TO := fun σ H Q => t σ H fun x H1 => ∃ i, x = .int i ∧ Q (some i) H1
theorem intsAre_of {ns : List Int} : ∀ {us : List Value}, Vals (ns.map V.int) us → IntsAre us ns := by
  induction ns with
  | nil => intro us r; rw [List.map_nil] at r; cases r; exact .nil
  | cons n ns ih =>
    intro us r
    rw [List.map_cons] at r
    cases r with
    | cons r1 r2 =>
      obtain ⟨t, e⟩ := r1
      subst e
      exact .cons n t (ih r2)
section
variable {X : Cx} {e : Expr} {te : TE} {lo hi : Option Expr} {tl th : TO} {pos p2 : Pos}
theorem po_none : PO X none tNoPart := by
  intro pins s σ H Q I h
  rw [evalPart_none]
  exact wpAny_pure ⟨none, H, I, .none, h⟩
theorem po_some (h : PE X e te) : PO X (some e) (tPart te) := by
  intro pins s σ H Q I hw
  rw [evalPart_some]
  refine thn (h pins s σ H _ I hw) fun u s1 ⟨x, H1, I1, r1, q1⟩ => ?_
  obtain ⟨i, rfl, q⟩ := q1
  obtain ⟨t, rfl⟩ := r1
  exact ⟨some i, H1, I1, .int i t, q⟩
def SlR (X : Cx) (r : V → Option Int → Option Int → Hp → VK → Prop) : Prop :=
  ∀ (pins : List (Addr × Obj)) (s : Shared) (σ : St) (H : Hp) (x : V) (v vl vu : Value) (lo hi : Option Int) (sl : Addr) (Q : VK), Inv X pins σ H s → RelV x v → s.heap.IsSliceOf sl vl vu .none → IsPart vl lo → IsPart vu hi → r x lo hi H Q →
    ∃ T id, typeLookup (.type T) "__getitem__" = pure (some (.builtin id)) ∧ s.TypeIs v T ∧ wpAny (model X.prog X.w) X.A (getItem v (.ref sl)) (EP X pins σ Q) X.xe s
theorem SlR.or {r r' : V → Option Int → Option Int → Hp → VK → Prop} (h : SlR X r) (h' : SlR X r') : SlR X (fun x lo hi H Q => r x lo hi H Q ∨ r' x lo hi H Q) := by
  intro pins s σ H x v vl vu lo hi sl Q I rx hs pl pu q
  rcases q with q | q
  · exact h pins s σ H x v vl vu lo hi sl Q I rx hs pl pu q
  · exact h' pins s σ H x v vl vu lo hi sl Q I rx hs pl pu q
def tSl (r : V → Option Int → Option Int → Hp → VK → Prop) (te : TE) (tl th : TO) : TE := fun σ H Q => te σ H fun x H1 => tl σ H1 fun l H2 => th σ H2 fun u H3 => r x l u H3 Q
theorem pe_slice {r : V → Option Int → Option Int → Hp → VK → Prop} (hr : SlR X r) (he : PE X e te) (hl : PO X lo tl) (hu : PO X hi th) : PE X (.Subscript e (.Slice lo hi none p2) pos) (tSl r te tl th) := by
  intro pins s σ H Q I h
  refine Subscript_ (thn (he pins s σ H _ I h) fun v s1 ⟨x, H1, I1, r1, q1⟩ => ?_)
  refine wpAny_Slice (thn (hl pins s1 σ H1 _ I1 q1) fun vl s2 ⟨l, H2, I2, pl, q2⟩ => thn (hu pins s2 σ H2 _ I2 q2) fun vu s3 ⟨u, H3, I3, pu, q3⟩ => ?_)
  rw [evalPart_none]
  refine wpAny_pure ?_
  have I4 : Inv X pins σ H3 { s3 with heap := s3.heap.push { cls := .type "slice", data := .fields #[vl, vu, .none] } } := I3.kept (t' := s3.toks) fun b ob q => Heap.get?_push_of_some _ q
  obtain ⟨T, id, hT, ht, hg⟩ := hr pins { s3 with heap := s3.heap.push { cls := .type "slice", data := .fields #[vl, vu, .none] } } σ H3 x v vl vu l u s3.heap.objs.size Q I4 r1 (Heap.IsSliceOf.new ..) pl pu q3
  show wpAny (model X.prog X.w) X.A (subscriptTail e (.Slice lo hi none p2) v (.ref s3.heap.objs.size)) (EP X pins σ Q) X.xe { s3 with heap := s3.heap.push { cls := .type "slice", data := .fields #[vl, vu, .none] } }
  exact tail_any (ops := [.ref s3.heap.objs.size, v]) ht hT hg (by with_unfolding_all rfl)
def cutV (xs : List V) (lo hi : Option Int) : List V := (xs.drop (HT.sIx xs.length 0 lo)).take (HT.sIx xs.length xs.length hi - HT.sIx xs.length 0 lo)
theorem cutV_length (xs : List V) (lo hi : Option Int) : (cutV xs lo hi).length ≤ xs.length := by
  unfold cutV
  rw [List.length_take, List.length_drop]
  omega
end
end L2
namespace L2
open PySem PySem.Spec PyProof.Rows
def ixN (n : Nat) (i : Int) : Option Nat := if 0 ≤ i then (if i < n then some i.toNat else none) else if -(n : Int) ≤ i then some (i + n).toNat else none
def atI {α : Type} (xs : List α) (i : Int) : Option α := (ixN xs.length i).bind fun j => xs[j]?
theorem ixN_seq {n : Nat} {i : Int} {j : Nat} (h : ixN n i = some j) : seqIndex? i n = some j ∧ j < n ∧ -(n : Int) ≤ i ∧ i < n := by
  unfold ixN at h
  by_cases h0 : 0 ≤ i
  · rw [if_pos h0] at h
    by_cases h1 : i < n
    · rw [if_pos h1] at h
      have e : i.toNat = j := Option.some.inj h
      exact ⟨by rw [seqIndex_of h0 h1, e], by omega, by omega, h1⟩
    · rw [if_neg h1] at h; cases h
  · rw [if_neg h0] at h
    by_cases h1 : -(n : Int) ≤ i
    · rw [if_pos h1] at h
      have e : (i + n).toNat = j := Option.some.inj h
      exact ⟨by rw [seqIndex_neg (by omega) h1, e], by omega, h1, by omega⟩
    · rw [if_neg h1] at h; cases h
theorem atI_get {α : Type} {xs : List α} {i : Int} {v : α} (h : atI xs i = some v) : ∃ j, seqIndex? i xs.length = some j ∧ xs[j]? = some v ∧ j < xs.length ∧ -(xs.length : Int) ≤ i ∧ i < xs.length := by
  unfold atI at h
  cases e : ixN xs.length i with
  | none => rw [e] at h; cases h
  | some j =>
    rw [e] at h
    obtain ⟨h1, h2, h3, h4⟩ := ixN_seq e
    exact ⟨j, h1, h, h2, h3, h4⟩
theorem atI_nat {α : Type} {xs : List α} {j : Nat} {v : α} (h : xs[j]? = some v) : atI xs (j : Int) = some v := by
  have hj : j < xs.length := (List.getElem?_eq_some_iff.mp h).1
  have e : ixN xs.length (j : Int) = some j := by
    unfold ixN
    rw [if_pos (by omega), if_pos (by omega)]; simp
  unfold atI; rw [e]; exact h
def PlainIx (b : Expr) : Prop := ∀ o i, subscripted b false o i = operate [o, i] (getItem o i)
def IxR (X : Cx) (r : R2) : Prop :=
  ∀ (value slice : Expr) (pins : List (Addr × Obj)) (s : Shared) (σ : St) (H : Hp) (x y : V) (v u : Value) (Q : VK), Inv X pins σ H s → RelV x v → RelV y u → r x y H Q →
    subscripted slice false v u = operate [v, u] (getItem v u) → wpAny (model X.prog X.w) X.A (subscriptTail value slice v u) (EP X pins σ Q) X.xe s
def MtR (X : Cx) (id : String) (r : V → List V → Hp → VK → Prop) : Prop :=
  ∀ (pins : List (Addr × Obj)) (s : Shared) (σ : St) (H : Hp) (x : V) (xs : List V) (v : Value) (us : List Value) (Q : VK), Inv X pins σ H s → RelV x v → Vals xs us → r x xs H Q →
    wpAny (model X.prog X.w) X.A (call (.builtin id) (v :: us)) (EP X pins σ Q) X.xe s
section
variable {X : Cx} {a b : Expr} {ta tb : TE} {pos : Pos}
theorem IxR.or {r r' : R2} (h : IxR X r) (h' : IxR X r') : IxR X (fun x y H Q => r x y H Q ∨ r' x y H Q) := by
  intro value slice pins s σ H x y v u Q I rx ry q hs
  rcases q with q | q
  · exact h value slice pins s σ H x y v u Q I rx ry q hs
  · exact h' value slice pins s σ H x y v u Q I rx ry q hs
theorem MtR.or {id : String} {r r' : V → List V → Hp → VK → Prop} (h : MtR X id r) (h' : MtR X id r') : MtR X id (fun x xs H Q => r x xs H Q ∨ r' x xs H Q) := by
  intro pins s σ H x xs v us Q I rx rs q
  rcases q with q | q
  · exact h pins s σ H x xs v us Q I rx rs q
  · exact h' pins s σ H x xs v us Q I rx rs q
theorem pe_ix {r : R2} (hr : IxR X r) (ha : PE X a ta) (hb : PE X b tb) (hs : PlainIx b) : PE X (.Subscript a b pos) (tOp r ta tb) := by
  intro pins s σ H Q I h
  exact Subscript_ (binT ha hb I h fun v u s2 x y H2 I2 rx ry q => hr a b pins s2 σ H2 x y v u Q I2 rx ry q (hs _ _))
def rIxL (K : PySem.W.Frag) : R2 := fun x y H Q => ∃ p xs i v, x = .ref p ∧ y = .int i ∧ SqL K H p xs ∧ atI xs i = some v ∧ Q v H
theorem ix_list : IxR X (rIxL X.K) := by
  intro value slice pins s σ H x y v u Q I rx ry h hs
  obtain ⟨p, xs, i, z, rfl, rfl, hq, he, q⟩ := h
  cases rx
  obtain ⟨t, rfl⟩ := ry
  obtain ⟨its, r, pl, hz⟩ := I.list hq
  obtain ⟨j, h1, h2, h3, h4, h5⟩ := atI_get he
  obtain ⟨w, ew, rw'⟩ := r.get h2
  have hl := r.length
  have hn := line63
  have fin : EP X pins σ Q w s := ⟨z, H, I, rw', q⟩
  by_cases h0 : 0 ≤ i
  · have hj : i.toNat = j := by
      rw [seqIndex_of h0 h5] at h1
      exact Option.some.inj h1
    exact item_listR pl.isList h0 (by omega) (by rw [hj]; simpa using ew) fin hs
  · have hj : (i + (its.toArray.size : Int)).toNat = j := by
      rw [seqIndex_neg (by omega) h4] at h1
      rw [List.size_toArray, ← hl]
      exact Option.some.inj h1
    exact subscriptTail_builtinR (x := w) pl.isList.typeIs slot_list_getitem.lookup
      (wpAny_getItem_list_neg (Q := fun r s' => r = w ∧ EP X pins σ Q r s') pl.isList (by omega) (by rw [List.size_toArray] <;> omega) (by omega) (by rw [hj]; simpa using ew) ⟨rfl, fin⟩) hs
theorem Inv.lst {pins : List (Addr × Obj)} {σ : St} {H : Hp} {s : Shared} {p : Addr} {xs : List V} (I : Inv X pins σ H s) (h : H p = some (.lst xs)) :
    ∃ (its : List Value) (n : Nat), Vals xs its ∧ s.heap.get? p = some { cls := .type "list", data := .seq its.toArray n } ∧ xs.length ≤ sizeLine := by
  obtain ⟨z, its, n, r, e⟩ := I.hok p _ h
  exact ⟨its, n, r, e, z⟩
theorem slice_bounds (lo hi : Option Int) (n : Nat) : (sliceBounds lo hi none n).1 = ((HT.sIx n 0 lo : Nat) : Int) ∧ (sliceBounds lo hi none n).2.1 = ((HT.sIx n n hi : Nat) : Int) ∧ (sliceBounds lo hi none n).2.2 = 1 := by
  refine ⟨?_, ?_, rfl⟩
  · cases lo with
    | none => simp [sliceBounds, HT.sIx]
    | some i =>
      simp only [sliceBounds, HT.sIx, Option.getD_none, show (1 : Int) > 0 by decide, if_true]
      by_cases h : i < 0
      · simp only [h, if_true] <;> omega
      · simp only [h, if_false] <;> omega
  · cases hi with
    | none => simp [sliceBounds, HT.sIx]
    | some i =>
      simp only [sliceBounds, HT.sIx, Option.getD_none, show (1 : Int) > 0 by decide, if_true]
      by_cases h : i < 0
      · simp only [h, if_true] <;> omega
      · simp only [h, if_false] <;> omega
theorem slicePick_cut (its : List Value) (lo hi : Option Int) : slicePick its.toArray lo hi none = ((its.drop (HT.sIx its.length 0 lo)).take (HT.sIx its.length its.length hi - HT.sIx its.length 0 lo)).toArray := by
  obtain ⟨h1, h2, h3⟩ := slice_bounds lo hi its.toArray.size
  unfold slicePick
  rw [h1, h2, h3]
  simp only [sliceRange_one, pick_run, List.size_toArray] <;> rfl
def rSlL (K : PySem.W.Frag) : V → Option Int → Option Int → Hp → VK → Prop := fun x lo hi H Q => ∃ a xs, x = .ref a ∧ SqL K H a xs ∧ ∀ p, H p = none → Q (.ref p) (upd H p (.lst (cutV xs lo hi)))
theorem sl_list : SlR X (rSlL X.K) := by
  intro pins s σ H x v vl vu lo hi sl Q I rx hs pl pu h
  obtain ⟨a, xs, rfl, hx, q⟩ := h
  cases rx
  obtain ⟨its, r, ht, hz⟩ := I.list hx
  have hlen := r.length
  refine ⟨"list", _, slot_list_getitem.lookup, ht.isList.typeIs, ?_⟩
  refine wpAny_getItem_list_slice ht.isList hs pl pu .none (by simp) ?_ (by rw [List.size_toArray] <;> omega)
  rw [slicePick_cut, ← hlen]
  refine ⟨.ref s.heap.objs.size, _, I.laid (t' := s.toks) (o := .lst (cutV xs lo hi)) (fun b ob q => Heap.get?_push_of_some _ q) (Nat.le_refl _) ?_, rfl, q _ (I.hok.fresh (Nat.le_refl _))⟩
  exact ⟨Nat.le_trans (cutV_length xs lo hi) hz, _, 0, (r.drop (HT.sIx xs.length 0 lo)).take (HT.sIx xs.length xs.length hi - HT.sIx xs.length 0 lo), Heap.get?_push_size _ rfl⟩
def flatV : V → Bool
  | .non => true
  | .bl _ => true
  | .int _ => true
  | .str _ => true
  | _ => false
def eqV : V → V → Bool
  | .non, .non => true
  | .bl a, .bl b => a == b
  | .bl a, .int b => (if a then 1 else 0) == b
  | .int a, .bl b => a == (if b then 1 else 0)
  | .int a, .int b => a == b
  | .str a, .str b => a == b
  | _, _ => false
theorem eqAt_V {A : Around} {s : Shared} {y x : V} {u v : Value} (ry : RelV y u) (rx : RelV x v) (fy : flatV y = true) (fx : flatV x = true) : SeqAt.EqAt A s u v (eqV y x) := by
  cases y with
  | non =>
    cases ry
    cases x with
    | non => cases rx; exact SeqAt.EqAt.same _
    | bl b => cases rx; exact SeqAt.EqAt.none_bool b
    | int b => obtain ⟨t, rfl⟩ := rx; exact SeqAt.EqAt.none_int b t
    | str b => obtain ⟨t, rfl⟩ := rx; exact SeqAt.EqAt.none_str b t
    | _ => exact absurd (show false = true from fx) Bool.false_ne_true
  | bl a =>
    cases ry
    cases x with
    | non => cases rx; exact SeqAt.EqAt.bool_none a
    | bl b => cases rx; exact SeqAt.EqAt.bool_bool a b
    | int b => obtain ⟨t, rfl⟩ := rx; exact SeqAt.EqAt.bool_int a b t
    | str b => obtain ⟨t, rfl⟩ := rx; exact SeqAt.EqAt.bool_str a b t
    | _ => exact absurd (show false = true from fx) Bool.false_ne_true
  | int a =>
    obtain ⟨t', rfl⟩ := ry
    cases x with
    | non => cases rx; exact SeqAt.EqAt.int_none a t'
    | bl b => cases rx; exact SeqAt.EqAt.int_bool a t' b
    | int b => obtain ⟨t, rfl⟩ := rx; exact SeqAt.EqAt.int_int a t' b t
    | str b => obtain ⟨t, rfl⟩ := rx; exact SeqAt.EqAt.int_str a t' b t
    | _ => exact absurd (show false = true from fx) Bool.false_ne_true
  | str a =>
    obtain ⟨t', rfl⟩ := ry
    cases x with
    | non => cases rx; exact SeqAt.EqAt.str_none a t'
    | bl b => cases rx; exact SeqAt.EqAt.str_bool a t' b
    | int b => obtain ⟨t, rfl⟩ := rx; exact SeqAt.EqAt.str_int a t' b t
    | str b => obtain ⟨t, rfl⟩ := rx; exact SeqAt.EqAt.str_str a t' b t
    | _ => exact absurd (show false = true from fx) Bool.false_ne_true
  | _ => exact absurd (show false = true from fy) Bool.false_ne_true
def eqU (x : V) (u : Value) : Bool := match u with
  | .none => eqV .non x
  | .bool b => eqV (.bl b) x
  | .int i _ => eqV (.int i) x
  | .str z _ => eqV (.str z) x
  | _ => false
theorem eqU_of {x y : V} {u : Value} (r : RelV y u) (f : flatV y = true) : eqU x u = eqV y x := by
  cases y with
  | non => cases r; rfl
  | bl b => cases r; rfl
  | int i => obtain ⟨t, rfl⟩ := r; rfl
  | str z => obtain ⟨t, rfl⟩ := r; rfl
  | _ => exact absurd (show false = true from f) Bool.false_ne_true
theorem any_eqU {x : V} : ∀ {xs : List V} {us : List Value}, Vals xs us → xs.all flatV = true → us.any (eqU x) = xs.any fun y => eqV y x
  | _, _, .nil, _ => rfl
  | y :: xs, u :: us, .cons r t, f => by
    rw [List.all_cons, Bool.and_eq_true] at f
    rw [List.any_cons, List.any_cons, eqU_of r f.1, any_eqU t f.2]
theorem mem_eqAt {A : Around} {s : Shared} {x : V} {v : Value} (rx : RelV x v) (fx : flatV x = true) : ∀ {xs : List V} {us : List Value}, Vals xs us → xs.all flatV = true → ∀ u ∈ us, SeqAt.EqAt A s u v (eqU x u)
  | _, _, .nil, _ => fun u hu => by cases hu
  | y :: xs, u :: us, .cons r t, f => fun u' hu => by
    rw [List.all_cons, Bool.and_eq_true] at f
    rcases List.mem_cons.mp hu with rfl | hu
    · rw [eqU_of r f.1]; exact eqAt_V r rx f.1 fx
    · exact mem_eqAt rx fx t f.2 u' hu
def inV (x : V) (xs : List V) : Bool := xs.any fun y => eqV y x
def rIn (K : PySem.W.Frag) (neg : Bool) : R2 := fun x y H Q => ∃ p xs, y = .ref p ∧ (SqL K H p xs ∨ SqT K H p xs) ∧ flatV x = true ∧ xs.all flatV = true ∧ Q (.bl (if neg then !inV x xs else inV x xs)) H
theorem op_in_seq : OpR X (compareOp .In) (rIn X.K false) := by
  intro pins s σ H x y v u Q I rx ry h
  obtain ⟨p, xs, rfl, hq, fx, fs, q⟩ := h
  cases ry
  rcases hq with hq | hq
  · obtain ⟨its, r, pl, hz⟩ := I.list hq
    refine SeqAt.in_listAt (eqU x) pl.isList (fun w hw => mem_eqAt rx fx r fs w (by simpa using hw)) ⟨.bl _, H, I, rfl, ?_⟩
    rw [show its.toArray.any (eqU x) = its.any (eqU x) by simp, any_eqU r fs]
    exact q
  · obtain ⟨its, r, pl, hz⟩ := I.tuple hq
    refine SeqAt.in_tupleAt (eqU x) pl (fun w hw => mem_eqAt rx fx r fs w (by simpa using hw)) ⟨.bl _, H, I, rfl, ?_⟩
    rw [show its.toArray.any (eqU x) = its.any (eqU x) by simp, any_eqU r fs]
    exact q
theorem op_notIn_seq : OpR X (compareOp .NotIn) (rIn X.K true) := by
  intro pins s σ H x y v u Q I rx ry h
  obtain ⟨p, xs, rfl, hq, fx, fs, q⟩ := h
  cases ry
  rcases hq with hq | hq
  · obtain ⟨its, r, pl, hz⟩ := I.list hq
    refine SeqAt.notIn_listAt (eqU x) pl.isList (fun w hw => mem_eqAt rx fx r fs w (by simpa using hw)) ⟨.bl _, H, I, rfl, ?_⟩
    rw [show its.toArray.any (eqU x) = its.any (eqU x) by simp, any_eqU r fs]
    exact q
  · obtain ⟨its, r, pl, hz⟩ := I.tuple hq
    refine SeqAt.notIn_tupleAt (eqU x) pl (fun w hw => mem_eqAt rx fx r fs w (by simpa using hw)) ⟨.bl _, H, I, rfl, ?_⟩
    rw [show its.toArray.any (eqU x) = its.any (eqU x) by simp, any_eqU r fs]
    exact q
theorem call_len_seq : CallR X (.builtin "len") (fun xs H Q => ∃ p ys, xs = [.ref p] ∧ (SqL X.K H p ys ∨ SqT X.K H p ys) ∧ Q (.int ys.length) H) := by
  intro pins s σ H xs us Q I r h
  obtain ⟨p, ys, rfl, hq, q⟩ := h
  obtain ⟨u, rfl, rx⟩ := vals1 r
  cases rx
  have hn := line63
  rcases hq with hq | hq
  · obtain ⟨its, r', pl, hz⟩ := I.list hq
    have hlen := r'.length
    exact Calls.call_len_list pl.isList (by simp only [List.size_toArray] <;> omega) ⟨.int ys.length, H, I.tok _, ⟨s.toks + 1, by rw [List.size_toArray, hlen]⟩, q⟩
  · obtain ⟨its, r', pl, hz⟩ := I.tuple hq
    have hlen := r'.length
    exact len_tuple pl (by simp only [List.size_toArray] <;> omega) ⟨.int ys.length, H, I.tok _, ⟨s.toks + 1, by rw [List.size_toArray, hlen]⟩, q⟩
theorem CallR.or {f : Value} {r r' : List V → Hp → VK → Prop} (h : CallR X f r) (h' : CallR X f r') : CallR X f (fun xs H Q => r xs H Q ∨ r' xs H Q) := by
  intro pins s σ H xs us Q I rs q
  rcases q with q | q
  · exact h pins s σ H xs us Q I rs q
  · exact h' pins s σ H xs us Q I rs q
theorem call_list_of : CallR X (.type "list") (fun xs H Q => ∃ p ys, xs = [.ref p] ∧ (SqL X.K H p ys ∨ SqT X.K H p ys) ∧ ∀ l, H l = none → Q (.ref l) (upd H l (.lst ys))) := by
  intro pins s σ H xs us Q I r h
  obtain ⟨p, ys, rfl, hq, q⟩ := h
  obtain ⟨u, rfl, rx⟩ := vals1 r
  cases rx
  have fin : ∀ (its : List Value), Vals ys its → ys.length ≤ sizeLine → ∀ (h' : Heap) (c' : Nat), (∀ b o', s.heap.get? b = some o' → h'.get? b = some o') →
      h'.get? s.heap.objs.size = some { cls := .type "list", dict := none, data := .seq its.toArray c', slots := #[] } → EP X pins σ Q (.ref s.heap.objs.size) { s with heap := h' } := fun its r' hz h' c' kp e =>
    ⟨.ref s.heap.objs.size, _, I.laid (t' := s.toks) kp (Nat.le_refl _) (show ObjOk X.prog X.w _ h' _ (.lst ys) from ⟨hz, its, c', r', e⟩), rfl, q _ (I.hok.fresh (Nat.le_refl _))⟩
  rcases hq with hq | hq
  · obtain ⟨its, r', pl, hz⟩ := I.list hq
    have hlen := r'.length
    obtain ⟨o, ho, hc, n, hd⟩ := pl.isList
    exact call_list_seq p (.inl rfl) ho hc hd (fun h' c' kp e => fin its r' hz h' c' kp e) (by simp only [List.size_toArray] <;> omega)
  · obtain ⟨its, r', pl, hz⟩ := I.tuple hq
    have hlen := r'.length
    obtain ⟨o, ho, hc, n, hd⟩ := pl
    exact call_list_seq p (.inr rfl) ho hc hd (fun h' c' kp e => fin its r' hz h' c' kp e) (by simp only [List.size_toArray] <;> omega)
def tyV (K : PySem.W.Frag) (T : String) (x : V) (H : Hp) : Prop := match x with
  | .str _ => T = "str"
  | .int _ => T = "int"
  | .ref p => (T = "list" ∧ ∃ xs, SqL K H p xs) ∨ (T = "tuple" ∧ ∃ o, K.lookup p = some o ∧ o.cls = .type "tuple" ∧ o.dict = none) ∨
      (T = "dict" ∧ ((∃ kvs, H p = some (.dK kvs)) ∨ ∃ kvs, H p = some (.dT kvs))) ∨ (T = "set" ∧ ∃ S n, H p = some (.set S n))
  | _ => False
theorem tyV_is {pins : List (Addr × Obj)} {σ : St} {H : Hp} {s : Shared} {T : String} {x : V} {v : Value} (I : Inv X pins σ H s) (r : RelV x v) (ty : tyV X.K T x H) :
    s.TypeIs v T ∧ ∀ a, v = .ref a → ∃ ob, s.heap.get? a = some ob ∧ ob.dict = none := by
  cases x with
  | str z =>
    obtain ⟨t, rfl⟩ := r
    cases (show T = "str" from ty)
    exact ⟨typeIs_str s z t, fun _ e => nomatch e⟩
  | int i =>
    obtain ⟨t, rfl⟩ := r
    cases (show T = "int" from ty)
    exact ⟨typeIs_int s i t, fun _ e => nomatch e⟩
  | ref p =>
    cases r
    rcases ty with ⟨rfl, xs, hq⟩ | ⟨rfl, o, hk, hc, hd⟩ | ⟨rfl, hk⟩ | ⟨rfl, S, n, hk⟩
    · obtain ⟨its, _, pl, _⟩ := I.list hq
      refine ⟨pl.isList.typeIs, fun a e => ?_⟩
      cases e
      obtain ⟨o, n, e, c, hd, _⟩ := pl
      exact ⟨o, e, hd⟩
    · refine ⟨⟨o, I.kIn p o hk, hc⟩, fun a e => ?_⟩
      cases e
      exact ⟨o, I.kIn _ o hk, hd⟩
    · have z : ∃ o, s.heap.get? p = some o ∧ o.ExactDict := by
        rcases hk with ⟨kvs, hk⟩ | ⟨kvs, hk⟩
        · obtain ⟨_, _, _, _, o, _, _, e, ex, _⟩ := I.hok p _ hk
          exact ⟨o, e, ex⟩
        · obtain ⟨_, _, _, _, o, _, _, e, ex, _⟩ := I.hok p _ hk
          exact ⟨o, e, ex⟩
      obtain ⟨o, e, ex⟩ := z
      refine ⟨⟨o, e, ex.1⟩, fun a e2 => ?_⟩
      cases e2
      exact ⟨o, e, ex.2.1⟩
    · obtain ⟨o, _, _, _, e, ex, _⟩ := I.hok p _ hk
      refine ⟨⟨o, e, ex.1⟩, fun a e2 => ?_⟩
      cases e2
      exact ⟨o, e, ex.2.1⟩
  | _ => exact False.elim ty
def tBM (K : PySem.W.Frag) (T : String) (r : V → List V → Hp → VK → Prop) (to : TE) (t : TA) : TE := fun σ H Q => to σ H fun x H1 => tyV K T x H1 ∧ t σ H1 fun xs H2 => r x xs H2 Q
variable {o e : Expr} {es : List Expr} {to : TE} {t : TA} {name : Str} {apos cpos : Pos} {T id : String} {r : V → List V → Hp → VK → Prop}
theorem pe_bm (pa : PlainAttrs T) (slot : Slot T name id) (hty : typeOf (.builtin id) = pure (.type "method_descriptor")) (hm : MtR X id r) (ho : PE X o to) (ha : PA X (e :: es) t)
    (hbase : attributeBase o name X.env (eval o X.env) = eval o X.env := by rfl)
    (hfew : ((backTo cpos (starEach (e :: es) X.env)).all (fun x => !x.1) && (backToKw cpos (keywordEach [] X.env)).all (fun x => x.1.isSome)
      && decide ((e :: es).length + ([] : List Keyword).length + (if ([] : List Keyword).isEmpty then 0 else 1) < 30)) = true := by rfl)
    (hline : (apos.endLine == cpos.line) = true := by rfl) (hs : starEach (e :: es) X.env = (false, eval e X.env) :: starEach es X.env := by rfl) (hplain : (backTo cpos (starEach es X.env)).any (·.1) = false := by rfl) :
    PE X (.Call (.Attribute o name apos) (e :: es) [] cpos) (tBM X.K T r to t) := by
  intro pins s σ H Q I h
  refine wpAny_Call_method_late hbase hfew hline rfl (thn (ho pins s σ H _ I h) fun v s1 ⟨x, H1, I1, r1, ty, q1⟩ => ?_)
  obtain ⟨h1, h2⟩ := tyV_is I1 r1 ty
  refine ⟨T, id, pa, slot, hty, h1, h2, ?_⟩
  have hA := ha cpos pins s1 σ H1 _ I1 q1
  rw [hs] at hA ⊢
  refine Calls.callWith_builtin (by show (false || (backTo cpos (starEach es X.env)).any (·.1)) = false; rw [hplain] <;> rfl) (Calls.evalArgs_plain ?_)
  exact thn hA fun us s2 ⟨vs, H2, I2, r2, q2⟩ => hm pins s2 σ H2 x vs v us Q I2 r1 r2 q2
end
end L2
namespace L2
open PySem PySem.Spec PyProof.Rows
def MtM (X : Cx) (id : String) (r : V → List V → Hp → VK → Prop) : Prop :=
  ∀ (pins : List (Addr × Obj)) (s : Shared) (σ : St) (H : Hp) (x : V) (xs : List V) (v : Value) (us : List Value) (Q : VK), Inv X pins σ H s → RelV x v → Vals xs us → r x xs H Q →
    wpAny (model X.prog X.w) X.A (call (.builtin id) (v :: us)) (EP X pins σ Q) X.xe s
theorem Vals.one : ∀ {x : V} {us : List Value}, Vals [x] us → ∃ u, us = [u] ∧ RelV x u
  | _, _, .cons r .nil => ⟨_, rfl, r⟩
theorem Vals.zero : ∀ {us : List Value}, Vals [] us → us = []
  | _, .nil => rfl
theorem Vals.eraseIdx : ∀ {xs : List V} {us : List Value} (i : Nat), Vals xs us → Vals (xs.eraseIdx i) (us.eraseIdx i)
  | _, _, _, .nil => .nil
  | _, _, 0, .cons _ t => t
  | _, _, i + 1, .cons r t => .cons r (Vals.eraseIdx i t)
theorem Vals.reverse {xs : List V} {us : List Value} (h : Vals xs us) : Vals xs.reverse us.reverse := by
  induction h with
  | nil => exact .nil
  | cons r t ih => rw [List.reverse_cons, List.reverse_cons]; exact Vals.append ih (.cons r .nil)
theorem len_erase {α : Type} : ∀ (l : List α) (i : Nat), (l.eraseIdx i).length ≤ l.length
  | [], _ => Nat.le_refl _
  | _ :: _, 0 => Nat.le_succ _
  | _ :: r, i + 1 => Nat.succ_le_succ (len_erase r i)
section
variable {X : Cx} {pins : List (Addr × Obj)} {σ : St} {H : Hp} {s : Shared} {l b : Addr} {xs ys zs : List V}
theorem Inv.lset {its its' : List Value} {n : Nat} {f : Array Value → Array Value} {t' : Nat} (I : Inv X pins σ H s) (hH : H l = some (.lst xs))
    (e : s.heap.get? l = some { cls := .type "list", data := .seq its.toArray n }) (hf : f its.toArray = its'.toArray) (hv : Vals ys its') (hz : ys.length ≤ sizeLine) :
    Inv X pins σ (upd H l (.lst ys)) { s with heap := s.heap.update l (Obj.mapSeq f), toks := t' } := by
  have q := PySem.IsL.update e f
  rw [hf] at q
  refine I.write (x := l) (e := l) (by rw [hH]; exact trivial) (.inl rfl) (fun b' u hb hu => (Heap.get?_update_other s.heap (Obj.mapSeq f) (Ne.symm hb)).trans hu) ⟨_, q⟩ ?_
  exact ⟨hz, its', _, hv, q⟩
theorem Inv.lnew {its : List Value} {t' : Nat} (I : Inv X pins σ H s) (hv : Vals ys its) (hz : ys.length ≤ sizeLine) :
    Inv X pins σ (upd H s.heap.objs.size (.lst ys)) { s with heap := s.heap.push { cls := .type "list", data := .seq its.toArray }, toks := t' } :=
  I.laid (fun _ _ q => Heap.get?_push_of_some _ q) (Nat.le_refl _) ⟨hz, its, 0, hv, Heap.get?_push_size _ rfl⟩
theorem Inv.fresh (I : Inv X pins σ H s) : H s.heap.objs.size = none := I.hok.fresh (Nat.le_refl _)
theorem Inv.lstM (I : Inv X pins σ H s) (hH : H l = some (.lst xs)) : xs.length ≤ sizeLine ∧ ∃ (its : List Value) (n : Nat), Vals xs its ∧ xs.length = its.length ∧ s.heap.get? l = some { cls := .type "list", data := .seq its.toArray n } := by
  obtain ⟨z, its, n, r, e⟩ := I.hok l _ hH
  exact ⟨z, its, n, r, r.length, e⟩
end
section
variable {X : Cx}
def rAppend : V → List V → Hp → VK → Prop := fun x vs H Q => ∃ l xs y, x = .ref l ∧ vs = [y] ∧ H l = some (.lst xs) ∧ xs.length < sizeLine ∧ Q .non (upd H l (.lst (xs ++ [y])))
theorem mt_append : MtM X "list.append" rAppend := by
  intro pins s σ H x vs v us Q I rx rv h
  obtain ⟨l, xs, y, rfl, rfl, hH, hz, q⟩ := h
  cases rx
  obtain ⟨u, rfl, ru⟩ := rv.one
  obtain ⟨z, its, n, r, hl, e⟩ := I.lstM hH
  refine call_meets F.slot_list_append ⟨_, e, rfl⟩ F.entry_list_append (F.args_list_append_2 _ _) (PySem.list_append l its.toArray n u (by rw [List.size_toArray]; omega)) ⟨e, ?_⟩
  refine ⟨.non, _, I.lset (its' := its ++ [u]) hH e (by simp) (r.append (.cons ru .nil)) ?_, rfl, q⟩
  rw [List.length_append, List.length_singleton]
  omega
def rPopAt : V → List V → Hp → VK → Prop := fun x vs H Q => ∃ l xs i k y, x = .ref l ∧ vs = [.int i] ∧ H l = some (.lst xs) ∧ -(2 ^ 63) ≤ i ∧ i < 2 ^ 63 ∧ seqIndex? i xs.length = some k ∧ xs[k]? = some y ∧ Q y (upd H l (.lst (xs.eraseIdx k)))
theorem mt_popAt : MtM X "list.pop" rPopAt := by
  intro pins s σ H x vs v us Q I rx rv h
  obtain ⟨l, xs, i, k, y, rfl, rfl, hH, h1, h2, hk, hy, q⟩ := h
  cases rx
  obtain ⟨u, rfl, ru⟩ := rv.one
  obtain ⟨t, rfl⟩ := ru
  obtain ⟨z, its, n, r, hl, e⟩ := I.lstM hH
  obtain ⟨w, hw, rw'⟩ := r.get hy
  refine call_meets F.slot_list_pop ⟨_, e, rfl⟩ F.entry_list_pop (F.args_list_pop_2 _ _)
    (MeetsSeq.list_pop_at l its.toArray n i t k w (fitsIndex_both h1 h2) (by rw [List.size_toArray, ← hl]; exact hk) (by rw [← Array.getElem?_toList]; exact hw) (by rw [List.size_toArray]; omega)) ⟨e, ?_⟩
  refine ⟨y, _, I.lset (its' := its.eraseIdx k) hH e ?_ (r.eraseIdx k) ?_, rw', q⟩
  · show its.toArray.eraseIdxIfInBounds k = (its.eraseIdx k).toArray
    rw [List.eraseIdxIfInBounds_toArray]
  · have := len_erase xs k
    omega
def rCat : R2 := fun x y H Q => ∃ l b xs zs, x = .ref l ∧ y = .ref b ∧ H l = some (.lst xs) ∧ H b = some (.lst zs) ∧ xs.length + zs.length ≤ sizeLine ∧ ∀ p, H p = none → Q (.ref p) (upd H p (.lst (xs ++ zs)))
theorem op_cat : OpR X (binaryOp .Add) rCat := by
  intro pins s σ H x y v u Q I rx ry h
  obtain ⟨l, b, xs, zs, rfl, rfl, hH, hB, hz, q⟩ := h
  cases rx
  cases ry
  obtain ⟨z, its, n, r, hl, e⟩ := I.lstM hH
  obtain ⟨z2, its2, n2, r2, hl2, e2⟩ := I.lstM hB
  refine PySem.P.add_list e e2 ?_ (by rw [List.size_toArray, List.size_toArray]; omega)
  have ea : its.toArray ++ its2.toArray = (its ++ its2).toArray := by simp
  rw [ea]
  exact ⟨.ref _, _, I.lnew (t' := s.toks) (r.append r2) (by rw [List.length_append]; omega), rfl, q _ I.fresh⟩
end
section
variable {prog : Program} {w : World} {A : Around} {E : Value → Shared → Prop} {s : Shared}
set_option maxRecDepth 100000 in
end
section
variable {X : Cx}
end
end L2
namespace Att
open PySem PySem.W PySem.Calls PyProof.Rows
theorem ints_of_wellAll {P : Params} {h : Heap} : ∀ (ns : List Int) (vs : List Value), WellAll P h vs (ns.map WData.int) → IntsAre vs ns := by
  intro ns
  induction ns with
  | nil =>
    intro vs w
    rw [List.map_nil] at w
    cases w
    exact .nil
  | cons n ns ih =>
    intro vs w
    rw [List.map_cons] at w
    cases w with
    | cons a b =>
      cases a
      exact .cons _ _ (ih _ b)
theorem script_of {l : OpenLaw} {n : Nat} (hn : l.most = some n) {P : Params} {h : Heap} {args : List WData} {vals : List Value}
    (hpre : l.row.toRowW.claim.pre args = true) (hwl : WellAll P h vals args) :
    ∃ a vs ns, vals = [Value.ref a] ∧ args = [WData.list (ns.map WData.int)] ∧ h.get? a = some { cls := .type "list", data := .seq vs.toArray } ∧ IntsAre vs ns ∧ ns.length ≤ n := by
  have hsh : WShape.hasAll [] args [.list .int] = true := (pre_splitW hpre).1
  have hc : l.pre.holds [] { args := args } = true := (pre_splitW hpre).2
  obtain ⟨d, r, rfl, h1, h2⟩ := hasAllW_cons hsh
  obtain rfl := hasAllW_nil h2
  obtain ⟨xs, rfl, h3⟩ := hasW_list h1
  obtain ⟨ns, rfl⟩ := items_int h3
  have hlen : ns.length ≤ n := by
    unfold OpenLaw.pre at hc
    have h4 : (WTm.not (.lt (.lit (.int (n : Int))) (.len (.arg 0)))).holds [] { args := [.list (ns.map .int)] } = true := by
      have h4 := (holds_andW hc).1
      rw [hn] at h4
      exact h4
    have h5 := condW_of h4 (w_not (w_lt w_lit (w_len_list (w_arg rfl))))
    rw [List.length_map] at h5
    refine Nat.le_of_not_lt fun q => ?_
    have q' : (n : Int) < ((ns.length : Nat) : Int) := by omega
    first
      | (rw [decide_eq_true q'] at h5; exact absurd h5 (by decide))
      | (simp at h5; omega)
  cases hwl with
  | cons w1 w2 =>
    cases w2
    cases w1 with
    | list ho hall => exact ⟨_, _, ns, rfl, rfl, ho, ints_of_wellAll ns _ hall, hlen⟩
theorem post_true (l : OpenLaw) (args : List WData) : l.row.toRowW.claim.post args (.bool true) args = true :=
  postW_of (r := l.row.toRowW) (X := (true == true))
    (show WShape.has [] (.bool true) .bool = true by first | rfl | decide | simp [WShape.has, WShape.arms, WShape.armsAll])
    (show (WTm.eq .res (.lit (.bool true))).value [] { args := args, res := some (.bool true), after := args } = some (.bool (true == true)) from w_eq_bool (w_res rfl) w_lit) rfl
theorem attach_call {l : OpenLaw} {n : Nat} {q : Program} {loose : List Str} {XP : (Str → Option Value) → Heap → Prop} {YP : World → Heap → Prop} {d : DefRec}
    (hn : l.most = some n) (hdf : d.params.defaults = [])
    (call : ∀ (w : World) (s₀ s₁ : Shared) (mg mb : Str → Option Value) (fa : Addr) (o : Obj) (pm cd doc : Value) (a : Addr) (vs : List Value) (ns : List Int),
      Ground q loose [] XP w s₀ mg mb s₁.heap → YP w s₁.heap →
      s₁.heap.get? fa = some o → o.data = .func (docDef d.name d.params d.body d.scope pm cd doc) → s₁.heap.CodeRec cd d.name → mg d.name = some (.ref fa) →
      s₁.heap.get? a = some { cls := .type "list", data := .seq vs.toArray } → IntsAre vs ns → ns.length ≤ n → s₁.gens = #[] →
      codeAny (model l.prog w) callerA (.call (.ref fa) ⟨[.ref a], []⟩) (fun r s' => r = .ok (.ret (.bool true)) ∧ OldK s₁.heap s'.heap ∧ s'.os = s₁.os ∧ AllBare s'.gens) s₁) :
    WalkO q loose XP YP l.row.toRowW d [] (fun f vs => PySem.call f vs) := by
  intro w s₀ s₁ mg mb G Y fa o pm cd doc dV kV ho hd hcd hD hmg hg args vals as hpre hlay hrd hwl hlo
  obtain rfl : dV = .none := Dflts.none hD hdf
  obtain rfl : kV = .none := Dflts.noKw hD
  obtain ⟨a, vs, ns, rfl, rfl, hobj, hints, hlen⟩ := script_of hn hpre hwl
  refine enter_call (codeAny_mono (call w s₀ s₁ mg mb fa o pm cd doc a vs ns G Y ho (fd_plain hd) hcd hmg hobj hints hlen hg) fun r s' hq => ?_)
  obtain ⟨rfl, h2, h3, h4⟩ := hq
  exact ⟨.inl ⟨.bool true, .bool true, [], rfl, fun _ => rfl, .bool true, post_true l _, fun _ => ⟨List.Pairwise.nil, fun _ hm => (nomatch hm)⟩⟩, h2, h3, h4⟩
section
variable {prog : Program} {w : World} {A : Around} {E : Value → Shared → Prop} {s : Shared} {K : Frag}
end
end Att
namespace L2
open PySem PySem.Spec PyProof.Rows
theorem vals_ints : ∀ {vs : List Value} {ns : List Int}, IntsAre vs ns → Vals (ns.map V.int) vs
  | _, _, .nil => .nil
  | _, _, .cons n t h => .cons ⟨t, rfl⟩ (vals_ints h)
end L2
namespace L2
open PySem PySem.Spec PyProof.Rows
end L2
namespace L2
open PySem PySem.Spec PyProof.Rows
def defArgs (s : Stmt) : Arguments := match s with
  | .FunctionDef _ a _ _ _ _ _ _ _ _ => a
  | _ => { posonlyargs := [], args := [], vararg := none, kwonlyargs := [], kw_defaults := [], kwarg := none, defaults := [] }
def defBody (s : Stmt) : List Stmt := match s with
  | .FunctionDef _ _ b _ _ _ _ _ _ _ => b
  | _ => []
def defScope (s : Stmt) : Scope := match s with
  | .FunctionDef _ _ _ _ _ _ sc _ _ _ => sc
  | _ => { kind := .function, names := [], isGenerator := false, isCoroutine := false }
abbrev CX0 : CXT := fun _ _ _ _ _ _ => False
abbrev E0 : XK := fun _ _ _ => False
theorem pass0 {X : Cx} : Passes CX0 X E0 := fun _ _ _ _ _ _ _ h => h.elim
structure Fun (K : PySem.W.Frag) (x qual : Str) (st : Stmt) (f : Addr) (fd : FuncData) : Prop where
  ex : ∃ (oc : Value) (od : Option Addr) (kV doc pm : Value) (an : Option Addr) (cdv ct : Value) (osl : Array (Option Value)),
    fd = PySem.W.fnOf x qual (defArgs st) (defBody st) (defScope st) .none kV doc pm an cdv ct ∧ K.lookup f = some ⟨oc, od, .func fd, osl⟩ ∧ PySem.W.codeIn K cdv qual = true
  kp : PySem.W.keepIn K (.ref f) = true
section
variable {P : Program} {w : World} {K : PySem.W.Frag} {mg : Str → Option Value} {base : Heap}
theorem Fun.ok {x qual : Str} {st : Stmt} {f : Addr} {fd : FuncData} {N ps : List Str} {k : Nat} {sp : Sp} (F : Fun K x qual st f fd) (S : FnScope N ps (defScope st)) (len : ∀ vs H Q E, sp vs H Q E → vs.length = ps.length)
    (hbody : ∀ (cdv : Value) (A : Around) (outer : List Env) (s : Shared) (H : Hp) (vs : List V) (Q : VK) (E : XK), Room k (A.deeper (envOfC qual (defScope st) s.heap.objs.size f cdv)) → sp vs H Q E →
      ∃ t, PSs (cxOf CX0 P w K mg base N qual (defScope st) f cdv A outer s H E).nox (defBody st) t ∧ t { nx := fun _ H' => Q .non H', rt := Q } (start N vs) H) : FnOk P w K mg base CX0 (k + 1) f fd ps sp := by
  obtain ⟨oc, od, kV, doc, pm, an, cdv, ct, osl, rfl, lk, hcd⟩ := F.ex
  refine fn_of lk hcd S len fun A outer s H vs Q E hr hsp => ?_
  obtain ⟨t, h, q⟩ := hbody cdv A outer s H vs Q E hr hsp
  exact ⟨t, h.nox, q⟩
theorem Fun.binds {x qual : Str} {st : Stmt} {f : Addr} {fd : FuncData} {ps : List Str} (F : Fun K x qual st f fd)
    (h : ∀ (kV doc pm : Value) (an : Option Addr) (cdv ct : Value) (us : List Value), us.length = ps.length → bindArgs (PySem.W.fnOf x qual (defArgs st) (defBody st) (defScope st) .none kV doc pm an cdv ct) ⟨us, []⟩ = pure (ps.zip us)) : Binds K fd ps [] := by
  obtain ⟨oc, od, kV, doc, pm, an, cdv, ct, osl, rfl, lk, hcd⟩ := F.ex
  exact .all (h kV doc pm an cdv ct)
theorem fun_mk {x qual : Str} {st : Stmt} {f : Addr} {oc : Value} {od an : Option Addr} {osl : Array (Option Value)} {kV doc pm cdv ct : Value} (l : K.lookup f = some ⟨oc, od, .func (PySem.W.fnOf x qual (defArgs st) (defBody st) (defScope st) .none kV doc pm an cdv ct), osl⟩)
    (c : PySem.W.codeIn K cdv qual = true) (k : PySem.W.keepIn K (.ref f) = true) : Fun K x qual st f (PySem.W.fnOf x qual (defArgs st) (defBody st) (defScope st) .none kV doc pm an cdv ct) := ⟨⟨oc, od, kV, doc, pm, an, cdv, ct, osl, rfl, l, c⟩, k⟩
end
theorem hu_of {A : Around} {k : Nat} (hr : Room k A) : A.units + 1 < cLine := Nat.lt_of_le_of_lt (Nat.add_le_add_left (by decide : 1 ≤ 64) _) hr.units
theorem small1000 {n : Nat} (h : n ≤ 1000) : n < sizeLine := Nat.lt_of_le_of_lt h (by decide)
section
variable {X : Cx}
theorem pv (i : Nat) {x : Str} {pos : Pos} (hN : X.N[i]? = some x := by rfl) (hv : Vis X.env.scope x := by first | exact Or.inl rfl | exact Or.inr (Or.inl rfl) | exact Or.inr (Or.inr rfl)) (hd : (x == ("__debug__" : Str)) = false := by decide)
    (hcd : (x == ("__classdict__" : Str)) = false := by decide) : PE X (.Name x pos) (tVar i) := pe_var hN hv hd hcd
end
theorem iteF {A B : Prop} (h : B) : if false = true then A else B := by
  rw [if_neg Bool.false_ne_true]
  exact h
theorem iteT {A B : Prop} (h : A) : if true = true then A else B := by
  rw [if_pos rfl]
  exact h
theorem ite2 {c A B : Prop} [Decidable c] (h1 : c → A) (h2 : ¬ c → B) : if c then A else B := by
  by_cases h : c
  · rw [if_pos h]
    exact h1 h
  · rw [if_neg h]
    exact h2 h
theorem iteNS {c A B : Prop} [Decidable c] (hc : c) (h : B) : if (!decide c) = true then A else B := by
  rw [decide_eq_true hc]
  exact iteF h
def Same (H H' : Hp) : Prop := ∀ b o, H b = some o → H' b = some o
theorem Same.refl (H : Hp) : Same H H := fun _ _ h => h
theorem Same.trans {H H1 H2 : Hp} (a : Same H H1) (b : Same H1 H2) : Same H H2 := fun c o h => b c o (a c o h)
theorem Same.free {H H' : Hp} (e : Same H H') {l : Addr} (h : H' l = Option.none) : H l = Option.none := by
  cases q : H l with
  | none => rfl
  | some o =>
    rw [e l o q] at h
    cases h
theorem Same.seq {K : PySem.W.Frag} {H H' : Hp} {a : Addr} {xs : List V} (e : Same H H') (h : SqL K H a xs) : SqL K H' a xs := by
  rcases h with (h | ⟨o, h⟩) | h
  · exact .inl (.inl (e _ _ h))
  · exact .inl (.inr ⟨o, e _ _ h⟩)
  · exact .inr h
end L2
set_option Elab.async false
set_option linter.all false
set_option maxRecDepth 100000
namespace L2
open PySem PySem.Spec PyProof.Rows
structure Df (K : PySem.W.Frag) (mg : Str → Option Value) (x : Str) (st : Stmt) (ps : List Str) where
  f : Addr
  fd : FuncData
  fn : Fun K x x st f fd
  hm : mg x = some (.ref f)
  b : Binds K fd ps []
section
variable {X : Cx} {x : Str} {st : Stmt} {ps : List Str} {k : Nat} {sp : Sp} {p pos : Pos} {e : Expr} {es : List Expr} {t : TA}
end
theorem bt_len : bootBuiltins "len" = some (.builtin "len") := by decide +kernel
theorem bt_min : bootBuiltins "min" = some (.builtin "min") := by decide +kernel
theorem bt_sorted : bootBuiltins "sorted" = some (.builtin "sorted") := by decide +kernel
theorem bt_sum : bootBuiltins "sum" = some (.builtin "sum") := by decide +kernel
theorem bt_all : bootBuiltins "all" = some (.builtin "all") := by decide +kernel
theorem bt_list : bootBuiltins "list" = some (.type "list") := by decide +kernel
theorem bt_set : bootBuiltins "set" = some (.type "set") := by decide +kernel
section
variable {X : Cx} {x : Str} {pos : Pos}
end
theorem kit_int_int (K : PySem.W.Frag) : PySem.W.kitOne K (.type "int") (.type "int") = some true := by kernel_rfl
theorem kit_int_bool (K : PySem.W.Frag) : PySem.W.kitOne K (.type "int") (.type "bool") = some false := by kernel_rfl
theorem kit_bool_bool (K : PySem.W.Frag) : PySem.W.kitOne K (.type "bool") (.type "bool") = some true := by kernel_rfl
theorem kit_bool_int (K : PySem.W.Frag) : PySem.W.kitOne K (.type "bool") (.type "int") = some true := by kernel_rfl
theorem kit_list_list (K : PySem.W.Frag) : PySem.W.kitOne K (.type "list") (.type "list") = some true := by kernel_rfl
theorem kit_tuple_tuple (K : PySem.W.Frag) : PySem.W.kitOne K (.type "tuple") (.type "tuple") = some true := by kernel_rfl
theorem kit_str_str (K : PySem.W.Frag) : PySem.W.kitOne K (.type "str") (.type "str") = some true := by kernel_rfl
theorem kit_str_int (K : PySem.W.Frag) : PySem.W.kitOne K (.type "str") (.type "int") = some false := by kernel_rfl
theorem kit_none_int (K : PySem.W.Frag) : PySem.W.kitOne K (.type "NoneType") (.type "int") = some false := by kernel_rfl
theorem kit_none_str (K : PySem.W.Frag) : PySem.W.kitOne K (.type "NoneType") (.type "str") = some false := by kernel_rfl
theorem kit_int_str (K : PySem.W.Frag) : PySem.W.kitOne K (.type "int") (.type "str") = some false := by kernel_rfl
theorem kit_bool_str (K : PySem.W.Frag) : PySem.W.kitOne K (.type "bool") (.type "str") = some false := by kernel_rfl
theorem kit_list_str (K : PySem.W.Frag) : PySem.W.kitOne K (.type "list") (.type "str") = some false := by kernel_rfl
theorem kit_list_int (K : PySem.W.Frag) : PySem.W.kitOne K (.type "list") (.type "int") = some false := by kernel_rfl
theorem kit_tuple_str (K : PySem.W.Frag) : PySem.W.kitOne K (.type "tuple") (.type "str") = some false := by kernel_rfl
theorem kit_tuple_int (K : PySem.W.Frag) : PySem.W.kitOne K (.type "tuple") (.type "int") = some false := by kernel_rfl
theorem kit_dict_str (K : PySem.W.Frag) : PySem.W.kitOne K (.type "dict") (.type "str") = some false := by kernel_rfl
theorem kit_dict_int (K : PySem.W.Frag) : PySem.W.kitOne K (.type "dict") (.type "int") = some false := by kernel_rfl
section
variable {X : Cx} {pins : List (Addr × Obj)} {σ : St} {H : Hp} {s : Shared} {h' : Heap}
theorem Inv.turnT {t' : Nat} {ch : List Addr} {a : Addr} {o : HO} (I : Inv X pins σ H s) (k : ∀ b u, b ∉ ch → s.heap.get? b = some u → h'.get? b = some u) (hf : ∀ b ∈ ch, FpOk X pins H b)
    (ha : s.heap.objs.size ≤ a) (new : ObjOk X.prog X.w (upd H a o) h' a o) : Inv X pins σ (upd H a o) { s with heap := h', toks := t' } := by
  have hn : H a = none := I.hok.fresh ha
  have nch : ∀ b u, H b = some u → b ∉ ch := fun b u e z => by rw [(hf b z).1] at e; cases e
  refine I.step (g' := s.gens) (d' := s.drawn) (ch := ch) (fun b hb => ?_) (fun b u _ _ hc e _ => k b u hc e) (fun b u _ _ hc e _ => ⟨u.slots, k b u hc e⟩) (fun b u _ e n => ?_)
    (fun b u hc e => ⟨u, k b u hc e⟩) (fun b xs e => by rw [upd_ne (ne_of_none e hn)]; exact e) (fun b u xs e => by rw [upd_ne (ne_of_none e hn)]; exact e)
    (fun b ps e => ⟨#[], by rw [upd_ne (ne_of_none e hn), e]; simp⟩) (fun m hm => ?_) (fun b u e => ?_) I.bare
  · obtain ⟨f0, f1, f2, f3, f4, f5⟩ := hf b hb
    exact ⟨f3, f1, f4, f5⟩
  · rw [upd_ne (Nat.ne_of_lt (Nat.lt_of_lt_of_le (Heap.lt_size e) ha))]
    exact n
  · obtain ⟨u, es, ep, ho, r⟩ := hm
    exact ⟨u, es, ep, k _ u (fun z => (hf _ z).2.1 rfl) ho, r⟩
  · by_cases hb : b = a
    · subst hb
      rw [upd_same] at e
      cases e
      exact new
    · rw [upd_ne hb] at e
      refine (I.hok b u e).stay (fun c v hc q => k c v ?_ q) (fun c q => by rw [upd_ne (ne_of_none q hn)]; exact q) fun c xs q => by rw [upd_ne (ne_of_none q hn)]; exact q
      rcases hc with z | z
      · rw [z]
        exact nch b u e
      · exact nch c _ z
theorem Inv.turnN {t' : Nat} {ch : List Addr} (I : Inv X pins σ H s) (k : ∀ b u, b ∉ ch → s.heap.get? b = some u → h'.get? b = some u) (hf : ∀ b ∈ ch, FpOk X pins H b) : Inv X pins σ H { s with heap := h', toks := t' } := by
  have nch : ∀ b u, H b = some u → b ∉ ch := fun b u e z => by rw [(hf b z).1] at e; cases e
  refine I.step (g' := s.gens) (d' := s.drawn) (ch := ch) (fun b hb => ?_) (fun b u _ _ hc e _ => k b u hc e) (fun b u _ _ hc e _ => ⟨u.slots, k b u hc e⟩) (fun _ _ _ _ n => n)
    (fun b u hc e => ⟨u, k b u hc e⟩) (fun _ _ e => e) (fun _ _ _ e => e) (fun b ps e => ⟨#[], by rw [e]; simp⟩) (fun m hm => ?_) (fun b u e => ?_) I.bare
  · obtain ⟨f0, f1, f2, f3, f4, f5⟩ := hf b hb
    exact ⟨f3, f1, f4, f5⟩
  · obtain ⟨u, es, ep, ho, r⟩ := hm
    exact ⟨u, es, ep, k _ u (fun z => (hf _ z).2.1 rfl) ho, r⟩
  · refine (I.hok b u e).stay (fun c v hc q => k c v ?_ q) (fun _ q => q) fun _ _ q => q
    rcases hc with z | z
    · rw [z]
      exact nch b u e
    · exact nch c _ z
end
def Ite (K : PySem.W.Frag) (a : Addr) : It :=
  ⟨fun i H => ∃ xs x, SqL K H a xs ∧ xs[i]? = some x, fun i H x H' => ∃ t y, x = .ref t ∧ H t = none ∧ H' = upd H t (.tup [.int i, y]) ∧ ∀ xs, SqL K H a xs → xs[i]? = some y,
   fun i H => ∃ xs, SqL K H a xs ∧ xs.length ≤ i⟩
theorem turn_enum {P : Program} {w : World} {K : PySem.W.Frag} {es : List Expr} {k1 : Nat} {tp : Pos} (a e it : Addr) (hne : e ≠ it) :
    Turn P w K (.Tuple es k1 tp) (Ite K a) [e, it] e (fun i h => (∃ old, IsEnum h e it i old) ∧ h.IsListIter it a i) where
  mem := by simp
  obj := fun i h st b hb => by
    obtain ⟨⟨old, he⟩, o, e1, c, d⟩ := st
    rcases (show b = e ∨ b = it by simpa using hb) with rfl | rfl
    · exact ⟨_, he, fun v z => by cases z⟩
    · exact ⟨o, e1, fun v z => by rw [d] at z; cases z⟩
  keep := fun i h h' st k => ⟨st.1.imp fun old he => k e (by simp) _ he, st.2.at fun o q => k it (by simp) o q⟩
  item := by
    intro X hP hw hK hc i pins s σ H E I hf st hg
    subst hP hw hK
    obtain ⟨xs, x, hq, hx⟩ := hg
    obtain ⟨its, rv, p, hz⟩ := I.list hq
    obtain ⟨u, hu, ru⟩ := rv.get hx
    obtain ⟨⟨old, he⟩, hit⟩ := st
    have el : e < s.heap.objs.size := Heap.lt_size he
    have il : it < s.heap.objs.size := by
      obtain ⟨o, e1, _⟩ := hit
      exact Heap.lt_size e1
    refine wpAny_pyNext_enum_item he hit p.isList (x := u) (by simpa using hu) hne fun h' ho hit' ht hz' hk => ?_
    refine ⟨_, rfl, wpAny_letOwnedTupleGo_enum ho fun h2 he2 sb => ?_⟩
    replace sb : Heap.SameBut e h' h2 := sb
    have ht2 : h2.get? s.heap.objs.size = some { cls := .type "tuple", data := .seq #[.int i s.toks, u] } := (sb.2 _ (Nat.ne_of_gt el)).trans ht
    have I2 : Inv X pins σ (upd H s.heap.objs.size (.tup [.int i, x])) { s with heap := h2, toks := s.toks + 1 } :=
      I.turnT (ch := [e, it]) (fun b v hb q => (sb.2 b (fun z => hb (by simp [z]))).trans (hk b v (fun z => hb (by simp [z])) (fun z => hb (by simp [z])) q)) hf (Nat.le_refl _)
        ⟨by show 2 ≤ sizeLine; decide, [.int i s.toks, u], .cons ⟨_, rfl⟩ (.cons ru .nil), _, ht2, rfl, _, rfl⟩
    refine ⟨.ref s.heap.objs.size, _, I2, rfl, ⟨s.heap.objs.size, x, rfl, I.hok.fresh (Nat.le_refl _), rfl, fun ys hy => by rw [I.list_inj hy hq]; exact hx⟩,
      ⟨⟨u, by simpa using he2⟩, hit'.at fun o q => (sb.2 it (Ne.symm hne)).trans q⟩, fun b hb => ?_⟩
    rw [upd_ne, (hf b hb).1]
    rcases (show b = e ∨ b = it by simpa using hb) with rfl | rfl
    · exact Nat.ne_of_lt el
    · exact Nat.ne_of_lt il
  done := by
    intro X hP hw hK hc i pins s σ H E I hf st hg
    subst hP hw hK
    obtain ⟨xs, hq, hx⟩ := hg
    obtain ⟨its, rv, p, hz⟩ := I.list hq
    obtain ⟨⟨old, he⟩, hit⟩ := st
    have hl := rv.length
    exact wpAny_pyNext_enum_end (I.ok.hd hc) he hit p.isList (by simp; omega) fun h' eb => ⟨rfl, I.turnN (t' := s.toks) (ch := [e, it]) (fun b o hb q => eb b o (fun z => hb (by simp [z])) q) hf⟩
  self := fun _ _ _ _ _ st h => by
    obtain ⟨⟨old, he⟩, _⟩ := st
    exact wpAny_pyIter_enum he h
def iEnum (K : PySem.W.Frag) (ta : TA) : TI := fun σ H R => ta σ H fun vs H1 => ∃ a, vs = [.ref a] ∧ (∃ xs, SqL K H1 a xs) ∧ R (Ite K a) H1
theorem pi_enum {X : Cx} {es : List Expr} {k1 : Nat} {tp : Pos} {a : Expr} {ta : TA} {p pos : Pos} (hg : Gl X "enumerate") (hm : X.mg "enumerate" = none) (ha : PA X [a] ta) (hs : starEach [a] X.env = [(false, eval a X.env)] := by rfl) :
    PI X (.Tuple es k1 tp) (.Call (.Name "enumerate" p) [a] [] pos) (iEnum X.K ta) := by
  intro pins s σ H R I h
  refine Call_ (ld_blt I hg hm boot_enumerate (PyProof.Rows.callWith_type1 (thn (ha pos pins s σ H _ I h) fun us s1 ⟨vs, H1, I1, r1, q1⟩ => ?_) hs rfl))
  obtain ⟨l, e, ⟨xs, hq⟩, q⟩ := q1
  subst e
  obtain ⟨u, rfl, ru⟩ := vals1 r1
  cases (show u = Value.ref l from ru)
  obtain ⟨its, rv, pl, hz⟩ := I1.list hq
  refine call_enumerate_list pl.isList fun h' he hit hsz hk => wpAny_pyIter_enum he ?_
  have I2 : Inv X pins σ H1 { s1 with heap := h' } := I1.kept (t' := s1.toks) hk
  refine ⟨s1.heap.objs.size + 1, [s1.heap.objs.size + 1, s1.heap.objs.size], _, _, H1, rfl, I2, turn_enum l _ _ (Nat.succ_ne_self _), ⟨⟨.none, he⟩, hit⟩, fun b hb => ?_, q⟩
  rcases (show b = s1.heap.objs.size + 1 ∨ b = s1.heap.objs.size by simpa using hb) with rfl | rfl
  · exact I1.fpOk (Nat.le_succ _) (I1.hok.fresh (Nat.le_succ _))
  · exact I1.fpOk (Nat.le_refl _) (I1.hok.fresh (Nat.le_refl _))
theorem for_enum {K : PySem.W.Frag} {a : Addr} {xs : List V} {g : TG} {tb : TS} {D : Ends} {σ : St} {H : Hp} (Pv : Nat → St → Hp → Prop) (h0 : Pv 0 σ H) (hl : ∀ i σ H, i ≤ xs.length → Pv i σ H → SqL K H a xs)
    (hs : ∀ i x σ H t, xs[i]? = some x → Pv i σ H → H t = none → g (.ref t) σ (upd H t (.tup [.int i, x])) fun σ2 H2 => tb { D with nx := Pv (i + 1), ct := Pv (i + 1), bk := D.nx } σ2 H2) (hd : ∀ σ H, Pv xs.length σ H → D.nx σ H) :
    ∃ W : Nat → Nat → St → Hp → Prop, (∃ m, W 0 m σ H) ∧ ∀ i m σ H, W i m σ H →
      ((Ite K a).stop i H ∧ D.nx σ H) ∨ ((Ite K a).go i H ∧ ∃ N : St → Hp → Prop, (∀ σ' H', N σ' H' → ∃ m', m' < m ∧ W (i + 1) m' σ' H') ∧ ∀ x H', (Ite K a).yld i H x H' → g x σ H' fun σ2 H2 => tb { D with nx := N, ct := N, bk := D.nx } σ2 H2) := by
  refine ⟨fun i m σ H => m = xs.length - i ∧ i ≤ xs.length ∧ Pv i σ H, ⟨xs.length, by simp, Nat.zero_le _, h0⟩, ?_⟩
  rintro i m σ H ⟨rfl, hi, p⟩
  have q := hl i σ H hi p
  by_cases hlt : i < xs.length
  · refine .inr ⟨⟨xs, xs[i], q, by simp [hlt]⟩, Pv (i + 1), fun σ' H' p' => ⟨xs.length - (i + 1), by omega, rfl, hlt, p'⟩, fun x H' y => ?_⟩
    obtain ⟨t, z, rfl, ht, rfl, y⟩ := y
    exact hs i z σ _ t (y xs q) p ht
  · have e : i = xs.length := by omega
    subst e
    exact .inl ⟨⟨xs, q, Nat.le_refl _⟩, hd σ H p⟩
theorem iteNF {c A B : Prop} [Decidable c] (hc : ¬ c) (h : A) : if (!decide c) = true then A else B := by
  rw [decide_eq_false hc]
  exact iteT h
theorem iteD {c A B : Prop} [Decidable c] (hc : c) (h : A) : if decide c = true then A else B := by
  rw [decide_eq_true hc]
  exact iteT h
theorem iteDn {c A B : Prop} [Decidable c] (hc : ¬ c) (h : B) : if decide c = true then A else B := by
  rw [decide_eq_false hc]
  exact iteF h
theorem vint_ne {a b : Int} (h : ¬ a = b) : ¬ V.int a = V.int b := fun z => h (V.int.inj z)
theorem Same.lay {H H' : Hp} {p : Addr} {o : HO} (h : Same H H') (hp : H' p = none) : Same H (upd H' p o) := fun b u e => by
  rw [upd_ne (ne_of_none (h b u e) hp)]
  exact h b u e
theorem Same.new (H : Hp) {p : Addr} {o : HO} (hp : H p = none) : Same H (upd H p o) := (Same.refl H).lay hp
end L2
set_option Elab.async false
set_option linter.all false
set_option maxRecDepth 100000
namespace L2
open PySem PySem.Spec PyProof.Rows
def cxComp (X : Cx) (N' : List Str) (scope : Scope) (cl : List (Str × Addr)) (C : Addr) (s : Shared) (H : Hp) (fp : List Addr) : Cx where
  prog := X.prog
  w := X.w
  K := X.K
  mg := X.mg
  base := X.base
  A := X.A
  N := N'
  s₀ := s
  H₀ := H
  env := compEnvC scope cl C X.env
  outer := X.stack
  stack := X.stack
  ex := fp
  fn := fun _ => false
  calm := X.calm
  pn := []
  xe := fun _ _ => False
def PTs (X : Cx) (ifs : List Expr) (t : TT) : Prop :=
  ∀ (pins : List (Addr × Obj)) (s : Shared) (σ : St) (H : Hp) (Q : Bool → Hp → Prop), Inv X pins σ H s → t σ H Q →
    wpAny (model X.prog X.w) X.A (forIn ifs true fun c r => if r = true then do let ok ← isTrue c X.env (eval c X.env); pure (ForInStep.yield ok) else pure (ForInStep.yield r)) (TP X pins σ Q) X.xe s
def tYes : TT := fun _ H Q => Q true H
theorem pts_nil {X : Cx} : PTs X [] tYes := fun pins s σ H Q I h => wpAny_pure ⟨H, I, h⟩
theorem pts_one {X : Cx} {c : Expr} {t : TT} (hc : PT X c t) : PTs X [c] t := fun pins s σ H Q I h => by
  show wpAny _ _ (forIn [c] true _) _ _ s
  rw [List.forIn_cons]
  rw [if_pos rfl]
  refine wpAny_bind (wpAny_bind (thn (hc pins s σ H Q I h) fun b s1 h1 => wpAny_pure ?_))
  exact wpAny_pure h1
theorem closure_of {env : Env} : ∀ (names : List (Str × NameKind)) (acc : List (Str × Addr)),
    (∀ y ∈ names, y.2 = .free → ∃ c, env.cells.lookup y.1 = some c) → (∀ x c, acc.lookup x = some c → env.cells.lookup x = some c) →
    ∃ cl, (forIn names acc fun (x : Str × NameKind) cs => if (x.2 == NameKind.free) = true then (do let a ← cellOf env x.1; pure (ForInStep.yield ((x.1, a) :: cs))) else pure (ForInStep.yield cs) : Sem (List (Str × Addr))) = pure cl ∧
      (∀ x c, cl.lookup x = some c → env.cells.lookup x = some c) ∧ (∀ y ∈ names, y.2 = .free → ∃ c, cl.lookup y.1 = some c) ∧ (∀ x c, acc.lookup x = some c → cl.lookup x = some c)
  | [], acc, _, ha => ⟨acc, rfl, ha, fun y hy => (nomatch hy), fun _ _ h => h⟩
  | (n, k) :: r, acc, hn, ha => by
    rw [List.forIn_cons]
    by_cases hk : k = .free
    · obtain ⟨c, hc⟩ := hn (n, k) List.mem_cons_self hk
      have ha' : ∀ x d, ((n, c) :: acc).lookup x = some d → env.cells.lookup x = some d := fun x d h => by
        rw [List.lookup_cons] at h
        by_cases e : (x == n) = true
        · rw [e] at h
          have e' := beq_iff_eq.mp e
          cases h
          rw [e']
          exact hc
        · rw [Bool.eq_false_iff.mpr e] at h
          exact ha x d h
      obtain ⟨cl, e1, h1, h2, h3⟩ := closure_of r ((n, c) :: acc) (fun y hy => hn y (List.mem_cons_of_mem _ hy)) ha'
      refine ⟨cl, ?_, h1, fun y hy hf => ?_, fun x d h => ?_⟩
      · rw [if_pos (by rw [hk]; rfl)]
        show ((cellOf env n >>= fun a => pure (ForInStep.yield ((n, a) :: acc))) >>= _) = _
        have hco : cellOf env n = pure c := by unfold cellOf; rw [hc]
        rw [hco, pure_bind, pure_bind]
        exact e1
      · rcases List.mem_cons.mp hy with rfl | hy
        · exact ⟨c, h3 n c (by rw [List.lookup_cons]; simp)⟩
        · exact h2 y hy hf
      · by_cases e : (x == n) = true
        · have e' := beq_iff_eq.mp e
          subst e'
          have := ha x d h
          rw [hc] at this
          cases this
          exact h3 x c (by rw [List.lookup_cons]; simp)
        · exact h3 x d (by rw [List.lookup_cons, Bool.eq_false_iff.mpr e]; exact h)
    · obtain ⟨cl, e1, h1, h2, h3⟩ := closure_of r acc (fun y hy => hn y (List.mem_cons_of_mem _ hy)) ha
      refine ⟨cl, ?_, h1, fun y hy hf => ?_, h3⟩
      · rw [if_neg (by simpa using hk), pure_bind]
        exact e1
      · rcases List.mem_cons.mp hy with rfl | hy
        · exact absurd hf hk
        · exact h2 y hy hf
theorem closureFor_of {scope : Scope} {env : Env} (hn : ∀ y ∈ scope.names, y.2 = .free → ∃ c, env.cells.lookup y.1 = some c) :
    ∃ cl, closureFor scope env = pure cl ∧ (∀ x c, cl.lookup x = some c → env.cells.lookup x = some c) ∧ ∀ y ∈ scope.names, y.2 = .free → ∃ c, cl.lookup y.1 = some c := by
  obtain ⟨cl, e1, h1, h2, _⟩ := closure_of (env := env) scope.names [] hn (fun x c h => by cases h)
  refine ⟨cl, ?_, h1, h2⟩
  unfold closureFor
  rw [← e1, bind_pure]
theorem compLoop_go {prog : Program} {w : World} {A : Around} {R : Result → Shared → Prop} {s : Shared} {elt target iter : Expr} {ifs : List Expr} {scope : Scope} {pos : Pos} {it acc : Value} {env : Env} (I : Nat → Shared → Prop)
    (turn : ∀ n s, I n s → wpAny (model prog w) A (pyNext it) (fun r s₁ => match r with
      | none => R (.ok .next) s₁
      | some v => wpAny (model prog w) A (letOwnedTupleGo target it v) (fun _ s₁ => wpAny (model prog w) A (assign target env v) (fun _ s₂ =>
          wpAny (model prog w) A (forIn ifs true fun c r => if r = true then do let ok ← isTrue c env (eval c env); pure (ForInStep.yield ok) else pure (ForInStep.yield r)) (fun ok s₃ =>
            if ok = true then wpAny (model prog w) A (eval elt env) (fun x s₄ =>
              wpAny (model prog w) A (call (.builtin "list.append") [acc, x]) (fun _ s₅ => ∃ m, m < n ∧ I m s₅) (fun _ _ => False) s₄) (fun _ _ => False) s₃
            else ∃ m, m < n ∧ I m s₃) (fun _ _ => False) s₂) (fun _ _ => False) s₁) (fun _ _ => False) s₁) (fun _ _ => False) s)
    (n : Nat) (h : I n s) :
    codeAny (model prog w) A (.compLoop (.ListComp elt [⟨target, iter, ifs, 0⟩] scope pos) 0 it acc env) R s := by
  refine codeAny_loop rfl I (fun n s hI => ?_) n h
  show wpAny _ A ((compTurn (.ListComp elt [⟨target, iter, ifs, 0⟩] scope pos) 0 it acc env).onRaise (fun x => do noteFrame x env; theTreesLotGoes x)) _ _ s
  refine wpAny_noted ?_
  rw [compTurn_list]
  have ff : ∀ {E : Value → Shared → Prop} (v : Value) (s : Shared), False → E v s := fun _ _ z => z.elim
  refine wpAny_bind (wpAny_standAt (wpAny_bind (wpAny_mono (turn n s hI) (fun r s₁ h₁ => ?_) ff)))
  cases r with
  | none => exact wpAny_pure h₁
  | some v =>
    refine wpAny_bind (wpAny_mono h₁ (fun _ s₁' h₁' => ?_) ff)
    refine wpAny_bind (wpAny_mono h₁' (fun _ s₂ h₂ => wpAny_bind (wpAny_mono h₂ (fun ok s₃ h₃ => ?_) ff)) ff)
    cases ok with
    | false => exact wpAny_pure ⟨rfl, h₃⟩
    | true =>
      exact wpAny_bind (wpAny_bind (wpAny_mono h₃ (fun x s₄ h₄ => wpAny_bind (wpAny_mono h₄ (fun _ s₅ h₅ => wpAny_pure (wpAny_pure ⟨rfl, h₅⟩)) ff)) ff))
def CompW (J : It) (g : TG) (tc : TT) (te : TE) (Q : VK) (D : Addr) (σ : St) (H : Hp) : Prop := ∃ W : Nat → Nat → St → Hp → Prop, (∃ m, W 0 m σ H) ∧ ∀ i m σ' H', W i m σ' H' →
  (J.stop i H' ∧ Q (.ref D) H') ∨ (J.go i H' ∧ ∃ N : St → Hp → Prop, (∀ σ2 H2, N σ2 H2 → ∃ m', m' < m ∧ W (i + 1) m' σ2 H2) ∧ ∀ x H2, J.yld i H' x H2 → g x σ' H2 fun σ3 H3 => tc σ3 H3 fun b H4 =>
    if b = true then te σ3 H4 fun y H5 => ∃ acc, H5 D = some (.lst acc) ∧ acc.length < sizeLine ∧ N σ3 (upd H5 D (.lst (acc ++ [y]))) else N σ3 H4)
def tComp (wi : TI) (g : TG) (tc : TT) (te : TE) (cp : St → St) : TE := fun σ H Q => wi σ H fun J H1 => ∀ D, H1 D = none → CompW J g tc te Q D (cp σ) (upd H1 D (.lst []))
def cpOf (k : Nat) (caps : List Nat) : St → St := fun σ => List.replicate k none ++ caps.map fun i => σ.getD i none
structure CompText (X : Cx) (scope : Scope) (own : List Str) (caps : List Nat) (N' : List Str) : Prop where
  kind : scope.kind = .function
  nocell : ∀ y ∈ scope.names, y.2 ≠ .cell
  names : ∀ y ∈ scope.names, y.2 = .local → scope.names.lookup y.1 = some .local
  free : ∀ y ∈ scope.names, y.2 = .free → X.env.kindOf y.1 = some .cell ∨ X.env.kindOf y.1 = some .free
  hN : N' = own ++ caps.filterMap fun i => X.N[i]?
  cap : ∀ i ∈ caps, i < X.N.length
  capk : ∀ i ∈ caps, ∀ x, X.N[i]? = some x → scope.names.lookup x = some .free
  look : ∀ x, (relabel scope X.env).names.lookup x = some .cell ∨ (relabel scope X.env).names.lookup x = some .free → (x, NameKind.free) ∈ scope.names
theorem relabel_free {env : Env} : ∀ {names : List (Str × NameKind)} {x : Str}, names.lookup x = some .free →
    (names.map fun (n, k) => if (k == NameKind.free && env.scope.kind == .function && env.kindOf n == some .cell) then (n, NameKind.cell) else (n, k)).lookup x ≠ some .local
  | [], _, h => by simp at h
  | (n, k) :: r, x, h => by
    have ih := @relabel_free env r x
    show List.lookup x ((if (k == NameKind.free && env.scope.kind == .function && env.kindOf n == some .cell) = true then (n, NameKind.cell) else (n, k)) :: _) ≠ _
    cases hx : x == n with
    | true =>
      simp only [List.lookup_cons, hx] at h
      cases h
      by_cases hc : (NameKind.free == NameKind.free && env.scope.kind == .function && env.kindOf n == some .cell) = true
      · rw [if_pos hc]; simp [List.lookup_cons, hx]
      · rw [if_neg hc]; simp [List.lookup_cons, hx]
    | false =>
      simp only [List.lookup_cons, hx] at h
      by_cases hc : (k == NameKind.free && env.scope.kind == .function && env.kindOf n == some .cell) = true
      · rw [if_pos hc]; simp only [List.lookup_cons, hx]; exact ih h
      · rw [if_neg hc]; simp only [List.lookup_cons, hx]; exact ih h
section
variable {X : Cx} {scope : Scope} {own N' : List Str} {caps : List Nat}
theorem filterMap_get {α : Type} (N : List α) : ∀ (caps : List Nat), (∀ i ∈ caps, i < N.length) → ∀ (j : Nat) (x : α), (caps.filterMap fun i => N[i]?)[j]? = some x → ∃ i, caps[j]? = some i ∧ N[i]? = some x
  | [], _, j, x, h => by simp at h
  | a :: r, hc, j, x, h => by
    have ha := hc a List.mem_cons_self
    rw [List.filterMap_cons, List.getElem?_eq_getElem ha] at h
    cases j with
    | zero => exact ⟨a, rfl, by rw [List.getElem?_eq_getElem ha]; simpa using h⟩
    | succ j =>
      obtain ⟨i, h1, h2⟩ := filterMap_get N r (fun i hi => hc i (List.mem_cons_of_mem _ hi)) j x (by simpa using h)
      exact ⟨i, by simpa using h1, h2⟩
theorem filterMap_len {α : Type} (N : List α) : ∀ (caps : List Nat), (∀ i ∈ caps, i < N.length) → (caps.filterMap fun i => N[i]?).length = caps.length
  | [], _ => rfl
  | a :: r, hc => by
    have ha := hc a List.mem_cons_self
    rw [List.filterMap_cons, List.getElem?_eq_getElem ha]
    simp [filterMap_len N r fun i hi => hc i (List.mem_cons_of_mem _ hi)]
theorem Inv.enterComp {pins : List (Addr × Obj)} {σ : St} {H : Hp} {s : Shared} {cl : List (Str × Addr)} {fp : List Addr} {h1 : Heap} {tk : Nat} (I : Inv X pins σ H s) (T : CompText X scope own caps N')
    (hcl : ∀ x c, cl.lookup x = some c → X.env.cells.lookup x = some c) (hcl2 : ∀ y ∈ scope.names, y.2 = .free → ∃ c, cl.lookup y.1 = some c)
    (hf : ∀ b ∈ fp, FpOk X pins H b) (hfo : ∀ b ∈ fp, ∃ o, s.heap.get? b = some o) (hns : h1.Ns s.heap.objs.size (fun _ => none)) (hk : ∀ b o, s.heap.get? b = some o → h1.get? b = some o) :
    Inv (cxComp X N' scope cl s.heap.objs.size s H fp) [] (cpOf own.length caps σ) H { s with heap := h1, toks := tk } := by
  have lenN : N'.length = own.length + caps.length := by rw [T.hN, List.length_append, filterMap_len _ _ T.cap]
  refine ⟨⟨I.ok.mod, ?_, I.ok.glob, I.ok.blt, Nat.le_refl _, fun x y c h1 h2 => I.ok.inj x y c (hcl x c h1) (hcl y c h2), fun x hx => ?_, fun x c h => absurd h Bool.false_ne_true, I.ok.hd, I.ok.frames, .inl rfl,
      fun b hb => ⟨?_, fun x c e => (hf b hb).2.2.2.2.1 x c (hcl x c e)⟩, fun b o e => I.bs b o e, Nat.le_trans I.ok.bsz I.sz, fun b o e hb => ?_, fun b hb z => ?_, I.stack, I.stkFree⟩,
    rfl, I.bare, Un.kept hk, ⟨_, hns, fun i x v e1 e2 e3 => ?_⟩, fun x c e => ?_, I.hok.fresh (Nat.le_refl _), fun x c e => ⟨fun z => absurd z Bool.false_ne_true, (I.freeC x c (hcl x c e)).2⟩, fun p hp => absurd (show p ∈ ([] : List (Addr × Obj)) from hp) (by simp), I.hok.kept hk, ?_⟩
  · show (relabel scope X.env).kind = .function
    exact T.kind
  · exact hcl2 (x, .free) (T.look x hx) rfl
  · obtain ⟨o, e⟩ := hfo b hb
    exact Nat.ne_of_lt (Heap.lt_size e)
  · rcases (hf b hb).2.2.2.1 with z | z
    · exact I.ok.noex b o e z
    · exact absurd (Nat.lt_of_lt_of_le (Heap.lt_size e) (Nat.le_trans I.ok.bsz z)) (Nat.lt_irrefl _)
  · rcases List.mem_cons.mp (I.stkSub b z) with q | q
    · exact (hf b hb).2.1 q
    · exact (hf b hb).2.2.1 q
  · -- the values of the block's names
    have e1' : N'[i]? = some x := e1
    rw [T.hN] at e1'
    have e2' : (cpOf own.length caps σ)[i]? = some (some v) := e2
    unfold cpOf at e2'
    by_cases hi : i < own.length
    · rw [List.getElem?_append_left (by simpa using hi), List.getElem?_replicate, if_pos hi] at e2'
      cases e2'
    · rw [List.getElem?_append_right (by simpa using hi), List.length_replicate] at e2'
      rw [List.getElem?_append_right (by omega)] at e1'
      obtain ⟨j, hj, hx⟩ := filterMap_get X.N caps T.cap _ _ e1'
      rw [List.getElem?_map, hj] at e2'
      have e3' : σ.getD j none = some v := Option.some.inj e2'
      have hs : σ[j]? = some (some v) := by
        rw [List.getD_eq_getElem?_getD] at e3'
        cases q : σ[j]? with
        | none =>
          rw [q] at e3'
          cases e3'
        | some z =>
          rw [q] at e3'
          have : z = some v := e3'
          rw [this]
      have hfree := T.capk j (List.mem_of_getElem? hj) x hx
      have hmem : (x, NameKind.free) ∈ scope.names := PySem.mem_of_lookup hfree
      have hkd := T.free _ hmem rfl
      obtain ⟨m, hn, hl⟩ := I.loc
      obtain ⟨u, r, l⟩ := hl j x v hx hs (by
        rcases hkd with z | z
        · exact .inr (.inl z)
        · exact .inr (.inr z))
      rcases l with ⟨q, _⟩ | ⟨_, c, hc, hcell⟩
      · rcases hkd with z | z
        · rw [show X.env.kindOf x = some .local from q] at z; cases z
        · rw [show X.env.kindOf x = some .local from q] at z; cases z
      · obtain ⟨c', hc'⟩ := hcl2 _ hmem rfl
        have hc2 := hcl x c' hc'
        rw [hc] at hc2
        cases hc2
        refine ⟨u, r, .inr ⟨?_, c, hc', ?_⟩⟩
        · rcases e3 with z | z | z
          · -- a free name does not become local
            exfalso
            have : (relabel scope X.env).names.lookup x = some .local := z
            rw [show (relabel scope X.env).names = scope.names.map fun (n, k) => if (k == .free && X.env.scope.kind == .function && X.env.kindOf n == some .cell) then (n, .cell) else (n, k) from rfl] at this
            exact absurd this (relabel_free hfree)
          · exact .inl z
          · exact .inr z
        · obtain ⟨o, ho, hd⟩ := hcell
          exact ⟨o, hk _ _ ho, hd⟩
  · obtain ⟨v, o, ho, hd⟩ := I.cell x c (hcl x c e)
    exact ⟨v, o, hk _ _ ho, hd⟩
  · show (cpOf own.length caps σ).length = N'.length
    rw [lenN]
    unfold cpOf
    simp
theorem Inv.leaveComp {pins pins' : List (Addr × Obj)} {σ σ' : St} {H H' : Hp} {s s' : Shared} {cl : List (Str × Addr)} {fp : List Addr} {h2 : Heap} (I : Inv X pins σ H s) (hf : ∀ b ∈ fp, FpOk X pins H b)
    (J : Inv (cxComp X N' scope cl s.heap.objs.size s H fp) pins' σ' H' s') (hs : Heap.SameBut s.heap.objs.size s'.heap h2) : Inv X pins σ H' { s' with heap := h2 } := by
  have fr : H' s.heap.objs.size = none := J.free
  have ne : ∀ b o, s.heap.get? b = some o → b ≠ s.heap.objs.size := fun b o e => Nat.ne_of_lt (Heap.lt_size e)
  have U : Un (frs X.stack) fp H H' s.heap s'.heap := J.base
  refine I.call' (s' := { s' with heap := h2 }) (ch := fp) J.os ⟨fun b o e n hb hx => (hs.2 b (ne b o e)).trans (U.keep b o e n hb hx), fun b o e n hb hx => ?_, U.free, fun b o e hx => ?_, U.tups, U.frzs, U.tbls⟩ (fun a o e => ?_) J.bare fun b hb => ?_
  · obtain ⟨sl, q⟩ := U.slot b o e n hb hx
    exact ⟨sl, (hs.2 b (ne b o e)).trans q⟩
  · obtain ⟨o', q⟩ := U.there b o e hx
    exact ⟨o', (hs.2 b (ne b o e)).trans q⟩
  · refine (J.hok a o e).stay (fun b u hb q => (hs.2 b ?_).trans q) (fun _ q => q) fun _ _ q => q
    intro z
    rcases hb with hb | hb
    · rw [← hb, z, fr] at e
      cases e
    · rw [z, fr] at hb
      cases hb
  · obtain ⟨f0, f1, f2, f3, f4, f5⟩ := hf b hb
    exact ⟨f3, f1, f4, f5⟩
theorem comp_core {elt tg iter : Expr} {ifs : List Expr} {pos : Pos} {wi : TI} {g : TG} {tc : TT} {te : TE} (hc : X.calm = true) (T : CompText X scope own caps N') (hi : PI X tg iter wi)
    (hg : ∀ cl C s H fp, PG (cxComp X N' scope cl C s H fp) tg g) (ht : ∀ cl C s H fp, PTs (cxComp X N' scope cl C s H fp) ifs tc) (he : ∀ cl C s H fp, PE (cxComp X N' scope cl C s H fp) elt te)
    {pins : List (Addr × Obj)} {σ : St} {H : Hp} {s : Shared} {Q : VK} (I : Inv X pins σ H s) (h : tComp wi g tc te (cpOf own.length caps) σ H Q) {cl : List (Str × Addr)}
    (hcl : ∀ x c, cl.lookup x = some c → X.env.cells.lookup x = some c) (hcl2 : ∀ y ∈ scope.names, y.2 = .free → ∃ c, cl.lookup y.1 = some c) {RR : Value → Addr → Result → Shared → Prop}
    (k : ∀ {s3 : Shared} {H3 : Hp} {D : Addr} {fp : List Addr} {σ5 : St} {H5 : Hp} {s6 : Shared}, Inv X pins σ H3 s3 → (∀ b ∈ fp, FpOk X pins H3 b) → Inv (cxComp X N' scope cl s3.heap.objs.size s3 H3 fp) [] σ5 H5 s6 → Q (.ref D) H5 → RR (.ref D) s3.heap.objs.size (.ok .next) s6) :
    wpAny (model X.prog X.w) X.A (eval iter X.env) (fun x s₁ => wpAny (model X.prog X.w) X.A (pyIter x) (fun it s₂ => wpAny (model X.prog X.w) X.A (newList []) (fun acc s₃ =>
      wpAny (model X.prog X.w) X.A (newFunctionEnv scope X.env.globals cl [] X.env.qual none .none (some X.env)) (fun cenv s₄ =>
        codeAny (model X.prog X.w) X.A (.compStart (.ListComp elt [⟨tg, iter, ifs, 0⟩] scope pos) 0 it acc { cenv with scope := relabel scope X.env }) (RR acc cenv.locals) s₄) X.xe s₃) X.xe s₂) X.xe s₁) X.xe s := by
  refine thn (hi pins s σ H _ I h) fun xv s1 h1 => thn h1 fun itv s2 h2 => ?_
  obtain ⟨it, fp, tn, J, H2, rfl, I2, TU, st2, f2, q2⟩ := h2
  have fo : ∀ b ∈ fp, ∃ o, s2.heap.get? b = some o := fun b hb => let ⟨o, e, _⟩ := TU.obj _ _ st2 b hb; ⟨o, e⟩
  obtain ⟨W, ⟨m0, w0⟩, turn⟩ := q2 s2.heap.objs.size I2.fresh
  refine wpAny_newObj_type ?_
  have I3 : Inv X pins σ (upd H2 s2.heap.objs.size (.lst [])) { s2 with heap := s2.heap.push { cls := .type "list", data := .seq ([] : List Value).toArray } } := I2.lnew (t' := s2.toks) .nil (Nat.zero_le _)
  generalize hs3 : ({ s2 with heap := s2.heap.push { cls := .type "list", data := .seq ([] : List Value).toArray } } : Shared) = s3 at I3
  have k3 : ∀ b o, s2.heap.get? b = some o → s3.heap.get? b = some o := fun b o e => by rw [← hs3]; exact Heap.get?_push_of_some _ e
  have f3 : ∀ b ∈ fp, FpOk X pins (upd H2 s2.heap.objs.size (.lst [])) b := fun b hb => by
    obtain ⟨o, e⟩ := fo b hb
    exact ⟨by rw [upd_ne (Nat.ne_of_lt (Heap.lt_size e))]; exact (f2 b hb).1, (f2 b hb).2⟩
  have fo3 : ∀ b ∈ fp, ∃ o, s3.heap.get? b = some o := fun b hb => let ⟨o, e⟩ := fo b hb; ⟨o, k3 b o e⟩
  have st3 : tn 0 s3.heap := TU.keep _ _ _ st2 fun b hb o e => k3 b o e
  show wpAny _ _ _ _ _ s3
  refine wpAny_newFunctionEnv T.nocell (fun y hy => (nomatch hy)) (fun h4 hns hsb => ?_) T.kind
  have k4 : ∀ b o, s3.heap.get? b = some o → h4.get? b = some o := fun b o e => (hsb.2 b (Nat.ne_of_lt (Heap.lt_size e))).trans (Heap.get?_push_of_some _ e)
  have J4 : Inv (cxComp X N' scope cl s3.heap.objs.size s3 (upd H2 s2.heap.objs.size (.lst [])) fp) [] (cpOf own.length caps σ) (upd H2 s2.heap.objs.size (.lst [])) { s3 with heap := h4, toks := s3.toks + 0 } :=
    I3.enterComp T hcl hcl2 f3 fo3 hns k4
  have st4 : tn 0 h4 := TU.keep _ _ _ st3 fun b hb o e => k4 b o e
  have stat : ∀ {H' : Hp}, (∀ b ∈ fp, H' b = none) → ∀ b ∈ fp, FpOk (cxComp X N' scope cl s3.heap.objs.size s3 (upd H2 s2.heap.objs.size (.lst [])) fp) [] H' b := fun hn b hb => by
    obtain ⟨o, e⟩ := fo3 b hb
    refine ⟨hn b hb, Nat.ne_of_lt (Heap.lt_size e), fun z => ?_, .inl hb, fun x c q => (f3 b hb).2.2.2.2.1 x c (hcl x c q), fun p hp => absurd (show p ∈ ([] : List (Addr × Obj)) from hp) (by simp)⟩
    rcases List.mem_cons.mp (I3.stkSub b z) with q | q
    · exact (f3 b hb).2.1 q
    · exact (f3 b hb).2.2.1 q
  have loop : codeAny (model X.prog X.w) X.A (.compLoop (.ListComp elt [⟨tg, iter, ifs, 0⟩] scope pos) 0 (.ref it) (.ref s2.heap.objs.size) (compEnvC scope cl s3.heap.objs.size X.env))
      (RR (.ref s2.heap.objs.size) s3.heap.objs.size) { s3 with heap := h4, toks := s3.toks + 0 } := by
    refine compLoop_go (fun n s' => ∃ i σ' H', Inv (cxComp X N' scope cl s3.heap.objs.size s3 (upd H2 s2.heap.objs.size (.lst [])) fp) [] σ' H' s' ∧ tn i s'.heap ∧ (∀ b ∈ fp, H' b = none) ∧ W i n σ' H') ?_ m0
      ⟨0, _, _, J4, st4, fun b hb => (f3 b hb).1, w0⟩
    rintro n s5 ⟨i, σ5, H5, I5, st5, fr5, w5⟩
    rcases turn i n σ5 H5 w5 with ⟨stop, qn⟩ | ⟨go, N, hN, step⟩
    · refine thn (TU.done (cxComp X N' scope cl s3.heap.objs.size s3 (upd H2 s2.heap.objs.size (.lst [])) fp) rfl rfl rfl hc i [] s5 σ5 H5 (fun _ _ => False) I5 (stat fr5) st5 stop) fun r s6 ⟨hr, I6⟩ => ?_
      subst hr
      exact k I3 f3 I6 qn
    · refine thn (TU.item (cxComp X N' scope cl s3.heap.objs.size s3 (upd H2 s2.heap.objs.size (.lst [])) fp) rfl rfl rfl hc i [] s5 σ5 H5 (fun _ _ => False) I5 (stat fr5) st5 go) fun r s6 ⟨u, hr, h6⟩ => ?_
      subst hr
      refine thn h6 fun _ s7 ⟨x, H7, I7, r7, y7, st7, fr7⟩ => ?_
      have I7' := I7.pinned (stat fr7) (TU.obj _ _ st7)
      have again : ∀ {σ' : St} {H' : Hp} {s' : Shared}, Inv (cxComp X N' scope cl s3.heap.objs.size s3 (upd H2 s2.heap.objs.size (.lst [])) fp) ([] ++ pinsAt fp s7.heap) σ' H' s' → N σ' H' →
          ∃ m, m < n ∧ ∃ i σ' H', Inv (cxComp X N' scope cl s3.heap.objs.size s3 (upd H2 s2.heap.objs.size (.lst [])) fp) [] σ' H' s' ∧ tn i s'.heap ∧ (∀ b ∈ fp, H' b = none) ∧ W i m σ' H' := fun {σ' H' s'} I' n' => by
        obtain ⟨m', hm, w'⟩ := hN σ' H' n'
        refine ⟨m', hm, i + 1, σ', H', I'.unpinned, TU.keep _ _ _ st7 fun b hb o e => (I'.pin (b, o) (List.mem_append_right _ (List.mem_append_right _ (mem_pinsAt hb e)))).1, fun b hb => ?_, w'⟩
        obtain ⟨o, e, d⟩ := TU.obj _ _ st7 b hb
        exact (I'.pin (b, o) (List.mem_append_right _ (List.mem_append_right _ (mem_pinsAt hb e)))).2.1
      refine thn (hg _ _ _ _ _ _ s7 σ5 H7 x u _ I7' r7 (step x H7 y7)) fun _ s8 ⟨σ8, H8, I8, q8⟩ => ?_
      refine thn (ht _ _ _ _ _ _ s8 σ8 H8 _ I8 q8) fun b s9 ⟨H9, I9, q9⟩ => ?_
      cases b with
      | false =>
        rw [if_neg Bool.false_ne_true] at q9 ⊢
        exact again I9 q9
      | true =>
        rw [if_pos rfl] at q9 ⊢
        refine thn (he _ _ _ _ _ _ s9 σ8 H9 _ I9 q9) fun v s10 ⟨y, H10, I10, r10, acc, hD, hl, hn⟩ => ?_
        refine thn (mt_append _ s10 σ8 H10 (.ref s2.heap.objs.size) [y] (.ref s2.heap.objs.size) [v] (fun _ H' => N σ8 H') I10 rfl (.cons r10 .nil) ⟨_, acc, y, rfl, rfl, hD, hl, hn⟩) fun _ s11 ⟨_, H11, I11, _, n11⟩ => ?_
        exact again I11 n11
  exact codeAny_compStart_list loop (TU.self _ 0 _ _ _ st4 loop)
theorem pe_comp {elt tg iter : Expr} {ifs : List Expr} {pos : Pos} {wi : TI} {g : TG} {tc : TT} {te : TE} (hc : X.calm = true) (T : CompText X scope own caps N') (hi : PI X tg iter wi)
    (hg : ∀ cl C s H fp, PG (cxComp X N' scope cl C s H fp) tg g) (ht : ∀ cl C s H fp, PTs (cxComp X N' scope cl C s H fp) ifs tc) (he : ∀ cl C s H fp, PE (cxComp X N' scope cl C s H fp) elt te)
    (hs : ∀ x, foldedSetIterable iter X.env x = pure x := by intro _; rfl) : PE X (.ListComp elt [⟨tg, iter, ifs, 0⟩] scope pos) (tComp wi g tc te (cpOf own.length caps)) := by
  intro pins s σ H Q I h
  obtain ⟨cl, hclos, hcl, hcl2⟩ := closureFor_of (scope := scope) (env := X.env) (fun y hy hf => I.ok.has y.1 (T.free y hy hf))
  rw [eval_ListComp]
  refine wpAny_comprehension_free (use := none) rfl hs hclos T.kind T.names (comp_core hc T hi hg ht he I h hcl hcl2 (RR := fun acc C => compPost (model X.prog X.w) X.A X.xe none (EP X pins σ Q) acc C) ?_)
  intro s3 H3 D fp σ5 H5 s6 I3 f3 I6 qn
  obtain ⟨m, hn, _⟩ := I6.loc
  exact ⟨m, hn, fun h' hs' => ⟨.ref D, H5, I3.leaveComp f3 I6 hs', rfl, qn⟩⟩
theorem ps_setC {elt tg iter : Expr} {ifs : List Expr} {pos spos py : Pos} {y : Str} {i : Nat} {wi : TI} {g : TG} {tc : TT} {te : TE} (hN : X.N.Nodup) (hi' : X.N[i]? = some y) (hx : Loc X.env.scope y) (hc : X.calm = true) (T : CompText X scope own caps N') (hi : PI X tg iter wi)
    (hg : ∀ cl C s H fp, PG (cxComp X N' scope cl C s H fp) tg g) (ht : ∀ cl C s H fp, PTs (cxComp X N' scope cl C s H fp) ifs tc) (he : ∀ cl C s H fp, PE (cxComp X N' scope cl C s H fp) elt te)
    (hsw : swapsWith (.ListComp elt [⟨tg, iter, ifs, 0⟩] scope pos) (some (.Name y py)) spos.line X.env = pure true := by rfl) (hs : ∀ x, foldedSetIterable iter X.env x = pure x := by intro _; rfl)
    (hf : X.fn y = true ∨ X.env.scope.names.lookup y = some .local := by first | exact .inl rfl | exact .inr rfl | assumption) :
    PS X (.Assign [.Name y py] (.ListComp elt [⟨tg, iter, ifs, 0⟩] scope pos) spos) (tAsg (tComp wi g tc te (cpOf own.length caps)) (gName i)) := by
  intro pins s σ H Dn I h
  obtain ⟨cl, hclos, hcl, hcl2⟩ := closureFor_of (scope := scope) (env := X.env) (fun y hy hf => I.ok.has y.1 (T.free y hy hf))
  rw [exec_Assign_Name_used _ _ _ _ hsw]
  refine wpAny_bind (wpAny_standAt (wpAny_bind ?_))
  show wpAny _ X.A (do let _ ← comprehension (.ListComp elt [⟨tg, iter, ifs, 0⟩] scope pos) scope X.env _ (newList []) false (eval iter X.env) (some (assign (.Name y py) X.env))) _ _ s
  refine wpAny_bind (wpAny_mono (wpAny_comprehension_free (use := some (assign (.Name y py) X.env)) (Q := fun _ s' => SP X pins Dn .next s') rfl hs hclos T.kind T.names
    (comp_core hc T hi hg ht he I h hcl hcl2 (RR := fun acc C => compPost (model X.prog X.w) X.A X.xe (some (assign (.Name y py) X.env)) (fun _ s' => SP X pins Dn .next s') acc C) ?_)) (fun _ s' hq => wpAny_pure (wpAny_pure hq)) fun _ _ e => e)
  intro s3 H3 D fp σ5 H5 s6 I3 f3 I6 qn
  obtain ⟨m, ⟨oC, es, ep, hoC, hdC, rC⟩, _⟩ := I6.loc
  have I7 : Inv X pins σ H5 { s6 with heap := s6.heap } := I3.leaveComp f3 I6 (Heap.SameBut.refl _ _)
  have fC : FpOk X pins H5 s3.heap.objs.size := I3.fpOk (Nat.le_refl _) I6.free
  have I8 : Inv X (pins ++ [(s3.heap.objs.size, oC)]) σ H5 s6 := I7.pins_of fun p hp => by
    rcases List.mem_append.mp hp with z | z
    · exact I7.pin p (List.mem_append_right _ z)
    · rw [List.mem_singleton.mp z]
      exact ⟨hoC, fC.1, fC.2.1, fC.2.2.1, fun v q => by rw [hdC] at q; cases q⟩
  show wpAny _ X.A (assign (.Name y py) X.env (.ref D)) _ _ s6
  refine wpAny_assign_Name (store_ok I8 hN hi' hx (v := .ref D) rfl (fun s9 I9 => ?_) hf)
  have hC9 := (I9.pin (s3.heap.objs.size, oC) (List.mem_append_right _ (List.mem_append_right _ List.mem_cons_self))).1
  refine ⟨m, ⟨oC, es, ep, hC9, hdC, rC⟩, fun h' hs' => ?_⟩
  have I10 : Inv X pins (σ.set i (some (.ref D))) H5 s9 := I9.unpinned
  exact ⟨_, H5, I10.turnN (t' := s9.toks) (ch := [s3.heap.objs.size]) (fun b u hb q => (hs'.2 b (fun z => hb (by simp [z]))).trans q) fun b hb => by rw [List.mem_singleton.mp hb]; exact fC, qn⟩
end
def compOk (outer : Scope) (N : List Str) (scope : Scope) (own : List Str) (caps : List Nat) (N' : List Str) : Bool :=
  (scope.kind == .function) && scope.names.all (fun y => y.2 != .cell) && scope.names.all (fun y => y.2 != .local || scope.names.lookup y.1 == some .local) &&
  scope.names.all (fun y => y.2 != .free || (outer.names.lookup y.1 == some .cell || outer.names.lookup y.1 == some .free)) && decide (N' = own ++ caps.filterMap fun i => N[i]?) &&
  caps.all (fun i => match N[i]? with | some x => scope.names.lookup x == some .free | none => false)
theorem relabel_look {env : Env} : ∀ {names : List (Str × NameKind)} {x : Str}, (∀ y ∈ names, y.2 ≠ .cell) →
    ((names.map fun (n, k) => if (k == NameKind.free && env.scope.kind == .function && env.kindOf n == some .cell) then (n, NameKind.cell) else (n, k)).lookup x = some .cell ∨
     (names.map fun (n, k) => if (k == NameKind.free && env.scope.kind == .function && env.kindOf n == some .cell) then (n, NameKind.cell) else (n, k)).lookup x = some .free) → (x, NameKind.free) ∈ names
  | [], _, _, h => by simp at h
  | (n, k) :: r, x, hn, h => by
    have ih := @relabel_look env r x (fun y hy => hn y (List.mem_cons_of_mem _ hy))
    have hk : k ≠ .cell := hn (n, k) List.mem_cons_self
    change List.lookup x ((if (k == NameKind.free && env.scope.kind == .function && env.kindOf n == some .cell) = true then (n, NameKind.cell) else (n, k)) :: _) = _ ∨
      List.lookup x ((if (k == NameKind.free && env.scope.kind == .function && env.kindOf n == some .cell) = true then (n, NameKind.cell) else (n, k)) :: _) = _ at h
    cases hx : x == n with
    | true =>
      have e := beq_iff_eq.mp hx
      subst e
      by_cases hc : (k == NameKind.free && env.scope.kind == .function && env.kindOf x == some .cell) = true
      · have : k = .free := by
          rw [Bool.and_eq_true, Bool.and_eq_true] at hc
          simpa using hc.1.1
        rw [this]
        exact List.mem_cons_self
      · rw [if_neg hc] at h
        simp only [List.lookup_cons, hx] at h
        rcases h with h | h
        · exact absurd (Option.some.inj h) hk
        · rw [Option.some.inj h]
          exact List.mem_cons_self
    | false =>
      refine List.mem_cons_of_mem _ (ih ?_)
      by_cases hc : (k == NameKind.free && env.scope.kind == .function && env.kindOf n == some .cell) = true
      · rw [if_pos hc] at h
        simpa only [List.lookup_cons, hx] using h
      · rw [if_neg hc] at h
        simpa only [List.lookup_cons, hx] using h
theorem compText_of {X : Cx} {scope : Scope} {own N' : List Str} {caps : List Nat} (h : compOk X.env.scope X.N scope own caps N' = true) : CompText X scope own caps N' := by
  unfold compOk at h
  simp only [Bool.and_eq_true] at h
  obtain ⟨⟨⟨⟨⟨h1, h2⟩, h3⟩, h4⟩, h5⟩, h6⟩ := h
  have nc : ∀ y ∈ scope.names, y.2 ≠ .cell := fun y hy => by simpa using List.all_eq_true.mp h2 y hy
  have cp : ∀ i ∈ caps, ∃ x, X.N[i]? = some x ∧ scope.names.lookup x = some .free := fun i hi => by
    have q := List.all_eq_true.mp h6 i hi
    cases e : X.N[i]? with
    | none =>
      rw [e] at q
      cases q
    | some x =>
      rw [e] at q
      exact ⟨x, rfl, by simpa using q⟩
  refine ⟨by simpa using h1, nc, fun y hy hl => ?_, fun y hy hf => ?_, of_decide_eq_true h5, fun i hi => ?_, fun i hi x e => ?_, fun x hx => relabel_look nc hx⟩
  · have q := List.all_eq_true.mp h3 y hy
    rw [hl] at q
    simpa using q
  · have q := List.all_eq_true.mp h4 y hy
    rw [hf] at q
    simp at q
    exact q
  · obtain ⟨x, e, _⟩ := cp i hi
    exact (List.getElem?_eq_some_iff.mp e).1
  · obtain ⟨y, e', q⟩ := cp i hi
    rw [e] at e'
    cases e'
    exact q
theorem comp_list {K : PySem.W.Frag} {a D : Addr} {xs : List V} {g : TG} {tc : TT} {te : TE} {Q : VK} {σ : St} {H : Hp} (Pv : Nat → St → Hp → Prop) (h0 : Pv 0 σ H) (hl : ∀ i σ H, i ≤ xs.length → Pv i σ H → SqL K H a xs)
    (hs : ∀ i x σ H, xs[i]? = some x → Pv i σ H → g x σ H fun σ3 H3 => tc σ3 H3 fun b H4 => if b = true then te σ3 H4 fun y H5 => ∃ acc, H5 D = some (.lst acc) ∧ acc.length < sizeLine ∧ Pv (i + 1) σ3 (upd H5 D (.lst (acc ++ [y]))) else Pv (i + 1) σ3 H4)
    (hd : ∀ σ H, Pv xs.length σ H → Q (.ref D) H) :
    CompW (Itl K a) g tc te Q D σ H := by
  refine ⟨fun i m σ H => m = xs.length - i ∧ i ≤ xs.length ∧ Pv i σ H, ⟨xs.length, by simp, Nat.zero_le _, h0⟩, ?_⟩
  rintro i m σ H ⟨rfl, hi, p⟩
  have q := hl i σ H hi p
  by_cases hlt : i < xs.length
  · refine .inr ⟨⟨xs, xs[i], q, by simp [hlt]⟩, Pv (i + 1), fun σ' H' p' => ⟨xs.length - (i + 1), by omega, rfl, hlt, p'⟩, fun x H' y => ?_⟩
    obtain ⟨e, y⟩ := y
    subst e
    exact hs i x σ _ (y xs q) p
  · have e : i = xs.length := by omega
    subst e
    exact .inl ⟨⟨xs, q, Nat.le_refl _⟩, hd σ H p⟩
end L2
set_option Elab.async false
set_option linter.all false
set_option maxRecDepth 100000
namespace L2
open PySem PySem.Spec PyProof.Rows
mutual
def DV (K : PySem.W.Frag) (H : Hp) : PyData → V → Prop
  | .none, v => v = .non
  | .bool b, v => v = .bl b
  | .int i, v => v = .int i
  | .str x, v => v = .str x
  | .list ds, v => ∃ a xs, v = .ref a ∧ SqL K H a xs ∧ DVs K H ds xs
  | .tuple ds, v => ∃ a xs, v = .ref a ∧ SqT K H a xs ∧ DVs K H ds xs
  | .dict _, _ => False
def DVs (K : PySem.W.Frag) (H : Hp) : List PyData → List V → Prop
  | [], xs => xs = []
  | d :: ds, xs => ∃ x r, xs = x :: r ∧ DV K H d x ∧ DVs K H ds r
end
section
variable {X : Cx} {pins : List (Addr × Obj)} {σ : St} {H : Hp} {s : Shared}
mutual
theorem Inv.reads (I : Inv X pins σ H s) : ∀ (d : PyData) (v : V) (u : Value), DV X.K H d v → RelV v u → ∃ as, Reads s.heap u d as
  | .none, v, u, h, r => by
    unfold DV at h
    subst h
    cases (show u = Value.none from r)
    exact ⟨_, .none⟩
  | .bool b, v, u, h, r => by
    unfold DV at h
    subst h
    cases (show u = Value.bool b from r)
    exact ⟨_, .bool b⟩
  | .int i, v, u, h, r => by
    unfold DV at h
    subst h
    obtain ⟨t, rfl⟩ := (show ∃ t, u = Value.int i t from r)
    exact ⟨_, .int i t⟩
  | .str x, v, u, h, r => by
    unfold DV at h
    subst h
    obtain ⟨t, rfl⟩ := (show ∃ t, u = Value.str x t from r)
    exact ⟨_, .str x t⟩
  | .list ds, v, u, h, r => by
    unfold DV at h
    obtain ⟨a, xs, rfl, hq, hd⟩ := h
    cases (show u = Value.ref a from r)
    obtain ⟨its, rv, p, _⟩ := I.list hq
    obtain ⟨as, ra⟩ := Inv.readsAll I ds xs its hd rv
    obtain ⟨o, e, c, n, q⟩ := p.isList
    exact ⟨_, .list e c q (by simpa using ra)⟩
  | .tuple ds, v, u, h, r => by
    unfold DV at h
    obtain ⟨a, xs, rfl, hq, hd⟩ := h
    cases (show u = Value.ref a from r)
    obtain ⟨its, rv, p, _⟩ := I.tuple hq
    obtain ⟨as, ra⟩ := Inv.readsAll I ds xs its hd rv
    obtain ⟨o, e, c, n, q⟩ := (show s.heap.IsTuple a its.toArray from p)
    exact ⟨_, .tuple e c q (by simpa using ra)⟩
  | .dict _, v, u, h, r => by
    unfold DV at h
    exact h.elim
theorem Inv.readsAll (I : Inv X pins σ H s) : ∀ (ds : List PyData) (xs : List V) (us : List Value), DVs X.K H ds xs → Vals xs us → ∃ as, ReadsAll s.heap us ds as
  | [], xs, us, h, r => by
    unfold DVs at h
    subst h
    cases r
    exact ⟨_, .nil⟩
  | d :: ds, xs, us, h, r => by
    unfold DVs at h
    obtain ⟨x, xr, rfl, h1, h2⟩ := h
    cases r with
    | cons r1 r2 =>
      obtain ⟨as, ra⟩ := Inv.reads I d x _ h1 r1
      obtain ⟨bs, rb⟩ := Inv.readsAll I ds xr _ h2 r2
      exact ⟨_, .cons ra rb⟩
end
end
def rEqD (K : PySem.W.Frag) (neg : Bool) : R2 := fun x y H Q => ∃ da db, DV K H da x ∧ DV K H db y ∧ da.canLay0 = true ∧ db.canLay0 = true ∧ da.depth ≤ 64 ∧ Q (.bl (if neg then !PyData.eqv da db else PyData.eqv da db)) H
theorem op_neD {X : Cx} (hu : X.A.units + 64 < cLine) : OpR X (compareOp .NotEq) (rEqD X.K true) := by
  intro pins s σ H x y v u Q I rx ry h
  obtain ⟨da, db, h1, h2, c1, c2, hd, q⟩ := h
  obtain ⟨as, ra⟩ := I.reads da x v h1 rx
  obtain ⟨bs, rb⟩ := I.reads db y u h2 ry
  exact SeqAt.compareNe_reads ra rb c1 c2 (by have := Nat.min_le_left da.depth db.depth; omega) ⟨.bl _, H, I, rfl, q⟩
theorem dvs_ints {K : PySem.W.Frag} {H : Hp} : ∀ ns : List Int, DVs K H (ns.map PyData.int) (ns.map V.int)
  | [] => by unfold DVs; rfl
  | n :: r => by
    unfold DVs
    exact ⟨_, _, rfl, by unfold DV; rfl, dvs_ints r⟩
theorem dv_ints {K : PySem.W.Frag} {H : Hp} {a : Addr} {ns : List Int} (h : SqL K H a (ns.map V.int)) : DV K H (.list (ns.map PyData.int)) (.ref a) := by
  unfold DV
  exact ⟨a, _, rfl, h, dvs_ints ns⟩
theorem lay_ints : ∀ ns : List Int, PyData.canLayAll0 (ns.map PyData.int) = true
  | [] => by unfold PyData.canLayAll0; rfl
  | n :: r => by
    show PyData.canLayAll0 (PyData.int n :: r.map PyData.int) = true
    unfold PyData.canLayAll0
    rw [lay_ints r]
    unfold PyData.canLay0
    rfl
theorem deep_ints : ∀ ns : List Int, PyData.depthAll (ns.map PyData.int) = 0
  | [] => by unfold PyData.depthAll; rfl
  | n :: r => by
    show PyData.depthAll (PyData.int n :: r.map PyData.int) = 0
    unfold PyData.depthAll
    rw [deep_ints r]
    unfold PyData.depth
    rfl
def rEqL (K : PySem.W.Frag) (neg : Bool) : R2 := fun x y H Q => ∃ (a b : Addr) (ns ms : List Int), x = .ref a ∧ y = .ref b ∧ SqL K H a (ns.map V.int) ∧ SqL K H b (ms.map V.int) ∧ Q (.bl (if neg then !decide (ns = ms) else decide (ns = ms))) H
theorem rEqL_D {K : PySem.W.Frag} {neg : Bool} {x y : V} {H : Hp} {Q : VK} (h : rEqL K neg x y H Q) : rEqD K neg x y H Q := by
  obtain ⟨a, b, ns, ms, rfl, rfl, h1, h2, q⟩ := h
  have e : PyData.eqv (.list (ns.map PyData.int)) (.list (ms.map PyData.int)) = decide (ns = ms) := by
    unfold PyData.eqv
    exact PySem.W.ked_eqvAll ns ms
  refine ⟨.list (ns.map PyData.int), .list (ms.map PyData.int), dv_ints h1, dv_ints h2, ?_, ?_, ?_, ?_⟩
  · unfold PyData.canLay0
    exact lay_ints ns
  · unfold PyData.canLay0
    exact lay_ints ms
  · unfold PyData.depth
    rw [deep_ints]
    decide
  · rw [e]
    exact q
theorem op_neL {X : Cx} (hu : X.A.units + 64 < cLine) : OpR X (compareOp .NotEq) (rEqL X.K true) := fun pins s σ H x y v u Q I rx ry h => op_neD hu pins s σ H x y v u Q I rx ry (rEqL_D h)
end L2
set_option Elab.async false
set_option linter.all false
set_option maxRecDepth 100000
namespace L2
open PySem PySem.Spec PyProof.Rows
def CellV (H : Hp) (c : Addr) (v : V) : Prop := ∃ o u k, H c = some (.frz o k) ∧ o.data = .cell (some u) ∧ RelV v u
theorem CellV.same {H H' : Hp} {c : Addr} {v : V} (x : CellV H c v) (h : ∀ o k, H c = some (.frz o k) → H' c = some (.frz o k)) : CellV H' c v := by
  obtain ⟨o, u, k, e, r⟩ := x
  exact ⟨o, u, k, h o k e, r⟩
section
variable {X : Cx} {pins : List (Addr × Obj)} {σ : St} {H : Hp} {s : Shared}
theorem Inv.freeze {x : Str} {c : Addr} {o : Obj} (I : Inv X pins σ H s) (hfn : X.fn x = false) (hc : X.env.cells.lookup x = some c) (hn : H c = none) (hab : X.s₀.heap.objs.size ≤ c) (ho : s.heap.get? c = some o) :
    Inv X pins σ (upd H c (.frz o (.own c))) s := by
  have ne : ∀ b u, H b = some u → b ≠ c := fun b u e => ne_of_none e hn
  obtain ⟨w, oc, hoc, hdc⟩ := I.cell x c hc
  rw [ho] at hoc
  cases hoc
  refine ⟨I.ok, I.os, I.bare, ⟨I.base.keep, I.base.slot, fun b u e n hx => ?_, I.base.there, fun b xs e => ?_, fun b u k e => ?_, fun b ps e => ?_⟩, I.loc, I.cell, ?_, fun y c' e => ?_, fun p hp => ?_, fun b u e => ?_, I.len⟩
  · rw [upd_ne (Nat.ne_of_lt (Nat.lt_of_lt_of_le (Heap.lt_size e) hab))]
    exact I.base.free b u e n hx
  · have z := I.base.tups b xs e
    rw [upd_ne (ne b _ z)]
    exact z
  · have z := I.base.frzs b u k e
    rw [upd_ne (ne b _ z)]
    exact z
  · obtain ⟨m, z⟩ := I.base.tbls b ps e
    exact ⟨m, by rw [upd_ne (ne b _ z)]; exact z⟩
  · rw [upd_ne (fun z => I.cne x c hc z.symm)]
    exact I.free
  · by_cases hcc : c' = c
    · subst hcc
      have := I.ok.inj _ _ _ e hc
      subst this
      exact ⟨fun z => absurd (hfn.symm.trans z) Bool.false_ne_true, .inr ⟨o, _, upd_same⟩⟩
    · rw [upd_ne hcc]
      exact I.freeC y c' e
  · obtain ⟨e, n, ne', nf, d⟩ := I.pin p hp
    refine ⟨e, ?_, ne', nf, d⟩
    rw [upd_ne]
    · exact n
    · intro z
      rw [z, ho] at e
      cases e
      exact d _ hdc
  · by_cases hb : b = c
    · subst hb
      rw [upd_same] at e
      cases e
      exact ⟨ho, o, ho⟩
    · rw [upd_ne hb] at e
      exact (I.hok b u e).stay (fun _ _ _ q => q) (fun d q => by rw [upd_ne (ne d _ q)]; exact q) fun d xs q => by rw [upd_ne (ne d _ q)]; exact q
end
section
variable {P : Program} {w : World} {K : PySem.W.Frag} {mg : Str → Option Value} {base : Heap}
theorem freezeAll {X : Cx} {σ : St} {s : Shared} {Hb : Hp} (N ps : List Str) (vs : List V) (hps : ∀ (i : Nat) x v, ps[i]? = some x → vs[i]? = some v → X.N[i]? = some x ∧ σ[i]? = some (some v)) (hab : ∀ x c, X.env.cells.lookup x = some c → X.s₀.heap.objs.size ≤ c) :
    ∀ (fz : List Str) (H : Hp), (∀ x ∈ fz, X.fn x = false ∧ X.env.scope.names.lookup x = some .cell) → Inv X [] σ H s → Same Hb H → (∀ x c, X.env.cells.lookup x = some c → Hb c = none) →
      ∃ H1, Inv X [] σ H1 s ∧ Same Hb H1 ∧ (∀ b o, H b = some o → H1 b = some o) ∧ ∀ (i : Nat) x v, x ∈ fz → ps[i]? = some x → vs[i]? = some v → ∃ c, X.env.cells.lookup x = some c ∧ CellV H1 c v
  | [], H, _, I, sm, _ => ⟨H, I, sm, fun _ _ e => e, fun _ _ _ hx => (nomatch hx)⟩
  | x :: r, H, hf, I, sm, hb => by
    have hx := hf x List.mem_cons_self
    obtain ⟨c, hc⟩ := I.ok.has x (.inl hx.2)
    obtain ⟨w', oc, hoc, hdc⟩ := I.cell x c hc
    obtain ⟨H2, I2, s2, k2, hz⟩ : ∃ H2, Inv X [] σ H2 s ∧ Same Hb H2 ∧ (∀ b o, H b = some o → H2 b = some o) ∧ ∃ k, H2 c = some (.frz oc k) := by
      rcases (I.freeC x c hc).2 with z | ⟨o, u, z⟩
      · refine ⟨_, I.freeze hx.1 hc z (hab x c hc) hoc, fun b o e => ?_, fun b o e => ?_, _, upd_same⟩
        · rw [upd_ne (ne_of_none (sm b o e) z)]
          exact sm b o e
        · rw [upd_ne (ne_of_none e z)]
          exact e
      · obtain ⟨z1, _⟩ := I.hok c _ z
        rw [hoc] at z1
        cases z1
        exact ⟨H, I, sm, fun _ _ e => e, u, z⟩
    obtain ⟨H3, I3, s3, k3, h3⟩ := freezeAll N ps vs hps hab r H2 (fun y hy => hf y (List.mem_cons_of_mem _ hy)) I2 s2 hb
    refine ⟨H3, I3, s3, fun b o e => k3 b o (k2 b o e), fun i y v hy e1 e2 => ?_⟩
    by_cases hyx : y = x
    · subst hyx
      obtain ⟨hN, hσ⟩ := hps i y v e1 e2
      obtain ⟨m, hn, hl⟩ := I.loc
      obtain ⟨u, ru, l⟩ := hl i y v hN hσ (.inr (.inl hx.2))
      rcases l with ⟨q, _⟩ | ⟨_, c', hc', o', ho', hd'⟩
      · rw [show X.env.kindOf y = some .cell from hx.2] at q
        cases q
      · rw [hc] at hc'
        cases hc'
        rw [hoc] at ho'
        cases ho'
        obtain ⟨k, z⟩ := hz
        exact ⟨c, hc, oc, u, k, k3 c _ z, hd', ru⟩
    · rcases List.mem_cons.mp hy with q | q
      · exact absurd q hyx
      · exact h3 i y v q e1 e2
theorem fn_ofZ {k : Nat} {f : Addr} {name qual : Str} {params : Arguments} {body : List Stmt} {scope : Scope} {dV kV doc pm cdv ct oc : Value} {an od : Option Addr}
    {osl : Array (Option Value)} {N ps fz : List Str} {sp : Sp} (lk : K.lookup f = some ⟨oc, od, .func (PySem.W.fnOf name qual params body scope dV kV doc pm an cdv ct), osl⟩) (hcd : PySem.W.codeIn K cdv qual = true) (S : FnScope N ps scope)
    (hfz : ∀ x ∈ fz, scope.names.lookup x = some .cell) (len : ∀ vs H Q E, sp vs H Q E → vs.length = ps.length)
    (hbody : ∀ (A : Around) (outer : List Env) (s : Shared) (H : Hp) (vs : List V) (Q : VK) (E : XK), Room k (A.deeper (envOfC qual scope s.heap.objs.size f cdv)) → sp vs H Q E →
      ∀ H1 : Hp, Same H H1 → (∀ (i : Nat) x v, x ∈ fz → ps[i]? = some x → vs[i]? = some v → ∃ c, (envOfC qual scope s.heap.objs.size f cdv).cells.lookup x = some c ∧ CellV H1 c v) →
      ∃ t, PSs (cxOf CX0 P w K mg base N qual scope f cdv A outer s H E (fun x => !fz.contains x)).nox body t ∧ t { nx := fun _ H' => Q .non H', rt := Q } (start N vs) H1) :
    FnOk P w K mg base CX0 (k + 1) f (PySem.W.fnOf name qual params body scope dV kV doc pm an cdv ct) ps sp := by
  refine ⟨len, fun A outer s H args us vs Q E hr e0 hb r hsp => ?_⟩
  have hl := len _ _ _ _ hsp
  have KX : K.In s.heap := e0.mod.kin.keeps fun b o e => (e0.bs b o e).1
  have lim : s.heap.NoLimit := e0.mod.nolimit.keeps fun b o e => (e0.bs b o e).1
  have hpl : ps.length ≤ N.length := by have := congrArg List.length S.pre; rw [List.length_take] at this; omega
  have hkind : ∀ y ∈ ps.zip us, scope.names.lookup y.1 = some .local ∨ (scope.names.lookup y.1 = some .cell ∧ ((cellsFrom (s.heap.objs.size + 1) scope.names []).lookup y.1).isSome = true) := fun ⟨n, v⟩ hy => by
    rcases S.par n (List.of_mem_zip hy).1 with q | q
    · exact .inl q
    · exact .inr ⟨q, PySem.W.cellsFrom_some _ _ _ (.inl q)⟩
  refine codeAny_call_function hr.depth (KX _ _ lk) rfl S.co S.gen rfl (PySem.W.codeRec_of KX hcd) (hb _ _ _ _ ?_)
  refine wpAny_newFunctionEnv_cells S.kind hkind fun env he s1 x => ?_
  subst he
  refine ⟨lim.keeps x.toInCall.keep, codeAny_func ?_⟩
  have I : Inv (cxOf CX0 P w K mg base N qual scope f cdv A outer s H E (fun x => !fz.contains x)) [] (start N vs) H s1 := inv_start S hr.hd e0 hl r x
  have hst : ∀ (i : Nat) y v, ps[i]? = some y → vs[i]? = some v → N[i]? = some y ∧ (start N vs)[i]? = some (some v) := fun i y v e1 e2 => by
    have hi : i < ps.length := (List.getElem?_eq_some_iff.mp e1).1
    refine ⟨?_, ?_⟩
    · rw [← S.pre, List.getElem?_take_of_lt hi] at e1
      exact e1
    · unfold start
      rw [List.getElem?_append_left (by simp; omega), List.getElem?_map, e2]
      rfl
  obtain ⟨H1, I1, sm, _, hcv⟩ := freezeAll (X := cxOf CX0 P w K mg base N qual scope f cdv A outer s H E (fun x => !fz.contains x)) (Hb := H) N ps vs hst
    (fun y c e => Nat.le_of_lt (x.above y c (PySem.mem_of_lookup e))) fz H (fun y hy => ⟨by show (!fz.contains y) = false; simp [hy], hfz y hy⟩) I (Same.refl H) (fun y c e => e0.hok.fresh (Nat.le_of_lt (x.above y c (PySem.mem_of_lookup e))))
  obtain ⟨t, ht, hq⟩ := hbody A outer s H vs Q E (hr.deeper _) hsp H1 sm hcv
  refine wpAny_mono (ht.nox [] s1 (start N vs) H1 _ I1 hq) (fun fl s' hs => ?_) fun e s' hs => hs
  have fin : ∀ {σ' : St} {H' : Hp} {v : V} {u : Value}, Inv (cxOf CX0 P w K mg base N qual scope f cdv A outer s H E (fun x => !fz.contains x)) [] σ' H' s' → RelV v u → Q v H' → CE outer P w H s Q u s' :=
    fun {σ' H' v u} J rv q => ⟨v, H', J.os, J.bare, J.base, J.hok, rv, q⟩
  cases fl with
  | ret u =>
    obtain ⟨v, σ', H', J, rv, q⟩ := hs
    exact fin J rv q
  | next =>
    obtain ⟨σ', H', J, q⟩ := hs
    exact fin (v := V.non) (u := Value.none) J rfl q
  | brk =>
    obtain ⟨_, _, _, q⟩ := hs
    exact False.elim q
  | cont =>
    obtain ⟨_, _, _, q⟩ := hs
    exact False.elim q
end
def CodeShape (oc : Obj) (qual : Str) : Prop := ∃ vs t, oc.data = .fields vs ∧ vs[1]? = some (.str qual t)
structure FnShape (name qual : Str) (params : Arguments) (body : List Stmt) (scope : Scope) (cells : List (Str × Addr)) (fo : Obj) (clos : List (Str × Addr)) (c' : Addr) : Prop where
  ob : ∃ doc pm ctv, fo = PySem.W.fnMade name qual params body scope clos doc pm c' ctv
  sub : ∀ x c, clos.lookup x = some c → cells.lookup x = some c
  free : ∀ x c, clos.lookup x = some c → (x, NameKind.free) ∈ scope.names
  all : ∀ y ∈ scope.names, y.2 = .free → ∃ c, clos.lookup y.1 = some c
  inj : ∀ x y c, clos.lookup x = some c → clos.lookup y = some c → x = y
structure FunV (H : Hp) (f : Addr) (name qual : Str) (params : Arguments) (body : List Stmt) (scope : Scope) (fr : List Str) (cv : List V) (fd : FuncData) : Prop where
  ex : ∃ fo cells clos c' oc k k', H f = some (.frz fo k) ∧ FnShape name qual params body scope cells fo clos c' ∧ fo.data = .func fd ∧ fd.closure = clos ∧ fd.code = .ref c' ∧ H c' = some (.frz oc k') ∧ CodeShape oc qual ∧
    ∀ (i : Nat) x v, fr[i]? = some x → cv[i]? = some v → ∃ c, clos.lookup x = some c ∧ CellV H c v
theorem FunV.same {H H' : Hp} {f : Addr} {name qual : Str} {params : Arguments} {body : List Stmt} {scope : Scope} {fr : List Str} {cv : List V} {fd : FuncData} (x : FunV H f name qual params body scope fr cv fd) (h : ∀ a o k, H a = some (.frz o k) → H' a = some (.frz o k)) :
    FunV H' f name qual params body scope fr cv fd := by
  obtain ⟨fo, cells, clos, c', oc, k, k', e1, s, e2, e3, e4, e5, cs, hv⟩ := x.ex
  exact ⟨fo, cells, clos, c', oc, k, k', h _ _ _ e1, s, e2, e3, e4, h _ _ _ e5, cs, fun i y v a b => let ⟨c, q, z⟩ := hv i y v a b; ⟨c, q, z.same fun o k => h c o k⟩⟩
structure CloScope (N ps fr : List Str) (sc : Scope) : Prop where
  kind : sc.kind = .function
  co : sc.isCoroutine = false
  gen : sc.isGenerator = false
  nd : N.Nodup
  pre : N.take (ps ++ fr).length = ps ++ fr
  par : ∀ x ∈ ps, sc.names.lookup x = some .local
  fre : ∀ x ∈ fr, sc.names.lookup x = some .free
  nocell : ∀ y ∈ sc.names, y.2 ≠ .cell
  allfr : ∀ y ∈ sc.names, y.2 = .free → y.1 ∈ fr
  look : ∀ y ∈ sc.names, sc.names.lookup y.1 = some y.2
def envClo (qual : Str) (scope : Scope) (clos : List (Str × Addr)) (L a : Addr) (cd : Value) : Env :=
  { scope := scope, locals := L, globals := mainGlobals, cells := clos, qual := qual ++ ".<locals>.", func := some a, code := cd, frame := some L, builtins := builtinsNs }
def cxClo (P : Program) (w : World) (K : PySem.W.Frag) (mg : Str → Option Value) (base : Heap) (N : List Str) (qual : Str) (scope : Scope) (clos : List (Str × Addr)) (f : Addr) (cd : Value) (A : Around) (outer : List Env) (s : Shared) (H : Hp) : Cx where
  prog := P
  w := w
  K := K
  mg := mg
  base := base
  A := A.deeper (envClo qual scope clos s.heap.objs.size f cd)
  N := N
  s₀ := s
  H₀ := H
  env := envClo qual scope clos s.heap.objs.size f cd
  outer := outer
  stack := envClo qual scope clos s.heap.objs.size f cd :: outer
  ex := []
  calm := true
  fn := fun _ => false
  pn := []
  xe := fun _ _ => False
theorem lookup_zip_rev {us : List Value} {x : Str} {u : Value} : ∀ {ps : List Str} {us : List Value} {i : Nat}, ps.Nodup → ps[i]? = some x → us[i]? = some u → (ps.zip us).reverse.lookup x = some u := by
  intro ps us i nd h1 h2
  have mem : (x, u) ∈ (ps.zip us).reverse := by
    rw [List.mem_reverse]
    refine List.mem_of_getElem? (i := i) ?_
    rw [List.getElem?_zip_eq_some]
    exact ⟨h1, h2⟩
  have key : ∀ (l : List (Str × Value)), (∀ v, (x, v) ∈ l → v = u) → (x, u) ∈ l → l.lookup x = some u := by
    intro l
    induction l with
    | nil => intro _ h; cases h
    | cons p r ih =>
      intro hu hm
      obtain ⟨n, v⟩ := p
      rw [List.lookup_cons]
      by_cases e : (x == n) = true
      · rw [e]
        have e' := beq_iff_eq.mp e
        subst e'
        exact congrArg some (hu v List.mem_cons_self)
      · rw [Bool.eq_false_iff.mpr e]
        refine ih (fun v hv => hu v (List.mem_cons_of_mem _ hv)) ?_
        rcases List.mem_cons.mp hm with q | q
        · cases q
          exact absurd (beq_self_eq_true x) e
        · exact q
  refine key _ (fun v hv => ?_) mem
  rw [List.mem_reverse] at hv
  obtain ⟨j, hj⟩ := List.getElem?_of_mem hv
  rw [List.getElem?_zip_eq_some] at hj
  have : j = i := nodup_ix nd hj.1 h1
  subst this
  rw [h2] at hj
  exact (Option.some.inj hj.2).symm
section
variable {P : Program} {w : World} {K : PySem.W.Frag} {mg : Str → Option Value} {base : Heap}
end
end L2
set_option Elab.async false
set_option linter.all false
set_option maxRecDepth 100000
namespace L2
open PySem PySem.Spec PyProof.Rows
def tDef (cells : List (Str × Addr)) (P : Addr) (name qual : Str) (params : Arguments) (body : List Stmt) (scope : Scope) (pos : Pos) (i : Nat) : TS := fun D σ H => ∃ ps, H P = some (.tbl ps) ∧ TriplesOk ps.toList ∧
  ((codeAmong pos ps.toList = none ∧ ∀ f c' fo oc clos, H f = none → H c' = none → f ≠ c' → f ≠ P → c' ≠ P → FnShape name qual params body scope cells fo clos c' → CodeShape oc qual →
      D.nx (σ.set i (some (.ref f))) (upd (upd (upd H P (.tbl (ps ++ #[rawInt pos.line, rawInt pos.col, .ref c']))) c' (.frz oc (.own c'))) f (.frz fo (.own f)))) ∨
   (∃ c' oc k, codeAmong pos ps.toList = some (.ref c') ∧ H c' = some (.frz oc k) ∧ CodeShape oc qual ∧ ∀ f fo clos, H f = none → FnShape name qual params body scope cells fo clos c' → D.nx (σ.set i (some (.ref f))) (upd H f (.frz fo (.own f)))))
section
variable {X : Cx}
theorem closureFor_free {env : Env} : ∀ (names : List (Str × NameKind)) (acc cl : List (Str × Addr)),
    (forIn names acc fun (x : Str × NameKind) cs => if (x.2 == NameKind.free) = true then (do let a ← cellOf env x.1; pure (ForInStep.yield ((x.1, a) :: cs))) else pure (ForInStep.yield cs) : Sem (List (Str × Addr))) = pure cl →
    (∀ y ∈ names, y.2 = .free → ∃ c, env.cells.lookup y.1 = some c) → ∀ x c, cl.lookup x = some c → (x, NameKind.free) ∈ names ∨ ∃ d, acc.lookup x = some d
  | [], acc, cl, e, _, x, c, h => by
    have e' : (pure acc : Sem (List (Str × Addr))) = pure cl := e
    have : acc = cl := by injection e'
    subst this
    exact .inr ⟨c, h⟩
  | (n, k) :: r, acc, cl, e, hn, x, c, h => by
    rw [List.forIn_cons] at e
    by_cases hk : k = .free
    · obtain ⟨d, hd⟩ := hn (n, k) List.mem_cons_self hk
      rw [if_pos (by rw [hk]; rfl)] at e
      have hco : cellOf env n = pure d := by unfold cellOf; rw [hd]
      change ((cellOf env n >>= fun a => pure (ForInStep.yield ((n, a) :: acc))) >>= _) = _ at e
      rw [hco, pure_bind, pure_bind] at e
      rcases closureFor_free r ((n, d) :: acc) cl e (fun y hy => hn y (List.mem_cons_of_mem _ hy)) x c h with z | ⟨d', z⟩
      · exact .inl (List.mem_cons_of_mem _ z)
      · rw [List.lookup_cons] at z
        by_cases hx : (x == n) = true
        · have hx' := beq_iff_eq.mp hx
          subst hx' hk
          exact .inl List.mem_cons_self
        · rw [Bool.eq_false_iff.mpr hx] at z
          exact .inr ⟨d', z⟩
    · rw [if_neg (by simpa using hk), pure_bind] at e
      rcases closureFor_free r acc cl e (fun y hy => hn y (List.mem_cons_of_mem _ hy)) x c h with z | z
      · exact .inl (List.mem_cons_of_mem _ z)
      · exact .inr z
theorem closureFor_all {scope : Scope} {env : Env} (hn : ∀ y ∈ scope.names, y.2 = .free → ∃ c, env.cells.lookup y.1 = some c) :
    ∃ cl, closureFor scope env = pure cl ∧ (∀ x c, cl.lookup x = some c → env.cells.lookup x = some c) ∧ (∀ y ∈ scope.names, y.2 = .free → ∃ c, cl.lookup y.1 = some c) ∧ ∀ x c, cl.lookup x = some c → (x, NameKind.free) ∈ scope.names := by
  obtain ⟨cl, e1, h1, h2, _⟩ := closure_of (env := env) scope.names [] hn (fun x c h => by cases h)
  refine ⟨cl, ?_, h1, h2, fun x c h => ?_⟩
  · unfold closureFor
    rw [← e1, bind_pure]
  · rcases closureFor_free scope.names [] cl e1 hn x c h with z | ⟨d, z⟩
    · exact z
    · cases z
theorem ps_def {name : Str} {params : Arguments} {body : List Stmt} {scope : Scope} {pos : Pos} {i : Nat} {c P : Addr} (hN : X.N.Nodup) (hi : X.N[i]? = some name) (hx : Loc X.env.scope name) (hcode : X.env.code = .ref c) (hC : PySem.W.CodeHd X.base c P) (hB : X.base.BuiltinsAt X.mg P)
    (hfr : ∀ y ∈ scope.names, y.2 = .free → X.env.kindOf y.1 = some .cell ∨ X.env.kindOf y.1 = some .free) (hd0 : params.defaults = [] := by rfl) (hk0 : params.kw_defaults = [] := by rfl) (ha : annTrees params none X.env = [] := by rfl)
    (hf : X.fn name = true ∨ X.env.scope.names.lookup name = some .local := by first | exact .inl rfl | exact .inr rfl | assumption) :
    PS X (.FunctionDef name params body [] none [] scope none name pos) (tDef X.env.cells P name (qualnameIn X.env name name) params body scope pos i) := by
  intro pins s σ H D I h
  obtain ⟨ps, hP, ht, h⟩ := h
  obtain ⟨cl, hclos, hcl, hcl2, hcl3⟩ := closureFor_all (scope := scope) (env := X.env) (fun y hy hf => I.ok.has y.1 (hfr y hy hf))
  have hPo : s.heap.get? P = some (PySem.W.tabObj ps) := I.hok P _ hP
  have hg : s.heap.Ns mainGlobals X.mg := I.ok.mod.glob.keeps I.bk
  have hgP : mainGlobals ≠ P := fun q => by
    obtain ⟨o, es, ep, e, hd, _⟩ := hg
    rw [q, hPo] at e
    cases e
    cases hd
  have hBs : s.heap.BuiltinsAt X.mg P := by
    obtain ⟨bm, o, a1, a2, a3, a4, a5, a6⟩ := hB
    exact ⟨bm, o, a1, a2, a3, a4, I.bk _ _ a5, a6⟩
  have hsh : ∀ {doc ctv : Value} {c' : Addr}, FnShape name (qualnameIn X.env name name) params body scope X.env.cells (PySem.W.fnMade name (qualnameIn X.env name name) params body scope cl doc ((X.mg "__name__").getD .none) c' ctv) cl c' :=
    fun {doc ctv c'} => ⟨⟨doc, _, ctv, rfl⟩, hcl, hcl3, hcl2, fun x y d h1 h2 => I.ok.inj x y d (hcl x d h1) (hcl y d h2)⟩
  refine PySem.W.nestDef_K hd0 hk0 ha ?_
  rcases h with ⟨hnone, h⟩ | ⟨c', oc, k, hsome, hc', hcs, h⟩
  · refine PySem.W.makeFunction_K hclos I.ok.glob hg hcode (hC.keeps I.bk) hPo ht hnone hgP hBs fun c' ctv doc h' tk hx' hge hlt hrec htb => ?_
    obtain ⟨c2, oc, vs, t, e2, hoc, hdc, hvc⟩ := hrec
    cases e2
    have fr1 : H c' = none := I.hok.fresh hge
    have fr2 : H h'.objs.size = none := I.hok.fresh (Nat.le_trans hge (Nat.le_of_lt hlt))
    have n1 : h'.objs.size ≠ c' := Nat.ne_of_gt hlt
    have n2 : h'.objs.size ≠ P := fun z => by rw [z, hP] at fr2; cases fr2
    have n3 : c' ≠ P := fun z => by rw [z, hP] at fr1; cases fr1
    have q := h h'.objs.size c' _ oc cl fr2 fr1 n1 n2 n3 (hsh (doc := doc) (ctv := ctv)) ⟨vs, t, hdc, hvc⟩
    have neP : ∀ b, H b = none → b ≠ P := fun b e z => by rw [z, hP] at e; cases e
    have kp : ∀ b o, b ≠ P → s.heap.get? b = some o → (h'.push (PySem.W.fnMade name (qualnameIn X.env name name) params body scope cl doc ((X.mg "__name__").getD .none) c' ctv)).get? b = some o := fun b o hb e => Heap.get?_push_of_some _ (hx' b o hb e)
    have other : ∀ b u, H b = some u → b ≠ P → (upd (upd (upd H P (.tbl (ps ++ #[rawInt pos.line, rawInt pos.col, .ref c']))) c' (.frz oc (.own c'))) h'.objs.size (.frz (PySem.W.fnMade name (qualnameIn X.env name name) params body scope cl doc ((X.mg "__name__").getD .none) c' ctv) (.own h'.objs.size))) b = some u := fun b u e hb => by
      rw [upd_ne (ne_of_none e fr2), upd_ne (ne_of_none e fr1), upd_ne hb]
      exact e
    have I2 : Inv X pins σ (upd (upd (upd H P (.tbl (ps ++ #[rawInt pos.line, rawInt pos.col, .ref c']))) c' (.frz oc (.own c'))) h'.objs.size (.frz (PySem.W.fnMade name (qualnameIn X.env name name) params body scope cl doc ((X.mg "__name__").getD .none) c' ctv) (.own h'.objs.size)))
        { s with heap := h'.push (PySem.W.fnMade name (qualnameIn X.env name name) params body scope cl doc ((X.mg "__name__").getD .none) c' ctv), toks := tk } := by
      refine I.step (g' := s.gens) (d' := s.drawn) (ch := []) (fun _ z => nomatch z) (fun b o _ _ _ e n => kp b o (neP b n) e) (fun b o _ _ _ e n => ⟨o.slots, kp b o (neP b n) e⟩) (fun b o _ e n => ?_) (fun b o _ e => ?_)
        (fun b xs e => other b _ e (fun z => by rw [z, hP] at e; cases e)) (fun b o u e => other b _ e (fun z => by rw [z, hP] at e; cases e)) (fun b qs e => ?_) (fun m hm => ?_) (fun b u e => ?_) I.bare
      · have lt := Heap.lt_size e
        rw [upd_ne (Nat.ne_of_lt (Nat.lt_of_lt_of_le lt (Nat.le_trans hge (Nat.le_of_lt hlt)))), upd_ne (Nat.ne_of_lt (Nat.lt_of_lt_of_le lt hge)), upd_ne (neP b n)]
        exact n
      · by_cases hb : b = P
        · exact ⟨_, by rw [hb]; exact Heap.get?_push_of_some _ htb⟩
        · exact ⟨o, kp b o hb e⟩
      · by_cases hb : b = P
        · subst hb
          rw [hP] at e
          cases e
          exact ⟨_, by rw [upd_ne n2.symm, upd_ne n3.symm, upd_same]⟩
        · exact ⟨#[], by rw [other b _ e hb]; simp⟩
      · obtain ⟨o, es, ep, ho, r⟩ := hm
        exact ⟨o, es, ep, kp _ o (neP _ I.free) ho, r⟩
      · by_cases hb1 : b = h'.objs.size
        · subst hb1
          rw [upd_same] at e
          cases e
          exact ⟨Heap.get?_push_size _ rfl, _, Heap.get?_push_size _ rfl⟩
        · rw [upd_ne hb1] at e
          by_cases hb2 : b = c'
          · subst hb2
            rw [upd_same] at e
            cases e
            exact ⟨Heap.get?_push_of_some _ hoc, _, Heap.get?_push_of_some _ hoc⟩
          · rw [upd_ne hb2] at e
            by_cases hb3 : b = P
            · subst hb3
              rw [upd_same] at e
              cases e
              exact Heap.get?_push_of_some _ htb
            · rw [upd_ne hb3] at e
              refine (I.hok b u e).stay (fun d v hd qd => kp d v ?_ qd) (fun d qd => other d _ qd (fun z => by rw [z, hP] at qd; cases qd)) fun d xs qd => other d _ qd (fun z => by rw [z, hP] at qd; cases qd)
              rcases hd with z | z
              · rw [z]
                exact hb3
              · exact fun y => by rw [y, hP] at z; cases z
    exact store_ok I2 hN hi hx (v := .ref h'.objs.size) rfl (fun s' I' => ⟨_, _, I', q⟩) hf
  · refine PySem.W.makeFunction_hit hclos I.ok.glob hg hcode (hC.keeps I.bk) hPo ht hsome hBs fun ctv doc h' tk hk hsz => ?_
    have q := h h'.objs.size _ cl (I.hok.fresh hsz) (hsh (doc := doc) (ctv := ctv))
    have I2 := I.laid (a := h'.objs.size) (o := .frz (PySem.W.fnMade name (qualnameIn X.env name name) params body scope cl doc ((X.mg "__name__").getD .none) c' ctv) (.own h'.objs.size)) (t' := tk)
      (h' := h'.push (PySem.W.fnMade name (qualnameIn X.env name name) params body scope cl doc ((X.mg "__name__").getD .none) c' ctv)) (fun b u e => Heap.get?_push_of_some _ (hk b u e)) hsz ⟨Heap.get?_push_size _ rfl, _, Heap.get?_push_size _ rfl⟩
    exact store_ok I2 hN hi hx (v := .ref h'.objs.size) rfl (fun s' I' => ⟨_, _, I', q⟩) hf
end
def Tab (H : Hp) (P : Addr) (pos : Pos) (qual : Str) : Prop := ∃ ps, H P = some (.tbl ps) ∧ TriplesOk ps.toList ∧
  (codeAmong pos ps.toList = none ∨ ∃ c' oc k, codeAmong pos ps.toList = some (.ref c') ∧ H c' = some (.frz oc k) ∧ CodeShape oc qual)
theorem Tab.new {H : Hp} {P : Addr} {pos : Pos} {qual : Str} (h : H P = some (.tbl #[])) : Tab H P pos qual := ⟨#[], h, trivial, .inl rfl⟩
def But (P : Addr) (H H' : Hp) : Prop := (∀ b o, b ≠ P → H b = some o → H' b = some o) ∧ ∀ pos qual, Tab H P pos qual → Tab H' P pos qual
theorem triples_snoc {a b c : Value} {i j : Int} {t u : Tok} (ha : a = .int i t) (hb : b = .int j u) : ∀ {l : List Value}, TriplesOk l → TriplesOk (l ++ [a, b, c])
  | [], _ => by rw [ha, hb]; exact trivial
  | .int _ _ :: .int _ _ :: _ :: r, h => triples_snoc (l := r) ha hb h
theorem Same.but {H H' : Hp} (P : Addr) (h : Same H H') : But P H H' := by
  refine ⟨fun b o _ e => h b o e, fun pos qual t => ?_⟩
  obtain ⟨ps, e, ht, z⟩ := t
  refine ⟨ps, h _ _ e, ht, ?_⟩
  rcases z with z | ⟨c', oc, k, z1, z2, z3⟩
  · exact .inl z
  · exact .inr ⟨c', oc, k, z1, h _ _ z2, z3⟩
theorem But.trans {P : Addr} {H H1 H2 : Hp} (a : But P H H1) (b : But P H1 H2) : But P H H2 := ⟨fun c o hc e => b.1 c o hc (a.1 c o hc e), fun pos qual t => b.2 pos qual (a.2 pos qual t)⟩
theorem tDef_of {cells : List (Str × Addr)} {P : Addr} {name qual : Str} {params : Arguments} {body : List Stmt} {scope : Scope} {pos : Pos} {i : Nat} {D : Ends} {σ : St} {H : Hp} (T : Tab H P pos qual)
    (k : ∀ f H' fo clos c' oc k1 k2, (∀ b o, b ≠ P → H b = some o → H' b = some o) → Tab H' P pos qual → H f = none → H' f = some (.frz fo k1) → FnShape name qual params body scope cells fo clos c' → H' c' = some (.frz oc k2) → CodeShape oc qual →
      D.nx (σ.set i (some (.ref f))) H') : tDef cells P name qual params body scope pos i D σ H := by
  obtain ⟨ps, hP, ht, z⟩ := T
  refine ⟨ps, hP, ht, ?_⟩
  rcases z with z | ⟨c', oc, k0, z1, z2, z3⟩
  · refine .inl ⟨z, fun f c' fo oc clos hf hc n1 n2 n3 sh cs => ?_⟩
    refine k f _ fo clos c' oc _ _ (fun b o hb e => ?_) ⟨_, by rw [upd_ne n2.symm, upd_ne n3.symm, upd_same], ?_, .inr ⟨c', oc, _, ?_, by rw [upd_ne n1.symm, upd_same], cs⟩⟩ hf upd_same sh (by rw [upd_ne n1.symm, upd_same]) cs
    · rw [upd_ne (ne_of_none e hf), upd_ne (ne_of_none e hc), upd_ne hb]
      exact e
    · rw [Array.toList_append]
      exact triples_snoc rfl rfl ht
    · rw [Array.toList_append]
      exact codeAmong_snoc _ ht z
  · refine .inr ⟨c', oc, k0, z1, z2, z3, fun f fo clos hf sh => ?_⟩
    refine k f _ fo clos c' oc _ _ (fun b o _ e => by rw [upd_ne (ne_of_none e hf)]; exact e) ⟨ps, by rw [upd_ne (ne_of_none hP hf)]; exact hP, ht, .inr ⟨c', oc, k0, z1, by rw [upd_ne (ne_of_none z2 hf)]; exact z2, z3⟩⟩ hf upd_same sh (by rw [upd_ne (ne_of_none z2 hf)]; exact z2) z3
theorem law_callT {P : Program} {w : World} {K : PySem.W.Frag} {mg mb : Str → Option Value} {k : Nat} {fa a : Addr} {fd : FuncData} {x : Str} {sp : Sp} {s₁ : Shared} {vs : List Value} {ns : List Int} (tabs : List (Addr × Addr))
    (hT : PySem.W.TabsAt tabs s₁.heap) (hKT : ∀ q ∈ tabs, K.lookup q.2 = none) (hBm : ∃ bm o, mg "__builtins__" = some (.ref bm) ∧ bm ≠ builtinsNs ∧ bm ≠ mainGlobals ∧ s₁.heap.get? bm = some o ∧ o.cls = .type "module" ∧ o.dict = some builtinsNs ∧ o.data = .plain)
    (KX : K.In s₁.heap) (hns : s₁.heap.Ns mainGlobals mg) (hb : s₁.heap.Ns builtinsNs mb) (hbb : ∀ x : Str, x ≠ "__name__" → mb x = bootBuiltins x) (hlim : s₁.heap.NoLimit) (hg : s₁.gens = #[])
    (ha : s₁.heap.get? a = some { cls := .type "list", data := .seq vs.toArray }) (hi : IntsAre vs ns) (hl : ns.length ≤ sizeLine) (hr : Room k callerA)
    (F : ∀ base : Heap, K.In base → base.Ns mainGlobals mg → (∀ q ∈ tabs, base.BuiltinsAt mg q.2) → FnOk P w K mg base CX0 k fa fd [x] sp) (hbind : ∀ (s : Shared) (u : Value), BindsTo s fd ⟨[u], []⟩ [(x, u)])
    (hsp : ∀ H : Hp, SqL K H a (ns.map V.int) → (∀ q ∈ tabs, H q.2 = some (.tbl #[])) → sp [.ref a] H (fun v _ => v = .bl true) fun _ _ _ => False) :
    codeAny (model P w) callerA (.call (.ref fa) ⟨[.ref a], []⟩) (fun r s' => r = .ok (.ret (.bool true)) ∧ OldK s₁.heap s'.heap ∧ s'.os = s₁.os ∧ AllBare s'.gens) s₁ := by
  have rv := vals_ints hi
  have lenV := hi.length
  have naP : ∀ q ∈ tabs, a ≠ q.2 := fun q hq z => by
    have e := (hT q hq).2
    rw [← z, ha] at e
    cases e
  have core : ∀ (H0 : Option HO), (H0 = none ∨ ∃ o xs, H0 = some (.frz o (.lst xs))) → (∀ H : Hp, H a = H0 → SqL K H a (ns.map V.int)) → (∀ u, H0 = some u → ∀ H : Hp, ObjOk P w H s₁.heap a u) → (H0 ≠ none → K.lookup a = none) →
      codeAny (model P w) callerA (.call (.ref fa) ⟨[.ref a], []⟩) (fun r s' => r = .ok (.ret (.bool true)) ∧ OldK s₁.heap s'.heap ∧ s'.os = s₁.os ∧ AllBare s'.gens) s₁ := by
    intro H0 hO hS hok0 hK0
    let H : Hp := fun b => if b = a then H0 else if b ∈ tabs.map (·.2) then some (.tbl #[]) else none
    have Ha : H a = H0 := if_pos rfl
    have Ht : ∀ q ∈ tabs, H q.2 = some (.tbl #[]) := fun q hq => by
      show (if q.2 = a then H0 else _) = _
      rw [if_neg (naP q hq).symm, if_pos (List.mem_map_of_mem hq)]
    have Hn : ∀ b, b ≠ a → b ∉ tabs.map (·.2) → H b = none := fun b h1 h2 => by
      show (if b = a then H0 else _) = _
      rw [if_neg h1, if_neg h2]
    have notTab : ∀ {b : Addr} {o : Obj}, s₁.heap.get? b = some o → o.cls ≠ .none → b ∉ tabs.map (·.2) := fun {b o} e hc z => by
      obtain ⟨q, hq, rfl⟩ := List.mem_map.mp z
      rw [(hT q hq).2] at e
      cases e
      exact hc rfl
    have hok : HOk P w H s₁.heap := fun b u z => by
      by_cases hb : b = a
      · subst hb
        rw [Ha] at z
        exact hok0 u z H
      · by_cases hb2 : b ∈ tabs.map (·.2)
        · obtain ⟨q, hq, rfl⟩ := List.mem_map.mp hb2
          rw [Ht q hq] at z
          cases z
          exact (hT q hq).2
        · rw [Hn b hb hb2] at z
          cases z
    have base_of : ∀ {b : Addr} {o : Obj}, s₁.heap.get? b = some o → H b = none → (hidT s₁.heap H).get? b = some o := fun e n => hidT_get e n
    have noA : ∀ {b : Addr} {o : Obj}, s₁.heap.get? b = some o → (∀ xs n, o.data ≠ .seq xs n) → (∀ xs, o.data ≠ .fields xs) → H b = none := fun {b o} e d1 d2 => by
      refine Hn b (fun z => ?_) (fun z => ?_)
      · rw [z, ha] at e
        cases e
        exact d1 _ _ rfl
      · obtain ⟨q, hq, rfl⟩ := List.mem_map.mp z
        rw [(hT q hq).2] at e
        cases e
        exact d2 _ rfl
    have nsK : ∀ {b : Addr} {m : Str → Option Value}, s₁.heap.Ns b m → (hidT s₁.heap H).Ns b m := fun {b m} ⟨o, es, ep, e, d, r⟩ => ⟨o, es, ep, base_of e (noA e (fun _ _ z => by rw [d] at z; cases z) (fun _ z => by rw [d] at z; cases z)), d, r⟩
    have hKb : K.In (hidT s₁.heap H) := fun b o e => base_of (KX b o e) (by
      by_cases hb : b = a
      · subst hb
        rw [Ha]
        cases q : H0 with
        | none => rfl
        | some u =>
          rw [hK0 (by rw [q]; simp)] at e
          cases e
      · refine Hn b hb fun z => ?_
        obtain ⟨q, hq, rfl⟩ := List.mem_map.mp z
        rw [hKT q hq] at e
        cases e)
    have hM : Mod K mg (hidT s₁.heap H) := ⟨hKb, nsK hns, ⟨mb, nsK hb, hbb⟩, let ⟨mc, h1, h2⟩ := hlim; ⟨mc, nsK h1, h2⟩⟩
    have e0 : Env0 P w K mg (hidT s₁.heap H) callerA [] s₁ H := ⟨rfl, hM, fun b o e => of_hidT e, Nat.le_of_eq (hidT_size _ _), trivial, fun b hb => absurd (show b ∈ ([] : List Addr) from hb) (by simp), hok, .of_eq hg⟩
    have hBt : ∀ q ∈ tabs, (hidT s₁.heap H).BuiltinsAt mg q.2 := fun q hq => by
      obtain ⟨bm, o, a1, a2, a3, a4, a5, a6, a7⟩ := hBm
      refine ⟨bm, o, a1, a2, a3, fun z => ?_, base_of a4 (noA a4 (fun _ _ z => by rw [a7] at z; cases z) (fun _ z => by rw [a7] at z; cases z)), a5, a6, a7⟩
      rw [z, (hT q hq).2] at a4
      cases a4
      cases a7
    refine codeAny_mono ((F _ hKb (nsK hns) hBt).run callerA [] s₁ H ⟨[.ref a], []⟩ [.ref a] [.ref a] _ _ hr e0 (hbind s₁ (.ref a)) (.cons rfl .nil) (hsp H (hS H Ha) Ht)) fun r s' h => ?_
    cases r with
    | error e => exact False.elim h
    | ok fl =>
      cases fl with
      | next => exact False.elim h
      | brk => exact False.elim h
      | cont => exact False.elim h
      | ret u =>
        obtain ⟨v, H', os, bare, un, hok', r', q⟩ := h
        have q' : v = .bl true := q
        subst q'
        obtain rfl : u = Value.bool true := r'
        refine ⟨rfl, ⟨fun b o e => ?_, fun b o e => un.there b o e (by simp)⟩, os, bare⟩
        by_cases hb2 : b ∈ tabs.map (·.2)
        · obtain ⟨q, hq, rfl⟩ := List.mem_map.mp hb2
          obtain ⟨more, z⟩ := un.tbls q.2 _ (Ht q hq)
          have z2 : s'.heap.get? q.2 = some { cls := .none, data := .fields (#[] ++ more) } := hok' q.2 _ z
          have e2 := (hT q hq).2
          rw [e] at e2
          cases e2
          exact .inr (.inl ⟨((hT q hq).1.tab (hT q hq).2).isCodeTable, rfl, #[], more, rfl, z2⟩)
        · by_cases hb : b = a
          · subst hb
            rcases hO with z | ⟨ob, xs, z⟩
            · exact .inl (un.keep b o e (by rw [Ha]; exact z) (by intro z; exact absurd (show b ∈ ([] : List Addr) from z) (by simp)) (by simp))
            · have z1 : H b = some (.frz ob (.lst xs)) := by rw [Ha]; exact z
              have z2 := un.frzs b ob _ z1
              obtain ⟨e1, _⟩ := hok b _ z1
              obtain ⟨e2, _⟩ := hok' b _ z2
              rw [e] at e1
              cases e1
              exact .inl e2
          · exact .inl (un.keep b o e (Hn b hb hb2) (by intro z; exact absurd (show b ∈ ([] : List Addr) from z) (by simp)) (by simp))
  cases hk : K.lookup a with
  | some o =>
    have e := KX a o hk
    rw [ha] at e
    cases e
    exact core none (.inl rfl) (fun H _ => .inr ⟨_, vs.toArray, _, hk, rfl, rfl, rfl, by rw [List.size_toArray, lenV]; exact hl, by simpa using rv⟩) (fun u z => by cases z) fun z => absurd rfl z
  | none =>
    exact core (some (.frz { cls := .type "list", data := .seq vs.toArray } (.lst (ns.map V.int)))) (.inr ⟨_, _, rfl⟩) (fun H e => .inl (.inr ⟨_, e⟩)) (fun u z H => by cases z; exact ⟨ha, by rw [List.length_map]; exact hl, vs, _, rv, ha⟩) fun _ => hk
theorem walk_ofT {l : PySem.W.OpenLaw} {n k : Nat} {q : Program} {loose : List Str} {XP : (Str → Option Value) → Heap → Prop} {YP : World → Heap → Prop} {d : DefRec} {K : Params → PySem.W.Frag} {ts : List Addr} {sp : PySem.W.Frag → List (Addr × Addr) → Sp} {x : Str}
    (hn : l.most = some n) (hn2 : n ≤ sizeLine) (hdf : d.params.defaults = []) (hr : Room k callerA)
    (hY : ∀ (w : World) (h : Heap), YP w h → (K w.params).In h) (hYT : ∀ (w : World) (h : Heap), YP w h → ∀ P ∈ ts, h.get? P = some (PySem.W.tabObj #[]))
    (F : ∀ (w : World) (mg : Str → Option Value) (fa : Addr) (h : Heap), (K w.params).In h → h.Ns mainGlobals mg → mg d.name = some (.ref fa) →
      ∃ (fd : FuncData) (tabs : List (Addr × Addr)), (∀ q ∈ tabs, q.2 ∈ ts ∧ PySem.W.codeHdIn (K w.params) q.1 q.2 = true ∧ (K w.params).lookup q.2 = none) ∧ (∀ (s : Shared) (u : Value), BindsTo s fd ⟨[u], []⟩ [(x, u)]) ∧
        ∀ base : Heap, (K w.params).In base → base.Ns mainGlobals mg → (∀ q ∈ tabs, base.BuiltinsAt mg q.2) → FnOk l.prog w (K w.params) mg base CX0 k fa fd [x] (sp (K w.params) tabs))
    (hsp : ∀ (K : PySem.W.Frag) (tabs : List (Addr × Addr)) (H : Hp) (a : Addr) (ns : List Int), ns.length ≤ n → SqL K H a (ns.map V.int) → (∀ q ∈ tabs, H q.2 = some (.tbl #[])) → sp K tabs [.ref a] H (fun v _ => v = .bl true) fun _ _ _ => False) :
    PySem.W.WalkO q loose XP YP l.row.toRowW d [] (fun f vs => PySem.call f vs) := by
  refine Att.attach_call hn hdf fun w s₀ s₁ mg mb fa o pm cd doc a vs ns G Y ho hd hcd hmg hobj hints hlen hg => ?_
  have KX := hY w _ Y
  obtain ⟨fd, tabs, hT, hb, hF⟩ := F w mg fa _ KX G.T.g hmg
  have hBm : ∃ bm o, mg "__builtins__" = some (.ref bm) ∧ bm ≠ builtinsNs ∧ bm ≠ mainGlobals ∧ s₁.heap.get? bm = some o ∧ o.cls = .type "module" ∧ o.dict = some builtinsNs ∧ o.data = .plain := by
    obtain ⟨bm, ob, b1, b2, b3, b4, b5, b6⟩ := G.T.bmain
    refine ⟨bm, ob, b1, b2, fun z => ?_, b3, b4, b5, b6⟩
    obtain ⟨o, es, ep, e, hd, _⟩ := G.T.g
    rw [z, e] at b3
    cases b3
    rw [hd] at b6
    cases b6
  exact law_callT tabs (fun q hq => ⟨PySem.W.codeHd_of_K KX (hT q hq).2.1, hYT w _ Y _ (hT q hq).1⟩) (fun q hq => (hT q hq).2.2) hBm KX G.T.g G.T.b G.T.builtins G.T.nolimit hg hobj hints (Nat.le_trans hlen hn2) hr hF hb (fun H hS hTt => hsp _ tabs H a ns hlen hS hTt)
end L2
set_option Elab.async false
set_option linter.all false
set_option maxRecDepth 100000
namespace L2
open PySem PySem.Spec PyProof.Rows
def NAs (K : PySem.W.Frag) (C : Addr) : List Str → Prop
  | [] => True
  | a :: r => NoAttr K C a ∧ NAs K C r
structure DfC (K : PySem.W.Frag) (mg : Str → Option Value) (x : Str) (as : List Str) where
  C : Addr
  hm : mg x = some (.ref C)
  cl : Cls K C
  na : NAs K C as
  mks : PySem.W.makesIn K C = true
  kp : PySem.W.keepIn K (.ref C) = true
structure DfM (K : PySem.W.Frag) (C : Addr) (m qual : Str) (st : Stmt) (ps : List Str) where
  f : Addr
  fd : FuncData
  fn : Fun K m qual st f fd
  me : Meth K C m f
  b : Binds K fd ps []
theorem DfM.mk' {K : PySem.W.Frag} {mg : Str → Option Value} {x q : Str} {as ps : List Str} {st : Stmt} (D : DfC K mg x as) (I : DfM K D.C "__init__" q st ps) : Mk K D.C I.f := ⟨D.mks, I.me.at_, I.me.fn, D.kp⟩
structure DfF (K : PySem.W.Frag) (mg : Str → Option Value) (x : Str) (st : Stmt) (ps : List Str) where
  f : Addr
  c : Addr
  P : Addr
  fd : FuncData
  ex : ∃ (oc : Value) (od : Option Addr) (kV doc pm : Value) (an : Option Addr) (ct : Value) (osl : Array (Option Value)),
    fd = PySem.W.fnOf x x (defArgs st) (defBody st) (defScope st) .none kV doc pm an (.ref c) ct ∧ K.lookup f = some ⟨oc, od, .func fd, osl⟩
  cd : PySem.W.codeIn K (.ref c) x = true
  ch : PySem.W.codeHdIn K c P = true
  nt : K.lookup P = none
  kp : PySem.W.keepIn K (.ref f) = true
  hm : mg x = some (.ref f)
  b : Binds K fd ps []
section
variable {P : Program} {w : World} {K : PySem.W.Frag} {mg : Str → Option Value} {base : Heap}
theorem DfF.ok {x : Str} {st : Stmt} {N ps fz : List Str} {k : Nat} {sp : Sp} (D : DfF K mg x st ps) (hK : K.In base) (S : FnScope N ps (defScope st)) (hfz : ∀ x ∈ fz, (defScope st).names.lookup x = some .cell) (len : ∀ vs H Q E, sp vs H Q E → vs.length = ps.length)
    (hbody : ∀ (A : Around) (outer : List Env) (s : Shared) (H : Hp) (vs : List V) (Q : VK) (E : XK), Room k (A.deeper (envOfC x (defScope st) s.heap.objs.size D.f (.ref D.c))) → sp vs H Q E →
      ∀ H1 : Hp, Same H H1 → (∀ (i : Nat) y v, y ∈ fz → ps[i]? = some y → vs[i]? = some v → ∃ c, (envOfC x (defScope st) s.heap.objs.size D.f (.ref D.c)).cells.lookup y = some c ∧ CellV H1 c v) → PySem.W.CodeHd base D.c D.P →
      ∃ t, PSs (cxOf CX0 P w K mg base N x (defScope st) D.f (.ref D.c) A outer s H E (fun y => !fz.contains y)).nox (defBody st) t ∧ t { nx := fun _ H' => Q .non H', rt := Q } (start N vs) H1) :
    FnOk P w K mg base CX0 (k + 1) D.f D.fd ps sp := by
  have hC := PySem.W.codeHd_of_K hK D.ch
  obtain ⟨f, c, T, fd, ⟨oc, od, kV, doc, pm, an, ct, osl, rfl, lk⟩, cd, ch, nt, kp, hm, b⟩ := D
  exact fn_ofZ lk cd S hfz len fun A outer s H vs Q E hr hsp H1 sm hc => hbody A outer s H vs Q E hr hsp H1 sm hc hC
end
def freeOk (outer inner : Scope) : Bool := inner.names.all fun y => y.2 != .free || (outer.names.lookup y.1 == some .cell || outer.names.lookup y.1 == some .free)
theorem defFree_of {X : Cx} {scope : Scope} (h : freeOk X.env.scope scope = true) : ∀ y ∈ scope.names, y.2 = .free → X.env.kindOf y.1 = some .cell ∨ X.env.kindOf y.1 = some .free := fun y hy hf => by
  have q := List.all_eq_true.mp h y hy
  rw [hf] at q
  simp at q
  exact q
theorem atI_some {α : Type} {xs : List α} {i : Int} (h1 : -(xs.length : Int) ≤ i) (h2 : i < xs.length) : ∃ v ∈ xs, atI xs i = some v := by
  unfold atI ixN
  by_cases h : 0 ≤ i
  · rw [if_pos h, if_pos h2]
    have hl : i.toNat < xs.length := by omega
    exact ⟨xs[i.toNat], List.getElem_mem hl, by simp [hl]⟩
  · rw [if_neg h, if_pos h1]
    have hl : (i + xs.length).toNat < xs.length := by omega
    exact ⟨xs[(i + xs.length).toNat], List.getElem_mem hl, by simp [hl]⟩
theorem at_int {ns : List Int} {i : Int} (h1 : -(ns.length : Int) ≤ i) (h2 : i < ns.length) : ∃ v ∈ ns, atI (ns.map V.int) i = some (V.int v) := by
  obtain ⟨v, hv, e⟩ := atI_some (xs := ns.map V.int) (i := i) (by simpa using h1) (by simpa using h2)
  obtain ⟨z, hz, rfl⟩ := List.mem_map.mp hv
  exact ⟨z, hz, e⟩
theorem snoc_all {ns : List Int} {y : Int} {p : Int → Prop} (h : ∀ x ∈ ns, p x) (hy : p y) : ∀ x ∈ ns ++ [y], p x := fun x hx => by
  rcases List.mem_append.mp hx with z | z
  · exact h x z
  · rw [List.mem_singleton.mp z]
    exact hy
theorem Same.put {H H2 : Hp} {p : Addr} {o : HO} (h : Same H H2) (hp : H p = none) : Same H (upd H2 p o) := fun b u e => by
  rw [upd_ne (ne_of_none e hp)]
  exact h b u e
theorem inV_int {n : Int} {ns : List Int} : inV (V.int n) (ns.map V.int) = decide (n ∈ ns) := by
  unfold inV
  induction ns with
  | nil => rfl
  | cons a r ih =>
    rw [List.map_cons, List.any_cons, ih]
    by_cases h : a = n
    · subst h
      simp [eqV]
    · simp [eqV, h, Ne.symm h]
theorem flat_ints : ∀ ns : List Int, (ns.map V.int).all flatV = true
  | [] => rfl
  | a :: r => by
    rw [List.map_cons, List.all_cons, flat_ints r]
    rfl
def But1 (p : Addr) (H H' : Hp) : Prop := ∀ c o, H c = some o → c ≠ p → H' c = some o
structure Hold (p : Prop) : Prop where
  out : p
def RFn (name qual : Str) (params : Arguments) (body : List Stmt) (scope : Scope) (_ : Addr) (fd : FuncData) : Prop := ∃ clos doc pm c' ct, fd = PySem.W.fnX name qual params body scope clos .none .none doc pm none (.ref c') ct
theorem funv_of {name qual : Str} {params : Arguments} {body : List Stmt} {scope : Scope} {cells clos : List (Str × Addr)} {fo oc : Obj} {c' f : Addr} {k1 k2 : HO} {H' : Hp} {fr : List Str} {cv : List V} (sh : FnShape name qual params body scope cells fo clos c')
    (hf : H' f = some (.frz fo k1)) (hc' : H' c' = some (.frz oc k2)) (cs : CodeShape oc qual) (hfr : ∀ (i : Nat) x v, fr[i]? = some x → cv[i]? = some v → (x, NameKind.free) ∈ scope.names ∧ ∃ c, cells.lookup x = some c ∧ CellV H' c v) :
    ∃ fd, fo.data = .func fd ∧ RFn name qual params body scope f fd ∧ FunV H' f name qual params body scope fr cv fd := by
  obtain ⟨doc, pm, ctv, hfo⟩ := id sh.ob
  have hd : fo.data = .func (PySem.W.fnX name qual params body scope clos .none .none doc pm none (.ref c') ctv) := by rw [hfo]
  refine ⟨_, hd, ⟨clos, doc, pm, c', ctv, rfl⟩, ⟨fo, cells, clos, c', oc, k1, k2, hf, sh, hd, rfl, rfl, hc', cs, fun i x v h1 h2 => ?_⟩⟩
  obtain ⟨hx, c, hc, hv⟩ := hfr i x v h1 h2
  obtain ⟨c2, e2⟩ := sh.all (x, .free) hx rfl
  have e3 := sh.sub x c2 e2
  rw [hc] at e3
  cases e3
  exact ⟨c, e2, hv⟩
@[irreducible] def tMid (t u : TS) : TS := tSeq t u
theorem pss_consM {X : Cx} {st : Stmt} {rest : List Stmt} {t u : TS} (h1 : PS X st t) (h2 : PSs X rest u) : PSs X (st :: rest) (tMid t u) := by
  unfold tMid
  exact pss_cons h1 h2
theorem mid {t u : TS} {D : Ends} {σ : St} {H : Hp} (Mid : St → Hp → Prop) (hu : ∀ σ H, Mid σ H → u D σ H) (ht : ∀ U : St → Hp → Prop, (∀ σ H, Mid σ H → U σ H) → t { D with nx := U } σ H) : tMid t u D σ H := by
  unfold tMid
  exact ht (u D) hu
theorem But1.funv {H H' : Hp} {p f : Addr} {xs : List V} {name qual : Str} {params : Arguments} {body : List Stmt} {scope : Scope} {fr : List Str} {cv : List V} {fd : FuncData} (hb : But1 p H H') (hp : H p = some (.lst xs)) (x : FunV H f name qual params body scope fr cv fd) : FunV H' f name qual params body scope fr cv fd :=
  x.same fun a o k e => hb a _ e (fun z => by rw [z, hp] at e; cases e)
theorem SqL.keep {K : PySem.W.Frag} {H H' : Hp} {a : Addr} {xs : List V} (h : SqL K H a xs) (hk : ∀ o, (∀ ps, o ≠ .tbl ps) → H a = some o → H' a = some o) : SqL K H' a xs := by
  rcases h with (h | ⟨o, h⟩) | h
  · exact .inl (.inl (hk _ (fun _ z => nomatch z) h))
  · exact .inl (.inr ⟨o, hk _ (fun _ z => nomatch z) h⟩)
  · exact .inr h
theorem atI_zero {α : Type} (v : α) (vs : List α) : atI (v :: vs) 0 = some v := atI_nat (xs := v :: vs) (j := 0) rfl
end L2
set_option Elab.async false
set_option linter.all false
set_option maxRecDepth 100000
namespace L2
open PySem PySem.Spec PyProof.Rows
def onceI (ns : List Int) : List Int := firstMet (fun i => ns.getD i 0) ns.length
theorem onceI_mem {ns : List Int} {k : Int} : k ∈ onceI ns ↔ k ∈ ns := by
  have h := firstMet_any (fun i => ns.getD i 0) ns.length k
  have e : (List.range ns.length).map (fun i => ns.getD i 0) = ns := by
    apply List.ext_getElem
    · simp
    · intro i h1 h2
      simp at h1
      simp [h1]
  rw [e] at h
  have a : (onceI ns).any (· == k) = true ↔ k ∈ onceI ns := by simp
  have b : ns.any (· == k) = true ↔ k ∈ ns := by simp
  rw [← a, ← b]
  unfold onceI
  rw [h]
theorem step_nodup {σ : List Int} {v : Int} (h : σ.Nodup) : (step_dedup σ v).Nodup := by
  unfold step_dedup
  split
  · exact h
  · rename_i hv
    have hv : v ∉ σ := by simpa using hv
    rw [List.nodup_append]
    refine ⟨h, by simp, ?_⟩
    intro a ha b hb
    rw [List.mem_singleton.mp hb]
    rintro rfl
    exact hv ha
theorem firstMet_nodup (val : Nat → Int) : ∀ i, (firstMet val i).Nodup
  | 0 => List.nodup_nil
  | i + 1 => by rw [firstMet_succ]; exact step_nodup (firstMet_nodup val i)
theorem onceI_nodup (ns : List Int) : (onceI ns).Nodup := firstMet_nodup _ _
theorem onceI_len (ns : List Int) : (onceI ns).length ≤ ns.length := firstMet_length_le _ _
section
variable {X : Cx}
end
theorem comp_filter {K : PySem.W.Frag} {a D : Addr} {ns : List Int} {tc : TT} {Q : VK} {σr : St} {H : Hp} (p : Int → Bool) (hD : H D = none) (ha : SqL K H a (ns.map V.int)) (hlen : ns.length ≤ 1000)
    (ht : ∀ x ∈ ns, ∀ H' (Qt : Bool → Hp → Prop), Same H H' → (∀ H'', Same H' H'' → Qt (p x) H'') → tc (some (.int x) :: σr) H' Qt)
    (hq : ∀ H', Same H H' → H' D = some (.lst ((ns.filter p).map V.int)) → Q (.ref D) H') :
    CompW (Itl K a) (gName 0) tc (tVar 0) Q D (none :: σr) (upd H D (.lst [])) := by
  refine comp_list (xs := ns.map V.int) (fun i σ H' => ∃ v, σ = v :: σr ∧ Same H H' ∧ H' D = some (.lst (((ns.take i).filter p).map V.int))) ⟨none, rfl, Same.new H hD, upd_same⟩ (fun i σ H' _ ⟨v, _, s, _⟩ => s.seq ha) ?_ ?_
  · rintro i x σ H' hi ⟨v, rfl, s, hd⟩
    obtain ⟨h1, h2⟩ := List.getElem?_eq_some_iff.mp hi
    rw [List.getElem_map] at h2
    subst h2
    rw [List.length_map] at h1
    have et : ns.take (i + 1) = ns.take i ++ [ns[i]] := by rw [List.take_succ_eq_append_getElem h1]
    refine ht ns[i] (List.getElem_mem h1) H' _ s fun H'' s2 => ?_
    have hd2 := s2 _ _ hd
    by_cases hp : p ns[i] = true
    · rw [if_pos hp]
      refine ⟨_, rfl, _, hd2, ?_, ⟨_, rfl, (s.trans s2).put hD, ?_⟩⟩
      · rw [List.length_map]
        have := List.length_filter_le p (ns.take i)
        rw [List.length_take] at this
        exact small1000 (by omega)
      · rw [upd_same, et, List.filter_append, List.map_append]
        simp [hp]
    · rw [if_neg hp]
      refine ⟨_, rfl, s.trans s2, ?_⟩
      rw [hd2, et, List.filter_append]
      simp [hp]
  · rintro σ H' ⟨v, rfl, s, hd⟩
    rw [List.length_map, List.take_length] at hd
    exact hq H' s hd
section
variable {X : Cx} {K : PySem.W.Frag}
theorem op_in_seqK (h : X.K = K) : OpR X (compareOp .In) (rIn K false) := h ▸ op_in_seq
theorem op_notIn_seqK (h : X.K = K) : OpR X (compareOp .NotIn) (rIn K true) := h ▸ op_notIn_seq
theorem ix_listK (h : X.K = K) : IxR X (rIxL K) := h ▸ ix_list
end
end L2
set_option Elab.async false
set_option linter.all false
set_option maxRecDepth 100000
namespace L2
open PySem PySem.Spec PyProof.Rows
def Ris (xs : Array Nat) : Prop := ∀ (i k : Nat) (hk : k < xs.size) (hi : i < k), xs[i] < xs[k]
theorem below_go {xs : Array Nat} {j : Nat} : ∀ (fuel lo hi : Nat), hi - lo ≤ fuel → lo ≤ hi → hi ≤ xs.size → Ris xs → (∀ (i : Nat) (h : i < xs.size), i < lo → xs[i] < j) → (∀ (i : Nat) (h : i < xs.size), hi ≤ i → j ≤ xs[i]) →
    SetTable.below.go xs j fuel lo hi ≤ xs.size ∧ (∀ (i : Nat) (h : i < xs.size), i < SetTable.below.go xs j fuel lo hi → xs[i] < j) ∧ ∀ (i : Nat) (h : i < xs.size), SetTable.below.go xs j fuel lo hi ≤ i → j ≤ xs[i]
  | 0, lo, hi, hf, hl, hh, hr, h1, h2 => by
    unfold SetTable.below.go
    exact ⟨by omega, h1, fun i h hi' => h2 i h (by omega)⟩
  | fuel + 1, lo, hi, hf, hl, hh, hr, h1, h2 => by
    unfold SetTable.below.go
    by_cases h : lo < hi
    · rw [if_pos h]
      have hm : (lo + hi) / 2 < xs.size := by omega
      have e : xs.getD ((lo + hi) / 2) j = xs[(lo + hi) / 2] := by simp [Array.getD, hm]
      dsimp only
      rw [e]
      by_cases hlt : xs[(lo + hi) / 2] < j
      · rw [if_pos hlt]
        refine below_go fuel _ hi (by omega) (by omega) hh hr (fun i hi' hlo => ?_) h2
        by_cases e2 : i = (lo + hi) / 2
        · subst e2; exact hlt
        · exact Nat.lt_trans (hr i ((lo + hi) / 2) hm (by omega)) hlt
      · rw [if_neg hlt]
        refine below_go fuel lo _ (by omega) (by omega) (by omega) hr h1 (fun i hi' hle => ?_)
        by_cases e2 : i = (lo + hi) / 2
        · subst e2; omega
        · have := hr ((lo + hi) / 2) i hi' (by omega)
          omega
    · rw [if_neg h]
      exact ⟨by omega, h1, fun i h hi' => h2 i h (by omega)⟩
theorem below_spec {xs : Array Nat} (hr : Ris xs) (j : Nat) : SetTable.below xs j ≤ xs.size ∧ (∀ (i : Nat) (h : i < xs.size), i < SetTable.below xs j → xs[i] < j) ∧ ∀ (i : Nat) (h : i < xs.size), SetTable.below xs j ≤ i → j ≤ xs[i] := by
  unfold SetTable.below
  exact below_go xs.size 0 xs.size (by omega) (by omega) (by omega) hr (fun i _ h => absurd h (by omega)) (fun i h h' => absurd h (by omega))
theorem below_at {xs : Array Nat} (hr : Ris xs) {i : Nat} (h : i < xs.size) : SetTable.below xs (xs[i] + 1) = i + 1 := by
  obtain ⟨h0, h1, h2⟩ := below_spec hr (xs[i] + 1)
  apply Classical.byContradiction
  intro ne
  rcases Nat.lt_or_gt_of_ne ne with z | z
  · have := h2 i h (by omega)
    omega
  · have h3 : i + 1 < xs.size := by omega
    have := h1 (i + 1) h3 z
    have := hr i (i + 1) h3 (by omega)
    omega
theorem below_zero {xs : Array Nat} (hr : Ris xs) : SetTable.below xs 0 = 0 := by
  obtain ⟨h0, h1, _⟩ := below_spec hr 0
  apply Classical.byContradiction
  intro ne
  have h : 0 < xs.size := by omega
  have := h1 0 h (by omega)
  omega
theorem slot_free {t : SetTable} (hr : Ris t.place) {j : Nat} (h : ∀ i, t.slot j ≠ .live i) : ∀ (i : Nat) (hi : i < t.place.size), t.place[i] ≠ j := by
  intro i hi e
  obtain ⟨h0, h1, h2⟩ := below_spec hr j
  have hb : SetTable.below t.place j = i := by
    apply Classical.byContradiction
    intro ne
    rcases Nat.lt_or_gt_of_ne ne with z | z
    · have hz : SetTable.below t.place j < t.place.size := by omega
      have := h2 _ hz (Nat.le_refl _)
      have := hr _ i hi z
      omega
    · have := h1 i hi z
      omega
  apply h (SetTable.below t.place j)
  unfold SetTable.slot
  dsimp only
  rw [if_pos]
  rw [hb]
  simp [hi, e]
theorem probe_go {t : SetTable} {f : Nat → Int} {h : Int} : ∀ (fuel : Nat) (p : SetTable.Probe) (j : Nat) (d : Option Nat), (∀ x, p.dummy = some x → t.slot x = .dummy) → SetTable.probe.go t f h fuel p = some (.empty j d) → t.slot j = .empty ∧ ∀ x, d = some x → t.slot x = .dummy
  | 0, p, j, d, hp, e => by cases e
  | fuel + 1, p, j, d, hp, e => by
    have adv : ∀ q : SetTable.Probe, (t.advance q).dummy = q.dummy := fun q => by
      unfold SetTable.advance
      split <;> rfl
    unfold SetTable.probe.go at e
    split at e
    · rename_i hs
      cases e
      exact ⟨hs, hp⟩
    · rename_i hs
      refine probe_go fuel _ j d (fun x hx => ?_) e
      rw [adv] at hx
      cases hx
      exact hs
    · split at e
      · cases e
      · refine probe_go fuel _ j d (fun x hx => ?_) e
        rw [adv] at hx
        exact hp x hx
theorem freeSlot_free {t : SetTable} {h : Int} {s : Nat} {b : Bool} (e : t.freeSlot h = some (s, b)) : ∀ i, t.slot s ≠ .live i := by
  unfold SetTable.freeSlot at e
  split at e
  · rename_i j d hp
    obtain ⟨h1, h2⟩ := probe_go _ _ j d (fun x hx => by cases hx) hp
    have e1 : d.getD j = s := congrArg Prod.fst (Option.some.inj e)
    intro i
    cases d with
    | none =>
      have : j = s := e1
      subst this
      rw [h1]
      exact fun z => nomatch z
    | some x =>
      have : x = s := e1
      subst this
      rw [h2 x rfl]
      exact fun z => nomatch z
  · cases e
theorem ris_of {xs : Array Nat} (h : xs.toList.Pairwise (· < ·)) : Ris xs := fun i k hk hi => by
  have := List.pairwise_iff_getElem.mp h i k (by simpa using Nat.lt_trans hi hk) (by simpa using hk) hi
  simpa using this
theorem Ris.list {xs : Array Nat} (h : Ris xs) : xs.toList.Pairwise (· < ·) := List.pairwise_iff_getElem.mpr fun i k hi hk hik => by
  have := h i k (by simpa using hk) hik
  simpa using this
theorem put_ris {t : SetTable} (hr : Ris t.place) {j : Nat} (h : ∀ i, t.slot j ≠ .live i) : Ris (t.put j).1.place := by
  have nf := slot_free hr h
  obtain ⟨h0, h1, h2⟩ := below_spec hr j
  refine ris_of ?_
  show (SetTable.insertAt t.place (SetTable.below t.place j) j).toList.Pairwise (· < ·)
  have e : (SetTable.insertAt t.place (SetTable.below t.place j) j).toList = t.place.toList.take (SetTable.below t.place j) ++ j :: t.place.toList.drop (SetTable.below t.place j) := by
    unfold SetTable.insertAt
    simp [Array.toList_extract, List.extract_eq_drop_take]
    rw [← Array.length_toList, List.take_of_length_le (by simp)]
  rw [e]
  have lp := hr.list
  refine List.pairwise_append.mpr ⟨lp.sublist (List.take_sublist _ _), List.pairwise_cons.mpr ⟨fun y hy => ?_, lp.sublist (List.drop_sublist _ _)⟩, fun x hx y hy => ?_⟩
  · obtain ⟨k, hk, rfl⟩ := List.getElem_of_mem hy
    rw [List.length_drop] at hk
    have hs : t.place.toList.length = t.place.size := by simp
    have x1 := h2 (SetTable.below t.place j + k) (by omega) (by omega)
    have x2 := nf (SetTable.below t.place j + k) (by omega)
    rw [List.getElem_drop, Array.getElem_toList]
    omega
  · have hx1 : x < j := by
      obtain ⟨k, hk, rfl⟩ := List.getElem_of_mem hx
      rw [List.length_take] at hk
      have hs : t.place.toList.length = t.place.size := by simp
      rw [List.getElem_take, Array.getElem_toList]
      exact h1 k (by omega) (by omega)
    rcases List.mem_cons.mp hy with z | z
    · rw [z]; exact hx1
    · obtain ⟨k, hk, rfl⟩ := List.getElem_of_mem z
      rw [List.length_drop] at hk
      have hs : t.place.toList.length = t.place.size := by simp
      have x1 := h2 (SetTable.below t.place j + k) (by omega) (by omega)
      rw [List.getElem_drop, Array.getElem_toList]
      omega
theorem standIn_ris (t : SetTable) (n : Nat) : Ris (t.standIn n).place := ris_of (by
  show (Array.range n).toList.Pairwise (· < ·)
  rw [Array.toList_range]
  exact List.pairwise_lt_range)
structure TabOk (led : Bool) (t : SetTable) : Prop where
  ris : Ris t.place
  led : t.led = led
theorem TabOk.plainOff {led : Bool} {t : SetTable} (h : TabOk led t) : TabOk led { t with plain := false } := ⟨h.ris, h.led⟩
theorem TabOk.orStandIn {led : Bool} {t : SetTable} (h : TabOk led t) (n : Nat) : TabOk led (t.orStandIn n) := by
  unfold SetTable.orStandIn
  split
  · exact h
  · exact ⟨standIn_ris t n, h.led⟩
theorem layNew_ok {led : Bool} {t : SetTable} (h : TabOk led t) (es : Array (Int × Value)) (k : Int) (x : Value) : TabOk led (layNew t es k x).2.1 := by
  unfold layNew
  split
  · rename_i s b e
    exact TabOk.orStandIn (t := (t.put s).1) ⟨put_ris h.ris (freeSlot_free e), h.led⟩ _
  · exact ⟨standIn_ris t _, h.led⟩
theorem relaid_ok {led : Bool} {t t' : SetTable} {order : Array Nat} {hs : Array Int} {n : Nat} (h : TabOk led t) (e : t.relaid hs n = some (t', order)) : TabOk led t' := by
  unfold SetTable.relaid SetTable.laid at e
  cases q : SetTable.layClean (SetTable.sizeAbove n - 1) hs with
  | none => rw [q] at e; cases e
  | some owner =>
    rw [q] at e
    have e' : some _ = some (t', order) := e
    have e1 := congrArg Prod.fst (Option.some.inj e')
    subst e1
    refine ⟨?_, h.led⟩
    have key : ∀ (l : List Nat), l.Pairwise (· < ·) → ((l.filterMap fun j => (owner.getD j none).map (fun y => (j, y))).map (·.1)).Pairwise (· < ·) := by
      intro l hl
      induction l with
      | nil => exact List.Pairwise.nil
      | cons a r ih =>
        obtain ⟨h1, h2⟩ := List.pairwise_cons.mp hl
        have ih := ih h2
        rw [List.filterMap_cons]
        cases z : owner.getD a none with
        | none => simpa using ih
        | some y =>
          simp only [Option.map_some, List.map_cons]
          refine List.pairwise_cons.mpr ⟨fun b hb => ?_, ih⟩
          obtain ⟨⟨c, d⟩, hc, rfl⟩ := List.mem_map.mp hb
          obtain ⟨j, hj, hjc⟩ := List.mem_filterMap.mp hc
          cases zz : owner.getD j none with
          | none => rw [zz] at hjc; cases hjc
          | some v =>
            rw [zz] at hjc
            cases hjc
            exact h1 _ hj
    refine ris_of ?_
    have hp := key (List.range (SetTable.sizeAbove n - 1 + 1)) List.pairwise_lt_range
    simpa using hp
theorem relayAll_ok {led : Bool} {t : SetTable} (h : TabOk led t) (es : Array (Int × Value)) (n : Nat) : TabOk led (relayAll t es n).2.1 := by
  unfold relayAll
  split
  · rename_i t' order e
    dsimp only
    split
    · exact relaid_ok h e
    · exact ⟨standIn_ris t _, h.led⟩
  · exact ⟨standIn_ris t _, h.led⟩
end L2
set_option Elab.async false
set_option linter.all false
set_option maxRecDepth 100000
namespace L2
open PySem PySem.Spec PyProof.Rows
def ledOf (w : World) : Bool := !w.params.followText "set-order"
def SetX (P : Program) (w : World) (h : Heap) (a : Addr) (ks : List Int) : Prop :=
  ∃ o es ep t, h.get? a = some o ∧ o.ExactSet ∧ o.data = .set es ep t ∧ ElemsOf (intKind P w) es.toList ∧ (∀ k, k ∈ ks ↔ ∃ e ∈ es.toList, (intKind P w).is k e.2 = true) ∧ es.size < scanBound ∧ t.fits es.size = true ∧ es.size = ks.length ∧ TabOk (ledOf w) t
section
variable {P : Program} {w : World} {A : Around} {E : Value → Shared → Prop} {s : Shared}
theorem SetX.keep {h h' : Heap} {a : Addr} {ks : List Int} (x : SetX P w h a ks) (k : ∀ o, h.get? a = some o → h'.get? a = some o) : SetX P w h' a ks := by
  obtain ⟨o, es, ep, t, ho, r⟩ := x
  exact ⟨o, es, ep, t, k o ho, r⟩
theorem store_X {a : Addr} {o : Obj} {es es2 : Array (Int × Value)} {ep : Nat} {t t2 : SetTable} {ks : List Int} {Q : Unit → Shared → Prop} (ho : s.heap.get? a = some o) (hex : o.ExactSet) (hd : o.data = .set es ep t)
    (hel : ElemsOf (intKind P w) es2.toList) (hm : ∀ k, k ∈ ks ↔ ∃ e ∈ es2.toList, (intKind P w).is k e.2 = true) (hb : es2.size < scanBound) (hf : t2.fits es2.size = true) (hn : es2.size = ks.length) (hT : TabOk (ledOf w) t2)
    (q : ∀ h' o', Heap.SameBut a s.heap h' → h'.get? a = some o' → o'.ExactSet → o'.data = .set es2 (ep + 1) t2 → SetX P w h' a ks → Q () { s with heap := h' }) : wpAny (model P w) A (storeSet a es2 t2) Q E s := by
  refine wpAny_storeSet_of ho hd ?_ (fits_of_scanBound hb)
  obtain ⟨g, _⟩ := SetOf_store (knd := intKind P w) (S' := fun k => decide (k ∈ ks)) ho hex hd hel (fun k => by rw [decide_eq_true_eq]; exact hm k) hb hf
  exact q _ _ (Heap.SameBut.update ..) g hex rfl ⟨_, es2, ep + 1, t2, g, hex, rfl, hel, hm, hb, hf, hn, hT⟩
theorem add_X {a : Addr} {ks : List Int} {v : Int} {tk : Tok} {Q : Bool → Shared → Prop} (hS : SetX P w s.heap a ks) (hroom : ks.length + 1 < scanBound)
    (q : ∀ b h', Heap.SameBut a s.heap h' → SetX P w h' a (step_dedup ks v) → Q b { s with heap := h' }) : wpAny (model P w) A (setAddHashed a (.int v tk) ((intKind P w).hash v)) Q E s := by
  obtain ⟨o, es, ep, t, ho, hex, hd, hel, hm, hb, hf, hn, hT⟩ := hS
  have hk : (intKind P w).is v (.int v tk) = true := intKind_is _ _ _ _
  unfold setAddHashed setAddHashedIn
  refine wpAny_holding (wpAny_bind (wpAny_setState_of ho hd hf ?_))
  show wpAny _ _ (if byScan (.int v tk) es = true then _ else _) _ _ _
  rw [if_pos (byScan_of rfl hb hel)]
  unfold setAddByScan
  refine wpAny_bind (wpAny_bind (wpAny_rule (wpAny_bind (wpAny_setScan_of hk ho hd hf hel ?_))))
  cases hr : List.findIdx? (fun e => (intKind P w).is v e.2) es.toList with
  | some j =>
    obtain ⟨hj, hpj, _⟩ := List.findIdx?_eq_some_iff_getElem.mp hr
    have hv : v ∈ ks := (hm v).mpr ⟨es.toList[j], List.getElem_mem hj, hpj⟩
    have e2 : step_dedup ks v = ks := by
      unfold step_dedup
      rw [if_pos (by simpa using hv)]
    have z := q false s.heap (Heap.SameBut.refl a s.heap)
    rw [e2] at z
    exact wpAny_pure (wpAny_pure (z ⟨o, es, ep, t, ho, hex, hd, hel, hm, hb, hf, hn, hT⟩))
  | none =>
    have hv : v ∉ ks := fun hv => by
      obtain ⟨e, he, hp⟩ := (hm v).mp hv
      have := List.findIdx?_eq_none_iff.mp hr e he
      rw [hp] at this
      cases this
    have e2 : step_dedup ks v = ks ++ [v] := by
      unfold step_dedup
      rw [if_neg (by simpa using hv)]
    rw [e2] at q
    dsimp only
    have pm := layNew_perm t es ((intKind P w).hash v) (.int v tk)
    have ft := layNew_fits t es ((intKind P w).hash v) (.int v tk)
    have ok1 := layNew_ok hT es ((intKind P w).hash v) (.int v tk)
    generalize layNew t es ((intKind P w).hash v) (.int v tk) = L at pm ft ok1 ⊢
    obtain ⟨es1, t1, wd, gave⟩ := L
    dsimp only at pm ft ok1 ⊢
    rw [Array.toList_push] at pm
    have hel1 : ElemsOf (intKind P w) es1.toList := (hel.push hk rfl).perm pm
    have sz1 : es1.size = es.size + 1 := by
      have := pm.length_eq
      simpa using this
    have hm1 : ∀ k, k ∈ ks ++ [v] ↔ ∃ e ∈ es1.toList, (intKind P w).is k e.2 = true := fun k => by
      have z := mem_push_iff (S := fun k => decide (k ∈ ks)) hk (fun k' => by rw [decide_eq_true_eq]; exact hm k') pm k
      rw [← z]
      simp
    have gw : ∀ (b : Bool) {s1 : Shared} {Q1 : Unit → Shared → Prop}, Q1 () s1 → wpAny (model P w) A (match b with | true => rule "set.scan.the-table-gave-way" | false => pure ()) Q1 E s1 :=
      fun b s1 Q1 z => by cases b <;> first | exact wpAny_pure z | exact wpAny_rule z
    have fin : ∀ t2 : SetTable, t2.fits es1.size = true → TabOk (ledOf w) t2 → wpAny (model P w) A (do
        storeSet a es1 t2
        if (!wd && t2.tooFull) = true then do
            (match (relayAll t2 es1 (SetTable.grown es1.size)).2.2 with | true => rule "set.scan.the-table-gave-way" | false => pure ())
            storeSet a (relayAll t2 es1 (SetTable.grown es1.size)).1 (relayAll t2 es1 (SetTable.grown es1.size)).2.1
            pure (some true)
          else pure (some true)) (fun r s' => ∃ h', s' = { s with heap := h' } ∧ r = some true ∧ Heap.SameBut a s.heap h' ∧ SetX P w h' a (ks ++ [v])) E s := fun t2 f2 ok2 => by
      refine wpAny_bind (store_X ho hex hd hel1 hm1 (by omega) f2 (by rw [List.length_append, List.length_singleton]; omega) ok2 fun h1 o1 sb1 g1 x1 d1 X1 => ?_)
      split
      · have pm2 := relayAll_perm t2 es1 (SetTable.grown es1.size)
        have ft2 := relayAll_fits t2 es1 (SetTable.grown es1.size)
        have ok3 := relayAll_ok ok2 es1 (SetTable.grown es1.size)
        refine wpAny_bind (gw _ (wpAny_bind ?_))
        have sz2 : (relayAll t2 es1 (SetTable.grown es1.size)).1.size = es1.size := by
          have := pm2.length_eq
          simpa using this
        refine store_X (s := { s with heap := h1 }) g1 x1 d1 (hel1.perm pm2) (fun k => ?_) (by omega) ft2 (by rw [List.length_append, List.length_singleton]; omega) ok3 fun h2 o2 sb2 g2 x2 d2 X2 => wpAny_pure ⟨h2, rfl, rfl, sb1.trans sb2, X2⟩
        rw [hm1 k]
        exact ⟨fun ⟨e, he, z⟩ => ⟨e, pm2.mem_iff.mpr he, z⟩, fun ⟨e, he, z⟩ => ⟨e, pm2.mem_iff.mp he, z⟩⟩
      · exact wpAny_pure ⟨h1, rfl, rfl, sb1, X1⟩
    have back : ∀ {r : Option Bool} {s' : Shared}, (∃ h', s' = { s with heap := h' } ∧ r = some true ∧ Heap.SameBut a s.heap h' ∧ SetX P w h' a (ks ++ [v])) → wpAny (model P w) A (match r with | some added => pure added | none => setAddHashedIn a (.int v tk) ((intKind P w).hash v) 99999) Q E s' := fun {r s'} z => by
      obtain ⟨h', rfl, rfl, sb, X⟩ := z
      exact wpAny_pure (q true h' sb X)
    refine wpAny_bind (gw _ ?_)
    by_cases hp : t1.plain = true
    · rw [if_pos hp]
      refine wpAny_bind ?_
      rw [hashByValue_scannable 8 rfl]
      refine wpAny_pure ?_
      refine wpAny_mono (fin _ ?_ ?_) (fun r s' z => back z) (fun _ _ e => e)
      · split
        · exact ft
        · exact SetTable.fits_plain_off ft
      · split
        · exact ok1
        · exact ok1.plainOff
    · rw [if_neg hp]
      refine wpAny_bind (wpAny_pure ?_)
      refine wpAny_mono (fin _ ?_ ?_) (fun r s' z => back z) (fun _ _ e => e)
      · rw [if_pos rfl]; exact ft
      · rw [if_pos rfl]; exact ok1
theorem loop_X {B : Around} {R : Result → Shared → Prop} {J S : Addr} {fp wr : List Addr} {G : Array GenState → Array GenState → Prop} {n : Nat} {Pt : Nat → Value → Prop} {St : Nat → Shared → Prop} (W : WalksS P w B.in1 J fp wr G n Pt St) (hSf : S ∉ fp)
    (val : Nat → Int) (hval : ∀ i v, Pt i v → ∃ t, v = .int (val i) t) (hb : n + 1 < scanBound) : ∀ (k i : Nat) (s : Shared), n - i = k → i ≤ n → St i s → SetX P w s.heap S (firstMet val i) →
      (∀ s', Moved (S :: wr) G s s' → SetX P w s'.heap S (firstMet val n) → R (.ok (.ret .none)) s') → codeAny (model P w) B (.builtin "set.update.loop" ⟨[.ref S, .ref J], []⟩) R s := by
  have nw : S ∉ wr := fun z => hSf (W.sub _ z)
  have up : ∀ b ∈ wr, b ∈ S :: wr := fun b z => .tail _ z
  intro k
  induction k with
  | zero =>
    intro i s e1 e2 st X fin
    obtain rfl : i = n := by omega
    refine codeAny_builtin F.entry_set_update_loop ?_
    rw [Around.under_plainId F.plain_set_update_loop _]
    refine wpAny_bind (W.done s _ _ st fun s' mv => ?_)
    exact wpAny_pure (fin s' (mv.mono up) (X.keep fun o e => mv.heap S o nw e))
  | succ k ih =>
    intro i s e1 e2 st X fin
    have hi : i < n := by omega
    refine codeAny_builtin F.entry_set_update_loop ?_
    rw [Around.under_plainId F.plain_set_update_loop _]
    refine wpAny_bind (W.item i s _ _ hi st fun v s1 hp st1 mv => ?_)
    obtain ⟨t, rfl⟩ := hval i v hp
    have X1 : SetX P w s1.heap S (firstMet val i) := X.keep fun o e => mv.heap S o nw e
    refine wpAny_bind (wpAny_holding ?_)
    unfold setAdd
    refine wpAny_holding (wpAny_bind ((intKind P w).pyHash (k := val i) (intKind_is _ _ _ _) ?_))
    have few := firstMet_length_le val i
    refine add_X (s := { s1 with toks := s1.toks + 1 }) X1 (by omega) fun b h' sb X2 => ?_
    rw [← firstMet_succ] at X2
    refine wpAny_pure ⟨plainId_quiet F.plain_set_update_loop _, ih (i + 1) _ (by omega) hi (W.frame _ s1 _ _ st1 (Nat.le_succ _) fun c hc o e => ?_) X2 fun s2 mv2 X3 => ?_⟩
    · exact (sb.2 c fun z => hSf (z ▸ hc)).trans e
    · exact fin s2 (Moved.trans W.gtrans ((mv.mono up).then_heap (Nat.le_succ _) fun c o hc e => (sb.2 c fun z => hc (z ▸ .head _)).trans e) mv2) X3
theorem new_X (u : Value) {Q1 : Value → Shared → Prop} (q : Q1 (.ref s.heap.objs.size) { s with heap := s.heap.push { cls := .type "set", dict := none, data := .set #[] 0 (.fresh 0 0 (ledOf w)) } }) :
    codeAny (model P w) A (.call (.builtin "set.__new__") ⟨[.type "set", u], []⟩) (wants Q1 E) s := by
  refine codeAny_of_tree ?_
  refine wpAny_bind (wpAny_of_eq (F.newCall_set_1 u) (wpAny_pure ⟨plainId_quiet F.plain_set_new _, codeAny_builtin F.entry_set_new ?_⟩))
  rw [Around.under_plainId F.plain_set_new _]
  unfold Builtin.«set.__new__» Builtin.Frozenset.newClass
  have self_sub := sub_set_self
  obtain ⟨hp, g, d, tk, os⟩ := s
  dsimp only
  wp_walk
  refine wpAny_askSetting (wpAny_pure ?_)
  dsimp only
  simp only [newObj]
  refine wpAny_bind (wpAny_alloc (wpAny_pure ?_))
  exact wpAny_pure q
set_option maxHeartbeats 4000000 in
theorem call_set_X {l : Addr} {its : Array Value} {ns : List Int} {Q : Value → Shared → Prop} (hh : A.handled = none) (hl : s.heap.IsList l its) (hi : IntsAre its.toList ns) (hb : its.size + 1 < scanBound)
    (q : ∀ (h' : Heap) (tk : Nat), SetX P w h' s.heap.objs.size (firstMet (fun i => ns.getD i 0) its.size) → (∀ b o, s.heap.get? b = some o → h'.get? b = some o) → Q (.ref s.heap.objs.size) { s with heap := h', toks := tk }) :
    wpAny (model P w) A (call (.type "set") [.ref l]) Q E s := by
  obtain ⟨c0, tl0, mro0⟩ := F.called_set.mro
  have made0 := F.called_set.made
  have sub0 := F.called_set.sub
  refine wpAny_call (codeAny_of_tree (wpAny_pure ⟨Code.quiet_builtin _ (by decide +kernel), codeAny_builtin F.entry_type_call ?_⟩))
  rw [Around.under_plain (weight_type_call_type "set" [.ref l] []) rfl]
  have nt0 := F.called_set.notType
  have cc0 := F.called_set.canCreate
  have ct0 := F.typeCall_set_1 (.ref l)
  repeat (any_goals (first | assumption | wp_step))
  obtain ⟨H0, eH0⟩ : ∃ H0 : Heap, H0 = s.heap.push { cls := .type "set", dict := none, data := .set #[] 0 (.fresh 0 0 (ledOf w)) } := ⟨_, rfl⟩
  refine codeAny_mono (new_X (.ref l) (E := E) (Q1 := fun ob s1 => ob = .ref s.heap.objs.size ∧ s1 = { s with heap := H0 }) ⟨rfl, by rw [eH0]⟩) fun r s1 hr => ?_
  cases r with
  | error e => exact hr
  | ok fl =>
    cases fl with
    | next => exact hr.elim
    | brk => exact hr.elim
    | cont => exact hr.elim
    | ret ob =>
      obtain ⟨rfl, rfl⟩ := hr
      have g0 : H0.get? s.heap.objs.size = some { cls := .type "set", dict := none, data := .set #[] 0 (.fresh 0 0 (ledOf w)) } := by rw [eH0]; exact Heap.get?_push_size _ rfl
      have ty0 : Shared.TypeIs { s with heap := H0 } (.ref s.heap.objs.size) "set" := ⟨_, g0, rfl⟩
      have li0 := F.called_set.init.lookup
      have bi0 := F.called_set.init.bind (.ref s.heap.objs.size)
      repeat (any_goals (first | assumption | wp_step))
      refine codeAny_mono (codeAny_call_builtin (R := wants (fun r s2 => r = .none ∧ ∃ h' tk, s2 = { s with heap := h', toks := tk } ∧ SetX P w h' s.heap.objs.size (firstMet (fun i => ns.getD i 0) its.size) ∧ (∀ b o, s.heap.get? b = some o → h'.get? b = some o)) E)
        F.called_set.init.plain F.entry_set_init (check_set_init_1 ty0 ?_)) fun r2 s2 hr2 => ?_
      · have k0 : ∀ b o, s.heap.get? b = some o → H0.get? b = some o := fun b o e => by rw [eH0]; exact Heap.get?_push_of_some _ e
        obtain ⟨ol, hol, hcl, nl, hdl⟩ := hl
        obtain ⟨oc, od, ot, os⟩ := ol
        simp only at hcl hdl
        subst hcl
        subst hdl
        have g1 := k0 _ _ hol
        have no1 := F.sub_list_set
        have no2 := F.sub_list_frozenset
        have no3 : (Value.type "list" == Value.type "dict") = false := by decide
        have hl1 : H0.IsList l its := ⟨_, g1, rfl, nl, rfl⟩
        unfold Builtin.«set.__init__» noKeywords Builtin.Frozenset.updateFrom
        generalize eI : pyIter = PI
        wp_walk
        subst eI
        refine wpAny_pyIter_list hl1 (wpAny_bind (wpAny_runValue ?_))
        have lt1 : l < s.heap.objs.size := Heap.lt_size hol
        have sz0 : H0.objs.size = s.heap.objs.size + 1 := by rw [eH0]; exact Heap.size_push ..
        have hd3 : A.in1.in1.in1.handled = none := by simp [hh]
        have ne1 : l ≠ H0.objs.size := fun z => by rw [z, sz0] at lt1; exact absurd lt1 (Nat.not_lt.mpr (Nat.le_succ _))
        have ne2 : s.heap.objs.size ≠ H0.objs.size := fun z => by rw [sz0] at z; exact absurd z (Nat.ne_of_lt (Nat.lt_succ_self _))
        have ne3 : s.heap.objs.size ≠ l := fun z => by rw [← z] at lt1; exact absurd lt1 (Nat.lt_irrefl _)
        refine loop_X ((Walks.list hd3 H0.objs.size l ne1 its).toS) (S := s.heap.objs.size) ?_ (fun i => ns.getD i 0) (fun i v hv => IntsAre.int_at hi i v (by rw [Array.getElem?_toList]; exact hv)) hb (its.size - 0) 0 _ (by omega) (Nat.zero_le _)
          ⟨⟨_, Heap.get?_push_size _ rfl, rfl, rfl⟩, hl1.push _⟩ ?_ ?_
        · simp only [List.mem_cons, List.not_mem_nil, or_false, not_or]
          exact ⟨ne2, ne3⟩
        · refine ⟨_, #[], 0, _, Heap.get?_push_of_some _ g0, ⟨rfl, rfl, rfl⟩, rfl, fun e he => by simp at he, fun k => ?_, by decide, rfl, rfl, ⟨fun i k hk => absurd hk (by simp [SetTable.fresh]), rfl⟩⟩
          rw [firstMet_zero]
          simp
        · intro s' mv X
          obtain ⟨h', g', d', tk', os'⟩ := s'
          obtain rfl : g' = s.gens := mv.gens
          obtain rfl : d' = s.drawn := mv.drawn
          obtain rfl : os' = s.os := mv.os
          refine wpAny_pure (wpAny_pure ⟨rfl, h', tk', rfl, X, fun b o e => ?_⟩)
          have lt := Heap.lt_size e
          exact mv.heap b o (by
            simp only [List.mem_cons, List.not_mem_nil, or_false, not_or]
            refine ⟨fun z => ?_, fun z => ?_⟩
            · rw [z] at lt; exact absurd lt (Nat.lt_irrefl _)
            · rw [z, sz0] at lt; exact absurd lt (Nat.not_lt.mpr (Nat.le_succ _))) (Heap.get?_push_of_some _ (k0 b o e))
      · cases r2 with
        | error e => exact hr2
        | ok fl2 =>
          cases fl2 with
          | next => exact hr2.elim
          | brk => exact hr2.elim
          | cont => exact hr2.elim
          | ret r =>
            obtain ⟨rfl, h', tk, rfl, X, k'⟩ := hr2
            repeat (any_goals (first | assumption | wp_step))
            exact q _ _ X k'
end
end L2
set_option Elab.async false
set_option linter.all false
set_option maxRecDepth 100000
namespace L2
open PySem PySem.Spec PyProof.Rows
namespace SF
theorem slot_next : Slot "set_iterator" "__next__" "set_iterator.__next__" :=
  .of (owner := "set_iterator") (n := "__next__") (by rw [typeLookup_type, builtinLookup_eq_fast]; kernel_rfl) (by decide +kernel) (by decide +kernel) (by decide +kernel) (by first | exact .inl (by decide +kernel) | exact .inr (by decide +kernel)) (by rw [isSubtype_type]; kernel_rfl)
theorem entry_next : entryFor table "set_iterator.__next__" = some Builtin.«set_iterator.__next__» := entryFor_of_tree (by kernel_rfl)
theorem args_next (a : Value) : argsOk "set_iterator.__next__" ⟨[a], []⟩ := by unfold argsOk; kernel_rfl
theorem entry_iter : entryFor table "set.__iter__" = some Builtin.«frozenset.__iter__» := entryFor_alias (id' := "frozenset.__iter__") (by kernel_rfl) rfl (by decide +kernel) (by kernel_rfl)
theorem slot_self : Slot "set_iterator" "__iter__" "set_iterator.__iter__" :=
  .of (owner := "set_iterator") (n := "__iter__") (by rw [typeLookup_type, builtinLookup_eq_fast]; kernel_rfl) (by decide +kernel) (by decide +kernel) (by decide +kernel) (by first | exact .inl (by decide +kernel) | exact .inr (by decide +kernel)) (by rw [isSubtype_type]; kernel_rfl)
theorem entry_self : entryFor table "set_iterator.__iter__" = some Builtin.«dict_keyiterator.__iter__» := entryFor_alias (id' := "dict_keyiterator.__iter__") (by kernel_rfl) rfl (by decide +kernel) (by kernel_rfl)
theorem args_self (a : Value) : argsOk "set_iterator.__iter__" ⟨[a], []⟩ := by unfold argsOk; kernel_rfl
theorem len_set : typeLookup (.type "set") "__len__" = pure (some (.builtin "set.__len__")) := by rw [typeLookup_type, builtinLookup_eq_fast]; kernel_rfl
end SF
def IsSI (h : Heap) (it a : Addr) (first : Value) (i n ep : Nat) : Prop := ∃ o, h.get? it = some o ∧ o.cls = .type "set_iterator" ∧ o.data = .fields #[first, .int i 0, .ref a, .int n 0, .int ep 0]
def SetQ (h : Heap) (a : Addr) (es : Array (Int × Value)) (ep : Nat) (t : SetTable) : Prop := ∃ o, h.get? a = some o ∧ o.ExactSet ∧ o.data = .set es ep t ∧ t.fits es.size = true
section
variable {P : Program} {w : World} {A : Around} {E : Value → Shared → Prop} {s : Shared}
theorem IsSI.typeIs {it a : Addr} {f : Value} {i n ep : Nat} (x : IsSI s.heap it a f i n ep) : s.TypeIs (.ref it) "set_iterator" := let ⟨o, ho, hc, _⟩ := x; ⟨o, ho, hc⟩
theorem next_slot {it a : Addr} {slot i ep : Nat} {es : Array (Int × Value)} {t : SetTable} {x : Value} {nx : Nat} {Q : Option Value → Shared → Prop} (hit : IsSI s.heap it a (.int slot 0) i es.size ep) (hS : SetQ s.heap a es ep t) (hne : a ≠ it)
    (hN : ∀ (B : Around) (E' : Value → Shared → Prop) (Q' : Option (Value × Nat) → Shared → Prop), Q' (some (x, nx)) s → wpAny (model P w) B (setNext a slot i ep) Q' E' s)
    (q : ∀ h', IsSI h' it a (.int nx 0) (i + 1) es.size ep → Heap.SameBut it s.heap h' → Q (some x) { s with heap := h' }) : wpAny (model P w) A (pyNext (.ref it)) Q E s := by
  obtain ⟨o, ho, hc, hd⟩ := id hit
  obtain ⟨os, hos, hex, hds, hf⟩ := hS
  unfold pyNext
  refine wpAny_bind (wpAny_attempt (wpAny_callSpecial?_slot (name := Str.ofString "__next__") hit.typeIs SF.slot_next (wpAny_call_entry SF.slot_next hit.typeIs SF.entry_next ?_ (SF.args_next _))))
  unfold Builtin.«set_iterator.__next__»
  refine wpAny_bind (m := slotArgs "__next__" 0 ⟨[.ref it], []⟩) (wpAny_pure ?_)
  refine wpAny_bind (wpAny_fieldsOf ho hd ?_)
  dsimp only
  refine wpAny_bind (wpAny_setEntries_of hos hds hf ?_)
  rw [if_neg (by simp)]
  refine wpAny_bind (hN _ _ _ ?_)
  dsimp only
  refine wpAny_bind (wpAny_setField ho hd (by simp) ?_)
  have o1 := Heap.get?_update_self (Obj.mapFields (·.setIfInBounds 0 (rawInt (nx : Int)))) ho (Obj.isFreed_of_fields (Obj.data_mapFields hd _))
  have d1 := Obj.data_mapFields hd (·.setIfInBounds 0 (rawInt (nx : Int)))
  refine wpAny_bind (wpAny_setField (s := { s with heap := _ }) o1 d1 (by simp) ?_)
  have o2 := Heap.get?_update_self (Obj.mapFields (·.setIfInBounds 1 (rawInt ((i : Int) + 1)))) o1 (Obj.isFreed_of_fields (Obj.data_mapFields d1 _))
  refine wpAny_pure ⟨_, rfl, wpAny_pure (q _ ⟨_, o2, ?_, ?_⟩ ((Heap.SameBut.update ..).trans (Heap.SameBut.update ..)))⟩
  · rw [Obj.cls_mapFields, Obj.cls_mapFields]
    exact hc
  · rw [Obj.data_mapFields d1]
    simp [rawInt]
theorem stop_X {B : Around} {it : Addr} {h1 : Heap} {Q : Option Value → Shared → Prop} (hh : B.handled = none) (q : ∀ h', (∀ b o, h1.get? b = some o → h'.get? b = some o) → Q none { s with heap := h' }) :
    wpAny (model P w) B ((newExc (.type "StopIteration") [] >>= fun e => raiseNew e : Sem PySem.Fin)) (fun _ _ => False) (fun e s' => wpAny (model P w) A (isInstance e (.type "StopIteration") >>= fun b => if b = true then pure none else throw e) Q E s') { s with heap := h1 } := by
  refine wpAny_bind ?_
  simp only [newExc, newTuple]
  refine wpAny_bind (wpAny_newObj_type ?_ (by size_fits))
  refine wpAny_bind (m := firstArgMember _ _) (wpAny_of_eq (a := Value.none) (by first | rfl | (simp only [firstArgMember]; rfl)) ?_)
  refine wpAny_newObj_type ?_ (by size_fits)
  simp only [raiseNew]
  refine wpAny_bind (wpAny_handled ?_)
  rw [hh]
  refine wpAny_bind (wpAny_pure (wpAny_throw ?_))
  refine wpAny_bind (wpAny_isInstance (T := "StopIteration") (b := true) ⟨_, Heap.get?_push_size _ rfl, rfl⟩ isSubtype_stop ?_)
  exact wpAny_pure (q _ fun b o e => Heap.get?_push_of_some _ (Heap.get?_push_of_some _ e))
theorem end_slot {it a : Addr} {slot i ep : Nat} {es : Array (Int × Value)} {t : SetTable} {Q : Option Value → Shared → Prop} (hh : A.handled = none) (hit : IsSI s.heap it a (.int slot 0) i es.size ep) (hS : SetQ s.heap a es ep t)
    (hN : ∀ (B : Around) (E' : Value → Shared → Prop) (Q' : Option (Value × Nat) → Shared → Prop), Q' none s → wpAny (model P w) B (setNext a slot i ep) Q' E' s)
    (q : ∀ h', (∀ b o, b ≠ it → s.heap.get? b = some o → h'.get? b = some o) → Q none { s with heap := h' }) : wpAny (model P w) A (pyNext (.ref it)) Q E s := by
  obtain ⟨o, ho, hc, hd⟩ := id hit
  obtain ⟨os, hos, hex, hds, hf⟩ := hS
  unfold pyNext
  refine wpAny_bind (wpAny_attempt (wpAny_callSpecial?_slot (name := Str.ofString "__next__") hit.typeIs SF.slot_next (wpAny_call_entry SF.slot_next hit.typeIs SF.entry_next ?_ (SF.args_next _))))
  unfold Builtin.«set_iterator.__next__»
  refine wpAny_bind (m := slotArgs "__next__" 0 ⟨[.ref it], []⟩) (wpAny_pure ?_)
  refine wpAny_bind (wpAny_fieldsOf ho hd ?_)
  dsimp only
  refine wpAny_bind (wpAny_setEntries_of hos hds hf ?_)
  rw [if_neg (by simp)]
  refine wpAny_bind (hN _ _ _ ?_)
  dsimp only
  refine wpAny_bind (wpAny_setField ho hd (by simp) ?_)
  refine wpAny_mono (stop_X (A := A) (E := E) (it := it) (by exact hh) fun h' k => q h' fun b ob hb e => k b ob ((Heap.get?_update_other _ _ (Ne.symm hb)).trans e)) (fun _ _ z => z.elim) fun e s' z => ?_
  exact z
theorem next_drawn {it a tp : Addr} {i ep : Nat} {es : Array (Int × Value)} {t : SetTable} {ot : Obj} {ps : Array Value} {m p : Nat} {x : Value} {k : Int} {tk : Tok} {Q : Option Value → Shared → Prop} (hit : IsSI s.heap it a (.ref tp) i es.size ep) (hS : SetQ s.heap a es ep t) (ht : s.heap.get? tp = some ot) (hd' : ot.data = .seq ps m)
    (hp : ps[i]? = some (.int (p : Int) tk)) (hx : es[p]? = some (k, x)) (q : ∀ h', IsSI h' it a (.ref tp) (i + 1) es.size ep → Heap.SameBut it s.heap h' → Q (some x) { s with heap := h' }) : wpAny (model P w) A (pyNext (.ref it)) Q E s := by
  obtain ⟨o, ho, hc, hd⟩ := id hit
  obtain ⟨os, hos, hex, hds, hf⟩ := hS
  unfold pyNext
  refine wpAny_bind (wpAny_attempt (wpAny_callSpecial?_slot (name := Str.ofString "__next__") hit.typeIs SF.slot_next (wpAny_call_entry SF.slot_next hit.typeIs SF.entry_next ?_ (SF.args_next _))))
  unfold Builtin.«set_iterator.__next__»
  refine wpAny_bind (m := slotArgs "__next__" 0 ⟨[.ref it], []⟩) (wpAny_pure ?_)
  refine wpAny_bind (wpAny_fieldsOf ho hd ?_)
  dsimp only
  refine wpAny_bind (wpAny_setEntries_of hos hds hf ?_)
  rw [if_neg (by simp)]
  refine wpAny_bind (wpAny_seqItems ht hd' ?_)
  dsimp only
  rw [show ((i : Int)).toNat = i from Int.toNat_natCast i, hp]
  dsimp only
  unfold setNextDrawn
  refine wpAny_bind (wpAny_bind (wpAny_setState_of hos hds hf ?_))
  dsimp only
  rw [if_neg (by simp), show ((p : Int)).toNat = p from Int.toNat_natCast p, hx]
  refine wpAny_pure (wpAny_bind (wpAny_setField ho hd (by simp) ?_))
  have o1 := Heap.get?_update_self (Obj.mapFields (·.setIfInBounds 1 (rawInt ((i : Int) + 1)))) ho (Obj.isFreed_of_fields (Obj.data_mapFields hd _))
  refine wpAny_pure ⟨_, rfl, wpAny_pure (q _ ⟨_, o1, ?_, ?_⟩ (Heap.SameBut.update ..))⟩
  · rw [Obj.cls_mapFields]
    exact hc
  · rw [Obj.data_mapFields hd]
    simp [rawInt]
theorem end_drawn {it a tp : Addr} {i ep : Nat} {es : Array (Int × Value)} {t : SetTable} {ot : Obj} {ps : Array Value} {m : Nat} {Q : Option Value → Shared → Prop} (hh : A.handled = none) (hit : IsSI s.heap it a (.ref tp) i es.size ep) (hS : SetQ s.heap a es ep t) (ht : s.heap.get? tp = some ot) (hd' : ot.data = .seq ps m)
    (hp : ps[i]? = none) (q : ∀ h', (∀ b o, b ≠ it → s.heap.get? b = some o → h'.get? b = some o) → Q none { s with heap := h' }) : wpAny (model P w) A (pyNext (.ref it)) Q E s := by
  obtain ⟨o, ho, hc, hd⟩ := id hit
  obtain ⟨os, hos, hex, hds, hf⟩ := hS
  unfold pyNext
  refine wpAny_bind (wpAny_attempt (wpAny_callSpecial?_slot (name := Str.ofString "__next__") hit.typeIs SF.slot_next (wpAny_call_entry SF.slot_next hit.typeIs SF.entry_next ?_ (SF.args_next _))))
  unfold Builtin.«set_iterator.__next__»
  refine wpAny_bind (m := slotArgs "__next__" 0 ⟨[.ref it], []⟩) (wpAny_pure ?_)
  refine wpAny_bind (wpAny_fieldsOf ho hd ?_)
  dsimp only
  refine wpAny_bind (wpAny_setEntries_of hos hds hf ?_)
  rw [if_neg (by simp)]
  refine wpAny_bind (wpAny_seqItems ht hd' ?_)
  dsimp only
  rw [show ((i : Int)).toNat = i from Int.toNat_natCast i, hp]
  dsimp only
  refine wpAny_bind (wpAny_setField ho hd (by simp) ?_)
  have o1 := Heap.get?_update_self (Obj.mapFields (·.setIfInBounds 0 (rawInt 0))) ho (Obj.isFreed_of_fields (Obj.data_mapFields hd _))
  have d1 := Obj.data_mapFields hd (·.setIfInBounds 0 (rawInt 0))
  refine wpAny_bind (wpAny_setField (s := { s with heap := _ }) o1 d1 (by simp) ?_)
  refine wpAny_mono (stop_X (A := A) (E := E) (it := it) (by exact hh) fun h' k => q h' fun b ob hb e => k b ob ((Heap.get?_update_other _ _ (Ne.symm hb)).trans ((Heap.get?_update_other _ _ (Ne.symm hb)).trans e))) (fun _ _ z => z.elim) fun e s' z => ?_
  exact z
theorem self_X {it a : Addr} {f : Value} {i n ep : Nat} {Q : Value → Shared → Prop} (hit : IsSI s.heap it a f i n ep) (q : Q (.ref it) s) : wpAny (model P w) A (pyIter (.ref it)) Q E s := by
  refine wpAny_pyIter_slot hit.typeIs SF.slot_self (wpAny_call_entry SF.slot_self hit.typeIs SF.entry_self ?_ (SF.args_self _))
  show wpAny _ _ (ret (.ref it)) _ _ s
  exact wpAny_pure ⟨_, rfl, "set_iterator", _, hit.typeIs, SF.slot_next.lookup, q⟩
end
end L2
set_option Elab.async false
set_option linter.all false
set_option maxRecDepth 100000
namespace L2
open PySem PySem.Spec PyProof.Rows
theorem get_erase_perm {α : Type} : ∀ (l : List α) (i : Nat) (h : i < l.length), (l[i] :: l.eraseIdx i).Perm l
  | a :: r, 0, h => List.Perm.refl _
  | a :: r, i + 1, h => by
    have hi : i < r.length := by simpa using h
    have ih := get_erase_perm r i hi
    show (r[i] :: a :: r.eraseIdx i).Perm (a :: r)
    exact (List.Perm.swap a r[i] _).trans (ih.cons a)
theorem pick_go {α : Type} (f : Nat → Nat) : ∀ (fuel k : Nat) (left : List α) (out : Array α), left.length = fuel → (pickOrder.go f fuel k left out).toList.Perm (out.toList ++ left)
  | 0, k, left, out, h => by
    unfold pickOrder.go
    rw [List.length_eq_zero_iff.mp h]
    simp
  | fuel + 1, k, left, out, h => by
    unfold pickOrder.go
    have hlt : f k % left.length < left.length := Nat.mod_lt _ (by omega)
    rw [List.getElem?_eq_getElem hlt]
    dsimp only
    have ih := pick_go f fuel (k + 1) (left.eraseIdx (f k % left.length)) (out.push left[f k % left.length]) (by rw [List.length_eraseIdx_of_lt hlt]; omega)
    refine ih.trans ?_
    rw [Array.toList_push, List.append_assoc]
    refine List.Perm.append_left _ ?_
    exact get_erase_perm left _ hlt
theorem pick_perm {α : Type} (f : Nat → Nat) (xs : Array α) : (pickOrder f xs).toList.Perm xs.toList := by
  unfold pickOrder
  have := pick_go f xs.size 0 xs.toList #[] (by simp)
  simpa using this
section
variable {P : Program} {w : World} {A : Around} {E : Value → Shared → Prop}
theorem choose_X {src : Source} {n : Nat} {s : Shared} {Q : Nat → Shared → Prop} (hn : n ≠ 0) (h : Q (w.draws src (s.drawn.get src) % n) { s with drawn := s.drawn.bump src }) : wpAny (model P w) A (choose src n) Q E s := fun _ _ _ => ⟨hn, h⟩
theorem draw_X {α : Type} : ∀ (n : Nat) (xs : List α) (s : Shared) (Q : List α → Shared → Prop), xs.length = n → (∀ ys d, ys.Perm xs → Q ys { s with drawn := d }) → wpAny (model P w) A (drawOrder n xs) Q E s
  | 0, xs, s, Q, h, q => by
    unfold drawOrder
    rw [List.length_eq_zero_iff.mp h] at q
    exact wpAny_pure (q [] s.drawn (List.Perm.refl _))
  | n + 1, [], s, Q, h, q => by cases h
  | n + 1, x :: xs, s, Q, h, q => by
    unfold drawOrder
    refine wpAny_bind (choose_X (by simp) ?_)
    have hlt : w.draws .order (s.drawn.get .order) % (x :: xs).length < (x :: xs).length := Nat.mod_lt _ (by simp)
    rw [List.getElem?_eq_getElem hlt]
    dsimp only
    refine wpAny_bind (draw_X n _ _ _ (by rw [List.length_eraseIdx_of_lt hlt]; omega) fun ys d hp => wpAny_pure ?_)
    exact q _ d ((hp.cons _).trans (get_erase_perm (x :: xs) _ hlt))
theorem elems_ints {es : List (Int × Value)} (h : ElemsOf (intKind P w) es) : ∃ ns : List Int, IntsAre (es.map (·.2)) ns ∧ ∀ k, k ∈ ns ↔ ∃ e ∈ es, (intKind P w).is k e.2 = true := by
  induction es with
  | nil => exact ⟨[], .nil, fun k => by simp⟩
  | cons e r ih =>
    obtain ⟨ns, hi, hm⟩ := ih h.tail
    obtain ⟨⟨k, hk, _⟩, _⟩ := h.head
    obtain ⟨t, ht⟩ : ∃ t, e.2 = .int k t := by
      have hk' : e.2.isInt k = true := hk
      cases q : e.2 with
      | int i t =>
        rw [q] at hk'
        have : i = k := by simpa [Value.isInt] using hk'
        exact ⟨t, by rw [this]⟩
      | _ => rw [q] at hk'; cases hk'
    refine ⟨k :: ns, ?_, fun j => ?_⟩
    · rw [List.map_cons, ht]
      exact .cons k t hi
    · rw [List.mem_cons, hm j]
      constructor
      · rintro (rfl | ⟨e', he, hj⟩)
        · exact ⟨e, .head _, hk⟩
        · exact ⟨e', .tail _ he, hj⟩
      · rintro ⟨e', he, hj⟩
        rcases List.mem_cons.mp he with rfl | he
        · exact .inl ((intKind P w).inj e'.2 j k hj hk)
        · exact .inr ⟨e', he, hj⟩
theorem perm_of_sub {ks ns : List Int} : ∀ (hd : ks.Nodup) (hs : ∀ k ∈ ks, k ∈ ns) (hl : ns.length ≤ ks.length), ks.Perm ns := by
  induction ks generalizing ns with
  | nil =>
    intro _ _ hl
    rw [List.length_eq_zero_iff.mp (Nat.le_zero.mp hl)]
  | cons a r ih =>
    intro hd hs hl
    obtain ⟨ha, hr⟩ := List.nodup_cons.mp hd
    have hm := hs a (.head _)
    have e := List.perm_cons_erase hm
    refine List.Perm.trans (List.Perm.cons a (ih (ns := ns.erase a) hr (fun k hk => ?_) ?_)) e.symm
    · exact (List.mem_erase_of_ne (fun z : k = a => ha (by rw [← z]; exact hk))).mpr (hs k (.tail _ hk))
    · rw [List.length_erase_of_mem hm]
      simp at hl
      omega
theorem ints_perm {vs us : List Value} (p : vs.Perm us) : ∀ {ns : List Int}, IntsAre us ns → ∃ ms, IntsAre vs ms ∧ ms.Perm ns := by
  induction p with
  | nil => intro ns h; exact ⟨ns, h, List.Perm.refl _⟩
  | cons x _ ih =>
    intro ns h
    cases h with
    | cons n t hr =>
      obtain ⟨ms, h1, h2⟩ := ih hr
      exact ⟨n :: ms, .cons n t h1, h2.cons n⟩
  | swap x y l =>
    intro ns h
    cases h with
    | cons n t hr =>
      cases hr with
      | cons m u hr =>
        exact ⟨_, .cons m u (.cons n t hr), List.Perm.swap _ _ _⟩
  | trans _ _ ih1 ih2 =>
    intro ns h
    obtain ⟨ms, h1, h2⟩ := ih2 h
    obtain ⟨ls, h3, h4⟩ := ih1 h1
    exact ⟨ls, h3, h4.trans h2⟩
theorem setQ_keep {h h' : Heap} {a : Addr} {es : Array (Int × Value)} {ep : Nat} {t : SetTable} (x : SetQ h a es ep t) (k : ∀ o, h.get? a = some o → h'.get? a = some o) : SetQ h' a es ep t := by
  obtain ⟨o, ho, r⟩ := x
  exact ⟨o, k o ho, r⟩
theorem si_keep {h h' : Heap} {it a : Addr} {f : Value} {i n ep : Nat} (x : IsSI h it a f i n ep) (k : ∀ o, h.get? it = some o → h'.get? it = some o) : IsSI h' it a f i n ep := by
  obtain ⟨o, ho, r⟩ := x
  exact ⟨o, k o ho, r⟩
theorem walks_slot {a it : Addr} {es : Array (Int × Value)} {ep : Nat} {t : SetTable} (hne : a ≠ it) (ord : List Value) (hl : ord.length = es.size) (slots : Nat → Nat)
    (hN : ∀ (i : Nat) (x : Value), ord[i]? = some x → ∀ (s : Shared) (B : Around) (E' : Value → Shared → Prop) (Q' : Option (Value × Nat) → Shared → Prop), SetQ s.heap a es ep t → Q' (some (x, slots (i + 1))) s → wpAny (model P w) B (setNext a (slots i) i ep) Q' E' s)
    (hE : ∀ (s : Shared) (B : Around) (E' : Value → Shared → Prop) (Q' : Option (Value × Nat) → Shared → Prop), SetQ s.heap a es ep t → Q' none s → wpAny (model P w) B (setNext a (slots es.size) es.size ep) Q' E' s) (hh : A.handled = none) :
    Walks P w A it [it, a] [it] ord.length (fun i v => ord[i]? = some v) (fun i h => IsSI h it a (.int (slots i) 0) i es.size ep ∧ SetQ h a es ep t) where
  sub := fun b hb => by simp at hb; simp [hb]
  frame := fun i h h' st hk => ⟨si_keep st.1 fun o e => hk it (by simp) o e, setQ_keep st.2 fun o e => hk a (by simp) o e⟩
  item := fun i s Q E hi st hQ => by
    refine next_slot (x := ord[i]) (nx := slots (i + 1)) st.1 st.2 hne (fun B E' Q' z => hN i _ (by simp [hi]) s B E' Q' st.2 z) fun h' si sb => ?_
    exact hQ _ h' s.toks (by simp [hi]) ⟨si, setQ_keep st.2 fun o e => (sb.2 a hne).trans e⟩ fun b o hb e => (sb.2 b (fun z => hb (by simp [z]))).trans e
  done := fun s Q E st hQ => by
    have st1 := st.1
    rw [hl] at st1
    exact end_slot hh st1 st.2 (fun B E' Q' z => hE s B E' Q' st.2 z) fun h' k => hQ h' s.toks fun b o hb e => k b o (fun z => hb (by simp [z])) e
  self := fun i s Q E st hQ => self_X st.1 hQ
theorem walks_drawn {a it tp : Addr} {es : Array (Int × Value)} {ep m : Nat} {t : SetTable} {ot : Obj} {ps : Array Value} (hd : ot.data = .seq ps m) (hne : a ≠ it) (hnt : tp ≠ it) (ord : List Value) (hl : ord.length = ps.size)
    (hp : ∀ (i : Nat) (x : Value), ord[i]? = some x → ∃ (p : Nat) (k : Int) (tk : Tok), ps[i]? = some (.int (p : Int) tk) ∧ es[p]? = some (k, x)) (hh : A.handled = none) :
    Walks P w A it [it, a, tp] [it] ord.length (fun i v => ord[i]? = some v) (fun i h => IsSI h it a (.ref tp) i es.size ep ∧ SetQ h a es ep t ∧ h.get? tp = some ot) where
  sub := fun b hb => by simp at hb; simp [hb]
  frame := fun i h h' st hk => ⟨si_keep st.1 fun o e => hk it (by simp) o e, setQ_keep st.2.1 fun o e => hk a (by simp) o e, hk tp (by simp) _ st.2.2⟩
  item := fun i s Q E hi st hQ => by
    obtain ⟨p, k, tk, h1, h2⟩ := hp i ord[i] (by simp [hi])
    refine next_drawn st.1 st.2.1 st.2.2 hd h1 h2 fun h' si sb => ?_
    exact hQ _ h' s.toks (by simp [hi]) ⟨si, setQ_keep st.2.1 fun o e => (sb.2 a hne).trans e, (sb.2 tp hnt).trans st.2.2⟩ fun b o hb e => (sb.2 b (fun z => hb (by simp [z]))).trans e
  done := fun s Q E st hQ => end_drawn hh st.1 st.2.1 st.2.2 hd (by rw [hl]; simp) fun h' k => hQ h' s.toks fun b o hb e => k b o (fun z => hb (by simp [z])) e
  self := fun i s Q E st hQ => self_X st.1 hQ
def slotAt (t : SetTable) : Nat → Nat
  | 0 => 0
  | i + 1 => (t.place[i]?).getD 0 + 1
theorem below_slotAt {t : SetTable} (hr : Ris t.place) {i : Nat} (h : i ≤ t.place.size) : SetTable.below t.place (slotAt t i) = i := by
  cases i with
  | zero => exact below_zero hr
  | succ j =>
    show SetTable.below t.place ((t.place[j]?).getD 0 + 1) = j + 1
    rw [Array.getElem?_eq_getElem (by omega : j < t.place.size), Option.getD_some]
    exact below_at hr (by omega)
theorem next_text {s : Shared} {a : Addr} {es : Array (Int × Value)} {ep i : Nat} {t : SetTable} {Q : Option (Value × Nat) → Shared → Prop} (bt : w.params.followText "set-order" = true) (SQ : SetQ s.heap a es ep t) (q : Q (((pickOrder (w.params.setOrder a ep) es)[i]?).map fun e => (e.2, 0)) s) : wpAny (model P w) A (setNext a 0 i ep) Q E s := by
  obtain ⟨o, ho, hex, hd, hf⟩ := SQ
  unfold setNext setsByText
  refine wpAny_bind (wpAny_setState_of ho hd hf ?_)
  dsimp only
  refine wpAny_bind (wpAny_bind (wpAny_askSetting (wpAny_pure ?_)))
  show wpAny _ _ (if w.params.followText "set-order" = true then _ else _) _ _ _
  rw [if_pos bt]
  rw [if_neg (by simp)]
  unfold setWalk setsByText
  refine wpAny_bind (wpAny_bind (wpAny_setState_of ho hd hf ?_))
  dsimp only
  refine wpAny_bind (wpAny_bind (wpAny_askSetting (wpAny_pure ?_)))
  show wpAny _ _ (if w.params.followText "set-order" = true then _ else _) _ _ _
  rw [if_pos bt]
  exact wpAny_bind (wpAny_askSetting (wpAny_pure (wpAny_pure q)))
theorem next_place {s : Shared} {a : Addr} {es : Array (Int × Value)} {ep i slot : Nat} {t : SetTable} {Q : Option (Value × Nat) → Shared → Prop} (bt : w.params.followText "set-order" = false) (hdr : (!t.plain && decide (es.size > 1)) = false) (hl : t.led = true) (SQ : SetQ s.heap a es ep t)
    (q : Q (match es[SetTable.below t.place slot]?, t.place[SetTable.below t.place slot]? with | some (_, x), some j => some (x, j + 1) | _, _ => none) s) : wpAny (model P w) A (setNext a slot i ep) Q E s := by
  obtain ⟨o, ho, hex, hd, hf⟩ := SQ
  unfold setNext setsByText
  refine wpAny_bind (wpAny_setState_of ho hd hf ?_)
  dsimp only
  refine wpAny_bind (wpAny_bind (wpAny_askSetting (wpAny_pure ?_)))
  show wpAny _ _ (if w.params.followText "set-order" = true then _ else _) _ _ _
  rw [if_neg (by rw [bt]; exact Bool.false_ne_true)]
  show wpAny _ _ (if (!t.plain && decide (es.size > 1)) = true then _ else _) _ _ _
  rw [if_neg (by rw [hdr]; exact Bool.false_ne_true)]
  refine wpAny_bind ?_
  show wpAny _ _ (if (!t.led && !es.isEmpty) = true then _ else _) _ _ _
  rw [if_neg (by rw [hl]; simp)]
  exact wpAny_pure (wpAny_pure q)
theorem iter_X {s : Shared} {a : Addr} {ks : List Int} {Q : Value → Shared → Prop} (X : SetX P w s.heap a ks) (hd : ks.Nodup)
    (q : ∀ (it : Addr) (fp : List Addr) (ord : List Value) (ns : List Int) (St : Nat → Heap → Prop) (h' : Heap) (d : Drawn), (∀ b o, s.heap.get? b = some o → h'.get? b = some o) → (∀ b ∈ fp, b = a ∨ s.heap.objs.size ≤ b) → s.heap.objs.size ≤ it → (∀ b ∈ fp, b < h'.objs.size) → it ∈ fp → IntsAre ord ns → ns.Perm ks →
      (∀ B : Around, B.handled = none → Walks P w B it fp [it] ord.length (fun i v => ord[i]? = some v) St) → St 0 h' → Q (.ref it) { s with heap := h', drawn := d }) : wpAny (model P w) A (pyIter (.ref a)) Q E s := by
  obtain ⟨o, es, ep, t, ho, hex, hdt, hel, hm, hb, hf, hn, hT⟩ := X
  obtain ⟨ns, hi, hmn⟩ := elems_ints hel
  have hpm : ns.Perm ks := by
    refine (perm_of_sub hd (fun k hk => (hmn k).mpr ((hm k).mp hk)) ?_).symm
    have := hi.length
    simp at this
    omega
  have hty : s.TypeIs (.ref a) "set" := ⟨o, ho, hex.1⟩
  have SQ : SetQ s.heap a es ep t := ⟨o, ho, hex, hdt, hf⟩
  refine wpAny_pyIter_slot hty F.slot_set_iter (wpAny_call_entry F.slot_set_iter hty SF.entry_iter ?_ (F.args_set_iter_1 _))
  unfold Builtin.«frozenset.__iter__» Builtin.Frozenset.slot0
  refine wpAny_bind (wpAny_bind (m := slotArgs "__iter__" 0 ⟨[.ref a], []⟩) (wpAny_pure ?_))
  unfold Builtin.Frozenset.addrOf Builtin.Frozenset.sizeOf
  refine wpAny_pure (wpAny_bind (wpAny_bind (wpAny_setEntries_of ho hdt hf (wpAny_pure ?_))))
  unfold setDrawn setsByText
  refine wpAny_bind (wpAny_bind (wpAny_setState_of ho hdt hf (wpAny_bind (wpAny_bind (wpAny_askSetting (wpAny_pure (wpAny_pure ?_)))))))
  show wpAny _ _ (if (!w.params.followText "set-order" && (!t.plain && decide (es.size > 1))) = true then _ else _) _ _ _
  have lt : a < s.heap.objs.size := Heap.lt_size ho
  by_cases hdr : (!w.params.followText "set-order" && (!t.plain && decide (es.size > 1))) = true
  · rw [if_pos hdr]
    refine wpAny_bind (draw_X es.size (List.range es.size) s _ (by simp) fun ys d hy => ?_)
    simp only [newTuple]
    refine wpAny_bind (wpAny_newObj_type ?_ ?sz)
    case sz =>
      show (ys.map fun (i : Nat) => rawInt i).toArray.size ≤ sizeLine
      have := hy.length_eq
      rw [List.size_toArray, List.length_map, this, List.length_range]
      exact fits_of_scanBound hb
    unfold setEpoch
    have k1 : ∀ b ob, s.heap.get? b = some ob → (s.heap.push { cls := .type "tuple", data := .seq (ys.map fun (i : Nat) => rawInt i).toArray }).get? b = some ob := fun b ob e => Heap.get?_push_of_some _ e
    refine wpAny_bind (wpAny_bind (wpAny_setState_of (k1 _ _ ho) hdt hf (wpAny_pure ?_)))
    simp only [newFields]
    refine wpAny_bind (wpAny_newObj_type ?_ (by size_fits))
    have sz1 : (s.heap.push { cls := .type "tuple", data := .seq (ys.map fun (i : Nat) => rawInt i).toArray }).objs.size = s.heap.objs.size + 1 := Heap.size_push ..
    refine wpAny_pure ⟨_, rfl, "set_iterator", _, ⟨_, Heap.get?_push_size _ rfl, rfl⟩, SF.slot_next.lookup, ?_⟩
    have gt : (s.heap.push { cls := .type "tuple", data := .seq (ys.map fun (i : Nat) => rawInt i).toArray }).get? s.heap.objs.size = some { cls := .type "tuple", data := .seq (ys.map fun (i : Nat) => rawInt i).toArray } := Heap.get?_push_size _ rfl
    generalize s.heap.push { cls := .type "tuple", data := .seq (ys.map fun (i : Nat) => rawInt i).toArray } = H1 at k1 sz1 gt ⊢
    have k2 : ∀ b ob, H1.get? b = some ob → (H1.push { cls := .type "set_iterator", data := .fields #[.ref s.heap.objs.size, rawInt 0, .ref a, rawInt es.size, rawInt ep] }).get? b = some ob := fun b ob e => Heap.get?_push_of_some _ e
    have sz2 : (H1.push { cls := .type "set_iterator", data := .fields #[.ref s.heap.objs.size, rawInt 0, .ref a, rawInt es.size, rawInt ep] }).objs.size = s.heap.objs.size + 2 := by rw [Heap.size_push, sz1]
    have SI1 : IsSI (H1.push { cls := .type "set_iterator", data := .fields #[.ref s.heap.objs.size, rawInt 0, .ref a, rawInt es.size, rawInt ep] }) H1.objs.size a (.ref s.heap.objs.size) 0 es.size ep := ⟨_, Heap.get?_push_size _ rfl, rfl, rfl⟩
    have SQ1 := setQ_keep SQ fun ob e => k2 _ _ (k1 _ _ e)
    have ylt : ∀ p ∈ ys, p < es.size := fun p hp => List.mem_range.mp (hy.mem_iff.mp hp)
    have er : (List.range es.size).map (fun p => ((es[p]?).map (·.2)).getD .none) = es.toList.map (·.2) := by
      apply List.ext_getElem
      · simp
      · intro i h1 h2
        simp at h1
        simp [h1]
    obtain ⟨ms, hms, hmp⟩ := ints_perm (vs := ys.map (fun p => ((es[p]?).map (·.2)).getD .none)) (us := es.toList.map (·.2)) (by rw [← er]; exact hy.map _) hi
    have fpm : ∀ b ∈ [H1.objs.size, a, s.heap.objs.size], b = H1.objs.size ∨ b = a ∨ b = s.heap.objs.size := fun b hb => by simpa using hb
    refine q H1.objs.size [H1.objs.size, a, s.heap.objs.size] _ ms _ _ d (fun b ob e => k2 _ _ (k1 _ _ e)) (fun b hb => ?_) (by rw [sz1]; exact Nat.le_succ _) (fun b hb => ?_) (by simp) hms (hmp.trans hpm)
      (fun B hB => walks_drawn (t := t) (es := es) (ep := ep) (tp := s.heap.objs.size) rfl (fun z => ?_) (fun z => ?_) _ (by simp) ?_ hB) ⟨SI1, SQ1, k2 _ _ gt⟩
    · rcases fpm b hb with z | z | z
      · rw [z, sz1]; exact .inr (Nat.le_succ _)
      · exact .inl z
      · exact .inr (Nat.le_of_eq z.symm)
    · rw [sz2]
      rcases fpm b hb with z | z | z
      · rw [z, sz1]; exact Nat.lt_succ_self _
      · rw [z]; exact Nat.lt_succ_of_lt (Nat.lt_succ_of_lt lt)
      · rw [z]; exact Nat.lt_succ_of_lt (Nat.lt_succ_self _)
    · rw [z, sz1] at lt
      exact absurd lt (Nat.not_lt.mpr (Nat.le_succ _))
    · rw [sz1] at z
      exact absurd z (Nat.ne_of_lt (Nat.lt_succ_self _))
    · intro i x hx
      rw [List.getElem?_map] at hx
      cases g : ys[i]? with
      | none => rw [g] at hx; cases hx
      | some p =>
        rw [g] at hx
        have hp := ylt p (List.mem_of_getElem? g)
        have ep' : es[p]? = some es[p] := Array.getElem?_eq_getElem hp
        refine ⟨p, es[p].1, 0, ?_, ?_⟩
        · simp [g, rawInt]
        · have hx' : ((es[p]?).map (·.2)).getD .none = x := Option.some.inj hx
          rw [ep'] at hx' ⊢
          have hx2 : es[p].2 = x := hx'
          rw [← hx2]
  · rw [if_neg hdr]
    refine wpAny_bind (wpAny_pure ?_)
    unfold setEpoch
    refine wpAny_bind (wpAny_bind (wpAny_setState_of ho hdt hf (wpAny_pure ?_)))
    simp only [newFields]
    refine wpAny_bind (wpAny_newObj_type ?_ (by size_fits))
    refine wpAny_pure ⟨_, rfl, "set_iterator", _, ⟨_, Heap.get?_push_size _ rfl, rfl⟩, SF.slot_next.lookup, ?_⟩
    have k1 : ∀ b ob, s.heap.get? b = some ob → (s.heap.push { cls := .type "set_iterator", data := .fields #[rawInt 0, rawInt 0, .ref a, rawInt es.size, rawInt ep] }).get? b = some ob := fun b ob e => Heap.get?_push_of_some _ e
    have ne : a ≠ s.heap.objs.size := Nat.ne_of_lt lt
    have SQ1 := setQ_keep SQ (k1 a)
    have SI1 : IsSI (s.heap.push { cls := .type "set_iterator", data := .fields #[rawInt 0, rawInt 0, .ref a, rawInt es.size, rawInt ep] }) s.heap.objs.size a (.int (0 : Nat) 0) 0 es.size ep := ⟨_, Heap.get?_push_size _ rfl, rfl, rfl⟩
    have sz : (s.heap.push { cls := .type "set_iterator", data := .fields #[rawInt 0, rawInt 0, .ref a, rawInt es.size, rawInt ep] }).objs.size = s.heap.objs.size + 1 := Heap.size_push ..
    have fpo : ∀ b ∈ [s.heap.objs.size, a], b = a ∨ s.heap.objs.size ≤ b := fun b hb => by
      rcases (show b = s.heap.objs.size ∨ b = a by simpa using hb) with z | z
      · exact .inr (Nat.le_of_eq z.symm)
      · exact .inl z
    have fpl : ∀ b ∈ [s.heap.objs.size, a], b < (s.heap.push { cls := .type "set_iterator", data := .fields #[rawInt 0, rawInt 0, .ref a, rawInt es.size, rawInt ep] }).objs.size := fun b hb => by
      rw [sz]
      rcases (show b = s.heap.objs.size ∨ b = a by simpa using hb) with z | z
      · rw [z]; exact Nat.lt_succ_self _
      · rw [z]; exact Nat.lt_succ_of_lt lt
    by_cases bt : w.params.followText "set-order" = true
    · -- by the text's order
      obtain ⟨ms, hms, hmp⟩ := ints_perm ((pick_perm (w.params.setOrder a ep) es).map (·.2)) hi
      refine q s.heap.objs.size [s.heap.objs.size, a] _ ms _ _ s.drawn k1 fpo (Nat.le_refl _) fpl (by simp) hms (hmp.trans hpm) (fun B hB => walks_slot (t := t) (es := es) (ep := ep) ne _ (by have := (pick_perm (w.params.setOrder a ep) es).length_eq; simpa using this) (fun _ => 0) ?_ ?_ hB) ⟨SI1, SQ1⟩
      · intro i x hx s' B' E' Q' SQ' z
        refine next_text bt SQ' ?_
        rw [List.getElem?_map] at hx
        cases g : (pickOrder (w.params.setOrder a ep) es).toList[i]? with
        | none => rw [g] at hx; cases hx
        | some e =>
          rw [g] at hx
          cases hx
          rw [Array.getElem?_toList] at g
          rw [g]
          exact z
      · intro s' B' E' Q' SQ' z
        refine next_text bt SQ' ?_
        have hsz : (pickOrder (w.params.setOrder a ep) es).size = es.size := by have := (pick_perm (w.params.setOrder a ep) es).length_eq; simpa using this
        rw [Array.getElem?_eq_none (by omega)]
        exact z
    · have bf : w.params.followText "set-order" = false := Bool.eq_false_iff.mpr bt
      have dr : (!t.plain && decide (es.size > 1)) = false := by
        rw [bf] at hdr
        simpa using hdr
      have ld : t.led = true := by rw [hT.led]; unfold ledOf; rw [bf]; rfl
      have psz : t.place.size = es.size := by
        simp only [SetTable.fits, Bool.and_eq_true, beq_iff_eq] at hf
        exact hf.1
      refine q s.heap.objs.size [s.heap.objs.size, a] _ ns _ _ s.drawn k1 fpo (Nat.le_refl _) fpl (by simp) hi hpm (fun B hB => walks_slot (t := t) (es := es) (ep := ep) ne _ (by simp) (slotAt t) ?_ ?_ hB) ⟨SI1, SQ1⟩
      · intro i x hx s' B' E' Q' SQ' z
        refine next_place bf dr ld SQ' ?_
        rw [List.getElem?_map] at hx
        cases g : es.toList[i]? with
        | none => rw [g] at hx; cases hx
        | some e =>
          rw [g] at hx
          cases hx
          rw [Array.getElem?_toList] at g
          have hi' : i < es.size := (Array.getElem?_eq_some_iff.mp g).1
          have eb := below_slotAt hT.ris (i := i) (by omega)
          have gp : t.place[i]? = some (t.place[i]'(by omega)) := Array.getElem?_eq_getElem (by omega)
          rw [eb, g, gp]
          have z' : Q' (some (e.2, (t.place[i]?).getD 0 + 1)) s' := z
          rw [gp] at z'
          exact z'
      · intro s' B' E' Q' SQ' z
        refine next_place bf dr ld SQ' ?_
        have eb := below_slotAt hT.ris (i := es.size) (by omega)
        rw [eb, Array.getElem?_eq_none (Nat.le_refl _)]
        exact z
end
end L2
set_option Elab.async false
set_option linter.all false
set_option maxRecDepth 100000
namespace L2
open PySem PySem.Spec PyProof.Rows
section
variable {P : Program} {w : World} {A : Around} {E : Value → Shared → Prop}
theorem collect_X {s : Shared} {a : Addr} {ks : List Int} {Q : List Value → Shared → Prop} (hh : A.handled = none) (X : SetX P w s.heap a ks) (hd : ks.Nodup) (hn : ks.length ≤ 1000)
    (q : ∀ s' vs ns, (∀ b o, s.heap.get? b = some o → s'.heap.get? b = some o) → s'.gens = s.gens → s'.os = s.os → s.heap.objs.size ≤ s'.heap.objs.size → IntsAre vs ns → ns.Perm ks → Q vs s') : wpAny (model P w) A (collect (.ref a)) Q E s := by
  unfold collect
  refine wpAny_bind (wpAny_runValue (codeAny_builtin F.entry_proto_collect ?_))
  rw [Around.under_plainId F.plain_proto_collect _]
  refine wpAny_bind (m := newList []) (wpAny_newObj_type (wpAny_pure ⟨plainId_quiet F.plain_list_iadd _, codeAny_builtin F.entry_list_iadd ?_⟩))
  rw [Around.under_plainId F.plain_list_iadd _]
  obtain ⟨H0, eH0⟩ : ∃ H0 : Heap, H0 = s.heap.push { cls := .type "list", data := .seq ([] : List Value).toArray } := ⟨_, rfl⟩
  have sz0 : H0.objs.size = s.heap.objs.size + 1 := by rw [eH0]; exact Heap.size_push ..
  have k0 : ∀ b o, s.heap.get? b = some o → H0.get? b = some o := fun b o e => by rw [eH0]; exact Heap.get?_push_of_some _ e
  have g0 : H0.get? s.heap.objs.size = some { cls := .type "list", data := .seq ([] : List Value).toArray } := by rw [eH0]; exact Heap.get?_push_size _ rfl
  show wpAny _ A.in1 (Builtin.List.listExtendWith (.ref s.heap.objs.size) (.ref a) (.ref s.heap.objs.size)) _ _ { s with heap := s.heap.push _ }
  rw [← eH0]
  have X0 : SetX P w H0 a ks := X.keep fun o e => k0 _ _ e
  have la : a < s.heap.objs.size := by
    obtain ⟨o, _, _, _, ho, _⟩ := X
    exact Heap.lt_size ho
  have ty0 : Shared.TypeIs { s with heap := H0 } (.ref a) "set" := by
    obtain ⟨o, _, _, _, ho, hex, _⟩ := X0
    exact ⟨o, ho, hex.1⟩
  unfold Builtin.List.listExtendWith
  refine wpAny_bind (wpAny_typeOf ty0 ?_)
  have n1 : Builtin.List.listSameRef (.ref s.heap.objs.size) (.ref a) = false := by
    show (s.heap.objs.size == a) = false
    exact beq_eq_false_iff_ne.mpr (Nat.ne_of_gt la)
  have n2 : (Value.type "set" == Value.type "list") = false := by decide
  have n3 : (Value.type "set" == Value.type "tuple") = false := by decide
  simp only [n1, n2, n3, Bool.or_false, Bool.false_eq_true, if_false]
  refine wpAny_bind (iter_X (s := { s with heap := H0 }) X0 hd fun it fp ord ns St h1 d k1 fpo itle fpl itm hord hp W st => ?_)
  refine wpAny_bind (wpAny_holding ?_)
  have ty1 : Shared.TypeIs { s with heap := h1, drawn := d } (.ref a) "set" := by
    obtain ⟨o, ho, hc⟩ := ty0
    exact ⟨o, k1 _ _ ho, hc⟩
  unfold Builtin.List.listLengthHint
  refine wpAny_bind (wpAny_specialOf ty1 SF.len_set ?_)
  wp_delta
  refine wpAny_bind (wpAny_isInstance (T := "set") (b := true) ty1 (by rw [isSubtype_type]; kernel_rfl) ?_)
  show wpAny _ A.in1 (typeOf (Value.ref a) >>= _) _ _ _
  refine wpAny_bind (wpAny_typeOf ty1 ?_)
  refine wpAny_pure ?_
  rw [if_pos (by decide)]
  refine wpAny_bind (wpAny_rule ?_)
  refine wpAny_bind ?_
  show wpAny _ A.in1 (updateSeq s.heap.objs.size (·.push .none) >>= fun _ => updateSeq s.heap.objs.size (·.pop)) _ _ _
  have hS1 : h1.get? s.heap.objs.size = some { cls := .type "list", data := .seq ([] : List Value).toArray } := k1 _ _ g0
  refine wpAny_bind (wpAny_updateSeq hS1 rfl ?_)
  have hS2 := Heap.get?_update_self (Obj.mapSeq (·.push Value.none)) hS1 rfl
  refine wpAny_updateSeq (hz := by seq_fits) hS2 rfl ?_
  have hS3 := Heap.get?_update_self (Obj.mapSeq (·.pop)) hS2 rfl
  have oth : ∀ b o, b ≠ s.heap.objs.size → h1.get? b = some o → ((h1.update s.heap.objs.size (Obj.mapSeq (·.push Value.none))).update s.heap.objs.size (Obj.mapSeq (·.pop))).get? b = some o :=
    fun b o hb e => (Heap.get?_update_other _ _ (Ne.symm hb)).trans ((Heap.get?_update_other _ _ (Ne.symm hb)).trans e)
  have hSf : s.heap.objs.size ∉ fp := fun hm => by
    rcases fpo _ hm with e | e
    · exact absurd e (Nat.ne_of_gt la)
    · have e2 : H0.objs.size ≤ s.heap.objs.size := e
      rw [sz0] at e2
      omega
  have hl : ord.length ≤ sizeLine := by
    have e1 := hord.length
    have e2 := hp.length_eq
    have : ord.length ≤ 1000 := by omega
    exact Nat.le_trans this (by decide)
  refine wpAny_pure ⟨plainId_quiet F.plain_extend_loop _, codeAny_extend_loopS (W A.in1 hh).toS hl _ hSf _ ord.length 0 _ _ _ rfl (Nat.zero_le _)
    ((W A.in1 hh).frame 0 _ _ st fun b hb o e => oth b o (fun z => hSf (z ▸ hb)) e) hS3 (ItemsOf.nil _) fun s' acc' c' hm hS' hacc => ?_⟩
  show wpAny _ A (load s.heap.objs.size >>= _) _ _ s'
  refine wpAny_bind (wpAny_load hS' ?_)
  refine wpAny_pure (q s' acc'.toList ns (fun b ob e => hm.heap b ob (fun hb => ?_) (oth b ob (Nat.ne_of_lt (Heap.lt_size e)) (k1 _ _ (k0 _ _ e)))) hm.gens hm.os (Nat.le_of_lt (Heap.lt_size hS')) ?_ hp)
  · have lb := Heap.lt_size e
    rcases List.mem_cons.mp hb with z | z
    · exact Nat.lt_irrefl _ (z ▸ lb)
    · rw [List.mem_singleton.mp z] at lb
      have e2 : H0.objs.size ≤ it := itle
      rw [sz0] at e2
      exact Nat.lt_irrefl _ (Nat.lt_of_lt_of_le lb (Nat.le_trans (Nat.le_succ _) e2))
  · have e : acc'.toList = ord := by
      apply List.ext_getElem?
      intro i
      rcases Nat.lt_or_ge i acc'.size with hi | hi
      · have z := hacc.2 i acc'[i] (by simp [hi])
        rw [z]
        simp [hi]
      · rw [List.getElem?_eq_none (by simpa using hi), List.getElem?_eq_none (by rw [← hacc.1]; exact hi)]
    rw [e]
    exact hord
end
end L2
set_option Elab.async false
set_option linter.all false
set_option maxRecDepth 100000
namespace L2
open PySem PySem.Spec PyProof.Rows
section
variable {P : Program} {w : World} {A : Around} {E : Value → Shared → Prop}
theorem sorted_X {s : Shared} {a : Addr} {ks : List Int} {Q : Value → Shared → Prop} (hh : A.handled = none) (X : SetX P w s.heap a ks) (hd : ks.Nodup) (hn : ks.length < 64)
    (q : ∀ (s' : Shared) (r : Addr) (vs : List Value) (ns : List Int), (∀ b o, s.heap.get? b = some o → s'.heap.get? b = some o) → s'.gens = s.gens → s'.os = s.os → s.heap.objs.size ≤ r →
      (∃ e, s'.heap.get? r = some (seqObj "list" vs.toArray e)) → IntsAre vs ns → ns.Perm ks → ns.Pairwise (· ≤ ·) → Q (.ref r) s') :
    wpAny (model P w) A (call (.builtin "sorted") [.ref a]) Q E s := by
  refine Calls.call_function_entry kind_sorted plain_sorted entry_sorted (args_sorted1 _) ?_
  unfold Builtin.«sorted»
  refine wpAny_bind (m := checkCount "sorted" 1 1 _) (wpAny_pure ?_)
  refine wpAny_bind (collect_X (by exact hh) X hd (by omega) fun s1 vs ns k1 g1 o1 z1 hi hp => ?_)
  have h64 : vs.length < 64 := by
    have e1 := hi.length
    have e2 := hp.length_eq
    omega
  refine wpAny_bind (wpAny_newList (hsz := Nat.le_trans (Nat.le_of_lt h64) (by decide)) ?_)
  have hoL : (s1.heap.push (seqObj "list" vs.toArray 0)).get? s1.heap.objs.size = some (seqObj "list" vs.toArray 0) := Heap.get?_push_size _ rfl
  show wpAny _ _ _ _ _ { s1 with heap := s1.heap.push (seqObj "list" vs.toArray 0) }
  refine wpAny_bind (wpAny_holding (wpAny_call_entry slot_list_sort ⟨_, hoL, rfl⟩ entry_list_sort (list_sort_tree hoL hi h64 fun out ns' a1 a2 a3 => ⟨_, rfl, ?_⟩) (args_list_sort _)))
  obtain ⟨H1, eH1⟩ : ∃ H1, H1 = s1.heap.push (seqObj "list" vs.toArray 0) := ⟨_, rfl⟩
  have z2 : H1.objs.size = s1.heap.objs.size + 1 := by rw [eH1]; exact size_push' _ _
  have kk : ∀ b o, s1.heap.get? b = some o → (sortedHeap H1 s1.heap.objs.size vs out).get? b = some o := fun b o e => by
    rw [sortedHeap_old (Nat.ne_of_lt (Heap.lt_size e)) (by rw [z2]; exact Nat.lt_succ_of_lt (Heap.lt_size e)), eH1]
    exact Heap.get?_push_of_some _ e
  have ka : ∃ e, (sortedHeap H1 s1.heap.objs.size vs out).get? s1.heap.objs.size = some (seqObj "list" out e) := sortedHeap_at (n := 0) (by rw [eH1]; exact hoL)
  rw [← eH1]
  generalize sortedHeap H1 s1.heap.objs.size vs out = H2 at kk ka ⊢
  refine wpAny_pure ⟨_, rfl, q _ _ out.toList ns' (fun b o e => ?_) g1 o1 ?_ ?_ a1 (a2.trans hp) a3⟩
  · exact kk _ _ (k1 _ _ e)
  · exact z1
  · exact ka
end
def sortI (ns : List Int) : List Int := ns.mergeSort (fun a b => decide (a ≤ b))
theorem sortI_perm (ns : List Int) : (sortI ns).Perm ns := List.mergeSort_perm _ _
theorem sortI_sorted (ns : List Int) : (sortI ns).Pairwise (· ≤ ·) := by
  have h := List.pairwise_mergeSort (le := fun a b : Int => decide (a ≤ b)) (by intro a b c h1 h2; simp at *; omega) (by intro a b; simp; omega) ns
  exact h.imp fun h => by simpa using h
theorem sorted_eq : ∀ {a b : List Int}, a.Perm b → a.Pairwise (· ≤ ·) → b.Pairwise (· ≤ ·) → a = b
  | [], b, p, _, _ => (List.nil_perm.mp p).symm
  | x :: r, [], p, _, _ => absurd p.symm (by intro z; exact absurd (List.nil_perm.mp z) (by simp))
  | x :: r, y :: q, p, h1, h2 => by
    obtain ⟨hx, hr⟩ := List.pairwise_cons.mp h1
    obtain ⟨hy, hq⟩ := List.pairwise_cons.mp h2
    have e : x = y := by
      have m1 : x ∈ y :: q := p.subset (.head _)
      have m2 : y ∈ x :: r := p.symm.subset (.head _)
      rcases List.mem_cons.mp m1 with e | m1
      · exact e
      · rcases List.mem_cons.mp m2 with e | m2
        · exact e.symm
        · have := hx y m2
          have := hy x m1
          omega
    subst e
    rw [sorted_eq (List.Perm.cons_inv p) hr hq]
theorem sortI_of {a b : List Int} (p : a.Perm b) (h : a.Pairwise (· ≤ ·)) : a = sortI b := sorted_eq (p.trans (sortI_perm b).symm) h (sortI_sorted b)
theorem sortI_len (ns : List Int) : (sortI ns).length = ns.length := (sortI_perm ns).length_eq
section
variable {X : Cx}
def stX (X : Cx) (l : Addr) (ks : List Int) : HO := .ext fun h => SetX X.prog X.w h l ks
theorem call_setX (hc : X.calm = true) : CallR X (.type "set") (fun xs H Q => ∃ (p : Addr) (ns : List Int), xs = [.ref p] ∧ SqL X.K H p (ns.map V.int) ∧ ns.length ≤ 1000 ∧ ∀ l, H l = none → Q (.ref l) (upd H l (stX X l (onceI ns)))) := by
  intro pins s σ H xs us Q I r h
  obtain ⟨p, ns, rfl, hq, hl, q⟩ := h
  obtain ⟨u, rfl, ru⟩ := vals1 r
  cases (show u = Value.ref p from ru)
  obtain ⟨its, rv, pl, hz⟩ := I.list hq
  have hi : IntsAre its ns := intsAre_of rv
  have hlen := hi.length
  refine call_set_X (its := its.toArray) (ns := ns) (I.ok.hd hc) pl.isList (by simpa using hi) (by rw [List.size_toArray]; unfold scanBound; omega) fun h' tk hS hk => ?_
  refine ⟨.ref s.heap.objs.size, _, I.laid (a := s.heap.objs.size) (o := stX X s.heap.objs.size (onceI ns)) (t' := tk) hk (Nat.le_refl _) ?_, rfl, q _ (I.hok.fresh (Nat.le_refl _))⟩
  have ez : its.toArray.size = ns.length := by rw [List.size_toArray, hlen]
  rw [ez] at hS
  refine ⟨hS, ?_, fun h1 h2 x k => x.keep k⟩
  obtain ⟨o, _, _, _, ho, _⟩ := hS
  exact ⟨o, ho⟩
theorem call_sortedX (hc : X.calm = true) : CallR X (.builtin "sorted") (fun xs H Q => ∃ (p : Addr) (ks : List Int), xs = [.ref p] ∧ H p = some (stX X p ks) ∧ ks.Nodup ∧ ks.length < 64 ∧ ∀ l, H l = none → Q (.ref l) (upd H l (.lst ((sortI ks).map V.int)))) := by
  intro pins s σ H xs us Q I r h
  obtain ⟨p, ks, rfl, hq, hd, hl, q⟩ := h
  obtain ⟨u, rfl, ru⟩ := vals1 r
  cases (show u = Value.ref p from ru)
  obtain ⟨hS, _⟩ := I.hok p _ hq
  refine sorted_X (I.ok.hd hc) hS hd hl fun s' l vs ns k1 g1 o1 z1 hl2 hi hp hs => ?_
  obtain ⟨e, he⟩ := hl2
  have e2 := sortI_of hp hs
  subst e2
  have fr : H l = none := I.hok.fresh z1
  refine ⟨.ref l, upd H l (.lst ((sortI ks).map V.int)), I.call' (ch := []) o1 (Un.laid k1 z1 fr) ?_ (by rw [g1]; exact I.bare) (fun b hb => absurd hb (by simp)), rfl, q _ fr⟩
  refine I.hok.laid k1 z1 ⟨by rw [List.length_map, sortI_len]; exact Nat.le_trans (Nat.le_of_lt hl) (by decide), vs, e, vals_ints hi, he⟩
end
end L2
set_option Elab.async false
set_option linter.all false
set_option maxRecDepth 100000
namespace L2
open PySem PySem.Spec PyProof.Rows
section
variable {X : Cx}
def FnV (K : PySem.W.Frag) (H : Hp) (f : Addr) (fd : FuncData) : Prop := (∃ fo k0, H f = some (.frz fo k0) ∧ fo.data = .func fd) ∨ ∃ oc od osl, K.lookup f = some ⟨oc, od, .func fd, osl⟩
theorem FnV.same {K : PySem.W.Frag} {H H' : Hp} {f : Addr} {fd : FuncData} (h : FnV K H f fd) (s : Same H H') : FnV K H' f fd := by
  rcases h with ⟨fo, k0, h1, h2⟩ | h
  · exact .inl ⟨fo, k0, s _ _ h1, h2⟩
  · exact .inr h
theorem FnV.at {pins : List (Addr × Obj)} {σ : St} {H : Hp} {s : Shared} {f : Addr} {fd : FuncData} (I : Inv X pins σ H s) (h : FnV X.K H f fd) : PySem.W.FnAt f s.heap := by
  rcases h with ⟨fo, k0, h1, h2⟩ | ⟨oc, od, osl, h⟩
  · obtain ⟨z, _⟩ := I.hok f _ h1
    obtain ⟨oc, od, dt, sl⟩ := fo
    cases (show dt = Data.func fd from h2)
    exact ⟨oc, od, fd, sl, z⟩
  · exact ⟨oc, od, fd, osl, I.kIn _ _ h⟩
def tCallw (K : PySem.W.Frag) (R : Addr → FuncData → Prop) (sp : Addr → FuncData → Sp) (tf : TE) (t : TA) : TE := fun σ H Q => tf σ H fun v H1 => ∃ f fd, v = .ref f ∧ FnV K H1 f fd ∧ R f fd ∧ t σ H1 fun vs H2 => FnV K H2 f fd ∧ sp f fd vs H2 Q E0
theorem pe_callw {x : Str} {p pos : Pos} {e : Expr} {es : List Expr} {tf : TE} {t : TA} {k : Nat} {ps : List Str} {R : Addr → FuncData → Prop} {sp : Addr → FuncData → Sp} (hfe : PE X (.Name x p) tf)
    (G : ∀ f fd, R f fd → FnOk X.prog X.w X.K X.mg X.base CX0 k f fd ps (sp f fd)) (hb : ∀ f fd, R f fd → Binds X.K fd ps []) (hr : Room k X.A) (ha : PA X (e :: es) t)
    (he : starEach (e :: es) X.env = (false, eval e X.env) :: starEach es X.env := by rfl) (hpl : (backTo pos (starEach es X.env)).any (·.1) = false := by rfl) :
    PE X (.Call (.Name x p) (e :: es) [] pos) (tCallw X.K R sp tf t) := by
  intro pins s σ H Q I h
  refine wpAny_Call_Name_kw (thn (hfe pins s σ H _ I h) fun u s1 ⟨v, H1, I1, r, f, fd, ev, hz, hR, q⟩ => ?_)
  subst ev
  cases (show u = Value.ref f from r)
  refine PySem.W.callWith_F (hz.at I1) (thn (ha pos pins s1 σ H1 _ I1 q) fun us s2 ⟨vs, H2, I2, r2, hz2, q2⟩ => ⟨hz2.at I2, ?_⟩) he hpl
  exact run_fn (dvs := []) (ds := []) (G f fd hR) hr (hb f fd hR) .nil pass0 I2 r2 (by rw [List.append_nil]; exact q2)
end
structure DfMd (K : PySem.W.Frag) (C : Addr) (m qual : Str) (st : Stmt) (ps : List Str) (ds : List Value) where
  f : Addr
  fd : FuncData
  ex : ∃ (oc : Value) (od : Option Addr) (dV kV doc pm : Value) (an : Option Addr) (cdv ct : Value) (osl : Array (Option Value)),
    fd = PySem.W.fnOf m qual (defArgs st) (defBody st) (defScope st) dV kV doc pm an cdv ct ∧ K.lookup f = some ⟨oc, od, .func fd, osl⟩ ∧ PySem.W.codeIn K cdv qual = true
  me : Meth K C m f
  b : Binds K fd ps []
  bd : Binds K fd ps ds
theorem DfMd.ok {P : Program} {w : World} {K : PySem.W.Frag} {mg : Str → Option Value} {base : Heap} {C : Addr} {x qual : Str} {st : Stmt} {N ps : List Str} {ds : List Value} {k : Nat} {sp : Sp} (D : DfMd K C x qual st ps ds) (S : FnScope N ps (defScope st)) (len : ∀ vs H Q E, sp vs H Q E → vs.length = ps.length)
    (hbody : ∀ (cdv : Value) (A : Around) (outer : List Env) (s : Shared) (H : Hp) (vs : List V) (Q : VK) (E : XK), Room k (A.deeper (envOfC qual (defScope st) s.heap.objs.size D.f cdv)) → sp vs H Q E →
      ∃ t, PSs (cxOf CX0 P w K mg base N qual (defScope st) D.f cdv A outer s H E).nox (defBody st) t ∧ t { nx := fun _ H' => Q .non H', rt := Q } (start N vs) H) : FnOk P w K mg base CX0 (k + 1) D.f D.fd ps sp := by
  obtain ⟨f, fd, ⟨oc, od, dV, kV, doc, pm, an, cdv, ct, osl, rfl, lk, hcd⟩, me, b, bd⟩ := D
  refine fn_of lk hcd S len fun A outer s H vs Q E hr hsp => ?_
  obtain ⟨t, h, q⟩ := hbody cdv A outer s H vs Q E hr hsp
  exact ⟨t, h.nox, q⟩
end L2
set_option Elab.async false
set_option linter.all false
set_option maxRecDepth 100000
namespace L2
open PySem PySem.Spec PyProof.Rows
def sortK (key : Int → Int) (ns : List Int) : List Int := ns.mergeSort (fun a b => decide (key a ≤ key b))
theorem sortK_perm (key : Int → Int) (ns : List Int) : (sortK key ns).Perm ns := List.mergeSort_perm _ _
theorem sortK_sorted (key : Int → Int) (ns : List Int) : (sortK key ns).Pairwise (fun a b => key a ≤ key b) := by
  have h := List.pairwise_mergeSort (le := fun a b : Int => decide (key a ≤ key b)) (by intro a b c h1 h2; simp at *; omega) (by intro a b; simp; omega) ns
  exact h.imp fun h => by simpa using h
theorem sortedK_eq {key : Int → Int} : ∀ {a b : List Int}, a.Perm b → (∀ x ∈ b, ∀ y ∈ b, key x = key y → x = y) → a.Pairwise (fun x y => key x ≤ key y) → b.Pairwise (fun x y => key x ≤ key y) → a = b
  | [], b, p, _, _, _ => (List.nil_perm.mp p).symm
  | x :: r, [], p, _, _, _ => absurd p.symm (by intro z; exact absurd (List.nil_perm.mp z) (by simp))
  | x :: r, y :: q, p, hj, h1, h2 => by
    obtain ⟨hx, hr⟩ := List.pairwise_cons.mp h1
    obtain ⟨hy, hq⟩ := List.pairwise_cons.mp h2
    have e : x = y := by
      have m1 : x ∈ y :: q := p.subset (.head _)
      have m2 : y ∈ x :: r := p.symm.subset (.head _)
      refine hj x m1 y (.head _) ?_
      rcases List.mem_cons.mp m1 with e | m1
      · rw [e]
      · rcases List.mem_cons.mp m2 with e | m2
        · rw [e]
        · have := hx y m2
          have := hy x m1
          omega
    subst e
    rw [sortedK_eq (List.Perm.cons_inv p) (fun u hu v hv => hj u (.tail _ hu) v (.tail _ hv)) hr hq]
theorem sortK_of {key : Int → Int} {a b : List Int} (p : a.Perm b) (hj : ∀ x ∈ b, ∀ y ∈ b, key x = key y → x = y) (h : a.Pairwise (fun x y => key x ≤ key y)) : a = sortK key b :=
  sortedK_eq (p.trans (sortK_perm key b).symm) (fun x hx y hy => hj x ((sortK_perm key b).subset hx) y ((sortK_perm key b).subset hy)) h (sortK_sorted key b)
theorem sortK_len (key : Int → Int) (ns : List Int) : (sortK key ns).length = ns.length := (sortK_perm key ns).length_eq
theorem ints_inj {vs : List Value} {a b : List Int} (h1 : IntsAre vs a) (h2 : IntsAre vs b) : a = b := h1.nums.symm.trans h2.nums
theorem pairs_ints {key : Int → Int} : ∀ {ps : List (Int × Value)}, (∀ p ∈ ps, ∃ n t, p = (key n, .int n t)) → ∃ ns, IntsAre (ps.map Prod.snd) ns ∧ ps.map Prod.fst = ns.map key
  | [], _ => ⟨[], .nil, rfl⟩
  | p :: r, h => by
    obtain ⟨n, t, rfl⟩ := h p (.head _)
    obtain ⟨ns, h1, h2⟩ := pairs_ints (ps := r) fun q hq => h q (.tail _ hq)
    exact ⟨n :: ns, .cons n t h1, by rw [List.map_cons, List.map_cons, h2]⟩
theorem zip_pairs {key : Int → Int} : ∀ {vs : List Value} {ns : List Int}, IntsAre vs ns → ∀ p ∈ (ns.map key).zip vs, ∃ n t, p = (key n, Value.int n t)
  | _, _, .nil, p, hp => by simp at hp
  | _, _, .cons n t h, p, hp => by
    rw [List.map_cons, List.zip_cons_cons] at hp
    rcases List.mem_cons.mp hp with rfl | hp
    · exact ⟨n, t, rfl⟩
    · exact zip_pairs h p hp
theorem out_sortK {key : Int → Int} {vs out : List Value} {ns : List Int} (hi : IntsAre vs ns) (hj : ∀ x ∈ ns, ∀ y ∈ ns, key x = key y → x = y) (h : KskOut false (ns.map key) vs out) : IntsAre out (sortK key ns) := by
  obtain ⟨ps, hp, rfl, ho⟩ := h
  obtain ⟨ms, h1, h2⟩ := pairs_ints (ps := ps) fun p q => zip_pairs hi p (hp.subset q)
  have pv : (ps.map Prod.snd).Perm vs := by
    have := hp.map Prod.snd
    rw [List.map_snd_zip (by rw [List.length_map]; exact Nat.le_of_eq hi.length)] at this
    exact this
  obtain ⟨ls, h3, h4⟩ := ints_perm pv hi
  have e := ints_inj h1 h3
  subst e
  have e2 := sortK_of h4 hj (by
    have z : (ps.map Prod.fst).Pairwise (· ≤ ·) := by
      rw [List.pairwise_map]
      exact ho.imp fun h => by simpa using h
    rw [h2, List.pairwise_map] at z
    exact z)
  rw [← e2]
  exact h1
theorem endK {P : Program} {w : World} {A : Around} {E : Value → Shared → Prop} {s : Shared} {a kS : Addr} {vs : List Value} {kz : List Int} {keys : Array Value} {e e1 : Nat} {Q : PySem.Fin → Shared → Prop} (ho : s.heap.get? a = some (seqObj "list" #[] e1)) (hs : s.heap.get? kS = some (seqObj "list" keys e)) (hne : kS ≠ a)
    (hk : IntsAre keys.toList kz) (hlen : kz.length = vs.length) (h64 : vs.length < 64)
    (q : ∀ (h' : Heap) (out : Array Value), (∀ b o, b ≠ a → b ≠ kS → s.heap.get? b = some o → h'.get? b = some o) → (∃ c, h'.get? a = some (seqObj "list" out c)) → (∃ o, h'.get? kS = some o) → KskOut false kz vs out.toList → Q (.done (.ret .none)) { s with heap := h' }) :
    wpAny (model P w) A (ksk_end a false vs.toArray e1 (.ref kS) keys) Q E s := by
  have hsz : keys.size = vs.length := by
    have z := hk.length
    rw [Array.length_toList] at z
    omega
  have hzs : (keys.zip vs.toArray).size = vs.length := by rw [Array.size_zip, hsz, List.size_toArray, Nat.min_self]
  have tail : ∀ st : SortSt, (arrOf st).Perm (keys.zip vs.toArray) → SortedTo (arrOf st) (arrOf st).size → failedOf st = none → wpAny (model P w) A (ksk_tail a false e1 (.ref kS) st) Q E s := by
    intro st hp hso hf
    have zo : (arrOf st).size = vs.length := by rw [hp.size_eq, hzs]
    unfold ksk_tail
    dsimp only
    refine wpAny_bind (listUpdate_at hs rfl ?_ (by rw [hsz, sizeLine_eq]; omega) (Nat.zero_le _))
    refine wpAny_bind (wpAny_letGo ?_)
    have oth1 : ∀ b, b ≠ kS → (s.heap.update kS (Obj.mapSeq fun _ => (#[] : Array Value))).get? b = s.heap.get? b := fun b hb => Heap.get?_update_ne _ _ _ _ hb
    have ho1 : (s.heap.update kS (Obj.mapSeq fun _ => (#[] : Array Value))).get? a = some (seqObj "list" #[] e1) := by rw [oth1 a hne.symm]; exact ho
    have hs1 := get?_update_seq hs (fun _ => (#[] : Array Value))
    generalize s.heap.update kS (Obj.mapSeq fun _ => (#[] : Array Value)) = h1 at oth1 ho1 hs1 ⊢
    refine wpAny_bind (seqEpoch_at ho1 rfl ?_)
    refine wpAny_bind (listUpdate_at ho1 rfl ?_ (Nat.zero_le _) (by simp only [Bool.false_eq_true, if_false, Array.size_map, zo, sizeLine_eq]; omega))
    have ho2 := get?_update_seq ho1 (fun _ => if (false : Bool) = true then (Array.map (fun x : Keyed => x.2) (arrOf st)).reverse else Array.map (fun x : Keyed => x.2) (arrOf st))
    have oth2 : ∀ b, b ≠ a → (h1.update a (Obj.mapSeq fun _ => if (false : Bool) = true then (Array.map (fun x : Keyed => x.2) (arrOf st)).reverse else Array.map (fun x : Keyed => x.2) (arrOf st))).get? b = h1.get? b := fun b hb => Heap.get?_update_ne _ _ _ _ hb
    rw [hf]
    simp only [bne_self_eq_false]
    rw [if_neg Bool.false_ne_true]
    refine wpAny_pure (q _ _ (fun b o hb hb2 eb => ?_) ⟨_, ho2⟩ ⟨_, (oth2 kS hne).trans hs1⟩ (ksk_out (b := false) hk hp hso))
    rw [oth2 b hb, oth1 b hb2]
    exact eb
  unfold ksk_end
  dsimp only
  rw [if_neg Bool.false_ne_true]
  by_cases h2 : vs.toArray.size < 2
  · rw [if_pos h2, if_pos h2]
    refine wpAny_bind (wpAny_pure ?_)
    rw [StateT.run_pure]
    refine wpAny_bind (wpAny_pure ?_)
    refine tail _ (Array.Perm.refl _) ?_ rfl
    intro i j hij hj
    have hj2 : j < (keys.zip vs.toArray).size := hj
    rw [hzs] at hj2
    rw [List.size_toArray] at h2
    have : i = j := by omega
    subst this
    exact Int.le_refl _
  · rw [if_neg h2, if_neg h2]
    rw [List.size_toArray] at h2
    rw [ksk_kind hk (by rw [hsz]; omega)]
    refine wpAny_bind (wpAny_pure ?_)
    refine wpAny_bind (wpAny_mono (wpS_sortRuns (a₀ := keys.zip vs.toArray) (st := SortSt.mk' oneType' (keys.zip vs.toArray) #[] 7 none) (Q := fun _ z => (arrOf z).Perm (keys.zip vs.toArray) ∧ failedOf z = none ∧ SortedTo (arrOf z) (keys.zip vs.toArray).size)
      (ksk_intKeys hk) ⟨Array.Perm.refl _, rfl, rfl, rfl⟩ (by rw [hzs]; omega) (by rw [hzs]; exact h64) fun z a1 a2 a3 => ⟨a1, a2, a3⟩) ?_ fun _ _ z => z)
    rintro ⟨⟨⟩, z⟩ s' ⟨rfl, hp, hf, hso⟩
    exact tail z hp (by rw [hp.size_eq]; exact hso) hf
section
variable {X : Cx}
theorem turnedAt {pins : List (Addr × Obj)} {σ : St} {H : Hp} {s : Shared} {it : Addr} {o : Obj} {h' : Heap} {t' : Nat} (I : Inv X pins σ H s) (k : ∀ b, b ≠ it → h'.get? b = s.heap.get? b) (hn : H it = none) (hL : it ≠ X.env.locals) (h1 : X.s₀.heap.objs.size ≤ it) (ho : s.heap.get? it = some o) (hd : ∀ v, o.data ≠ .cell v)
    (h3 : ∀ p ∈ X.pn ++ pins, p.1 ≠ it) : Inv X pins σ H { s with heap := h', toks := t' } := by
  refine I.turned (fun b o hb e => (k b hb).trans e) hn hL (.inr h1) (fun x c e z => ?_) h3
  obtain ⟨v, oc, hc, hdc⟩ := I.cell x c e
  rw [z, ho] at hc
  cases hc
  exact hd _ hdc
theorem sorted_key {pins : List (Addr × Obj)} {σ : St} {H : Hp} {s : Shared} {p f : Addr} {ns : List Int} {key : Int → Int} {R : Hp → Prop} {Q : VK} (I : Inv X pins σ H s) (hq : SqL X.K H p (ns.map V.int)) (hl : ns.length < 64) (hj : ∀ x ∈ ns, ∀ y ∈ ns, key x = key y → x = y)
    (hR : R H) (turn : ∀ (pl : List (Addr × Obj)) (s' : Shared) (H' : Hp) (n : Int) (t : Tok), n ∈ ns → Inv X pl σ H' s' → R H' → wpAny (model X.prog X.w) X.A.in1.in1 (call (.ref f) [.int n t]) (EP X pl σ fun v H2 => v = .int (key n) ∧ R H2) (fun _ _ => False) s')
    (q : ∀ H' l, R H' → H' l = none → H l = none → Q (.ref l) (upd H' l (.lst ((sortK key ns).map V.int)))) :
    wpAny (model X.prog X.w) X.A (call (.builtin "sorted") [.ref p] [(Str.ofString "key", .ref f)]) (EP X pins σ Q) X.xe s := by
  obtain ⟨vs, rv, pl, hz⟩ := I.list hq
  have hi : IntsAre vs ns := intsAre_of rv
  have hlen := hi.length
  have hsl : vs.length ≤ sizeLine := by rw [sizeLine_eq]; omega
  refine call_function_entry_kw kind_sorted plain_sorted entry_sorted (ksk_s1 _ _) ?_
  unfold Builtin.«sorted»
  refine wpAny_bind (m := checkCount "sorted" 1 1 _) (wpAny_pure ?_)
  refine wpAny_bind (collect_list pl.isList ?_ hsl)
  refine wpAny_bind (wpAny_newList ?_ hsl)
  have z0 : ((s.heap.push (seqObj "list" #[] 0)).update s.heap.objs.size (Obj.mapSeq (· ++ vs.toArray))).objs.size = s.heap.objs.size + 1 := by rw [Heap.size_update, size_push']
  have k0 : ∀ b o, s.heap.get? b = some o → ((s.heap.push (seqObj "list" #[] 0)).update s.heap.objs.size (Obj.mapSeq (· ++ vs.toArray))).get? b = some o := fun b o e => by
    rw [Heap.get?_update_ne _ _ _ _ (Nat.ne_of_lt (Heap.lt_size e))]
    exact Heap.get?_push_of_some _ e
  generalize ((s.heap.push (seqObj "list" #[] 0)).update s.heap.objs.size (Obj.mapSeq (· ++ vs.toArray))) = h0 at z0 k0 ⊢
  obtain ⟨a, ea⟩ : ∃ a, a = h0.objs.size := ⟨_, rfl⟩
  obtain ⟨h1, eh1⟩ : ∃ h1, h1 = h0.push (seqObj "list" vs.toArray 0) := ⟨_, rfl⟩
  show wpAny _ _ _ _ _ { s with heap := h0.push (seqObj "list" vs.toArray 0) }
  rw [← eh1]
  have hoL : h1.get? a = some (seqObj "list" vs.toArray 0) := by rw [eh1, ea]; exact Heap.get?_push_size _ rfl
  have z1 : h1.objs.size = h0.objs.size + 1 := by rw [eh1]; exact size_push' _ _
  have k1 : ∀ b o, s.heap.get? b = some o → h1.get? b = some o := fun b o e => by rw [eh1]; exact Heap.get?_push_of_some _ (k0 _ _ e)
  have la : s.heap.objs.size ≤ a := by rw [ea, z0]; exact Nat.le_succ _
  rw [← ea]
  refine wpAny_bind (wpAny_holding (wpAny_call_entry_kw slot_list_sort ⟨_, hoL, rfl⟩ entry_list_sort ?body (ksk_l1 _ _)))
  show wpAny (model X.prog X.w) X.A.in1.in1 (Builtin.«list.sort» ⟨[.ref a], [(Str.ofString "key", .ref f)]⟩) _ _ _
  rw [ksk_t1]
  unfold ksk_tree
  refine wpAny_bind (listItems_at hoL rfl ?_)
  refine wpAny_bind (listUpdate_at hoL rfl ?_ (by rw [List.size_toArray]; exact hsl) (Nat.zero_le _))
  obtain ⟨e1, ho1⟩ : ∃ e1, (h1.update a (Obj.mapSeq fun _ => (#[] : Array Value))).get? a = some (seqObj "list" #[] e1) := ⟨_, get?_update_seq hoL fun _ => #[]⟩
  have k2 : ∀ b o, s.heap.get? b = some o → (h1.update a (Obj.mapSeq fun _ => (#[] : Array Value))).get? b = some o := fun b o e => by
    rw [Heap.get?_update_ne _ _ _ _ (Nat.ne_of_lt (Nat.lt_of_lt_of_le (Heap.lt_size e) la))]
    exact k1 _ _ e
  have z2 : (h1.update a (Obj.mapSeq fun _ => (#[] : Array Value))).objs.size = a + 1 := by rw [Heap.size_update, z1, ea]
  show wpAny _ _ _ _ _ { s with heap := h1.update a (Obj.mapSeq fun _ => (#[] : Array Value)) }
  generalize h1.update a (Obj.mapSeq fun _ => (#[] : Array Value)) = h2 at ho1 k2 z2 ⊢
  refine wpAny_bind (seqEpoch_at ho1 rfl ?_)
  refine wpAny_bind (wpAny_newTuple ?_ (by show vs.length ≤ _; exact hsl))
  refine wpAny_bind (wpAny_newList ?_ (Nat.zero_le _))
  refine wpAny_holding ?_
  obtain ⟨h3, eh3⟩ : ∃ h3, h3 = h2.push (seqObj "tuple" vs.toArray 0) := ⟨_, rfl⟩
  show wpAny _ _ (ksk_rest a (.ref f) false vs.toArray e1 (.ref (h2.push (seqObj "tuple" vs.toArray 0)).objs.size)) _ _ { s with heap := (h2.push (seqObj "tuple" vs.toArray 0)).push (seqObj "list" #[] 0) }
  rw [← eh3]
  have z3 : h3.objs.size = a + 2 := by rw [eh3, size_push', z2]
  have k3 : ∀ b o, h2.get? b = some o → (h3.push (seqObj "list" #[] 0)).get? b = some o := fun b o e => by rw [eh3]; exact Heap.get?_push_of_some _ (Heap.get?_push_of_some _ e)
  have hs3 : (h3.push (seqObj "list" #[] 0)).get? h3.objs.size = some (seqObj "list" #[] 0) := Heap.get?_push_size _ rfl
  obtain ⟨kS, ekS⟩ : ∃ kS, kS = h3.objs.size := ⟨_, rfl⟩
  rw [← ekS] at hs3 ⊢
  have hne : kS ≠ a := by omega
  have lk : s.heap.objs.size ≤ kS := by omega
  generalize h3.push (seqObj "list" #[] 0) = h4 at k3 hs3 ⊢
  have I4 : Inv X pins σ H { s with heap := h4, toks := s.toks } := I.kept fun b o e => k3 _ _ (k2 _ _ e)
  have ho4 := k3 _ _ ho1
  have aL : a ≠ X.env.locals := Nat.ne_of_gt (Nat.lt_of_lt_of_le I.lt la)
  have kL : kS ≠ X.env.locals := Nat.ne_of_gt (Nat.lt_of_lt_of_le I.lt lk)
  have pinOk : ∀ (s' : Shared) (H' : Hp) (kA : Array Value) (e : Nat), s'.heap.get? kS = some (seqObj "list" kA e) → s'.heap.get? a = some (seqObj "list" #[] e1) → H' kS = none → H' a = none → Inv X pins σ H' s' → Inv X (pins ++ [(kS, seqObj "list" kA e), (a, seqObj "list" #[] e1)]) σ H' s' := fun s' H' kA e g1 g2 g3 g4 J => by
    refine J.pins_of fun x hx => ?_
    rcases List.mem_append.mp hx with z | z
    · exact J.pin x (List.mem_append_right _ z)
    · rcases List.mem_cons.mp z with rfl | z
      · exact ⟨g1, g3, kL, I.nofs lk, fun v z => by cases z⟩
      · rw [List.mem_singleton.mp z]
        exact ⟨g2, g4, aL, I.nofs la, fun v z => by cases z⟩
  unfold ksk_rest
  refine wpAny_bind (wpAny_rule ?_)
  rw [← Array.forIn_toList]
  simp only [List.toList_toArray]
  refine wpAny_bind (ksk_fold (fun i s' => ∃ H' kA e, Inv X (pins ++ [(kS, seqObj "list" kA e), (a, seqObj "list" #[] e1)]) σ H' s' ∧ R H' ∧ IntsAre kA.toList ((ns.map key).take i)) vs 0 _
    ⟨H, #[], 0, pinOk _ _ _ _ hs3 ho4 (I.hok.fresh lk) (I.hok.fresh la) I4, hR, by simpa using IntsAre.nil⟩ ?step ?done)
  case step =>
    rintro j x s' hx ⟨H', kA, e, J, hR', hk⟩
    simp only [Nat.zero_add] at hk ⊢
    have hjl : j < vs.length := (List.getElem?_eq_some_iff.mp hx).1
    obtain ⟨n, hn⟩ : ∃ n, ns[j]? = some n := ⟨_, List.getElem?_eq_getElem (by omega)⟩
    obtain ⟨u, hu, t, rfl⟩ := rv.get (i := j) (x := .int n) (by rw [List.getElem?_map, hn]; rfl)
    rw [hx] at hu
    cases hu
    have hzk : kA.size ≤ vs.length := by
      have y := hk.length
      rw [Array.length_toList, List.length_take, List.length_map] at y
      omega
    refine wpAny_bind (wpAny_attempt (wpAny_mono (turn _ s' H' n t (List.mem_of_getElem? hn) J hR') (fun v s'' he => ?_) fun _ _ z => z.elim))
    obtain ⟨v', H2, J2, r2, rfl, hR2⟩ := he
    obtain ⟨t2, rfl⟩ := r2
    have gk := J2.pin (kS, seqObj "list" kA e) (List.mem_append_right _ (List.mem_append_right _ (.head _)))
    have ga := J2.pin (a, seqObj "list" #[] e1) (List.mem_append_right _ (List.mem_append_right _ (.tail _ (.head _))))
    obtain ⟨c2, hc2⟩ : ∃ c2, (s''.heap.update kS (Obj.mapSeq (·.push (.int (key n) t2)))).get? kS = some (seqObj "list" (kA.push (.int (key n) t2)) c2) := ⟨_, get?_update_seq gk.1 (·.push (.int (key n) t2))⟩
    refine wpAny_bind (listUpdate_at gk.1 rfl ?_ (by rw [sizeLine_eq]; omega) (Nat.le_trans (Nat.le_of_eq (Array.size_push ..)) (by rw [sizeLine_eq]; omega)))
    have othr : ∀ b, b ≠ kS → (s''.heap.update kS (Obj.mapSeq (·.push (.int (key n) t2)))).get? b = s''.heap.get? b := fun b hb => Heap.get?_update_ne _ _ _ _ hb
    generalize s''.heap.update kS (Obj.mapSeq (·.push (.int (key n) t2))) = h5 at hc2 othr ⊢
    have J3 : Inv X pins σ H2 { s'' with heap := h5, toks := s''.toks } := turnedAt J2.unpinned othr gk.2.1 kL (Nat.le_trans I.sz lk) gk.1 (fun v z => by cases z) fun x hx => Nat.ne_of_lt (Nat.lt_of_lt_of_le (Heap.lt_size (I.pin x hx).1) lk)
    refine wpAny_pure ⟨rfl, H2, kA.push (.int (key n) t2), c2, pinOk _ _ _ _ hc2 ((othr a hne.symm).trans ga.1) gk.2.1 ga.2.1 J3, hR2, ?_⟩
    have ek : (ns.map key).take (j + 1) = (ns.map key).take j ++ [key n] := by rw [List.take_add_one, List.getElem?_map, hn]; rfl
    rw [Array.toList_push, ek]
    exact ksk_snoc hk
  case done =>
    rintro s' ⟨H', kA, e, J, hR', hk⟩
    have hk' : IntsAre kA.toList (ns.map key) := by
      rw [List.take_of_length_le (by rw [List.length_map]; omega)] at hk
      exact hk
    have gk := J.pin (kS, seqObj "list" kA e) (List.mem_append_right _ (List.mem_append_right _ (.head _)))
    have ga := J.pin (a, seqObj "list" #[] e1) (List.mem_append_right _ (List.mem_append_right _ (.tail _ (.head _))))
    refine wpAny_bind (listItems_at gk.1 rfl ?_)
    refine endK ga.1 gk.1 hne hk' (by rw [List.length_map]; exact hlen.symm) (by omega) fun h' out kp ⟨c, hc⟩ ⟨o, hko⟩ ko => ⟨_, rfl, ?_⟩
    have hout := out_sortK hi hj ko
    have n2 : ∀ x ∈ X.pn ++ pins, x.1 ≠ a ∧ x.1 ≠ kS := fun x hx => have y := Heap.lt_size (I.pin x hx).1; ⟨Nat.ne_of_lt (Nat.lt_of_lt_of_le y la), Nat.ne_of_lt (Nat.lt_of_lt_of_le y lk)⟩
    have J3 : Inv X pins σ (upd H' a (.lst ((sortK key ns).map V.int))) { s' with heap := h', toks := s'.toks } := by
      have cel : ∀ d od, s'.heap.get? d = some od → (∀ v, od.data ≠ .cell v) → ∀ x c, X.env.cells.lookup x = some c → c ≠ d := fun d od hd hn x c e z => by
        obtain ⟨v, oc, hcc, hdc⟩ := J.cell x c e
        rw [z, hd] at hcc
        cases hcc
        exact hn _ hdc
      have up : ∀ b u, H' b = some u → (upd H' a (.lst ((sortK key ns).map V.int))) b = some u := fun b u e => by
        rw [upd_ne (fun z => by rw [z, ga.2.1] at e; cases e)]
        exact e
      have nin : ∀ b : Addr, b ∉ [a, kS] → b ≠ a ∧ b ≠ kS := fun b hb => ⟨fun z => hb (by simp [z]), fun z => hb (by simp [z])⟩
      have trk : ∀ b u, H' b = some u → b ≠ a ∧ b ≠ kS := fun b u e => ⟨fun z => by (rw [z, ga.2.1] at e; cases e), fun z => by (rw [z, gk.2.1] at e; cases e)⟩
      refine J.unpinned.step (g' := s'.gens) (d' := s'.drawn) (ch := [a, kS]) (fun b hb => ?_) (fun b o _ _ hb e _ => kp b o (nin b hb).1 (nin b hb).2 e) (fun b o _ _ hb e _ => ⟨o.slots, kp b o (nin b hb).1 (nin b hb).2 e⟩) (fun b o hb e n => by rw [upd_ne (nin b hb).1]; exact n)
        (fun b o hb e => ⟨o, kp b o (nin b hb).1 (nin b hb).2 e⟩) (fun b xs e => up b _ e) (fun b o u e => up b _ e) (fun b ps e => ⟨#[], by rw [up b _ e]; simp⟩) (fun m hm => ?_) (fun b u e => ?_) J.bare
      · rcases List.mem_cons.mp hb with rfl | hb
        · exact ⟨.inr (Nat.le_trans I.sz la), aL, cel _ _ ga.1 (fun v z => by cases z), fun x hx => (n2 x hx).1⟩
        · rw [List.mem_singleton.mp hb]
          exact ⟨.inr (Nat.le_trans I.sz lk), kL, cel _ _ gk.1 (fun v z => by cases z), fun x hx => (n2 x hx).2⟩
      · obtain ⟨o, es, ep, ho, r⟩ := hm
        exact ⟨o, es, ep, kp _ o aL.symm kL.symm ho, r⟩
      · by_cases hb : b = a
        · subst hb
          rw [upd_same] at e
          cases e
          exact ⟨by rw [List.length_map, sortK_len, sizeLine_eq]; omega, out.toList, c, vals_ints hout, hc⟩
        · rw [upd_ne hb] at e
          refine (J.hok b u e).stay (fun d v hd qd => ?_) (fun d qd => up d _ qd) fun d xs qd => up d _ qd
          have y : d ≠ a ∧ d ≠ kS := by
            rcases hd with z | z
            · rw [z]; exact trk b u e
            · exact trk d _ z
          exact kp d v y.1 y.2 qd
    exact wpAny_pure ⟨_, rfl, .ref a, _, J3, rfl, q H' a hR' ga.2.1 (I.hok.fresh la)⟩
end
end L2
set_option Elab.async false
set_option linter.all false
set_option maxRecDepth 100000
namespace L2
open PySem PySem.Spec PyProof.Rows
structure LmShape (name qual : Str) (params : Arguments) (body : Expr) (scope : Scope) (cells : List (Str × Addr)) (fo : Obj) (clos : List (Str × Addr)) (c' : Addr) : Prop where
  ob : ∃ pm ctv, fo = PySem.W.kla_obj name qual params body scope clos pm c' ctv
  sub : ∀ x c, clos.lookup x = some c → cells.lookup x = some c
  free : ∀ x c, clos.lookup x = some c → (x, NameKind.free) ∈ scope.names
  all : ∀ y ∈ scope.names, y.2 = .free → ∃ c, clos.lookup y.1 = some c
  inj : ∀ x y c, clos.lookup x = some c → clos.lookup y = some c → x = y
structure LamV (H : Hp) (f : Addr) (name qual : Str) (params : Arguments) (body : Expr) (scope : Scope) (fr : List Str) (cv : List V) (fd : FuncData) : Prop where
  ex : ∃ fo cells clos c' oc k k', H f = some (.frz fo k) ∧ LmShape name qual params body scope cells fo clos c' ∧ fo.data = .func fd ∧ fd.closure = clos ∧ fd.code = .ref c' ∧ H c' = some (.frz oc k') ∧ CodeShape oc qual ∧
    ∀ (i : Nat) x v, fr[i]? = some x → cv[i]? = some v → ∃ c, clos.lookup x = some c ∧ CellV H c v
theorem LamV.same {H H' : Hp} {f : Addr} {name qual : Str} {params : Arguments} {body : Expr} {scope : Scope} {fr : List Str} {cv : List V} {fd : FuncData} (x : LamV H f name qual params body scope fr cv fd) (h : ∀ a o k, H a = some (.frz o k) → H' a = some (.frz o k)) :
    LamV H' f name qual params body scope fr cv fd := by
  obtain ⟨fo, cells, clos, c', oc, k, k', e1, s, e2, e3, e4, e5, cs, hv⟩ := x.ex
  exact ⟨fo, cells, clos, c', oc, k, k', h _ _ _ e1, s, e2, e3, e4, h _ _ _ e5, cs, fun i y v a b => let ⟨c, q, z⟩ := hv i y v a b; ⟨c, q, z.same fun o k => h c o k⟩⟩
def tLam (cells : List (Str × Addr)) (P : Addr) (name qual : Str) (params : Arguments) (body : Expr) (scope : Scope) (pos : Pos) : TE := fun σ H Q => ∃ ps, H P = some (.tbl ps) ∧ TriplesOk ps.toList ∧
  ((codeAmong pos ps.toList = none ∧ ∀ f c' fo oc clos, H f = none → H c' = none → f ≠ c' → f ≠ P → c' ≠ P → LmShape name qual params body scope cells fo clos c' → CodeShape oc qual →
      Q (.ref f) (upd (upd (upd H P (.tbl (ps ++ #[rawInt pos.line, rawInt pos.col, .ref c']))) c' (.frz oc (.own c'))) f (.frz fo (.own f)))) ∨
   (∃ c' oc k, codeAmong pos ps.toList = some (.ref c') ∧ H c' = some (.frz oc k) ∧ CodeShape oc qual ∧ ∀ f fo clos, H f = none → LmShape name qual params body scope cells fo clos c' → Q (.ref f) (upd H f (.frz fo (.own f)))))
section
variable {X : Cx}
theorem pe_lam {params : Arguments} {body : Expr} {scope : Scope} {pos : Pos} {c P : Addr} (hcode : X.env.code = .ref c) (hC : PySem.W.CodeHd X.base c P) (hB : X.base.BuiltinsAt X.mg P)
    (hfr : ∀ y ∈ scope.names, y.2 = .free → X.env.kindOf y.1 = some .cell ∨ X.env.kindOf y.1 = some .free) (hdef : defaultsOf params X.env = ([], []) := by rfl) :
    PE X (.Lambda params body scope pos) (tLam X.env.cells P "<lambda>" (X.env.qual ++ "<lambda>") params body scope pos) := by
  intro pins s σ H Q I h
  obtain ⟨ps, hP, ht, h⟩ := h
  obtain ⟨cl, hclos, hcl, hcl2, hcl3⟩ := closureFor_all (scope := scope) (env := X.env) (fun y hy hf => I.ok.has y.1 (hfr y hy hf))
  have hPo : s.heap.get? P = some (PySem.W.tabObj ps) := I.hok P _ hP
  have hg : s.heap.Ns mainGlobals X.mg := I.ok.mod.glob.keeps I.bk
  have hgP : mainGlobals ≠ P := fun q => by
    obtain ⟨o, es, ep, e, hd, _⟩ := hg
    rw [q, hPo] at e
    cases e
    cases hd
  have hBs : s.heap.BuiltinsAt X.mg P := by
    obtain ⟨bm, o, a1, a2, a3, a4, a5, a6⟩ := hB
    exact ⟨bm, o, a1, a2, a3, a4, I.bk _ _ a5, a6⟩
  have hsh : ∀ {ctv : Value} {c' : Addr}, LmShape "<lambda>" (X.env.qual ++ "<lambda>") params body scope X.env.cells (PySem.W.kla_obj "<lambda>" (X.env.qual ++ "<lambda>") params body scope cl ((X.mg "__name__").getD .none) c' ctv) cl c' :=
    fun {ctv c'} => ⟨⟨_, ctv, rfl⟩, hcl, hcl3, hcl2, fun x y d h1 h2 => I.ok.inj x y d (hcl x d h1) (hcl y d h2)⟩
  refine PySem.W.kla_eval hdef ?_
  rcases h with ⟨hnone, h⟩ | ⟨c', oc, k, hsome, hc', hcs, h⟩
  · refine PySem.W.kla_makeFunction hclos I.ok.glob hg hcode (hC.keeps I.bk) hPo ht hnone hgP hBs fun c' ctv h' tk hx' hge hlt hrec htb => ?_
    obtain ⟨c2, oc, vs, t, e2, hoc, hdc, hvc⟩ := hrec
    cases e2
    have fr1 : H c' = none := I.hok.fresh hge
    have fr2 : H h'.objs.size = none := I.hok.fresh (Nat.le_trans hge (Nat.le_of_lt hlt))
    have n1 : h'.objs.size ≠ c' := Nat.ne_of_gt hlt
    have n2 : h'.objs.size ≠ P := fun z => by rw [z, hP] at fr2; cases fr2
    have n3 : c' ≠ P := fun z => by rw [z, hP] at fr1; cases fr1
    have q := h h'.objs.size c' _ oc cl fr2 fr1 n1 n2 n3 (hsh (ctv := ctv)) ⟨vs, t, hdc, hvc⟩
    have neP : ∀ b, H b = none → b ≠ P := fun b e z => by rw [z, hP] at e; cases e
    have kp : ∀ b o, b ≠ P → s.heap.get? b = some o → (h'.push (PySem.W.kla_obj "<lambda>" (X.env.qual ++ "<lambda>") params body scope cl ((X.mg "__name__").getD .none) c' ctv)).get? b = some o := fun b o hb e => Heap.get?_push_of_some _ (hx' b o hb e)
    have other : ∀ b u, H b = some u → b ≠ P → (upd (upd (upd H P (.tbl (ps ++ #[rawInt pos.line, rawInt pos.col, .ref c']))) c' (.frz oc (.own c'))) h'.objs.size (.frz (PySem.W.kla_obj "<lambda>" (X.env.qual ++ "<lambda>") params body scope cl ((X.mg "__name__").getD .none) c' ctv) (.own h'.objs.size))) b = some u := fun b u e hb => by
      rw [upd_ne (ne_of_none e fr2), upd_ne (ne_of_none e fr1), upd_ne hb]
      exact e
    have I2 : Inv X pins σ (upd (upd (upd H P (.tbl (ps ++ #[rawInt pos.line, rawInt pos.col, .ref c']))) c' (.frz oc (.own c'))) h'.objs.size (.frz (PySem.W.kla_obj "<lambda>" (X.env.qual ++ "<lambda>") params body scope cl ((X.mg "__name__").getD .none) c' ctv) (.own h'.objs.size)))
        { s with heap := h'.push (PySem.W.kla_obj "<lambda>" (X.env.qual ++ "<lambda>") params body scope cl ((X.mg "__name__").getD .none) c' ctv), toks := tk } := by
      refine I.step (g' := s.gens) (d' := s.drawn) (ch := []) (fun _ z => nomatch z) (fun b o _ _ _ e n => kp b o (neP b n) e) (fun b o _ _ _ e n => ⟨o.slots, kp b o (neP b n) e⟩) (fun b o _ e n => ?_) (fun b o _ e => ?_)
        (fun b xs e => other b _ e (fun z => by rw [z, hP] at e; cases e)) (fun b o u e => other b _ e (fun z => by rw [z, hP] at e; cases e)) (fun b qs e => ?_) (fun m hm => ?_) (fun b u e => ?_) I.bare
      · have lt := Heap.lt_size e
        rw [upd_ne (Nat.ne_of_lt (Nat.lt_of_lt_of_le lt (Nat.le_trans hge (Nat.le_of_lt hlt)))), upd_ne (Nat.ne_of_lt (Nat.lt_of_lt_of_le lt hge)), upd_ne (neP b n)]
        exact n
      · by_cases hb : b = P
        · exact ⟨_, by rw [hb]; exact Heap.get?_push_of_some _ htb⟩
        · exact ⟨o, kp b o hb e⟩
      · by_cases hb : b = P
        · subst hb
          rw [hP] at e
          cases e
          exact ⟨_, by rw [upd_ne n2.symm, upd_ne n3.symm, upd_same]⟩
        · exact ⟨#[], by rw [other b _ e hb]; simp⟩
      · obtain ⟨o, es, ep, ho, r⟩ := hm
        exact ⟨o, es, ep, kp _ o (neP _ I.free) ho, r⟩
      · by_cases hb1 : b = h'.objs.size
        · subst hb1
          rw [upd_same] at e
          cases e
          exact ⟨Heap.get?_push_size _ rfl, _, Heap.get?_push_size _ rfl⟩
        · rw [upd_ne hb1] at e
          by_cases hb2 : b = c'
          · subst hb2
            rw [upd_same] at e
            cases e
            exact ⟨Heap.get?_push_of_some _ hoc, _, Heap.get?_push_of_some _ hoc⟩
          · rw [upd_ne hb2] at e
            by_cases hb3 : b = P
            · subst hb3
              rw [upd_same] at e
              cases e
              exact Heap.get?_push_of_some _ htb
            · rw [upd_ne hb3] at e
              refine (I.hok b u e).stay (fun d v hd qd => kp d v ?_ qd) (fun d qd => other d _ qd (fun z => by rw [z, hP] at qd; cases qd)) fun d xs qd => other d _ qd (fun z => by rw [z, hP] at qd; cases qd)
              rcases hd with z | z
              · rw [z]
                exact hb3
              · exact fun y => by rw [y, hP] at z; cases z
    exact ⟨.ref h'.objs.size, _, I2, rfl, q⟩
  · refine PySem.W.kla_makeFunctionHit hclos I.ok.glob hg hcode (hC.keeps I.bk) hPo ht hsome hBs fun ctv h' tk hk hsz => ?_
    have q := h h'.objs.size _ cl (I.hok.fresh hsz) (hsh (ctv := ctv))
    have I2 := I.laid (a := h'.objs.size) (o := .frz (PySem.W.kla_obj "<lambda>" (X.env.qual ++ "<lambda>") params body scope cl ((X.mg "__name__").getD .none) c' ctv) (.own h'.objs.size)) (t' := tk)
      (h' := h'.push (PySem.W.kla_obj "<lambda>" (X.env.qual ++ "<lambda>") params body scope cl ((X.mg "__name__").getD .none) c' ctv)) (fun b u e => Heap.get?_push_of_some _ (hk b u e)) hsz ⟨Heap.get?_push_size _ rfl, _, Heap.get?_push_size _ rfl⟩
    exact ⟨.ref h'.objs.size, _, I2, rfl, q⟩
end
theorem tLam_of {cells : List (Str × Addr)} {P : Addr} {name qual : Str} {params : Arguments} {body : Expr} {scope : Scope} {pos : Pos} {Q : VK} {σ : St} {H : Hp} (T : Tab H P pos qual)
    (k : ∀ f H' fo clos c' oc k1 k2, (∀ b o, b ≠ P → H b = some o → H' b = some o) → Tab H' P pos qual → H f = none → H' f = some (.frz fo k1) → LmShape name qual params body scope cells fo clos c' → H' c' = some (.frz oc k2) → CodeShape oc qual →
      Q (.ref f) H') : tLam cells P name qual params body scope pos σ H Q := by
  obtain ⟨ps, hP, ht, z⟩ := T
  refine ⟨ps, hP, ht, ?_⟩
  rcases z with z | ⟨c', oc, k0, z1, z2, z3⟩
  · refine .inl ⟨z, fun f c' fo oc clos hf hc n1 n2 n3 sh cs => ?_⟩
    refine k f _ fo clos c' oc _ _ (fun b o hb e => ?_) ⟨_, by rw [upd_ne n2.symm, upd_ne n3.symm, upd_same], ?_, .inr ⟨c', oc, _, ?_, by rw [upd_ne n1.symm, upd_same], cs⟩⟩ hf upd_same sh (by rw [upd_ne n1.symm, upd_same]) cs
    · rw [upd_ne (ne_of_none e hf), upd_ne (ne_of_none e hc), upd_ne hb]
      exact e
    · rw [Array.toList_append]
      exact triples_snoc rfl rfl ht
    · rw [Array.toList_append]
      exact codeAmong_snoc _ ht z
  · refine .inr ⟨c', oc, k0, z1, z2, z3, fun f fo clos hf sh => ?_⟩
    refine k f _ fo clos c' oc _ _ (fun b o _ e => by rw [upd_ne (ne_of_none e hf)]; exact e) ⟨ps, by rw [upd_ne (ne_of_none hP hf)]; exact hP, ht, .inr ⟨c', oc, k0, z1, by rw [upd_ne (ne_of_none z2 hf)]; exact z2, z3⟩⟩ hf upd_same sh (by rw [upd_ne (ne_of_none z2 hf)]; exact z2) z3
def RLm (name qual : Str) (params : Arguments) (body : Expr) (scope : Scope) (_ : Addr) (fd : FuncData) : Prop := ∃ clos pm c' ct, fd = PySem.W.kla_fn name qual params body scope clos pm (.ref c') ct
theorem lamv_of {name qual : Str} {params : Arguments} {body : Expr} {scope : Scope} {cells clos : List (Str × Addr)} {fo oc : Obj} {c' f : Addr} {k1 k2 : HO} {H' : Hp} {fr : List Str} {cv : List V} (sh : LmShape name qual params body scope cells fo clos c')
    (hf : H' f = some (.frz fo k1)) (hc' : H' c' = some (.frz oc k2)) (cs : CodeShape oc qual) (hfr : ∀ (i : Nat) x v, fr[i]? = some x → cv[i]? = some v → (x, NameKind.free) ∈ scope.names ∧ ∃ c, cells.lookup x = some c ∧ CellV H' c v) :
    ∃ fd, fo.data = .func fd ∧ RLm name qual params body scope f fd ∧ LamV H' f name qual params body scope fr cv fd := by
  obtain ⟨pm, ctv, hfo⟩ := id sh.ob
  have hd : fo.data = .func (PySem.W.kla_fn name qual params body scope clos pm (.ref c') ctv) := by rw [hfo]
  refine ⟨_, hd, ⟨clos, pm, c', ctv, rfl⟩, ⟨fo, cells, clos, c', oc, k1, k2, hf, sh, hd, rfl, rfl, hc', cs, fun i x v h1 h2 => ?_⟩⟩
  obtain ⟨hx, c, hc, hv⟩ := hfr i x v h1 h2
  obtain ⟨c2, e2⟩ := sh.all (x, .free) hx rfl
  have e3 := sh.sub x c2 e2
  rw [hc] at e3
  cases e3
  exact ⟨c, e2, hv⟩
section
variable {P : Program} {w : World} {K : PySem.W.Frag} {mg : Str → Option Value} {base : Heap}
theorem fn_lam {k : Nat} {f : Addr} {name qual : Str} {params : Arguments} {body : Expr} {scope : Scope} {fd : FuncData} {N ps fr : List Str} {sp : List V → Sp} (S : CloScope N ps fr scope)
    (len : ∀ cv vs H Q E, sp cv vs H Q E → vs.length = ps.length)
    (hbody : ∀ (clos : List (Str × Addr)) (cdv : Value) (A : Around) (outer : List Env) (s : Shared) (H : Hp) (cv vs : List V) (Q : VK) (E : XK), Room k (A.deeper (envClo qual scope clos s.heap.objs.size f cdv)) → cv.length = fr.length → sp cv vs H Q E →
      ∃ t, PE (cxClo P w K mg base N qual scope clos f cdv A outer s H) body t ∧ t ((vs ++ cv).map some ++ List.replicate (N.length - (ps ++ fr).length) none) H Q) :
    FnOk P w K mg base CX0 (k + 1) f fd ps (fun vs H Q E => ∃ cv, cv.length = fr.length ∧ LamV H f name qual params body scope fr cv fd ∧ sp cv vs H Q E) := by
  refine ⟨fun vs H Q E h => let ⟨cv, _, _, q⟩ := h; len cv vs H Q E q, fun A outer s H args us vs Q E hr e0 hb r hsp => ?_⟩
  obtain ⟨cv, hcl, FV, hsp⟩ := hsp
  obtain ⟨fo, cells, clos, c', oc, k1, k2, e1, SH, e2, e3, e4, e5, cs, hv⟩ := FV.ex
  obtain ⟨pm, ctv, hfo⟩ := SH.ob
  have hl := len _ _ _ _ _ hsp
  have hlu : us.length = ps.length := by rw [← hl]; exact r.length.symm
  have lim : s.heap.NoLimit := e0.mod.nolimit.keeps fun b o e => (e0.bs b o e).1
  obtain ⟨hf, _⟩ := e0.hok f _ e1
  obtain ⟨hc, _⟩ := e0.hok c' _ e5
  have hfd : fd = PySem.W.kla_fn name qual params body scope clos pm (.ref c') ctv := by
    have z : Data.func fd = Data.func (PySem.W.kla_fn name qual params body scope clos pm (.ref c') ctv) := by rw [← e2, hfo]
    exact Data.func.inj z
  obtain ⟨vs1, t1, q1, q2⟩ := cs
  subst hfd
  have ndP : ps.Nodup := by
    have z : (ps ++ fr).Nodup := by rw [← S.pre]; exact S.nd.sublist (List.take_sublist _ _)
    exact (List.nodup_append.mp z).1
  have hlen : (ps ++ fr).length ≤ N.length := by have := congrArg List.length S.pre; rw [List.length_take] at this; omega
  refine PySem.W.kla_callFunE hr.depth hf e2 S.co S.gen rfl ⟨c', oc, vs1, t1, rfl, hc, q1, q2⟩ (hb _ _ _ _ ?_)
  refine wpAny_newFunctionEnv S.nocell (fun y hy => S.par y.1 (List.of_mem_zip hy).1) (fun h1 hns hsb => ?_) S.kind
  have kp : ∀ b o, s.heap.get? b = some o → h1.get? b = some o := fun b o e => (hsb.2 b (Nat.ne_of_lt (Heap.lt_size e))).trans (Heap.get?_push_of_some _ e)
  refine ⟨lim.keeps kp, PySem.W.kla_codeExpr ?_⟩
  obtain ⟨t, ht, hq⟩ := hbody clos (.ref c') A outer s H cv vs Q E (hr.deeper _) hcl hsp
  have noA : ∀ b : Addr, b ∉ (cxClo P w K mg base N qual scope clos f (.ref c') A outer s H).ex := fun b z => absurd (show b ∈ ([] : List Addr) from z) (by simp)
  have kcell : ∀ x c, clos.lookup x = some c → ∃ v, CellV H c v := fun x c e => by
    have hx := S.allfr _ (SH.free x c e) rfl
    obtain ⟨i, hi⟩ := List.getElem?_of_mem hx
    have : i < cv.length := by rw [hcl]; exact (List.getElem?_eq_some_iff.mp hi).1
    obtain ⟨c2, z1, z2⟩ := hv i x cv[i] hi (by simp [this])
    rw [e] at z1
    cases z1
    exact ⟨_, z2⟩
  have I : Inv (cxClo P w K mg base N qual scope clos f (.ref c') A outer s H) [] ((vs ++ cv).map some ++ List.replicate (N.length - (ps ++ fr).length) none) H { s with heap := h1, toks := s.toks + (ps.zip us).length } := by
    refine ⟨⟨e0.mod, S.kind, rfl, rfl, Nat.le_refl _, SH.inj, fun y hy => ?_, fun y c z => absurd z Bool.false_ne_true, fun _ => hr.hd, Around.frames_deeper e0.frames, .inr ⟨rfl, rfl⟩, fun b z => absurd z (noA b), e0.bs, e0.bsz, fun b _ _ => noA b, fun b z => absurd z (noA b), e0.funs, e0.frf⟩,
      rfl, e0.bare, Un.kept kp, ⟨_, hns, fun i y v g1 g2 g3 => ?_⟩, fun y c e => ?_, e0.hok.fresh (Nat.le_refl _), fun y c e => ?_, fun p hp => absurd (show p ∈ ([] : List (Addr × Obj)) from hp) (by simp), e0.hok.kept kp, ?_⟩
    · have hy : scope.names.lookup y = some .cell ∨ scope.names.lookup y = some .free := hy
      rcases hy with z | z
      · exact absurd rfl (S.nocell _ (PySem.mem_of_lookup z))
      · exact SH.all _ (PySem.mem_of_lookup z) rfl
    · have g1 : N[i]? = some y := g1
      have hi : i < (vs ++ cv).length := by
        by_cases hi : i < (vs ++ cv).length
        · exact hi
        · rw [List.getElem?_append_right (by simpa using hi), List.getElem?_replicate] at g2
          split at g2 <;> cases g2
      rw [List.getElem?_append_left (by simpa using hi), List.getElem?_map] at g2
      have g2' : (vs ++ cv)[i]? = some v := by
        cases q : (vs ++ cv)[i]? with
        | none => rw [q] at g2; cases g2
        | some z => rw [q] at g2; cases g2; rfl
      have hpf : (ps ++ fr)[i]? = some y := by
        rw [← S.pre, List.getElem?_take_of_lt (by rw [List.length_append] at hi ⊢; omega)]
        exact g1
      by_cases hp : i < ps.length
      · rw [List.getElem?_append_left hp] at hpf
        rw [List.getElem?_append_left (by omega)] at g2'
        obtain ⟨u, hu, ru⟩ := r.get g2'
        exact ⟨u, ru, .inl ⟨S.par y (List.mem_of_getElem? hpf), lookup_zip_rev (us := us) ndP hpf hu⟩⟩
      · rw [List.getElem?_append_right (by omega)] at hpf
        rw [List.getElem?_append_right (by omega)] at g2'
        obtain ⟨c, z1, o, u, k, z2, z3, z4⟩ := hv (i - ps.length) y v hpf (by rw [← hl]; exact g2')
        obtain ⟨z5, _⟩ := e0.hok c _ z2
        exact ⟨u, z4, .inr ⟨.inr (S.fre y (List.mem_of_getElem? hpf)), c, z1, o, kp _ _ z5, z3⟩⟩
    · obtain ⟨v, o, u, k, z2, z3, z4⟩ := kcell y c e
      obtain ⟨z5, _⟩ := e0.hok c _ z2
      exact ⟨_, o, kp _ _ z5, z3⟩
    · obtain ⟨v, o, u, k, z2, _⟩ := kcell y c e
      exact ⟨fun z => absurd z Bool.false_ne_true, .inr ⟨o, k, z2⟩⟩
    · show _ = N.length
      have z1 : (ps ++ fr).length = ps.length + fr.length := List.length_append
      rw [List.length_append, List.length_map, List.length_replicate, List.length_append]
      omega
  exact wpAny_mono (ht [] _ _ H _ I hq) (fun u s' ⟨v, H', J, rv, q⟩ => ⟨v, H', J.os, J.bare, J.base, J.hok, rv, q⟩) fun e s' hs => hs.elim
end
end L2
set_option Elab.async false
set_option linter.all false
set_option maxRecDepth 100000
namespace L2
open PySem PySem.Spec PyProof.Rows
def tSortK (K : PySem.W.Frag) (Rr : Addr → FuncData → Prop) (sp : Addr → FuncData → Sp) (te tl : TE) : TE := fun σ H Q => tCons te tNil σ H fun vs H1 => tCons tl tNil σ H1 fun zs H2 => ∃ (p f : Addr) (fd : FuncData) (ns : List Int) (key : Int → Int), vs = [.ref p] ∧ zs = [.ref f] ∧ SqL K H2 p (ns.map V.int) ∧ ns.length < 64 ∧
  (∀ x ∈ ns, ∀ y ∈ ns, key x = key y → x = y) ∧ Rr f fd ∧ (∀ n ∈ ns, ∀ Q' : VK, Q' (.int (key n)) H2 → sp f fd [.int n] H2 Q' E0) ∧ ∀ l, H2 l = none → Q (.ref l) (upd H2 l (.lst ((sortK key ns).map V.int)))
theorem pe_sortK {X : Cx} {x : Str} {e lam : Expr} {te tl : TE} {p pos kpos : Pos} {k : Nat} {ps : List Str} {Rr : Addr → FuncData → Prop} {sp : Addr → FuncData → Sp} (hg : Gl X x) (hm : X.mg x = none) (hv : bootBuiltins x = some (.builtin "sorted")) (G : ∀ f fd, Rr f fd → FnOk X.prog X.w X.K X.mg X.base CX0 k f fd ps (sp f fd)) (hb : ∀ f fd, Rr f fd → Binds X.K fd ps [])
    (hr : Room (k + 2) X.A) (he : PE X e te) (hl : PE X lam tl) (hn : x ≠ "__name__" := by decide) (hdb : (x == ("__debug__" : Str)) = false := by decide) (hs : starEach [e] X.env = [(false, eval e X.env)] := by rfl) :
    PE X (.Call (.Name x p) [e] [⟨some "key", lam, kpos⟩] pos) (tSortK X.K Rr sp te tl) := by
  intro pins s σ H Q I h
  refine wpAny_Call_Name_kw (ld_blt I hg hm hv ?_ hn hdb)
  refine callWith_kw (thn (pa_cons he pa_nil hs pos pins s σ H _ I h) fun us s1 ⟨vs, H1, I1, r1, q1⟩ => ?_) (by rw [hs]; rfl) (by rw [hs]; rfl) rfl rfl
  · refine thn (pk_cons hl pk_nil pos pins s1 σ H1 _ I1 q1) fun ws s2 ⟨zs, H2, I2, rz, a, f, fd, ns, key, e1, e2, hq, h64, hj, hR, hsp, q⟩ => ?_
    subst e1 e2
    obtain ⟨v', rfl, rv⟩ := vals1 r1
    obtain ⟨u', rfl, ru⟩ := vals1 rz
    cases (show v' = Value.ref a from rv)
    cases (show u' = Value.ref f from ru)
    show wpAny _ _ (call (.builtin "sorted") [.ref a] [(Str.ofString "key", .ref f)]) _ _ _
    refine sorted_key (R := fun H' => H' = H2) I2 hq h64 hj rfl (fun pl s' H' n t hn J e => ?_) (fun H' l e hl _ => by subst e; exact q l hl)
    subst e
    have F := G f fd hR
    have sp1 := hsp n hn (fun v H2 => v = .int (key n) ∧ H2 = H') ⟨rfl, rfl⟩
    refine wpAny_call (codeAny_mono (F.run X.A.in1.in1 X.stack s' H' ⟨[.int n t], []⟩ [.int n t] [.int n] _ E0 hr.in1.in1 J.env0.in1.in1 (by have y := hb f fd hR s' [.int n t] J.kIn (by rw [List.append_nil]; exact F.len _ _ _ _ sp1); rw [List.append_nil] at y; exact y) (.cons ⟨t, rfl⟩ .nil) sp1) fun r s'' hq => ?_)
    cases r with
    | error e => exact False.elim hq
    | ok fl =>
      cases fl with
      | ret u => exact J.after hq
      | next => exact False.elim hq
      | brk => exact False.elim hq
      | cont => exact False.elim hq
end L2
set_option Elab.async false
set_option linter.all false
set_option maxRecDepth 100000
namespace L2
open PySem PySem.Spec PyProof.Rows
section
variable {X : Cx}
def rAll (K : PySem.W.Frag) : List V → Hp → VK → Prop := fun xs H Q => ∃ (p : Addr) (bs : List Bool), xs = [.ref p] ∧ SqL K H p (bs.map V.bl) ∧ Q (.bl (bs.all id)) H
theorem call_all (hc : X.calm = true) : CallR X (.builtin "all") (rAll X.K) := by
  intro pins s σ H xs us Q I r h
  obtain ⟨p, bs, rfl, hq, q⟩ := h
  obtain ⟨u, rfl, ru⟩ := vals1 r
  cases (show u = Value.ref p from ru)
  obtain ⟨its, rv, pl, hz⟩ := I.list hq
  have hlen : its.length = bs.length := by
    have := rv.length
    rw [List.length_map] at this
    exact this.symm
  refine call_all_walk (wpAny_pyIter_list pl.isList ?_)
  have hne : p ≠ s.heap.objs.size := Nat.ne_of_lt pl.lt
  refine ⟨s.heap.objs.size, _, _, _, _, _, fun i => bs.getD i true, rfl, Walks.list (A := X.A.in1) (by exact I.ok.hd hc) s.heap.objs.size p hne its.toArray, ⟨⟨_, Heap.get?_push_size _ rfl, rfl, rfl⟩, pl.isList.push _⟩, fun i v s' Q' E' hv hQ' => ?_, fun h' tk kk => ?_⟩
  · have hv' : its[i]? = some v := by simpa using hv
    have hi : i < bs.length := by
      have := (List.getElem?_eq_some_iff.mp hv').1
      omega
    obtain ⟨u, hu, ru⟩ := rv.get (i := i) (x := .bl bs[i]) (by simp [hi])
    rw [hv'] at hu
    cases hu
    cases (show v = Value.bool bs[i] from ru)
    replace hQ' : Q' (bs.getD i true) s' := hQ'
    rw [show bs.getD i true = bs[i] by simp [hi]] at hQ'
    exact wpAny_truthy_bool hQ'
  · refine ⟨.bl (bs.all id), H, I.kept (t' := tk) (fun b o e => kk b o (fun z => ?_) (Heap.get?_push_of_some _ e)), ?_, q⟩
    · rw [List.mem_singleton.mp z] at e
      exact absurd (Heap.lt_size e) (Nat.lt_irrefl _)
    · show Value.bool _ = Value.bool _
      congr 1
      rw [List.size_toArray, hlen, Bool.eq_iff_iff, List.all_eq_true, List.all_eq_true]
      constructor
      · intro y x hx
        obtain ⟨i, hi⟩ := List.getElem?_of_mem hx
        have hl := (List.getElem?_eq_some_iff.mp hi).1
        have z := y i (List.mem_range.mpr hl)
        simpa [hi] using z
      · intro y i hi
        have hl := List.mem_range.mp hi
        have z := y bs[i] (List.getElem_mem hl)
        simpa [hl] using z
end
end L2
set_option Elab.async false
set_option linter.all false
set_option maxRecDepth 100000
namespace L2
open PySem PySem.Spec PyProof.Rows
section
variable {P : Program} {w : World} {K : PySem.W.Frag} {mg : Str → Option Value} {base : Heap} {N : List Str} {qual : Str} {scope : Scope} {f : Addr} {cd : Value} {A : Around} {outer : List Env} {s0 : Shared} {H0 : Hp} {E : XK} {fn : Str → Bool}
end
abbrev bmV : List Value := [.type "ValueError", .type "Exception", .type "BaseException", .type "object"]
structure DfE (K : PySem.W.Frag) (mg : Str → Option Value) (x : Str) where
  C : Addr
  hm : mg x = some (.ref C)
  ex : PySem.W.excIn K C bmV "ValueError.__new__" = true
section
variable {P : Program} {w : World} {K : PySem.W.Frag} {mg : Str → Option Value} {base : Heap} {N : List Str} {qual : Str} {scope : Scope} {f : Addr} {cd : Value} {A : Around} {outer : List Env} {s0 : Shared} {H0 : Hp} {E : XK} {fn : Str → Bool}
end
end L2
set_option Elab.async false
set_option linter.all false
set_option maxRecDepth 100000
namespace L2
open PySem PySem.Spec PyProof.Rows
section
variable {M : Model} {A : Around} {E : Value → Shared → Prop}
variable {nm q : Str} {C N : Addr} {bs bm : List Value} {hdct : Bool} {sn : List Str} {sub : List Value} {ab : Bool} {col : Option Bool} {dd : Option Addr} {k0 k1 k2 k3 k5 : Option Value} {newId : String}
variable {nm' q' : Str} {C' N' : Addr} {bs' bm' : List Value} {hdct' : Bool} {sn' : List Str} {sub' : List Value} {ab' : Bool} {col' : Option Bool} {dd' : Option Addr} {j0 j1 j2 j3 j5 : Option Value} {newId' : String}
end
section
variable {X : Cx} {pins : List (Addr × Obj)} {σ : St} {H H' : Hp} {s s' : Shared} {e t : Addr} {C : Value} {B h6 : Heap}
end
end L2
set_option Elab.async false
set_option linter.all false
set_option maxRecDepth 100000
namespace L2
open PySem PySem.Spec PyProof.Rows
def Cx.tryC (X : Cx) (pins : List (Addr × Obj)) (E : Value → Shared → Prop) : Cx := { X with pn := X.pn ++ pins, xe := E }
def Cx.suiteC (X : Cx) (e : Addr) : Cx := { X with A := X.A.mark (some (.ref e)), calm := false, xe := fun _ _ => False }
section
variable {X : Cx} {pins pl : List (Addr × Obj)} {σ : St} {H : Hp} {s : Shared} {E : Value → Shared → Prop} {e : Addr}
theorem Cx.Ok.tryC (o : X.Ok) : (X.tryC pins E).Ok := ⟨o.mod, o.kind, o.glob, o.blt, o.above, o.inj, o.has, o.cab, o.hd, o.frames, o.stk, o.exf, o.bs, o.bsz, o.noex, o.exfs, o.funs, o.frf⟩
theorem Cx.Ok.suiteC (o : X.Ok) : (X.suiteC e).Ok := ⟨o.mod, o.kind, o.glob, o.blt, o.above, o.inj, o.has, o.cab, fun z => absurd z Bool.false_ne_true, o.frames, o.stk, o.exf, o.bs, o.bsz, o.noex, o.exfs, o.funs, o.frf⟩
theorem Inv.tryC (I : Inv X pins σ H s) : Inv (X.tryC pins E) [] σ H s := ⟨I.ok.tryC, I.os, I.bare, I.base, I.loc, I.cell, I.free, I.freeC, fun p hp => I.pin p (by
  have hp : p ∈ (X.pn ++ pins) ++ [] := hp
  rw [List.append_nil] at hp
  exact hp), I.hok, I.len⟩
theorem Inv.suiteC (I : Inv X pins σ H s) : Inv (X.suiteC e) pins σ H s := ⟨I.ok.suiteC, I.os, I.bare, I.base, I.loc, I.cell, I.free, I.freeC, I.pin, I.hok, I.len⟩
end
end L2
set_option Elab.async false
set_option linter.all false
set_option maxRecDepth 100000
namespace L2
open PySem PySem.Spec PyProof.Rows
section
open PySem.W PySem.Builtin PySem.Builtin.ObjectAttr PySem.Builtin.Getset_descriptor
variable {K : Frag} {D x : Addr} {prog : Program} {w : World} {A : Around} {E : Value → Shared → Prop} {s : Shared}
def OfC (h : Heap) (x D : Addr) : Prop := ∃ o, h.get? x = some o ∧ o.cls = .ref D
theorem OfC.ty {M : Model} {h : Heap} (T : OfC h x D) : Looks M h (typeOf (.ref x)) (.ref D) := by
  obtain ⟨o, ho, hc⟩ := T
  exact hc ▸ (Looks.ld ho).andThen .now
theorem e_find {M : Model} {h : Heap} {name : Str} {a g : Value} (X : K.In h) (ha : findIn K (.ref D) name = some (some a)) (hg : specialIn K a "__get__" = some (some g)) (ht : takesIn K a = some true) : Looks M h (find (.ref x) (.ref D) name) (.bind g a) := by
  have L1 := looks_findIn (M := M) X ha
  have L2 : Looks M h (getOf (some a)) (some g) := looks_specialIn X hg
  have L3 := looks_takesIn (M := M) X ht
  refine L1.andThen (L2.andThen ?_)
  have L4 : Looks M h (dataDescriptor? (some a) (some g)) (some (g, a)) := L3.andThen .now
  exact L4.andThen (Looks.tag .now)
theorem e_class (hg : plainGet K D "__class__" = true) (ha : findIn K (.ref D) "__class__" = some (some (.builtin "object.__class__"))) (hn : specialIn K (.builtin "object.__class__") "__get__" = some (some (.builtin "getset_descriptor.__get__")))
    (htk : takesIn K (.builtin "object.__class__") = some true) (hm : mroIn K D (.type "object") = some true) {Q : Option Value → Shared → Prop} (X : K.In s.heap) (T : OfC s.heap x D) (q : Q (some (.ref D)) { s with toks := s.toks + 1 }) : wpAny (model prog w) A (getAttr? (.ref x) "__class__") Q E s := by
  obtain ⟨hh, gg, dr, tk, oo⟩ := s
  have T0 := T.ty (M := model prog w)
  have T1 := looks_findIn (M := model prog w) X (plainGet_of hg).1
  have T2 := looks_findIn (M := model prog w) X (plainGet_of hg).2
  have T3 := e_find (M := model prog w) (x := x) X ha hn htk
  have T4 := looks_mroIn (M := model prog w) X hm
  unfold getAttr? getAttrBy? getAttrBy
  refine wpAny_bind (wpAny_mkText (wpAny_bind (wpAny_attempt (wpAny_holding (wpAny_bind (T0.at (wpAny_bind (T1.at ?_))))))))
  show wpAny _ _ (getAttrEveryday _ _ _) _ _ _
  refine wpAny_bind (wpAny_onRaise (wpAny_runValue (codeAny_builtin F.plainObj_entry_getattr_hooked ?_)))
  refine wpAny_bind (wpAny_pure (wpAny_bind (T0.at (wpAny_bind (T3.at (wpAny_bind (T2.at ?_)))))))
  show wpAny _ _ (holding [Value.builtin "object.__class__"] (call (.builtin "getset_descriptor.__get__") [.builtin "object.__class__", .ref x, .ref D]) >>= ret) _ _ _
  refine wpAny_bind (wpAny_holding (wpAny_call (codeAny_call_builtin KF.slot_gs.plain KF.entry_gs (KF.slot_gs.check _ _ _ _ _ _ _ _ KF.type_class (KF.args_gs _ _ _) ?_))))
  unfold Builtin.«getset_descriptor.__get__»
  unfold descrGet
  rw [dga_obj]
  refine wpAny_bind (wpAny_pure ?_)
  unfold descrGetter descrCheckInstance
  unfold descrNameAndClass isInstance
  simp only [KF.owner_class]
  have L0 := T0
  have L1 := T4
  repeat lk
  refine ⟨Code.quiet_builtin _ (by decide +kernel), (codeAny_builtin KF.entry_class ?_)⟩
  unfold Builtin.«object.__class__»
  unfold shownTypeOf
  repeat lk
  exact q
structure ErrK (K : Frag) (D : Addr) : Prop where
  hg : plainGet K D "__class__" = true
  hd : hasDictIn K D = true
  ha : findIn K (.ref D) "__class__" = some (some (.builtin "object.__class__"))
  hn : specialIn K (.builtin "object.__class__") "__get__" = some (some (.builtin "getset_descriptor.__get__"))
  htk : takesIn K (.builtin "object.__class__") = some true
  hm : mroIn K D (.type "object") = some true
theorem ErrK.kit (k : ErrK K D) : KitX K (.ref x) (.ref D) (fun h => OfC h x D) where
  ty := fun _ _ _ I => I.ty
  it := fun _ _ X _ => by
    obtain ⟨cdD, hcD, _⟩ := any_some k.hd
    unfold clsIn at hcD
    split at hcD
    · rename_i c1 d1 cd1 sl1 ho
      intro A1 Q1 E1 s1 kk q
      unfold isType loadHead
      exact wpAny_bind (wpAny_loadPart (kk _ _ (X _ _ ho)) (wpAny_pure q))
    · cases hcD
  ne := fun h tp dd its n sl X htp => by
    obtain ⟨cdD, hcD, _⟩ := any_some k.hd
    refine Bool.eq_false_iff.mpr fun q => ?_
    have e : D = tp := Value.ref.inj (beq_iff_eq.mp q)
    subst e
    unfold clsIn at hcD
    split at hcD
    · rename_i c1 d1 cd1 sl1 ho
      have z := (X _ _ ho).symm.trans htp
      cases z
    · cases hcD
  ca := fun X I q => e_class k.hg k.ha k.hn k.htk k.hm X I q
end
section
variable {X : Cx}
end
end L2
set_option Elab.async false
set_option linter.all false
set_option maxRecDepth 100000
namespace L2
open PySem PySem.Spec PyProof.Rows
section
variable {X : Cx} {CX : CXT} {k : Nat} {f : Addr} {fd : FuncData} {ps : List Str} {sp : Sp} {dvs : List V} {ds : List Value} {Th : St → XK} {x : Str} {p pos : Pos} {e : Expr} {es : List Expr} {t : TA}
end
end L2
set_option Elab.async false
set_option linter.all false
set_option maxRecDepth 100000
namespace L2
open PySem PySem.Spec PyProof.Rows
end L2
namespace L2
open PySem PySem.Spec PyProof.Rows
section
variable (P : Program) (w : World)
end
section
variable {P : Program} {w : World} {H H' : Hp} {h h' : Heap} {a : Addr} {o : HO}
end
section
variable {P : Program} {w : World} {H : Hp} {h h' : Heap} {x e : Addr} {o' : HO}
end
section
variable {fs fs' ex ex' : List Addr} {H H1 H2 : Hp} {h h1 h2 h' : Heap} {a x e : Addr} {o : HO}
end
end L2
namespace L2
open PySem PySem.Spec PyProof.Rows
section
variable {X : Cx} {pins : List (Addr × Obj)} {σ : List (Option V)} {H H' : Hp} {s : Shared} {h' : Heap}
end
end L2
namespace L2
open PySem PySem.Spec PyProof.Rows
section
variable {X : Cx}
variable {a b : Expr} {ta tb : TE} {pos : Pos}
variable {tA tB' : TT} {rest : List Expr}
end
end L2
namespace L2
open PySem PySem.Spec PyProof.Rows
section
variable {X : Cx} {pins : List (Addr × Obj)} {σ : St} {H : Hp} {s : Shared} {a : Addr} {xs ys : List V}
end
section
variable {X : Cx} {pins : List (Addr × Obj)} {σ : St} {H : Hp} {s : Shared} {E : Value → Shared → Prop}
end
section
variable {X : Cx} {st : Stmt} {rest : List Stmt} {t u : TS} {e : Expr} {te : TE} {pos : Pos}
end
section
variable {X : Cx} {pos : Pos}
end
section
variable {X : Cx} {pos : Pos}
end
end L2
namespace L2
open PySem PySem.Spec PyProof.Rows
section
variable {X : Cx} {tg : Expr}
end
end L2
namespace L2
open PySem PySem.Spec PyProof.Rows
section
variable {X : Cx} {a b c : Expr} {ta tb tc : TE} {pos : Pos}
end
section
variable {X : Cx} {a b c : Expr} {ta tb tc : TE} {pos : Pos}
end
end L2
namespace L2
open PySem PySem.Spec PyProof.Rows
section
variable {prog : Program} {w : World} {A : Around} {E : Value → Shared → Prop} {s : Shared} {K : PySem.W.Frag} {x dx C f : Addr} {mA : Str → Option Value} {name : Str} {v : Value}
end
section
variable {P : Program} {w : World} {H H' : Hp} {h h' : Heap} {a C dx : Addr} {fs fs' : List (Str × V)}
end
section
variable {X : Cx} {pins : List (Addr × Obj)} {σ : St} {H : Hp} {s : Shared} {a C dx : Addr} {fs : List (Str × V)} {f : Str} {v : V} {A : Around} {E : Value → Shared → Prop}
end
section
variable {X : Cx} {o e value : Expr} {f : Str} {pos pos' tpos : Pos} {ta tv : TE}
end
section
variable {X : Cx} {pins : List (Addr × Obj)} {σ : St} {H : Hp} {s : Shared} {A : Around} {E : Value → Shared → Prop} {Q : Value → Shared → Prop} {c : Value} {b : Bool}
end
end L2
namespace L2
open PySem PySem.Spec PyProof.Rows
section
variable {X : Cx} {e : Expr} {es : List Expr} {te : TE} {t : TA} {pos : Pos}
end
section
variable {X : Cx} {pins : List (Addr × Obj)} {σ : St} {H : Hp} {s s' : Shared}
end
section
variable {X : Cx} {CX : CXT} {k : Nat} {f C : Addr} {fd : FuncData} {ps : List Str} {sp : Sp} {dvs : List V} {ds : List Value} {E : XK} {x m : Str} {p pos apos : Pos} {e o : Expr} {es : List Expr} {ta : TE} {t : TA}
end
section
variable {X : Cx} {CX : CXT} {k : Nat} {f C : Addr} {fd : FuncData} {ps ks : List Str} {sp : Sp} {E : XK} {x m : Str} {p pos apos kpos : Pos} {e o : Expr} {es : List Expr} {kws : List Keyword} {te ta : TE} {t tk : TA} {nm : Option Str}
variable {g : List Value → List Value → List Value} {gV : List V → List V → List V}
end
end L2
namespace L2
open PySem PySem.Spec PyProof.Rows
section
variable {X : Cx} {x : Str} {p pos : Pos} {e : Expr} {es : List Expr} {t : TA} {id T : String} {r : List V → Hp → VK → Prop}
end
end L2
namespace L2
open PySem PySem.Spec PyProof.Rows
section
variable {κ : Type} [DecidableEq κ]
def valV (kvs : List (κ × V)) (k : κ) : Option V := (kvs.find? fun kv => decide (kv.1 = k)).map (·.2)
def putK (kvs : List (κ × V)) (k : κ) (v : V) : List (κ × V) :=
  if (kvs.any fun kv => decide (kv.1 = k)) = true then kvs.map (fun kv => if kv.1 = k then (kv.1, v) else kv) else kvs ++ [(k, v)]
def dropK (kvs : List (κ × V)) (k : κ) : List (κ × V) := kvs.filter fun kv => decide (kv.1 ≠ k)
theorem valV_pos {p : κ × V} {r : List (κ × V)} {k : κ} (e : p.1 = k) : valV (p :: r) k = some p.2 := by simp [valV, List.find?_cons, e]
theorem valV_neg {p : κ × V} {r : List (κ × V)} {k : κ} (e : ¬ p.1 = k) : valV (p :: r) k = valV r k := by simp [valV, List.find?_cons, e]
theorem valV_any (k : κ) : ∀ kvs : List (κ × V), (kvs.any fun kv => decide (kv.1 = k)) = (valV kvs k).isSome
  | [] => rfl
  | p :: r => by
    rw [List.any_cons]
    by_cases e : p.1 = k
    · simp only [valV_pos e, decide_eq_true e, Bool.true_or, Option.isSome_some]
    · rw [valV_neg e, decide_eq_false e, Bool.false_or]; exact valV_any k r
theorem length_putK (kvs : List (κ × V)) (k : κ) (v : V) : (putK kvs k v).length ≤ kvs.length + 1 := by
  unfold putK
  split
  · rw [List.length_map]; omega
  · rw [List.length_append, List.length_cons, List.length_nil]; omega
theorem putK_new {kvs : List (κ × V)} {k : κ} (v : V) (h : valV kvs k = none) : putK kvs k v = kvs ++ [(k, v)] := by
  unfold putK
  rw [valV_any, h]
  exact if_neg (by decide)
theorem RelO.isSome_eq {o : Option V} {u : Option Value} (r : RelO o u) : o.isSome = u.isSome := by
  cases o with
  | none => cases u with
    | none => rfl
    | some _ => exact (show False from r).elim
  | some _ => cases u with
    | none => exact (show False from r).elim
    | some _ => rfl
theorem RelO.getD {o : Option V} {u : Option Value} {d : V} {d' : Value} (r : RelO o u) (rd : RelV d d') : RelV (o.getD d) (u.getD d') := by
  cases o with
  | none => cases u with
    | none => exact rd
    | some _ => exact (show False from r).elim
  | some _ => cases u with
    | none => exact (show False from r).elim
    | some _ => exact r
theorem KV.val {kvs : List (κ × V)} {vs : List (κ × Value)} (r : KV kvs vs) (k : κ) : RelO (valV kvs k) (valueAt vs k) := by
  unfold KV at r
  induction r with
  | nil => exact True.intro
  | @cons p q ps qs h t ih =>
    obtain ⟨h1, h2⟩ := h
    by_cases e : p.1 = k
    · have e' : q.1 = k := h1.symm.trans e
      have b : valueAt (q :: qs) k = some q.2 := by simp [valueAt, List.find?_cons, e']
      rw [valV_pos e, b]; exact h2
    · have e' : ¬ q.1 = k := fun z => e (h1.trans z)
      have b : valueAt (q :: qs) k = valueAt qs k := by simp [valueAt, List.find?_cons, e']
      rw [valV_neg e, b]; exact ih
theorem KV.any {kvs : List (κ × V)} {vs : List (κ × Value)} (r : KV kvs vs) (k : κ) : (kvs.any fun kv => decide (kv.1 = k)) = vs.any fun kv => decide (kv.1 = k) := by
  unfold KV at r
  induction r with
  | nil => rfl
  | cons h t ih => rw [List.any_cons, List.any_cons, ih, h.1]
theorem KV.repl {kvs : List (κ × V)} {vs : List (κ × Value)} (r : KV kvs vs) (k : κ) {y : V} {u : Value} (ry : RelV y u) :
    KV (kvs.map fun kv => if kv.1 = k then (kv.1, y) else kv) (vs.map fun kv => if kv.1 = k then (kv.1, u) else kv) := by
  unfold KV at r ⊢
  induction r with
  | nil => exact .nil
  | @cons p q ps qs h t ih =>
    rw [List.map_cons, List.map_cons]
    refine .cons ?_ ih
    obtain ⟨h1, h2⟩ := h
    by_cases e : p.1 = k
    · rw [if_pos e, if_pos (h1.symm.trans e)]; exact ⟨h1, ry⟩
    · rw [if_neg e, if_neg (fun z => e (h1.trans z))]; exact ⟨h1, h2⟩
theorem KV.put {kvs : List (κ × V)} {vs : List (κ × Value)} (r : KV kvs vs) (k : κ) {y : V} {u : Value} (ry : RelV y u) : KV (putK kvs k y) (stored vs k u) := by
  unfold putK stored
  rw [r.any k]
  by_cases e : (vs.any fun kv => decide (kv.1 = k)) = true
  · rw [if_pos e, if_pos e]; exact r.repl k ry
  · rw [if_neg e, if_neg e]; exact Paired.snoc r ⟨rfl, ry⟩
theorem KV.drop {kvs : List (κ × V)} {vs : List (κ × Value)} (r : KV kvs vs) (k : κ) : KV (dropK kvs k) (without vs k) := by
  unfold KV at r ⊢
  unfold dropK without
  induction r with
  | nil => exact .nil
  | @cons p q ps qs h t ih =>
    obtain ⟨h1, h2⟩ := h
    rw [List.filter_cons, List.filter_cons]
    by_cases e : p.1 = k
    · have a : ¬ decide (p.1 ≠ k) = true := by simp [e]
      have b : ¬ decide (q.1 ≠ k) = true := by simp [h1.symm.trans e]
      rw [if_neg a, if_neg b]; exact ih
    · have e' : ¬ q.1 = k := fun z => e (h1.trans z)
      have a : decide (p.1 ≠ k) = true := by simp [e]
      have b : decide (q.1 ≠ k) = true := by simp [e']
      rw [if_pos a, if_pos b]; exact .cons ⟨h1, h2⟩ ih
theorem KV.keys {kvs : List (κ × V)} {vs : List (κ × Value)} (r : KV kvs vs) : kvs.map (·.1) = vs.map (·.1) := by
  unfold KV at r
  induction r with
  | nil => rfl
  | cons h t ih => rw [List.map_cons, List.map_cons, ih, h.1]
theorem KV.length {kvs : List (κ × V)} {vs : List (κ × Value)} (r : KV kvs vs) : kvs.length = vs.length := Paired.length r
end
theorem kV_is {P : Program} {w : World} {k : Key} {u : Value} (r : RelV (kV k) u) : (mixKind P w).is k u = true := by
  cases k with
  | inl i => obtain ⟨t, e⟩ := (show ∃ t, u = Value.int i t from r); subst e; exact mixKind_int P w i t
  | inr x => obtain ⟨t, e⟩ := (show ∃ t, u = Value.str x t from r); subst e; exact mixKind_str P w x t
theorem items_are {P : Program} {w : World} : ∀ {ks : List Key} {us : List Value}, Vals (ks.map kV) us → ItemsAre (mixKind P w) ks us
  | [], _, r => by rw [List.map_nil] at r; cases r; exact .nil
  | k :: ks, _, r => by
    rw [List.map_cons] at r
    cases r with
    | cons h t => exact .cons (kV_is h) (items_are t)
abbrev KT (H : Hp) : List (List Key × V) → List (List Key × Addr × Value) → Prop := Paired fun p q => p.1 = q.1 ∧ H q.2.1 = some (.tup (p.1.map kV)) ∧ RelV p.2 q.2.2
theorem KT.val {H : Hp} {kvs : List (List Key × V)} {xs : List (List Key × Addr × Value)} (r : KT H kvs xs) (k : List Key) : RelO (valV kvs k) ((atKey xs k).map (·.2)) := by
  induction r with
  | nil => exact True.intro
  | @cons p q ps qs h t ih =>
    obtain ⟨h1, _, h2⟩ := h
    by_cases e : p.1 = k
    · have e' : q.1 = k := h1.symm.trans e
      have b : atKey (q :: qs) k = some q.2 := by simp [atKey, List.find?_cons, e']
      rw [valV_pos e, b]; exact h2
    · have e' : ¬ q.1 = k := fun z => e (h1.trans z)
      have b : atKey (q :: qs) k = atKey qs k := by simp [atKey, List.find?_cons, e']
      rw [valV_neg e, b]; exact ih
theorem KT.repl {H : Hp} {kvs : List (List Key × V)} {xs : List (List Key × Addr × Value)} (r : KT H kvs xs) (k : List Key) {y : V} {u : Value} (ry : RelV y u) :
    KT H (kvs.map fun kv => if kv.1 = k then (kv.1, y) else kv) (xs.map (putAt k u)) := by
  induction r with
  | nil => exact .nil
  | @cons p q ps qs h t ih =>
    rw [List.map_cons, List.map_cons]
    refine .cons ?_ ih
    obtain ⟨h1, h2, h3⟩ := h
    unfold putAt
    by_cases e : p.1 = k
    · rw [if_pos e, if_pos (h1.symm.trans e)]; exact ⟨h1, h2, ry⟩
    · rw [if_neg e, if_neg (fun z => e (h1.trans z))]; exact ⟨h1, h2, h3⟩
theorem KT.put {H : Hp} {kvs : List (List Key × V)} {xs : List (List Key × Addr × Value)} (r : KT H kvs xs) (k : List Key) {b : Addr} {y : V} {u : Value} (hb : H b = some (.tup (k.map kV))) (ry : RelV y u) :
    KT H (putK kvs k y) (storedH xs k b u) := by
  have e : (kvs.any fun kv => decide (kv.1 = k)) = (atKey xs k).isSome := by
    rw [valV_any, (r.val k).isSome_eq, Option.isSome_map]
  unfold putK storedH
  rw [e]
  by_cases q : (atKey xs k).isSome = true
  · rw [if_pos q, if_pos q]; exact r.repl k ry
  · rw [if_neg q, if_neg q]; exact Paired.snoc r ⟨rfl, hb, ry⟩
theorem KT.keeps {H H' : Hp} {kvs : List (List Key × V)} {xs : List (List Key × Addr × Value)} (r : KT H kvs xs) (ht : ∀ b ys, H b = some (.tup ys) → H' b = some (.tup ys)) : KT H' kvs xs :=
  Paired.mapP r fun _ _ z => ⟨z.1, ht _ _ z.2.1, z.2.2⟩
section
variable {P : Program} {w : World} {H : Hp} {h : Heap} {a : Addr}
theorem rd_of {u : HO} (ok : HOk P w H h) (e : Rd H a u) : ObjOk P w H h a u := e.ok ok
theorem dk_rd {kvs : List (Key × V)} (ok : HOk P w H h) (e : Rd H a (.dK kvs)) : kvs.length ≤ sizeLine ∧ (a == sysModules) = false ∧ ∃ vs, KV kvs vs ∧ h.DictOf (mixKind P w) a vs :=
  show ObjOk P w H h a (.dK kvs) from rd_of ok e
theorem dk_of {kvs : List (Key × V)} (ok : HOk P w H h) (e : H a = some (.dK kvs)) : kvs.length ≤ sizeLine ∧ (a == sysModules) = false ∧ ∃ vs, KV kvs vs ∧ h.DictOf (mixKind P w) a vs := dk_rd ok (.inl e)
theorem key_of {ks : List Key} (ok : HOk P w H h) (e : H a = some (.tup (ks.map kV))) : (tupleKind (mixKind P w)).is h ks a := by
  obtain ⟨_, its, r, o, h1, h2, n, h3⟩ := (show ObjOk P w H h a (.tup (ks.map kV)) from ok a _ e)
  exact ⟨o, its.toArray, n, h1, h2, h3, by simpa using items_are r⟩
theorem dt_rd {kvs : List (List Key × V)} (ok : HOk P w H h) (e : Rd H a (.dT kvs)) : kvs.length ≤ sizeLine ∧ (a == sysModules) = false ∧
    ∃ xs, KT H kvs xs ∧ h.DictOfH (tupleKind (mixKind P w)) a xs := by
  obtain ⟨z, y, xs, r, o, es, ep, h1, h2, h3, h4, h5⟩ := (show ObjOk P w H h a (.dT kvs) from rd_of ok e)
  refine ⟨z, y, xs, r, o, es, ep, h1, h2, h3, h4, fun x hx => ?_, h5⟩
  have all : ∀ {l : List (List Key × V)} {m : List (List Key × Addr × Value)}, KT H l m → ∀ x ∈ m, (tupleKind (mixKind P w)).is h x.1 x.2.1 := by
    intro l m q
    induction q with
    | nil => intro x hx; exact nomatch hx
    | @cons p q ps qs hq t ih =>
      intro x hx
      rcases List.mem_cons.mp hx with e | hx
      · subst e
        exact key_of ok (by rw [← hq.1]; exact hq.2.1)
      · exact ih x hx
  exact all r x hx
theorem dt_of {kvs : List (List Key × V)} (ok : HOk P w H h) (e : H a = some (.dT kvs)) : kvs.length ≤ sizeLine ∧ (a == sysModules) = false ∧
    ∃ xs, KT H kvs xs ∧ h.DictOfH (tupleKind (mixKind P w)) a xs := dt_rd ok (.inl e)
end
def DGet (H : Hp) (a : Addr) (y : V) (r : Option V) : Prop :=
  (∃ kvs k, Rd H a (.dK kvs) ∧ y = kV k ∧ r = valV kvs k) ∨ ∃ kvs k b, Rd H a (.dT kvs) ∧ y = .ref b ∧ H b = some (.tup (k.map kV)) ∧ r = valV kvs k
def DPut (H : Hp) (a : Addr) (y v : V) (H' : Hp) : Prop :=
  (∃ kvs k, H a = some (.dK kvs) ∧ y = kV k ∧ kvs.length < sizeLine ∧ H' = upd H a (.dK (putK kvs k v))) ∨
  ∃ kvs k b, H a = some (.dT kvs) ∧ y = .ref b ∧ H b = some (.tup (k.map kV)) ∧ kvs.length < sizeLine ∧ H' = upd H a (.dT (putK kvs k v))
theorem DGet.k {H : Hp} {a : Addr} {kvs : List (Key × V)} {k : Key} (e : H a = some (.dK kvs)) : DGet H a (kV k) (valV kvs k) := .inl ⟨kvs, k, .inl e, rfl, rfl⟩
theorem DGet.t {H : Hp} {a b : Addr} {kvs : List (List Key × V)} {k : List Key} (e : H a = some (.dT kvs)) (eb : H b = some (.tup (k.map kV))) : DGet H a (.ref b) (valV kvs k) := .inr ⟨kvs, k, b, .inl e, rfl, eb, rfl⟩
theorem DPut.k {H : Hp} {a : Addr} {kvs : List (Key × V)} {k : Key} {v : V} (e : H a = some (.dK kvs)) (hl : kvs.length < sizeLine) : DPut H a (kV k) v (upd H a (.dK (putK kvs k v))) := .inl ⟨kvs, k, e, rfl, hl, rfl⟩
theorem DPut.t {H : Hp} {a b : Addr} {kvs : List (List Key × V)} {k : List Key} {v : V} (e : H a = some (.dT kvs)) (eb : H b = some (.tup (k.map kV))) (hl : kvs.length < sizeLine) :
    DPut H a (.ref b) v (upd H a (.dT (putK kvs k v))) := .inr ⟨kvs, k, b, e, rfl, eb, hl, rfl⟩
section
variable {X : Cx} {pins : List (Addr × Obj)} {σ : St} {H : Hp} {s : Shared} {a : Addr} {y v : V} {u r : Value} {o : Option V} {A : Around} {E : Value → Shared → Prop}
theorem Inv.big (I : Inv X pins σ H s) : sysModules < s.heap.objs.size := by
  have h : mainGlobals < s.heap.objs.size := (I.mod.glob.keeps I.bk).lt
  exact Nat.lt_trans (by decide) h
theorem d_getItem {Q : Value → Shared → Prop} (hu : A.units + 1 < cLine) (I : Inv X pins σ H s) (g : DGet H a y (some v)) (ry : RelV y u) (h : ∀ w' s', Inv X pins σ H s' → RelV v w' → Q w' s') :
    wpAny (model X.prog X.w) A (getItem (.ref a) u) Q E s := by
  rcases g with ⟨kvs, k, e, ey, l⟩ | ⟨kvs, k, b, e, ey, eb, l⟩
  · subst ey
    obtain ⟨z, hd, vs, rel, dd⟩ := dk_rd I.hok e
    obtain ⟨w', hw, rw'⟩ := RelO.some_of (v := v) (o := valueAt vs k) (by rw [l]; exact rel.val k)
    exact wpAny_getItem_of (kV_is ry) dd.mapOf hw (h w' _ (I.tok _) rw')
  · subst ey
    cases (show u = Value.ref b from ry)
    obtain ⟨z, hd, xs, rel, dd⟩ := dt_rd I.hok e
    obtain ⟨w', hw, rw'⟩ := RelO.some_of (v := v) (o := (atKey xs k).map (·.2)) (by rw [l]; exact rel.val k)
    obtain ⟨p, hp, hp2⟩ := Option.map_eq_some_iff.mp hw
    refine wpAny_getItem_heap (tupleKind_room_in1 hu) (key_of I.hok eb) dd hp ?_
    rw [hp2]
    exact h w' _ (I.tok _) rw'
theorem d_write {h' : Heap} {t' : Nat} {ob : HO} (I : Inv X pins σ H s) (mu : Mut (H a)) (hs : Heap.SameBut a s.heap h') (he : ∃ q, h'.get? a = some q) (new : ObjOk X.prog X.w (upd H a ob) h' a ob) :
    Inv X pins σ (upd H a ob) { s with heap := h', toks := t' } :=
  I.write (x := a) (e := a) mu (.inl rfl) (fun b q hb z => (hs.2 b hb).trans z) he new
theorem dk_new {P : Program} {w : World} {H' : Hp} {h' : Heap} {kvs : List (Key × V)} {vs : List (Key × Value)} (z : kvs.length ≤ sizeLine) (hd : (a == sysModules) = false) (rel : KV kvs vs) (dd : h'.DictOf (mixKind P w) a vs) :
    ObjOk P w H' h' a (.dK kvs) := ⟨z, hd, vs, rel, dd⟩
theorem d_setItem {H' : Hp} {Q : Unit → Shared → Prop} (hu : A.units + 1 < cLine) (I : Inv X pins σ H s) (g : DPut H a y v H') (ry : RelV y u) (rv : RelV v r) (h : ∀ s', Inv X pins σ H' s' → Q () s') :
    wpAny (model X.prog X.w) A (setItem (.ref a) u r) Q E s := by
  rcases g with ⟨kvs, k, e, ey, l, eH⟩ | ⟨kvs, k, b, e, ey, eb, l, eH⟩
  · subst ey eH
    obtain ⟨z, hd, vs, rel, dd⟩ := dk_of I.hok e
    have hz : vs.length ≤ sizeLine := by rw [← rel.length]; exact z
    have hl : (putK kvs k v).length ≤ sizeLine := by have := length_putK kvs k v; omega
    refine wpAny_setItem_pairs (hsz := hz) (kV_is ry) dd fun h' dd' hs => h _ ?_
    have he : ∃ q, h'.get? a = some q := let ⟨q, _, _, hq, _⟩ := dd'; ⟨q, hq⟩
    exact d_write I (by rw [e]; exact True.intro) hs he (dk_new hl hd (rel.put k rv) dd')
  · subst ey eH
    cases (show u = Value.ref b from ry)
    obtain ⟨z, hd, xs, rel, dd⟩ := dt_of I.hok e
    have hz : xs.length ≤ sizeLine := by rw [← Paired.length rel]; exact z
    have hl : (putK kvs k v).length ≤ sizeLine := by have := length_putK kvs k v; omega
    refine wpAny_setItem_heap (hsz := hz) (tupleKind_room_in1 hu) (key_of I.hok eb) dd fun h' dd' hs => h _ ?_
    obtain ⟨q, es, ep, hq, h2, h3, h4, _, h5⟩ := dd'
    refine d_write I (by rw [e]; exact True.intro) hs ⟨q, hq⟩ ⟨hl, hd, _, (rel.put k eb rv).keeps fun c ys ec => ?_, q, es, ep, hq, h2, h3, h4, h5⟩
    rw [upd_ne (ne_of ec e (fun z => nomatch z))]
    exact ec
end
section
variable {X : Cx} {pins : List (Addr × Obj)} {σ : St} {H : Hp} {s : Shared} {a : Addr} {kvs : List (Key × V)} {k : Key} {u : Value} {A : Around} {E : Value → Shared → Prop}
end
def NoSl (i : Expr) : Prop := ∀ ov iv, subscripted i false ov iv = operate [ov, iv] (getItem ov iv)
theorem subD_of {prog : Program} {w : World} {A : Around} {E : Value → Shared → Prop} {s : Shared} {env : Env} {value slice : Expr} {pos : Pos} {T id : String} {Q : Value → Shared → Prop}
    (hl : typeLookup (.type T) "__getitem__" = pure (some (.builtin id))) (hs : NoSl slice)
    (h : wpAny (model prog w) A (eval value env) (fun o s₁ => wpAny (model prog w) A (eval slice env) (fun i s₂ => s₂.TypeIs o T ∧ wpAny (model prog w) A (getItem o i) Q E s₂) E s₁) E s) :
    wpAny (model prog w) A (eval (.Subscript value slice pos) env) Q E s := by
  refine Subscript_ (wpAny_mono h (fun o s₁ h₁ => wpAny_mono h₁ (fun i s₂ h₂ => ?_) fun _ _ x => x) fun _ _ x => x)
  obtain ⟨hT, h₂⟩ := h₂
  unfold subscriptTail
  refine wpAny_bind ?_
  rw [getitemInPython_of_ne hT.not_modules]
  refine wpAny_bind (wpAny_specialOf hT hl ?_)
  have fin : wpAny (model prog w) A (subscripted slice false o i) (fun r s₃ => wpAny (model prog w) A (letTemporaryGo value o r >>= fun _ => pure r) Q E s₃) E s₂ := by
    rw [hs o i]
    exact wpAny_operating (wpAny_mono h₂ (fun r s₃ h₃ => wpAny_bind (wpAny_letTemporaryGo (wpAny_pure h₃))) fun _ _ x => x)
  first
    | exact wpAny_pure (wpAny_bind fin)
    | exact wpAny_bind (wpAny_pure (wpAny_bind fin))
    | exact wpAny_bind fin
theorem dict_typeIs {X : Cx} {pins : List (Addr × Obj)} {σ : St} {H : Hp} {s : Shared} {a : Addr} {y : V} {o : Option V} (I : Inv X pins σ H s) (g : DGet H a y o) : s.TypeIs (.ref a) "dict" := by
  rcases g with ⟨kvs, k, e, _, _⟩ | ⟨kvs, k, b, e, _, _, _⟩
  · obtain ⟨_, _, vs, _, dd⟩ := dk_rd I.hok e
    exact dd.typeIs
  · obtain ⟨_, _, xs, _, dd⟩ := dt_rd I.hok e
    exact dd.typeIs
def tDGet (td ty : TE) : TE := fun σ H Q => td σ H fun x H1 => ty σ H1 fun y H2 => ∃ a v, x = .ref a ∧ DGet H2 a y (some v) ∧ Q v H2
def sDPut (td ty tv : TE) : TS := fun D σ H => tv σ H fun v H1 => td σ H1 fun x H2 => ty σ H2 fun y H3 => ∃ a H4, x = .ref a ∧ DPut H3 a y v H4 ∧ D.nx σ H4
section
variable {X : Cx} {o i e value : Expr} {pos pos' tpos : Pos} {td ty tv : TE}
theorem pe_dget (hu : X.A.units + 1 < cLine) (ho : PE X o td) (hi : PE X i ty) (hs : NoSl i) : PE X (.Subscript o i pos) (tDGet td ty) := by
  intro pins s σ H Q I h
  refine subD_of PySem.F.slot_dict_getitem.lookup hs (thn (ho pins s σ H _ I h) fun u s1 ⟨x, H1, I1, rx, q1⟩ => thn (hi pins s1 σ H1 _ I1 q1) fun iv s2 ⟨y, H2, I2, ry, a, v, ex, g, q2⟩ => ?_)
  subst ex
  obtain rfl : u = Value.ref a := rx
  exact ⟨dict_typeIs I2 g, d_getItem hu I2 g ry fun w' s3 I3 rw' => ⟨v, H2, I3, rw', q2⟩⟩
theorem ps_dput (hu : X.A.units + 1 < cLine) (ho : PE X o td) (hi : PE X i ty) (hv : PE X value tv) (hs : swapsWith value (some (.Subscript o i pos')) pos.line X.env = pure false) :
    PS X (.Assign [.Subscript o i pos'] value pos) (sDPut td ty tv) := by
  intro pins s σ H D I h
  refine wpAny_Assign_Subscript (thn (hv pins s σ H _ I h) fun r s1 ⟨v, H1, I1, rv, q1⟩ => thn (ho pins s1 σ H1 _ I1 q1) fun u s2 ⟨x, H2, I2, rx, q2⟩ => thn (hi pins s2 σ H2 _ I2 q2) fun iv s3 ⟨y, H3, I3, ry, a, H4, ex, g, q3⟩ => ?_) hs
  subst ex
  obtain rfl : u = Value.ref a := rx
  exact d_setItem hu I3 g ry rv fun s4 I4 => ⟨σ, H4, I4, q3⟩
end
theorem dk_empty {P : Program} {w : World} {H : Hp} (h : Heap) (hb : sysModules < h.objs.size) : ObjOk P w H (h.push { cls := .type "dict", data := .dict #[] }) h.objs.size (.dK []) :=
  ⟨Nat.zero_le _, beq_eq_false_iff_ne.mpr (Ne.symm (Nat.ne_of_lt hb)), [], .nil, Heap.DictOf.new h⟩
def tDNewK : TE := fun _ H Q => ∀ p, H p = none → Q (.ref p) (upd H p (.dK []))
section
variable {X : Cx} {pos : Pos}
theorem pe_dnewK : PE X (.Dict [] [] pos) tDNewK := fun pins s σ H Q I h =>
  wpAny_Dict_empty ⟨.ref s.heap.objs.size, _, I.laid (a := s.heap.objs.size) (o := .dK []) (t' := s.toks) (fun _ _ q => Heap.get?_push_of_some _ q) (Nat.le_refl _) (dk_empty s.heap I.big), rfl, h _ (I.hok.fresh (Nat.le_refl _))⟩
end
structure M1 (X : Cx) (o : Expr) (m : Str) (apos : Pos) (e : Expr) (cpos : Pos) : Prop where
  base : attributeBase o m X.env (eval o X.env) = eval o X.env
  few : ((backTo cpos (starEach [e] X.env)).all (fun x => !x.1) && (backToKw cpos (keywordEach [] X.env)).all (fun x => x.1.isSome)
    && decide (([e] : List Expr).length + ([] : List Keyword).length + (if ([] : List Keyword).isEmpty then 0 else 1) < 30)) = true
  line : (apos.endLine == cpos.line) = true
  trees : backTo cpos (starEach [e] X.env) = [(false, eval e X.env)]
structure M2 (X : Cx) (o : Expr) (m : Str) (apos : Pos) (e f : Expr) (cpos : Pos) : Prop where
  base : attributeBase o m X.env (eval o X.env) = eval o X.env
  few : ((backTo cpos (starEach [e, f] X.env)).all (fun x => !x.1) && (backToKw cpos (keywordEach [] X.env)).all (fun x => x.1.isSome)
    && decide (([e, f] : List Expr).length + ([] : List Keyword).length + (if ([] : List Keyword).isEmpty then 0 else 1) < 30)) = true
  line : (apos.endLine == cpos.line) = true
  trees : backTo cpos (starEach [e, f] X.env) = [(false, eval e X.env), (false, eval f X.env)]
def IsD (H : Hp) (a : Addr) : Prop := (∃ kvs, Rd H a (.dK kvs)) ∨ ∃ kvs, Rd H a (.dT kvs)
theorem isD_at {X : Cx} {pins : List (Addr × Obj)} {σ : St} {H : Hp} {s : Shared} {a : Addr} (I : Inv X pins σ H s) (d : IsD H a) :
    s.TypeIs (.ref a) "dict" ∧ (∀ b, Value.ref a = .ref b → ∃ ob, s.heap.get? b = some ob ∧ ob.dict = none) ∧ (a == sysModules) = false := by
  rcases d with ⟨kvs, e⟩ | ⟨kvs, e⟩
  · obtain ⟨_, hd, vs, _, dd⟩ := dk_rd I.hok e
    refine ⟨dd.typeIs, fun b q => ?_, hd⟩
    cases q
    obtain ⟨ob, _, _, h1, h2, _⟩ := dd
    exact ⟨ob, h1, h2.2.1⟩
  · obtain ⟨_, hd, xs, _, dd⟩ := dt_rd I.hok e
    refine ⟨dd.typeIs, fun b q => ?_, hd⟩
    cases q
    obtain ⟨ob, _, _, h1, h2, _⟩ := dd
    exact ⟨ob, h1, h2.2.1⟩
section
variable {X : Cx} {pins : List (Addr × Obj)} {σ : St} {H : Hp} {s : Shared} {a : Addr} {y d : V} {u r : Value} {o : Option V} {A : Around} {E : Value → Shared → Prop}
theorem d_get2 {Q : Value → Shared → Prop} (hu : A.units + 1 < cLine) (I : Inv X pins σ H s) (g : DGet H a y o) (ry : RelV y u) (rd : RelV d r) (h : ∀ w' s', Inv X pins σ H s' → RelV (o.getD d) w' → Q w' s') :
    wpAny (model X.prog X.w) A (call (.builtin "dict.get") [.ref a, u, r]) Q E s := by
  rcases g with ⟨kvs, k, e, ey, l⟩ | ⟨kvs, k, b, e, ey, eb, l⟩
  · subst ey
    obtain ⟨z, hd, vs, rel, dd⟩ := dk_rd I.hok e
    refine call_meetsIn PySem.F.slot_dict_get dd.typeIs PySem.F.entry_dict_get (PySem.F.args_dict_get_3 _ _ _) (meets_dict_get_default (mixKind X.prog X.w) a (kV_is ry) hd r) ⟨_, dd.mapOf, h _ _ (I.tok _) ?_⟩
    rw [l]
    exact (rel.val k).getD rd
  · subst ey
    cases (show u = Value.ref b from ry)
    obtain ⟨z, hd, xs, rel, dd⟩ := dt_rd I.hok e
    refine call_meetsIn PySem.F.slot_dict_get dd.typeIs PySem.F.entry_dict_get (PySem.F.args_dict_get_3 _ _ _) (meetsH_dict_get_default (tupleKind (mixKind X.prog X.w)) a b hd r) ⟨tupleKind_room_in1 hu, k, xs, key_of I.hok eb, dd, h _ _ (I.tok _) ?_⟩
    rw [l]
    exact (rel.val k).getD rd
end
def tDGet2 (td ty tx : TE) : TE := fun σ H Q => td σ H fun x H1 => ∃ a, x = .ref a ∧ IsD H1 a ∧ ty σ H1 fun y H2 => tx σ H2 fun z H3 => ∃ o, DGet H3 a y o ∧ Q (o.getD z) H3
section
variable {X : Cx} {o e f : Expr} {apos cpos : Pos} {td ty tx : TE}
theorem pe_dget2 (hu : X.A.units + 1 < cLine) (ho : PE X o td) (he : PE X e ty) (hf : PE X f tx) (m : M2 X o "get" apos e f cpos) : PE X (.Call (.Attribute o "get" apos) [e, f] [] cpos) (tDGet2 td ty tx) := by
  intro pins s σ H Q I h
  refine wpAny_Call_method m.base m.few m.line PySem.F.plainAttrs_dict PySem.F.slot_dict_get PySem.F.type_dict_get (thn (ho pins s σ H _ I h) fun u s1 ⟨x, H1, I1, rx, a, ex, d, q1⟩ => ?_)
  subst ex
  obtain rfl : u = Value.ref a := rx
  obtain ⟨t1, t2, _⟩ := isD_at I1 d
  refine ⟨t1, t2, ?_⟩
  rw [m.trees]
  refine Calls.callWith_builtin rfl (Calls.evalArgs_plain (Calls.spliced_cons (thn (he pins s1 σ H1 _ I1 q1) fun iv s2 ⟨y, H2, I2, ry, q2⟩ =>
    Calls.spliced_cons (thn (hf pins s2 σ H2 _ I2 q2) fun fv s3 ⟨z, H3, I3, rz, ov, g, q3⟩ => Calls.spliced_nil ?_))))
  exact d_get2 hu I3 g ry rz fun w' s4 I4 rw' => ⟨_, H3, I4, rw', q3⟩
end
section
variable {X : Cx} {pins : List (Addr × Obj)} {σ : St} {H : Hp} {s : Shared} {a : Addr} {kvs : List (Key × V)} {A : Around} {E : Value → Shared → Prop}
end
section
variable {X : Cx} {pins : List (Addr × Obj)} {σ : St} {H : Hp} {s : Shared} {a : Addr} {y : V} {u : Value} {A : Around} {E : Value → Shared → Prop}
end
end L2
namespace Att
open PySem PySem.W PySem.Calls PyProof.Rows
section
variable {prog : Program} {w : World} {A : Around} {E : Value → Shared → Prop} {s : Shared} {K : Frag}
end
end Att
namespace L2
open PySem PySem.Spec PyProof.Rows
end L2
namespace L2
open PySem PySem.Spec PyProof.Rows
end L2
namespace L2
open PySem PySem.Spec PyProof.Rows
section
variable {P : Program} {w : World} {K : PySem.W.Frag} {mg : Str → Option Value} {base : Heap}
end
section
variable {X : Cx}
end
section
variable {κ : Type} [DecidableEq κ]
end
end L2
set_option Elab.async false
set_option linter.all false
set_option maxRecDepth 100000
namespace L2
open PySem PySem.Spec PyProof.Rows
section
variable {P : Program} {w : World} {K : PySem.W.Frag} {mg : Str → Option Value} {base : Heap}
end
end L2
set_option Elab.async false
set_option linter.all false
set_option maxRecDepth 100000
namespace L2
open PySem PySem.Spec PyProof.Rows
section
open PySem.W PySem.Builtin PySem.Builtin.ObjectAttr PySem.Builtin.Getset_descriptor
variable {K : Frag} {D x : Addr} {prog : Program} {w : World} {A : Around} {E : Value → Shared → Prop} {s : Shared}
theorem x_class (h1 : findIn K (.ref D) "__getattribute__" = some (some (.builtin "BaseException.__getattribute__"))) (h2 : findIn K (.ref D) "__getattr__" = some none) (ha : findIn K (.ref D) "__class__" = some (some (.builtin "object.__class__"))) (hn : specialIn K (.builtin "object.__class__") "__get__" = some (some (.builtin "getset_descriptor.__get__")))
    (htk : takesIn K (.builtin "object.__class__") = some true) (hm : mroIn K D (.type "object") = some true) (hb : mroIn K D (.type "BaseException") = some true) {Q : Option Value → Shared → Prop} (X : K.In s.heap) (T : OfC s.heap x D) (q : Q (some (.ref D)) { s with toks := s.toks + 1 }) : wpAny (model prog w) A (getAttr? (.ref x) "__class__") Q E s := by
  obtain ⟨hh, gg, dr, tk, oo⟩ := s
  have T0 := T.ty (M := model prog w)
  have T1 := looks_findIn (M := model prog w) X h1
  have T2 := looks_findIn (M := model prog w) X h2
  have T3 := e_find (M := model prog w) (x := x) X ha hn htk
  have T4 := looks_mroIn (M := model prog w) X hm
  have T5 := looks_mroIn (M := model prog w) X hb
  have hx2 : (onTheHeap (Value.ref D) && Value.builtin "BaseException.__getattribute__" == Value.builtin "object.__getattribute__") = false := by
    have : (Value.builtin "BaseException.__getattribute__" == Value.builtin "object.__getattribute__") = false := by decide +kernel
    rw [this]
    exact Bool.and_false _
  have f3 := F.excAttr_ValueError.ga.bind (.ref x)
  unfold getAttr? getAttrBy? getAttrBy
  refine wpAny_bind (wpAny_mkText (wpAny_bind (wpAny_attempt (wpAny_holding (wpAny_bind (T0.at (wpAny_bind (T1.at ?_))))))))
  dsimp only
  rw [hx2]
  show wpAny _ _ (getAttrByItsOwn _ _ _ _ _ _) _ _ _
  unfold getAttrByItsOwn hookBefore
  refine wpAny_bind (T2.at (wpAny_bind (wpAny_attempt (wpAny_holding ?_))))
  show wpAny _ _ (boundAndCalled _ _ _) _ _ _
  unfold boundAndCalled
  rw [f3]
  refine wpAny_bind (wpAny_pure ?_)
  have chk : ∀ (A' : Around) (Q' : Unit → Shared → Prop) (E' : Value → Shared → Prop) (nv : Value), Q' () ⟨hh, gg, dr, tk + 1, oo⟩ → wpAny (model prog w) A' (checkBuiltinCall "BaseException.__getattribute__" ⟨[.ref x, nv], []⟩) Q' E' ⟨hh, gg, dr, tk + 1, oo⟩ := fun A' Q' E' nv hq => by
    have hk : builtinKind "BaseException.__getattribute__" = some .slot := by decide +kernel
    have hsplit : splitId "BaseException.__getattribute__" = some ("BaseException", "__getattribute__") := by decide +kernel
    have ha := F.args_bexc_ga (.ref x) nv
    simp only [checkBuiltinCall, hk, hsplit]
    refine wpAny_bind ?_
    unfold isInstance
    have L0 := T0
    have L1 := T5
    repeat lk
    exact hq
  show wpAny _ _ (call (.builtin "BaseException.__getattribute__") [.ref x, .str "__class__" tk]) _ _ _
  refine wpAny_call (codeAny_call_builtin F.excAttr_ValueError.ga.plain F.entry_bexc_ga (chk _ _ _ _ ?_))
  unfold Builtin.«object.__getattribute__»
  iterate 18 lk
  show wpAny _ _ (holding [Value.builtin "object.__class__"] (call (.builtin "getset_descriptor.__get__") [.builtin "object.__class__", .ref x, .ref D]) >>= ret) _ _ _
  refine wpAny_bind (wpAny_holding (wpAny_call (codeAny_call_builtin KF.slot_gs.plain KF.entry_gs (KF.slot_gs.check _ _ _ _ _ _ _ _ KF.type_class (KF.args_gs _ _ _) ?_))))
  unfold Builtin.«getset_descriptor.__get__»
  unfold descrGet
  rw [dga_obj]
  refine wpAny_bind (wpAny_pure ?_)
  unfold descrGetter descrCheckInstance
  unfold descrNameAndClass isInstance
  simp only [KF.owner_class]
  have L0 := T0
  have L1 := T4
  repeat lk
  refine ⟨Code.quiet_builtin _ (by decide +kernel), (codeAny_builtin KF.entry_class ?_)⟩
  unfold Builtin.«object.__class__»
  unfold shownTypeOf
  repeat lk
  exact q
structure ErrX (K : Frag) (D : Addr) : Prop where
  h1 : findIn K (.ref D) "__getattribute__" = some (some (.builtin "BaseException.__getattribute__"))
  h2 : findIn K (.ref D) "__getattr__" = some none
  hd : hasDictIn K D = true
  ha : findIn K (.ref D) "__class__" = some (some (.builtin "object.__class__"))
  hn : specialIn K (.builtin "object.__class__") "__get__" = some (some (.builtin "getset_descriptor.__get__"))
  htk : takesIn K (.builtin "object.__class__") = some true
  hm : mroIn K D (.type "object") = some true
  hb : mroIn K D (.type "BaseException") = some true
theorem ErrX.kit (k : ErrX K D) : KitX K (.ref x) (.ref D) (fun h => OfC h x D) where
  ty := fun _ _ _ I => I.ty
  it := fun _ _ X _ => by
    obtain ⟨cdD, hcD, _⟩ := any_some k.hd
    unfold clsIn at hcD
    split at hcD
    · rename_i c1 d1 cd1 sl1 ho
      intro A1 Q1 E1 s1 kk q
      unfold isType loadHead
      exact wpAny_bind (wpAny_loadPart (kk _ _ (X _ _ ho)) (wpAny_pure q))
    · cases hcD
  ne := fun h tp dd its n sl X htp => by
    obtain ⟨cdD, hcD, _⟩ := any_some k.hd
    refine Bool.eq_false_iff.mpr fun q => ?_
    have e : D = tp := Value.ref.inj (beq_iff_eq.mp q)
    subst e
    unfold clsIn at hcD
    split at hcD
    · rename_i c1 d1 cd1 sl1 ho
      have z := (X _ _ ho).symm.trans htp
      cases z
    · cases hcD
  ca := fun X I q => x_class k.h1 k.h2 k.ha k.hn k.htk k.hm k.hb X I q
end
end L2
set_option Elab.async false
set_option linter.all false
set_option maxRecDepth 100000
namespace L2
open PySem PySem.Spec PyProof.Rows
theorem ints_at {ks : List Int} : ∀ {us : List Value}, us.length = ks.length → (∀ (j : Nat) (k : Int), ks[j]? = some k → ∀ v : Value, us[j]? = some v → ∃ t, v = Value.int k t) → IntsAre us ks := by
  induction ks with
  | nil =>
    intro us hl _
    cases us with
    | nil => exact .nil
    | cons _ _ => cases hl
  | cons k t ih =>
    intro us hl h
    cases us with
    | nil => cases hl
    | cons u r =>
      obtain ⟨tk, rfl⟩ := h 0 k rfl u rfl
      exact .cons k tk (ih (by simpa using hl) fun j k' hk v hv => h (j + 1) k' hk v hv)
section
variable {P : Program} {w : World} {A : Around} {E : Value → Shared → Prop}
theorem collect_D {s : Shared} {a : Addr} {kvs : List (Key × Value)} {ks : List Int} {ep : Nat} {Q : List Value → Shared → Prop} (hh : A.handled = none) (lo : (a == sysModules) = false) (D : s.heap.DictAt (mixKind P w) a kvs ep) (hk : kvs.map (·.1) = ks.map Sum.inl) (hn : ks.length ≤ 1000)
    (q : ∀ (h' : Heap) (tk : Nat) (vs : List Value), (∀ b o, s.heap.get? b = some o → h'.get? b = some o) → s.heap.objs.size ≤ h'.objs.size → IntsAre vs ks → Q vs { s with heap := h', toks := tk }) : wpAny (model P w) A (collect (.ref a)) Q E s := by
  have hl : kvs.length = ks.length := by
    have := congrArg List.length hk
    simpa using this
  have la : a < s.heap.objs.size := D.lt_size
  unfold collect
  refine wpAny_bind (wpAny_runValue (codeAny_builtin F.entry_proto_collect ?_))
  rw [Around.under_plainId F.plain_proto_collect _]
  refine wpAny_bind (m := newList []) (wpAny_newObj_type (wpAny_pure ⟨plainId_quiet F.plain_list_iadd _, codeAny_builtin F.entry_list_iadd ?_⟩))
  rw [Around.under_plainId F.plain_list_iadd _]
  obtain ⟨H0, eH0⟩ : ∃ H0 : Heap, H0 = s.heap.push { cls := .type "list", data := .seq ([] : List Value).toArray } := ⟨_, rfl⟩
  have k0 : ∀ b o, s.heap.get? b = some o → H0.get? b = some o := fun b o e => by rw [eH0]; exact Heap.get?_push_of_some _ e
  have g0 : H0.get? s.heap.objs.size = some { cls := .type "list", data := .seq #[] } := by rw [eH0]; exact Heap.get?_push_size _ rfl
  show wpAny _ A.in1 (Builtin.List.listExtendWith (.ref s.heap.objs.size) (.ref a) (.ref s.heap.objs.size)) _ _ { s with heap := s.heap.push _ }
  rw [← eH0]
  have Kd := PySem.W.kdl_dict (prog := P) (w := w) (knd := mixKind P w) (kvs := kvs) (ep := ep) lo
  have D0 : H0.DictAt (mixKind P w) a kvs ep := Kd.keep _ _ D fun b _ o e => k0 b o e
  have fin : ∀ (h' : Heap) (tk : Nat) (acc : Array Value), (∀ b o, b ≠ s.heap.objs.size → H0.get? b = some o → h'.get? b = some o) → s.heap.objs.size < h'.objs.size → ItemsOf (fun i v => ∃ k x, kvs[i]? = some (k, x) ∧ (mixKind P w).is k v = true) acc kvs.length → Q acc.toList { s with heap := h', toks := tk } := fun h' tk acc k1 z it => by
    refine q h' tk acc.toList (fun b o e => k1 b o (Nat.ne_of_lt (Heap.lt_size e)) (k0 b o e)) (Nat.le_of_lt z) (ints_at (by rw [Array.length_toList, it.1, hl]) fun j k hj v hv => ?_)
    obtain ⟨k', x, e1, e2⟩ := it.2 j v (by rw [← Array.getElem?_toList]; exact hv)
    have e3 : (kvs.map (·.1))[j]? = some k' := by rw [List.getElem?_map, e1]; rfl
    rw [hk, List.getElem?_map, hj] at e3
    cases e3
    exact Value.isInt_shape e2
  have key := PySem.W.kdl_extend (A := A) (s := { s with heap := H0 }) (R := fun r s' => ∃ h' tk acc c, r = .ok (.ret (.ref s.heap.objs.size)) ∧ s' = { s with heap := h', toks := tk } ∧ h'.get? s.heap.objs.size = some { cls := .type "list", data := .seq acc c } ∧ Q acc.toList { s with heap := h', toks := tk })
    Kd hh D0 s.heap.objs.size (Nat.ne_of_gt la) (Nat.ne_of_gt la) (.ref s.heap.objs.size) 0 g0 (fun h' tk acc c k1 hS it => ⟨h', tk, acc, c, rfl, rfl, hS, fin h' tk acc k1 (Heap.lt_size hS) it⟩) (by rw [hl]; exact Nat.le_of_lt (small1000 hn))
  refine wpAny_mono key (fun f s' y => ?_) fun e s' y => ?_
  · cases f with
    | done f =>
      obtain ⟨h', tk, acc, c, e, rfl, hS, z⟩ := y
      cases e
      exact wpAny_bind (wpAny_load hS (wpAny_pure z))
    | again c1 =>
      refine ⟨y.1, codeAny_mono y.2 fun r s2 y2 => ?_⟩
      obtain ⟨h', tk, acc, c, rfl, rfl, hS, z⟩ := y2
      exact wpAny_bind (wpAny_load hS (wpAny_pure z))
  · obtain ⟨_, _, _, _, e', _⟩ := y
    cases e'
theorem sorted_D {s : Shared} {a : Addr} {kvs : List (Key × Value)} {ks : List Int} {Q : Value → Shared → Prop} (hh : A.handled = none) (lo : (a == sysModules) = false) (D : s.heap.DictOf (mixKind P w) a kvs) (hk : kvs.map (·.1) = ks.map Sum.inl) (hn : ks.length < 64)
    (q : ∀ (s' : Shared) (r : Addr) (vs : List Value) (ns : List Int), (∀ b o, s.heap.get? b = some o → s'.heap.get? b = some o) → s'.gens = s.gens → s'.os = s.os → s.heap.objs.size ≤ r →
      (∃ e, s'.heap.get? r = some (seqObj "list" vs.toArray e)) → IntsAre vs ns → ns.Perm ks → ns.Pairwise (· ≤ ·) → Q (.ref r) s') :
    wpAny (model P w) A (call (.builtin "sorted") [.ref a]) Q E s := by
  have hl : kvs.length = ks.length := by
    have := congrArg List.length hk
    simpa using this
  obtain ⟨ep, hat⟩ := D.dictAt
  refine Calls.call_function_entry kind_sorted plain_sorted entry_sorted (args_sorted1 _) ?_
  unfold Builtin.«sorted»
  refine wpAny_bind (m := checkCount "sorted" 1 1 _) (wpAny_pure ?_)
  refine wpAny_bind (collect_D (by exact hh) lo hat hk (by omega) fun h' tk acc k1 z0 hi => ?_)
  have h64 : acc.length < 64 := by
    have e1 := hi.length
    omega
  refine wpAny_bind (wpAny_newList (hsz := Nat.le_trans (Nat.le_of_lt h64) (by decide)) ?_)
  have hoL : (h'.push (seqObj "list" acc.toArray 0)).get? h'.objs.size = some (seqObj "list" acc.toArray 0) := Heap.get?_push_size _ rfl
  show wpAny _ _ _ _ _ { s with heap := h'.push (seqObj "list" acc.toArray 0), toks := tk }
  refine wpAny_bind (wpAny_holding (wpAny_call_entry slot_list_sort ⟨_, hoL, rfl⟩ entry_list_sort (list_sort_tree hoL hi h64 fun out ns' a1 a2 a3 => ⟨_, rfl, ?_⟩) (args_list_sort _)))
  obtain ⟨H1, eH1⟩ : ∃ H1, H1 = h'.push (seqObj "list" acc.toArray 0) := ⟨_, rfl⟩
  have z2 : H1.objs.size = h'.objs.size + 1 := by rw [eH1]; exact size_push' _ _
  have kk : ∀ b o, h'.get? b = some o → (sortedHeap H1 h'.objs.size acc out).get? b = some o := fun b o e => by
    rw [sortedHeap_old (Nat.ne_of_lt (Heap.lt_size e)) (by rw [z2]; exact Nat.lt_succ_of_lt (Heap.lt_size e)), eH1]
    exact Heap.get?_push_of_some _ e
  have ka : ∃ e, (sortedHeap H1 h'.objs.size acc out).get? h'.objs.size = some (seqObj "list" out e) := sortedHeap_at (n := 0) (by rw [eH1]; exact hoL)
  rw [← eH1]
  generalize sortedHeap H1 h'.objs.size acc out = H2 at kk ka ⊢
  refine wpAny_pure ⟨_, rfl, q _ _ out.toList ns' (fun b o e => ?_) rfl rfl ?_ ?_ a1 a2 a3⟩
  · exact kk _ _ (k1 _ _ e)
  · exact z0
  · exact ka
end
section
variable {X : Cx}
theorem call_sortedD (hc : X.calm = true) : CallR X (.builtin "sorted") (fun xs H Q => ∃ (p : Addr) (kvs : List (Key × V)) (ks : List Int), xs = [.ref p] ∧ H p = some (.dK kvs) ∧ kvs.map (·.1) = ks.map Sum.inl ∧ ks.length < 64 ∧ ∀ l, H l = none → Q (.ref l) (upd H l (.lst ((sortI ks).map V.int)))) := by
  intro pins s σ H xs us Q I r h
  obtain ⟨p, kvs, ks, rfl, hq, hk, hl, q⟩ := h
  obtain ⟨u, rfl, ru⟩ := vals1 r
  cases (show u = Value.ref p from ru)
  obtain ⟨_, lo, vs, kv, dd⟩ := dk_of I.hok hq
  refine sorted_D (I.ok.hd hc) lo dd (kv.keys.symm.trans hk) hl fun s' l us ns k1 g1 o1 z1 hl2 hi hp hs => ?_
  obtain ⟨e, he⟩ := hl2
  have e2 := sortI_of hp hs
  subst e2
  have fr : H l = none := I.hok.fresh z1
  refine ⟨.ref l, upd H l (.lst ((sortI ks).map V.int)), I.call' (ch := []) o1 (Un.laid k1 z1 fr) ?_ (by rw [g1]; exact I.bare) (fun b hb => absurd hb (by simp)), rfl, q _ fr⟩
  refine I.hok.laid k1 z1 ⟨by rw [List.length_map, sortI_len]; exact Nat.le_trans (Nat.le_of_lt hl) (by decide), us, e, vals_ints hi, he⟩
end
section
variable {X : Cx} {CX : CXT} {k : Nat} {f C : Addr} {fd : FuncData} {ps : List Str} {sp : Sp} {dvs : List V} {ds : List Value} {Th : St → XK} {x m : Str} {p pos apos : Pos} {e o : Expr} {es : List Expr} {ta : TE} {t : TA}
end
structure DfMF (K : PySem.W.Frag) (C : Addr) (m qual : Str) (st : Stmt) (ps : List Str) where
  f : Addr
  c : Addr
  P : Addr
  fd : FuncData
  ex : ∃ (oc : Value) (od : Option Addr) (kV doc pm : Value) (an : Option Addr) (ct : Value) (osl : Array (Option Value)),
    fd = PySem.W.fnOf m qual (defArgs st) (defBody st) (defScope st) .none kV doc pm an (.ref c) ct ∧ K.lookup f = some ⟨oc, od, .func fd, osl⟩
  cd : PySem.W.codeIn K (.ref c) qual = true
  ch : PySem.W.codeHdIn K c P = true
  nt : K.lookup P = none
  me : Meth K C m f
  b : Binds K fd ps []
section
variable {P : Program} {w : World} {K : PySem.W.Frag} {mg : Str → Option Value} {base : Heap}
theorem DfMF.ok {C : Addr} {m qual : Str} {st : Stmt} {N ps fz : List Str} {k : Nat} {sp : Sp} (D : DfMF K C m qual st ps) (hK : K.In base) (S : FnScope N ps (defScope st)) (hfz : ∀ x ∈ fz, (defScope st).names.lookup x = some .cell) (len : ∀ vs H Q E, sp vs H Q E → vs.length = ps.length)
    (hbody : ∀ (A : Around) (outer : List Env) (s : Shared) (H : Hp) (vs : List V) (Q : VK) (E : XK), Room k (A.deeper (envOfC qual (defScope st) s.heap.objs.size D.f (.ref D.c))) → sp vs H Q E →
      ∀ H1 : Hp, Same H H1 → (∀ (i : Nat) y v, y ∈ fz → ps[i]? = some y → vs[i]? = some v → ∃ c, (envOfC qual (defScope st) s.heap.objs.size D.f (.ref D.c)).cells.lookup y = some c ∧ CellV H1 c v) → PySem.W.CodeHd base D.c D.P →
      ∃ t, PSs (cxOf CX0 P w K mg base N qual (defScope st) D.f (.ref D.c) A outer s H E (fun y => !fz.contains y)).nox (defBody st) t ∧ t { nx := fun _ H' => Q .non H', rt := Q } (start N vs) H1) :
    FnOk P w K mg base CX0 (k + 1) D.f D.fd ps sp := by
  have hC := PySem.W.codeHd_of_K hK D.ch
  obtain ⟨f, c, T, fd, ⟨oc, od, kV, doc, pm, an, ct, osl, rfl, lk⟩, cd, ch, nt, me, b⟩ := D
  exact fn_ofZ lk cd S hfz len fun A outer s H vs Q E hr hsp H1 sm hc => hbody A outer s H vs Q E hr hsp H1 sm hc hC
end
end L2
set_option Elab.async false
set_option linter.all false
set_option maxRecDepth 100000
namespace L2
open PySem PySem.Spec PyProof.Rows
def Cx.unf (X : Cx) (x : Str) : Cx := { X with fn := fun y => y == x || X.fn y }
section
variable {X : Cx} {pins : List (Addr × Obj)} {σ : St} {H : Hp} {s : Shared}
theorem Inv.unf {x : Str} {c : Addr} (I : Inv X pins σ H s) (hc : X.env.cells.lookup x = some c) (hab : X.s₀.heap.objs.size ≤ c) (hn : H c = none) : Inv (X.unf x) pins σ H s := by
  have one : ∀ y d, (X.unf x).fn y = true → X.env.cells.lookup y = some d → X.fn y = true ∨ d = c := fun y d hy e => by
    have hy : (y == x || X.fn y) = true := hy
    rcases Bool.or_eq_true_iff.mp hy with z | z
    · have z' : y = x := beq_iff_eq.mp z
      subst z'
      rw [hc] at e
      exact .inr (Option.some.inj e).symm
    · exact .inl z
  refine ⟨⟨I.ok.mod, I.ok.kind, I.ok.glob, I.ok.blt, I.ok.above, I.ok.inj, I.ok.has, fun y d hy e => ?_, I.ok.hd, I.ok.frames, I.ok.stk, I.ok.exf, I.ok.bs, I.ok.bsz, I.ok.noex, I.ok.exfs, I.ok.funs, I.ok.frf⟩,
    I.os, I.bare, I.base, I.loc, I.cell, I.free, fun y d e => ⟨fun hy => ?_, (I.freeC y d e).2⟩, I.pin, I.hok, I.len⟩
  · rcases one y d hy e with z | z
    · exact I.ok.cab y d z e
    · rw [z]
      exact hab
  · rcases one y d hy e with z | z
    · exact (I.freeC y d e).1 z
    · rw [z]
      exact hn
end
section
variable {P : Program} {w : World} {K : PySem.W.Frag} {mg : Str → Option Value} {base : Heap}
end
def ItKd (a : Addr) (o : Obj) (kvs : List (Key × V)) : It :=
  ⟨fun i H => H a = some (.frz o (.dK kvs)) ∧ i < kvs.length, fun i H x H' => H' = H ∧ ∃ kv, kvs[i]? = some kv ∧ x = kV kv.1, fun i H => H a = some (.frz o (.dK kvs)) ∧ kvs.length ≤ i⟩
theorem turn_dict {P : Program} {w : World} {K : PySem.W.Frag} {tg : Expr} {a it : Addr} {o : Obj} {kvs : List (Key × V)} {vs : List (Key × Value)} {ep : Nat} (rel : KV kvs vs) (hat : ∀ h : Heap, h.get? a = some o → h.DictAt (mixKind P w) a vs ep) :
    Turn P w K tg (ItKd a o kvs) [it] it (fun i h => h.IsKeyIter it a i vs.length ep) where
  mem := by simp
  obj := fun i h st b hb => by
    have e : b = it := by simpa using hb
    subst e
    obtain ⟨o, e, c, d⟩ := st
    exact ⟨o, e, fun v z => by rw [d] at z; cases z⟩
  keep := fun i h h' st k => by
    obtain ⟨o, e, c, d⟩ := st
    exact ⟨o, k it (by simp) o e, c, d⟩
  item := by
    intro X hP hw hK hc i pins s σ H E I hf st hg
    subst hP hw hK
    obtain ⟨hz, hlt⟩ := hg
    obtain ⟨f0, f1, f2, f3, f4, f5⟩ := hf it (by simp)
    obtain ⟨ho, _⟩ := I.hok a _ hz
    have hlen := rel.length
    obtain ⟨⟨k, x⟩, hx⟩ : ∃ p, vs[i]? = some p := ⟨vs[i], by simp⟩
    obtain ⟨⟨k', x'⟩, hx'⟩ : ∃ p, kvs[i]? = some p := ⟨kvs[i], by simp⟩
    have ek : k' = k := by
      have e1 := congrArg (fun l => l[i]?) rel.keys
      simp only [List.getElem?_map, hx, hx', Option.map_some] at e1
      exact Option.some.inj e1
    refine wpAny_pyNext_dict_item st (hat _ ho) hx fun key h' hkey st' sb => ?_
    have I1 : Inv X pins σ H { s with heap := h' } := I.turned (t' := s.toks) (fun b o hb e => (sb.2 b hb).trans e) f0 f1 f3 f4 f5
    obtain ⟨o', e, c, d⟩ := id st'
    have rk : RelV (kV k') key := by
      rw [ek]
      rcases keyIs_shape hkey with ⟨j, t, rfl, rfl⟩ | ⟨y, t, rfl, rfl⟩
      · exact ⟨t, rfl⟩
      · exact ⟨t, rfl⟩
    exact ⟨key, rfl, go_of (s := { s with heap := h' }) e c d (by decide) ⟨kV k', H, I1, rk, ⟨rfl, _, hx', rfl⟩, st', fun b hb => (hf b hb).1⟩⟩
  done := by
    intro X hP hw hK hc i pins s σ H E I hf st hg
    subst hP hw hK
    obtain ⟨hz, hle⟩ := hg
    obtain ⟨f0, f1, f2, f3, f4, f5⟩ := hf it (by simp)
    obtain ⟨ho, _⟩ := I.hok a _ hz
    have hlen := rel.length
    exact wpAny_pyNext_dict_end (I.ok.hd hc) st (hat _ ho) (by simp; omega) fun h' eb => ⟨rfl, I.turned (t' := s.toks) (fun b o hb e => eb b o hb e) f0 f1 f3 f4 f5⟩
  self := fun _ _ _ _ _ st h => wpAny_pyIter_keyiter st h
theorem Inv.ice {X : Cx} {pins : List (Addr × Obj)} {σ : St} {H : Hp} {s : Shared} {a : Addr} {kvs : List (Key × V)} (I : Inv X pins σ H s) (e : H a = some (.dK kvs)) : ∃ o, s.heap.get? a = some o ∧ Inv X pins σ (upd H a (.frz o (.dK kvs))) s := by
  obtain ⟨z1, z2, vs, rel, dd⟩ := dk_of I.hok e
  obtain ⟨o, es, ep, ho, r⟩ := id dd
  refine ⟨o, ho, I.ok, I.os, I.bare, ⟨I.base.keep, I.base.slot, fun b u q n hx => ?_, I.base.there, fun b xs q => ?_, fun b u k q => ?_, fun b ps q => ?_⟩, I.loc, I.cell, ?_, fun y c q => ?_, fun p hp => ?_, fun b u q => ?_, I.len⟩
  · have z := I.base.free b u q n hx
    rw [upd_ne (fun y => by rw [y, e] at z; cases z)]
    exact z
  · have z := I.base.tups b xs q
    rw [upd_ne (fun y => by rw [y, e] at z; cases z)]
    exact z
  · have z := I.base.frzs b u k q
    rw [upd_ne (fun y => by rw [y, e] at z; cases z)]
    exact z
  · obtain ⟨m, z⟩ := I.base.tbls b ps q
    exact ⟨m, by rw [upd_ne (fun y => by rw [y, e] at z; cases z)]; exact z⟩
  · rw [upd_ne (fun y => by have z := I.free; rw [y, e] at z; cases z)]
    exact I.free
  · have z := I.freeC y c q
    have hne : c ≠ a := fun y => by
      rcases z.2 with w | ⟨_, _, w⟩
      · rw [y, e] at w; cases w
      · rw [y, e] at w; cases w
    rw [upd_ne hne]
    exact z
  · obtain ⟨q, n, r⟩ := I.pin p hp
    refine ⟨q, ?_, r⟩
    rw [upd_ne (fun y => by rw [y, e] at n; cases n)]
    exact n
  · have own : ∀ d x, H d = some (.own x) → upd H a (.frz o (.dK kvs)) d = some (.own x) := fun d x w => by
      rw [upd_ne (fun y => by rw [y, e] at w; cases w)]
      exact w
    have tup : ∀ d xs, H d = some (.tup xs) → upd H a (.frz o (.dK kvs)) d = some (.tup xs) := fun d x w => by
      rw [upd_ne (fun y => by rw [y, e] at w; cases w)]
      exact w
    by_cases hb : b = a
    · subst hb
      rw [upd_same] at q
      cases q
      exact ⟨ho, (I.hok b _ e).stay (fun _ _ _ q => q) (fun d q => own d _ q) fun d xs q => tup d xs q⟩
    · rw [upd_ne hb] at q
      exact (I.hok b u q).stay (fun _ _ _ q => q) (fun d q => own d _ q) fun d xs q => tup d xs q
def iDict (td : TE) : TI := fun σ H R => td σ H fun x H1 => ∃ a kvs, x = .ref a ∧ Rd H1 a (.dK kvs) ∧ ∀ o H2, H2 a = some (.frz o (.dK kvs)) → (∀ b, b ≠ a → H2 b = H1 b) → (∀ ob u, H1 a = some (.frz ob u) → H2 a = H1 a) → R (ItKd a o kvs) H2
theorem pi_dict {X : Cx} {tg l : Expr} {tl : TE} (hl : PE X l tl) : PI X tg l (iDict tl) := by
  intro pins s σ H R I h
  refine thn (hl pins s σ H _ I h) fun v s1 ⟨x, H1, I1, r1, q1⟩ => ?_
  obtain ⟨a, kvs, e, hr, q⟩ := q1
  subst e
  cases r1
  obtain ⟨o, H2, I2, hz, he, hi⟩ : ∃ o H2, Inv X pins σ H2 s1 ∧ H2 a = some (.frz o (.dK kvs)) ∧ (∀ b, b ≠ a → H2 b = H1 b) ∧ ∀ ob u, H1 a = some (.frz ob u) → H2 a = H1 a := by
    rcases hr with z | ⟨o, z⟩
    · obtain ⟨o, ho, I2⟩ := I1.ice z
      exact ⟨o, _, I2, upd_same, fun b hb => upd_ne hb, fun ob u y => by rw [z] at y; cases y⟩
    · exact ⟨o, H1, I1, z, fun _ _ => rfl, fun _ _ _ => rfl⟩
  obtain ⟨ho, z1, z2, vs, rel, dd⟩ := (show ObjOk X.prog X.w H2 s1.heap a (.frz o (.dK kvs)) from I2.hok a _ hz)
  obtain ⟨ep, hat⟩ := dd.dictAt
  have hat' : ∀ h : Heap, h.get? a = some o → h.DictAt (mixKind X.prog X.w) a vs ep := fun h e => by
    obtain ⟨o', es, e', r⟩ := id hat
    rw [ho] at e'
    cases e'
    exact ⟨o, es, e, r⟩
  refine wpAny_pyIter_dict z2 hat ?_
  refine ⟨s1.heap.objs.size, [s1.heap.objs.size], _, _, H2, rfl, I2.kept (t' := s1.toks) fun b o e => Heap.get?_push_of_some _ e, turn_dict rel hat', ⟨_, Heap.get?_push_size _ rfl, rfl, rfl⟩, fun b hb => ?_, q o H2 hz he hi⟩
  have e : b = s1.heap.objs.size := by simpa using hb
  subst e
  exact I2.fpOk (Nat.le_refl _) (I2.hok.fresh (Nat.le_refl _))
theorem call_sum {X : Cx} (hc : X.calm = true) : CallR X (.builtin "sum") (fun xs H Q => ∃ (a : Addr) (ns : List Int), xs = [.ref a] ∧ SqL X.K H a (ns.map V.int) ∧ Q (.int ns.sum) H) := by
  intro pins s σ H xs us Q I r h
  obtain ⟨p, ns, rfl, hq, q⟩ := h
  obtain ⟨u, rfl, ru⟩ := vals1 r
  cases (show u = Value.ref p from ru)
  obtain ⟨its, rv, pl, hz⟩ := I.list hq
  have hi : IntsAre its ns := intsAre_of rv
  have e1 : numsOf its.toArray.toList = ns := hi.numsOf
  obtain ⟨xs, e⟩ := hi.allInts.items
  rw [e, nums_intItems] at e1
  refine sum_intListG (I.ok.hd hc) (by rw [← e]; exact pl.isList) fun h' tk t' hk => ⟨.int ns.sum, H, I.kept (t' := tk) hk, ⟨t', ?_⟩, q⟩
  rw [preSum_eq, List.take_of_length_le (by simp), e1]
end L2
set_option Elab.async false
set_option linter.all false
set_option maxRecDepth 100000
namespace L2
open PySem PySem.Spec PyProof.Rows
def tDSetd (td ty tx : TE) : TE := fun σ H Q => td σ H fun x H1 => ∃ a, x = .ref a ∧ IsD H1 a ∧ ty σ H1 fun y H2 => tx σ H2 fun z H3 => ∃ kvs k, H3 a = some (.dK kvs) ∧ y = kV k ∧ kvs.length < sizeLine ∧
  (∀ v, valV kvs k = some v → Q v H3) ∧ (valV kvs k = none → Q z (upd H3 a (.dK (putK kvs k z))))
theorem pe_dsetd {X : Cx} {o e f : Expr} {apos cpos : Pos} {td ty tx : TE} (ho : PE X o td) (he : PE X e ty) (hf : PE X f tx) (m : M2 X o "setdefault" apos e f cpos) : PE X (.Call (.Attribute o "setdefault" apos) [e, f] [] cpos) (tDSetd td ty tx) := by
  intro pins s σ H Q I h
  refine wpAny_Call_method m.base m.few m.line PySem.F.plainAttrs_dict PySem.F.slot_dict_setdefault PySem.F.type_dict_setdefault (thn (ho pins s σ H _ I h) fun u s1 ⟨x, H1, I1, rx, a, ex, d, q1⟩ => ?_)
  subst ex
  obtain rfl : u = Value.ref a := rx
  obtain ⟨t1, t2, _⟩ := isD_at I1 d
  refine ⟨t1, t2, ?_⟩
  rw [m.trees]
  refine Calls.callWith_builtin rfl (Calls.evalArgs_plain (Calls.spliced_cons (thn (he pins s1 σ H1 _ I1 q1) fun iv s2 ⟨y, H2, I2, ry, q2⟩ =>
    Calls.spliced_cons (thn (hf pins s2 σ H2 _ I2 q2) fun fv s3 ⟨z, H3, I3, rz, kvs, k, ea, ey, hl, q3, q4⟩ => Calls.spliced_nil ?_))))
  subst ey
  obtain ⟨zz, hd, vs, rel, dd⟩ := dk_of I3.hok ea
  refine call_meetsIn PySem.F.slot_dict_setdefault dd.typeIs PySem.F.entry_dict_setdefault (PySem.F.args_dict_setdefault_3 _ _ _) (kt_meets_setdefault (mixKind X.prog X.w) a (kV_is ry) hd fv) ⟨vs, dd, by rw [← rel.length]; exact zz, fun v hv => ?_, fun hn h' dd' hs => ?_⟩
  · have r := rel.val k
    rw [hv] at r
    cases l : valV kvs k with
    | none => rw [l] at r; exact False.elim r
    | some v' => rw [l] at r; exact ⟨v', H3, I3.tok _, r, q3 v' l⟩
  · have l : valV kvs k = none := by
      have r := rel.val k
      rw [hn] at r
      cases l : valV kvs k with
      | none => rfl
      | some v' => rw [l] at r; exact False.elim r
    have he : ∃ q, h'.get? a = some q := let ⟨q, _, _, hq, _⟩ := dd'; ⟨q, hq⟩
    have hl' : (putK kvs k z).length ≤ sizeLine := by have := length_putK kvs k z; omega
    exact ⟨z, _, d_write I3 (by rw [ea]; exact True.intro) hs he (dk_new hl' hd (rel.put k rz) dd'), rz, q4 l⟩
theorem Inv.thaw {X : Cx} {pins : List (Addr × Obj)} {σ : St} {H : Hp} {s : Shared} {a : Addr} {o : Obj} {kvs : List (Key × V)} (I : Inv X pins σ H s) (e : H a = some (.frz o (.dK kvs))) (h0 : ∀ ob u, X.H₀ a ≠ some (.frz ob u)) : Inv X pins σ (upd H a (.dK kvs)) s := by
  obtain ⟨ho, hd⟩ := (show ObjOk X.prog X.w H s.heap a (.frz o (.dK kvs)) from I.hok a _ e)
  obtain ⟨z1, z2, vs, rel, dd⟩ := id hd
  obtain ⟨oo, es, ep, ho', _, hdat, _⟩ := id dd
  have ncell : ∀ y c, X.env.cells.lookup y = some c → c ≠ a := fun y c q z => by
    obtain ⟨v, oc, hoc, hdc⟩ := I.cell y c q
    rw [z, ho'] at hoc
    cases hoc
    rw [hdat] at hdc
    cases hdc
  refine ⟨I.ok, I.os, I.bare, ⟨I.base.keep, I.base.slot, fun b u q n hx => ?_, I.base.there, fun b xs q => ?_, fun b u k q => ?_, fun b ps q => ?_⟩, I.loc, I.cell, ?_, fun y c q => ?_, fun p hp => ?_, fun b u q => ?_, I.len⟩
  · have z := I.base.free b u q n hx
    rw [upd_ne (fun y => by rw [y, e] at z; cases z)]
    exact z
  · have z := I.base.tups b xs q
    rw [upd_ne (fun y => by rw [y, e] at z; cases z)]
    exact z
  · have z := I.base.frzs b u k q
    rw [upd_ne (fun y => h0 _ _ (y ▸ q))]
    exact z
  · obtain ⟨m, z⟩ := I.base.tbls b ps q
    exact ⟨m, by rw [upd_ne (fun y => by rw [y, e] at z; cases z)]; exact z⟩
  · rw [upd_ne (fun y => by have z := I.free; rw [y, e] at z; cases z)]
    exact I.free
  · rw [upd_ne (ncell y c q)]
    exact I.freeC y c q
  · obtain ⟨q, n, r⟩ := I.pin p hp
    refine ⟨q, ?_, r⟩
    rw [upd_ne (fun y => by rw [y, e] at n; cases n)]
    exact n
  · have own : ∀ d x, H d = some (.own x) → upd H a (.dK kvs) d = some (.own x) := fun d x w => by
      rw [upd_ne (fun y => by rw [y, e] at w; cases w)]
      exact w
    have tup : ∀ d xs, H d = some (.tup xs) → upd H a (.dK kvs) d = some (.tup xs) := fun d x w => by
      rw [upd_ne (fun y => by rw [y, e] at w; cases w)]
      exact w
    by_cases hb : b = a
    · subst hb
      rw [upd_same] at q
      cases q
      exact ObjOk.stay (H := H) hd (fun _ _ _ q => q) (fun d q => own d _ q) fun d xs q => tup d xs q
    · rw [upd_ne hb] at q
      exact (I.hok b u q).stay (fun _ _ _ q => q) (fun d q => own d _ q) fun d xs q => tup d xs q
theorem pe_thaw {X : Cx} {e : Expr} {t : TE} {H0 : Hp} (hH : X.H₀ = H0) (h : PE X e t) : PE X e (fun σ H Q => t σ H fun v H1 => ∃ a kvs o, H1 a = some (.frz o (.dK kvs)) ∧ (∀ ob u, H0 a ≠ some (.frz ob u)) ∧ Q v (upd H1 a (.dK kvs))) := by
  intro pins s σ H Q I hw
  refine thn (h pins s σ H _ I hw) fun v s1 ⟨x, H1, I1, r1, a, kvs, o, e1, e2, q⟩ => ?_
  subst hH
  exact ⟨x, _, I1.thaw e1 e2, r1, q⟩
theorem comp_dict {a D : Addr} {o : Obj} {kvs : List (Key × V)} {ns : List Int} {tc : TT} {Q : VK} {σr : St} {H : Hp} (p : Int → Bool) (hk : kvs.map (·.1) = ns.map Sum.inl) (hD : H D = none) (ha : H a = some (.frz o (.dK kvs))) (hlen : ns.length ≤ 1000)
    (ht : ∀ x ∈ ns, ∀ H' (Qt : Bool → Hp → Prop), Same H H' → (∀ H'', Same H' H'' → Qt (p x) H'') → tc (some (.int x) :: σr) H' Qt)
    (hq : ∀ H', Same H H' → H' D = some (.lst ((ns.filter p).map V.int)) → Q (.ref D) H') :
    CompW (ItKd a o kvs) (gName 0) tc (tVar 0) Q D (none :: σr) (upd H D (.lst [])) := by
  have hl : kvs.length = ns.length := by
    have := congrArg List.length hk
    simpa using this
  refine ⟨fun i m σ H' => m = ns.length - i ∧ i ≤ ns.length ∧ ∃ v, σ = v :: σr ∧ Same H H' ∧ H' D = some (.lst (((ns.take i).filter p).map V.int)), ⟨ns.length, by simp, Nat.zero_le _, none, rfl, Same.new H hD, upd_same⟩, ?_⟩
  rintro i m σ H' ⟨rfl, hi, v, rfl, s, hd⟩
  by_cases hlt : i < ns.length
  · refine .inr ⟨⟨s _ _ ha, by omega⟩, fun σ' H'' => i + 1 ≤ ns.length ∧ ∃ v, σ' = v :: σr ∧ Same H H'' ∧ H'' D = some (.lst (((ns.take (i + 1)).filter p).map V.int)), fun σ' H'' z => ⟨ns.length - (i + 1), by omega, rfl, z⟩, fun x H'' y => ?_⟩
    obtain ⟨rfl, kv, hkv, rfl⟩ := y
    have ek : kv.1 = Sum.inl ns[i] := by
      have e1 := congrArg (fun l => l[i]?) hk
      simp only [List.getElem?_map, hkv, Option.map_some] at e1
      rw [List.getElem?_eq_getElem hlt] at e1
      exact Option.some.inj e1
    have et : ns.take (i + 1) = ns.take i ++ [ns[i]] := by rw [List.take_succ_eq_append_getElem hlt]
    rw [ek]
    show gName 0 (V.int ns[i]) _ _ _
    refine ht ns[i] (List.getElem_mem hlt) H'' _ s fun H3 s2 => ?_
    have hd2 := s2 _ _ hd
    by_cases hp : p ns[i] = true
    · rw [if_pos hp]
      refine ⟨_, rfl, _, hd2, ?_, ⟨by omega, _, rfl, (s.trans s2).put hD, ?_⟩⟩
      · rw [List.length_map]
        have := List.length_filter_le p (ns.take i)
        rw [List.length_take] at this
        exact small1000 (by omega)
      · rw [upd_same, et, List.filter_append, List.map_append]
        simp [hp]
    · rw [if_neg hp]
      refine ⟨by omega, _, rfl, s.trans s2, ?_⟩
      rw [hd2, et, List.filter_append]
      simp [hp]
  · have e : i = ns.length := by omega
    subst e
    rw [List.take_length] at hd
    exact .inl ⟨⟨s _ _ ha, by omega⟩, hq H' s hd⟩
theorem pg_tupK {X : Cx} {K : PySem.W.Frag} {pos : Pos} {es : List Expr} {k : Nat} {t : TGs} {n : Nat} (hK : X.K = K) (hc : X.calm = true) (h : PGs X es t)
    (hn : (assignEach es X.env).length = n := by rfl) (hst : (assignEach es X.env).findIdx? (·.1) = none := by rfl) : PG X (.Tuple es k pos) (gTup K n t) := hK ▸ pg_tup hc h hn hst
end L2
set_option Elab.async false
set_option linter.all false
set_option maxRecDepth 100000
namespace L2
open PySem PySem.Spec PyProof.Rows
theorem cellsFrom_app : ∀ (names : List (Str × NameKind)) (n : Nat) (acc : List (Str × Addr)), cellsFrom n names acc = cellsFrom n names [] ++ acc
  | [], n, acc => rfl
  | (x, k) :: r, n, acc => by
    unfold cellsFrom
    split
    · rw [cellsFrom_app r (n + 1) ((x, n) :: acc), cellsFrom_app r (n + 1) [(x, n)], List.append_assoc]
      rfl
    · exact cellsFrom_app r n acc
theorem lookup_app {α : Type} {x : Str} : ∀ {a b : List (Str × α)}, (a ++ b).lookup x = match a.lookup x with | some c => some c | none => b.lookup x
  | [], b => rfl
  | (k, v) :: r, b => by
    rw [List.cons_append, List.lookup_cons, List.lookup_cons]
    cases h : x == k with
    | true => rfl
    | false => exact lookup_app
section
variable {M : Model} {A : Around} {E : Value → Shared → Prop} {s₀ s : Shared} {m cm : Str → Option Value} {env : Env} {own : List (Str × Addr)}
theorem stL2 {n : Str} {v : Value} {Q : Unit → Shared → Prop} (x : InCallC s₀ env.locals m own cm s) (hk : env.scope.kind = .function) (hl : env.kindOf n = some .local)
    (h : ∀ s', InCallC s₀ env.locals (fun y => if y = n then some v else m y) own cm s' → Q () s') : wpAny M A (storeName env n v) Q E s := by
  refine wpAny_storeName_local hl x.toInCall.ns (fun h' hn' hs' => h _ ⟨⟨?_, hn', fun b o e => ?_, x.toInCall.fresh⟩, fun k c hc => ?_, x.apart, x.above⟩) (by rw [hk]; rfl)
  · obtain ⟨h₁, tk, rfl⟩ := x.toInCall.same
    exact ⟨h', _, rfl⟩
  · exact hs'.extBut b o (Nat.ne_of_lt (Nat.lt_of_lt_of_le (Heap.lt_size e) x.toInCall.fresh)) (x.toInCall.keep b o e)
  · exact (x.cell k c hc).sameBut hs' (Nat.ne_of_gt (x.above k c (PySem.mem_of_lookup hc)))
theorem stC2 {n : Str} {c : Addr} {v : Value} {Q : Unit → Shared → Prop} (x : InCallC s₀ env.locals m own cm s) (hk : env.scope.kind = .function) (hl : env.kindOf n = some .cell)
    (hc : env.cells.lookup n = some c) (ho : own.lookup n = some c)
    (h : ∀ s', InCallC s₀ env.locals m own (fun y => if y = n then some v else cm y) s' → Q () s') : wpAny M A (storeName env n v) Q E s := by
  have hLc := x.above n c (PySem.mem_of_lookup ho)
  refine wpAny_storeName_cell hk hl hc (x.cell n c ho) fun h' hc' hs' => h _ ⟨⟨?_, x.toInCall.ns.sameBut hs' (Nat.ne_of_lt hLc), fun b o e => ?_, x.toInCall.fresh⟩, fun k c' hk' => ?_, x.apart, x.above⟩
  · obtain ⟨h₁, tk, rfl⟩ := x.toInCall.same
    exact ⟨h', _, rfl⟩
  · exact hs'.extBut b o (Nat.ne_of_lt (Nat.lt_trans (Nat.lt_of_lt_of_le (Heap.lt_size e) x.toInCall.fresh) hLc)) (x.toInCall.keep b o e)
  · by_cases hkn : k = n
    · subst hkn
      rw [ho] at hk'
      cases hk'
      simpa using hc'
    · rw [if_neg hkn]
      exact (x.cell k c' hk').sameBut hs' fun e => hkn (name_of_addr x.apart (PySem.mem_of_lookup hk') (e ▸ PySem.mem_of_lookup ho))
theorem bind2 (f : Str × Value → PUnit → Sem (ForInStep PUnit)) (hf : ∀ n v u, f (n, v) u = (do storeName env n v; pure (.yield ⟨⟩))) (hk : env.scope.kind = .function) (hown : ∀ n c, own.lookup n = some c → env.cells.lookup n = some c) :
    ∀ (binds : List (Str × Value)) (m cm : Str → Option Value) (s : Shared) (Q : PUnit → Shared → Prop), InCallC s₀ env.locals m own cm s →
      (∀ x ∈ binds, env.kindOf x.1 = some .local ∨ (env.kindOf x.1 = some .cell ∧ (own.lookup x.1).isSome = true)) →
      (∀ s', InCallC s₀ env.locals (bindL env.kindOf binds m) own (bindC env.kindOf binds cm) s' → Q ⟨⟩ s') → wpAny M A (forIn binds ⟨⟩ f) Q E s
  | [], m, cm, s, Q, x, _, h => by rw [List.forIn_nil]; exact wpAny_pure (h s x)
  | (n, v) :: r, m, cm, s, Q, x, hkind, h => by
    rw [List.forIn_cons, hf]
    have hr : ∀ y ∈ r, env.kindOf y.1 = some .local ∨ (env.kindOf y.1 = some .cell ∧ (own.lookup y.1).isSome = true) := fun y hy => hkind y (List.mem_cons_of_mem _ hy)
    rcases hkind (n, v) List.mem_cons_self with hl | ⟨hl, hc⟩
    · refine wpAny_bind (wpAny_bind (stL2 x hk hl fun s' x' => wpAny_pure (bind2 f hf hk hown r _ _ s' Q x' hr fun s'' x'' => h s'' ?_)))
      unfold bindL bindC
      rw [if_pos hl, if_pos hl]
      exact x''
    · obtain ⟨c, hc⟩ := Option.isSome_iff_exists.mp hc
      have hnl : ¬ env.kindOf n = some .local := by rw [hl]; decide
      refine wpAny_bind (wpAny_bind (stC2 x hk hl (hown n c hc) hc fun s' x' => wpAny_pure (bind2 f hf hk hown r _ _ s' Q x' hr fun s'' x'' => h s'' ?_)))
      unfold bindL bindC
      rw [if_neg hnl, if_neg hnl]
      exact x''
end
theorem newEnv2 {M : Model} {A : Around} {E : Value → Shared → Prop} {s : Shared} {scope : Scope} {globals : Addr} {closure : List (Str × Addr)} {binds : List (Str × Value)} {qual : Str} {func : Option Addr} {code : Value} {builtins : Addr} {Q : Env → Shared → Prop}
    (hk : scope.kind = .function)
    (hkind : ∀ x ∈ binds, scope.names.lookup x.1 = some .local ∨ (scope.names.lookup x.1 = some .cell ∧ ((cellsFrom (s.heap.objs.size + 1) scope.names []).lookup x.1).isSome = true))
    (hQ : ∀ env, env = newEnv scope s.heap.objs.size globals (cellsFrom (s.heap.objs.size + 1) scope.names closure) qual func code none builtins →
      ∀ s', InCallC s env.locals (bindL env.kindOf binds fun _ => none) (cellsFrom (s.heap.objs.size + 1) scope.names []) (bindC env.kindOf binds fun _ => none) s' → Q env s') :
    wpAny M A (newFunctionEnv scope globals closure binds qual func code none builtins) Q E s := by
  simp only [newFunctionEnv, Option.isSome_none, Bool.false_eq_true, if_false]
  refine wpAny_bind (wpAny_alloc ?_)
  refine wpAny_bind (wpAny_layCells _ (fun name kind cells => by cases hkc : kind == NameKind.cell <;> simp [hkc]) _ _ _ _ ?_)
  have ok := cellsFrom_ok scope.names (s.heap.push { cls := .type "frame", data := .dict #[] }) (s.heap.objs.size + 1) [] ⟨fun _ _ hm => (nomatch hm), List.Pairwise.nil⟩ (by rw [Heap.size_push]; exact Nat.le_refl _)
  rw [Heap.size_push] at ok
  rw [show ({ s with heap := s.heap.push { cls := .type "frame", data := .dict #[] } } : Shared).heap.objs.size = s.heap.objs.size + 1 from Heap.size_push ..]
  refine wpAny_bind (bind2 (s₀ := s) (own := cellsFrom (s.heap.objs.size + 1) scope.names []) (env := newEnv scope s.heap.objs.size globals (cellsFrom (s.heap.objs.size + 1) scope.names closure) qual func code none builtins)
    _ (fun _ _ _ => rfl) hk (fun n c e => ?_) binds (fun _ => none) (fun _ => none) _ _
    ⟨⟨⟨_, _, rfl⟩, (Heap.Ns.new s.heap (.type "frame")).keeps (pushCells_keeps _ _), fun b o e => pushCells_keeps _ _ b o (Heap.get?_push_of_some _ e), Nat.le_refl _⟩,
      fun n c hc => (ok.empty n c (PySem.mem_of_lookup hc)).1, ok.apart, fun n c hm => (ok.empty n c hm).2⟩
    hkind fun s' x => wpAny_pure (hQ _ rfl s' x))
  show (cellsFrom (s.heap.objs.size + 1) scope.names closure).lookup n = some c
  rw [cellsFrom_app, lookup_app, e]
theorem cellsFrom_mem {y : Str} {c : Addr} : ∀ {names : List (Str × NameKind)} {n : Nat} {acc : List (Str × Addr)}, (y, c) ∈ cellsFrom n names acc → (y, c) ∈ acc ∨ (y, NameKind.cell) ∈ names
  | [], n, acc, h => .inl h
  | (x, k) :: r, n, acc, h => by
    unfold cellsFrom at h
    split at h
    · rename_i hk
      have hk : k = NameKind.cell := by simpa using hk
      rcases cellsFrom_mem h with z | z
      · rcases List.mem_cons.mp z with e | e
        · cases e
          exact .inr (by rw [hk]; exact List.mem_cons_self ..)
        · exact .inl e
      · exact .inr (List.mem_cons_of_mem _ z)
    · rcases cellsFrom_mem h with z | z
      · exact .inl z
      · exact .inr (List.mem_cons_of_mem _ z)
structure CloScopeC (N ps fr : List Str) (sc : Scope) : Prop where
  kind : sc.kind = .function
  co : sc.isCoroutine = false
  gen : sc.isGenerator = false
  nd : N.Nodup
  pre : N.take (ps ++ fr).length = ps ++ fr
  par : ∀ x ∈ ps, sc.names.lookup x = some .local ∨ sc.names.lookup x = some .cell
  fre : ∀ x ∈ fr, sc.names.lookup x = some .free
  allfr : ∀ y ∈ sc.names, y.2 = .free → y.1 ∈ fr
  look : ∀ y ∈ sc.names, sc.names.lookup y.1 = some y.2
section
variable {P : Program} {w : World} {K : PySem.W.Frag} {mg : Str → Option Value} {base : Heap}
theorem fn_cloC {k : Nat} {f : Addr} {name qual : Str} {params : Arguments} {body : List Stmt} {scope : Scope} {fd : FuncData} {N ps fr : List Str} {sp : List V → Sp} (S : CloScopeC N ps fr scope)
    (len : ∀ cv vs H Q E, sp cv vs H Q E → vs.length = ps.length)
    (hbody : ∀ (clos : List (Str × Addr)) (cdv : Value) (A : Around) (outer : List Env) (s : Shared) (H : Hp) (cv vs : List V) (Q : VK) (E : XK), Room k (A.deeper (envClo qual scope clos s.heap.objs.size f cdv)) → cv.length = fr.length → sp cv vs H Q E →
      ∃ t, PSs (cxClo P w K mg base N qual scope clos f cdv A outer s H) body t ∧ t { nx := fun _ H' => Q .non H', rt := Q } ((vs ++ cv).map some ++ List.replicate (N.length - (ps ++ fr).length) none) H) :
    FnOk P w K mg base CX0 (k + 1) f fd ps (fun vs H Q E => ∃ cv, cv.length = fr.length ∧ FunV H f name qual params body scope fr cv fd ∧ sp cv vs H Q E) := by
  refine ⟨fun vs H Q E h => let ⟨cv, _, _, q⟩ := h; len cv vs H Q E q, fun A outer s H args us vs Q E hr e0 hb r hsp => ?_⟩
  obtain ⟨cv, hcl, FV, hsp⟩ := hsp
  obtain ⟨fo, cells, clos, c', oc, k1, k2, e1, SH, e2, e3, e4, e5, cs, hv⟩ := FV.ex
  obtain ⟨doc, pm, ctv, hfo⟩ := SH.ob
  have hl := len _ _ _ _ _ hsp
  have hlu : us.length = ps.length := by rw [← hl]; exact r.length.symm
  have lim : s.heap.NoLimit := e0.mod.nolimit.keeps fun b o e => (e0.bs b o e).1
  obtain ⟨hf, _⟩ := e0.hok f _ e1
  obtain ⟨hc, _⟩ := e0.hok c' _ e5
  have hfd : fd = PySem.W.fnX name qual params body scope clos .none .none doc pm none (.ref c') ctv := by
    have z : Data.func fd = Data.func (PySem.W.fnX name qual params body scope clos .none .none doc pm none (.ref c') ctv) := by rw [← e2, hfo]
    exact Data.func.inj z
  obtain ⟨vs1, t1, q1, q2⟩ := cs
  subst hfd
  have ndP : ps.Nodup := by
    have z : (ps ++ fr).Nodup := by rw [← S.pre]; exact S.nd.sublist (List.take_sublist _ _)
    exact (List.nodup_append.mp z).1
  have hlen : (ps ++ fr).length ≤ N.length := by have := congrArg List.length S.pre; rw [List.length_take] at this; omega
  have hkind : ∀ y ∈ ps.zip us, scope.names.lookup y.1 = some .local ∨ (scope.names.lookup y.1 = some .cell ∧ ((cellsFrom (s.heap.objs.size + 1) scope.names []).lookup y.1).isSome = true) := fun ⟨n, v⟩ hy => by
    rcases S.par n (List.of_mem_zip hy).1 with q | q
    · exact .inl q
    · exact .inr ⟨q, PySem.W.cellsFrom_some _ _ _ (.inl q)⟩
  refine codeAny_call_function hr.depth hf e2 S.co S.gen rfl ⟨c', oc, vs1, t1, rfl, hc, q1, q2⟩ (hb _ _ _ _ ?_)
  refine newEnv2 S.kind hkind fun env he s1 x => ?_
  subst he
  refine ⟨lim.keeps x.toInCall.keep, codeAny_func ?_⟩
  obtain ⟨CS, hCS⟩ : ∃ CS, cellsFrom (s.heap.objs.size + 1) scope.names clos = CS := ⟨_, rfl⟩
  obtain ⟨OW, hOW⟩ : ∃ OW, cellsFrom (s.heap.objs.size + 1) scope.names [] = OW := ⟨_, rfl⟩
  have hApp : CS = OW ++ clos := by rw [← hCS, ← hOW]; exact cellsFrom_app _ _ _
  rw [hCS]
  rw [hCS, hOW] at x
  obtain ⟨t, ht, hq⟩ := hbody CS (.ref c') A outer s H cv vs Q E (hr.deeper _) hcl hsp
  have noA : ∀ b : Addr, b ∉ (cxClo P w K mg base N qual scope CS f (.ref c') A outer s H).ex := fun b z => absurd (show b ∈ ([] : List Addr) from z) (by simp)
  have kcell : ∀ y c, clos.lookup y = some c → ∃ v, CellV H c v := fun y c e => by
    have hx := S.allfr _ (SH.free y c e) rfl
    obtain ⟨i, hi⟩ := List.getElem?_of_mem hx
    have : i < cv.length := by rw [hcl]; exact (List.getElem?_eq_some_iff.mp hi).1
    obtain ⟨c2, z1, z2⟩ := hv i y cv[i] hi (by simp [this])
    rw [e] at z1
    cases z1
    exact ⟨_, z2⟩
  have old : ∀ y c, clos.lookup y = some c → c < s.heap.objs.size := fun y c e => by
    obtain ⟨v, o, u, k, z2, _⟩ := kcell y c e
    obtain ⟨z5, _⟩ := e0.hok c _ z2
    exact Heap.lt_size z5
  have young : ∀ y c, OW.lookup y = some c → s.heap.objs.size < c := fun y c e => x.above y c (PySem.mem_of_lookup e)
  have look : ∀ y, CS.lookup y = match OW.lookup y with | some c => some c | none => clos.lookup y := fun y => by
    rw [hApp, lookup_app]
    cases OW.lookup y <;> rfl
  have part : ∀ y c, CS.lookup y = some c → OW.lookup y = some c ∨ (OW.lookup y = none ∧ clos.lookup y = some c) := fun y c e => by
    rw [look] at e
    cases q : OW.lookup y with
    | some d => rw [q] at e; exact .inl e
    | none => rw [q] at e; exact .inr ⟨rfl, e⟩
  have ofree : ∀ y, scope.names.lookup y = some .free → OW.lookup y = none := fun y e => by
    cases q : OW.lookup y with
    | none => rfl
    | some c =>
      have z := PySem.mem_of_lookup q
      rw [← hOW] at z
      rcases cellsFrom_mem z with z | z
      · cases z
      · have z2 := S.look _ z
        rw [e] at z2
        cases z2
  obtain ⟨h1, tk, rfl, kp⟩ := x.done
  have I : Inv (cxClo P w K mg base N qual scope CS f (.ref c') A outer s H) [] ((vs ++ cv).map some ++ List.replicate (N.length - (ps ++ fr).length) none) H { s with heap := h1, toks := tk } := by
    refine ⟨⟨e0.mod, S.kind, rfl, rfl, Nat.le_refl _, fun y z c a1 a2 => ?_, fun y hy => ?_, fun y c z => absurd z Bool.false_ne_true, fun _ => hr.hd, Around.frames_deeper e0.frames, .inr ⟨rfl, rfl⟩, fun b z => absurd z (noA b), e0.bs, e0.bsz, fun b _ _ => noA b, fun b z => absurd z (noA b), e0.funs, e0.frf⟩,
      rfl, e0.bare, Un.kept kp, ⟨_, x.toInCall.ns, fun i y v g1 g2 g3 => ?_⟩, fun y c e => ?_, e0.hok.fresh (Nat.le_refl _), fun y c e => ?_, fun p hp => absurd (show p ∈ ([] : List (Addr × Obj)) from hp) (by simp), e0.hok.kept kp, ?_⟩
    · rcases part y c a1 with b1 | ⟨_, b1⟩ <;> rcases part z c a2 with b2 | ⟨_, b2⟩
      · exact name_of_addr x.apart (PySem.mem_of_lookup b1) (PySem.mem_of_lookup b2)
      · exact absurd (young y c b1) (Nat.not_lt.mpr (Nat.le_of_lt (old z c b2)))
      · exact absurd (young z c b2) (Nat.not_lt.mpr (Nat.le_of_lt (old y c b1)))
      · exact SH.inj y z c b1 b2
    · have hy : scope.names.lookup y = some .cell ∨ scope.names.lookup y = some .free := hy
      show ∃ c, CS.lookup y = some c
      rcases hy with z | z
      · obtain ⟨c, hc⟩ := cell_has (n := s.heap.objs.size + 1) z
        rw [hOW] at hc
        exact ⟨c, by rw [look, hc]⟩
      · obtain ⟨c, hc⟩ := SH.all _ (PySem.mem_of_lookup z) rfl
        exact ⟨c, by rw [look, ofree y z]; exact hc⟩
    · have g1 : N[i]? = some y := g1
      have hi : i < (vs ++ cv).length := by
        by_cases hi : i < (vs ++ cv).length
        · exact hi
        · rw [List.getElem?_append_right (by simpa using hi), List.getElem?_replicate] at g2
          split at g2 <;> cases g2
      rw [List.getElem?_append_left (by simpa using hi), List.getElem?_map] at g2
      have g2' : (vs ++ cv)[i]? = some v := by
        cases q : (vs ++ cv)[i]? with
        | none => rw [q] at g2; cases g2
        | some z => rw [q] at g2; cases g2; rfl
      have hpf : (ps ++ fr)[i]? = some y := by
        rw [← S.pre, List.getElem?_take_of_lt (by rw [List.length_append] at hi ⊢; omega)]
        exact g1
      by_cases hp : i < ps.length
      · rw [List.getElem?_append_left hp] at hpf
        rw [List.getElem?_append_left (by omega)] at g2'
        obtain ⟨u, hu, ru⟩ := r.get g2'
        rcases S.par y (List.mem_of_getElem? hpf) with k | k
        · exact ⟨u, ru, .inl ⟨k, bindL_get ndP hpf hu k⟩⟩
        · obtain ⟨c, e⟩ := cell_has (n := s.heap.objs.size + 1) k
          rw [hOW] at e
          refine ⟨u, ru, .inr ⟨.inl k, c, by show CS.lookup y = _; rw [look, e], ?_⟩⟩
          have q := x.cell y c e
          rw [bindC_get ndP hpf hu (by show scope.names.lookup y ≠ _; rw [k]; decide)] at q
          exact q
      · rw [List.getElem?_append_right (by omega)] at hpf
        rw [List.getElem?_append_right (by omega)] at g2'
        obtain ⟨c, z1, o, u, k, z2, z3, z4⟩ := hv (i - ps.length) y v hpf (by rw [← hl]; exact g2')
        obtain ⟨z5, _⟩ := e0.hok c _ z2
        have hfr := S.fre y (List.mem_of_getElem? hpf)
        exact ⟨u, z4, .inr ⟨.inr hfr, c, by show CS.lookup y = _; rw [look, ofree y hfr]; exact z1, o, kp _ _ z5, z3⟩⟩
    · rcases part y c e with b | ⟨_, b⟩
      · exact ⟨_, x.cell y c b⟩
      · obtain ⟨v, o, u, k, z2, z3, z4⟩ := kcell y c b
        obtain ⟨z5, _⟩ := e0.hok c _ z2
        exact ⟨_, o, kp _ _ z5, z3⟩
    · refine ⟨fun z => absurd z Bool.false_ne_true, ?_⟩
      rcases part y c e with b | ⟨_, b⟩
      · exact .inl (e0.hok.fresh (Nat.le_of_lt (young y c b)))
      · obtain ⟨v, o, u, k, z2, _⟩ := kcell y c b
        exact .inr ⟨o, k, z2⟩
    · show _ = N.length
      have z1 : (ps ++ fr).length = ps.length + fr.length := List.length_append
      rw [List.length_append, List.length_map, List.length_replicate, List.length_append]
      omega
  refine wpAny_mono (ht [] _ _ H _ I hq) (fun fl s' hs => ?_) fun e s' hs => hs.elim
  have fin : ∀ {σ' : St} {H' : Hp} {v : V} {u : Value}, Inv (cxClo P w K mg base N qual scope CS f (.ref c') A outer s H) [] σ' H' s' → RelV v u → Q v H' → CE outer P w H s Q u s' :=
    fun {σ' H' v u} J rv q => ⟨v, H', J.os, J.bare, J.base, J.hok, rv, q⟩
  cases fl with
  | ret u =>
    obtain ⟨v, σ', H', J, rv, q⟩ := hs
    exact fin J rv q
  | next =>
    obtain ⟨σ', H', J, q⟩ := hs
    exact fin (v := V.non) (u := Value.none) J rfl q
  | brk =>
    obtain ⟨_, _, _, q⟩ := hs
    exact False.elim q
  | cont =>
    obtain ⟨_, _, _, q⟩ := hs
    exact False.elim q
end
end L2
namespace NN
theorem xor_add_and : ∀ (a b : Nat), (a ^^^ b) + 2 * (a &&& b) = a + b := by
  intro a
  induction a using Nat.strongRecOn with
  | ind a ih =>
    intro b
    by_cases h : a = 0
    · subst h; simp
    · have i := ih (a / 2) (by omega) (b / 2)
      have x1 := Nat.xor_div_two (a := a) (b := b)
      have x2 := Nat.and_div_two (a := a) (b := b)
      have y1 := Nat.xor_mod_two_eq_one (a := a) (b := b)
      have y2 := Nat.and_mod_two_eq_one (a := a) (b := b)
      omega
theorem xor_rec (a b : Nat) : a ^^^ b = 2 * (a / 2 ^^^ b / 2) + (if a % 2 = b % 2 then 0 else 1) := by
  have x1 := Nat.xor_div_two (a := a) (b := b)
  have y1 := Nat.xor_mod_two_eq_one (a := a) (b := b)
  split <;> omega
theorem xor_eq_zero (a b : Nat) : a ^^^ b = 0 ↔ a = b := by
  constructor
  · intro h
    have : (a ^^^ b) ^^^ b = 0 ^^^ b := by rw [h]
    rw [Nat.xor_assoc, Nat.xor_self, Nat.xor_zero, Nat.zero_xor] at this
    exact this
  · rintro rfl; exact Nat.xor_self _
theorem xor_back (a b : Nat) : a ^^^ (a ^^^ b) = b := by
  rw [← Nat.xor_assoc, Nat.xor_self, Nat.zero_xor]
end NN
namespace NN
def stepUpto (a b : Nat) : Nat → Option Nat
  | 0 => none
  | i + 1 => if a / 2 ^ i % 2 = b / 2 ^ i % 2 then stepUpto a b i else some i
theorem log2_iff {m k : Nat} (hm : m ≠ 0) : m.log2 = k ↔ m / 2 ^ k = 1 := by
  constructor
  · intro h
    subst h
    have h1 := Nat.log2_self_le hm
    have h2 := @Nat.lt_log2_self m
    rw [Nat.pow_succ] at h2
    have hp : 0 < 2 ^ m.log2 := Nat.pow_pos (by decide)
    refine (Nat.div_eq_iff hp).mpr ?_
    omega
  · intro h
    have hp : 0 < 2 ^ k := Nat.pow_pos (by decide)
    have h' := (Nat.div_eq_iff hp).mp h
    refine (Nat.log2_eq_iff hm).mpr ⟨by omega, ?_⟩
    rw [Nat.pow_succ]
    omega
theorem xor_div (a b k : Nat) : (a ^^^ b) / 2 ^ k = a / 2 ^ k ^^^ b / 2 ^ k := Nat.xor_div_two_pow
theorem xor_one_eq {a b : Nat} : a ^^^ b = 1 ↔ b = a ^^^ 1 := by
  constructor
  · intro h
    have : a ^^^ (a ^^^ b) = a ^^^ 1 := by rw [h]
    rw [xor_back] at this
    exact this
  · rintro rfl
    exact xor_back a 1
theorem xor_one_ne (a : Nat) : a ^^^ 1 ≠ a := by
  intro h
  have := (xor_one_eq (a := a) (b := a)).mpr h.symm
  rw [Nat.xor_self] at this
  cases this
theorem step_iff {a b k : Nat} (h : a ≠ b) : (a ^^^ b).log2 = k ↔ b / 2 ^ k = a / 2 ^ k ^^^ 1 := by
  have hm : a ^^^ b ≠ 0 := fun z => h ((xor_eq_zero a b).mp z)
  rw [log2_iff hm, xor_div, xor_one_eq]
theorem step_ne {a b k : Nat} (h : b / 2 ^ k = a / 2 ^ k ^^^ 1) : a ≠ b := fun e => by
  subst e
  exact xor_one_ne _ h.symm
theorem div_pow_succ (a i : Nat) : a / 2 ^ (i + 1) = a / 2 ^ i / 2 := by
  rw [Nat.pow_succ, Nat.div_div_eq_div_mul]
theorem upto_none {a b : Nat} : ∀ (w : Nat), a / 2 ^ w = b / 2 ^ w → stepUpto a b w = none → a = b
  | 0, h, _ => by simpa using h
  | i + 1, h, e => by
    unfold stepUpto at e
    split at e
    · rename_i hb
      rw [div_pow_succ, div_pow_succ] at h
      exact upto_none i (by omega) e
    · cases e
theorem upto_some {a b : Nat} : ∀ (w k : Nat), a / 2 ^ w = b / 2 ^ w → stepUpto a b w = some k → k < w ∧ b / 2 ^ k = a / 2 ^ k ^^^ 1
  | 0, k, _, e => by cases e
  | i + 1, k, h, e => by
    unfold stepUpto at e
    rw [div_pow_succ, div_pow_succ] at h
    split at e
    · rename_i hb
      have := upto_some i k (by omega) e
      exact ⟨by omega, this.2⟩
    · rename_i hb
      cases e
      refine ⟨by omega, ?_⟩
      have x := xor_rec (a / 2 ^ i) 1
      simp at x
      split at x <;> omega
theorem upto_eq {a b w : Nat} (ha : a < 2 ^ w) (hb : b < 2 ^ w) : stepUpto a b w = if a = b then none else some (a ^^^ b).log2 := by
  have h : a / 2 ^ w = b / 2 ^ w := by rw [Nat.div_eq_of_lt ha, Nat.div_eq_of_lt hb]
  cases e : stepUpto a b w with
  | none => rw [if_pos (upto_none w h e)]
  | some k =>
    have q := (upto_some w k h e).2
    have ne := step_ne q
    rw [if_neg ne, (step_iff ne).mpr q]
theorem log2_lt {a b w : Nat} (ha : a < 2 ^ w) (hb : b < 2 ^ w) (h : a ≠ b) : (a ^^^ b).log2 < w := by
  have e := upto_eq ha hb
  rw [if_neg h] at e
  exact (upto_some w _ (by rw [Nat.div_eq_of_lt ha, Nat.div_eq_of_lt hb]) e).1
end NN
set_option Elab.async false
set_option maxHeartbeats 4000000
set_option linter.all false
set_option maxRecDepth 100000
open PySem L2
local macro_rules | `(tactic| walk_at "ne") => `(tactic| first | assumption | (apply Ne.symm; assumption) | (intro z; subst z; simp_all; done) | grind [upd, Same])
local macro_rules | `(tactic| walk_at "hp") => `(tactic| first | assumption | exact upd_same | (refine (upd_ne ?_).trans ?_; (focus (walk_at "ne")); walk_at "hp"))
local macro_rules | `(tactic| walk_at "fld") => `(tactic| fail)
local macro_rules | `(tactic| walk_at "ty") => `(tactic| first | exact TyOf.int _ | exact TyOf.bl _ | exact TyOf.str _ | exact TyOf.non | exact TyOf.lst (by walk_at "hp") | exact TyOf.tup (by walk_at "hp") | exact kit_int_int _ | exact kit_int_bool _ | exact kit_bool_bool _ | exact kit_bool_int _ | exact kit_list_list _ | exact kit_tuple_tuple _ | exact kit_str_str _ | exact kit_str_int _ | exact kit_none_int _ | exact kit_none_str _ | exact kit_int_str _ | exact kit_bool_str _ | exact kit_list_str _ | exact kit_list_int _ | exact kit_tuple_str _ | exact kit_tuple_int _ | exact kit_dict_str _ | exact kit_dict_int _)
local macro_rules | `(tactic| walk_at "ar") => `(tactic| (try dsimp only); first | decide | omega | (refine ⟨?_, ?_⟩ <;> first | decide | omega) | (refine ⟨?_, ?_, ?_⟩ <;> first | decide | omega) | (refine Or.inl ⟨?_, ?_⟩ <;> first | decide | omega) | (refine Or.inr ⟨?_, ?_⟩ <;> first | decide | omega))
local macro_rules | `(tactic| walk_at "c") => `(tactic| first | exact rfl | assumption | (walk_at "hp") | exact SqL.of (by walk_at "hp") | exact Or.inl (SqL.of (by walk_at "hp")) | exact Or.inl (by assumption) | exact SqT.of (by walk_at "hp") | exact Or.inr (SqT.of (by walk_at "hp")) | exact Or.inl ⟨rfl, _, SqL.of (by walk_at "hp")⟩ | exact ⟨_, SqL.of (by walk_at "hp")⟩ | (walk_at "fld") | (walk_at "ty") | exact atI_zero _ _ | exact Nat.le_of_ble_eq_true rfl | (walk_at "ar"))
local macro_rules | `(tactic| walk_at "e") => `(tactic| first | (apply And.intro; focus (walk_at "c"; done)) | (apply Exists.intro; walk_at "e") | assumption)
local macro_rules | `(tactic| walk_at "w") => `(tactic| (repeat (walk_at "e")); (first | (with_reducible refine iteT ?_; walk_at "w") | (with_reducible refine iteF ?_; walk_at "w") | skip))
namespace NN
open PySem L2
def top (i : Nat) : Stmt := PySem.Challenge.pw_nearnames_k24_fewer_silent.main.body.getD i (.Pass ⟨0, 0, 0, 0⟩)
structure Txt (mg : Str → Option Value) : Prop where
  n_len : mg "len" = none
  n_sum : mg "sum" = none
  n_max : mg "max" = none
  n_range : mg "range" = none
  n_sorted : mg "sorted" = none
  n_set : mg "set" = none
  n_enumerate : mg "enumerate" = none
  n_isinstance : mg "isinstance" = none
  n_list : mg "list" = none
  n_tuple : mg "tuple" = none
  n_all : mg "all" = none
  n_min : mg "min" = none
  n_zip : mg "zip" = none
theorem bx {i j : Int} (hi : 0 ≤ i) (hj : 0 ≤ j) : Builtin.bitXor i j = ((i.toNat ^^^ j.toNat : Nat) : Int) := by
  have e := xor_add_and i.toNat j.toNat
  rw [PyProof.Rows.bitXor_and, PyProof.Rows.bitAnd_pp hi hj]
  omega
theorem bx_inj {g a b : Int} (hg : 0 ≤ g) (ha : 0 ≤ a) (hb : 0 ≤ b) (h : Builtin.bitXor g a = Builtin.bitXor g b) : a = b := by
  rw [bx hg ha, bx hg hb] at h
  have e1 := xor_back g.toNat a.toNat
  have e2 := xor_back g.toNat b.toNat
  have e3 : g.toNat ^^^ a.toNat = g.toNat ^^^ b.toNat := by omega
  rw [e3] at e1
  omega
theorem two_pow_pos (n : Nat) : (0 : Int) < 2 ^ n := by
  have h := Nat.pow_pos (n := n) (show 0 < 2 by decide)
  have e : ((2 ^ n : Nat) : Int) = 2 ^ n := by simp
  omega
theorem snoc_all {ns : List Int} {y : Int} {p : Int → Prop} (h : ∀ x ∈ ns, p x) (hy : p y) : ∀ x ∈ ns ++ [y], p x := fun x hx => by
  rcases List.mem_append.mp hx with z | z
  · exact h x z
  · rw [List.mem_singleton.mp z]
    exact hy
theorem _root_.NN.Same.put {H H2 : Hp} {p : Addr} {o : HO} (h : Same H H2) (hp : H p = none) : Same H (upd H2 p o) := fun b u e => by
  rw [upd_ne (ne_of_none e hp)]
  exact h b u e
theorem atI_some {α : Type} {xs : List α} {i : Int} (h1 : -(xs.length : Int) ≤ i) (h2 : i < xs.length) : ∃ v ∈ xs, atI xs i = some v := by
  unfold atI ixN
  by_cases h : 0 ≤ i
  · rw [if_pos h, if_pos h2]
    have hl : i.toNat < xs.length := by omega
    exact ⟨xs[i.toNat], List.getElem_mem hl, by simp [hl]⟩
  · rw [if_neg h, if_pos h1]
    have hl : (i + xs.length).toNat < xs.length := by omega
    exact ⟨xs[(i + xs.length).toNat], List.getElem_mem hl, by simp [hl]⟩
theorem at_int {ns : List Int} {i : Int} (h1 : -(ns.length : Int) ≤ i) (h2 : i < ns.length) : ∃ v ∈ ns, atI (ns.map V.int) i = some (V.int v) := by
  obtain ⟨v, hv, e⟩ := atI_some (xs := ns.map V.int) (i := i) (by simpa using h1) (by simpa using h2)
  obtain ⟨z, hz, rfl⟩ := List.mem_map.mp hv
  exact ⟨z, hz, e⟩
theorem map_get {ns : List Int} {i : Nat} {y : V} (h : (ns.map V.int)[i]? = some y) : ∃ n, ns[i]? = some n ∧ y = V.int n := by
  rw [List.getElem?_map] at h
  cases e : ns[i]? with
  | none => rw [e] at h; cases h
  | some n => rw [e] at h; cases h; exact ⟨n, rfl, rfl⟩
theorem cut_sub (ns : List Int) (lo hi : Option Int) : ∃ ts : List Int, cutV (ns.map V.int) lo hi = ts.map V.int ∧ ts.length ≤ ns.length ∧ ∀ x ∈ ts, x ∈ ns := by
  unfold cutV
  refine ⟨(ns.drop _).take _, by rw [← List.map_drop, ← List.map_take], ?_, fun x hx => List.mem_of_mem_drop (List.mem_of_mem_take hx)⟩
  rw [List.length_take, List.length_drop]
  omega
theorem sum_nn : ∀ {ns : List Int}, (∀ x ∈ ns, 0 ≤ x) → 0 ≤ ns.sum
  | [], _ => by simp
  | x :: r, h => by
    rw [List.sum_cons]
    have h1 := h x (List.mem_cons_self ..)
    have h2 := sum_nn (ns := r) fun y hy => h y (List.mem_cons_of_mem _ hy)
    omega
theorem insert_nodup {ns : List Int} {m : Int} (h : ns.Nodup) (hm : m ∉ ns) : (ns ++ [m]).Nodup := by
  refine List.nodup_append.mpr ⟨h, by simp, fun x hx y hy e => ?_⟩
  rw [List.mem_singleton.mp hy] at e
  subst e
  exact hm hx
def spFar : Sp := fun vs H Q _ => ∃ i j : Int, vs = [.int i, .int j] ∧ Q (.int (Builtin.bitXor i j)) H
section
variable {P : Program} {w : World} {K : PySem.W.Frag} {mg : Str → Option Value} {base : Heap}
theorem sc_far : FnScope ["one", "other"] ["one", "other"] (defScope (top 1)) := ⟨rfl, rfl, rfl, by decide +kernel, rfl, by decide +kernel, by decide +kernel⟩
theorem ok_far (D : Df K mg "far" (top 1) ["one", "other"]) : FnOk P w K mg base CX0 1 D.f D.fd ["one", "other"] spFar := by
  refine D.fn.ok sc_far (fun vs H Q E h => ?_) (fun cdv A outer s H vs Q E hr h => ?_)
  · obtain ⟨i, j, rfl, _⟩ := h
    rfl
  · obtain ⟨i, j, rfl, k⟩ := h
    refine ⟨_, (pss_one (ps_ret (pe_op op_xor (pv 0) (pv 1)))), ?_⟩
    exact ⟨_, rfl, _, rfl, _, _, rfl, rfl, k⟩
end
def lam0 : Pos := ⟨0, 0, 0, 0⟩
def lamX (st : Stmt) : Expr := match (defBody st).getD 0 (.Pass lam0) with | .Return (some (.Call _ _ (k :: _) _)) _ => k.value | _ => .Constant .none 0 lam0
def laArgs : Expr → Arguments | .Lambda a _ _ _ => a | _ => defArgs (.Pass lam0)
def laBody : Expr → Expr | .Lambda _ b _ _ => b | e => e
def laScope : Expr → Scope | .Lambda _ _ s _ => s | _ => defScope (.Pass lam0)
def laPos : Expr → Pos | .Lambda _ _ _ p => p | _ => lam0
def lamB : Expr := lamX (top 3)
def quL : Str := (("by_nearness" : Str) ++ ".<locals>.") ++ "<lambda>"
abbrev RL : Addr → FuncData → Prop := RLm "<lambda>" quL (laArgs lamB) (laBody lamB) (laScope lamB)
abbrev LamB (H : Hp) (f : Addr) (cv : List V) (fd : FuncData) : Prop := LamV H f "<lambda>" quL (laArgs lamB) (laBody lamB) (laScope lamB) ["goal"] cv fd
def spKey (cv : List V) : Sp := fun vs H Q _ => ∃ g n : Int, vs = [.int n] ∧ cv = [.int g] ∧ Q (.int (Builtin.bitXor g n)) H
def spL (f : Addr) (fd : FuncData) : Sp := fun vs H Q E => ∃ cv, cv.length = (["goal"] : List Str).length ∧ LamB H f cv fd ∧ spKey cv vs H Q E
def nearL (g : Int) (ns : List Int) : List Int := sortK (Builtin.bitXor g) (sortI (onceI ns))
def spBy (K : PySem.W.Frag) (T : Addr) : Sp := fun vs H Q _ => ∃ (g : Int) (p : Addr) (ns : List Int), vs = [.int g, .ref p] ∧ SqL K H p (ns.map V.int) ∧ ns.length < 64 ∧ 0 ≤ g ∧ (∀ n ∈ ns, 0 ≤ n) ∧ Tab H T (laPos lamB) quL ∧
  ∀ (l : Addr) (H' : Hp), (∀ b o, b ≠ T → H b = some o → H' b = some o) → Tab H' T (laPos lamB) quL → H l = none → H' l = some (.lst ((nearL g ns).map V.int)) → Q (.ref l) H'
section
variable {P : Program} {w : World} {K : PySem.W.Frag} {mg : Str → Option Value} {base : Heap}
theorem binds_L {f : Addr} {fd : FuncData} (h : RL f fd) : Binds K fd ["name"] [] := by
  obtain ⟨clos, pm, c', ct, rfl⟩ := h
  exact .all fun us hl => match us, hl with | [_], _ => rfl
theorem sc_lam : CloScope ["name", "goal"] ["name"] ["goal"] (laScope lamB) := ⟨rfl, rfl, rfl, by decide +kernel, by decide +kernel, by decide +kernel, by decide +kernel, by decide +kernel, by decide +kernel, by decide +kernel⟩
theorem ok_lam (D_far : Df K mg "far" (top 1) ["one", "other"]) {f : Addr} {fd : FuncData} : FnOk P w K mg base CX0 2 f fd ["name"] (spL f fd) := by
  have G_far : FnOk P w K mg base CX0 1 _ _ _ _ := ok_far D_far
  refine fn_lam (name := "<lambda>") (qual := quL) (params := laArgs lamB) (body := laBody lamB) (sp := spKey) sc_lam (fun cv vs H Q E h => ?_) (fun clos cdv A outer s H cv vs Q E hr hcl h => ?_)
  · obtain ⟨g, n, rfl, _⟩ := h
    rfl
  · obtain ⟨g, n, rfl, rfl, k⟩ := h
    refine ⟨_, (pe_call G_far (hr.mono (by decide)) rfl D_far.hm D_far.fn.kp D_far.b .nil pass0 (pa_cons (pv 1) (pa_cons (pv 0) pa_nil))), ?_⟩
    exact ⟨_, rfl, _, rfl, g, n, rfl, k⟩
theorem sc_by_nearness : FnScope ["goal", "names"] ["goal", "names"] (defScope (top 3)) := ⟨rfl, rfl, rfl, by decide +kernel, rfl, by decide +kernel, by decide +kernel⟩
theorem ok_by (T : Txt mg) (hK : K.In base) (D_far : Df K mg "far" (top 1) ["one", "other"]) (D : DfF K mg "by_nearness" (top 3) ["goal", "names"]) (hB : base.BuiltinsAt mg D.P) : FnOk P w K mg base CX0 5 D.f D.fd ["goal", "names"] (spBy K D.P) := by
  refine D.ok hK sc_by_nearness (fz := ["goal"]) (by decide +kernel) (fun vs H Q E h => ?_) (fun A outer s H vs Q E hr h H1 sm hcv hC => ?_)
  · obtain ⟨g, p, ns, rfl, _⟩ := h
    rfl
  · obtain ⟨g, p, ns, rfl, hS, hl, hg, hn, hT, k⟩ := h
    have GL : ∀ f fd, RL f fd → FnOk P w K mg base CX0 2 f fd ["name"] (spL f fd) := fun f fd _ => ok_lam D_far
    have bL : ∀ f fd, RL f fd → Binds K fd ["name"] [] := fun f fd h => binds_L h
    refine ⟨_, (pss_one (ps_ret (pe_sortK rfl T.n_sorted bt_sorted GL bL (hr.mono (by decide)) (pe_callB (call_sortedX rfl) rfl T.n_sorted bt_sorted (pa_cons (pe_callTy (call_setX rfl) rfl T.n_set bt_set (pa_cons (pv 1) pa_nil)) pa_nil)) (pe_lam rfl hC hB (defFree_of (by kernel_rfl)))))), ?_⟩
    obtain ⟨c1, hc1, v1⟩ := hcv 0 "goal" (.int g) (by decide +kernel) rfl rfl
    have hT1 : Tab H1 D.P (laPos lamB) quL := (sm.but D.P).2 _ _ hT
    have hS1 := sm.seq hS
    refine ⟨_, rfl, p, ns, rfl, hS1, by omega, fun l1 hl1 => ?_⟩
    have hol := onceI_len ns
    refine ⟨l1, onceI ns, rfl, upd_same, onceI_nodup ns, by omega, fun l2 hl2 => ?_⟩
    generalize hH3 : upd (upd H1 l1 _) l2 _ = H3
    have s3 : Same H1 H3 := by
      rw [← hH3]
      exact ((Same.refl H1).lay hl1).lay hl2
    have h32 : H3 l2 = some (.lst ((sortI (onceI ns)).map V.int)) := by rw [← hH3, upd_same]
    have hT3 : Tab H3 D.P (laPos lamB) quL := (s3.but D.P).2 _ _ hT1
    have nP : ∀ {b : Addr} {xs : List V}, H3 b = some (.lst xs) → b ≠ D.P := fun {b xs} e z => by
      obtain ⟨ps, hP, _⟩ := hT3
      rw [z, hP] at e
      cases e
    dsimp only [tNil, tCons]
    refine tLam_of hT3 fun f H' fo clos c' oc k1 k2 hb hT' hf hf' sh hc' cs => ?_
    have keep : ∀ c v, CellV H3 c v → CellV H' c v := fun c v hv => hv.same fun o k e => hb c _ (fun z => by
      obtain ⟨ps, hP, _⟩ := hT3
      rw [z, hP] at e
      cases e) e
    obtain ⟨fd, hd, hR, hF⟩ := lamv_of (qual := quL) (params := laArgs lamB) (body := laBody lamB) (scope := laScope lamB) (fr := ["goal"]) (cv := [.int g]) sh hf' hc' cs (fun i x v h1 h2 => by
      match i, h1, h2 with
      | 0, h1, h2 =>
        cases h1
        cases h2
        exact ⟨by decide +kernel, c1, hc1, keep _ _ (v1.same fun o k e => s3 _ _ e)⟩)
    have nn : ∀ x ∈ sortI (onceI ns), 0 ≤ x := fun x hx => hn x (onceI_mem.mp ((sortI_perm _).subset hx))
    refine ⟨l2, f, fd, sortI (onceI ns), Builtin.bitXor g, rfl, rfl, SqL.of (hb _ _ (nP h32) h32), by rw [sortI_len]; omega, fun x hx y hy e => bx_inj hg (nn x hx) (nn y hy) e, hR, fun n _ Q' q => ⟨[.int g], rfl, hF, g, n, rfl, rfl, q⟩, fun l hl' => ?_⟩
    have s5 : Same H' (upd H' l (.lst ((sortK (Builtin.bitXor g) (sortI (onceI ns))).map V.int))) := (Same.refl H').lay hl'
    refine k l _ (fun b o hbP e => s5 _ _ (hb _ _ hbP (s3 _ _ (sm _ _ e)))) ((s5.but D.P).2 _ _ hT') ?_ upd_same
    cases e : H l with
    | none => rfl
    | some o =>
      by_cases z : l = D.P
      · obtain ⟨ps, hP, _⟩ := hT'
        rw [z, hP] at hl'
        cases hl'
      · rw [hb _ _ z (s3 _ _ (sm _ _ e))] at hl'
        cases hl'
end
theorem nearL_perm (g : Int) (ns : List Int) : (nearL g ns).Perm (onceI ns) := (sortK_perm _ _).trans (sortI_perm _)
theorem nearL_mem {g : Int} {ns : List Int} {x : Int} : x ∈ nearL g ns ↔ x ∈ ns := (nearL_perm g ns).mem_iff.trans onceI_mem
theorem nearL_len (g : Int) (ns : List Int) : (nearL g ns).length ≤ ns.length := by
  rw [(nearL_perm g ns).length_eq]
  exact onceI_len ns
theorem nearL_nodup (g : Int) (ns : List Int) : (nearL g ns).Nodup := (nearL_perm g ns).nodup_iff.mpr (onceI_nodup ns)
theorem nearL_of {g : Int} {ns ms : List Int} (hg : 0 ≤ g) (hn : ∀ y ∈ ns, 0 ≤ y) (hd : ms.Nodup) (hm : ∀ y, y ∈ ms ↔ y ∈ ns) : sortK (Builtin.bitXor g) ms = nearL g ns := by
  have p : ms.Perm (onceI ns) := (List.perm_ext_iff_of_nodup hd (onceI_nodup ns)).mpr fun y => (hm y).trans onceI_mem.symm
  unfold nearL
  exact sortK_of ((sortK_perm _ _).trans (p.trans (sortI_perm _).symm)) (fun x hx y hy e => bx_inj hg (hn x (onceI_mem.mp ((sortI_perm _).subset hx))) (hn y (onceI_mem.mp ((sortI_perm _).subset hy))) e) (sortK_sorted _ _)
theorem len_sub : ∀ {l m : List Int}, l.Nodup → (∀ x ∈ l, x ∈ m) → l.length ≤ m.length
  | [], m, _, _ => Nat.zero_le _
  | a :: r, m, hd, hs => by
    obtain ⟨h1, h2⟩ := List.nodup_cons.mp hd
    have ha := hs a (List.mem_cons_self ..)
    have := len_sub (l := r) (m := m.erase a) h2 fun x hx => (List.mem_erase_of_ne (fun (e : x = a) => h1 (e ▸ hx))).mpr (hs x (List.mem_cons_of_mem _ hx))
    rw [List.length_erase_of_mem ha] at this
    have := List.length_pos_of_mem ha
    rw [List.length_cons]
    omega
theorem nearL_uniq {g : Int} {ns l : List Int} (hg : 0 ≤ g) (hn : ∀ y ∈ ns, 0 ≤ y) (hd : l.Nodup) (hm : ∀ y, y ∈ l ↔ y ∈ ns) (hs : l.Pairwise (fun x y => Builtin.bitXor g x ≤ Builtin.bitXor g y)) : l = nearL g ns := by
  have p : l.Perm (onceI ns) := (List.perm_ext_iff_of_nodup hd (onceI_nodup ns)).mpr fun y => (hm y).trans onceI_mem.symm
  exact sortK_of (p.trans (sortI_perm _).symm) (fun x hx y hy e => bx_inj hg (hn x (onceI_mem.mp ((sortI_perm _).subset hx))) (hn y (onceI_mem.mp ((sortI_perm _).subset hy))) e) hs
def dx (g x : Int) : Int := Builtin.bitXor g x
def sameK (k : Nat) (a b : Int) : Prop := a.toNat / 2 ^ k = b.toNat / 2 ^ k
def St (h n : Int) : Nat := (h.toNat ^^^ n.toNat).log2
theorem dx_nat {g x : Int} (hg : 0 ≤ g) (hx : 0 ≤ x) : dx g x = ((g.toNat ^^^ x.toNat : Nat) : Int) := bx hg hx
theorem xor_can {a b c : Nat} (h : a ^^^ b = a ^^^ c) : b = c := by
  have e1 := xor_back a b
  have e2 := xor_back a c
  rw [h] at e1
  exact e1.symm.trans e2
theorem same_between {g n f m : Int} {k : Nat} (hg : 0 ≤ g) (hn : 0 ≤ n) (hf : 0 ≤ f) (hm : 0 ≤ m) (h1 : dx g n ≤ dx g f) (h2 : dx g f ≤ dx g m) (hs : sameK k n m) : sameK k f n := by
  rw [dx_nat hg hn, dx_nat hg hf] at h1
  rw [dx_nat hg hf, dx_nat hg hm] at h2
  have a1 : (g.toNat ^^^ n.toNat) / 2 ^ k ≤ (g.toNat ^^^ f.toNat) / 2 ^ k := Nat.div_le_div_right (by omega)
  have a2 : (g.toNat ^^^ f.toNat) / 2 ^ k ≤ (g.toNat ^^^ m.toNat) / 2 ^ k := Nat.div_le_div_right (by omega)
  rw [xor_div, xor_div] at a1 a2
  unfold sameK at hs ⊢
  rw [← hs] at a2
  exact xor_can (Nat.le_antisymm a2 a1)
theorem St_one {h n : Int} (hh : 0 ≤ h) (hn : 0 ≤ n) (hne : h ≠ n) : n.toNat / 2 ^ St h n = h.toNat / 2 ^ St h n ^^^ 1 := (step_iff (fun e => hne (by omega))).mp rfl
theorem St_same {h n m : Int} (hh : 0 ≤ h) (hn : 0 ≤ n) (hm : 0 ≤ m) (h1 : h ≠ n) (h2 : h ≠ m) (e : St h m = St h n) : sameK (St h n) m n := by
  unfold sameK
  rw [St_one hh hn h1, ← e, St_one hh hm h2]
theorem St_lt {f n : Int} {k : Nat} (hf : 0 ≤ f) (hn : 0 ≤ n) (hne : f ≠ n) (hs : sameK k f n) : St f n < k := by
  by_cases z : St f n < k
  · exact z
  · exfalso
    obtain ⟨j, hj⟩ : ∃ j, St f n = k + j := ⟨St f n - k, by omega⟩
    have e := St_one hf hn hne
    unfold sameK at hs
    rw [hj, Nat.pow_add, ← Nat.div_div_eq_div_mul, ← Nat.div_div_eq_div_mul, hs] at e
    exact xor_one_ne _ e.symm
theorem not_same {h n : Int} (hh : 0 ≤ h) (hn : 0 ≤ n) (hne : h ≠ n) : ¬ sameK (St h n) h n := fun z => Nat.lt_irrefl _ (St_lt hh hn hne z)
theorem nearL_lt {g : Int} {ns : List Int} (hg : 0 ≤ g) (hn : ∀ y ∈ ns, 0 ≤ y) : (nearL g ns).Pairwise (fun a b => dx g a < dx g b) := by
  have hs : (nearL g ns).Pairwise (fun a b => Builtin.bitXor g a ≤ Builtin.bitXor g b) := sortK_sorted _ _
  refine (hs.and (List.nodup_iff_pairwise_ne.mp (nearL_nodup g ns))).imp_of_mem fun {a b} ha hb ⟨h1, h2⟩ => ?_
  rcases Int.lt_or_eq_of_le h1 with z | z
  · exact z
  · exact absurd (bx_inj hg (hn a (nearL_mem.mp ha)) (hn b (nearL_mem.mp hb)) z) h2
theorem take_lt {g : Int} : ∀ {l : List Int} {rm : Nat} {x : Int}, l.Pairwise (fun a b => dx g a < dx g b) → x ∈ l → ¬ x ∈ l.take rm → (l.take rm).length = rm ∧ ∀ t ∈ l.take rm, dx g t < dx g x
  | [], _, _, _, h, _ => nomatch h
  | a :: r, 0, x, _, _, _ => by simp
  | a :: r, rm + 1, x, hp, hx, hn => by
    obtain ⟨h1, h2⟩ := List.pairwise_cons.mp hp
    rw [List.take_succ_cons] at hn ⊢
    have hxr : x ∈ r := by
      rcases List.mem_cons.mp hx with z | z
      · exact absurd (z ▸ List.mem_cons_self ..) hn
      · exact z
    obtain ⟨a1, a2⟩ := take_lt (rm := rm) h2 hxr fun z => hn (List.mem_cons_of_mem _ z)
    refine ⟨by rw [List.length_cons, a1], fun t ht => ?_⟩
    rcases List.mem_cons.mp ht with z | z
    · rw [z]; exact h1 x hxr
    · exact a2 t z
theorem take_nodup {l : List Int} (h : l.Nodup) (rm : Nat) : (l.take rm).Nodup := h.sublist (List.take_sublist _ _)
structure Keeps (pool : List Int) (rm : Nat) (kp : Int → List Int) : Prop where
  sub : ∀ h ∈ pool, ∀ m ∈ kp h, m ∈ pool ∧ m ≠ h
  full : ∀ h ∈ pool, ∀ n ∈ pool, n ≠ h → n ∈ kp h ∨ ∃ M : List Int, M.Nodup ∧ M.length = rm ∧ ∀ m ∈ M, m ∈ kp h ∧ St h m = St h n
def tellL (kp : Int → List Int) (g : Int) (rm : Nat) (a h : Int) : List Int := ((nearL g (kp h)).filter fun n => !decide (n = a)).take rm
theorem least {α : Type} (f : α → Nat) : ∀ {l : List α}, l ≠ [] → ∃ x ∈ l, ∀ y ∈ l, f x ≤ f y
  | [], h => absurd rfl h
  | [a], _ => ⟨a, List.mem_cons_self .., fun y hy => by rw [List.mem_singleton.mp hy]; exact Nat.le_refl _⟩
  | a :: b :: r, _ => by
    obtain ⟨x, hx, hm⟩ := least f (l := b :: r) (List.cons_ne_nil _ _)
    by_cases z : f a ≤ f x
    · exact ⟨a, List.mem_cons_self .., fun y hy => by
        rcases List.mem_cons.mp hy with e | e
        · rw [e]; exact Nat.le_refl _
        · exact Nat.le_trans z (hm y e)⟩
    · exact ⟨x, List.mem_cons_of_mem _ hx, fun y hy => by
        rcases List.mem_cons.mp hy with e | e
        · rw [e]; omega
        · exact hm y e⟩
theorem tell_sub {kp : Int → List Int} {g a h t : Int} {rm : Nat} (ht : t ∈ tellL kp g rm a h) : t ∈ kp h ∧ t ≠ a := by
  obtain ⟨h1, h2⟩ := List.mem_filter.mp (List.mem_of_mem_take ht)
  exact ⟨nearL_mem.mp h1, by simpa using h2⟩
theorem tell_sorted {kp : Int → List Int} {g a h : Int} (hg : 0 ≤ g) (hn : ∀ y ∈ kp h, 0 ≤ y) : ((nearL g (kp h)).filter fun n => !decide (n = a)).Pairwise (fun a b => dx g a < dx g b) := (nearL_lt hg hn).filter _
theorem told_like {pool aw : List Int} {kp : Int → List Int} {rm : Nat} {g h n a : Int} (hg : 0 ≤ g) (hp : ∀ y ∈ pool, 0 ≤ y) (hK : Keeps pool rm kp) (haw : ∀ x ∈ aw, x ∈ pool) (hq : ∀ T : List Int, T.Nodup → (∀ t ∈ T, t ∈ pool ∧ ¬ t ∈ aw) → T.length < rm)
    (hh : h ∈ pool) (hn : n ∈ aw) (hne : h ≠ n) (hna : n ≠ a) (hbest : ∀ y ∈ aw, y ≠ a → dx g n ≤ dx g y) (ha : ¬ sameK (St h n) a n) : ∃ t ∈ tellL kp g rm a h, t ∈ aw ∧ sameK (St h n) t n := by
  have h0 := hp h hh
  have hnp := haw n hn
  have n0 := hp n hnp
  have one : ∀ T : List Int, T.Nodup → (∀ t ∈ T, t ∈ pool) → T.length = rm → ∃ t ∈ T, t ∈ aw := fun T hd ht hl => by
    by_cases z : ∃ t ∈ T, t ∈ aw
    · exact z
    · exfalso
      have := hq T hd fun t h => ⟨ht t h, fun y => z ⟨t, h, y⟩⟩
      omega
  have kp0 : ∀ y ∈ kp h, 0 ≤ y := fun y hy => hp y (hK.sub h hh y hy).1
  have hts := tell_sorted (a := a) hg kp0
  have hTd : (tellL kp g rm a h).Nodup := take_nodup ((nearL_nodup g _).filter _) rm
  have hTp : ∀ t ∈ tellL kp g rm a h, t ∈ pool := fun t ht => (hK.sub h hh t (tell_sub ht).1).1
  have go : ∀ m, m ∈ kp h → m ≠ a → m ∈ aw → sameK (St h n) m n → ∃ t ∈ tellL kp g rm a h, t ∈ aw ∧ sameK (St h n) t n := fun m hm hma hmw hs => by
    by_cases hmt : m ∈ tellL kp g rm a h
    · exact ⟨m, hmt, hmw, hs⟩
    · obtain ⟨a1, a2⟩ := take_lt (rm := rm) hts (List.mem_filter.mpr ⟨nearL_mem.mpr hm, by simpa using hma⟩) hmt
      obtain ⟨t, ht, htw⟩ := one _ hTd hTp a1
      have h1 := hbest t htw (tell_sub ht).2
      have h2 := a2 t ht
      exact ⟨t, ht, htw, same_between hg n0 (hp t (hTp t ht)) (kp0 m hm) h1 (by omega) hs.symm⟩
  rcases hK.full h hh n hnp hne.symm with hk | ⟨M, hMd, hMl, hM⟩
  · exact go n hk hna hn rfl
  · obtain ⟨m, hm, hmw⟩ := one M hMd (fun t ht => (hK.sub h hh t (hM t ht).1).1) hMl
    obtain ⟨a1, a2⟩ := hM m hm
    obtain ⟨b1, b2⟩ := hK.sub h hh m a1
    have hs := St_same h0 n0 (hp m b1) hne b2.symm a2
    exact go m a1 (fun z => ha (z ▸ hs)) hmw hs
theorem found_one {pool aw S R : List Int} {kp : Int → List Int} {rm : Nat} {s g n : Int} {fl : Int → Bool} (hg : 0 ≤ g) (hp : ∀ y ∈ pool, 0 ≤ y) (hrm : 0 < rm) (hK : Keeps pool rm kp) (haw : ∀ x ∈ aw, x ∈ pool) (hq : ∀ T : List Int, T.Nodup → (∀ t ∈ T, t ∈ pool ∧ ¬ t ∈ aw) → T.length < rm)
    (hs : s ∈ aw) (hsR : s ∈ R) (hS : ∀ h ∈ R, h ∈ aw → ∀ x ∈ tellL kp g rm s h, x ∈ S) (hSp : ∀ x ∈ S, x ∈ pool ∧ x ≠ s) (hfl : ∀ x ∈ aw, fl x = true) (hF : ∀ x ∈ ((nearL g S).filter fl).take rm, x ∈ R ∧ x ∈ aw)
    (hn : n ∈ aw) (hns : n ≠ s) (hbest : ∀ y ∈ aw, y ≠ s → dx g n ≤ dx g y) : n ∈ ((nearL g S).filter fl).take rm := by
  have hSs : ((nearL g S).filter fl).Pairwise (fun a b => dx g a < dx g b) := (nearL_lt hg fun y hy => hp y (hSp y hy).1).filter _
  have hFS : ∀ x ∈ ((nearL g S).filter fl).take rm, x ∈ S := fun x hx => nearL_mem.mp (List.mem_filter.mp (List.mem_of_mem_take hx)).1
  have n0 := hp n (haw n hn)
  by_cases hnF : n ∈ ((nearL g S).filter fl).take rm
  · exact hnF
  exfalso
  have near : ∀ t, t ∈ S → t ∈ aw → ¬ t ∈ ((nearL g S).filter fl).take rm → ∃ f ∈ ((nearL g S).filter fl).take rm, dx g f < dx g t := fun t ht htw htF => by
    obtain ⟨a1, a2⟩ := take_lt (rm := rm) hSs (List.mem_filter.mpr ⟨nearL_mem.mpr ht, hfl t htw⟩) htF
    cases e : ((nearL g S).filter fl).take rm with
    | nil => rw [e] at a1; simp at a1; omega
    | cons f r =>
      rw [e] at a2
      exact ⟨f, List.mem_cons_self .., a2 f (List.mem_cons_self ..)⟩
  have hnS : ¬ n ∈ S := fun z => by
    obtain ⟨f, hf, lt⟩ := near n z hn hnF
    have := hbest f (hF f hf).2 (hSp f (hFS f hf)).2
    omega
  obtain ⟨h, hh, hmin⟩ := least (fun x => St x n) (l := s :: ((nearL g S).filter fl).take rm) (List.cons_ne_nil _ _)
  have hhR : h ∈ R ∧ h ∈ aw := by
    rcases List.mem_cons.mp hh with z | z
    · rw [z]; exact ⟨hsR, hs⟩
    · exact hF h z
  have hhn : h ≠ n := fun z => by
    rcases List.mem_cons.mp hh with y | y
    · exact hns (z.symm.trans y)
    · exact hnF (z ▸ y)
  have close : ∀ f, f ∈ s :: ((nearL g S).filter fl).take rm → f ≠ n → 0 ≤ f → ¬ sameK (St h n) f n := fun f hf hfn f0 hsame => by
    have := St_lt f0 n0 hfn hsame
    have := hmin f hf
    omega
  obtain ⟨t, ht, htw, hts⟩ := told_like (a := s) hg hp hK haw hq (haw h hhR.2) hn hhn hns hbest (close s (List.mem_cons_self ..) hns.symm (hp s (haw s hs)))
  have htS := hS h hhR.1 hhR.2 t ht
  have htn : t ≠ n := fun z => hnS (z ▸ htS)
  have t0 := hp t (haw t htw)
  by_cases htF : t ∈ ((nearL g S).filter fl).take rm
  · exact close t (List.mem_cons_of_mem _ htF) htn t0 hts
  · obtain ⟨f, hf, lt⟩ := near t htS htw htF
    have f0 := hp f (haw f (hF f hf).2)
    have hb := hbest f (hF f hf).2 (hSp f (hFS f hf)).2
    exact close f (List.mem_cons_of_mem _ hf) (fun z => hnF (z ▸ hf)) f0 (same_between hg n0 f0 t0 hb (by omega) hts.symm)
theorem sorted_first {g : Int} {l : List Int} {n : Int} (hs : l.Pairwise (fun a b => dx g a < dx g b)) (hn : n ∈ l) (hb : ∀ y ∈ l, dx g n ≤ dx g y) : l.take 1 = [n] := by
  cases l with
  | nil => cases hn
  | cons a r =>
    rcases List.mem_cons.mp hn with z | z
    · rw [z]; rfl
    · have h1 := (List.pairwise_cons.mp hs).1 n z
      have h2 := hb a (List.mem_cons_self ..)
      omega
theorem found_first {pool aw S R : List Int} {kp : Int → List Int} {rm : Nat} {s g : Int} {fl : Int → Bool} (hg : 0 ≤ g) (hp : ∀ y ∈ pool, 0 ≤ y) (hrm : 0 < rm) (hK : Keeps pool rm kp) (haw : ∀ x ∈ aw, x ∈ pool) (hq : ∀ T : List Int, T.Nodup → (∀ t ∈ T, t ∈ pool ∧ ¬ t ∈ aw) → T.length < rm)
    (hs : s ∈ aw) (hsR : s ∈ R) (hS : ∀ h ∈ R, h ∈ aw → ∀ x ∈ tellL kp g rm s h, x ∈ S) (hSp : ∀ x ∈ S, x ∈ pool ∧ x ≠ s) (hfl : ∀ x ∈ aw, fl x = true) (hF : ∀ x ∈ ((nearL g S).filter fl).take rm, x ∈ R ∧ x ∈ aw) :
    (((nearL g S).filter fl).take rm).take 1 = ((nearL g aw).filter fun n => !decide (n = s)).take 1 ∧ ∀ x ∈ ((nearL g S).filter fl).take rm, x ∈ (nearL g aw).filter fun n => !decide (n = s) := by
  have hall : ∀ x ∈ ((nearL g S).filter fl).take rm, x ∈ (nearL g aw).filter fun n => !decide (n = s) := fun x hx => by
    have h1 : x ∈ S := nearL_mem.mp (List.mem_filter.mp (List.mem_of_mem_take hx)).1
    exact List.mem_filter.mpr ⟨nearL_mem.mpr (hF x hx).2, by simpa using (hSp x h1).2⟩
  refine ⟨?_, hall⟩
  have hSs : ((nearL g S).filter fl).Pairwise (fun a b => dx g a < dx g b) := (nearL_lt hg fun y hy => hp y (hSp y hy).1).filter _
  have hTs : (((nearL g S).filter fl).take rm).Pairwise (fun a b => dx g a < dx g b) := hSs.sublist (List.take_sublist _ _)
  have hAs : ((nearL g aw).filter fun n => !decide (n = s)).Pairwise (fun a b => dx g a < dx g b) := (nearL_lt hg fun y hy => hp y (haw y hy)).filter _
  cases e : (nearL g aw).filter fun n => !decide (n = s) with
  | nil =>
    cases e' : ((nearL g S).filter fl).take rm with
    | nil => rfl
    | cons x r =>
      have := hall x (by rw [e']; exact List.mem_cons_self ..)
      rw [e] at this
      cases this
  | cons n r =>
    have hnm : n ∈ (nearL g aw).filter fun n => !decide (n = s) := by rw [e]; exact List.mem_cons_self ..
    obtain ⟨h1, h2⟩ := List.mem_filter.mp hnm
    have hn := nearL_mem.mp h1
    have hns : n ≠ s := by simpa using h2
    have hbest : ∀ y ∈ aw, y ≠ s → dx g n ≤ dx g y := fun y hy hys => by
      have hm : y ∈ (nearL g aw).filter fun n => !decide (n = s) := List.mem_filter.mpr ⟨nearL_mem.mpr hy, by simpa using hys⟩
      rw [e] at hm hAs
      rcases List.mem_cons.mp hm with z | z
      · rw [z]; exact Int.le_refl _
      · have := (List.pairwise_cons.mp hAs).1 y z
        omega
    have hin := found_one hg hp hrm hK haw hq hs hsR hS hSp hfl hF hn hns hbest
    rw [sorted_first hTs hin fun y hy => ?_]
    · rfl
    · obtain ⟨y1, y2⟩ := List.mem_filter.mp (hall y hy)
      exact hbest y (nearL_mem.mp y1) (by simpa using y2)
def rowS (kp : Int → List Int) (g : Int) (rm : Nat) (h : Int) : List Int := nearL g (tellL kp g rm h h)
def nxtS (aw : List Int) (kp : Int → List Int) (g : Int) (rm : Nat) (h : Int) : Option Int := match (rowS kp g rm h).find? (fun n => decide (n ∈ aw)) with | none => none | some p => if Builtin.bitXor g p < Builtin.bitXor g h then some p else none
theorem find_best {g : Int} {p : Int → Bool} : ∀ {l : List Int} {t : Int}, l.Pairwise (fun a b => dx g a < dx g b) → t ∈ l → p t = true → ∃ f, l.find? p = some f ∧ f ∈ l ∧ p f = true ∧ dx g f ≤ dx g t
  | [], _, _, h, _ => nomatch h
  | a :: r, t, hs, ht, hp => by
    obtain ⟨h1, h2⟩ := List.pairwise_cons.mp hs
    by_cases z : p a = true
    · refine ⟨a, by simp [z], List.mem_cons_self .., z, ?_⟩
      rcases List.mem_cons.mp ht with y | y
      · rw [y]; exact Int.le_refl _
      · have := h1 t y
        omega
    · have htr : t ∈ r := by
        rcases List.mem_cons.mp ht with y | y
        · exact absurd (y ▸ hp) z
        · exact y
      obtain ⟨f, a1, a2, a3, a4⟩ := find_best h2 htr hp
      exact ⟨f, by simp [z, a1], List.mem_cons_of_mem _ a2, a3, a4⟩
def mu (h n : Int) : Nat := if h = n then 0 else St h n + 1
section
variable {pool aw : List Int} {kp : Int → List Int} {g h n : Int} {rm : Nat}
theorem nxtS_aw {m : Int} (e : nxtS aw kp g rm h = some m) : m ∈ aw ∧ Builtin.bitXor g m < Builtin.bitXor g h := by
  unfold nxtS at e
  cases z : (rowS kp g rm h).find? (fun n => decide (n ∈ aw)) with
  | none => rw [z] at e; cases e
  | some p =>
    rw [z] at e
    have hp := List.find?_some z
    by_cases y : Builtin.bitXor g p < Builtin.bitXor g h
    · simp only [if_pos y] at e
      cases e
      exact ⟨by simpa using hp, y⟩
    · simp only [if_neg y] at e
      cases e
theorem nxtS_end (hbest : ∀ y ∈ aw, dx g n ≤ dx g y) : nxtS aw kp g rm n = none := by
  cases e : nxtS aw kp g rm n with
  | none => rfl
  | some m =>
    obtain ⟨h1, h2⟩ := nxtS_aw e
    have := hbest m h1
    unfold dx at this
    omega
theorem nxtS_go (hg : 0 ≤ g) (hp : ∀ y ∈ pool, 0 ≤ y) (hK : Keeps pool rm kp) (haw : ∀ x ∈ aw, x ∈ pool) (hq : ∀ T : List Int, T.Nodup → (∀ t ∈ T, t ∈ pool ∧ ¬ t ∈ aw) → T.length < rm) (hh : h ∈ aw) (hn : n ∈ aw) (hbest : ∀ y ∈ aw, dx g n ≤ dx g y) (hne : h ≠ n) :
    ∃ p, nxtS aw kp g rm h = some p ∧ p ∈ aw ∧ mu p n < mu h n := by
  have h0 := hp h (haw h hh)
  have n0 := hp n (haw n hn)
  obtain ⟨t, ht, htw, hts⟩ := told_like (a := h) hg hp hK haw hq (haw h hh) hn hne hne.symm (fun y hy _ => hbest y hy) (not_same h0 n0 hne)
  have hT0 : ∀ y ∈ tellL kp g rm h h, 0 ≤ y := fun y hy => hp y (hK.sub h (haw h hh) y (tell_sub hy).1).1
  obtain ⟨p, e, hpr, hpw, hpt⟩ := find_best (p := fun n => decide (n ∈ aw)) (nearL_lt hg hT0) (nearL_mem (g := g).mpr ht) (by simpa using htw)
  have hpw : p ∈ aw := by simpa using hpw
  have p0 := hp p (haw p hpw)
  have hsp : sameK (St h n) p n := same_between hg n0 p0 (hp t (haw t htw)) (hbest p hpw) hpt hts.symm
  have lt : dx g p < dx g h := by
    by_cases z : dx g p < dx g h
    · exact z
    · exact absurd (same_between hg n0 h0 p0 (hbest h hh) (by omega) hsp.symm) (not_same h0 n0 hne)
  refine ⟨p, ?_, hpw, ?_⟩
  · unfold nxtS rowS
    rw [e]
    exact if_pos lt
  · unfold mu
    rw [if_neg hne]
    by_cases z : p = n
    · rw [if_pos z]
      omega
    · rw [if_neg z]
      have := St_lt p0 n0 z hsp
      omega
end
def lamXi (st : Stmt) (i : Nat) : Expr := match (defBody st).getD i (.Pass lam0) with | .Return (some (.Call _ _ (k :: _) _)) _ => k.value | _ => .Constant .none 0 lam0
def lamY : Expr := lamXi (top 17) 2
def quY : Str := (("_law_by" : Str) ++ ".<locals>.") ++ "<lambda>"
abbrev RY : Addr → FuncData → Prop := RLm "<lambda>" quY (laArgs lamY) (laBody lamY) (laScope lamY)
abbrev LamYv (H : Hp) (f : Addr) (cv : List V) (fd : FuncData) : Prop := LamV H f "<lambda>" quY (laArgs lamY) (laBody lamY) (laScope lamY) ["_law_goal"] cv fd
def spLY (f : Addr) (fd : FuncData) : Sp := fun vs H Q E => ∃ cv, cv.length = (["_law_goal"] : List Str).length ∧ LamYv H f cv fd ∧ spKey cv vs H Q E
def spLby (K : PySem.W.Frag) (T : Addr) : Sp := fun vs H Q _ => ∃ (g : Int) (p : Addr) (ns : List Int), vs = [.int g, .ref p] ∧ SqL K H p (ns.map V.int) ∧ ns.length ≤ 900 ∧ (onceI ns).length < 64 ∧ 0 ≤ g ∧ (∀ n ∈ ns, 0 ≤ n) ∧ Tab H T (laPos lamY) quY ∧
  ∀ (l : Addr) (H' : Hp), (∀ b o, b ≠ T → H b = some o → H' b = some o) → Tab H' T (laPos lamY) quY → H l = none → H' l = some (.lst ((nearL g ns).map V.int)) → Q (.ref l) H'
section
variable {P : Program} {w : World} {K : PySem.W.Frag} {mg : Str → Option Value} {base : Heap}
theorem binds_Y {f : Addr} {fd : FuncData} (h : RY f fd) : Binds K fd ["_law_name"] [] := by
  obtain ⟨clos, pm, c', ct, rfl⟩ := h
  exact .all fun us hl => match us, hl with | [_], _ => rfl
theorem sc_lamY : CloScope ["_law_name", "_law_goal"] ["_law_name"] ["_law_goal"] (laScope lamY) := ⟨rfl, rfl, rfl, by decide +kernel, by decide +kernel, by decide +kernel, by decide +kernel, by decide +kernel, by decide +kernel, by decide +kernel⟩
theorem ok_lamY {f : Addr} {fd : FuncData} : FnOk P w K mg base CX0 1 f fd ["_law_name"] (spLY f fd) := by
  refine fn_lam (name := "<lambda>") (qual := quY) (params := laArgs lamY) (body := laBody lamY) (sp := spKey) sc_lamY (fun cv vs H Q E h => ?_) (fun clos cdv A outer s H cv vs Q E hr hcl h => ?_)
  · obtain ⟨g, n, rfl, _⟩ := h
    rfl
  · obtain ⟨g, n, rfl, rfl, k⟩ := h
    refine ⟨_, (pe_op op_xor (pv 1) (pv 0)), ?_⟩
    exact ⟨_, rfl, _, rfl, _, _, rfl, rfl, k⟩
theorem sc_lby : FnScope ["_law_goal", "_law_names", "_law_found", "_law_name"] ["_law_goal", "_law_names"] (defScope (top 17)) := ⟨rfl, rfl, rfl, by decide +kernel, rfl, by decide +kernel, by decide +kernel⟩
theorem ok_lby (T : Txt mg) (hK : K.In base) (D : DfF K mg "_law_by" (top 17) ["_law_goal", "_law_names"]) (hB : base.BuiltinsAt mg D.P) : FnOk P w K mg base CX0 4 D.f D.fd ["_law_goal", "_law_names"] (spLby K D.P) := by
  refine D.ok hK sc_lby (fz := ["_law_goal"]) (by decide +kernel) (fun vs H Q E h => ?_) (fun A outer s H vs Q E hr h H1 sm hcv hC => ?_)
  · obtain ⟨g, p, ns, rfl, _⟩ := h
    rfl
  · obtain ⟨g, p, ns, rfl, hS, hl, hl64, hg, hn, hT, k⟩ := h
    have GL : ∀ f fd, RY f fd → FnOk P w K mg base CX0 1 f fd ["_law_name"] (spLY f fd) := fun f fd _ => ok_lamY
    have bL : ∀ f fd, RY f fd → Binds K fd ["_law_name"] [] := fun f fd h => binds_Y h
    refine ⟨_, (pss_cons (ps_set (i := 2) sc_lby.nd rfl (Or.inl rfl) (pe_lst pa_nil))
      (pss_cons (ps_for PassesOwn.never rfl (pi_list (pv 1)) (pg_name (i := 3) sc_lby.nd rfl (Or.inl rfl))
       (pss_one (ps_if (pt_cmpR op_notIn_seq (pv 3) (pv 2) (by with_unfolding_all rfl))
         (pss_one (ps_expr (pe_bm PySem.F.plainAttrs_list PySem.F.slot_list_append PySem.F.type_list_append mt_append (pv 2) (pa_cons (pv 3) pa_nil))))
         pss_nil)))
      (pss_one (ps_ret (pe_sortK rfl T.n_sorted bt_sorted GL bL (hr.mono (by decide)) (pv 2) (pe_lam rfl hC hB (defFree_of (by kernel_rfl)))))))), ?_⟩
    obtain ⟨c1, hc1, v1⟩ := hcv 0 "_law_goal" (.int g) (by decide +kernel) rfl rfl
    have hT1 : Tab H1 D.P (laPos lamY) quY := (sm.but D.P).2 _ _ hT
    have hS1 := sm.seq hS
    walk_at "w"
    intro fl hfl
    have s0 : Same H1 (upd H1 fl (.lst [])) := Same.new H1 hfl
    walk_at "w"
    refine ⟨⟨_, s0.seq hS1⟩, for_list (K := K) (a := p) (xs := ns.map V.int) (fun i σ H2 => Hold (∃ (v3 : Option V) (ms : List Int), σ = [some (.int g), some (.ref p), some (.ref fl), v3] ∧ Same H1 H2 ∧ H2 fl = some (.lst (ms.map V.int)) ∧ ms.Nodup ∧ ms.length ≤ i ∧ ∀ y, y ∈ ms ↔ y ∈ ns.take i))
      ⟨⟨none, [], rfl, s0, upd_same, List.nodup_nil, Nat.le_refl 0, fun y => by simp⟩⟩ (fun i σ H2 _ ⟨_, _, _, s2, _⟩ => s2.seq hS1) ?_ ?_⟩
    · rintro i y σ H2 hi ⟨v3, ms, rfl, s2, hf2, hd, hml, hm⟩
      obtain ⟨x, hx, rfl⟩ := map_get hi
      have hil : i < ns.length := (List.getElem?_eq_some_iff.mp hx).1
      have et : ns.take (i + 1) = ns.take i ++ [x] := by rw [List.take_add_one, hx]; rfl
      have hsz : (ms.map V.int).length < sizeLine := by rw [List.length_map]; exact small1000 (by omega)
      have hflat := flat_ints ms
      walk_at "w"
      show if (!inV (V.int x) (ms.map V.int)) = true then _ else _
      rw [inV_int]
      by_cases hxm : x ∈ ms
      · refine iteNS hxm ?_
        refine ⟨⟨_, ms, rfl, s2, hf2, hd, by omega, fun y => ?_⟩⟩
        rw [et, List.mem_append, hm y, List.mem_singleton]
        exact ⟨.inl, fun z => z.elim id fun e => e ▸ (hm x).mp hxm⟩
      · refine iteNF hxm ?_
        walk_at "w"
        refine ⟨⟨_, ms ++ [x], rfl, s2.put hfl, by rw [upd_same]; simp, insert_nodup hd hxm, by simp; omega, fun y => ?_⟩⟩
        rw [et, List.mem_append, List.mem_append, hm y]
    · rintro σ H3 ⟨v3, ms, rfl, s3, h32, hd, hml, hm⟩
      rw [List.length_map] at hml hm
      rw [List.take_length] at hm
      have hT3 : Tab H3 D.P (laPos lamY) quY := (s3.but D.P).2 _ _ hT1
      have nP : ∀ {b : Addr} {xs : List V}, H3 b = some (.lst xs) → b ≠ D.P := fun {b xs} e z => by
        obtain ⟨ps, hP, _⟩ := hT3
        rw [z, hP] at e
        cases e
      refine ⟨_, rfl, ?_⟩
      dsimp only [tNil, tCons]
      refine tLam_of hT3 fun f H' fo clos c' oc k1 k2 hb hT' hf hf' sh hc' cs => ?_
      have keep : ∀ c v, CellV H3 c v → CellV H' c v := fun c v hv => hv.same fun o k e => hb c _ (fun z => by
        obtain ⟨ps, hP, _⟩ := hT3
        rw [z, hP] at e
        cases e) e
      obtain ⟨fd, hd', hR, hF⟩ := lamv_of (qual := quY) (params := laArgs lamY) (body := laBody lamY) (scope := laScope lamY) (fr := ["_law_goal"]) (cv := [.int g]) sh hf' hc' cs (fun i x v h1 h2 => by
        match i, h1, h2 with
        | 0, h1, h2 =>
          cases h1
          cases h2
          exact ⟨by decide +kernel, c1, hc1, keep _ _ (v1.same fun o k e => s3 _ _ e)⟩)
      have nn : ∀ x ∈ ms, 0 ≤ x := fun x hx => hn x ((hm x).mp hx)
      have hms : ms.length = (onceI ns).length := ((List.perm_ext_iff_of_nodup hd (onceI_nodup ns)).mpr fun y => (hm y).trans onceI_mem.symm).length_eq
      refine ⟨fl, f, fd, ms, Builtin.bitXor g, rfl, rfl, SqL.of (hb _ _ (nP h32) h32), by omega, fun x hx y hy e => bx_inj hg (nn x hx) (nn y hy) e, hR, fun n _ Q' q => ⟨[.int g], rfl, hF, g, n, rfl, rfl, q⟩, fun l hl' => ?_⟩
      have s5 : Same H' (upd H' l (.lst ((sortK (Builtin.bitXor g) ms).map V.int))) := (Same.refl H').lay hl'
      refine k l _ (fun b o hbP e => s5 _ _ (hb _ _ hbP (s3 _ _ (sm _ _ e)))) ((s5.but D.P).2 _ _ hT') ?_ (by rw [upd_same, nearL_of hg hn hd hm])
      cases e : H l with
      | none => rfl
      | some o =>
        by_cases z : l = D.P
        · obtain ⟨ps, hP, _⟩ := hT'
          rw [z, hP] at hl'
          cases hl'
        · rw [hb _ _ z (s3 _ _ (sm _ _ e))] at hl'
          cases hl'
end
def stT : Stmt := (defBody (top 20)).getD 0 (.Pass ⟨0, 0, 0, 0⟩)
def quT : Str := "_law_right.<locals>._law_tells"
def posT : Pos := match stT with | .FunctionDef _ _ _ _ _ _ _ _ _ p => p | _ => ⟨0, 0, 0, 0⟩
structure Tb (T0 T1 T2 : Addr) (H : Hp) : Prop where
  t0 : Tab H T0 (laPos lamB) quL
  t1 : Tab H T1 (laPos lamY) quY
  t2 : Tab H T2 posT quT
theorem _root_.L2.Tab.other {H H' : Hp} {T S : Addr} {pos : Pos} {q : Str} (t : Tab H T pos q) (kp : ∀ b o, b ≠ S → H b = some o → H' b = some o) (hne : T ≠ S) (hS : ∃ ps, H S = some (.tbl ps)) : Tab H' T pos q := by
  obtain ⟨ps, hP, ht, z⟩ := t
  obtain ⟨qs, hS⟩ := hS
  refine ⟨ps, kp _ _ hne hP, ht, ?_⟩
  rcases z with z | ⟨c', oc, k, z1, z2, z3⟩
  · exact .inl z
  · exact .inr ⟨c', oc, k, z1, kp _ _ (fun y => by rw [y, hS] at z2; cases z2) z2, z3⟩
theorem _root_.L2.Tab.is {H : Hp} {T : Addr} {pos : Pos} {q : Str} (t : Tab H T pos q) : ∃ ps, H T = some (.tbl ps) := let ⟨ps, hP, _⟩ := t; ⟨ps, hP⟩
structure Kz (T0 T1 T2 : Addr) (ex : Addr → Prop) (H H' : Hp) : Prop where
  k : ∀ q o, (∀ ps, o ≠ .tbl ps) → (∀ kvs, o ≠ .dK kvs) → ¬ ex q → H q = some o → H' q = some o
  d : ∀ q kvs, ¬ ex q → Rd H q (.dK kvs) → Rd H' q (.dK kvs)
  f : ∀ q, H' q = none → H q = none
  t : Tb T0 T1 T2 H'
def exN : Addr → Prop := fun _ => False
section
variable {T0 T1 T2 : Addr} {ex : Addr → Prop} {H H1 H2 : Hp}
theorem _root_.L2.Same.rd {H H1 : Hp} {q : Addr} {u : HO} (s : Same H H1) (h : Rd H q u) : Rd H1 q u := h.imp (s q _) fun ⟨o, e⟩ => ⟨o, s q _ e⟩
theorem Tb.same (t : Tb T0 T1 T2 H) (s : Same H H1) : Tb T0 T1 T2 H1 := ⟨(s.but T0).2 _ _ t.t0, (s.but T1).2 _ _ t.t1, (s.but T2).2 _ _ t.t2⟩
theorem Kz.of (t : Tb T0 T1 T2 H) (s : Same H H1) : Kz T0 T1 T2 ex H H1 := ⟨fun q o _ _ _ e => s q o e, fun q kvs _ h => s.rd h, fun q e => s.free e, t.same s⟩
theorem Kz.trans (a : Kz T0 T1 T2 ex H H1) (b : Kz T0 T1 T2 ex H1 H2) : Kz T0 T1 T2 ex H H2 :=
  ⟨fun q o h1 h2 h3 e => b.k q o h1 h2 h3 (a.k q o h1 h2 h3 e), fun q kvs h e => b.d q kvs h (a.d q kvs h e), fun q e => a.f q (b.f q e), b.t⟩
theorem Kz.more {ex' : Addr → Prop} (a : Kz T0 T1 T2 ex H H1) (h : ∀ q, ex q → ex' q) : Kz T0 T1 T2 ex' H H1 := ⟨fun q o h1 h2 h3 e => a.k q o h1 h2 (fun z => h3 (h q z)) e, fun q kvs h3 e => a.d q kvs (fun z => h3 (h q z)) e, a.f, a.t⟩
theorem Kz.same (a : Kz T0 T1 T2 ex H H1) (s : Same H1 H2) : Kz T0 T1 T2 ex H H2 := a.trans (Kz.of a.t s)
theorem Kz.lst (a : Kz T0 T1 T2 ex H H1) {q : Addr} {xs : List V} (h : ¬ ex q) (e : H q = some (.lst xs)) : H1 q = some (.lst xs) := a.k q _ (fun _ z => by cases z) (fun _ z => by cases z) h e
theorem Kz.tup (a : Kz T0 T1 T2 ex H H1) {q : Addr} {xs : List V} (h : ¬ ex q) (e : H q = some (.tup xs)) : H1 q = some (.tup xs) := a.k q _ (fun _ z => by cases z) (fun _ z => by cases z) h e
theorem Kz.frz (a : Kz T0 T1 T2 ex H H1) {q : Addr} {o : Obj} {u : HO} (h : ¬ ex q) (e : H q = some (.frz o u)) : H1 q = some (.frz o u) := a.k q _ (fun _ z => by cases z) (fun _ z => by cases z) h e
theorem Kz.seq {K : PySem.W.Frag} (a : Kz T0 T1 T2 ex H H1) {q : Addr} {xs : List V} (hx : ¬ ex q) (h : SqL K H q xs) : SqL K H1 q xs := by
  rcases h with (h | ⟨o, h⟩) | h
  · exact .inl (.inl (a.lst hx h))
  · exact .inl (.inr ⟨o, a.frz hx h⟩)
  · exact .inr h
theorem Kz.tab {T : Addr} (hT : ∃ ps, H T = some (.tbl ps)) (hT' : ∃ ps, H1 T = some (.tbl ps)) (kp : ∀ b o, b ≠ T → H b = some o → H1 b = some o) (t' : Tb T0 T1 T2 H1) : Kz T0 T1 T2 ex H H1 := by
  obtain ⟨ps, hT⟩ := hT
  obtain ⟨qs, hT'⟩ := hT'
  have ne : ∀ q o, (∀ ps, o ≠ .tbl ps) → H q = some o → q ≠ T := fun q o h e z => by
    rw [z, hT] at e
    cases e
    exact h _ rfl
  refine ⟨fun q o h1 _ _ e => kp q o (ne q o h1 e) e, fun q kvs _ e => ?_, fun q e => ?_, t'⟩
  · rcases e with e | ⟨o, e⟩
    · exact .inl (kp q _ (ne q _ (fun _ z => by cases z) e) e)
    · exact .inr ⟨o, kp q _ (ne q _ (fun _ z => by cases z) e) e⟩
  · cases z : H q with
    | none => rfl
    | some o =>
      by_cases y : q = T
      · rw [y, hT'] at e
        cases e
      · rw [kp q o y z] at e
        cases e
theorem Kz.by0 (n1 : T0 ≠ T1) (n2 : T0 ≠ T2) (t : Tb T0 T1 T2 H) (kp : ∀ b o, b ≠ T0 → H b = some o → H1 b = some o) (t' : Tab H1 T0 (laPos lamB) quL) : Kz T0 T1 T2 ex H H1 :=
  Kz.tab t.t0.is t'.is kp ⟨t', t.t1.other kp n1.symm t.t0.is, t.t2.other kp n2.symm t.t0.is⟩
theorem Kz.by1 (n1 : T0 ≠ T1) (n3 : T1 ≠ T2) (t : Tb T0 T1 T2 H) (kp : ∀ b o, b ≠ T1 → H b = some o → H1 b = some o) (t' : Tab H1 T1 (laPos lamY) quY) : Kz T0 T1 T2 ex H H1 :=
  Kz.tab t.t1.is t'.is kp ⟨t.t0.other kp n1 t.t1.is, t', t.t2.other kp n3.symm t.t1.is⟩
theorem Kz.by2 (n2 : T0 ≠ T2) (n3 : T1 ≠ T2) (t : Tb T0 T1 T2 H) (kp : ∀ b o, b ≠ T2 → H b = some o → H1 b = some o) (t' : Tab H1 T2 posT quT) : Kz T0 T1 T2 ex H H1 :=
  Kz.tab t.t2.is t'.is kp ⟨t.t0.other kp n2 t.t2.is, t.t1.other kp n3 t.t2.is, t'⟩
theorem Kz.funv (a : Kz T0 T1 T2 ex H H1) {f : Addr} {name qual : Str} {params : Arguments} {body : List Stmt} {scope : Scope} {fr : List Str} {cv : List V} {fd : FuncData} (hx : ∀ q, ex q → ∀ o u, H q ≠ some (.frz o u)) (x : FunV H f name qual params body scope fr cv fd) : FunV H1 f name qual params body scope fr cv fd :=
  x.same fun q o u e => a.frz (fun z => hx q z o u e) e
theorem Kz.put (a : Kz T0 T1 T2 ex H H1) {p : Addr} {xs ys : List V} (hp : H p = none) (e : H1 p = some (.lst xs)) : Kz T0 T1 T2 ex H (upd H1 p (.lst ys)) := by
  have tb : ∀ {T : Addr} {pos : Pos} {q : Str}, Tab H1 T pos q → Tab (upd H1 p (.lst ys)) T pos q := fun {T pos q} t => by
    obtain ⟨ps, hP, ht, z⟩ := t
    refine ⟨ps, by rw [upd_ne (fun y => by rw [y, e] at hP; cases hP)]; exact hP, ht, ?_⟩
    rcases z with z | ⟨c', oc, k, z1, z2, z3⟩
    · exact .inl z
    · exact .inr ⟨c', oc, k, z1, by rw [upd_ne (fun y => by rw [y, e] at z2; cases z2)]; exact z2, z3⟩
  refine ⟨fun q o h1 h2 h3 z => ?_, fun q kvs h3 z => ?_, fun q z => ?_, ⟨tb a.t.t0, tb a.t.t1, tb a.t.t2⟩⟩
  · rw [upd_ne (ne_of_none z hp)]
    exact a.k q o h1 h2 h3 z
  · have hq : q ≠ p := by
      rcases z with z | ⟨o, z⟩
      · exact ne_of_none z hp
      · exact ne_of_none z hp
    have y := a.d q kvs h3 z
    unfold Rd
    rw [upd_ne hq]
    exact y
  · by_cases y : q = p
    · rw [y]
      exact hp
    · rw [upd_ne y] at z
      exact a.f q z
end
theorem nodup_at {l : List Int} {i j : Nat} {x : Int} (h : l.Nodup) (hi : l[i]? = some x) (hj : l[j]? = some x) : i = j := (List.getElem?_inj (List.getElem?_eq_some_iff.mp hi).1 h).mp (hi.trans hj.symm)
def tv (L : Int → Addr) (tl : Int → Option (List Int)) (n : Int) : V := match tl n with | none => V.non | some _ => V.ref (L n)
def kvsOf (L : Int → Addr) (tl : Int → Option (List Int)) (pool : List Int) : List (Key × V) := pool.map fun n => (Sum.inl n, tv L tl n)
theorem kvs_val {L : Int → Addr} {tl : Int → Option (List Int)} {n : Int} : ∀ {pool : List Int}, n ∈ pool → valV (kvsOf L tl pool) (Sum.inl n) = some (tv L tl n)
  | [], h => nomatch h
  | m :: r, h => by
    by_cases e : m = n
    · subst e
      exact valV_pos rfl
    · have hr : n ∈ r := by
        rcases List.mem_cons.mp h with z | z
        · exact absurd z.symm e
        · exact z
      have z : valV (kvsOf L tl (m :: r)) (Sum.inl n) = valV (kvsOf L tl r) (Sum.inl n) := valV_neg fun z => e (Sum.inl.inj z)
      rw [z, kvs_val hr]
theorem kvs_not {L : Int → Addr} {tl : Int → Option (List Int)} {n : Int} : ∀ {pool : List Int}, ¬ n ∈ pool → valV (kvsOf L tl pool) (Sum.inl n) = none
  | [], _ => rfl
  | m :: r, h => by
    have z : valV (kvsOf L tl (m :: r)) (Sum.inl n) = valV (kvsOf L tl r) (Sum.inl n) := valV_neg fun z => h (by
      have := Sum.inl.inj z
      rw [← this]
      exact List.mem_cons_self ..)
    rw [z, kvs_not fun y => h (List.mem_cons_of_mem _ y)]
theorem kvs_same {L L' : Int → Addr} {tl tl' : Int → Option (List Int)} {pool : List Int} (h : ∀ n ∈ pool, tv L tl n = tv L' tl' n) : kvsOf L tl pool = kvsOf L' tl' pool :=
  List.map_congr_left fun n hn => by rw [h n hn]
theorem kvs_snoc {L : Int → Addr} {tl : Int → Option (List Int)} {pool : List Int} {n : Int} : kvsOf L tl (pool ++ [n]) = kvsOf L tl pool ++ [(Sum.inl n, tv L tl n)] := by
  unfold kvsOf
  rw [List.map_append]
  rfl
structure PoolOk (pool : List Int) (tl : Int → Option (List Int)) : Prop where
  nd : pool.Nodup
  le : pool.length ≤ 10
  nn : ∀ n ∈ pool, 0 ≤ n
  ns : ∀ n ∈ pool, ∀ ns, tl n = some ns → ns.length ≤ 12 ∧ ∀ m ∈ ns, m ∈ pool
structure ToldAt (H : Hp) (td : Addr) (L : Int → Addr) (pool : List Int) (tl : Int → Option (List Int)) : Prop where
  d : Rd H td (.dK (kvsOf L tl pool))
  l : ∀ n ∈ pool, ∀ ns, tl n = some ns → H (L n) = some (.lst (ns.map V.int))
theorem ToldAt.get {H : Hp} {td : Addr} {L : Int → Addr} {pool : List Int} {tl : Int → Option (List Int)} (t : ToldAt H td L pool tl) {n : Int} (h : n ∈ pool) : DGet H td (.int n) (some (tv L tl n)) :=
  .inl ⟨_, Sum.inl n, t.d, rfl, (kvs_val h).symm⟩
theorem ToldAt.kz {T0 T1 T2 : Addr} {ex : Addr → Prop} {H H1 : Hp} {td : Addr} {L : Int → Addr} {pool : List Int} {tl : Int → Option (List Int)} (t : ToldAt H td L pool tl) (a : Kz T0 T1 T2 ex H H1) (h1 : ¬ ex td) (h2 : ∀ n ∈ pool, tl n ≠ none → ¬ ex (L n)) : ToldAt H1 td L pool tl :=
  ⟨a.d _ _ h1 t.d, fun n hn ns e => a.lst (h2 n hn (by rw [e]; exact fun z => nomatch z)) (t.l n hn ns e)⟩
theorem tv_some {L : Int → Addr} {tl : Int → Option (List Int)} {n : Int} {ns : List Int} (h : tl n = some ns) : tv L tl n = .ref (L n) := by unfold tv; rw [h]
theorem tv_none {L : Int → Addr} {tl : Int → Option (List Int)} {n : Int} (h : tl n = none) : tv L tl n = .non := by unfold tv; rw [h]
theorem exN_no (q : Addr) : ¬ exN q := fun z => z
theorem vint_dec (a b : Int) : decide (V.int a = V.int b) = decide (a = b) := decide_eq_decide.mpr ⟨V.int.inj, congrArg V.int⟩
theorem cut_take (ns : List Int) {m : Int} (hm : 0 ≤ m) : cutV (ns.map V.int) none (some m) = (ns.take m.toNat).map V.int := by
  obtain ⟨k, rfl⟩ : ∃ k : Nat, m = k := ⟨m.toNat, by omega⟩
  unfold cutV
  rw [HT.sIx_none, HT.sIx_nat, List.drop_zero, Nat.sub_zero, List.length_map, ← List.map_take, Int.toNat_natCast]
  congr 1
  rcases Nat.le_total k ns.length with h | h
  · rw [Nat.min_eq_left h]
  · rw [Nat.min_eq_right h, List.take_length, List.take_of_length_le h]
theorem _root_.L2.FunV.fnv {K : PySem.W.Frag} {H : Hp} {f : Addr} {name qual : Str} {params : Arguments} {body : List Stmt} {scope : Scope} {fr : List Str} {cv : List V} {fd : FuncData} (x : FunV H f name qual params body scope fr cv fd) : FnV K H f fd := by
  obtain ⟨fo, cells, clos, c', oc, k, k', e1, s, e2, _⟩ := x.ex
  exact .inl ⟨fo, k, e1, e2⟩
structure Kw (T0 T1 T2 : Addr) (H H' : Hp) : Prop where
  k : ∀ q o, (∀ ps, o ≠ .tbl ps) → H q = some o → H' q = some o
  f : ∀ q, H' q = none → H q = none
  t : Tb T0 T1 T2 H'
section
variable {T0 T1 T2 : Addr} {H H1 H2 : Hp}
theorem Kw.kz {ex : Addr → Prop} (a : Kw T0 T1 T2 H H1) : Kz T0 T1 T2 ex H H1 := ⟨fun q o h1 _ _ e => a.k q o h1 e, fun q kvs _ e => e.imp (a.k q _ (fun _ z => by cases z)) fun ⟨o, z⟩ => ⟨o, a.k q _ (fun _ z => by cases z) z⟩, a.f, a.t⟩
theorem Kw.of (t : Tb T0 T1 T2 H) (s : Same H H1) : Kw T0 T1 T2 H H1 := ⟨fun q o _ e => s q o e, fun q e => s.free e, t.same s⟩
theorem Kw.trans (a : Kw T0 T1 T2 H H1) (b : Kw T0 T1 T2 H1 H2) : Kw T0 T1 T2 H H2 := ⟨fun q o h e => b.k q o h (a.k q o h e), fun q e => a.f q (b.f q e), b.t⟩
theorem Kw.same (a : Kw T0 T1 T2 H H1) (s : Same H1 H2) : Kw T0 T1 T2 H H2 := a.trans (Kw.of a.t s)
theorem Kw.tab {T : Addr} (hT : ∃ ps, H T = some (.tbl ps)) (kp : ∀ b o, b ≠ T → H b = some o → H1 b = some o) (z : Kz T0 T1 T2 exN H H1) : Kw T0 T1 T2 H H1 := ⟨fun q o h e => kp q o (fun y => by
  obtain ⟨ps, hT⟩ := hT
  rw [y, hT] at e
  exact h _ (Option.some.inj e).symm) e, z.f, z.t⟩
end
abbrev tlK (kp : Int → List Int) : Int → Option (List Int) := fun n => some (kp n)
structure KeepOk (pool : List Int) (kp : Int → List Int) : Prop where
  nd : pool.Nodup
  le : pool.length ≤ 10
  nn : ∀ n ∈ pool, 0 ≤ n
  sub : ∀ h ∈ pool, (kp h).Nodup ∧ ∀ m ∈ kp h, m ∈ pool
abbrev RT : Addr → FuncData → Prop := RFn "_law_tells" quT (defArgs stT) (defBody stT) (defScope stT)
abbrev FunT (H : Hp) (f : Addr) (cv : List V) (fd : FuncData) : Prop := FunV H f "_law_tells" quT (defArgs stT) (defBody stT) (defScope stT) ["_law_awake", "_law_room", "_law_keeps"] cv fd
structure TelS (T0 T1 T2 kd la : Addr) (L : Int → Addr) (pool aw : List Int) (kp : Int → List Int) (rm : Int) (f : Addr) (fd : FuncData) (H : Hp) : Prop where
  told : ToldAt H kd L pool (tlK kp)
  awk : H la = some (.lst (aw.map V.int))
  fun_ : FunT H f [.ref la, .int rm, .ref kd] fd
  tabs : Tb T0 T1 T2 H
theorem TelS.kz {T0 T1 T2 kd la : Addr} {L : Int → Addr} {pool aw : List Int} {kp : Int → List Int} {rm : Int} {f : Addr} {fd : FuncData} {H H1 : Hp} (W : TelS T0 T1 T2 kd la L pool aw kp rm f fd H) (a : Kz T0 T1 T2 exN H H1) : TelS T0 T1 T2 kd la L pool aw kp rm f fd H1 :=
  ⟨W.told.kz a (exN_no _) fun _ _ _ => exN_no _, a.lst (exN_no _) W.awk, a.funv (fun q z => z.elim) W.fun_, a.t⟩
structure AwOk (pool aw : List Int) : Prop where
  sub : ∀ x ∈ aw, x ∈ pool
  nd : aw.Nodup
def spTellsS (T0 T1 T2 : Addr) (cv : List V) : Sp := fun vs H Q _ => ∃ (h g a rm : Int) (kd la : Addr) (L : Int → Addr) (pool aw : List Int) (kp : Int → List Int), vs = [.int h, .int g, .int a] ∧ cv = [.ref la, .int rm, .ref kd] ∧ ToldAt H kd L pool (tlK kp) ∧ H la = some (.lst (aw.map V.int)) ∧ KeepOk pool kp ∧ Tb T0 T1 T2 H ∧ h ∈ pool ∧ 0 ≤ g ∧ 0 ≤ rm ∧
  (¬ h ∈ aw → Q .non H) ∧ (h ∈ aw → ∀ (l : Addr) (H' : Hp), Kw T0 T1 T2 H H' → H l = none → H' l = some (.lst ((tellL kp g rm.toNat a h).map V.int)) → Q (.ref l) H')
def spTS (T0 T1 T2 : Addr) (f : Addr) (fd : FuncData) : Sp := fun vs H Q E => ∃ cv, cv.length = (["_law_awake", "_law_room", "_law_keeps"] : List Str).length ∧ FunT H f cv fd ∧ spTellsS T0 T1 T2 cv vs H Q E
section
variable {P : Program} {w : World} {K : PySem.W.Frag} {mg : Str → Option Value} {base : Heap}
theorem binds_T {f : Addr} {fd : FuncData} (h : RT f fd) : Binds K fd ["_law_house", "_law_aim", "_law_asker"] [] := by
  obtain ⟨clos, doc, pm, c', ct, rfl⟩ := h
  exact .all fun us hl => match us, hl with | [_, _, _], _ => rfl
theorem sc_lright_ltells : CloScopeC ["_law_house", "_law_aim", "_law_asker", "_law_awake", "_law_room", "_law_keeps"] ["_law_house", "_law_aim", "_law_asker"] ["_law_awake", "_law_room", "_law_keeps"] (defScope ((defBody (top 20)).getD 0 (.Pass ⟨0, 0, 0, 0⟩))) := ⟨rfl, rfl, rfl, by decide +kernel, by decide +kernel, by decide +kernel, by decide +kernel, by decide +kernel, by decide +kernel⟩
theorem ok_tellsS (T : Txt mg) (hK : K.In base) (D__law_by : DfF K mg "_law_by" (top 17) ["_law_goal", "_law_names"]) (hB : base.BuiltinsAt mg D__law_by.P) {T0 T2 : Addr} (n1 : T0 ≠ D__law_by.P) (n3 : D__law_by.P ≠ T2) {f : Addr} {fd : FuncData} : FnOk P w K mg base CX0 5 f fd ["_law_house", "_law_aim", "_law_asker"] (spTS T0 D__law_by.P T2 f fd) := by
  have G__law_by : FnOk P w K mg base CX0 4 _ _ _ _ := ok_lby T hK D__law_by hB
  refine fn_cloC (name := "_law_tells") (qual := quT) (params := defArgs stT) (body := defBody stT) (sp := spTellsS T0 D__law_by.P T2) sc_lright_ltells (fun cv vs H Q E h => ?_) (fun clos cdv A outer s H cv vs Q E hr hcl h => ?_)
  · obtain ⟨h, g, a, rm, kd, la, L, pool, aw, kp, rfl, _⟩ := h
    rfl
  · obtain ⟨h, g, a, rm, kd, la, L, pool, aw, kp, rfl, rfl, hT, haw, hO, hTb, hh, hg, hrm, kn, k⟩ := h
    refine ⟨_, (pss_cons (ps_if (pt_cmpR op_notIn_seq (pv 0) (pv 3) (by with_unfolding_all rfl))
       (pss_one (ps_ret pe_non))
       pss_nil)
      (pss_one (ps_ret (pe_slice sl_list (pe_comp rfl (compText_of (own := ["_law_name"]) (caps := [2]) (N' := ["_law_name", "_law_asker"]) (by kernel_rfl)) (pi_list (pe_call G__law_by (hr.mono (by decide)) rfl D__law_by.hm D__law_by.kp D__law_by.b .nil pass0 (pa_cons (pv 1) (pa_cons (pe_dget (hu_of hr) (pv 5) (pv 0) (fun _ _ => rfl)) pa_nil)))) (fun _ _ _ _ _ => (pg_name (i := 0) (show (["_law_name", "_law_asker"] : List Str).Nodup by decide +kernel) rfl (Or.inl rfl))) (fun _ _ _ _ _ => (pts_one (pt_cmpR op_ne (pv 0) (pv 1) (nomark _)))) (fun _ _ _ _ _ => (pv 0))) po_none (po_some (pv 4)))))), ?_⟩
    obtain ⟨hkd, hks⟩ := hO.sub h hh
    have hkl : (kp h).length ≤ 10 := Nat.le_trans (len_sub hkd hks) hO.le
    have hget := hT.get hh
    have hl := hT.l h hh (kp h) rfl
    have hflat := flat_ints aw
    walk_at "w"
    show if (!inV (V.int h) (aw.map V.int)) = true then _ else _
    rw [inV_int]
    by_cases hin : h ∈ aw
    · refine iteNS hin ?_
      refine ⟨_, rfl, _, rfl, _, rfl, kd, _, rfl, hget, g, L h, kp h, rfl, SqL.of hl, by omega, Nat.lt_of_le_of_lt (onceI_len _) (by omega), hg, fun m hm => hO.nn m (hks m hm), hTb.t1, fun l H2 kp2 hT2 hl2 hl2' => ?_⟩
      have K2 : Kw T0 D__law_by.P T2 H H2 := Kw.tab hTb.t1.is kp2 (Kz.by1 n1 n3 hTb kp2 hT2)
      have hnl := nearL_len g (kp h)
      refine ⟨l, rfl, ⟨_, SqL.of hl2'⟩, fun Dl hDl => ?_⟩
      refine comp_filter (fun n => !decide (n = a)) hDl (SqL.of hl2') (by omega) (fun x hx H' Qt s q' => ?_) fun H3 s3 hD3 => ?_
      · refine ⟨_, rfl, _, rfl, rfl, _, rfl, ?_⟩
        rw [vint_dec]
        exact q' H' (Same.refl H')
      · walk_at "w"
        rw [cut_take _ hrm]
        intro l2 hl3
        exact k hin l2 _ (K2.same (s3.trans (Same.new H3 hl3))) (K2.f _ (s3.free hl3)) upd_same
    · refine iteNF hin ?_
      exact kn hin
end
def upTo (p : Int → Bool) : List Int → List Int
  | [] => []
  | x :: r => if p x then [x] else x :: upTo p r
theorem find_take {p : Int → Bool} : ∀ {l : List Int} {i : Nat} {n : Int}, (∀ x ∈ l.take i, p x = false) → l[i]? = some n → p n = true → l.find? p = some n ∧ upTo p l = l.take (i + 1)
  | [], i, n, _, h, _ => by simp at h
  | x :: r, 0, n, _, h, hp => by
    cases h
    exact ⟨by simp [hp], by simp [upTo, hp]⟩
  | x :: r, i + 1, n, h, hi, hp => by
    have hx := h x (by simp)
    obtain ⟨h1, h2⟩ := find_take (l := r) (i := i) (fun y hy => h y (by simp [hy])) hi hp
    exact ⟨by simp [hx, h1], by simp [upTo, hx, h2]⟩
theorem find_all {p : Int → Bool} : ∀ {l : List Int}, (∀ x ∈ l, p x = false) → l.find? p = none ∧ upTo p l = l
  | [], _ => ⟨rfl, rfl⟩
  | x :: r, h => by
    have hx := h x (by simp)
    obtain ⟨h1, h2⟩ := find_all (l := r) fun y hy => h y (by simp [hy])
    exact ⟨by simp [hx, h1], by simp [upTo, hx, h2]⟩
theorem paired_get {α β : Type} {F : α → β → Prop} {f : α → V} : ∀ {ps : List α} {R : List β} {j : Nat} {x : V}, Paired F ps R → (ps.map f)[j]? = some x → ∃ p h, ps[j]? = some p ∧ R[j]? = some h ∧ x = f p ∧ F p h
  | _, _, j, x, .nil, e => by simp at e
  | _, _, 0, x, .cons (a := p) (b := h) r t, e => by
    simp at e
    exact ⟨p, h, rfl, rfl, e.symm, r⟩
  | _, _, j + 1, x, .cons (a := p) (b := h) r t, e => by
    obtain ⟨p', h', a1, a2, a3, a4⟩ := paired_get t (f := f) (j := j) (x := x) (by simpa using e)
    exact ⟨p', h', a1, a2, a3, a4⟩
theorem _root_.PySem.Paired.mp {α β : Type} {F G : α → β → Prop} {a : List α} {b : List β} (h : Paired F a b) (f : ∀ x y, F x y → G x y) : Paired G a b := L2.Paired.mapP h f
theorem _root_.PySem.Paired.len {α β : Type} {F : α → β → Prop} : ∀ {a : List α} {b : List β}, Paired F a b → a.length = b.length
  | _, _, .nil => rfl
  | _, _, .cons _ t => by rw [List.length_cons, List.length_cons, PySem.Paired.len t]
theorem paired_snoc {α β : Type} {F : α → β → Prop} {x : α} {y : β} (h : F x y) : ∀ {a : List α} {b : List β}, Paired F a b → Paired F (a ++ [x]) (b ++ [y])
  | _, _, .nil => .cons h .nil
  | _, _, .cons r t => .cons r (paired_snoc h t)
def ovI : Option Int → V
  | none => .non
  | some n => .int n
def toldS (tl : Int → Option (List Int)) (st h : Int) : List Int := ((tl h).getD []).filter fun n => !decide (n = st)
def seenR (tl : Int → Option (List Int)) (st : Int) (R : List Int) : List Int := R.flatMap (toldS tl st)
def quietR (tl : Int → Option (List Int)) (R : List Int) : List Int := R.filter fun h => !(tl h).isSome
def flR (tl : Int → Option (List Int)) (R : List Int) (n : Int) : Bool := !decide (n ∈ quietR tl R)
def standR (tl : Int → Option (List Int)) (st g : Int) (rm : Nat) (R : List Int) : List Int := ((nearL g (seenR tl st R)).filter (flR tl R)).take rm
def unas (R : List Int) (n : Int) : Bool := !decide (n ∈ R)
def nextR (tl : Int → Option (List Int)) (st g : Int) (rm : Nat) (R : List Int) : Option Int := (standR tl st g rm R).find? (unas R)
inductive Row (tl : Int → Option (List Int)) (st g : Int) (rm : Nat) : List Int → Prop
  | one : Row tl st g rm [st]
  | more {R : List Int} {h : Int} : Row tl st g rm R → nextR tl st g rm R = some h → Row tl st g rm (R ++ [h])
section
variable {tl : Int → Option (List Int)} {st g : Int} {rm : Nat} {R R' : List Int} {pool : List Int}
theorem Row.pos (x : Row tl st g rm R) : 0 < R.length := by
  cases x
  · simp
  · simp
theorem Row.head (x : Row tl st g rm R) : R[0]? = some st := by
  induction x with
  | one => rfl
  | @more R h x _ ih => rw [List.getElem?_append_left x.pos]; exact ih
theorem Row.get (x : Row tl st g rm R) : ∀ {i : Nat} {h : Int}, R[i + 1]? = some h → nextR tl st g rm (R.take (i + 1)) = some h := by
  induction x with
  | one => intro i h e; simp at e
  | @more R n x e ih =>
    intro i h hi
    by_cases z : i + 1 < R.length
    · rw [List.getElem?_append_left z] at hi
      rw [List.take_append_of_le_length (by omega)]
      exact ih hi
    · have hl := (List.getElem?_eq_some_iff.mp hi).1
      rw [List.length_append, List.length_singleton] at hl
      have e1 : i + 1 = R.length := by omega
      rw [e1, List.getElem?_append_right (Nat.le_refl _), Nat.sub_self] at hi
      cases hi
      rw [e1, List.take_left]
      exact e
theorem Row.pre (x : Row tl st g rm R) (y : Row tl st g rm R') : ∀ k, k ≤ R.length → k ≤ R'.length → R.take k = R'.take k
  | 0, _, _ => by simp
  | 1, h1, h2 => by
    have e1 := x.head
    have e2 := y.head
    cases R with
    | nil => cases e1
    | cons a r =>
      cases R' with
      | nil => cases e2
      | cons b s =>
        cases e1
        cases e2
        rfl
  | k + 2, h1, h2 => by
    have ih := Row.pre x y (k + 1) (by omega) (by omega)
    have e1 := x.get (i := k) (h := R[k + 1]) (by simp)
    have e2 := y.get (i := k) (h := R'[k + 1]) (by simp)
    rw [ih, e2] at e1
    rw [List.take_succ_eq_append_getElem (show k + 1 < R.length by omega), List.take_succ_eq_append_getElem (show k + 1 < R'.length by omega), ih, Option.some.inj e1]
theorem Row.det (x : Row tl st g rm R) (y : Row tl st g rm R') (hx : nextR tl st g rm R = none) (hy : nextR tl st g rm R' = none) : R = R' := by
  have key : ∀ {A B : List Int}, Row tl st g rm A → Row tl st g rm B → nextR tl st g rm A = none → ¬ A.length < B.length := fun {A B} x y hx lt => by
    have e := Row.pre x y A.length (Nat.le_refl _) (Nat.le_of_lt lt)
    rw [List.take_length] at e
    obtain ⟨i, hi⟩ : ∃ i, A.length = i + 1 := ⟨A.length - 1, by have := x.pos; omega⟩
    obtain ⟨v, hv⟩ : ∃ v, B[i + 1]? = some v := ⟨B[i + 1], by simp⟩
    have e2 := y.get hv
    rw [← hi, ← e, hx] at e2
    cases e2
  have h1 := key x y hx
  have h2 := key y x hy
  have e := Row.pre x y R.length (Nat.le_refl _) (by omega)
  rw [List.take_length, List.take_of_length_le (by omega)] at e
  exact e
theorem seen_pool (o : PoolOk pool tl) (hR : ∀ h ∈ R, h ∈ pool) : ∀ n ∈ seenR tl st R, n ∈ pool ∧ n ≠ st := fun n hn => by
  obtain ⟨h, hh, hm⟩ := List.mem_flatMap.mp hn
  unfold toldS at hm
  obtain ⟨h1, h2⟩ := List.mem_filter.mp hm
  refine ⟨?_, by simpa using h2⟩
  cases e : tl h with
  | none => rw [e] at h1; cases h1
  | some ns => rw [e] at h1; exact (o.ns h (hR h hh) ns e).2 n h1
theorem stand_seen : ∀ n ∈ standR tl st g rm R, n ∈ seenR tl st R ∧ flR tl R n = true := fun n hn => by
  obtain ⟨h1, h2⟩ := List.mem_filter.mp (List.mem_of_mem_take hn)
  exact ⟨nearL_mem.mp h1, h2⟩
theorem next_of {h : Int} (e : nextR tl st g rm R = some h) : h ∈ standR tl st g rm R ∧ ¬ h ∈ R := by
  have h1 := List.find?_some e
  have h2 := List.mem_of_find?_eq_some e
  unfold unas at h1
  exact ⟨h2, by simpa using h1⟩
theorem Row.ok (o : PoolOk pool tl) (hst : st ∈ pool) (x : Row tl st g rm R) : (∀ h ∈ R, h ∈ pool) ∧ R.Nodup := by
  induction x with
  | one => exact ⟨fun h hh => by rw [List.mem_singleton.mp hh]; exact hst, by simp⟩
  | more x e ih =>
    obtain ⟨h1, h2⟩ := next_of e
    exact ⟨snoc_all ih.1 (seen_pool o ih.1 _ (stand_seen _ h1).1).1, insert_nodup ih.2 h2⟩
theorem nearL_filter {ns ks : List Int} {p : Int → Bool} (hg : 0 ≤ g) (hn : ∀ y ∈ ns, 0 ≤ y) (hk : ∀ y, y ∈ ks ↔ y ∈ ns) : (nearL g ns).filter p = nearL g (ks.filter p) := by
  refine nearL_uniq hg (fun y hy => hn y ((hk y).mp (List.mem_filter.mp hy).1)) ((nearL_nodup g ns).filter _) (fun y => ?_) ((sortK_sorted _ _).filter _)
  rw [List.mem_filter, List.mem_filter, nearL_mem, hk]
end
def seenK (ks : List Int) (fl : Int → Bool) : List (Key × V) := ks.map fun n => (Sum.inl n, V.bl (fl n))
theorem seenK_val {fl : Int → Bool} {n : Int} : ∀ {ks : List Int}, n ∈ ks → valV (seenK ks fl) (Sum.inl n) = some (V.bl (fl n))
  | [], h => nomatch h
  | m :: r, h => by
    by_cases e : m = n
    · subst e
      exact valV_pos rfl
    · have hr : n ∈ r := by
        rcases List.mem_cons.mp h with z | z
        · exact absurd z.symm e
        · exact z
      have z : valV (seenK (m :: r) fl) (Sum.inl n) = valV (seenK r fl) (Sum.inl n) := valV_neg fun z => e (Sum.inl.inj z)
      rw [z, seenK_val hr]
theorem seenK_not {fl : Int → Bool} {n : Int} : ∀ {ks : List Int}, ¬ n ∈ ks → valV (seenK ks fl) (Sum.inl n) = none
  | [], _ => rfl
  | m :: r, h => by
    have z : valV (seenK (m :: r) fl) (Sum.inl n) = valV (seenK r fl) (Sum.inl n) := valV_neg fun z => h (by
      have := Sum.inl.inj z
      rw [← this]
      exact List.mem_cons_self ..)
    rw [z, seenK_not fun y => h (List.mem_cons_of_mem _ y)]
theorem seenK_put {ks : List Int} {fl : Int → Bool} {h : Int} {b : Bool} (hh : h ∈ ks) : putK (seenK ks fl) (Sum.inl h) (V.bl b) = seenK ks (fun n => if n = h then b else fl n) := by
  have hin : ((seenK ks fl).any fun kv => decide (kv.1 = (Sum.inl h : Key))) = true := by rw [valV_any, seenK_val hh]; rfl
  unfold putK
  rw [if_pos hin]
  unfold seenK
  rw [List.map_map]
  refine List.map_congr_left fun n hn => ?_
  show (if (Sum.inl n : Key) = Sum.inl h then ((Sum.inl n : Key), V.bl b) else (Sum.inl n, V.bl (fl n))) = (Sum.inl n, V.bl (if n = h then b else fl n))
  by_cases e : n = h
  · rw [if_pos (by rw [e]), if_pos e]
  · rw [if_neg fun z => e (Sum.inl.inj z), if_neg e]
theorem upd_upd {H : Hp} {p : Addr} {a b : HO} : upd (upd H p a) p b = upd H p b := funext fun q => by
  by_cases e : q = p
  · rw [e, upd_same, upd_same]
  · rw [upd_ne e, upd_ne e, upd_ne e]
def rowH (tl : Int → Option (List Int)) (Lr : Int → Addr) (H : Hp) (p : Addr) (h : Int) : Prop := H p = some (.tup [.int h, tv Lr tl h])
structure RowAt (H : Hp) (rl : Addr) (R : List Int) (tl : Int → Option (List Int)) (Lr : Int → Addr) : Prop where
  ex : ∃ ps : List Addr, H rl = some (.lst (ps.map V.ref)) ∧ Paired (rowH tl Lr H) ps R
def spNote : Sp := fun vs H Q _ => ∃ (sd : Addr) (st h : Int) (v : V) (ks : List Int) (fl : Int → Bool), vs = [.ref sd, .int st, .int h, v] ∧ H sd = some (.dK (seenK ks fl)) ∧ ks.Nodup ∧ ks.length ≤ 100 ∧
  ((v = .non ∧ h ∈ ks ∧ Q .non (upd H sd (.dK (seenK ks (fun n => if n = h then false else fl n))))) ∨
   ∃ (p : Addr) (ns : List Int), v = .ref p ∧ H p = some (.lst (ns.map V.int)) ∧ ns.length ≤ 12 ∧ (∀ n ∈ ns, n ≠ st → ¬ n ∈ ks → fl n = true) ∧
    ∀ ks' : List Int, ks'.Nodup → (∀ n, n ∈ ks' ↔ n ∈ ks ∨ (n ∈ ns ∧ n ≠ st)) → Q .non (upd H sd (.dK (seenK ks' fl))))
def spStanding (T0 : Addr) : Sp := fun vs H Q _ => ∃ (sd : Addr) (g rm : Int) (ks : List Int) (fl : Int → Bool), vs = [.ref sd, .int g, .int rm] ∧ H sd = some (.dK (seenK ks fl)) ∧ ks.length ≤ 60 ∧ 0 ≤ g ∧ 0 ≤ rm ∧ (∀ n ∈ ks, 0 ≤ n) ∧ Tab H T0 (laPos lamB) quL ∧
  ∀ (l : Addr) (H' : Hp), (∀ b o, b ≠ T0 → H b = some o → H' b = some o) → Tab H' T0 (laPos lamB) quL → H l = none → H' l = some (.lst (((nearL g (ks.filter fl)).take rm.toNat).map V.int)) → Q (.ref l) H'
def spFirst : Sp := fun vs H Q _ => ∃ (nl rl : Addr) (names R : List Int) (tl : Int → Option (List Int)) (Lr : Int → Addr), vs = [.ref nl, .ref rl] ∧ H nl = some (.lst (names.map V.int)) ∧ RowAt H rl R tl Lr ∧ R.length ≤ 100 ∧ ∀ H', Same H H' → Q (ovI (names.find? (unas R))) H'
section
variable {P : Program} {w : World} {K : PySem.W.Frag} {mg : Str → Option Value} {base : Heap}
theorem sc_note_told : FnScope ["seen", "start", "house", "told", "name"] ["seen", "start", "house", "told"] (defScope (top 6)) := ⟨rfl, rfl, rfl, by decide +kernel, rfl, by decide +kernel, by decide +kernel⟩
theorem ok_note (T : Txt mg) (D : Df K mg "note_told" (top 6) ["seen", "start", "house", "told"]) : FnOk P w K mg base CX0 1 D.f D.fd ["seen", "start", "house", "told"] spNote := by
  refine D.fn.ok sc_note_told (fun vs H Q E h => ?_) (fun cdv A outer s H vs Q E hr h => ?_)
  · obtain ⟨sd, st, h, v, ks, fl, rfl, _⟩ := h
    rfl
  · obtain ⟨sd, st, h, v, ks, fl, rfl, hsd, hnd, hl, hc⟩ := h
    refine ⟨_, (pss_cons (ps_if (pt_cmpR op_isN (pv 3) pe_non (nomark _))
       (pss_cons (ps_dput (hu_of hr) (pv 0) (pv 2) pe_bl rfl)
        (pss_one ps_retN))
       pss_nil)
      (pss_one (ps_for PassesOwn.never rfl (pi_list (pv 3)) (pg_name (i := 4) sc_note_told.nd rfl (Or.inl rfl))
       (pss_one (ps_if (pt_cmpR op_ne (pv 4) (pv 1) (nomark _))
         (pss_one (ps_expr (pe_dsetd (pv 0) (pv 4) pe_bl ⟨rfl, rfl, rfl, rfl⟩)))
         pss_nil))))), ?_⟩
    have hkl : ∀ {ks : List Int}, ks.length ≤ 200 → (seenK ks fl).length < sizeLine := fun {ks} h => by
      unfold seenK
      rw [List.length_map]
      exact small1000 (by omega)
    rcases hc with ⟨rfl, hh, q⟩ | ⟨p, ns, rfl, hp, hns, hfl, q⟩
    · refine ⟨_, rfl, rfl, _, rfl, ?_⟩
      refine iteD rfl ?_
      refine ⟨_, rfl, _, rfl, sd, _, rfl, DPut.k (k := Sum.inl h) hsd (hkl (by omega)), ?_⟩
      rw [seenK_put hh]
      exact q
    · refine ⟨_, rfl, rfl, _, rfl, ?_⟩
      refine iteDn (fun z => nomatch z) ?_
      refine ⟨_, rfl, p, rfl, ⟨_, SqL.of hp⟩, ?_⟩
      have hpsd : p ≠ sd := fun z => by rw [z, hsd] at hp; cases hp
      refine for_list (K := K) (a := p) (xs := ns.map V.int) (fun i σ H2 => Hold (∃ (v4 : Option V) (ks' : List Int), σ = [some (.ref sd), some (.int st), some (.int h), some (.ref p), v4] ∧ H2 = upd H sd (.dK (seenK ks' fl)) ∧ ks'.Nodup ∧ ks'.length ≤ ks.length + i ∧ ∀ n, n ∈ ks' ↔ n ∈ ks ∨ (n ∈ ns.take i ∧ n ≠ st)))
        ⟨⟨none, ks, rfl, funext fun q => ?_, hnd, Nat.le_refl _, fun n => by simp⟩⟩ (fun i σ H2 _ ⟨_, _, _, e, _⟩ => SqL.of (by rw [e, upd_ne hpsd]; exact hp)) ?_ ?_
      · by_cases e : q = sd
        · rw [e, upd_same, hsd]
        · rw [upd_ne e]
      · rintro i y σ H2 hi ⟨v4, ks', rfl, rfl, hnd', hl', hm'⟩
        obtain ⟨n, hn, rfl⟩ := map_get hi
        have hil : i < ns.length := (List.getElem?_eq_some_iff.mp hn).1
        have et : ns.take (i + 1) = ns.take i ++ [n] := by rw [List.take_add_one, hn]; rfl
        have hmem : ∀ m, (m ∈ ks ∨ (m ∈ ns.take (i + 1) ∧ m ≠ st)) ↔ m ∈ ks' ∨ (m = n ∧ m ≠ st) := fun m => by
          rw [hm', et, List.mem_append, List.mem_singleton]
          constructor
          · rintro (z | ⟨z | z, y⟩)
            · exact .inl (.inl z)
            · exact .inl (.inr ⟨z, y⟩)
            · exact .inr ⟨z, y⟩
          · rintro ((z | ⟨z, y⟩) | ⟨z, y⟩)
            · exact .inl z
            · exact .inr ⟨.inl z, y⟩
            · exact .inr ⟨.inr z, y⟩
        refine ⟨_, rfl, _, rfl, rfl, _, rfl, ?_⟩
        by_cases hst : n = st
        · refine iteNS (by rw [hst]) ?_
          refine ⟨⟨_, ks', rfl, rfl, hnd', by omega, fun m => ?_⟩⟩
          rw [hmem]
          exact ⟨.inl, fun z => z.elim id fun ⟨a, b⟩ => absurd (a.trans hst) b⟩
        · refine iteNF (vint_ne hst) ?_
          have hk2 : upd H sd (.dK (seenK ks' fl)) sd = some (.dK (seenK ks' fl)) := upd_same
          refine ⟨_, rfl, sd, rfl, .inl ⟨_, .inl hk2⟩, _, rfl, seenK ks' fl, Sum.inl n, hk2, rfl, hkl (by omega), fun v e => ?_, fun e => ?_⟩
          · have hin : n ∈ ks' := by
              by_cases z : n ∈ ks'
              · exact z
              · rw [seenK_not z] at e; cases e
            refine ⟨⟨_, ks', rfl, rfl, hnd', by omega, fun m => ?_⟩⟩
            rw [hmem]
            exact ⟨.inl, fun z => z.elim id fun ⟨a, _⟩ => a ▸ hin⟩
          · have hin : ¬ n ∈ ks' := fun z => by rw [seenK_val z] at e; cases e
            have hnk : ¬ n ∈ ks := fun z => hin ((hm' n).mpr (.inl z))
            have hfn := hfl n (List.mem_of_getElem? hn) hst hnk
            refine ⟨⟨_, ks' ++ [n], rfl, ?_, insert_nodup hnd' hin, by simp; omega, fun m => ?_⟩⟩
            · rw [putK_new _ e, upd_upd]
              unfold seenK
              rw [List.map_append, ← hfn]
              rfl
            · rw [hmem, List.mem_append, List.mem_singleton]
              exact ⟨fun z => z.imp id fun a => ⟨a, a ▸ hst⟩, fun z => z.imp id fun a => a.1⟩
      · rintro σ H2 ⟨v4, ks', rfl, rfl, hnd', hl', hm'⟩
        rw [List.length_map, List.take_length] at hm'
        exact q ks' hnd' hm'
theorem sc_standing : FnScope ["seen", "goal", "room"] ["seen", "goal", "room"] (defScope (top 7)) := ⟨rfl, rfl, rfl, by decide +kernel, rfl, by decide +kernel, by decide +kernel⟩
theorem ok_standing (T : Txt mg) (hK : K.In base) (D_far : Df K mg "far" (top 1) ["one", "other"]) (D_by_nearness : DfF K mg "by_nearness" (top 3) ["goal", "names"]) (hB : base.BuiltinsAt mg D_by_nearness.P) (D : Df K mg "standing" (top 7) ["seen", "goal", "room"]) : FnOk P w K mg base CX0 6 D.f D.fd ["seen", "goal", "room"] (spStanding D_by_nearness.P) := by
  have G_by_nearness : FnOk P w K mg base CX0 5 _ _ _ _ := ok_by T hK D_far D_by_nearness hB
  refine D.fn.ok sc_standing (fun vs H Q E h => ?_) (fun cdv A outer s H vs Q E hr h => ?_)
  · obtain ⟨sd, g, rm, ks, fl, rfl, _⟩ := h
    rfl
  · obtain ⟨sd, g, rm, ks, fl, rfl, hsd, hl, hg, hrm, hnn, hT, k⟩ := h
    refine ⟨_, (pss_one (ps_ret (pe_slice sl_list (pe_call G_by_nearness (hr.mono (by decide)) rfl D_by_nearness.hm D_by_nearness.kp D_by_nearness.b .nil pass0 (pa_cons (pv 1) (pa_cons (pe_thaw (H0 := H) rfl (pe_comp rfl (compText_of (own := ["name"]) (caps := [0]) (N' := ["name", "seen"]) (by kernel_rfl)) (pi_dict (pv 0)) (fun _ _ _ _ _ => (pg_name (i := 0) (show (["name", "seen"] : List Str).Nodup by decide +kernel) rfl (Or.inl rfl))) (fun _ _ _ _ _ => (pts_one (pt_val (pe_dget (hu_of hr) (pv 1) (pv 0) (fun _ _ => rfl))))) (fun _ _ _ _ _ => (pv 0)))) pa_nil))) po_none (po_some (pv 2))))), ?_⟩
    refine ⟨_, rfl, _, rfl, sd, seenK ks fl, rfl, .inl hsd, fun o H1 h1 h1' h1'' Dl hDl => ?_⟩
    have hk : (seenK ks fl).map (·.1) = ks.map Sum.inl := by unfold seenK; rw [List.map_map]; rfl
    have hDsd : Dl ≠ sd := fun z => by rw [z, h1] at hDl; cases hDl
    have hD0 : H Dl = none := by rw [← h1' Dl hDsd]; exact hDl
    refine comp_dict fl hk hDl h1 (by omega) (fun x hx H' Qt s q => ?_) fun H2 s2 hD2 => ?_
    · refine ⟨_, rfl, _, rfl, sd, _, rfl, .inl ⟨_, Sum.inl x, .inr ⟨o, s _ _ h1⟩, rfl, (seenK_val hx).symm⟩, _, rfl, q H' (Same.refl H')⟩
    · refine ⟨sd, seenK ks fl, o, s2 _ _ h1, fun ob u e => (by rw [hsd] at e; cases e), ?_⟩
      have s3 : Same H (upd H2 sd (.dK (seenK ks fl))) := fun b u e => by
        by_cases z : b = sd
        · subst z
          rw [upd_same, ← e, hsd]
        · rw [upd_ne z]
          refine s2 _ _ ?_
          rw [h1' b z]
          exact e
      have hD3 : upd H2 sd (.dK (seenK ks fl)) Dl = some (.lst ((ks.filter fl).map V.int)) := by rw [upd_ne hDsd]; exact hD2
      generalize upd H2 sd (.dK (seenK ks fl)) = H3 at s3 hD3
      have hfl : (ks.filter fl).length ≤ ks.length := List.length_filter_le _ _
      refine ⟨g, Dl, ks.filter fl, rfl, SqL.of hD3, by omega, hg, fun n hn => hnn n (List.mem_filter.mp hn).1, (s3.but _).2 _ _ hT, fun l H4 kp hT4 hl4 hl4' => ?_⟩
      walk_at "w"
      rw [cut_take _ hrm]
      intro l2 hl2
      have s5 : Same H4 (upd H4 l2 (.lst (((nearL g (ks.filter fl)).take rm.toNat).map V.int))) := Same.new H4 hl2
      refine k l2 _ (fun b u hb e => s5 _ _ (kp b u hb (s3 _ _ e))) ((s5.but _).2 _ _ hT4) ?_ upd_same
      cases e : H l2 with
      | none => rfl
      | some u =>
        by_cases z : l2 = D_by_nearness.P
        · obtain ⟨ps, hP, _⟩ := hT4
          rw [z, hP] at hl2
          cases hl2
        · rw [kp _ _ z (s3 _ _ e)] at hl2
          cases hl2
theorem sc_first_unasked : FnScope ["names", "row", "done", "name"] ["names", "row"] (defScope (top 8)) := ⟨rfl, rfl, rfl, by decide +kernel, rfl, by decide +kernel, by decide +kernel⟩
theorem ok_first (T : Txt mg) (D : Df K mg "first_unasked" (top 8) ["names", "row"]) : FnOk P w K mg base CX0 1 D.f D.fd ["names", "row"] spFirst := by
  refine D.fn.ok sc_first_unasked (fun vs H Q E h => ?_) (fun cdv A outer s H vs Q E hr h => ?_)
  · obtain ⟨nl, rl, names, R, tl, Lr, rfl, _⟩ := h
    rfl
  · obtain ⟨nl, rl, names, R, tl, Lr, rfl, hnl, hR, hRl, k⟩ := h
    refine ⟨_, (pss_cons (ps_setC (i := 2) sc_first_unasked.nd rfl (Or.inl rfl) rfl (compText_of (own := ["house", "told"]) (caps := []) (N' := ["house", "told"]) (by kernel_rfl)) (pi_list (pv 1)) (fun _ _ _ _ _ => (pg_tupK (K := K) (n := 2) rfl rfl (pgs_cons (pg_name (i := 0) (show (["house", "told"] : List Str).Nodup by decide +kernel) rfl (Or.inl rfl)) (pgs_cons (pg_name (i := 1) (show (["house", "told"] : List Str).Nodup by decide +kernel) rfl (Or.inl rfl)) pgs_nil)))) (fun _ _ _ _ _ => pts_nil) (fun _ _ _ _ _ => (pv 0)))
      (pss_cons (ps_for PassesOwn.never rfl (pi_list (pv 0)) (pg_name (i := 3) sc_first_unasked.nd rfl (Or.inl rfl))
       (pss_one (ps_if (pt_cmpR op_notIn_seq (pv 3) (pv 2) (by with_unfolding_all rfl))
         (pss_one (ps_ret (pv 3)))
         pss_nil)))
      (pss_one (ps_ret pe_non)))), ?_⟩
    obtain ⟨ps, hps, hpp⟩ := hR.ex
    have hpl := hpp.len
    walk_at "w"
    intro Dl hDl
    refine comp_list (xs := ps.map V.ref) (fun j σ H' => Hold (∃ v1 v2 : Option V, σ = [v1, v2] ∧ Same H H' ∧ H' Dl = some (.lst ((R.take j).map V.int)))) ⟨⟨none, none, rfl, Same.new H hDl, upd_same⟩⟩ (fun j σ H' _ ⟨_, _, _, s, _⟩ => SqL.of (s _ _ hps)) ?_ ?_
    · rintro j x σ H' hj ⟨v1, v2, rfl, s, hD⟩
      have hjl : j < R.length := by
        have := (List.getElem?_eq_some_iff.mp hj).1
        rw [List.length_map] at this
        omega
      obtain ⟨p, h, hp, hh, rfl, hph⟩ := paired_get hpp hj
      have hp' := s _ _ (show H p = _ from hph)
      have hsz : ((R.take j).map V.int).length < sizeLine := by rw [List.length_map, List.length_take]; exact small1000 (by omega)
      walk_at "w"
      refine ⟨⟨_, _, rfl, s.put hDl, ?_⟩⟩
      rw [upd_same, List.take_add_one, hh]
      simp
    rintro σ H2 ⟨v1, v2, rfl, s2, hD2⟩
    rw [List.length_map, hpl, List.take_length] at hD2
    have hnl2 := s2 _ _ hnl
    have hflat := flat_ints R
    walk_at "w"
    refine for_list (K := K) (a := nl) (xs := names.map V.int) (fun i σ H' => Hold (∃ v3 : Option V, σ = [some (.ref nl), some (.ref rl), some (.ref Dl), v3] ∧ H' = H2 ∧ ∀ x ∈ names.take i, unas R x = false))
      ⟨⟨none, rfl, rfl, fun _ h => (nomatch h)⟩⟩ (fun i σ H' _ ⟨_, _, e, _⟩ => by rw [e]; exact SqL.of hnl2) ?_ ?_
    · rintro i y σ H' hi ⟨v3, rfl, rfl, hall⟩
      obtain ⟨n, hn, rfl⟩ := map_get hi
      have et : names.take (i + 1) = names.take i ++ [n] := by rw [List.take_add_one, hn]; rfl
      walk_at "w"
      show if (!inV (V.int n) (R.map V.int)) = true then _ else _
      rw [inV_int]
      by_cases hin : n ∈ R
      · refine iteNS hin ?_
        refine ⟨⟨_, rfl, rfl, fun x hx => ?_⟩⟩
        rw [et, List.mem_append, List.mem_singleton] at hx
        rcases hx with z | z
        · exact hall x z
        · rw [z]
          unfold unas
          simp [hin]
      · refine iteNF hin ?_
        refine ⟨_, rfl, ?_⟩
        have e := (find_take (p := unas R) hall hn (by unfold unas; simp [hin])).1
        have z := k _ s2
        rw [e] at z
        exact z
    · rintro σ H' ⟨v3, rfl, rfl, hall⟩
      rw [List.length_map, List.take_length] at hall
      have e := (find_all (p := unas R) hall).1
      have z := k _ s2
      rw [e] at z
      exact z
end
theorem RowAt.same {H H1 : Hp} {rl : Addr} {R : List Int} {tl : Int → Option (List Int)} {Lr : Int → Addr} (c : RowAt H rl R tl Lr) (s : Same H H1) : RowAt H1 rl R tl Lr := by
  obtain ⟨ps, h, hp⟩ := c.ex
  exact ⟨ps, s _ _ h, hp.mp fun p t e => s _ _ e⟩
theorem RowAt.kz {T0 T1 T2 : Addr} {ex : Addr → Prop} {H H1 : Hp} {rl : Addr} {R : List Int} {tl : Int → Option (List Int)} {Lr : Int → Addr} (c : RowAt H rl R tl Lr) (a : Kz T0 T1 T2 ex H H1) (h1 : ¬ ex rl) (h2 : ∀ q, ex q → ∀ xs, H q ≠ some (.tup xs)) : RowAt H1 rl R tl Lr := by
  obtain ⟨ps, h, hp⟩ := c.ex
  exact ⟨ps, a.lst h1 h, hp.mp fun p t e => a.tup (fun z => h2 p z _ e) e⟩
theorem RowAt.more {H : Hp} {rl p : Addr} {R : List Int} {n : Int} {tl : Int → Option (List Int)} {Lr Lr' : Int → Addr} {ps : List Addr} (h : H rl = some (.lst (ps.map V.ref))) (hp : Paired (rowH tl Lr H) ps R) (hn : H p = none) (hL : ∀ m ∈ R, tv Lr' tl m = tv Lr tl m) :
    RowAt (upd (upd H p (.tup [.int n, tv Lr' tl n])) rl (.lst (ps.map V.ref ++ [.ref p]))) rl (R ++ [n]) tl Lr' := by
  have hpc : p ≠ rl := fun z => by rw [z, h] at hn; cases hn
  have hp2 : Paired (rowH tl Lr' H) ps R := by
    clear h hn
    induction hp with
    | nil => exact .nil
    | @cons a b ps R e _ ih =>
      refine .cons ?_ (ih fun m hm => hL m (List.mem_cons_of_mem _ hm))
      show H a = some (.tup [.int b, tv Lr' tl b])
      rw [hL b (List.mem_cons_self ..)]
      exact e
  refine ⟨ps ++ [p], by rw [upd_same]; simp, paired_snoc ?_ (hp2.mp fun a b e => ?_)⟩
  · show upd _ _ _ p = _
    rw [upd_ne hpc, upd_same]
  · have e : H a = some (.tup [.int b, tv Lr' tl b]) := e
    show upd _ _ _ a = _
    rw [upd_ne (fun z => by rw [z, h] at e; cases e), upd_ne (ne_of_none e hn)]
    exact e
def Own (o : HO) : Prop := (∃ xs, o = .lst xs) ∨ ∃ kvs, o = .dK kvs
theorem Kz.putO {T0 T1 T2 : Addr} {ex : Addr → Prop} {H H1 : Hp} (a : Kz T0 T1 T2 ex H H1) {p : Addr} {o u : HO} (hp : H p = none) (e : H1 p = some o) (ho : Own o) : Kz T0 T1 T2 ex H (upd H1 p u) := by
  have nt : ∀ ps, o ≠ .tbl ps := fun ps z => by rcases ho with ⟨_, y⟩ | ⟨_, y⟩ <;> rw [y] at z <;> cases z
  have nf : ∀ ob k, o ≠ .frz ob k := fun ob k z => by rcases ho with ⟨_, y⟩ | ⟨_, y⟩ <;> rw [y] at z <;> cases z
  have tb : ∀ {T : Addr} {pos : Pos} {q : Str}, Tab H1 T pos q → Tab (upd H1 p u) T pos q := fun {T pos q} t => by
    obtain ⟨ps, hP, ht, z⟩ := t
    refine ⟨ps, by rw [upd_ne (fun y => by rw [y, e] at hP; exact nt _ (Option.some.inj hP))]; exact hP, ht, ?_⟩
    rcases z with z | ⟨c', oc, k, z1, z2, z3⟩
    · exact .inl z
    · exact .inr ⟨c', oc, k, z1, by rw [upd_ne (fun y => by rw [y, e] at z2; exact nf _ _ (Option.some.inj z2))]; exact z2, z3⟩
  refine ⟨fun q o h1 h2 h3 z => ?_, fun q kvs h3 z => ?_, fun q z => ?_, ⟨tb a.t.t0, tb a.t.t1, tb a.t.t2⟩⟩
  · rw [upd_ne (ne_of_none z hp)]
    exact a.k q o h1 h2 h3 z
  · have hq : q ≠ p := by
      rcases z with z | ⟨o, z⟩
      · exact ne_of_none z hp
      · exact ne_of_none z hp
    have y := a.d q kvs h3 z
    unfold Rd
    rw [upd_ne hq]
    exact y
  · by_cases y : q = p
    · rw [y]
      exact hp
    · rw [upd_ne y] at z
      exact a.f q z
theorem quiet_snoc {tl : Int → Option (List Int)} {R : List Int} {h : Int} : quietR tl (R ++ [h]) = quietR tl R ++ if (tl h).isSome then [] else [h] := by
  unfold quietR
  rw [List.filter_append]
  cases e : tl h with
  | none => simp [e]
  | some ns => simp [e]
theorem fl_awake {tl : Int → Option (List Int)} {R : List Int} {h : Int} {ns : List Int} (e : tl h = some ns) : flR tl (R ++ [h]) = flR tl R := funext fun n => by
  unfold flR
  rw [quiet_snoc, e]
  simp
theorem fl_quiet {tl : Int → Option (List Int)} {R : List Int} {h : Int} (e : tl h = none) : flR tl (R ++ [h]) = fun n => if n = h then false else flR tl R n := funext fun n => by
  unfold flR
  rw [quiet_snoc, e]
  by_cases z : n = h
  · simp [z]
  · simp [z]
theorem seen_snoc {tl : Int → Option (List Int)} {st : Int} {R : List Int} {h : Int} : seenR tl st (R ++ [h]) = seenR tl st R ++ toldS tl st h := by
  unfold seenR
  simp
theorem stand_of {pool : List Int} {tl : Int → Option (List Int)} {st g : Int} {rm : Nat} {R ks : List Int} (o : PoolOk pool tl) (hR : ∀ h ∈ R, h ∈ pool) (hg : 0 ≤ g) (hm : ∀ n, n ∈ ks ↔ n ∈ seenR tl st R) : (nearL g (ks.filter (flR tl R))).take rm = standR tl st g rm R := by
  unfold standR
  rw [nearL_filter hg (fun y hy => o.nn y (seen_pool o hR y hy).1) hm]
theorem seen_len {pool : List Int} {tl : Int → Option (List Int)} {st : Int} {R ks : List Int} (o : PoolOk pool tl) (hR : ∀ h ∈ R, h ∈ pool) (hd : ks.Nodup) (hm : ∀ n, n ∈ ks ↔ n ∈ seenR tl st R) : ks.length ≤ 10 :=
  Nat.le_trans (len_sub hd fun n hn => (seen_pool o hR n ((hm n).mp hn)).1) o.le
abbrev tlS (aw : List Int) (kp : Int → List Int) (g rm st : Int) : Int → Option (List Int) := fun h => if h ∈ aw then some (tellL kp g rm.toNat st h) else none
theorem tlS_in {aw : List Int} {kp : Int → List Int} {g rm st h : Int} (x : h ∈ aw) : tlS aw kp g rm st h = some (tellL kp g rm.toNat st h) := if_pos x
theorem tlS_not {aw : List Int} {kp : Int → List Int} {g rm st h : Int} (x : ¬ h ∈ aw) : tlS aw kp g rm st h = none := if_neg x
theorem tlS_ok {pool aw : List Int} {kp : Int → List Int} {g rm st : Int} (o : KeepOk pool kp) (hrm : rm ≤ 12) : PoolOk pool (tlS aw kp g rm st) :=
  ⟨o.nd, o.le, o.nn, fun n hn ns e => by
    by_cases x : n ∈ aw
    · rw [tlS_in x] at e
      have e : tellL kp g rm.toNat st n = ns := Option.some.inj e
      subst e
      refine ⟨?_, fun m hm => (o.sub n hn).2 m (tell_sub hm).1⟩
      unfold tellL
      have := List.length_take_le rm.toNat ((nearL g (kp n)).filter fun m => !decide (m = st))
      omega
    · rw [tlS_not x] at e
      cases e⟩
structure AskS (T0 T1 T2 : Addr) (H : Hp) (tl : Int → Option (List Int)) (st : Int) (rl sd : Addr) (R ks : List Int) (Lr : Int → Addr) (H2 : Hp) : Prop where
  kz : Kz T0 T1 T2 exN H H2
  row : RowAt H2 rl R tl Lr
  seen : H2 sd = some (.dK (seenK ks (flR tl R)))
  nd : ks.Nodup
  mem : ∀ n, n ∈ ks ↔ n ∈ seenR tl st R
  qs : ∀ x ∈ R, tl x = none → x ∈ ks
def spAskedS (T0 T1 T2 : Addr) : Sp := fun vs H Q _ => ∃ (st g rm : Int) (f : Addr) (fd : FuncData) (kd la : Addr) (L : Int → Addr) (pool aw : List Int) (kp : Int → List Int), vs = [.int st, .int g, .int rm, .ref f] ∧ TelS T0 T1 T2 kd la L pool aw kp rm f fd H ∧ RT f fd ∧ KeepOk pool kp ∧ st ∈ pool ∧ st ∈ aw ∧ 0 ≤ g ∧ 0 ≤ rm ∧ rm ≤ 12 ∧
  ∀ (t rl fl : Addr) (R : List Int) (H' : Hp), Row (tlS aw kp g rm st) st g rm.toNat R → nextR (tlS aw kp g rm st) st g rm.toNat R = none → Kz T0 T1 T2 exN H H' → H' t = some (.tup [.ref rl, .ref fl]) → H' fl = some (.lst ((standR (tlS aw kp g rm st) st g rm.toNat R).map V.int)) → Q (.ref t) H'
section
variable {P : Program} {w : World} {K : PySem.W.Frag} {mg : Str → Option Value} {base : Heap}
theorem sc_asked : FnScope ["start", "goal", "room", "tells", "row", "seen", "found", "house", "told"] ["start", "goal", "room", "tells"] (defScope (top 5)) := ⟨rfl, rfl, rfl, by decide +kernel, rfl, by decide +kernel, by decide +kernel⟩
theorem ok_askedS (T : Txt mg) (hK : K.In base) (D_far : Df K mg "far" (top 1) ["one", "other"]) (D_by_nearness : DfF K mg "by_nearness" (top 3) ["goal", "names"]) (hB : base.BuiltinsAt mg D_by_nearness.P) (D__law_by : DfF K mg "_law_by" (top 17) ["_law_goal", "_law_names"]) (hB1 : base.BuiltinsAt mg D__law_by.P) {T2 : Addr} (n1 : D_by_nearness.P ≠ D__law_by.P) (n2 : D_by_nearness.P ≠ T2) (n3 : D__law_by.P ≠ T2) (D_note_told : Df K mg "note_told" (top 6) ["seen", "start", "house", "told"]) (D_standing : Df K mg "standing" (top 7) ["seen", "goal", "room"]) (D_first_unasked : Df K mg "first_unasked" (top 8) ["names", "row"]) (D : Df K mg "asked" (top 5) ["start", "goal", "room", "tells"]) : FnOk P w K mg base CX0 7 D.f D.fd ["start", "goal", "room", "tells"] (spAskedS D_by_nearness.P D__law_by.P T2) := by
  have G_note_told : FnOk P w K mg base CX0 1 _ _ _ _ := ok_note T D_note_told
  have G_standing : FnOk P w K mg base CX0 6 _ _ _ _ := ok_standing T hK D_far D_by_nearness hB D_standing
  have G_first_unasked : FnOk P w K mg base CX0 1 _ _ _ _ := ok_first T D_first_unasked
  have GA : ∀ f fd, RT f fd → FnOk P w K mg base CX0 5 f fd ["_law_house", "_law_aim", "_law_asker"] (spTS D_by_nearness.P D__law_by.P T2 f fd) := fun f fd _ => ok_tellsS T hK D__law_by hB1 n1 n3
  have bA : ∀ f fd, RT f fd → Binds K fd ["_law_house", "_law_aim", "_law_asker"] [] := fun f fd h => binds_T h
  refine D.fn.ok sc_asked (fun vs H Q E h => ?_) (fun cdv A outer s H vs Q E hr h => ?_)
  · obtain ⟨st, g, rm, f, fd, kd, la, L, pool, aw, kp, rfl, _⟩ := h
    rfl
  · obtain ⟨st, g, rm, f, fd, kd, la, L, pool, aw, kp, rfl, W, hR, hO, hst, hsta, hg, hrm, hrm12, k⟩ := h
    refine ⟨_, (pss_cons (ps_set (i := 4) sc_asked.nd rfl (Or.inl rfl) (pe_lst pa_nil))
      (pss_cons (ps_set (i := 5) sc_asked.nd rfl (Or.inl rfl) pe_dnewK)
      (pss_cons (ps_set (i := 6) sc_asked.nd rfl (Or.inl rfl) (pe_lst pa_nil))
      (pss_cons (ps_set (i := 7) sc_asked.nd rfl (Or.inl rfl) (pv 0))
      (pss_cons (ps_while PassesOwn.never (pt_cmpR op_notN (pv 7) pe_non (nomark _))
       (pss_cons (ps_set (i := 8) sc_asked.nd rfl (Or.inl rfl) (pe_callw (pv 3) GA bA (hr.mono (by decide)) (pa_cons (pv 7) (pa_cons (pv 1) (pa_cons (pv 0) pa_nil)))))
        (pss_cons (ps_expr (pe_bm PySem.F.plainAttrs_list PySem.F.slot_list_append PySem.F.type_list_append mt_append (pv 4) (pa_cons (pe_tup (pa_cons (pv 7) (pa_cons (pe_ifExp (pt_cmpR op_isN (pv 8) pe_non (nomark _)) pe_non (pe_callTy call_list_of rfl T.n_list bt_list (pa_cons (pv 8) pa_nil))) pa_nil))) pa_nil)))
        (pss_cons (ps_expr (pe_call G_note_told (hr.mono (by decide)) rfl D_note_told.hm D_note_told.fn.kp D_note_told.b .nil pass0 (pa_cons (pv 5) (pa_cons (pv 0) (pa_cons (pv 7) (pa_cons (pv 8) pa_nil))))))
        (pss_cons (ps_set (i := 6) sc_asked.nd rfl (Or.inl rfl) (pe_call G_standing (hr.mono (by decide)) rfl D_standing.hm D_standing.fn.kp D_standing.b .nil pass0 (pa_cons (pv 5) (pa_cons (pv 1) (pa_cons (pv 2) pa_nil)))))
        (pss_one (ps_set (i := 7) sc_asked.nd rfl (Or.inl rfl) (pe_call G_first_unasked (hr.mono (by decide)) rfl D_first_unasked.hm D_first_unasked.fn.kp D_first_unasked.b .nil pass0 (pa_cons (pv 6) (pa_cons (pv 4) pa_nil))))))))))
      (pss_one (ps_ret (pe_tup (pa_cons (pv 4) (pa_cons (pv 6) pa_nil)))))))))), ?_⟩
    have hP : PoolOk pool (tlS aw kp g rm st) := tlS_ok hO hrm12
    have h9 := hO.le
    walk_at "w"
    intro rl hrl
    have s1 : Same H (upd H rl (.lst [])) := Same.new H hrl
    have e1 : upd H rl (.lst []) rl = some (.lst []) := upd_same
    generalize upd H rl (.lst []) = H1 at s1 e1
    walk_at "w"
    intro sd hsd
    have s2 : Same H1 (upd H1 sd (.dK [])) := Same.new H1 hsd
    have e2 : upd H1 sd (.dK []) sd = some (.dK []) := upd_same
    generalize upd H1 sd (.dK []) = H2 at s2 e2
    walk_at "w"
    intro fl0 hfl0
    have s3 : Same H2 (upd H2 fl0 (.lst [])) := Same.new H2 hfl0
    generalize upd H2 fl0 (.lst []) = H3 at s3
    have hsd0 : H sd = none := s1.free hsd
    have n_rs : rl ≠ sd := fun z => by rw [← z, e1] at hsd; cases hsd
    have s03 := s1.trans (s2.trans s3)
    walk_at "w"
    refine ⟨fun m σ H4 => Hold (∃ (o : Option Int) (fl : Addr) (R ks : List Int) (Lr : Int → Addr) (v8 : Option V), σ = [some (.int st), some (.int g), some (.int rm), some (.ref f), some (.ref rl), some (.ref sd), some (.ref fl), some (ovI o), v8] ∧ AskS D_by_nearness.P D__law_by.P T2 H (tlS aw kp g rm st) st rl sd R ks Lr H4 ∧
        ((R = [] ∧ o = some st) ∨ (Row (tlS aw kp g rm st) st g rm.toNat R ∧ o = nextR (tlS aw kp g rm st) st g rm.toNat R ∧ H4 fl = some (.lst ((standR (tlS aw kp g rm st) st g rm.toNat R).map V.int)))) ∧ m = 11 - R.length),
      ⟨_, ⟨some st, fl0, [], [], L, none, rfl, ⟨Kz.of W.tabs s03, ⟨[], s3 _ _ (s2 _ _ e1), .nil⟩, s3 _ _ e2, List.nodup_nil, fun n => by simp [seenR], fun _ z => (nomatch z)⟩, .inl ⟨rfl, rfl⟩, rfl⟩⟩, ?_⟩
    rintro m σ H4 ⟨o, fl, R, ks, Lr, v8, rfl, I, hst4, rfl⟩
    cases o with
    | none =>
      obtain ⟨hRow, hnx, hfl4⟩ : Row (tlS aw kp g rm st) st g rm.toNat R ∧ none = nextR (tlS aw kp g rm st) st g rm.toNat R ∧ H4 fl = some (.lst ((standR (tlS aw kp g rm st) st g rm.toNat R).map V.int)) := by
        rcases hst4 with ⟨_, z⟩ | z
        · cases z
        · exact z
      refine ⟨_, rfl, rfl, _, rfl, ?_⟩
      refine iteNS rfl ?_
      refine ⟨_, rfl, _, rfl, (Nat.le_of_ble_eq_true rfl), fun t ht => ?_⟩
      have s5 : Same H4 (upd H4 t (.tup [V.ref rl, V.ref fl])) := Same.new H4 ht
      exact k t rl fl R _ hRow hnx.symm (I.kz.same s5) upd_same (s5 _ _ hfl4)
    | some h =>
      have hRp : (∀ x ∈ R, x ∈ pool) ∧ R.Nodup ∧ h ∈ pool ∧ ¬ h ∈ R ∧ (¬ h ∈ aw → h ∈ ks) ∧ (Row (tlS aw kp g rm st) st g rm.toNat (R ++ [h])) := by
        rcases hst4 with ⟨rfl, z⟩ | ⟨hRow, z, _⟩
        · cases z
          exact ⟨fun _ z => (nomatch z), List.nodup_nil, hst, List.not_mem_nil, fun z => absurd hsta z, .one⟩
        · obtain ⟨a1, a2⟩ := hRow.ok hP hst
          obtain ⟨b1, b2⟩ := next_of z.symm
          have b3 := (stand_seen _ b1).1
          exact ⟨a1, a2, (seen_pool hP a1 _ b3).1, b2, fun _ => (I.mem h).mpr b3, .more hRow z.symm⟩
      obtain ⟨hRp, hRn, hhp, hhR, hks, hRow'⟩ := hRp
      have hRl : (R ++ [h]).length ≤ 10 := Nat.le_trans (len_sub (insert_nodup hRn hhR) (snoc_all hRp hhp)) h9
      rw [List.length_append, List.length_singleton] at hRl
      have W4 := W.kz I.kz
      refine ⟨_, rfl, rfl, _, rfl, ?_⟩
      refine iteNF (fun z => nomatch z) ?_
      refine ⟨fun σ' H' => ∃ m', m' < 11 - R.length ∧ Hold (∃ (o : Option Int) (fl : Addr) (R ks : List Int) (Lr : Int → Addr) (v8 : Option V), σ' = [some (.int st), some (.int g), some (.int rm), some (.ref f), some (.ref rl), some (.ref sd), some (.ref fl), some (ovI o), v8] ∧ AskS D_by_nearness.P D__law_by.P T2 H (tlS aw kp g rm st) st rl sd R ks Lr H' ∧
        ((R = [] ∧ o = some st) ∨ (Row (tlS aw kp g rm st) st g rm.toNat R ∧ o = nextR (tlS aw kp g rm st) st g rm.toNat R ∧ H' fl = some (.lst ((standR (tlS aw kp g rm st) st g rm.toNat R).map V.int)))) ∧ m' = 11 - R.length), fun _ _ z => z, ?_⟩
      have hkl := seen_len hP hRp I.nd I.mem
      have rest : ∀ (H8 : Hp) (v8 : V) (Lr' : Int → Addr) (ks' : List Int), Kz D_by_nearness.P D__law_by.P T2 exN H H8 → RowAt H8 rl (R ++ [h]) (tlS aw kp g rm st) Lr' → H8 sd = some (.dK (seenK ks' (flR (tlS aw kp g rm st) (R ++ [h])))) → ks'.Nodup → (∀ n, n ∈ ks' ↔ n ∈ seenR (tlS aw kp g rm st) st (R ++ [h])) → (∀ x ∈ R ++ [h], tlS aw kp g rm st x = none → x ∈ ks') →
          tSeq (tAsg (tCall (spStanding D_by_nearness.P) [] E0 (tCons (tVar 5) (tCons (tVar 1) (tCons (tVar 2) tNil)))) (gName 6)) (tAsg (tCall spFirst [] E0 (tCons (tVar 6) (tCons (tVar 4) tNil))) (gName 7))
            { nx := fun σ' H' => ∃ m', m' < 11 - R.length ∧ Hold (∃ (o : Option Int) (fl : Addr) (R ks : List Int) (Lr : Int → Addr) (v8 : Option V), σ' = [some (.int st), some (.int g), some (.int rm), some (.ref f), some (.ref rl), some (.ref sd), some (.ref fl), some (ovI o), v8] ∧ AskS D_by_nearness.P D__law_by.P T2 H (tlS aw kp g rm st) st rl sd R ks Lr H' ∧
              ((R = [] ∧ o = some st) ∨ (Row (tlS aw kp g rm st) st g rm.toNat R ∧ o = nextR (tlS aw kp g rm st) st g rm.toNat R ∧ H' fl = some (.lst ((standR (tlS aw kp g rm st) st g rm.toNat R).map V.int)))) ∧ m' = 11 - R.length), rt := Q }
            [some (.int st), some (.int g), some (.int rm), some (.ref f), some (.ref rl), some (.ref sd), some (.ref fl), some (.int h), some v8] H8 := fun H8 v8 Lr' ks' K8 R8 sd8 hnd' mem8 qs8 => by
        have hRp' := snoc_all hRp hhp
        have hkl' := seen_len hP hRp' hnd' mem8
        refine ⟨_, rfl, _, rfl, _, rfl, sd, g, rm, ks', _, rfl, sd8, by omega, hg, hrm, fun n hn => hP.nn n (seen_pool hP hRp' n ((mem8 n).mp hn)).1, K8.t.t0, fun lf H9 kp9 hT9 hlf hlf9 => ?_⟩
        rw [stand_of hP hRp' hg mem8] at hlf9
        have K89 : Kz D_by_nearness.P D__law_by.P T2 exN H8 H9 := Kz.by0 n1 n2 K8.t kp9 hT9
        have nT : ∀ {q : Addr} {o : HO}, H8 q = some o → (∀ ps, o ≠ .tbl ps) → q ≠ D_by_nearness.P := fun {q o} e ho z => by
          obtain ⟨ps, hP⟩ := K8.t.t0.is
          rw [z, hP] at e
          exact ho _ (Option.some.inj e).symm
        have sd9 : H9 sd = _ := kp9 _ _ (nT sd8 (fun _ z => nomatch z)) sd8
        have R9 : RowAt H9 rl (R ++ [h]) (tlS aw kp g rm st) Lr' := R8.kz K89 (exN_no _) fun _ z => z.elim
        refine ⟨_, rfl, _, rfl, lf, rl, _, R ++ [h], tlS aw kp g rm st, Lr', rfl, hlf9, R9, by simp; omega, fun H10 s10 => ?_⟩
        exact ⟨11 - (R ++ [h]).length, by simp; omega, ⟨nextR (tlS aw kp g rm st) st g rm.toNat (R ++ [h]), lf, R ++ [h], ks', Lr', _, rfl, ⟨(K8.trans K89).same s10, R9.same s10, s10 _ _ sd9, hnd', mem8, qs8⟩, .inr ⟨hRow', rfl, s10 _ _ hlf9⟩, rfl⟩⟩
      refine ⟨_, rfl, f, fd, rfl, W4.fun_.fnv, hR, _, rfl, _, rfl, _, rfl, W4.fun_.fnv, [.ref la, .int rm, .ref kd], rfl, W4.fun_, h, g, st, rm, kd, la, L, pool, aw, kp, rfl, rfl, W4.told, W4.awk, hO, W4.tabs, hhp, hg, hrm, fun hna => ?_, fun hha l0 H5 K45 hl0 hl05 => ?_⟩
      · -- silent
        have htn : tlS aw kp g rm st h = none := tlS_not hna
        obtain ⟨ps, hps, hpp⟩ := I.row.ex
        have hpsz : (ps.map V.ref).length < sizeLine := by rw [List.length_map, hpp.len]; exact small1000 (by omega)
        refine ⟨_, rfl, .inl ⟨rfl, _, SqL.of hps⟩, _, rfl, _, rfl, rfl, _, rfl, ?_⟩
        refine iteD rfl ?_
        refine ⟨(Nat.le_of_ble_eq_true rfl), fun t ht => ?_⟩
        have htr : t ≠ rl := fun z => by rw [z, hps] at ht; cases ht
        refine ⟨rl, _, _, rfl, rfl, (upd_ne htr.symm).trans hps, hpsz, ?_⟩
        have K6 : Kz D_by_nearness.P D__law_by.P T2 exN H (upd (upd H4 t (.tup [ovI (some h), V.non])) rl (.lst (ps.map V.ref ++ [V.ref t]))) := (I.kz.same (Same.new H4 ht)).put hrl (xs := ps.map V.ref) ((upd_ne htr.symm).trans hps)
        have R6 : RowAt (upd (upd H4 t (.tup [ovI (some h), V.non])) rl (.lst (ps.map V.ref ++ [V.ref t]))) rl (R ++ [h]) (tlS aw kp g rm st) Lr := by
          have z := RowAt.more (n := h) (Lr' := Lr) hps hpp ht fun _ _ => rfl
          rw [tv_none htn] at z
          exact z
        have kp6 : ∀ q o, q ≠ rl → H4 q = some o → upd (upd H4 t (.tup [ovI (some h), V.non])) rl (.lst (ps.map V.ref ++ [V.ref t])) q = some o := fun q o hq e => by
          rw [upd_ne hq, upd_ne (ne_of_none e ht)]
          exact e
        generalize upd (upd H4 t (.tup [ovI (some h), V.non])) rl (.lst (ps.map V.ref ++ [V.ref t])) = H6 at K6 R6 kp6
        have sd6 := kp6 _ _ n_rs.symm I.seen
        refine ⟨_, rfl, _, rfl, _, rfl, _, rfl, sd, st, h, V.non, ks, flR (tlS aw kp g rm st) R, rfl, sd6, I.nd, by omega, .inl ⟨rfl, hks hna, ?_⟩⟩
        rw [← fl_quiet htn]
        refine rest _ V.non Lr ks (K6.putO hsd0 sd6 (.inr ⟨_, rfl⟩)) ?_ upd_same I.nd (fun n => ?_) (fun x hx e => ?_)
        · obtain ⟨qs, hqs, hqp⟩ := R6.ex
          refine ⟨qs, (upd_ne n_rs).trans hqs, hqp.mp fun a b e => ?_⟩
          have e : H6 a = _ := e
          exact (upd_ne (fun z => by rw [z, sd6] at e; cases e)).trans e
        · rw [I.mem, seen_snoc]
          unfold toldS
          rw [htn]
          simp
        · rw [List.mem_append, List.mem_singleton] at hx
          rcases hx with z | z
          · exact I.qs x z e
          · rw [z]
            exact hks hna
      · have K5 : Kz D_by_nearness.P D__law_by.P T2 exN H H5 := I.kz.trans K45.kz
        obtain ⟨ns, hns⟩ : ∃ ns, tellL kp g rm.toNat st h = ns := ⟨_, rfl⟩
        have htn : tlS aw kp g rm st h = some ns := (tlS_in hha).trans (congrArg some hns)
        rw [hns] at hl05
        obtain ⟨hn12, hnp⟩ := hP.ns h hhp ns htn
        have hsd5 : H5 sd = some (.dK (seenK ks (flR (tlS aw kp g rm st) R))) := K45.k _ _ (fun _ z => nomatch z) I.seen
        have hr5 : RowAt H5 rl R (tlS aw kp g rm st) Lr := I.row.kz (K45.kz (ex := exN)) (exN_no _) fun _ z => z.elim
        obtain ⟨ps, hps, hpp⟩ := hr5.ex
        have hpsz : (ps.map V.ref).length < sizeLine := by rw [List.length_map, hpp.len]; exact small1000 (by omega)
        have hl0rl : l0 ≠ rl := fun z => by
          obtain ⟨_, y, _⟩ := I.row.ex
          rw [z, y] at hl0
          cases hl0
        refine ⟨_, rfl, .inl ⟨rfl, _, SqL.of hps⟩, _, rfl, _, rfl, rfl, _, rfl, ?_⟩
        refine iteDn (fun z => nomatch z) ?_
        refine ⟨_, rfl, l0, ns.map V.int, rfl, .inl (SqL.of hl05), fun l hl => ?_⟩
        refine ⟨(Nat.le_of_ble_eq_true rfl), fun t ht => ?_⟩
        have s6 : Same H5 (upd H5 l (.lst (ns.map V.int))) := Same.new H5 hl
        generalize upd H5 l (.lst (ns.map V.int)) = H6 at s6 ht ⊢
        have hps6 := s6 _ _ hps
        have htr : t ≠ rl := fun z => by rw [z, hps6] at ht; cases ht
        refine ⟨rl, _, _, rfl, rfl, (upd_ne htr.symm).trans hps6, hpsz, ?_⟩
        have K7 : Kz D_by_nearness.P D__law_by.P T2 exN H (upd (upd H6 t (.tup [ovI (some h), V.ref l])) rl (.lst (ps.map V.ref ++ [V.ref t]))) := ((K5.same s6).same (Same.new H6 ht)).put hrl (xs := ps.map V.ref) ((upd_ne htr.symm).trans hps6)
        let Lr' : Int → Addr := fun m => if m = h then l else Lr m
        have eLh : Lr' h = l := if_pos rfl
        have eLm : ∀ m ∈ R, Lr' m = Lr m := fun m hm => if_neg fun (z : m = h) => hhR (z ▸ hm)
        have R7 : RowAt (upd (upd H6 t (.tup [ovI (some h), V.ref l])) rl (.lst (ps.map V.ref ++ [V.ref t]))) rl (R ++ [h]) (tlS aw kp g rm st) Lr' := by
          have z := RowAt.more (n := h) (Lr' := Lr') hps6 (hpp.mp fun a b e => s6 _ _ e) ht fun m hm => by unfold tv; rw [eLm m hm]
          rw [tv_some htn, eLh] at z
          exact z
        have kp7 : ∀ q o, q ≠ rl → H6 q = some o → upd (upd H6 t (.tup [ovI (some h), V.ref l])) rl (.lst (ps.map V.ref ++ [V.ref t])) q = some o := fun q o hq e => by
          rw [upd_ne hq, upd_ne (ne_of_none e ht)]
          exact e
        generalize upd (upd H6 t (.tup [ovI (some h), V.ref l])) rl (.lst (ps.map V.ref ++ [V.ref t])) = H7 at K7 R7 kp7
        have sd7 := kp7 _ _ n_rs.symm (s6 _ _ hsd5)
        have hl07 := kp7 _ _ hl0rl (s6 _ _ hl05)
        refine ⟨_, rfl, _, rfl, _, rfl, _, rfl, sd, st, h, V.ref l0, ks, flR (tlS aw kp g rm st) R, rfl, sd7, I.nd, by omega, .inr ⟨l0, ns, rfl, hl07, hn12, fun n _ hns hnk => ?_, fun ks' hnd' hm' => ?_⟩⟩
        · unfold flR
          rw [Bool.not_eq_true', decide_eq_false_iff_not]
          intro z
          unfold quietR at z
          obtain ⟨z1, z2⟩ := List.mem_filter.mp z
          refine hnk (I.qs n z1 ?_)
          cases e : tlS aw kp g rm st n with
          | none => rfl
          | some _ => rw [e] at z2; cases z2
        · rw [← fl_awake (R := R) htn]
          refine rest _ (V.ref l0) Lr' ks' (K7.putO hsd0 sd7 (.inr ⟨_, rfl⟩)) ?_ upd_same hnd' (fun n => ?_) fun x hx e => ?_
          · obtain ⟨qs, hqs, hqp⟩ := R7.ex
            refine ⟨qs, (upd_ne n_rs).trans hqs, hqp.mp fun a b e => ?_⟩
            have e : H7 a = _ := e
            exact (upd_ne (fun z => by rw [z, sd7] at e; cases e)).trans e
          · rw [hm', I.mem, seen_snoc, List.mem_append]
            unfold toldS
            rw [htn]
            simp
          · rw [List.mem_append, List.mem_singleton] at hx
            rcases hx with z | z
            · exact (hm' x).mpr (.inl (I.qs x z e))
            · rw [z, htn] at e
              cases e
end
inductive Chain (nx : Int → Option Int) : Int → List Int → Prop
  | last {h : Int} : nx h = none → Chain nx h [h]
  | step {h n : Int} {l : List Int} : nx h = some n → Chain nx n l → Chain nx h (h :: l)
theorem Chain.det {nx : Int → Option Int} {h : Int} {a : List Int} (x : Chain nx h a) : ∀ {b : List Int}, Chain nx h b → a = b := by
  induction x with
  | last e =>
    intro b y
    cases y with
    | last _ => rfl
    | step e' _ => rw [e] at e'; cases e'
  | step e _ ih =>
    intro b y
    cases y with
    | last e' => rw [e] at e'; cases e'
    | step e' z =>
      rw [e] at e'
      cases e'
      rw [ih z]
theorem Chain.ne {nx : Int → Option Int} {h : Int} {a : List Int} (x : Chain nx h a) : a.head? = some h := by
  cases x <;> rfl
theorem Chain.get {nx : Int → Option Int} {h : Int} {a : List Int} (x : Chain nx h a) : ∀ {i : Nat} {m n : Int}, a[i]? = some m → a[i + 1]? = some n → nx m = some n := by
  induction x with
  | last e => intro i m n h1 h2; simp at h2
  | step e z ih =>
    intro i m n h1 h2
    cases i with
    | zero =>
      cases h1
      have y := z.ne
      rw [List.getElem?_cons_succ, ← List.head?_eq_getElem?, y] at h2
      cases h2
      exact e
    | succ j => exact ih (i := j) h1 h2
theorem Chain.end {nx : Int → Option Int} {h : Int} {a : List Int} (x : Chain nx h a) : ∃ m, a.getLast? = some m ∧ nx m = none := by
  induction x with
  | last e => exact ⟨_, rfl, e⟩
  | @step h n l e z ih =>
    obtain ⟨m, h1, h2⟩ := ih
    refine ⟨m, ?_, h2⟩
    cases l with
    | nil => cases h1
    | cons y r => rw [List.getLast?_cons_cons]; exact h1
def cnt (pool : List Int) (g h : Int) : Nat := pool.countP fun n => decide (Builtin.bitXor g n < Builtin.bitXor g h)
theorem cnt_lt {pool : List Int} {g h n : Int} (hn : n ∈ pool) (lt : Builtin.bitXor g n < Builtin.bitXor g h) : cnt pool g n < cnt pool g h := by
  unfold cnt
  have : ∀ {l : List Int}, (l.countP fun m => decide (Builtin.bitXor g m < Builtin.bitXor g n)) ≤ l.countP fun m => decide (Builtin.bitXor g m < Builtin.bitXor g h) := fun {l} => List.countP_mono_left fun m _ hm => by
    have := of_decide_eq_true hm
    exact decide_eq_true (by omega)
  obtain ⟨l1, l2, rfl⟩ := List.append_of_mem hn
  rw [List.countP_append, List.countP_append, List.countP_cons, List.countP_cons]
  have e1 := this (l := l1)
  have e2 := this (l := l2)
  rw [if_neg (by simp), if_pos (by simpa using lt)]
  omega
theorem cnt_le {pool : List Int} {g h : Int} (hh : h ∈ pool) : cnt pool g h + 1 ≤ pool.length := by
  unfold cnt
  obtain ⟨l1, l2, rfl⟩ := List.append_of_mem hh
  rw [List.countP_append, List.countP_cons, if_neg (by simp), List.length_append, List.length_cons]
  have e1 := List.countP_le_length (p := fun n => decide (Builtin.bitXor g n < Builtin.bitXor g h)) (l := l1)
  have e2 := List.countP_le_length (p := fun n => decide (Builtin.bitXor g n < Builtin.bitXor g h)) (l := l2)
  omega
def spNearer : Sp := fun vs H Q _ => ∃ g i j : Int, vs = [.int g, .int i, .int j] ∧ Q (.bl (decide (Builtin.bitXor g i < Builtin.bitXor g j))) H
def spGoesS (T0 T1 T2 : Addr) : Sp := fun vs H Q _ => ∃ (h g rm : Int) (f : Addr) (fd : FuncData) (kd la : Addr) (L : Int → Addr) (pool aw : List Int) (kp : Int → List Int), vs = [.int h, .int g, .ref f] ∧ TelS T0 T1 T2 kd la L pool aw kp rm f fd H ∧ RT f fd ∧ KeepOk pool kp ∧ (∀ x ∈ aw, x ∈ pool) ∧ h ∈ aw ∧ 0 ≤ g ∧ 0 ≤ rm ∧ ∀ H', Kw T0 T1 T2 H H' → Q (ovI (nxtS aw kp g rm.toNat h)) H'
def spWayS (T0 T1 T2 : Addr) : Sp := fun vs H Q _ => ∃ (h g rm : Int) (f : Addr) (fd : FuncData) (kd la : Addr) (L : Int → Addr) (pool aw : List Int) (kp : Int → List Int), vs = [.int h, .int g, .ref f] ∧ TelS T0 T1 T2 kd la L pool aw kp rm f fd H ∧ RT f fd ∧ KeepOk pool kp ∧ (∀ x ∈ aw, x ∈ pool) ∧ h ∈ aw ∧ 0 ≤ g ∧ 0 ≤ rm ∧
  ∀ (l : Addr) (a : List Int) (H' : Hp), Kz T0 T1 T2 exN H H' → Chain (nxtS aw kp g rm.toNat) h a → a.length ≤ 10 → H l = none → H' l = some (.lst (a.map V.int)) → Q (.ref l) H'
section
variable {P : Program} {w : World} {K : PySem.W.Frag} {mg : Str → Option Value} {base : Heap}
theorem sc_nearer : FnScope ["goal", "one", "other"] ["goal", "one", "other"] (defScope (top 2)) := ⟨rfl, rfl, rfl, by decide +kernel, rfl, by decide +kernel, by decide +kernel⟩
theorem ok_nearer (D_far : Df K mg "far" (top 1) ["one", "other"]) (D : Df K mg "nearer" (top 2) ["goal", "one", "other"]) : FnOk P w K mg base CX0 2 D.f D.fd ["goal", "one", "other"] spNearer := by
  have G_far : FnOk P w K mg base CX0 1 _ _ _ _ := ok_far D_far
  refine D.fn.ok sc_nearer (fun vs H Q E h => ?_) (fun cdv A outer s H vs Q E hr h => ?_)
  · obtain ⟨g, i, j, rfl, _⟩ := h
    rfl
  · obtain ⟨g, i, j, rfl, k⟩ := h
    refine ⟨_, (pss_one (ps_ret (pe_cmpR op_lt (pe_call G_far (hr.mono (by decide)) rfl D_far.hm D_far.fn.kp D_far.b .nil pass0 (pa_cons (pv 0) (pa_cons (pv 1) pa_nil))) (pe_call G_far (hr.mono (by decide)) rfl D_far.hm D_far.fn.kp D_far.b .nil pass0 (pa_cons (pv 0) (pa_cons (pv 2) pa_nil))) (nomark _)))), ?_⟩
    exact ⟨_, rfl, _, rfl, _, _, rfl, _, rfl, _, rfl, _, _, rfl, _, _, rfl, rfl, k⟩
theorem sc_goes_next : FnScope ["here", "goal", "tells", "name"] ["here", "goal", "tells"] (defScope (top 10)) := ⟨rfl, rfl, rfl, by decide +kernel, rfl, by decide +kernel, by decide +kernel⟩
theorem ok_goesS (T : Txt mg) (hK : K.In base) (D_far : Df K mg "far" (top 1) ["one", "other"]) (D_nearer : Df K mg "nearer" (top 2) ["goal", "one", "other"]) (D_by_nearness : DfF K mg "by_nearness" (top 3) ["goal", "names"]) (hB : base.BuiltinsAt mg D_by_nearness.P) (D__law_by : DfF K mg "_law_by" (top 17) ["_law_goal", "_law_names"]) (hB1 : base.BuiltinsAt mg D__law_by.P) {T2 : Addr} (n1 : D_by_nearness.P ≠ D__law_by.P) (n2 : D_by_nearness.P ≠ T2) (n3 : D__law_by.P ≠ T2) (D : Df K mg "goes_next" (top 10) ["here", "goal", "tells"]) : FnOk P w K mg base CX0 6 D.f D.fd ["here", "goal", "tells"] (spGoesS D_by_nearness.P D__law_by.P T2) := by
  have G_nearer : FnOk P w K mg base CX0 2 _ _ _ _ := ok_nearer D_far D_nearer
  have G_by_nearness : FnOk P w K mg base CX0 5 _ _ _ _ := ok_by T hK D_far D_by_nearness hB
  have GA : ∀ f fd, RT f fd → FnOk P w K mg base CX0 5 f fd ["_law_house", "_law_aim", "_law_asker"] (spTS D_by_nearness.P D__law_by.P T2 f fd) := fun f fd _ => ok_tellsS T hK D__law_by hB1 n1 n3
  have bA : ∀ f fd, RT f fd → Binds K fd ["_law_house", "_law_aim", "_law_asker"] [] := fun f fd h => binds_T h
  refine D.fn.ok sc_goes_next (fun vs H Q E h => ?_) (fun cdv A outer s H vs Q E hr h => ?_)
  · obtain ⟨h, g, rm, f, fd, kd, la, L, pool, aw, kp, rfl, _⟩ := h
    rfl
  · obtain ⟨h, g, rm, f, fd, kd, la, L, pool, aw, kp, rfl, W, hR, hO, haw, hha, hg, hrm, k⟩ := h
    have hh := haw h hha
    refine ⟨_, (pss_cons (ps_for PassesOwn.never rfl (pi_list (pe_call G_by_nearness (hr.mono (by decide)) rfl D_by_nearness.hm D_by_nearness.kp D_by_nearness.b .nil pass0 (pa_cons (pv 1) (pa_cons (pe_callw (pv 2) GA bA (hr.mono (by decide)) (pa_cons (pv 0) (pa_cons (pv 1) (pa_cons (pv 0) pa_nil)))) pa_nil)))) (pg_name (i := 3) sc_goes_next.nd rfl (Or.inl rfl))
       (pss_one (ps_if (pt_cmpR op_notN (pe_callw (pv 2) GA bA (hr.mono (by decide)) (pa_cons (pv 3) (pa_cons (pv 1) (pa_cons (pv 0) pa_nil)))) pe_non (nomark _))
         (pss_one (ps_ret (pe_ifExp (pt_val (pe_call G_nearer (hr.mono (by decide)) rfl D_nearer.hm D_nearer.fn.kp D_nearer.b .nil pass0 (pa_cons (pv 1) (pa_cons (pv 3) (pa_cons (pv 0) pa_nil))))) (pv 3) pe_non)))
         pss_nil)))
      (pss_one (ps_ret pe_non))), ?_⟩
    have h10 := hO.le
    have hsub : ∀ m ∈ tellL kp g rm.toNat h h, m ∈ pool := fun m hm => (hO.sub h hh).2 m (tell_sub hm).1
    have htd : (tellL kp g rm.toNat h h).Nodup := take_nodup ((nearL_nodup g _).filter _) _
    have htl : (tellL kp g rm.toNat h h).length ≤ 10 := Nat.le_trans (len_sub htd hsub) h10
    refine ⟨_, rfl, _, rfl, f, fd, rfl, W.fun_.fnv, hR, _, rfl, _, rfl, _, rfl, W.fun_.fnv, [.ref la, .int rm, .ref kd], rfl, W.fun_, h, g, h, rm, kd, la, L, pool, aw, kp, rfl, rfl, W.told, W.awk, hO, W.tabs, hh, hg, hrm, fun z => absurd hha z, fun _ l0 H1 K1 hl0 hl01 => ?_⟩
    have W1 := W.kz K1.kz
    refine ⟨g, l0, _, rfl, SqL.of hl01, by omega, hg, fun m hm => hO.nn m (hsub m hm), W1.tabs.t0, fun l H2 kp2 hT2 hl hl2 => ?_⟩
    have K12 : Kw D_by_nearness.P D__law_by.P T2 H1 H2 := Kw.tab W1.tabs.t0.is kp2 (Kz.by0 n1 n2 W1.tabs kp2 hT2)
    have K2 := K1.trans K12
    have W2 := W.kz K2.kz
    have hl2 : H2 l = some (.lst ((rowS kp g rm.toNat h).map V.int)) := hl2
    have hrp : ∀ m ∈ rowS kp g rm.toNat h, m ∈ pool := fun m hm => hsub m (nearL_mem.mp hm)
    refine ⟨l, rfl, ⟨_, SqL.of hl2⟩, for_list (K := K) (a := l) (xs := (rowS kp g rm.toNat h).map V.int) (fun i σ H3 => Hold (∃ v3 : Option V, σ = [some (.int h), some (.int g), some (.ref f), v3] ∧ H3 = H2 ∧ ∀ x ∈ (rowS kp g rm.toNat h).take i, decide (x ∈ aw) = false))
      ⟨⟨none, rfl, rfl, fun _ z => (nomatch z)⟩⟩ (fun i σ H3 _ ⟨_, _, e, _⟩ => by rw [e]; exact SqL.of hl2) ?_ ?_⟩
    · rintro i y σ H3 hi ⟨v3, rfl, rfl, hsil⟩
      obtain ⟨n, hn, rfl⟩ := map_get hi
      have hnp := hrp n (List.mem_of_getElem? hn)
      have et : (rowS kp g rm.toNat h).take (i + 1) = (rowS kp g rm.toNat h).take i ++ [n] := by rw [List.take_add_one, hn]; rfl
      refine ⟨_, rfl, f, fd, rfl, W2.fun_.fnv, hR, _, rfl, _, rfl, _, rfl, W2.fun_.fnv, [.ref la, .int rm, .ref kd], rfl, W2.fun_, n, g, h, rm, kd, la, L, pool, aw, kp, rfl, rfl, W2.told, W2.awk, hO, W2.tabs, hnp, hg, hrm, fun hna => ?_, fun hna l1 H4 K34 hl1 hl14 => ?_⟩
      · refine ⟨rfl, _, rfl, ?_⟩
        refine iteNS rfl ?_
        refine ⟨⟨_, rfl, rfl, fun x hx => ?_⟩⟩
        rw [et, List.mem_append, List.mem_singleton] at hx
        rcases hx with z | z
        · exact hsil x z
        · rw [z]
          exact decide_eq_false hna
      · refine ⟨rfl, _, rfl, ?_⟩
        refine iteNF (fun z => nomatch z) ?_
        obtain ⟨f1, _⟩ := find_take (p := fun n => decide (n ∈ aw)) hsil hn (decide_eq_true hna)
        have enx : nxtS aw kp g rm.toNat h = if Builtin.bitXor g n < Builtin.bitXor g h then some n else none := by
          unfold nxtS
          rw [f1]
        have fin : ∀ v, v = ovI (nxtS aw kp g rm.toNat h) → Q v H4 := fun v e => by
          rw [e]
          exact k H4 (K2.trans K34)
        walk_at "w"
        by_cases lt : Builtin.bitXor g n < Builtin.bitXor g h
        · refine iteD lt ?_
          refine ⟨_, rfl, fin _ ?_⟩
          rw [enx, if_pos lt]
          rfl
        · refine iteDn lt ?_
          refine fin _ ?_
          rw [enx, if_neg lt]
          rfl
    · rintro σ H3 ⟨v3, rfl, rfl, hsil⟩
      rw [List.length_map, List.take_length] at hsil
      obtain ⟨f1, _⟩ := find_all (p := fun n => decide (n ∈ aw)) hsil
      have en : ovI (nxtS aw kp g rm.toNat h) = V.non := by
        unfold nxtS
        rw [f1]
        rfl
      have z := k H3 K2
      rw [en] at z
      exact z
theorem sc_way : FnScope ["start", "goal", "tells", "houses", "here"] ["start", "goal", "tells"] (defScope (top 9)) := ⟨rfl, rfl, rfl, by decide +kernel, rfl, by decide +kernel, by decide +kernel⟩
theorem ok_wayS (T : Txt mg) (hK : K.In base) (D_far : Df K mg "far" (top 1) ["one", "other"]) (D_nearer : Df K mg "nearer" (top 2) ["goal", "one", "other"]) (D_by_nearness : DfF K mg "by_nearness" (top 3) ["goal", "names"]) (hB : base.BuiltinsAt mg D_by_nearness.P) (D__law_by : DfF K mg "_law_by" (top 17) ["_law_goal", "_law_names"]) (hB1 : base.BuiltinsAt mg D__law_by.P) {T2 : Addr} (n1 : D_by_nearness.P ≠ D__law_by.P) (n2 : D_by_nearness.P ≠ T2) (n3 : D__law_by.P ≠ T2) (D_goes_next : Df K mg "goes_next" (top 10) ["here", "goal", "tells"]) (D : Df K mg "way" (top 9) ["start", "goal", "tells"]) : FnOk P w K mg base CX0 7 D.f D.fd ["start", "goal", "tells"] (spWayS D_by_nearness.P D__law_by.P T2) := by
  have G_goes_next : FnOk P w K mg base CX0 6 _ _ _ _ := ok_goesS T hK D_far D_nearer D_by_nearness hB D__law_by hB1 n1 n2 n3 D_goes_next
  refine D.fn.ok sc_way (fun vs H Q E h => ?_) (fun cdv A outer s H vs Q E hr h => ?_)
  · obtain ⟨h, g, rm, f, fd, kd, la, L, pool, aw, kp, rfl, _⟩ := h
    rfl
  · obtain ⟨h, g, rm, f, fd, kd, la, L, pool, aw, kp, rfl, W, hR, hO, haw, hha, hg, hrm, k⟩ := h
    have hh := haw h hha
    refine ⟨_, (pss_cons (ps_set (i := 3) sc_way.nd rfl (Or.inl rfl) (pe_lst pa_nil))
      (pss_cons (ps_set (i := 4) sc_way.nd rfl (Or.inl rfl) (pv 0))
      (pss_cons (ps_while PassesOwn.never (pt_cmpR op_notN (pv 4) pe_non (nomark _))
       (pss_cons (ps_expr (pe_bm PySem.F.plainAttrs_list PySem.F.slot_list_append PySem.F.type_list_append mt_append (pv 3) (pa_cons (pv 4) pa_nil)))
        (pss_one (ps_set (i := 4) sc_way.nd rfl (Or.inl rfl) (pe_call G_goes_next (hr.mono (by decide)) rfl D_goes_next.hm D_goes_next.fn.kp D_goes_next.b .nil pass0 (pa_cons (pv 4) (pa_cons (pv 1) (pa_cons (pv 2) pa_nil))))))))
      (pss_one (ps_ret (pv 3)))))), ?_⟩
    walk_at "w"
    intro l hl
    have s0 : Same H (upd H l (.lst [])) := Same.new H hl
    have h9 := hO.le
    walk_at "w"
    refine ⟨fun m σ H2 => Hold (∃ (o : Option Int) (pre : List Int), σ = [some (.int h), some (.int g), some (.ref f), some (.ref l), some (ovI o)] ∧ Kz D_by_nearness.P D__law_by.P T2 exN H H2 ∧ H2 l = some (.lst (pre.map V.int)) ∧ (∀ n ∈ pre, n ∈ aw) ∧
        m = (match o with | none => 0 | some n => cnt pool g n + 1) ∧ pre.length + m ≤ 10 ∧ (∀ n, o = some n → n ∈ aw ∧ ∀ r, Chain (nxtS aw kp g rm.toNat) n r → Chain (nxtS aw kp g rm.toNat) h (pre ++ r)) ∧ (o = none → Chain (nxtS aw kp g rm.toNat) h pre)),
      ⟨_, ⟨some h, [], rfl, Kz.of W.tabs s0, upd_same, fun _ z => (nomatch z), rfl, by have := cnt_le (g := g) hh; simp; omega, fun n e => by cases e; exact ⟨hha, fun r z => z⟩, fun z => nomatch z⟩⟩, ?_⟩
    rintro m σ H2 ⟨o, pre, rfl, K2, hl2, hpre, rfl, hm, hs, hn⟩
    cases o with
    | none =>
      refine ⟨_, rfl, rfl, _, rfl, ?_⟩
      refine iteNS rfl ?_
      refine ⟨_, rfl, k l pre H2 K2 (hn rfl) (by omega) hl hl2⟩
    | some n =>
      obtain ⟨hnp, hch⟩ := hs n rfl
      have hm : pre.length + (cnt pool g n + 1) ≤ 10 := hm
      have hsz : (pre.map V.int).length < sizeLine := by rw [List.length_map]; exact small1000 (by omega)
      refine ⟨_, rfl, rfl, _, rfl, ?_⟩
      refine iteNF (fun z => nomatch z) ?_
      refine ⟨fun σ' H' => ∃ m', m' < cnt pool g n + 1 ∧ Hold (∃ (o : Option Int) (pre : List Int), σ' = [some (.int h), some (.int g), some (.ref f), some (.ref l), some (ovI o)] ∧ Kz D_by_nearness.P D__law_by.P T2 exN H H' ∧ H' l = some (.lst (pre.map V.int)) ∧ (∀ n ∈ pre, n ∈ aw) ∧
        m' = (match o with | none => 0 | some n => cnt pool g n + 1) ∧ pre.length + m' ≤ 10 ∧ (∀ n, o = some n → n ∈ aw ∧ ∀ r, Chain (nxtS aw kp g rm.toNat) n r → Chain (nxtS aw kp g rm.toNat) h (pre ++ r)) ∧ (o = none → Chain (nxtS aw kp g rm.toNat) h pre)), fun _ _ z => z, ?_⟩
      have K3 : Kz D_by_nearness.P D__law_by.P T2 exN H (upd H2 l (.lst (pre.map V.int ++ [ovI (some n)]))) := K2.put hl hl2
      have hl3 : upd H2 l (.lst (pre.map V.int ++ [ovI (some n)])) l = some (.lst ((pre ++ [n]).map V.int)) := by rw [upd_same]; simp [ovI]
      refine ⟨_, rfl, .inl ⟨rfl, _, SqL.of hl2⟩, _, rfl, l, _, _, rfl, rfl, hl2, hsz, ?_⟩
      generalize upd H2 l (.lst (pre.map V.int ++ [ovI (some n)])) = H3 at K3 hl3
      refine ⟨_, rfl, _, rfl, _, rfl, n, g, rm, f, fd, kd, la, L, pool, aw, kp, rfl, W.kz K3, hR, hO, haw, hnp, hg, hrm, fun H4 K34 => ?_⟩
      have hl4 : H4 l = some (.lst ((pre ++ [n]).map V.int)) := K34.k _ _ (fun _ z => nomatch z) hl3
      have hpre' : ∀ m ∈ pre ++ [n], m ∈ aw := snoc_all hpre hnp
      cases enx : nxtS aw kp g rm.toNat n with
      | none => exact ⟨0, by omega, ⟨none, pre ++ [n], rfl, K3.trans K34.kz, hl4, hpre', rfl, by simp; omega, ⟨fun _ z => (nomatch z), fun _ => hch _ (.last enx)⟩⟩⟩
      | some q =>
        obtain ⟨hqp, lt⟩ := nxtS_aw enx
        have hc := cnt_lt (haw q hqp) lt
        refine ⟨cnt pool g q + 1, by omega, ⟨some q, pre ++ [n], rfl, K3.trans K34.kz, hl4, hpre', rfl, by simp; omega, fun m e => ?_, fun z => nomatch z⟩⟩
        cases e
        refine ⟨hqp, fun r z => ?_⟩
        rw [List.append_assoc]
        exact hch _ (.step enx z)
end
section
variable {pool aw : List Int} {kp : Int → List Int} {g h n : Int} {rm : Nat}
theorem chainS_end (hg : 0 ≤ g) (hp : ∀ y ∈ pool, 0 ≤ y) (hK : Keeps pool rm kp) (haw : ∀ x ∈ aw, x ∈ pool) (hq : ∀ T : List Int, T.Nodup → (∀ t ∈ T, t ∈ pool ∧ ¬ t ∈ aw) → T.length < rm) (hn : n ∈ aw) (hbest : ∀ y ∈ aw, dx g n ≤ dx g y) {a : List Int} (x : Chain (nxtS aw kp g rm) h a) : h ∈ aw → a.getLast? = some n ∧ a.length ≤ mu h n + 1 := by
  induction x with
  | @last h e =>
    intro hh
    by_cases z : h = n
    · rw [z]
      exact ⟨rfl, by simp⟩
    · obtain ⟨p, e', _⟩ := nxtS_go hg hp hK haw hq hh hn hbest z
      rw [e] at e'
      cases e'
  | @step h p l e x ih =>
    intro hh
    by_cases z : h = n
    · rw [z, nxtS_end hbest] at e
      cases e
    · obtain ⟨p', e', hpp, hmu⟩ := nxtS_go hg hp hK haw hq hh hn hbest z
      rw [e] at e'
      cases e'
      obtain ⟨b1, b2⟩ := ih hpp
      refine ⟨?_, by rw [List.length_cons]; omega⟩
      cases l with
      | nil => cases b1
      | cons y r => rw [List.getLast?_cons_cons]; exact b1
end
theorem found_S {pool aw : List Int} {kp : Int → List Int} {st g rm : Int} {R : List Int} (hg : 0 ≤ g) (hO : KeepOk pool kp) (hrm : 0 < rm) (hrm12 : rm ≤ 12) (hK : Keeps pool rm.toNat kp) (haw : ∀ x ∈ aw, x ∈ pool) (hq : ∀ T : List Int, T.Nodup → (∀ t ∈ T, t ∈ pool ∧ ¬ t ∈ aw) → T.length < rm.toNat) (hst : st ∈ aw) (hR : Row (tlS aw kp g rm st) st g rm.toNat R) (hend : nextR (tlS aw kp g rm st) st g rm.toNat R = none) :
    (standR (tlS aw kp g rm st) st g rm.toNat R).take 1 = ((nearL g aw).filter fun n => !decide (n = st)).take 1 ∧ ∀ x ∈ standR (tlS aw kp g rm st) st g rm.toNat R, x ∈ (nearL g aw).filter fun n => !decide (n = st) := by
  have hP : PoolOk pool (tlS aw kp g rm st) := tlS_ok hO hrm12
  obtain ⟨hRp, hRn⟩ := hR.ok hP (haw st hst)
  refine found_first (R := R) hg hO.nn (by omega) hK haw hq hst (List.mem_of_getElem? hR.head) (fun h hh hha x hx => ?_) (seen_pool hP hRp) (fun x hx => ?_) fun x hx => ?_
  · unfold seenR
    refine List.mem_flatMap.mpr ⟨h, hh, ?_⟩
    unfold toldS
    rw [tlS_in hha]
    exact List.mem_filter.mpr ⟨hx, by simpa using (tell_sub hx).2⟩
  · unfold flR
    rw [Bool.not_eq_true', decide_eq_false_iff_not]
    intro z
    unfold quietR at z
    obtain ⟨_, z2⟩ := List.mem_filter.mp z
    rw [tlS_in hx] at z2
    cases z2
  · have h1 : x ∈ R := by
      have := List.find?_eq_none.mp hend x hx
      unfold unas at this
      simpa using this
    refine ⟨h1, ?_⟩
    have h2 := (stand_seen (tl := tlS aw kp g rm st) (st := st) (g := g) (rm := rm.toNat) (R := R) x hx).2
    by_cases z : x ∈ aw
    · exact z
    · exfalso
      unfold flR at h2
      rw [Bool.not_eq_true', decide_eq_false_iff_not] at h2
      refine h2 (List.mem_filter.mpr ⟨h1, ?_⟩)
      rw [tlS_not z]
      rfl
def spRightS (T0 T1 T2 : Addr) : Sp := fun vs H Q _ => ∃ (kd la : Addr) (z rm st g : Int) (L : Int → Addr) (pool aw : List Int) (kp : Int → List Int), vs = [.ref kd, .ref la, .int z, .int rm, .int st, .int g] ∧ ToldAt H kd L pool (tlK kp) ∧ H la = some (.lst (aw.map V.int)) ∧ KeepOk pool kp ∧ Keeps pool rm.toNat kp ∧ AwOk pool aw ∧ (∀ T : List Int, T.Nodup → (∀ t ∈ T, t ∈ pool ∧ ¬ t ∈ aw) → T.length < rm.toNat) ∧ (∀ y ∈ pool, y < 2 ^ z.toNat) ∧ st ∈ aw ∧ 0 ≤ g ∧ 1 ≤ rm ∧ rm ≤ 4 ∧ 1 ≤ z ∧ z ≤ 60 ∧ Tb T0 T1 T2 H ∧ ∀ H', Kz T0 T1 T2 exN H H' → Q (.bl true) H'
section
variable {P : Program} {w : World} {K : PySem.W.Frag} {mg : Str → Option Value} {base : Heap}
theorem sc_lright : FnScope ["_law_keeps", "_law_awake", "_law_wide_here", "_law_room", "_law_start", "_law_goal", "_law_tells", "_law_row", "_law_found", "_law_others", "_law_line"] ["_law_keeps", "_law_awake", "_law_wide_here", "_law_room", "_law_start", "_law_goal"] (defScope (top 20)) := ⟨rfl, rfl, rfl, by decide +kernel, rfl, by decide +kernel, by decide +kernel⟩
theorem ok_lrightS (T : Txt mg) (hK : K.In base) (D_far : Df K mg "far" (top 1) ["one", "other"]) (D_nearer : Df K mg "nearer" (top 2) ["goal", "one", "other"]) (D_by_nearness : DfF K mg "by_nearness" (top 3) ["goal", "names"]) (hB0 : base.BuiltinsAt mg D_by_nearness.P) (D_note_told : Df K mg "note_told" (top 6) ["seen", "start", "house", "told"]) (D_standing : Df K mg "standing" (top 7) ["seen", "goal", "room"]) (D_first_unasked : Df K mg "first_unasked" (top 8) ["names", "row"]) (D_asked : Df K mg "asked" (top 5) ["start", "goal", "room", "tells"]) (D_goes_next : Df K mg "goes_next" (top 10) ["here", "goal", "tells"]) (D_way : Df K mg "way" (top 9) ["start", "goal", "tells"]) (D__law_by : DfF K mg "_law_by" (top 17) ["_law_goal", "_law_names"]) (hB1 : base.BuiltinsAt mg D__law_by.P) (D : DfF K mg "_law_right" (top 20) ["_law_keeps", "_law_awake", "_law_wide_here", "_law_room", "_law_start", "_law_goal"]) (hB : base.BuiltinsAt mg D.P)
    (n1 : D_by_nearness.P ≠ D__law_by.P) (n2 : D_by_nearness.P ≠ D.P) (n3 : D__law_by.P ≠ D.P) : FnOk P w K mg base CX0 8 D.f D.fd ["_law_keeps", "_law_awake", "_law_wide_here", "_law_room", "_law_start", "_law_goal"] (spRightS D_by_nearness.P D__law_by.P D.P) := by
  have G_asked : FnOk P w K mg base CX0 7 _ _ _ _ := ok_askedS T hK D_far D_by_nearness hB0 D__law_by hB1 n1 n2 n3 D_note_told D_standing D_first_unasked D_asked
  have G_way : FnOk P w K mg base CX0 7 _ _ _ _ := ok_wayS T hK D_far D_nearer D_by_nearness hB0 D__law_by hB1 n1 n2 n3 D_goes_next D_way
  have G__law_by : FnOk P w K mg base CX0 4 _ _ _ _ := ok_lby T hK D__law_by hB1
  refine D.ok hK sc_lright (fz := ["_law_keeps", "_law_awake", "_law_room"]) (by decide +kernel) (fun vs H Q E h => ?_) (fun A outer s H vs Q E hr h H1 sm hcv hC => ?_)
  · obtain ⟨kd, la, z, rm, st, g, L, pool, aw, kp, rfl, _⟩ := h
    rfl
  · obtain ⟨kd, la, z, rm, st, g, L, pool, aw, kp, rfl, hT, hla, hO, hKe, hA, hq, hlt, hst, hg, hrm1, hrm4, hz1, hz60, hTb, k⟩ := h
    obtain ⟨c1, hc1, v1⟩ := hcv 0 "_law_keeps" (.ref kd) (by decide +kernel) rfl rfl
    obtain ⟨c3, hc3, v3⟩ := hcv 1 "_law_awake" (.ref la) (by decide +kernel) rfl rfl
    obtain ⟨c2, hc2, v2⟩ := hcv 3 "_law_room" (.int rm) (by decide +kernel) rfl rfl
    refine ⟨_, (pss_cons (ps_def (i := 6) sc_lright.nd rfl (Or.inl rfl) rfl hC hB (defFree_of (by kernel_rfl)))
      (pss_cons (ps_asg (pe_call G_asked (hr.mono (by decide)) rfl D_asked.hm D_asked.fn.kp D_asked.b .nil pass0 (pa_cons (pv 4) (pa_cons (pv 5) (pa_cons (pv 3) (pa_cons (pv 6) pa_nil))))) (pg_tup (n := 2) rfl (pgs_cons (pg_name (i := 7) sc_lright.nd rfl (Or.inl rfl)) (pgs_cons (pg_name (i := 8) sc_lright.nd rfl (Or.inl rfl)) pgs_nil))))
      (pss_cons (ps_set (i := 9) sc_lright.nd rfl (Or.inr rfl) (pe_comp rfl (compText_of (own := ["_law_name"]) (caps := [4]) (N' := ["_law_name", "_law_start"]) (by kernel_rfl)) (pi_list (pe_call G__law_by (hr.mono (by decide)) rfl D__law_by.hm D__law_by.kp D__law_by.b .nil pass0 (pa_cons (pv 5) (pa_cons (pv 1) pa_nil)))) (fun _ _ _ _ _ => (pg_name (i := 0) (show (["_law_name", "_law_start"] : List Str).Nodup by decide +kernel) rfl (Or.inl rfl))) (fun _ _ _ _ _ => (pts_one (pt_cmpR op_ne (pv 0) (pv 1) (nomark _)))) (fun _ _ _ _ _ => (pv 0))))
      (pss_cons (ps_if (PW.pt (pw_or (pt_cmpR (op_neL hr.units) (pe_slice sl_list (pv 8) po_none (po_some pe_int)) (pe_slice sl_list (pv 9) po_none (po_some pe_int)) (nomark _)) (pw_or1 (pt_not (pt_val (pe_callB (call_all rfl) rfl T.n_all bt_all (pa_cons (pe_comp rfl (compText_of (own := ["_law_name"]) (caps := [9]) (N' := ["_law_name", "_law_others"]) (by kernel_rfl)) (pi_list (pv 8)) (fun _ _ _ _ _ => (pg_name (i := 0) (show (["_law_name", "_law_others"] : List Str).Nodup by decide +kernel) rfl (Or.inl rfl))) (fun _ _ _ _ _ => pts_nil) (fun _ _ _ _ _ => (pe_cmpR (op_in_seqK (K := K) rfl) (pv 0) (pv 1) (by with_unfolding_all rfl)))) pa_nil)))))))
       (pss_one (ps_ret pe_bl))
       pss_nil)
      (pss_cons (ps_set (i := 10) sc_lright.nd rfl (Or.inl rfl) (pe_call G_way (hr.mono (by decide)) rfl D_way.hm D_way.fn.kp D_way.b .nil pass0 (pa_cons (pv 4) (pa_cons (pv 5) (pa_cons (pv 6) pa_nil)))))
      (pss_one (ps_ret (pe_and (pe_cmpR op_eq (pe_ix ix_list (pv 10) pe_int (fun _ _ => rfl)) (pv 4) (nomark _)) (pe_and (pe_cmpR op_eq (pe_ix ix_list (pv 10) (pe_un un_neg pe_int) (fun _ _ => rfl)) (pe_ix ix_list (pe_call G__law_by (hr.mono (by decide)) rfl D__law_by.hm D__law_by.kp D__law_by.b .nil pass0 (pa_cons (pv 5) (pa_cons (pv 1) pa_nil))) pe_int (fun _ _ => rfl)) (nomark _)) (pe_one (pe_cmpR op_le (pe_callB call_len_seq rfl T.n_len bt_len (pa_cons (pv 10) pa_nil)) (pe_op op_add (pv 2) pe_int) (nomark _)))))))))))), ?_⟩
    have Tb1 := hTb.same sm
    refine tDef_of Tb1.t2 fun f H3 fo clos c' oc k1 k2 hb hT' hf hf' sh hc' cs => ?_
    have nfz : ∀ {q : Addr} {o : Obj} {u : HO}, H1 q = some (.frz o u) → q ≠ D.P := fun {q o u} e z => by
      obtain ⟨ps, hP⟩ := Tb1.t2.is
      rw [z, hP] at e
      cases e
    have keep : ∀ c v, CellV H1 c v → CellV H3 c v := fun c v hv => hv.same fun o k e => hb c _ (nfz e) e
    obtain ⟨fd, hd, hR, hF⟩ := funv_of (qual := quT) (params := defArgs stT) (body := defBody stT) (scope := defScope stT) (fr := ["_law_awake", "_law_room", "_law_keeps"]) (cv := [.ref la, .int rm, .ref kd]) sh hf' hc' cs (fun i x v h1 h2 => by
      match i, h1, h2 with
      | 0, h1, h2 =>
        cases h1
        cases h2
        exact ⟨by decide +kernel, c3, hc3, keep _ _ v3⟩
      | 1, h1, h2 =>
        cases h1
        cases h2
        exact ⟨by decide +kernel, c2, hc2, keep _ _ v2⟩
      | 2, h1, h2 =>
        cases h1
        cases h2
        exact ⟨by decide +kernel, c1, hc1, keep _ _ v1⟩)
    have K3 : Kz D_by_nearness.P D__law_by.P D.P exN H H3 := (Kz.of hTb sm).trans (Kz.by2 n2 n3 Tb1 hb hT')
    have W3 : TelS D_by_nearness.P D__law_by.P D.P kd la L pool aw kp rm f fd H3 := ⟨hT.kz K3 (exN_no _) fun _ _ _ => exN_no _, K3.lst (exN_no _) hla, hF, K3.t⟩
    clear hb hT' hf hf' sh hc' cs keep nfz v1 v2 v3 hcv
    have h10 : aw.length ≤ 10 := Nat.le_trans (len_sub hA.nd hA.sub) hO.le
    refine ⟨_, rfl, _, rfl, _, rfl, _, rfl, st, g, rm, f, fd, kd, la, L, pool, aw, kp, rfl, W3, hR, hO, hA.sub st hst, hst, hg, by omega, by omega, fun t rl fl R H4 hRow hend K34 ht4 hfl4 => ?_⟩
    obtain ⟨hF1, hF2⟩ := found_S hg hO (by omega) (by omega) hKe hA.sub hq hst hRow hend
    have hfl4l : (standR (tlS aw kp g rm st) st g rm.toNat R).length ≤ 4 := by
      have := List.length_take_le rm.toNat ((nearL g (seenR (tlS aw kp g rm st) st R)).filter (flR (tlS aw kp g rm st) R))
      unfold standR
      omega
    generalize standR (tlS aw kp g rm st) st g rm.toNat R = found at hfl4 hF1 hF2 hfl4l
    have K4 := K3.trans K34
    have hla4 := K4.lst (exN_no _) hla
    have honce : (onceI aw).length < 64 := Nat.lt_of_le_of_lt (onceI_len aw) (by omega)
    have hnn : ∀ n ∈ aw, 0 ≤ n := fun n hn => hO.nn n (hA.sub n hn)
    have hT4 := K4.t.t1
    have hnl := nearL_len g aw
    walk_at "w"
    intro l H5 kp5 hT5 hl hl5
    have K5 : Kz D_by_nearness.P D__law_by.P D.P exN H H5 := K4.trans (Kz.by1 n1 n3 K4.t kp5 hT5)
    have hfl5 := (Kz.by1 (ex := exN) n1 n3 K4.t kp5 hT5).lst (exN_no _) hfl4
    refine ⟨l, rfl, ⟨_, SqL.of hl5⟩, fun Dl hDl => ?_⟩
    refine comp_filter (fun n => !decide (n = st)) hDl (SqL.of hl5) (by omega) (fun x hx H' Qt s q' => ?_) fun H6 s6 hD6 => ?_
    · refine ⟨_, rfl, _, rfl, rfl, _, rfl, ?_⟩
      rw [vint_dec]
      exact q' H' (Same.refl H')
    obtain ⟨oth, hoth⟩ : ∃ oth, ((nearL g aw).filter fun n => !decide (n = st)) = oth := ⟨_, rfl⟩
    rw [hoth] at hF1 hF2 hD6
    have hfl6 := s6 _ _ hfl5
    have K6 := K5.same s6
    walk_at "w"
    rw [cut_take _ (show (0 : Int) ≤ 1 by decide)]
    intro q1 hq1
    have s7 : Same H6 (upd H6 q1 (.lst ((found.take (1 : Int).toNat).map V.int))) := Same.new H6 hq1
    have e7 : upd H6 q1 (.lst ((found.take (1 : Int).toNat).map V.int)) q1 = some (.lst ((found.take 1).map V.int)) := upd_same
    generalize upd H6 q1 (.lst ((found.take (1 : Int).toNat).map V.int)) = H7 at s7 e7
    have hD7 := s7 _ _ hD6
    walk_at "w"
    rw [cut_take _ (show (0 : Int) ≤ 1 by decide)]
    intro q2 hq2
    have s8 : Same H7 (upd H7 q2 (.lst ((oth.take (1 : Int).toNat).map V.int))) := Same.new H7 hq2
    have e8 : upd H7 q2 (.lst ((oth.take (1 : Int).toNat).map V.int)) q2 = some (.lst ((oth.take 1).map V.int)) := upd_same
    generalize upd H7 q2 (.lst ((oth.take (1 : Int).toNat).map V.int)) = H8 at s8 e8
    have e78 := s8 _ _ e7
    have hD8 := s8 _ _ hD7
    have hfl8 := s8 _ _ (s7 _ _ hfl6)
    have K8 := (K6.same s7).same s8
    refine ⟨q1, q2, _, _, rfl, rfl, SqL.of e78, SqL.of e8, _, rfl, ?_⟩
    show if (!decide (found.take 1 = oth.take 1)) = true then _ else _
    refine iteNS hF1 ?_
    have hflat := flat_ints oth
    walk_at "w"
    intro Da hDa
    refine comp_list (xs := found.map V.int) (fun j σ H' => Hold (∃ v0 : Option V, σ = [v0, some (.ref Dl)] ∧ Same H8 H' ∧ H' Da = some (.lst ((List.replicate j true).map V.bl)))) ⟨⟨none, rfl, Same.new H8 hDa, upd_same⟩⟩ (fun j σ H' _ ⟨_, _, s, _⟩ => SqL.of (s _ _ hfl8)) ?_ ?_
    · rintro j x σ H' hj ⟨v0, rfl, s, hD⟩
      obtain ⟨x, hx, rfl⟩ := map_get hj
      have hjl : j < found.length := (List.getElem?_eq_some_iff.mp hx).1
      have hDl' := s _ _ hD8
      have hxo := hF2 x (List.mem_of_getElem? hx)
      have hsz : ((List.replicate j true).map V.bl).length < sizeLine := by rw [List.length_map, List.length_replicate]; exact small1000 (by omega)
      walk_at "w"
      refine ⟨⟨_, rfl, s.put hDa, ?_⟩⟩
      rw [upd_same, List.replicate_succ']
      have : inV (V.int x) (oth.map V.int) = true := by rw [inV_int]; exact decide_eq_true hxo
      simp [this]
    rintro σ H9 ⟨v0, rfl, s9, hD9⟩
    refine ⟨Da, _, rfl, SqL.of hD9, ?_⟩
    have etr : (List.replicate (found.map V.int).length true).all id = true := by
      rw [List.all_eq_true]
      intro x hx
      rw [(List.mem_replicate.mp hx).2]
      rfl
    rw [etr]
    have hrm0 : 0 ≤ rm := by omega
    have K9 := K8.same s9
    have W9 : TelS D_by_nearness.P D__law_by.P D.P kd la L pool aw kp rm f fd H9 := W3.kz (K34.trans ((((((Kz.by1 n1 n3 K4.t kp5 hT5).same s6).same s7).same s8)).same s9))
    walk_at "w"
    refine ⟨hA.sub, hst, hg, hrm0, fun ln a H10 K910 hch ha10 hln hln10 => ?_⟩
    have K10 := K9.trans K910
    obtain ⟨nb, rb, hnb⟩ : ∃ nb rb, nearL g aw = nb :: rb := by
      cases e : nearL g aw with
      | nil =>
        have := nearL_mem (g := g).mpr hst
        rw [e] at this
        cases this
      | cons x r => exact ⟨x, r, rfl⟩
    have hnbp : nb ∈ aw := nearL_mem (g := g).mp (by rw [hnb]; exact List.mem_cons_self ..)
    have hbest : ∀ y ∈ aw, dx g nb ≤ dx g y := fun y hy => by
      have hs := nearL_lt (ns := aw) hg hnn
      have hm := nearL_mem (g := g).mpr hy
      rw [hnb] at hs hm
      rcases List.mem_cons.mp hm with z | z
      · rw [z]; exact Int.le_refl _
      · have := (List.pairwise_cons.mp hs).1 y z
        omega
    obtain ⟨hlast, halen⟩ := chainS_end hg hO.nn hKe hA.sub hq hnbp hbest hch hst
    have hmu : mu st nb ≤ z.toNat := by
      unfold mu
      split
      · omega
      · rename_i hne
        have h1 := hnn st hst
        have h2 := hnn nb hnbp
        have h3 := hlt st (hA.sub st hst)
        have h4 := hlt nb (hA.sub nb hnbp)
        have c : ((2 ^ z.toNat : Nat) : Int) = 2 ^ z.toNat := by simp
        have := log2_lt (a := st.toNat) (b := nb.toNat) (w := z.toNat) (by omega) (by omega) (by omega)
        unfold St
        omega
    obtain ⟨ra, hra⟩ : ∃ r, a = st :: r := by
      have := hch.ne
      cases a with
      | nil => cases this
      | cons x r => cases this; exact ⟨r, rfl⟩
    have hat0 : atI (a.map V.int) 0 = some (V.int st) := by rw [hra]; exact atI_zero _ _
    have hatl : atI (a.map V.int) (-1) = some (V.int nb) := by
      rw [List.getLast?_eq_getElem?] at hlast
      have hpos : 0 < a.length := by rw [hra]; simp
      unfold atI ixN
      rw [if_neg (by decide), if_pos (by simp; omega)]
      have e : (-1 + ((a.map V.int).length : Int)).toNat = a.length - 1 := by rw [List.length_map]; omega
      rw [Option.bind_some, e, List.getElem?_map, hlast]
      rfl
    have hla10 := K10.lst (exN_no _) hla
    have hT10 := K10.t.t1
    walk_at "w"
    refine iteD rfl ?_
    walk_at "w"
    intro l2 H11 kp11 hT11 hl2 hl11
    have K1011 : Kz D_by_nearness.P D__law_by.P D.P exN H10 H11 := Kz.by1 n1 n3 K10.t kp11 hT11
    have K11 := K10.trans K1011
    have hln11 := K1011.lst (exN_no _) hln10
    have hatb : atI ((nearL g aw).map V.int) 0 = some (V.int nb) := by rw [hnb]; exact atI_zero _ _
    walk_at "w"
    refine iteD rfl ?_
    walk_at "w"
    have hle : ((a.map V.int).length : Int) ≤ z + 1 := by rw [List.length_map]; omega
    show Q (V.bl (decide (((a.map V.int).length : Int) ≤ z + 1))) H11
    rw [decide_eq_true hle]
    exact k H11 K11
end
def spMixed : Sp := fun vs H Q _ => ∃ c k : Int, vs = [.int c, .int k] ∧ 0 ≤ k ∧ k ≤ 1000 ∧ ∀ m : Int, 0 ≤ m → m < 2147483647 → Q (.int m) H
def spWide : Sp := fun vs H Q _ => ∃ c : Int, vs = [.int c] ∧ 0 ≤ c ∧ ∀ (z : Int) (H' : Hp), 1 ≤ z → z ≤ 60 → Same H H' → Q (.int z) H'
def spLnear : Sp := fun vs H Q _ => ∃ s z f : Int, vs = [.int s, .int z, .int f] ∧ 0 ≤ s ∧ 0 ≤ f ∧ 1 ≤ z ∧ z ≤ 60 ∧ ∀ m : Int, 0 ≤ m → m < 2 ^ z.toNat → Q (.int m) H
def spPool : Sp := fun vs H Q _ => ∃ c z m : Int, vs = [.int c, .int z, .int m] ∧ 0 ≤ c ∧ 1 ≤ z ∧ z ≤ 60 ∧ 1 ≤ m ∧ m ≤ 10 ∧
  ∀ (ns : List Int) (p : Addr) (H' : Hp), ns.Nodup → (ns.length : Int) ≤ m → 1 ≤ ns.length → (∀ y ∈ ns, 0 ≤ y ∧ y < 2 ^ z.toNat) → Same H H' → H p = none → H' p = some (.lst (ns.map V.int)) → Q (.ref p) H'
section
variable {P : Program} {w : World} {K : PySem.W.Frag} {mg : Str → Option Value} {base : Heap}
theorem sc_lmixed : FnScope ["_law_cell", "_law_k"] ["_law_cell", "_law_k"] (defScope (top 12)) := ⟨rfl, rfl, rfl, by decide +kernel, rfl, by decide +kernel, by decide +kernel⟩
theorem ok_lmixed (D : Df K mg "_law_mixed" (top 12) ["_law_cell", "_law_k"]) : FnOk P w K mg base CX0 1 D.f D.fd ["_law_cell", "_law_k"] spMixed := by
  refine D.fn.ok sc_lmixed (fun vs H Q E h => ?_) (fun cdv A outer s H vs Q E hr h => ?_)
  · obtain ⟨c, i, rfl, _⟩ := h
    rfl
  · obtain ⟨c, i, rfl, hi0, hi1, k⟩ := h
    refine ⟨_, (pss_one (ps_ret (pe_op op_fdiv (pe_op op_mod (pe_op op_add (pe_op op_add (pe_op op_add (pe_op op_mul (pe_op op_mod (pv 0) pe_int) pe_int) (pe_op op_mul (pe_op op_mul pe_int (pv 1)) (pv 1))) (pe_op op_mul pe_int (pv 1))) pe_int) pe_int) pe_int))), ?_⟩
    walk_at "w"
    refine k _ ?_ ?_
    · omega
    · omega
theorem sc_lwide : FnScope ["_law_cell"] ["_law_cell"] (defScope (top 14)) := ⟨rfl, rfl, rfl, by decide +kernel, rfl, by decide +kernel, by decide +kernel⟩
theorem ok_lwide (D : Df K mg "_law_wide" (top 14) ["_law_cell"]) : FnOk P w K mg base CX0 1 D.f D.fd ["_law_cell"] spWide := by
  refine D.fn.ok sc_lwide (fun vs H Q E h => ?_) (fun cdv A outer s H vs Q E hr h => ?_)
  · obtain ⟨c, rfl, _⟩ := h
    rfl
  · obtain ⟨c, rfl, hc, k⟩ := h
    refine ⟨_, (pss_one (ps_ret (pe_ix ix_list (pe_lst (pa_cons (pe_op op_add pe_int (pe_op op_mod (pe_op op_fdiv (pv 0) pe_int) pe_int)) (pa_cons (pe_op op_add pe_int (pe_op op_mod (pe_op op_fdiv (pv 0) pe_int) pe_int)) (pa_cons pe_int (pa_cons (pe_op op_add pe_int (pe_op op_mod (pe_op op_fdiv (pv 0) pe_int) pe_int)) pa_nil))))) (pe_op op_mod (pv 0) pe_int) (fun _ _ => rfl)))), ?_⟩
    obtain ⟨z, hz1, hz2, hat⟩ : ∃ z, 1 ≤ z ∧ z ≤ 60 ∧ atI [V.int (1 + c / 4 % 60), V.int (3 + c / 4 % 4), V.int 4, V.int (1 + c / 4 % 8)] (c % 4) = some (V.int z) := by
      have h4 : c % 4 = 0 ∨ c % 4 = 1 ∨ c % 4 = 2 ∨ c % 4 = 3 := by omega
      rcases h4 with h | h | h | h
      · exact ⟨1 + c / 4 % 60, by omega, by omega, by rw [h]; rfl⟩
      · exact ⟨3 + c / 4 % 4, by omega, by omega, by rw [h]; rfl⟩
      · exact ⟨4, by omega, by omega, by rw [h]; rfl⟩
      · exact ⟨1 + c / 4 % 8, by omega, by omega, by rw [h]; rfl⟩
    walk_at "w"
    intro p hp
    walk_at "w"
    exact k z _ hz1 hz2 (Same.new H hp)
theorem sc_lnear : FnScope ["_law_signs", "_law_wide_here", "_law_first"] ["_law_signs", "_law_wide_here", "_law_first"] (defScope (top 15)) := ⟨rfl, rfl, rfl, by decide +kernel, rfl, by decide +kernel, by decide +kernel⟩
theorem ok_lnear (D : Df K mg "_law_near" (top 15) ["_law_signs", "_law_wide_here", "_law_first"]) : FnOk P w K mg base CX0 1 D.f D.fd ["_law_signs", "_law_wide_here", "_law_first"] spLnear := by
  refine D.fn.ok sc_lnear (fun vs H Q E h => ?_) (fun cdv A outer s H vs Q E hr h => ?_)
  · obtain ⟨s, z, f, rfl, _⟩ := h
    rfl
  · obtain ⟨c, z, f, rfl, hc, hf, hz1, hz2, k⟩ := h
    refine ⟨_, (pss_cons (ps_if (pt_cmpR op_eq (pe_op op_mod (pv 0) pe_int) pe_int (nomark _))
       (pss_one (ps_ret (pe_op op_mod (pe_op op_fdiv (pv 0) pe_int) (pe_op op_shl pe_int (pv 1)))))
       pss_nil)
      (pss_one (ps_ret (pe_op op_mod (pe_op op_xor (pv 2) (pe_op op_mod (pe_op op_fdiv (pv 0) pe_int) pe_int)) (pe_op op_shl pe_int (pv 1)))))), ?_⟩
    have hp : (0 : Int) < 1 * 2 ^ z.toNat := by rw [Int.one_mul]; exact two_pow_pos _
    have hnn : ∀ x : Int, 0 ≤ x % (1 * 2 ^ z.toNat) := fun x => Int.emod_nonneg _ (Int.ne_of_gt hp)
    have hlt : ∀ x : Int, x % (1 * 2 ^ z.toNat) < 2 ^ z.toNat := fun x => by
      have := Int.emod_lt_of_pos x hp
      rw [Int.one_mul] at this ⊢
      exact this
    walk_at "w"
    refine ite2 (fun _ => ?_) (fun _ => ?_)
    · walk_at "w"
      exact k _ (hnn _) (hlt _)
    · walk_at "w"
      exact k _ (hnn _) (hlt _)
theorem sc_lpool : FnScope ["_law_cell", "_law_wide_here", "_law_many", "_law_pool_here", "_law_signs", "_law_k", "_law_name"] ["_law_cell", "_law_wide_here", "_law_many"] (defScope (top 16)) := ⟨rfl, rfl, rfl, by decide +kernel, rfl, by decide +kernel, by decide +kernel⟩
theorem ok_lpool (T : Txt mg) (D__law_mixed : Df K mg "_law_mixed" (top 12) ["_law_cell", "_law_k"]) (D__law_near : Df K mg "_law_near" (top 15) ["_law_signs", "_law_wide_here", "_law_first"]) (D : Df K mg "_law_pool" (top 16) ["_law_cell", "_law_wide_here", "_law_many"]) : FnOk P w K mg base CX0 2 D.f D.fd ["_law_cell", "_law_wide_here", "_law_many"] spPool := by
  have G__law_mixed : FnOk P w K mg base CX0 1 _ _ _ _ := ok_lmixed D__law_mixed
  have G__law_near : FnOk P w K mg base CX0 1 _ _ _ _ := ok_lnear D__law_near
  refine D.fn.ok sc_lpool (fun vs H Q E h => ?_) (fun cdv A outer s H vs Q E hr h => ?_)
  · obtain ⟨c, z, m, rfl, _⟩ := h
    rfl
  · obtain ⟨c, z, m, rfl, hc, hz1, hz2, hm1, hm2, k⟩ := h
    refine ⟨_, (pss_cons (ps_set (i := 3) sc_lpool.nd rfl (Or.inl rfl) (pe_lst pa_nil))
      (pss_cons (ps_set (i := 4) sc_lpool.nd rfl (Or.inl rfl) (pv 0))
      (pss_cons (ps_for PassesOwn.never rfl (pi_range1 rfl T.n_range (pa_cons (pv 2) pa_nil)) (pg_name (i := 5) sc_lpool.nd rfl (Or.inl rfl))
       (pss_cons (ps_set (i := 6) sc_lpool.nd rfl (Or.inl rfl) (pe_call G__law_near (hr.mono (by decide)) rfl D__law_near.hm D__law_near.fn.kp D__law_near.b .nil pass0 (pa_cons (pv 4) (pa_cons (pv 1) (pa_cons (pe_callB (call_sum rfl) rfl T.n_sum bt_sum (pa_cons (pe_slice sl_list (pv 3) po_none (po_some pe_int)) pa_nil)) pa_nil)))))
        (pss_consM (ps_if (pt_cmpR op_eq (pe_op op_mod (pe_op op_fdiv (pv 0) pe_int) pe_int) pe_int (nomark _))
         (pss_one (ps_set (i := 6) sc_lpool.nd rfl (Or.inl rfl) (pe_call G__law_near (hr.mono (by decide)) rfl D__law_near.hm D__law_near.fn.kp D__law_near.b .nil pass0 (pa_cons (pe_op op_mul (pe_call G__law_mixed (hr.mono (by decide)) rfl D__law_mixed.hm D__law_mixed.fn.kp D__law_mixed.b .nil pass0 (pa_cons (pv 4) (pa_cons (pv 5) pa_nil))) (pe_call G__law_mixed (hr.mono (by decide)) rfl D__law_mixed.hm D__law_mixed.fn.kp D__law_mixed.b .nil pass0 (pa_cons (pv 4) (pa_cons (pe_op op_add (pv 5) pe_int) pa_nil)))) (pa_cons (pv 1) (pa_cons (pe_callB (call_sum rfl) rfl T.n_sum bt_sum (pa_cons (pe_slice sl_list (pv 3) po_none (po_some pe_int)) pa_nil)) pa_nil))))))
         pss_nil)
        (pss_cons (ps_if (pt_cmpR op_notIn_seq (pv 6) (pv 3) (by with_unfolding_all rfl))
         (pss_one (ps_expr (pe_bm PySem.F.plainAttrs_list PySem.F.slot_list_append PySem.F.type_list_append mt_append (pv 3) (pa_cons (pv 6) pa_nil))))
         pss_nil)
        (pss_one (ps_set (i := 4) sc_lpool.nd rfl (Or.inl rfl) (pe_op op_fdiv (pv 4) (pe_ix ix_list (pe_lst (pa_cons pe_int (pa_cons pe_int pa_nil))) (pe_op op_mod (pe_op op_fdiv (pv 0) pe_int) pe_int) (fun _ _ => rfl)))))))))
      (pss_one (ps_ret (pv 3)))))), ?_⟩
    walk_at "w"
    intro p hp
    walk_at "w"
    refine for_range (n := m.toNat) (fun i σ H2 => Hold (∃ (s : Int) (v5 v6 : _) (ns : List Int), σ = [some (.int c), some (.int z), some (.int m), some (.ref p), some (.int s), v5, v6] ∧ 0 ≤ s ∧ ns.Nodup ∧ ns.length ≤ i ∧ (0 < i → 1 ≤ ns.length) ∧ (∀ y ∈ ns, 0 ≤ y ∧ y < 2 ^ z.toNat) ∧ Same H H2 ∧ H2 p = some (.lst (ns.map V.int))))
      ⟨⟨c, none, none, [], rfl, hc, List.nodup_nil, Nat.le_refl 0, fun z => absurd z (Nat.lt_irrefl 0), fun _ h => (nomatch h), Same.new H hp, upd_same⟩⟩ ?_ ?_
    · rintro i σ H2 hi ⟨sg, v5, v6, ns, rfl, hs0, hnd, hl, h1, hnn, s2, hp2⟩
      have hsz : (ns.map V.int).length < sizeLine := by rw [List.length_map]; exact small1000 (by omega)
      obtain ⟨t0, et0, _, ht0⟩ := cut_sub ns none (some 1)
      have hsum : 0 ≤ t0.sum := sum_nn fun x hx => (hnn x (ht0 x hx)).1
      obtain ⟨d, hd0, hd1, hatd⟩ : ∃ d, 0 < d ∧ d < 1073741824 ∧ atI [V.int 32, V.int 1] (c / 2 % 2) = some (V.int d) := by
        have h2 : c / 2 % 2 = 0 ∨ c / 2 % 2 = 1 := by omega
        rcases h2 with h2 | h2
        · exact ⟨32, by decide, by decide, by rw [h2]; rfl⟩
        · exact ⟨1, by decide, by decide, by rw [h2]; rfl⟩
      have hsd : 0 ≤ sg / d := Int.ediv_nonneg hs0 (by omega)
      walk_at "w"
      rw [et0]
      intro q1 hq1
      walk_at "w"
      intro n0 hn0 hn0'
      have s3 : Same H2 (upd H2 q1 (.lst (t0.map V.int))) := Same.new H2 hq1
      have hp3 := s3 _ _ hp2
      generalize upd H2 q1 (.lst (t0.map V.int)) = H3 at s3 hp3
      walk_at "w"
      refine mid (fun σ H4 => Hold (∃ n : Int, σ = [some (.int c), some (.int z), some (.int m), some (.ref p), some (.int sg), some (.int (0 + i)), some (.int n)] ∧ 0 ≤ n ∧ n < 2 ^ z.toNat ∧ Same H2 H4)) ?_ (fun U hU => ?_)
      · rintro σ H4 ⟨n, rfl, hn, hn', s4⟩
        have hp4 := s4 _ _ hp2
        have s04 := s2.trans s4
        have hflat := flat_ints ns
        walk_at "w"
        show if (!inV (V.int n) (ns.map V.int)) = true then _ else _
        rw [inV_int]
        by_cases hxm : n ∈ ns
        · refine iteNS hxm ?_
          walk_at "w"
          intro q2 hq2
          walk_at "w"
          exact ⟨⟨_, _, _, ns, rfl, hsd, hnd, by omega, fun _ => by cases ns with | nil => cases hxm | cons => simp, hnn, s04.trans (Same.new H4 hq2), by rw [upd_ne (ne_of_none hp4 hq2)]; exact hp4⟩⟩
        · refine iteNF hxm ?_
          walk_at "w"
          intro q2 hq2
          have s5 := s04.put (o := .lst (ns.map V.int ++ [V.int n])) hp
          walk_at "w"
          refine ⟨⟨_, _, _, ns ++ [n], rfl, hsd, insert_nodup hnd hxm, by simp; omega, fun _ => by simp, snoc_all hnn ⟨hn, hn'⟩, s5.trans (Same.new _ hq2), ?_⟩⟩
          rw [upd_ne (ne_of_none upd_same hq2), upd_same]
          simp
      · walk_at "w"
        refine ite2 (fun _ => ?_) (fun _ => ?_)
        · walk_at "w"
          intro m1 hm1 hm1'
          walk_at "w"
          intro m2 hm2 hm2'
          have hmm : 0 ≤ m1 * m2 := Int.mul_nonneg hm1 hm2
          walk_at "w"
          rw [et0]
          intro q2 hq2
          walk_at "w"
          intro n1 hn1 hn1'
          exact hU _ _ ⟨⟨n1, rfl, hn1, hn1', s3.trans (Same.new H3 hq2)⟩⟩
        · exact hU _ _ ⟨⟨n0, rfl, hn0, hn0', s3⟩⟩
    · rintro σ H2 ⟨s, v5, v6, ns, rfl, hs0, hnd, hl, h1, hnn, s2, hp2⟩
      walk_at "w"
      exact k ns p H2 hnd (by omega) (h1 (by omega)) hnn s2 hp hp2
end
def spLstepK : Sp := fun vs H Q _ => ∃ a b : Int, vs = [.int a, .int b] ∧ 0 ≤ a ∧ 0 ≤ b ∧ a ≠ b ∧ Q (.int (St a b : Nat)) H
section
variable {P : Program} {w : World} {K : PySem.W.Frag} {mg : Str → Option Value} {base : Heap}
theorem sc_lstep : FnScope ["_law_one", "_law_other", "_law_k"] ["_law_one", "_law_other"] (defScope (top 18)) := ⟨rfl, rfl, rfl, by decide +kernel, rfl, by decide +kernel, by decide +kernel⟩
theorem ok_lstepK (D : Df K mg "_law_step" (top 18) ["_law_one", "_law_other"]) : FnOk P w K mg base CX0 1 D.f D.fd ["_law_one", "_law_other"] spLstepK := by
  refine D.fn.ok sc_lstep (fun vs H Q E h => ?_) (fun cdv A outer s H vs Q E hr h => ?_)
  · obtain ⟨a, b, rfl, _⟩ := h
    rfl
  · obtain ⟨a, b, rfl, ha, hb, hne, k⟩ := h
    refine ⟨_, (pss_cons (ps_set (i := 2) sc_lstep.nd rfl (Or.inl rfl) pe_int)
      (pss_cons (ps_while PassesOwn.never (pt_cmpR op_gt (pe_op op_shr (pe_op op_xor (pv 0) (pv 1)) (pv 2)) pe_int (nomark _))
       (pss_one (ps_set (i := 2) sc_lstep.nd rfl (Or.inl rfl) (pe_op op_add (pv 2) pe_int))))
      (pss_one (ps_ret (pv 2))))), ?_⟩
    obtain ⟨X, hX⟩ : ∃ X : Nat, a.toNat ^^^ b.toNat = X := ⟨_, rfl⟩
    have hX0 : X ≠ 0 := fun z => hne (by
      have := (xor_eq_zero _ _).mp (hX.trans z)
      omega)
    have ebx : Builtin.bitXor a b = (X : Int) := by rw [bx ha hb, hX]
    have esh : ∀ j : Nat, Builtin.bitXor a b / 2 ^ (j : Int).toNat = ((X / 2 ^ j : Nat) : Int) := fun j => by
      rw [ebx, Int.toNat_natCast, Int.natCast_ediv]
      simp
    walk_at "w"
    refine ⟨fun m σ H2 => Hold (∃ j : Nat, σ = [some (.int a), some (.int b), some (.int j)] ∧ m = X / 2 ^ j ∧ H2 = H ∧ (j = 0 ∨ 1 < X / 2 ^ (j - 1))), ⟨_, ⟨0, rfl, rfl, rfl, .inl rfl⟩⟩, ?_⟩
    rintro m σ H2 ⟨j, rfl, rfl, rfl, hj⟩
    have hj0 : (0 : Int) ≤ (j : Int) := by omega
    walk_at "w"
    show if decide (1 < Builtin.bitXor a b / 2 ^ (j : Int).toNat) = true then _ else _
    rw [esh]
    by_cases h1 : 1 < X / 2 ^ j
    · refine iteD (by omega) ?_
      refine ⟨fun σ' H' => ∃ m', m' < X / 2 ^ j ∧ Hold (∃ j : Nat, σ' = [some (.int a), some (.int b), some (.int j)] ∧ m' = X / 2 ^ j ∧ H' = H2 ∧ (j = 0 ∨ 1 < X / 2 ^ (j - 1))), fun _ _ z => z, ?_⟩
      refine ⟨_, rfl, _, _, rfl, rfl, ?_⟩
      refine ⟨X / 2 ^ (j + 1), ?_, ⟨j + 1, rfl, rfl, rfl, .inr h1⟩⟩
      rw [div_pow_succ]
      omega
    · refine iteDn (by omega) ?_
      have h2 : X / 2 ^ j = 1 := by
        rcases hj with z | z
        · subst z
          simp at h1 ⊢
          omega
        · obtain ⟨i, rfl⟩ : ∃ i, j = i + 1 := by
            cases j with
            | zero => simp at z h1; omega
            | succ i => exact ⟨i, rfl⟩
          rw [Nat.add_sub_cancel] at z
          have e := div_pow_succ X i
          omega
      have e : St a b = j := by
        unfold St
        rw [hX]
        exact (log2_iff hX0).mpr h2
      rw [e] at k
      exact ⟨_, rfl, k⟩
end
theorem erase_perm {α : Type} : ∀ {l : List α} {i : Nat} (h : i < l.length), (l[i] :: l.eraseIdx i).Perm l
  | [], _, h => absurd h (Nat.not_lt_zero _)
  | a :: l, 0, _ => List.Perm.refl _
  | a :: l, i + 1, h => (List.Perm.swap a (l[i]'(Nat.lt_of_succ_lt_succ h)) (l.eraseIdx i)).trans ((erase_perm (Nat.lt_of_succ_lt_succ h)).cons a)
theorem erase_map {α β : Type} (f : α → β) : ∀ (l : List α) (i : Nat), (l.map f).eraseIdx i = (l.eraseIdx i).map f
  | [], _ => rfl
  | _ :: _, 0 => rfl
  | a :: l, i + 1 => congrArg (f a :: ·) (erase_map f l i)
def spanL (h k : Int) (ns : List Int) : List Int := ns.filter fun n => !decide (n = h) && decide ((St h n : Int) = k)
theorem kvs_put {L L' : Int → Addr} {tl tl' : Int → Option (List Int)} {ks : List Int} {k : Int} {v : V} (hk : k ∈ ks) (hv : tv L' tl' k = v) (ho : ∀ m ∈ ks, m ≠ k → tv L' tl' m = tv L tl m) : putK (kvsOf L tl ks) (Sum.inl k) v = kvsOf L' tl' ks := by
  have hin : ((kvsOf L tl ks).any fun kv => decide (kv.1 = (Sum.inl k : Key))) = true := by rw [valV_any, kvs_val hk]; rfl
  unfold putK
  rw [if_pos hin]
  unfold kvsOf
  rw [List.map_map]
  refine List.map_congr_left fun n hn => ?_
  show (if (Sum.inl n : Key) = Sum.inl k then ((Sum.inl n : Key), v) else (Sum.inl n, tv L tl n)) = (Sum.inl n, tv L' tl' n)
  by_cases e : n = k
  · rw [if_pos (by rw [e]), e, hv]
  · rw [if_neg fun z => e (Sum.inl.inj z), ho n hn e]
theorem span_snoc {h k n : Int} {ns : List Int} : spanL h k (ns ++ [n]) = spanL h k ns ++ if n ≠ h ∧ (St h n : Int) = k then [n] else [] := by
  unfold spanL
  rw [List.filter_append]
  congr 1
  by_cases e1 : n = h <;> by_cases e2 : (St h n : Int) = k <;> simp [e1, e2]
def spKept : Sp := fun vs H Q _ => ∃ (pp : Addr) (h rm c : Int) (pool : List Int), vs = [.ref pp, .int h, .int rm, .int c] ∧ H pp = some (.lst (pool.map V.int)) ∧ pool.Nodup ∧ pool.length ≤ 10 ∧ (∀ n ∈ pool, 0 ≤ n) ∧ 0 ≤ h ∧ 0 ≤ c ∧ 1 ≤ rm ∧ rm ≤ 4 ∧
  ∀ (l : Addr) (out : List Int) (H' : Hp), Same H H' → H l = none → H' l = some (.lst (out.map V.int)) → out.Nodup → (∀ m ∈ out, m ∈ pool ∧ m ≠ h) → (∀ n ∈ pool, n ≠ h → n ∈ out ∨ ∃ M : List Int, M.Nodup ∧ M.length = rm.toNat ∧ ∀ m ∈ M, m ∈ out ∧ St h m = St h n) → Q (.ref l) H'
section
variable {P : Program} {w : World} {K : PySem.W.Frag} {mg : Str → Option Value} {base : Heap}
theorem sc_lkept : FnScope ["_law_pool_here", "_law_house", "_law_room", "_law_cell", "_law_parts", "_law_name", "_law_k", "_law_kept_here", "_law_some", "_law_j"] ["_law_pool_here", "_law_house", "_law_room", "_law_cell"] (defScope (top 19)) := ⟨rfl, rfl, rfl, by decide +kernel, rfl, by decide +kernel, by decide +kernel⟩
theorem ok_lkept (T : Txt mg) (D__law_step : Df K mg "_law_step" (top 18) ["_law_one", "_law_other"]) (D : Df K mg "_law_kept" (top 19) ["_law_pool_here", "_law_house", "_law_room", "_law_cell"]) : FnOk P w K mg base CX0 2 D.f D.fd ["_law_pool_here", "_law_house", "_law_room", "_law_cell"] spKept := by
  have G__law_step : FnOk P w K mg base CX0 1 _ _ _ _ := ok_lstepK D__law_step
  refine D.fn.ok sc_lkept (fun vs H Q E h => ?_) (fun cdv A outer s H vs Q E hr h => ?_)
  · obtain ⟨pp, h, rm, c, pool, rfl, _⟩ := h
    rfl
  · obtain ⟨pp, h, rm, c, pool, rfl, hpp, hnd, hle, hnn, hh0, hc0, hrm1, hrm4, k⟩ := h
    refine ⟨_, (pss_cons (ps_set (i := 4) sc_lkept.nd rfl (Or.inl rfl) pe_dnewK)
      (pss_cons (ps_for PassesOwn.never rfl (pi_list (pv 0)) (pg_name (i := 5) sc_lkept.nd rfl (Or.inl rfl))
       (pss_one (ps_if (pt_cmpR op_ne (pv 5) (pv 1) (nomark _))
         (pss_cons (ps_set (i := 6) sc_lkept.nd rfl (Or.inl rfl) (pe_call G__law_step (hr.mono (by decide)) rfl D__law_step.hm D__law_step.fn.kp D__law_step.b .nil pass0 (pa_cons (pv 1) (pa_cons (pv 5) pa_nil))))
          (pss_one (ps_dput (hu_of hr) (pv 4) (pv 6) (pe_op op_cat (pe_dget2 (hu_of hr) (pv 4) (pv 6) (pe_lst pa_nil) ⟨rfl, rfl, rfl, rfl⟩) (pe_lst (pa_cons (pv 5) pa_nil))) rfl)))
         pss_nil)))
      (pss_cons (ps_set (i := 7) sc_lkept.nd rfl (Or.inl rfl) (pe_lst pa_nil))
      (pss_cons (ps_for PassesOwn.never rfl (pi_list (pe_callB (call_sortedD rfl) rfl T.n_sorted bt_sorted (pa_cons (pv 4) pa_nil))) (pg_name (i := 6) sc_lkept.nd rfl (Or.inl rfl))
       (pss_cons (ps_set (i := 8) sc_lkept.nd rfl (Or.inl rfl) (pe_callTy call_list_of rfl T.n_list bt_list (pa_cons (pe_dget (hu_of hr) (pv 4) (pv 6) (fun _ _ => rfl)) pa_nil)))
        (pss_one (ps_for PassesOwn.never rfl (pi_range1 rfl T.n_range (pa_cons (pe_callB (call_min2 rfl) rfl T.n_min bt_min (pa_cons (pv 2) (pa_cons (pe_callB call_len_seq rfl T.n_len bt_len (pa_cons (pv 8) pa_nil)) pa_nil))) pa_nil)) (pg_name (i := 9) sc_lkept.nd rfl (Or.inl rfl))
         (pss_cons (ps_expr (pe_bm PySem.F.plainAttrs_list PySem.F.slot_list_append PySem.F.type_list_append mt_append (pv 7) (pa_cons (pe_bm PySem.F.plainAttrs_list PySem.F.slot_list_pop PySem.F.type_list_pop mt_popAt (pv 8) (pa_cons (pe_op op_mod (pv 3) (pe_callB call_len_seq rfl T.n_len bt_len (pa_cons (pv 8) pa_nil))) pa_nil)) pa_nil)))
          (pss_one (ps_set (i := 3) sc_lkept.nd rfl (Or.inl rfl) (pe_op op_fdiv (pv 3) (pe_op op_add (pe_callB call_len_seq rfl T.n_len bt_len (pa_cons (pv 8) pa_nil)) pe_int)))))))))
      (pss_one (ps_ret (pv 7))))))), ?_⟩
    walk_at "w"
    intro pd hpd
    have s0 : Same H (upd H pd (.dK [])) := Same.new H hpd
    have hpp0 := s0 _ _ hpp
    walk_at "w"
    refine for_list (K := K) (a := pp) (xs := pool.map V.int) (fun i σ H2 => Hold (∃ (v5 v6 : Option V) (ks : List Int) (Lp : Int → Addr), σ = [some (.ref pp), some (.int h), some (.int rm), some (.int c), some (.ref pd), v5, v6, none, none, none] ∧ Same H H2 ∧ H2 pd = some (.dK (kvsOf Lp (fun k => some (spanL h k (pool.take i))) ks)) ∧ ks.Nodup ∧ ks.length ≤ i ∧ (∀ k ∈ ks, H2 (Lp k) = some (.lst ((spanL h k (pool.take i)).map V.int)) ∧ Lp k ≠ pd) ∧ (∀ n ∈ pool.take i, n ≠ h → (St h n : Int) ∈ ks)))
      ⟨⟨none, none, [], fun _ => pd, rfl, s0, upd_same, List.nodup_nil, Nat.le_refl 0, fun _ z => (nomatch z), fun _ z => (nomatch z)⟩⟩ (fun i σ H2 _ ⟨_, _, _, _, _, s2, _⟩ => SqL.of (s2 _ _ hpp)) ?_ ?_
    · rintro i y σ H2 hi ⟨v5, v6, ks, Lp, rfl, s2, hpd2, hksn, hksl, hL, hall⟩
      obtain ⟨n, hn, rfl⟩ := map_get hi
      have hil : i < pool.length := (List.getElem?_eq_some_iff.mp hn).1
      have hn0 := hnn n (List.mem_of_getElem? hn)
      have et : pool.take (i + 1) = pool.take i ++ [n] := by rw [List.take_add_one, hn]; rfl
      refine ⟨_, rfl, _, rfl, rfl, _, rfl, ?_⟩
      by_cases hnh : n = h
      · refine iteNS (by rw [hnh]) ?_
        have eS : ∀ k, spanL h k (pool.take (i + 1)) = spanL h k (pool.take i) := fun k => by
          rw [et, span_snoc, if_neg (fun z => z.1 hnh), List.append_nil]
        refine ⟨⟨_, _, ks, Lp, rfl, s2, ?_, hksn, by omega, fun k hk => ?_, fun m hm hmh => ?_⟩⟩
        · rw [hpd2]
          simp only [eS]
        · rw [eS]
          exact hL k hk
        · rw [et, List.mem_append, List.mem_singleton] at hm
          rcases hm with z | z
          · exact hall m z hmh
          · exact absurd (z.trans hnh) hmh
      · refine iteNF (vint_ne hnh) ?_
        refine ⟨_, rfl, _, rfl, h, n, rfl, hh0, hn0, fun z => hnh z.symm, ?_⟩
        obtain ⟨kk, hkk⟩ : ∃ kk : Int, (St h n : Int) = kk := ⟨_, rfl⟩
        rw [hkk]
        have hisd : IsD H2 pd := .inl ⟨_, .inl hpd2⟩
        refine ⟨_, rfl, pd, rfl, hisd, _, rfl, (Nat.le_of_ble_eq_true rfl), fun d0 hd0 => ?_⟩
        have s3 : Same H2 (upd H2 d0 (.lst [])) := Same.new H2 hd0
        have e3 : upd H2 d0 (.lst []) d0 = some (.lst []) := upd_same
        generalize upd H2 d0 (.lst []) = H3 at s3 e3
        have hpd3 := s3 _ _ hpd2
        obtain ⟨lv, hlv, hlv3⟩ : ∃ lv, ((valV (kvsOf Lp (fun k => some (spanL h k (pool.take i))) ks) (Sum.inl kk)).getD (V.ref d0)) = V.ref lv ∧ H3 lv = some (.lst ((spanL h kk (pool.take i)).map V.int)) := by
          by_cases z : kk ∈ ks
          · exact ⟨Lp kk, by rw [kvs_val z]; rfl, s3 _ _ (hL kk z).1⟩
          · refine ⟨d0, by rw [kvs_not z]; rfl, ?_⟩
            have : spanL h kk (pool.take i) = [] := List.filter_eq_nil_iff.mpr fun m hm => by
              intro y
              have y' : m ≠ h ∧ (St h m : Int) = kk := by simpa using y
              exact z (y'.2 ▸ hall m hm y'.1)
            rw [this]
            exact e3
        refine ⟨_, .inl ⟨_, Sum.inl kk, .inl hpd3, rfl, rfl⟩, ?_⟩
        rw [hlv]
        have hspl : (spanL h kk (pool.take i)).length ≤ 10 := by
          refine Nat.le_trans (List.length_filter_le _ _) ?_
          rw [List.length_take]
          omega
        have hszc : ((spanL h kk (pool.take i)).map V.int).length + [V.int n].length ≤ sizeLine := by
          rw [List.length_map]
          exact Nat.le_of_lt (small1000 (by simp; omega))
        walk_at "w"
        intro q1 hq1
        have s4 : Same H3 (upd H3 q1 (.lst [V.int n])) := Same.new H3 hq1
        have e4 : upd H3 q1 (.lst [V.int n]) q1 = some (.lst [V.int n]) := upd_same
        generalize upd H3 q1 (.lst [V.int n]) = H4 at s4 e4
        have hlv4 := s4 _ _ hlv3
        walk_at "w"
        intro q2 hq2
        have s5 : Same H4 (upd H4 q2 (.lst ((spanL h kk (pool.take i)).map V.int ++ [V.int n]))) := Same.new H4 hq2
        have e5 : upd H4 q2 (.lst ((spanL h kk (pool.take i)).map V.int ++ [V.int n])) q2 = some (.lst ((spanL h kk (pool.take i) ++ [n]).map V.int)) := by rw [upd_same, List.map_append]; rfl
        generalize upd H4 q2 (.lst ((spanL h kk (pool.take i)).map V.int ++ [V.int n])) = H5 at s5 e5
        have s25 := s3.trans (s4.trans s5)
        have hpd5 := s25 _ _ hpd2
        have hq2pd : q2 ≠ pd := fun z => by rw [z, s4 _ _ hpd3] at hq2; cases hq2
        have hkl : (kvsOf Lp (fun k => some (spanL h k (pool.take i))) ks).length < sizeLine := by
          unfold kvsOf
          rw [List.length_map]
          exact small1000 (by omega)
        walk_at "w"
        refine ⟨DPut.k (k := Sum.inl kk) hpd5 hkl, ?_⟩
        have eS : ∀ k, spanL h k (pool.take (i + 1)) = spanL h k (pool.take i) ++ if k = kk then [n] else [] := fun k => by
          rw [et, span_snoc]
          congr 1
          by_cases z : k = kk
          · rw [if_pos z, if_pos ⟨hnh, by rw [hkk, z]⟩]
          · rw [if_neg z, if_neg fun y => z (by rw [← y.2, hkk])]
        let Lp' : Int → Addr := fun m => if m = kk then q2 else Lp m
        have key : ∃ ks' : List Int, putK (kvsOf Lp (fun k => some (spanL h k (pool.take i))) ks) (Sum.inl kk) (V.ref q2) = kvsOf Lp' (fun k => some (spanL h k (pool.take (i + 1)))) ks' ∧ ks'.Nodup ∧ ks'.length ≤ i + 1 ∧ ∀ k, k ∈ ks' ↔ k ∈ ks ∨ k = kk := by
          by_cases z : kk ∈ ks
          · refine ⟨ks, kvs_put z ?_ (fun m _ hm => ?_), hksn, by omega, fun k => ⟨.inl, fun y => y.elim id fun e => e ▸ z⟩⟩
            · show V.ref (if kk = kk then q2 else Lp kk) = _
              rw [if_pos rfl]
            · show V.ref (if m = kk then q2 else Lp m) = V.ref (Lp m)
              rw [if_neg hm]
          · refine ⟨ks ++ [kk], ?_, insert_nodup hksn z, by simp; omega, fun k => by rw [List.mem_append, List.mem_singleton]⟩
            rw [putK_new _ (kvs_not z), kvs_snoc, kvs_same (L := Lp) (L' := Lp') (tl' := fun k => some (spanL h k (pool.take (i + 1)))) fun m hm => ?_]
            · congr 3
              show V.ref q2 = V.ref (if kk = kk then q2 else Lp kk)
              rw [if_pos rfl]
            · show V.ref (Lp m) = V.ref (if m = kk then q2 else Lp m)
              rw [if_neg fun (e : m = kk) => z (e ▸ hm)]
        obtain ⟨ks', hput, hks'n, hks'l, hks'⟩ := key
        rw [hput]
        refine ⟨⟨_, _, ks', Lp', rfl, (s2.trans s25).put hpd, upd_same, hks'n, hks'l, fun k hk => ?_, fun m hm hmh => ?_⟩⟩
        · rw [eS]
          by_cases z : k = kk
          · have e : Lp' k = q2 := if_pos z
            rw [e, if_pos z, upd_ne hq2pd, z]
            exact ⟨e5, hq2pd⟩
          · have e : Lp' k = Lp k := if_neg z
            rw [e, if_neg z, List.append_nil]
            obtain ⟨b1, b2⟩ := hL k (((hks' k).mp hk).resolve_right z)
            rw [upd_ne b2]
            exact ⟨s25 _ _ b1, b2⟩
        · rw [et, List.mem_append, List.mem_singleton] at hm
          rcases hm with z | z
          · exact (hks' _).mpr (.inl (hall m z hmh))
          · exact (hks' _).mpr (.inr (by rw [z, hkk]))
    · rintro σ H2 ⟨v5, v6, ks, Lp, rfl, s2, hpd2, hksn, hksl, hL, hall⟩
      rw [List.length_map] at hpd2 hksl hL hall
      rw [List.take_length] at hpd2 hL hall
      walk_at "w"
      intro kl hkl
      have s3 : Same H2 (upd H2 kl (.lst [])) := Same.new H2 hkl
      have e3 : upd H2 kl (.lst []) kl = some (.lst (([] : List Int).map V.int)) := upd_same
      generalize upd H2 kl (.lst []) = H3 at s3 e3
      have hpd3 := s3 _ _ hpd2
      have hkeys : (kvsOf Lp (fun k => some (spanL h k pool)) ks).map (·.1) = ks.map Sum.inl := by unfold kvsOf; rw [List.map_map]; rfl
      refine ⟨_, rfl, pd, _, ks, rfl, hpd3, hkeys, by omega, fun sl hsl => ?_⟩
      have s4 : Same H3 (upd H3 sl (.lst ((sortI ks).map V.int))) := Same.new H3 hsl
      have e4 : upd H3 sl (.lst ((sortI ks).map V.int)) sl = some (.lst ((sortI ks).map V.int)) := upd_same
      generalize upd H3 sl (.lst ((sortI ks).map V.int)) = H4 at s4 e4
      have hkl4 := s4 _ _ e3
      have hkl0 : H kl = none := s2.free hkl
      have s04 := s2.trans (s3.trans s4)
      have nsk : sl ≠ kl := fun z => by rw [z, e3] at hsl; cases hsl
      have hsn : (sortI ks).Nodup := (sortI_perm ks).nodup_iff.mpr hksn
      refine ⟨sl, rfl, ⟨_, SqL.of e4⟩, for_list (K := K) (a := sl) (xs := (sortI ks).map V.int) (fun i σ H5 => Hold (∃ (c : Int) (v5 v6 v8 v9 : Option V) (out : List Int), σ = [some (.ref pp), some (.int h), some (.int rm), some (.int c), some (.ref pd), v5, v6, some (.ref kl), v8, v9] ∧ 0 ≤ c ∧ (∀ q o, q ≠ kl → H4 q = some o → H5 q = some o) ∧ H5 kl = some (.lst (out.map V.int)) ∧ out.Nodup ∧ (∀ m ∈ out, m ∈ pool ∧ m ≠ h ∧ (St h m : Int) ∈ (sortI ks).take i) ∧ out.length ≤ 10 * i ∧ (∀ n ∈ pool, n ≠ h → (St h n : Int) ∈ (sortI ks).take i → n ∈ out ∨ ∃ M : List Int, M.Nodup ∧ M.length = rm.toNat ∧ ∀ m ∈ M, m ∈ out ∧ St h m = St h n)))
        ⟨⟨c, _, _, _, _, [], rfl, hc0, fun _ _ _ e => e, hkl4, List.nodup_nil, fun _ z => (nomatch z), Nat.le_refl _, fun _ _ _ z => (nomatch z)⟩⟩ (fun i σ H5 _ ⟨_, _, _, _, _, _, _, _, kp, _⟩ => SqL.of (kp _ _ nsk e4)) ?_ ?_⟩
      · rintro i y σ H5 hi ⟨c, v5, v6, v8, v9, out, rfl, hc, kp, hkl5, hon, hosub, hol, hofull⟩
        obtain ⟨kk, hkk, rfl⟩ := map_get hi
        have hkks : kk ∈ ks := (sortI_perm ks).subset (List.mem_of_getElem? hkk)
        obtain ⟨hLk, hLpd⟩ := hL kk hkks
        have hLkl : Lp kk ≠ kl := fun z => by rw [z, hkl] at hLk; cases hLk
        have hpdkl : pd ≠ kl := fun z => by rw [z, hkl] at hpd2; cases hpd2
        have hLk5 := kp _ _ hLkl (s4 _ _ (s3 _ _ hLk))
        have hpd5 := kp _ _ hpdkl (s4 _ _ hpd3)
        obtain ⟨sp, hsp⟩ : ∃ sp, spanL h kk pool = sp := ⟨_, rfl⟩
        have hspm : ∀ m, m ∈ sp ↔ m ∈ pool ∧ m ≠ h ∧ (St h m : Int) = kk := fun m => by
          rw [← hsp]
          unfold spanL
          rw [List.mem_filter]
          simp
        have hspn : sp.Nodup := by rw [← hsp]; exact hnd.filter _
        have hspl : sp.length ≤ 10 := by
          rw [← hsp]
          exact Nat.le_trans (List.length_filter_le _ _) hle
        rw [hsp] at hLk5
        have hil : i < (sortI ks).length := (List.getElem?_eq_some_iff.mp hkk).1
        have hkkn : ¬ kk ∈ (sortI ks).take i := fun z => by
          obtain ⟨j, hj⟩ := List.getElem?_of_mem z
          have hji : j < i := by
            have := (List.getElem?_eq_some_iff.mp hj).1
            rw [List.length_take] at this
            omega
          rw [List.getElem?_take_of_lt hji] at hj
          have := nodup_at hsn hj hkk
          omega
        have eti : (sortI ks).take (i + 1) = (sortI ks).take i ++ [kk] := by rw [List.take_add_one, hkk]; rfl
        refine ⟨_, rfl, _, rfl, pd, _, rfl, .inl ⟨_, Sum.inl kk, .inl hpd5, rfl, (kvs_val hkks).symm⟩, Lp kk, _, rfl, .inl (SqL.of hLk5), fun sm hsm => ?_⟩
        have s6 : Same H5 (upd H5 sm (.lst (sp.map V.int))) := Same.new H5 hsm
        have e6 : upd H5 sm (.lst (sp.map V.int)) sm = some (.lst (sp.map V.int)) := upd_same
        generalize upd H5 sm (.lst (sp.map V.int)) = H6 at s6 e6
        have hkl6 := s6 _ _ hkl5
        have hsmkl : sm ≠ kl := fun z => by rw [z, hkl5] at hsm; cases hsm
        obtain ⟨mn, hmn⟩ : ∃ mn, (if ((sp.map V.int).length : Int) < rm then ((sp.map V.int).length : Int) else rm) = mn := ⟨_, rfl⟩
        have hmn0 : 0 ≤ mn ∧ mn ≤ 10 ∧ mn ≤ sp.length ∧ (mn = sp.length ∨ mn = rm) := by
          rw [← hmn, List.length_map]
          split <;> omega
        have hlo : -(2 ^ 62) ≤ mn := by omega
        have hhi : mn < 2 ^ 62 := by omega
        refine ⟨_, rfl, _, rfl, sm, _, rfl, .inl (SqL.of e6), _, _, rfl, ?_⟩
        rw [hmn]
        refine ⟨mn, rfl, hlo, hhi, ?_⟩
        refine for_range (lo := 0) (n := mn.toNat) (fun j σ H7 => Hold (∃ (c : Int) (v9 : Option V) (pk rest : List Int), σ = [some (.ref pp), some (.int h), some (.int rm), some (.int c), some (.ref pd), v5, some (.int kk), some (.ref kl), some (.ref sm), v9] ∧ 0 ≤ c ∧ (∀ q o, q ≠ kl → q ≠ sm → H6 q = some o → H7 q = some o) ∧ H7 kl = some (.lst ((out ++ pk).map V.int)) ∧ H7 sm = some (.lst (rest.map V.int)) ∧ (pk ++ rest).Perm sp ∧ pk.length = j))
          ⟨⟨c, _, [], sp, rfl, hc, fun _ _ _ _ e => e, by rw [List.append_nil]; exact hkl6, e6, List.Perm.refl _, rfl⟩⟩ ?_ ?_
        · rintro j σ H7 hj ⟨c, v9, pk, rest, rfl, hc, kp7, hkl7, hsm7, hperm, hpl⟩
          have hlen := hperm.length_eq
          rw [List.length_append] at hlen
          have hrp : 0 < ((rest.map V.int).length : Int) := by rw [List.length_map]; omega
          have hx0 := Int.emod_nonneg c (Int.ne_of_gt hrp)
          have hx1 := Int.emod_lt_of_pos c hrp
          obtain ⟨ix, hix⟩ : ∃ ix, c % ((rest.map V.int).length : Int) = ix := ⟨_, rfl⟩
          rw [hix] at hx0 hx1
          have hxl : ix.toNat < rest.length := by rw [List.length_map] at hx1; omega
          have hseq : seqIndex? ix (rest.map V.int).length = some ix.toNat := by
            obtain ⟨z, _⟩ := ixN_seq (n := (rest.map V.int).length) (i := ix) (j := ix.toNat) (by unfold ixN; rw [if_pos hx0, if_pos hx1])
            exact z
          have hgx : (rest.map V.int)[ix.toNat]? = some (V.int rest[ix.toNat]) := by simp [hxl]
          have hpe : (rest[ix.toNat] :: rest.eraseIdx ix.toNat).Perm rest := erase_perm hxl
          obtain ⟨x, hx⟩ : ∃ x, rest[ix.toNat] = x := ⟨_, rfl⟩
          rw [hx] at hgx hpe
          have hel : (rest.eraseIdx ix.toNat).length = rest.length - 1 := List.length_eraseIdx_of_lt hxl
          have hpkp : pk.length ≤ 10 := by omega
          have hosz : ((out ++ pk).map V.int).length < sizeLine := by
            rw [List.length_map, List.length_append]
            have : (sortI ks).length ≤ 10 := by rw [sortI_len]; omega
            exact small1000 (by omega)
          refine ⟨_, rfl, .inl ⟨rfl, _, SqL.of hkl7⟩, _, rfl, .inl ⟨rfl, _, SqL.of hsm7⟩, _, rfl, _, rfl, sm, _, rfl, .inl (SqL.of hsm7), _, _, rfl, rfl, hrp, ?_⟩
          show rPopAt (V.ref sm) [V.int (c % ((rest.map V.int).length : Int))] H7 _
          rw [hix]
          refine ⟨sm, _, ix, ix.toNat, V.int x, rfl, rfl, hsm7, by omega, by rw [List.length_map] at hx1; omega, hseq, hgx, ?_⟩
          have hkl8 : upd H7 sm (.lst ((rest.map V.int).eraseIdx ix.toNat)) kl = some (.lst ((out ++ pk).map V.int)) := by rw [upd_ne (fun z => hsmkl z.symm)]; exact hkl7
          have hsm8 : upd H7 sm (.lst ((rest.map V.int).eraseIdx ix.toNat)) sm = some (.lst ((rest.eraseIdx ix.toNat).map V.int)) := by rw [upd_same, erase_map]
          have kp8 : ∀ q o, q ≠ kl → q ≠ sm → H6 q = some o → upd H7 sm (.lst ((rest.map V.int).eraseIdx ix.toNat)) q = some o := fun q o h1 h2 e => by rw [upd_ne h2]; exact kp7 q o h1 h2 e
          generalize upd H7 sm (.lst ((rest.map V.int).eraseIdx ix.toNat)) = H8 at hkl8 hsm8 kp8
          refine ⟨kl, _, _, rfl, rfl, hkl8, hosz, ?_⟩
          have hsm9 : upd H8 kl (.lst ((out ++ pk).map V.int ++ [V.int x])) sm = some (.lst ((rest.eraseIdx ix.toNat).map V.int)) := by rw [upd_ne hsmkl]; exact hsm8
          have hkl9 : upd H8 kl (.lst ((out ++ pk).map V.int ++ [V.int x])) kl = some (.lst ((out ++ (pk ++ [x])).map V.int)) := by rw [upd_same, ← List.append_assoc, List.map_append (l₁ := out ++ pk)]; rfl
          have kp9 : ∀ q o, q ≠ kl → q ≠ sm → H6 q = some o → upd H8 kl (.lst ((out ++ pk).map V.int ++ [V.int x])) q = some o := fun q o h1 h2 e => by rw [upd_ne h1]; exact kp8 q o h1 h2 e
          generalize upd H8 kl (.lst ((out ++ pk).map V.int ++ [V.int x])) = H9 at hsm9 hkl9 kp9
          have hl1 : 0 < (((rest.eraseIdx ix.toNat).map V.int).length : Int) + 1 := by omega
          refine ⟨_, rfl, _, rfl, sm, _, rfl, .inl (SqL.of hsm9), _, _, rfl, rfl, ?_⟩
          refine ⟨_, _, rfl, rfl, ⟨hl1, by rw [List.length_map]; omega⟩, ?_⟩
          refine ⟨⟨_, _, pk ++ [x], rest.eraseIdx ix.toNat, rfl, Int.ediv_nonneg hc (Int.le_of_lt hl1), kp9, hkl9, hsm9, ?_, by rw [List.length_append, hpl]; rfl⟩⟩
          refine List.Perm.trans ?_ hperm
          rw [List.append_assoc]
          exact hpe.append_left pk
        · rintro σ H7 ⟨c, v9, pk, rest, rfl, hc, kp7, hkl7, hsm7, hperm, hpl⟩
          have hpkn : pk.Nodup := (List.nodup_append.mp (hperm.nodup_iff.mpr hspn)).1
          have hpks : ∀ m ∈ pk, m ∈ sp := fun m hm => hperm.subset (List.mem_append_left _ hm)
          have hH5sm : H5 sm = none := hsm
          refine ⟨⟨c, _, _, _, _, out ++ pk, rfl, hc, fun q o hq e => ?_, hkl7, ?_, fun m hm => ?_, ?_, fun n hn hnh hin => ?_⟩⟩
          · have y := kp q o hq e
            exact kp7 q o hq (ne_of_none y hsm) (s6 _ _ y)
          · refine List.nodup_append.mpr ⟨hon, hpkn, fun x hx y hy e => ?_⟩
            subst e
            have := (hosub x hx).2.2
            rw [((hspm x).mp (hpks x hy)).2.2] at this
            exact hkkn this
          · rcases List.mem_append.mp hm with y | y
            · obtain ⟨b1, b2, b3⟩ := hosub m y
              exact ⟨b1, b2, by rw [eti]; exact List.mem_append_left _ b3⟩
            · obtain ⟨b1, b2, b3⟩ := (hspm m).mp (hpks m y)
              exact ⟨b1, b2, by rw [eti, b3]; simp⟩
          · rw [List.length_append]
            have := hperm.length_eq
            rw [List.length_append] at this
            omega
          · rw [eti, List.mem_append, List.mem_singleton] at hin
            rcases hin with y | y
            · rcases hofull n hn hnh y with b | ⟨M, m1, m2, m3⟩
              · exact .inl (List.mem_append_left _ b)
              · exact .inr ⟨M, m1, m2, fun m hm => ⟨List.mem_append_left _ (m3 m hm).1, (m3 m hm).2⟩⟩
            · have hnsp : n ∈ sp := (hspm n).mpr ⟨hn, hnh, y⟩
              rcases hmn0.2.2.2 with e | e
              · left
                have hr0 : rest = [] := by
                  have := hperm.length_eq
                  rw [List.length_append] at this
                  exact List.length_eq_zero_iff.mp (by omega)
                rw [hr0, List.append_nil] at hperm
                exact List.mem_append_right _ (hperm.symm.subset hnsp)
              · right
                refine ⟨pk, hpkn, by rw [hpl, e], fun m hm => ⟨List.mem_append_right _ hm, ?_⟩⟩
                have := ((hspm m).mp (hpks m hm)).2.2
                omega
      · rintro σ H5 ⟨c, v5, v6, v8, v9, out, rfl, hc, kp, hkl5, hon, hosub, hol, hofull⟩
        rw [List.length_map, List.take_length] at hosub hofull
        have s05 : Same H H5 := fun q o e => kp q o (ne_of_none e hkl0) (s04 _ _ e)
        refine ⟨_, rfl, k kl out H5 s05 hkl0 hkl5 hon (fun m hm => ⟨(hosub m hm).1, (hosub m hm).2.1⟩) fun n hn hnh => hofull n hn hnh ((sortI_perm ks).symm.subset (hall n hn hnh))⟩
end
def spDigits : Sp := fun vs H Q _ => ∃ c b m : Int, vs = [.int c, .int b, .int m] ∧ 0 ≤ c ∧ 1 ≤ b ∧ b ≤ 1000 ∧ 0 ≤ m ∧ m ≤ 100 ∧
  ∀ (ds : List Int) (p : Addr) (H' : Hp), (ds.length : Int) = m → (∀ d ∈ ds, 0 ≤ d ∧ d < b) → Same H H' → H p = none → H' p = some (.lst (ds.map V.int)) → Q (.ref p) H'
section
variable {P : Program} {w : World} {K : PySem.W.Frag} {mg : Str → Option Value} {base : Heap}
theorem sc_ldigits : FnScope ["_law_cell", "_law_base", "_law_many", "_law_found", "_law_k"] ["_law_cell", "_law_base", "_law_many"] (defScope (top 13)) := ⟨rfl, rfl, rfl, by decide +kernel, rfl, by decide +kernel, by decide +kernel⟩
theorem ok_ldigits (T : Txt mg) (D : Df K mg "_law_digits" (top 13) ["_law_cell", "_law_base", "_law_many"]) : FnOk P w K mg base CX0 1 D.f D.fd ["_law_cell", "_law_base", "_law_many"] spDigits := by
  refine D.fn.ok sc_ldigits (fun vs H Q E h => ?_) (fun cdv A outer s H vs Q E hr h => ?_)
  · obtain ⟨c, b, m, rfl, _⟩ := h
    rfl
  · obtain ⟨c, b, m, rfl, hc, hb1, hb2, hm1, hm2, k⟩ := h
    refine ⟨_, (pss_cons (ps_set (i := 3) sc_ldigits.nd rfl (Or.inl rfl) (pe_lst pa_nil))
      (pss_cons (ps_for PassesOwn.never rfl (pi_range1 rfl T.n_range (pa_cons (pv 2) pa_nil)) (pg_name (i := 4) sc_ldigits.nd rfl (Or.inl rfl))
       (pss_cons (ps_expr (pe_bm PySem.F.plainAttrs_list PySem.F.slot_list_append PySem.F.type_list_append mt_append (pv 3) (pa_cons (pe_op op_mod (pv 0) (pv 1)) pa_nil)))
        (pss_one (ps_set (i := 0) sc_ldigits.nd rfl (Or.inl rfl) (pe_op op_fdiv (pv 0) (pv 1))))))
      (pss_one (ps_ret (pv 3))))), ?_⟩
    walk_at "w"
    intro p hp
    walk_at "w"
    refine for_range (n := m.toNat) (fun i σ H2 => Hold (∃ (c v4 : _) (ds : List Int), σ = [some (.int c), some (.int b), some (.int m), some (.ref p), v4] ∧ 0 ≤ c ∧ ds.length = i ∧ (∀ d ∈ ds, 0 ≤ d ∧ d < b) ∧ Same H H2 ∧ H2 p = some (.lst (ds.map V.int))))
      ⟨⟨c, none, [], rfl, hc, rfl, fun _ h => (nomatch h), Same.new H hp, upd_same⟩⟩ ?_ ?_
    · rintro i σ H2 hi ⟨c, v4, ds, rfl, hc, hl, hd, s2, hp2⟩
      have hsz : (ds.map V.int).length < sizeLine := by rw [List.length_map]; exact small1000 (by omega)
      have hb0 : 0 < b := by omega
      walk_at "w"
      refine ⟨⟨c / b, _, ds ++ [c % b], rfl, Int.ediv_nonneg hc (by omega), by simp [hl], snoc_all hd ⟨Int.emod_nonneg _ (by omega), Int.emod_lt_of_pos _ hb0⟩, s2.put hp, by rw [upd_same]; simp⟩⟩
    · rintro σ H2 ⟨c, v4, ds, rfl, hc, hl, hd, s2, hp2⟩
      walk_at "w"
      exact k ds p H2 (by omega) hd s2 hp hp2
end
def spLawT (K : PySem.W.Frag) (tabs : List (Addr × Addr)) : Sp := fun vs H Q _ => ∃ (a : Addr) (ns : List Int), vs = [.ref a] ∧ SqL K H a (ns.map V.int) ∧ ns.length ≤ 63 ∧ (∀ q ∈ tabs, H q.2 = some (.tbl #[])) ∧ ∀ H', Q (.bl true) H'
section
variable {P : Program} {w : World} {K : PySem.W.Frag} {mg : Str → Option Value} {base : Heap}
theorem sc_law : FnScope ["_law_script", "_law_cells", "_law_head", "_law_wide_here", "_law_room", "_law_pool_here", "_law_keeps", "_law_k", "_law_name", "_law_cell", "_law_quiet", "_law_awake", "_law_start", "_law_aims", "_law_goal"] ["_law_script"] (defScope (top 21)) := ⟨rfl, rfl, rfl, by decide +kernel, rfl, by decide +kernel, by decide +kernel⟩
theorem ok_law (T : Txt mg) (hK : K.In base) (D_far : Df K mg "far" (top 1) ["one", "other"]) (D_nearer : Df K mg "nearer" (top 2) ["goal", "one", "other"]) (D_by_nearness : DfF K mg "by_nearness" (top 3) ["goal", "names"]) (hB0 : base.BuiltinsAt mg D_by_nearness.P) (D_note_told : Df K mg "note_told" (top 6) ["seen", "start", "house", "told"]) (D_standing : Df K mg "standing" (top 7) ["seen", "goal", "room"]) (D_first_unasked : Df K mg "first_unasked" (top 8) ["names", "row"]) (D_asked : Df K mg "asked" (top 5) ["start", "goal", "room", "tells"]) (D_goes_next : Df K mg "goes_next" (top 10) ["here", "goal", "tells"]) (D_way : Df K mg "way" (top 9) ["start", "goal", "tells"]) (D__law_by : DfF K mg "_law_by" (top 17) ["_law_goal", "_law_names"]) (hB1 : base.BuiltinsAt mg D__law_by.P) (D__law_right : DfF K mg "_law_right" (top 20) ["_law_keeps", "_law_awake", "_law_wide_here", "_law_room", "_law_start", "_law_goal"]) (hB2 : base.BuiltinsAt mg D__law_right.P)
    (n1 : D_by_nearness.P ≠ D__law_by.P) (n2 : D_by_nearness.P ≠ D__law_right.P) (n3 : D__law_by.P ≠ D__law_right.P) (D__law_mixed : Df K mg "_law_mixed" (top 12) ["_law_cell", "_law_k"]) (D__law_digits : Df K mg "_law_digits" (top 13) ["_law_cell", "_law_base", "_law_many"]) (D__law_wide : Df K mg "_law_wide" (top 14) ["_law_cell"]) (D__law_near : Df K mg "_law_near" (top 15) ["_law_signs", "_law_wide_here", "_law_first"]) (D__law_pool : Df K mg "_law_pool" (top 16) ["_law_cell", "_law_wide_here", "_law_many"]) (D__law_step : Df K mg "_law_step" (top 18) ["_law_one", "_law_other"]) (D__law_kept : Df K mg "_law_kept" (top 19) ["_law_pool_here", "_law_house", "_law_room", "_law_cell"]) (D : Df K mg "law" (top 21) ["_law_script"]) {tabs : List (Addr × Addr)} (ht0 : (D_by_nearness.c, D_by_nearness.P) ∈ tabs) (ht1 : (D__law_by.c, D__law_by.P) ∈ tabs) (ht2 : (D__law_right.c, D__law_right.P) ∈ tabs) :
    FnOk P w K mg base CX0 9 D.f D.fd ["_law_script"] (spLawT K tabs) := by
  have G__law_right : FnOk P w K mg base CX0 8 _ _ _ _ := ok_lrightS T hK D_far D_nearer D_by_nearness hB0 D_note_told D_standing D_first_unasked D_asked D_goes_next D_way D__law_by hB1 D__law_right hB2 n1 n2 n3
  have G__law_digits : FnOk P w K mg base CX0 1 _ _ _ _ := ok_ldigits T D__law_digits
  have G__law_wide : FnOk P w K mg base CX0 1 _ _ _ _ := ok_lwide D__law_wide
  have G__law_pool : FnOk P w K mg base CX0 2 _ _ _ _ := ok_lpool T D__law_mixed D__law_near D__law_pool
  have G__law_kept : FnOk P w K mg base CX0 2 _ _ _ _ := ok_lkept T D__law_step D__law_kept
  refine D.fn.ok sc_law (fun vs H Q E h => ?_) (fun cdv A outer s H vs Q E hr h => ?_)
  · obtain ⟨a, ns, rfl, _⟩ := h
    rfl
  · obtain ⟨a, ss, rfl, hS, hlen, hT, k⟩ := h
    refine ⟨_, (pss_cons (ps_setC (i := 1) sc_law.nd rfl (Or.inl rfl) rfl (compText_of (own := ["_law_cell"]) (caps := []) (N' := ["_law_cell"]) (by kernel_rfl)) (pi_list (pe_slice sl_list (pv 0) po_none (po_some pe_int))) (fun _ _ _ _ _ => (pg_name (i := 0) (show (["_law_cell"] : List Str).Nodup by decide +kernel) rfl (Or.inl rfl))) (fun _ _ _ _ _ => pts_nil) (fun _ _ _ _ _ => (pe_op op_mod (pv 0) (pe_op op_pow pe_int pe_int))))
      (pss_cons (ps_set (i := 2) sc_law.nd rfl (Or.inl rfl) (pe_callB (call_sum rfl) rfl T.n_sum bt_sum (pa_cons (pe_slice sl_list (pv 1) po_none (po_some pe_int)) pa_nil)))
      (pss_cons (ps_set (i := 3) sc_law.nd rfl (Or.inl rfl) (pe_call G__law_wide (hr.mono (by decide)) rfl D__law_wide.hm D__law_wide.fn.kp D__law_wide.b .nil pass0 (pa_cons (pv 2) pa_nil)))
      (pss_cons (ps_set (i := 4) sc_law.nd rfl (Or.inl rfl) (pe_op op_add pe_int (pe_op op_mod (pe_callB (call_sum rfl) rfl T.n_sum bt_sum (pa_cons (pe_slice sl_list (pv 1) (po_some pe_int) (po_some pe_int)) pa_nil)) pe_int)))
      (pss_cons (ps_set (i := 5) sc_law.nd rfl (Or.inr rfl) (pe_call G__law_pool (hr.mono (by decide)) rfl D__law_pool.hm D__law_pool.fn.kp D__law_pool.b .nil pass0 (pa_cons (pe_op op_fdiv (pv 2) pe_int) (pa_cons (pv 3) (pa_cons (pe_op op_add pe_int (pe_op op_mod (pe_op op_fdiv (pe_callB (call_sum rfl) rfl T.n_sum bt_sum (pa_cons (pe_slice sl_list (pv 1) (po_some pe_int) (po_some pe_int)) pa_nil)) pe_int) pe_int)) pa_nil)))))
      (pss_cons (ps_set (i := 6) sc_law.nd rfl (Or.inl rfl) pe_dnewK)
      (pss_cons (ps_for PassesOwn.never rfl (pi_enum rfl T.n_enumerate (pa_cons (pv 5) pa_nil)) (pg_tup (n := 2) rfl (pgs_cons (pg_name (i := 7) sc_law.nd rfl (Or.inl rfl)) (pgs_cons (pg_name (i := 8) sc_law.nd rfl (Or.inl rfl)) pgs_nil)))
       (pss_one (ps_dput (hu_of hr) (pv 6) (pv 8) (pe_call G__law_kept (hr.mono (by decide)) rfl D__law_kept.hm D__law_kept.fn.kp D__law_kept.b .nil pass0 (pa_cons (pv 5) (pa_cons (pv 8) (pa_cons (pv 4) (pa_cons (pe_callB (call_sum rfl) rfl T.n_sum bt_sum (pa_cons (pe_slice sl_list (pv 1) (po_some (pe_op op_add pe_int (pv 7))) (po_some (pe_op op_add pe_int (pv 7)))) pa_nil)) pa_nil))))) rfl)))
      (pss_cons (ps_for PassesOwn.never rfl (pi_list (pe_op op_cat (pe_lst (pa_cons (pv 2) (pa_cons (pe_op op_fdiv (pv 2) pe_int) pa_nil))) (pe_slice sl_list (pv 1) (po_some pe_int) po_none))) (pg_name (i := 9) sc_law.nd rfl (Or.inl rfl))
       (pss_cons (ps_set (i := 10) sc_law.nd rfl (Or.inr rfl) (pe_comp rfl (compText_of (own := ["_law_k"]) (caps := [5]) (N' := ["_law_k", "_law_pool_here"]) (by kernel_rfl)) (pi_list (pe_call G__law_digits (hr.mono (by decide)) rfl D__law_digits.hm D__law_digits.fn.kp D__law_digits.b .nil pass0 (pa_cons (pv 9) (pa_cons (pe_callB call_len_seq rfl T.n_len bt_len (pa_cons (pv 5) pa_nil)) (pa_cons (pe_op op_sub (pv 4) pe_int) pa_nil))))) (fun _ _ _ _ _ => (pg_name (i := 0) (show (["_law_k", "_law_pool_here"] : List Str).Nodup by decide +kernel) rfl (Or.inl rfl))) (fun _ _ _ _ _ => pts_nil) (fun _ _ _ _ _ => (pe_ix (ix_listK (K := K) rfl) (pv 1) (pv 0) (fun _ _ => rfl)))))
        (pss_cons (ps_setC (i := 11) sc_law.nd rfl (Or.inl rfl) rfl (compText_of (own := ["_law_name"]) (caps := [10]) (N' := ["_law_name", "_law_quiet"]) (by kernel_rfl)) (pi_list (pv 5)) (fun _ _ _ _ _ => (pg_name (i := 0) (show (["_law_name", "_law_quiet"] : List Str).Nodup by decide +kernel) rfl (Or.inl rfl))) (fun _ _ _ _ _ => (pts_one (pt_cmpR (op_notIn_seqK (K := K) rfl) (pv 0) (pv 1) (by with_unfolding_all rfl)))) (fun _ _ _ _ _ => (pv 0)))
        (pss_one (ps_if (pt_cmpR (op_neL hr.units) (pv 11) (pe_lst pa_nil) (nomark _))
         (pss_cons (ps_set (i := 12) sc_law.nd rfl (Or.inl rfl) (pe_ix ix_list (pv 11) (pe_op op_mod (pe_op op_fdiv (pv 9) pe_int) (pe_callB call_len_seq rfl T.n_len bt_len (pa_cons (pv 11) pa_nil))) (fun _ _ => rfl)))
          (pss_cons (ps_set (i := 13) sc_law.nd rfl (Or.inl rfl) (pe_op op_cat (pv 5) (pe_lst (pa_cons (pe_op op_mod (pe_op op_fdiv (pv 9) pe_int) (pe_op op_shl pe_int (pv 3))) pa_nil))))
          (pss_cons (ps_set (i := 14) sc_law.nd rfl (Or.inl rfl) (pe_ix ix_list (pv 13) (pe_op op_mod (pe_op op_fdiv (pv 9) pe_int) (pe_callB call_len_seq rfl T.n_len bt_len (pa_cons (pv 13) pa_nil))) (fun _ _ => rfl)))
          (pss_one (ps_if (pt_not (pt_val (pe_call G__law_right (hr.mono (by decide)) rfl D__law_right.hm D__law_right.kp D__law_right.b .nil pass0 (pa_cons (pv 6) (pa_cons (pv 11) (pa_cons (pv 3) (pa_cons (pv 4) (pa_cons (pv 12) (pa_cons (pv 14) pa_nil)))))))))
           (pss_one (ps_ret pe_bl))
           pss_nil)))))
         pss_nil)))))
      (pss_one (ps_ret pe_bl)))))))))), ?_⟩
    have Tb0 : Tb D_by_nearness.P D__law_by.P D__law_right.P H := ⟨Tab.new (hT _ ht0), Tab.new (hT _ ht1), Tab.new (hT _ ht2)⟩
    obtain ⟨ts, ets, hts, _⟩ := cut_sub ss none (some 63)
    have h60 : (0 : Int) < 10 ^ (60 : Int).toNat := by decide
    walk_at "w"
    rw [ets]
    intro p0 hp0
    have s1 : Same H (upd H p0 (.lst (ts.map V.int))) := Same.new H hp0
    have hp1 : upd H p0 (.lst (ts.map V.int)) p0 = some (.lst (ts.map V.int)) := upd_same
    generalize upd H p0 (.lst (ts.map V.int)) = H1 at s1 hp1
    walk_at "w"
    intro Dc hDc
    refine comp_list (xs := ts.map V.int) (fun j σ H' => Hold (∃ (v : Option V) (ns : List Int), σ = [v] ∧ Same H1 H' ∧ ns.length = j ∧ (∀ x ∈ ns, 0 ≤ x) ∧ H' Dc = some (.lst (ns.map V.int)))) ⟨⟨none, [], rfl, Same.new H1 hDc, rfl, fun _ h => (nomatch h), upd_same⟩⟩ (fun j σ H' _ ⟨_, _, _, s, _⟩ => s.seq (SqL.of hp1)) ?_ ?_
    · rintro j x σ H' hj ⟨v, ns, rfl, s', hl, hn, hD⟩
      obtain ⟨d, hd, rfl⟩ := map_get hj
      have hjl : j < ts.length := (List.getElem?_eq_some_iff.mp hd).1
      have hsz : (ns.map V.int).length < sizeLine := by rw [List.length_map]; exact small1000 (by omega)
      walk_at "w"
      exact ⟨⟨_, ns ++ [d % 10 ^ (60 : Int).toNat], rfl, s'.put hDc, by simp [hl], snoc_all hn (Int.emod_nonneg _ (Int.ne_of_gt h60)), by rw [upd_same]; simp⟩⟩
    rintro σ H2 ⟨v, cs, rfl, s2, hcl, hcn, hc2⟩
    rw [List.length_map] at hcl
    have s02 := s1.trans s2
    obtain ⟨t0, et0, _, ht0'⟩ := cut_sub cs none (some 1)
    have hhead : 0 ≤ t0.sum := sum_nn fun x hx => hcn x (ht0' x hx)
    walk_at "w"
    rw [et0]
    intro p1 hp1'
    have s3 : Same H2 (upd H2 p1 (.lst (t0.map V.int))) := Same.new H2 hp1'
    have e3 : upd H2 p1 (.lst (t0.map V.int)) p1 = some (.lst (t0.map V.int)) := upd_same
    generalize upd H2 p1 (.lst (t0.map V.int)) = H3 at s3 e3
    walk_at "w"
    generalize t0.sum = head at hhead ⊢
    walk_at "w"
    intro z H4 hz1 hz60 s4
    have hc4 := s4 _ _ (s3 _ _ hc2)
    obtain ⟨t1, et1, _, ht1'⟩ := cut_sub cs (some 1) (some 2)
    walk_at "w"
    rw [et1]
    intro p2 hp2
    have s5 : Same H4 (upd H4 p2 (.lst (t1.map V.int))) := Same.new H4 hp2
    have e5 : upd H4 p2 (.lst (t1.map V.int)) p2 = some (.lst (t1.map V.int)) := upd_same
    generalize upd H4 p2 (.lst (t1.map V.int)) = H5 at s5 e5
    have hc5 := s5 _ _ hc4
    have hrm1 : 1 ≤ 1 + t1.sum % 4 := by omega
    have hrm4 : 1 + t1.sum % 4 ≤ 4 := by omega
    walk_at "w"
    rw [et1]
    intro p3 hp3
    have s6 : Same H5 (upd H5 p3 (.lst (t1.map V.int))) := Same.new H5 hp3
    have e6 : upd H5 p3 (.lst (t1.map V.int)) p3 = some (.lst (t1.map V.int)) := upd_same
    generalize upd H5 p3 (.lst (t1.map V.int)) = H6 at s6 e6
    have hm1 : 1 ≤ 1 + t1.sum / 4 % 10 := by omega
    have hm2 : 1 + t1.sum / 4 % 10 ≤ 10 := by omega
    have hh256 : 0 ≤ head / 256 := by omega
    walk_at "w"
    intro pool pp H7 hnd hpl hp1l hpn s7 hpp hpp7
    have hc7 := s7 _ _ (s6 _ _ hc5)
    have hpl10 : pool.length ≤ 10 := by omega
    walk_at "w"
    intro kd hkd
    have s8 : Same H7 (upd H7 kd (.dK [])) := Same.new H7 hkd
    have hpp8 := s8 _ _ hpp7
    walk_at "w"
    refine for_enum (K := K) (a := pp) (xs := pool.map V.int) (fun i σ H2 => Hold (∃ (v7 v8 : Option V) (L : Int → Addr) (kp : Int → List Int), σ = [some (.ref a), some (.ref Dc), some (.int head), some (.int z), some (.int (1 + t1.sum % 4)), some (.ref pp), some (.ref kd), v7, v8, none, none, none, none, none, none] ∧ Same H7 H2 ∧ H2 kd = some (.dK (kvsOf L (tlK kp) (pool.take i))) ∧
        (∀ n ∈ pool.take i, L n ≠ kd ∧ H2 (L n) = some (.lst ((kp n).map V.int)) ∧ (kp n).Nodup ∧ (∀ m ∈ kp n, m ∈ pool ∧ m ≠ n) ∧ ∀ m ∈ pool, m ≠ n → m ∈ kp n ∨ ∃ M : List Int, M.Nodup ∧ M.length = (1 + t1.sum % 4).toNat ∧ ∀ x ∈ M, x ∈ kp n ∧ St n x = St n m)))
      ⟨⟨none, none, fun _ => kd, fun _ => [], rfl, s8, upd_same, fun _ h => (nomatch h)⟩⟩ (fun i σ H2 _ ⟨_, _, _, _, _, s2, _⟩ => SqL.of (s2 _ _ hpp7)) ?_ ?_
    · rintro i y σ H2 t hi ⟨v7, v8, L, kp, rfl, s2', hkd2, hL⟩ ht
      obtain ⟨n, hn, rfl⟩ := map_get hi
      have hil : i < pool.length := (List.getElem?_eq_some_iff.mp hn).1
      have hnp : n ∈ pool := List.mem_of_getElem? hn
      have hnot : ¬ n ∈ pool.take i := fun z => by
        obtain ⟨j, hj⟩ := List.getElem?_of_mem z
        have hji : j < i := by
          have := (List.getElem?_eq_some_iff.mp hj).1
          rw [List.length_take] at this
          omega
        rw [List.getElem?_take_of_lt hji] at hj
        have := nodup_at hnd hj hn
        omega
      have s3' : Same H2 (upd H2 t (.tup [.int i, .int n])) := Same.new H2 ht
      have ht3 : upd H2 t (.tup [.int i, .int n]) t = some (.tup [.int i, .int n]) := upd_same
      generalize upd H2 t (.tup [.int i, .int n]) = H3' at s3' ht3
      have hkd3 := s3' _ _ hkd2
      have hpp3 := s3' _ _ (s2' _ _ hpp7)
      have hc3 := s3' _ _ (s2' _ _ hc7)
      obtain ⟨t2, et2, hl2, ht2'⟩ := cut_sub cs (some (2 + (i : Int))) (some (3 + (i : Int)))
      have hsum : 0 ≤ t2.sum := sum_nn fun x hx => hcn x (ht2' x hx)
      walk_at "w"
      rw [et2]
      intro q1 hq1
      have s4' : Same H3' (upd H3' q1 (.lst (t2.map V.int))) := Same.new H3' hq1
      have e4' : upd H3' q1 (.lst (t2.map V.int)) q1 = some (.lst (t2.map V.int)) := upd_same
      generalize upd H3' q1 (.lst (t2.map V.int)) = H4' at s4' e4'
      have hkd4 := s4' _ _ hkd3
      have hpp4 := s4' _ _ hpp3
      refine ⟨_, t2, rfl, SqL.of e4', ?_⟩
      refine ⟨pp, n, _, _, pool, rfl, hpp4, hnd, hpl10, fun m hm => (hpn m hm).1, (hpn n hnp).1, hsum, hrm1, hrm4, fun l out H5' s5' hl hl5 hon hosub hofull => ?_⟩
      have hkd5 := s5' _ _ hkd4
      have hlk : l ≠ kd := fun z => by rw [z, hkd4] at hl; cases hl
      have hkl : (kvsOf L (tlK kp) (pool.take i)).length < sizeLine := by
        unfold kvsOf
        rw [List.length_map, List.length_take]
        exact small1000 (by omega)
      have hv := kvs_not (L := L) (tl := tlK kp) hnot
      have et : pool.take (i + 1) = pool.take i ++ [n] := by rw [List.take_add_one, hn]; rfl
      walk_at "w"
      refine ⟨DPut.k (k := Sum.inl n) hkd5 hkl, ?_⟩
      rw [putK_new _ hv]
      have s25 := s3'.trans (s4'.trans s5')
      refine ⟨⟨_, _, fun m => if m = n then l else L m, fun m => if m = n then out else kp m, rfl, (s2'.trans s25).put hkd, ?_, fun m hm => ?_⟩⟩
      · rw [upd_same, et, kvs_snoc, kvs_same (L := fun m => if m = n then l else L m) (L' := L) (tl' := tlK kp) fun m hm => ?_]
        · congr 4
          unfold tv
          dsimp only
          rw [if_pos rfl]
        · have hne : m ≠ n := fun z => hnot (z ▸ hm)
          unfold tv
          dsimp only
          rw [if_neg hne]
      · dsimp only
        by_cases z : m = n
        · rw [if_pos z, if_pos z, z]
          exact ⟨hlk, by rw [upd_ne hlk]; exact hl5, hon, hosub, hofull⟩
        · rw [if_neg z, if_neg z]
          rw [et, List.mem_append, List.mem_singleton] at hm
          obtain ⟨b1, b2, b3⟩ := hL m (hm.resolve_right z)
          exact ⟨b1, by rw [upd_ne b1]; exact s25 _ _ b2, b3⟩
    · rintro σ H9 ⟨v7, v8, L, kp, rfl, s9, hkd9, hL⟩
      rw [List.length_map, List.take_length] at hkd9 hL
      have T9 : ToldAt H9 kd L pool (tlK kp) := ⟨.inl hkd9, fun n hn ns e => by cases e; exact (hL n hn).2.1⟩
      have hO : KeepOk pool kp := ⟨hnd, hpl10, fun n hn => (hpn n hn).1, fun h hh => ⟨(hL h hh).2.2.1, fun m hm => ((hL h hh).2.2.2.1 m hm).1⟩⟩
      have hKe : Keeps pool (1 + t1.sum % 4).toNat kp := ⟨fun h hh m hm => (hL h hh).2.2.2.1 m hm, fun h hh n hn hne => (hL h hh).2.2.2.2 n hn hne⟩
      have Tb9 := Tb0.same (s02.trans (s3.trans (s4.trans (s5.trans (s6.trans (s7.trans s9))))))
      have hpp9 := s9 _ _ hpp7
      have hc9 := s9 _ _ hc7
      obtain ⟨t3, et3, hl3, ht3'⟩ := cut_sub cs (some 2) none
      have hszl : ([V.int head, V.int (head / 7)]).length + (t3.map V.int).length ≤ sizeLine := by
        rw [List.length_map]
        exact Nat.le_of_lt (small1000 (by simp; omega))
      walk_at "w"
      intro q1 hq1
      have s10 : Same H9 (upd H9 q1 (.lst [V.int head, V.int (head / 7)])) := Same.new H9 hq1
      have e10 : upd H9 q1 (.lst [V.int head, V.int (head / 7)]) q1 = some (.lst [V.int head, V.int (head / 7)]) := upd_same
      generalize upd H9 q1 (.lst [V.int head, V.int (head / 7)]) = H10 at s10 e10
      have hc10 := s10 _ _ hc9
      walk_at "w"
      rw [et3]
      intro q2 hq2
      have s11 : Same H10 (upd H10 q2 (.lst (t3.map V.int))) := Same.new H10 hq2
      have e11 : upd H10 q2 (.lst (t3.map V.int)) q2 = some (.lst (t3.map V.int)) := upd_same
      generalize upd H10 q2 (.lst (t3.map V.int)) = H11 at s11 e11
      have e11' := s11 _ _ e10
      walk_at "w"
      intro q3 hq3
      have s12 : Same H11 (upd H11 q3 (.lst ([V.int head, V.int (head / 7)] ++ t3.map V.int))) := Same.new H11 hq3
      have e12 : upd H11 q3 (.lst ([V.int head, V.int (head / 7)] ++ t3.map V.int)) q3 = some (.lst ((head :: head / 7 :: t3).map V.int)) := upd_same
      generalize upd H11 q3 (.lst ([V.int head, V.int (head / 7)] ++ t3.map V.int)) = H12 at s12 e12
      have K12 : Kz D_by_nearness.P D__law_by.P D__law_right.P exN H9 H12 := Kz.of Tb9 (s10.trans (s11.trans s12))
      walk_at "w"
      refine for_list (K := K) (a := q3) (xs := (head :: head / 7 :: t3).map V.int) (fun i σ H' => Hold (∃ (v7 v8 v9 v10 v11 v12 v13 v14 : Option V), σ = [some (.ref a), some (.ref Dc), some (.int head), some (.int z), some (.int (1 + t1.sum % 4)), some (.ref pp), some (.ref kd), v7, v8, v9, v10, v11, v12, v13, v14] ∧ Kz D_by_nearness.P D__law_by.P D__law_right.P exN H9 H' ∧ H' q3 = some (.lst ((head :: head / 7 :: t3).map V.int))))
        ⟨⟨_, _, _, _, _, _, _, _, rfl, K12, e12⟩⟩ (fun i σ H' _ ⟨_, _, _, _, _, _, _, _, _, _, e⟩ => SqL.of e) ?_ ?_
      · rintro i y σ H' hi ⟨v7, v8, v9, v10, v11, v12, v13, v14, rfl, K', e'⟩
        obtain ⟨cell, hcell, rfl⟩ := map_get hi
        have hcell0 : 0 ≤ cell := by
          rcases List.mem_cons.mp (List.mem_of_getElem? hcell) with z | z
          · rw [z]; exact hhead
          · rcases List.mem_cons.mp z with z | z
            · rw [z]; exact Int.ediv_nonneg hhead (by decide)
            · exact hcn _ (ht3' _ z)
        have hpp' := K'.lst (exN_no _) hpp9
        have hpl1 : 1 ≤ ((pool.map V.int).length : Int) := by rw [List.length_map]; omega
        have hpl2 : ((pool.map V.int).length : Int) ≤ 1000 := by rw [List.length_map]; omega
        have hr1 : 0 ≤ 1 + t1.sum % 4 - 1 := by omega
        have hr2 : 1 + t1.sum % 4 - 1 ≤ 100 := by omega
        walk_at "w"
        intro ds qd G1 hdl hdd sG1 hqd hqd1
        have hppG1 := sG1 _ _ hpp'
        walk_at "w"
        intro Dq hDq
        refine comp_list (xs := ds.map V.int) (fun j σ H6 => Hold (∃ (v : Option V) (ns : List Int), σ = [v, some (.ref pp)] ∧ Same G1 H6 ∧ ns.length = j ∧ H6 Dq = some (.lst (ns.map V.int)))) ⟨⟨none, [], rfl, Same.new G1 hDq, rfl, upd_same⟩⟩ (fun j σ H6 _ ⟨_, _, _, s6, _⟩ => s6.seq (SqL.of hqd1)) ?_ ?_
        · rintro j x σ H6 hj ⟨v, ns, rfl, s6, hl, hD6⟩
          obtain ⟨d, hd, rfl⟩ := map_get hj
          have hjl : j < ds.length := (List.getElem?_eq_some_iff.mp hd).1
          obtain ⟨hd0, hd1'⟩ := hdd d (List.mem_of_getElem? hd)
          rw [List.length_map] at hd1'
          obtain ⟨m, hmp, hat⟩ := at_int (ns := pool) (i := d) (by omega) hd1'
          have hp6 := s6 _ _ hppG1
          have hsz : (ns.map V.int).length < sizeLine := by rw [List.length_map]; exact small1000 (by omega)
          walk_at "w"
          exact ⟨⟨_, ns ++ [m], rfl, s6.put hDq, by simp [hl], by rw [upd_same]; simp⟩⟩
        rintro σ G2 ⟨v, qs, rfl, sG2, hql, hq2⟩
        rw [List.length_map] at hql
        have hppG2 := sG2 _ _ hppG1
        have hflat := flat_ints qs
        walk_at "w"
        intro Da hDa
        refine comp_filter (fun n => !decide (n ∈ qs)) hDa (SqL.of hppG2) (by omega) (fun x hx H6 Qt s q' => ?_) fun G3 sG3 hD3 => ?_
        · refine ⟨_, rfl, _, rfl, Dq, _, rfl, .inl (SqL.of (s _ _ hq2)), rfl, hflat, _, rfl, ?_⟩
          show Qt (!inV (V.int x) (qs.map V.int)) H6
          rw [inV_int]
          exact q' H6 (Same.refl H6)
        obtain ⟨aw, haw⟩ : ∃ aw, (pool.filter fun n => !decide (n ∈ qs)) = aw := ⟨_, rfl⟩
        have hA : AwOk pool aw := ⟨fun x hx => by rw [← haw] at hx; exact (List.mem_filter.mp hx).1, by rw [← haw]; exact hnd.filter _⟩
        have hq : ∀ T : List Int, T.Nodup → (∀ t ∈ T, t ∈ pool ∧ ¬ t ∈ aw) → T.length < (1 + t1.sum % 4).toNat := fun T hd ht => by
          have := len_sub (m := qs) hd fun t h => by
            obtain ⟨a1, a2⟩ := ht t h
            by_cases z : t ∈ qs
            · exact z
            · exact absurd (by rw [← haw]; exact List.mem_filter.mpr ⟨a1, by simpa using z⟩) a2
          omega
        rw [haw] at hD3
        have haw10 : aw.length ≤ 10 := Nat.le_trans (len_sub hA.nd hA.sub) hpl10
        have K3 := K'.same (sG1.trans (sG2.trans sG3))
        have e3 := sG3 _ _ (sG2 _ _ (sG1 _ _ e'))
        have hpp3 := sG3 _ _ hppG2
        clear hq2 hql hflat haw hdd hdl hDq hqd hqd1
        walk_at "w"
        intro q4 hq4
        have s4' : Same G3 (upd G3 q4 (.lst [])) := Same.new G3 hq4
        have e4' : upd G3 q4 (.lst []) q4 = some (.lst (([] : List Int).map V.int)) := upd_same
        generalize upd G3 q4 (.lst []) = G4 at s4' e4'
        have hD4 := s4' _ _ hD3
        have K4 := K3.same s4'
        have e4 := s4' _ _ e3
        have hpp4 := s4' _ _ hpp3
        refine ⟨Da, q4, aw, [], rfl, rfl, SqL.of hD4, SqL.of e4', _, rfl, ?_⟩
        show if (!decide (aw = [])) = true then _ else _
        by_cases hemp : aw = []
        · refine iteNS hemp ?_
          exact ⟨⟨_, _, _, _, _, _, _, _, rfl, K4, e4⟩⟩
        refine iteNF hemp ?_
        have haw0 : 0 < ((aw.map V.int).length : Int) := by
          rw [List.length_map]
          have := List.length_pos_iff.mpr hemp
          omega
        obtain ⟨st, hst, hats⟩ := at_int (ns := aw) (i := cell / 3 % ((aw.map V.int).length : Int)) (by
          have := Int.emod_nonneg (cell / 3) (Int.ne_of_gt haw0)
          omega) (by
          have := Int.emod_lt_of_pos (cell / 3) haw0
          rw [List.length_map] at this ⊢
          exact this)
        have hpw : (0 : Int) < 1 * 2 ^ z.toNat := by rw [Int.one_mul]; exact two_pow_pos _
        have hszp : (pool.map V.int).length + [V.int (cell / 16 % (1 * 2 ^ z.toNat))].length ≤ sizeLine := by
          rw [List.length_map]
          exact Nat.le_of_lt (small1000 (by simp; omega))
        walk_at "w"
        intro r1 hr1
        have hX : 0 ≤ cell / 16 % (1 * 2 ^ z.toNat) := Int.emod_nonneg _ (Int.ne_of_gt hpw)
        show rCat (V.ref pp) (V.ref r1) (upd G4 r1 (.lst [V.int (cell / 16 % (1 * 2 ^ z.toNat))])) _
        generalize cell / 16 % (1 * 2 ^ z.toNat) = x16 at hX hszp ⊢
        have s5' : Same G4 (upd G4 r1 (.lst [V.int x16])) := Same.new G4 hr1
        have e5' : upd G4 r1 (.lst [V.int x16]) r1 = some (.lst [V.int x16]) := upd_same
        generalize upd G4 r1 (.lst [V.int x16]) = G5 at s5' e5'
        have hpp5 := s5' _ _ hpp4
        walk_at "w"
        intro r2 hr2
        have s6' : Same G5 (upd G5 r2 (.lst (pool.map V.int ++ [V.int x16]))) := Same.new G5 hr2
        have e6' : upd G5 r2 (.lst (pool.map V.int ++ [V.int x16])) r2 = some (.lst ((pool ++ [x16]).map V.int)) := by rw [upd_same, List.map_append]; try rfl
        generalize upd G5 r2 (.lst (pool.map V.int ++ [V.int x16])) = G6 at s6' e6'
        have hlp : 0 < (((pool ++ [x16]).map V.int).length : Int) := by rw [List.length_map, List.length_append, List.length_singleton]; omega
        obtain ⟨gl, hgl, hatg⟩ := at_int (ns := pool ++ [x16]) (i := cell / 16 % (((pool ++ [x16]).map V.int).length : Int)) (by
          have := Int.emod_nonneg (cell / 16) (Int.ne_of_gt hlp)
          omega) (by
          have := Int.emod_lt_of_pos (cell / 16) hlp
          rw [List.length_map] at this ⊢
          exact this)
        have hgl0 : 0 ≤ gl := snoc_all (p := fun x => 0 ≤ x) (fun x hx => (hpn x hx).1) hX gl hgl
        have s46 := s5'.trans s6'
        have K6 := K4.same s46
        have T6 := T9.kz K6 (exN_no _) fun _ _ _ => exN_no _
        have e6 := s46 _ _ e4
        have hD6 := s46 _ _ hD4
        walk_at "w"
        refine ⟨fun y hy => (hpn y hy).2, hst, hgl0, hrm1, hrm4, hz1, hz60, K6.t, fun G7 K67 => ?_⟩
        walk_at "w"
        exact ⟨⟨_, _, _, _, _, _, _, _, rfl, K6.trans K67, K67.lst (exN_no _) e6⟩⟩
      · rintro σ H' ⟨v7, v8, v9, v10, v11, v12, v13, v14, rfl, K', e'⟩
        exact k H'
end
theorem all_mk {l : PySem.W.OpenLaw} {w : World} {K : PySem.W.Frag} {h : Heap} {mg : Str → Option Value} {ts : List Addr} {fa f0 c0 P0 f1 c1 P1 f2 c2 P2 f3 f4 f5 f6 f7 f8 f9 f10 f11 f12 f13 f14 f15 f16 f17 f18 : Addr} (X : K.In h) (G : h.Ns mainGlobals mg) (hfa : mg "law" = some (.ref fa))
    {od0 an0 qb0 od1 an1 qb1 od2 an2 qb2 od3 an3 od4 an4 od5 an5 od6 an6 od7 an7 od8 an8 od9 an9 od10 an10 od11 an11 od12 an12 od13 an13 od14 an14 od15 an15 od16 an16 od17 an17 od18 an18 : Option Addr} {sl0 qs0 sl1 qs1 sl2 qs2 sl3 sl4 sl5 sl6 sl7 sl8 sl9 sl10 sl11 sl12 sl13 sl14 sl15 sl16 sl17 sl18 : Array (Option Value)} {oc0 kV0 dc0 pm0 ct0 qa0 oc1 kV1 dc1 pm1 ct1 qa1 oc2 kV2 dc2 pm2 ct2 qa2 oc3 kV3 dc3 pm3 ct3 cd3 oc4 kV4 dc4 pm4 ct4 cd4 oc5 kV5 dc5 pm5 ct5 cd5 oc6 kV6 dc6 pm6 ct6 cd6 oc7 kV7 dc7 pm7 ct7 cd7 oc8 kV8 dc8 pm8 ct8 cd8 oc9 kV9 dc9 pm9 ct9 cd9 oc10 kV10 dc10 pm10 ct10 cd10 oc11 kV11 dc11 pm11 ct11 cd11 oc12 kV12 dc12 pm12 ct12 cd12 oc13 kV13 dc13 pm13 ct13 cd13 oc14 kV14 dc14 pm14 ct14 cd14 oc15 kV15 dc15 pm15 ct15 cd15 oc16 kV16 dc16 pm16 ct16 cd16 oc17 kV17 dc17 pm17 ct17 cd17 oc18 kV18 dc18 pm18 ct18 cd18 : Value} {qv0 qv1 qv2 : Array Value}
    (a0 : PySem.W.nsIn K mainGlobals "by_nearness" = some (some (.ref f0)))
    (l0 : K.lookup f0 = some ⟨oc0, od0, .func (PySem.W.fnOf "by_nearness" "by_nearness" (defArgs (top 3)) (defBody (top 3)) (defScope (top 3)) .none kV0 dc0 pm0 an0 (.ref c0) ct0), sl0⟩)
    (e0 : PySem.W.codeIn K (.ref c0) "by_nearness" = true) (k0 : PySem.W.keepIn K (.ref f0) = true)
    (t0 : K.lookup c0 = some ⟨qa0, qb0, .fields qv0, qs0⟩) (r0 : (qv0[11]? : Option Value) = some (.ref P0))
    (h0 : PySem.W.codeHdIn K c0 P0 = true) (n0 : K.lookup P0 = none) (m0 : P0 ∈ ts)
    (a1 : PySem.W.nsIn K mainGlobals "_law_by" = some (some (.ref f1)))
    (l1 : K.lookup f1 = some ⟨oc1, od1, .func (PySem.W.fnOf "_law_by" "_law_by" (defArgs (top 17)) (defBody (top 17)) (defScope (top 17)) .none kV1 dc1 pm1 an1 (.ref c1) ct1), sl1⟩)
    (e1 : PySem.W.codeIn K (.ref c1) "_law_by" = true) (k1 : PySem.W.keepIn K (.ref f1) = true)
    (t1 : K.lookup c1 = some ⟨qa1, qb1, .fields qv1, qs1⟩) (r1 : (qv1[11]? : Option Value) = some (.ref P1))
    (h1 : PySem.W.codeHdIn K c1 P1 = true) (n1 : K.lookup P1 = none) (m1 : P1 ∈ ts)
    (a2 : PySem.W.nsIn K mainGlobals "_law_right" = some (some (.ref f2)))
    (l2 : K.lookup f2 = some ⟨oc2, od2, .func (PySem.W.fnOf "_law_right" "_law_right" (defArgs (top 20)) (defBody (top 20)) (defScope (top 20)) .none kV2 dc2 pm2 an2 (.ref c2) ct2), sl2⟩)
    (e2 : PySem.W.codeIn K (.ref c2) "_law_right" = true) (k2 : PySem.W.keepIn K (.ref f2) = true)
    (t2 : K.lookup c2 = some ⟨qa2, qb2, .fields qv2, qs2⟩) (r2 : (qv2[11]? : Option Value) = some (.ref P2))
    (h2 : PySem.W.codeHdIn K c2 P2 = true) (n2 : K.lookup P2 = none) (m2 : P2 ∈ ts)
    (a3 : PySem.W.nsIn K mainGlobals "far" = some (some (.ref f3)))
    (l3 : K.lookup f3 = some ⟨oc3, od3, .func (PySem.W.fnOf "far" "far" (defArgs (top 1)) (defBody (top 1)) (defScope (top 1)) .none kV3 dc3 pm3 an3 cd3 ct3), sl3⟩)
    (e3 : PySem.W.codeIn K cd3 "far" = true) (k3 : PySem.W.keepIn K (.ref f3) = true)
    (a4 : PySem.W.nsIn K mainGlobals "nearer" = some (some (.ref f4)))
    (l4 : K.lookup f4 = some ⟨oc4, od4, .func (PySem.W.fnOf "nearer" "nearer" (defArgs (top 2)) (defBody (top 2)) (defScope (top 2)) .none kV4 dc4 pm4 an4 cd4 ct4), sl4⟩)
    (e4 : PySem.W.codeIn K cd4 "nearer" = true) (k4 : PySem.W.keepIn K (.ref f4) = true)
    (a5 : PySem.W.nsIn K mainGlobals "asked" = some (some (.ref f5)))
    (l5 : K.lookup f5 = some ⟨oc5, od5, .func (PySem.W.fnOf "asked" "asked" (defArgs (top 5)) (defBody (top 5)) (defScope (top 5)) .none kV5 dc5 pm5 an5 cd5 ct5), sl5⟩)
    (e5 : PySem.W.codeIn K cd5 "asked" = true) (k5 : PySem.W.keepIn K (.ref f5) = true)
    (a6 : PySem.W.nsIn K mainGlobals "note_told" = some (some (.ref f6)))
    (l6 : K.lookup f6 = some ⟨oc6, od6, .func (PySem.W.fnOf "note_told" "note_told" (defArgs (top 6)) (defBody (top 6)) (defScope (top 6)) .none kV6 dc6 pm6 an6 cd6 ct6), sl6⟩)
    (e6 : PySem.W.codeIn K cd6 "note_told" = true) (k6 : PySem.W.keepIn K (.ref f6) = true)
    (a7 : PySem.W.nsIn K mainGlobals "standing" = some (some (.ref f7)))
    (l7 : K.lookup f7 = some ⟨oc7, od7, .func (PySem.W.fnOf "standing" "standing" (defArgs (top 7)) (defBody (top 7)) (defScope (top 7)) .none kV7 dc7 pm7 an7 cd7 ct7), sl7⟩)
    (e7 : PySem.W.codeIn K cd7 "standing" = true) (k7 : PySem.W.keepIn K (.ref f7) = true)
    (a8 : PySem.W.nsIn K mainGlobals "first_unasked" = some (some (.ref f8)))
    (l8 : K.lookup f8 = some ⟨oc8, od8, .func (PySem.W.fnOf "first_unasked" "first_unasked" (defArgs (top 8)) (defBody (top 8)) (defScope (top 8)) .none kV8 dc8 pm8 an8 cd8 ct8), sl8⟩)
    (e8 : PySem.W.codeIn K cd8 "first_unasked" = true) (k8 : PySem.W.keepIn K (.ref f8) = true)
    (a9 : PySem.W.nsIn K mainGlobals "way" = some (some (.ref f9)))
    (l9 : K.lookup f9 = some ⟨oc9, od9, .func (PySem.W.fnOf "way" "way" (defArgs (top 9)) (defBody (top 9)) (defScope (top 9)) .none kV9 dc9 pm9 an9 cd9 ct9), sl9⟩)
    (e9 : PySem.W.codeIn K cd9 "way" = true) (k9 : PySem.W.keepIn K (.ref f9) = true)
    (a10 : PySem.W.nsIn K mainGlobals "goes_next" = some (some (.ref f10)))
    (l10 : K.lookup f10 = some ⟨oc10, od10, .func (PySem.W.fnOf "goes_next" "goes_next" (defArgs (top 10)) (defBody (top 10)) (defScope (top 10)) .none kV10 dc10 pm10 an10 cd10 ct10), sl10⟩)
    (e10 : PySem.W.codeIn K cd10 "goes_next" = true) (k10 : PySem.W.keepIn K (.ref f10) = true)
    (a11 : PySem.W.nsIn K mainGlobals "_law_mixed" = some (some (.ref f11)))
    (l11 : K.lookup f11 = some ⟨oc11, od11, .func (PySem.W.fnOf "_law_mixed" "_law_mixed" (defArgs (top 12)) (defBody (top 12)) (defScope (top 12)) .none kV11 dc11 pm11 an11 cd11 ct11), sl11⟩)
    (e11 : PySem.W.codeIn K cd11 "_law_mixed" = true) (k11 : PySem.W.keepIn K (.ref f11) = true)
    (a12 : PySem.W.nsIn K mainGlobals "_law_digits" = some (some (.ref f12)))
    (l12 : K.lookup f12 = some ⟨oc12, od12, .func (PySem.W.fnOf "_law_digits" "_law_digits" (defArgs (top 13)) (defBody (top 13)) (defScope (top 13)) .none kV12 dc12 pm12 an12 cd12 ct12), sl12⟩)
    (e12 : PySem.W.codeIn K cd12 "_law_digits" = true) (k12 : PySem.W.keepIn K (.ref f12) = true)
    (a13 : PySem.W.nsIn K mainGlobals "_law_wide" = some (some (.ref f13)))
    (l13 : K.lookup f13 = some ⟨oc13, od13, .func (PySem.W.fnOf "_law_wide" "_law_wide" (defArgs (top 14)) (defBody (top 14)) (defScope (top 14)) .none kV13 dc13 pm13 an13 cd13 ct13), sl13⟩)
    (e13 : PySem.W.codeIn K cd13 "_law_wide" = true) (k13 : PySem.W.keepIn K (.ref f13) = true)
    (a14 : PySem.W.nsIn K mainGlobals "_law_near" = some (some (.ref f14)))
    (l14 : K.lookup f14 = some ⟨oc14, od14, .func (PySem.W.fnOf "_law_near" "_law_near" (defArgs (top 15)) (defBody (top 15)) (defScope (top 15)) .none kV14 dc14 pm14 an14 cd14 ct14), sl14⟩)
    (e14 : PySem.W.codeIn K cd14 "_law_near" = true) (k14 : PySem.W.keepIn K (.ref f14) = true)
    (a15 : PySem.W.nsIn K mainGlobals "_law_pool" = some (some (.ref f15)))
    (l15 : K.lookup f15 = some ⟨oc15, od15, .func (PySem.W.fnOf "_law_pool" "_law_pool" (defArgs (top 16)) (defBody (top 16)) (defScope (top 16)) .none kV15 dc15 pm15 an15 cd15 ct15), sl15⟩)
    (e15 : PySem.W.codeIn K cd15 "_law_pool" = true) (k15 : PySem.W.keepIn K (.ref f15) = true)
    (a16 : PySem.W.nsIn K mainGlobals "_law_step" = some (some (.ref f16)))
    (l16 : K.lookup f16 = some ⟨oc16, od16, .func (PySem.W.fnOf "_law_step" "_law_step" (defArgs (top 18)) (defBody (top 18)) (defScope (top 18)) .none kV16 dc16 pm16 an16 cd16 ct16), sl16⟩)
    (e16 : PySem.W.codeIn K cd16 "_law_step" = true) (k16 : PySem.W.keepIn K (.ref f16) = true)
    (a17 : PySem.W.nsIn K mainGlobals "_law_kept" = some (some (.ref f17)))
    (l17 : K.lookup f17 = some ⟨oc17, od17, .func (PySem.W.fnOf "_law_kept" "_law_kept" (defArgs (top 19)) (defBody (top 19)) (defScope (top 19)) .none kV17 dc17 pm17 an17 cd17 ct17), sl17⟩)
    (e17 : PySem.W.codeIn K cd17 "_law_kept" = true) (k17 : PySem.W.keepIn K (.ref f17) = true)
    (a18 : PySem.W.nsIn K mainGlobals "law" = some (some (.ref f18)))
    (l18 : K.lookup f18 = some ⟨oc18, od18, .func (PySem.W.fnOf "law" "law" (defArgs (top 21)) (defBody (top 21)) (defScope (top 21)) .none kV18 dc18 pm18 an18 cd18 ct18), sl18⟩)
    (e18 : PySem.W.codeIn K cd18 "law" = true) (k18 : PySem.W.keepIn K (.ref f18) = true)
    (hneA : P0 ≠ P1)
    (hneB : P0 ≠ P2)
    (hneC : P1 ≠ P2)
    (z0 : PySem.W.nsIn K mainGlobals "len" = some none) (z1 : PySem.W.nsIn K mainGlobals "sum" = some none) (z2 : PySem.W.nsIn K mainGlobals "max" = some none) (z3 : PySem.W.nsIn K mainGlobals "range" = some none) (z4 : PySem.W.nsIn K mainGlobals "sorted" = some none) (z5 : PySem.W.nsIn K mainGlobals "set" = some none) (z6 : PySem.W.nsIn K mainGlobals "enumerate" = some none) (z7 : PySem.W.nsIn K mainGlobals "isinstance" = some none) (z8 : PySem.W.nsIn K mainGlobals "list" = some none) (z9 : PySem.W.nsIn K mainGlobals "tuple" = some none) (z10 : PySem.W.nsIn K mainGlobals "all" = some none) (z11 : PySem.W.nsIn K mainGlobals "min" = some none) (z12 : PySem.W.nsIn K mainGlobals "zip" = some none) :
    ∃ (fd : FuncData) (tabs : List (Addr × Addr)), (∀ q ∈ tabs, q.2 ∈ ts ∧ PySem.W.codeHdIn K q.1 q.2 = true ∧ K.lookup q.2 = none) ∧ (∀ (s : Shared) (v : Value), BindsTo s fd ⟨[v], []⟩ [("_law_script", v)]) ∧ ∀ base : Heap, K.In base → base.Ns mainGlobals mg → (∀ q ∈ tabs, base.BuiltinsAt mg q.2) → FnOk l.prog w K mg base CX0 9 fa fd ["_law_script"] (spLawT K tabs) := by
  have e := hfa.symm.trans (PySem.W.mg_of X G a18)
  cases e
  have T : Txt mg := ⟨PySem.W.mg_none_of X G z0, PySem.W.mg_none_of X G z1, PySem.W.mg_none_of X G z2, PySem.W.mg_none_of X G z3, PySem.W.mg_none_of X G z4, PySem.W.mg_none_of X G z5, PySem.W.mg_none_of X G z6, PySem.W.mg_none_of X G z7, PySem.W.mg_none_of X G z8, PySem.W.mg_none_of X G z9, PySem.W.mg_none_of X G z10, PySem.W.mg_none_of X G z11, PySem.W.mg_none_of X G z12⟩
  let D_by_nearness : DfF K mg "by_nearness" (top 3) ["goal", "names"] := ⟨f0, c0, P0, _, ⟨_, _, _, _, _, _, _, _, rfl, l0⟩, e0, h0, n0, k0, PySem.W.mg_of X G a0, (fun_mk (st := top 3) l0 e0 k0).binds fun _ _ _ _ _ _ us hl => match us, hl with | [_, _], _ => rfl⟩
  let D__law_by : DfF K mg "_law_by" (top 17) ["_law_goal", "_law_names"] := ⟨f1, c1, P1, _, ⟨_, _, _, _, _, _, _, _, rfl, l1⟩, e1, h1, n1, k1, PySem.W.mg_of X G a1, (fun_mk (st := top 17) l1 e1 k1).binds fun _ _ _ _ _ _ us hl => match us, hl with | [_, _], _ => rfl⟩
  let D__law_right : DfF K mg "_law_right" (top 20) ["_law_keeps", "_law_awake", "_law_wide_here", "_law_room", "_law_start", "_law_goal"] := ⟨f2, c2, P2, _, ⟨_, _, _, _, _, _, _, _, rfl, l2⟩, e2, h2, n2, k2, PySem.W.mg_of X G a2, (fun_mk (st := top 20) l2 e2 k2).binds fun _ _ _ _ _ _ us hl => match us, hl with | [_, _, _, _, _, _], _ => rfl⟩
  let D_far : Df K mg "far" (top 1) ["one", "other"] := ⟨_, _, fun_mk (st := top 1) l3 e3 k3, PySem.W.mg_of X G a3, (fun_mk (st := top 1) l3 e3 k3).binds fun _ _ _ _ _ _ us hl => match us, hl with | [_, _], _ => rfl⟩
  let D_nearer : Df K mg "nearer" (top 2) ["goal", "one", "other"] := ⟨_, _, fun_mk (st := top 2) l4 e4 k4, PySem.W.mg_of X G a4, (fun_mk (st := top 2) l4 e4 k4).binds fun _ _ _ _ _ _ us hl => match us, hl with | [_, _, _], _ => rfl⟩
  let D_asked : Df K mg "asked" (top 5) ["start", "goal", "room", "tells"] := ⟨_, _, fun_mk (st := top 5) l5 e5 k5, PySem.W.mg_of X G a5, (fun_mk (st := top 5) l5 e5 k5).binds fun _ _ _ _ _ _ us hl => match us, hl with | [_, _, _, _], _ => rfl⟩
  let D_note_told : Df K mg "note_told" (top 6) ["seen", "start", "house", "told"] := ⟨_, _, fun_mk (st := top 6) l6 e6 k6, PySem.W.mg_of X G a6, (fun_mk (st := top 6) l6 e6 k6).binds fun _ _ _ _ _ _ us hl => match us, hl with | [_, _, _, _], _ => rfl⟩
  let D_standing : Df K mg "standing" (top 7) ["seen", "goal", "room"] := ⟨_, _, fun_mk (st := top 7) l7 e7 k7, PySem.W.mg_of X G a7, (fun_mk (st := top 7) l7 e7 k7).binds fun _ _ _ _ _ _ us hl => match us, hl with | [_, _, _], _ => rfl⟩
  let D_first_unasked : Df K mg "first_unasked" (top 8) ["names", "row"] := ⟨_, _, fun_mk (st := top 8) l8 e8 k8, PySem.W.mg_of X G a8, (fun_mk (st := top 8) l8 e8 k8).binds fun _ _ _ _ _ _ us hl => match us, hl with | [_, _], _ => rfl⟩
  let D_way : Df K mg "way" (top 9) ["start", "goal", "tells"] := ⟨_, _, fun_mk (st := top 9) l9 e9 k9, PySem.W.mg_of X G a9, (fun_mk (st := top 9) l9 e9 k9).binds fun _ _ _ _ _ _ us hl => match us, hl with | [_, _, _], _ => rfl⟩
  let D_goes_next : Df K mg "goes_next" (top 10) ["here", "goal", "tells"] := ⟨_, _, fun_mk (st := top 10) l10 e10 k10, PySem.W.mg_of X G a10, (fun_mk (st := top 10) l10 e10 k10).binds fun _ _ _ _ _ _ us hl => match us, hl with | [_, _, _], _ => rfl⟩
  let D__law_mixed : Df K mg "_law_mixed" (top 12) ["_law_cell", "_law_k"] := ⟨_, _, fun_mk (st := top 12) l11 e11 k11, PySem.W.mg_of X G a11, (fun_mk (st := top 12) l11 e11 k11).binds fun _ _ _ _ _ _ us hl => match us, hl with | [_, _], _ => rfl⟩
  let D__law_digits : Df K mg "_law_digits" (top 13) ["_law_cell", "_law_base", "_law_many"] := ⟨_, _, fun_mk (st := top 13) l12 e12 k12, PySem.W.mg_of X G a12, (fun_mk (st := top 13) l12 e12 k12).binds fun _ _ _ _ _ _ us hl => match us, hl with | [_, _, _], _ => rfl⟩
  let D__law_wide : Df K mg "_law_wide" (top 14) ["_law_cell"] := ⟨_, _, fun_mk (st := top 14) l13 e13 k13, PySem.W.mg_of X G a13, (fun_mk (st := top 14) l13 e13 k13).binds fun _ _ _ _ _ _ us hl => match us, hl with | [_], _ => rfl⟩
  let D__law_near : Df K mg "_law_near" (top 15) ["_law_signs", "_law_wide_here", "_law_first"] := ⟨_, _, fun_mk (st := top 15) l14 e14 k14, PySem.W.mg_of X G a14, (fun_mk (st := top 15) l14 e14 k14).binds fun _ _ _ _ _ _ us hl => match us, hl with | [_, _, _], _ => rfl⟩
  let D__law_pool : Df K mg "_law_pool" (top 16) ["_law_cell", "_law_wide_here", "_law_many"] := ⟨_, _, fun_mk (st := top 16) l15 e15 k15, PySem.W.mg_of X G a15, (fun_mk (st := top 16) l15 e15 k15).binds fun _ _ _ _ _ _ us hl => match us, hl with | [_, _, _], _ => rfl⟩
  let D__law_step : Df K mg "_law_step" (top 18) ["_law_one", "_law_other"] := ⟨_, _, fun_mk (st := top 18) l16 e16 k16, PySem.W.mg_of X G a16, (fun_mk (st := top 18) l16 e16 k16).binds fun _ _ _ _ _ _ us hl => match us, hl with | [_, _], _ => rfl⟩
  let D__law_kept : Df K mg "_law_kept" (top 19) ["_law_pool_here", "_law_house", "_law_room", "_law_cell"] := ⟨_, _, fun_mk (st := top 19) l17 e17 k17, PySem.W.mg_of X G a17, (fun_mk (st := top 19) l17 e17 k17).binds fun _ _ _ _ _ _ us hl => match us, hl with | [_, _, _, _], _ => rfl⟩
  let D_law : Df K mg "law" (top 21) ["_law_script"] := ⟨_, _, fun_mk (st := top 21) l18 e18 k18, PySem.W.mg_of X G a18, (fun_mk (st := top 21) l18 e18 k18).binds fun _ _ _ _ _ _ us hl => match us, hl with | [_], _ => rfl⟩
  refine ⟨PySem.W.fnOf "law" "law" (defArgs (top 21)) (defBody (top 21)) (defScope (top 21)) .none kV18 dc18 pm18 an18 cd18 ct18, [(c0, P0), (c1, P1), (c2, P2)], fun q hq => by
    simp only [List.mem_cons, List.not_mem_nil, or_false] at hq
    rcases hq with rfl | rfl | rfl
    · exact ⟨m0, h0, n0⟩
    · exact ⟨m1, h1, n1⟩
    · exact ⟨m2, h2, n2⟩, fun s v => .of_eq rfl, fun base hK hG hB => ?_⟩
  have ht_by_nearness : (D_by_nearness.c, D_by_nearness.P) ∈ ([(c0, P0), (c1, P1), (c2, P2)] : List (Addr × Addr)) := .head _
  have hB_by_nearness : base.BuiltinsAt mg D_by_nearness.P := hB (c0, P0) (by simp)
  have ht__law_by : (D__law_by.c, D__law_by.P) ∈ ([(c0, P0), (c1, P1), (c2, P2)] : List (Addr × Addr)) := .tail _ (.head _)
  have hB__law_by : base.BuiltinsAt mg D__law_by.P := hB (c1, P1) (by simp)
  have ht__law_right : (D__law_right.c, D__law_right.P) ∈ ([(c0, P0), (c1, P1), (c2, P2)] : List (Addr × Addr)) := .tail _ (.tail _ (.head _))
  have hB__law_right : base.BuiltinsAt mg D__law_right.P := hB (c2, P2) (by simp)
  exact ok_law T hK D_far D_nearer D_by_nearness hB_by_nearness D_note_told D_standing D_first_unasked D_asked D_goes_next D_way D__law_by hB__law_by D__law_right hB__law_right hneA hneB hneC D__law_mixed D__law_digits D__law_wide D__law_near D__law_pool D__law_step D__law_kept D_law ht_by_nearness ht__law_by ht__law_right
theorem walk {l : PySem.W.OpenLaw} {q : Program} {loose : List Str} {XP : (Str → Option Value) → Heap → Prop} {YP : World → Heap → Prop} {d : DefRec} {K : Params → PySem.W.Frag} {ts : List Addr} (hn : l.most = some 63) (hdf : d.params.defaults = [])
    (hY : ∀ (w : World) (h : Heap), YP w h → (K w.params).In h) (hYT : ∀ (w : World) (h : Heap), YP w h → ∀ P ∈ ts, h.get? P = some (PySem.W.tabObj #[]))
    (F : ∀ (w : World) (mg : Str → Option Value) (fa : Addr) (h : Heap), (K w.params).In h → h.Ns mainGlobals mg → mg d.name = some (.ref fa) →
      ∃ (fd : FuncData) (tabs : List (Addr × Addr)), (∀ q ∈ tabs, q.2 ∈ ts ∧ PySem.W.codeHdIn (K w.params) q.1 q.2 = true ∧ (K w.params).lookup q.2 = none) ∧ (∀ (s : Shared) (u : Value), BindsTo s fd ⟨[u], []⟩ [("_law_script", u)]) ∧
        ∀ base : Heap, (K w.params).In base → base.Ns mainGlobals mg → (∀ q ∈ tabs, base.BuiltinsAt mg q.2) → FnOk l.prog w (K w.params) mg base CX0 9 fa fd ["_law_script"] (spLawT (K w.params) tabs)) :
    PySem.W.WalkO q loose XP YP l.row.toRowW d [] (fun f vs => PySem.call f vs) :=
  L2.walk_ofT (n := 63) (k := 9) (x := "_law_script") (sp := spLawT) hn (by decide) hdf ⟨rfl, by decide, by decide⟩ hY hYT F fun K tabs H a ns hl hS hT => ⟨a, ns, rfl, hS, hl, hT, fun _ => rfl⟩
end NN
open PySem PySem.W PyProof.Rows
set_option maxRecDepth 100000 in
set_option maxHeartbeats 0 in
theorem PySem.Challenge.cw_nearnames_k24_fewer_silent_holds : PySem.Challenge.rw_nearnames_k24_fewer_silent.Holds := by
  w_on; o_law; k_head; (case hw => w_witness2)
  k_fill
  refine NN.walk (l := PySem.Challenge.rw_nearnames_k24_fewer_silent) rfl rfl (fun w h Y => PySem.W.km_in_of Y) (fun w h Y => PySem.W.km_tabs_of Y) ?F
  case F =>
    intro w mg fa h KX G hmg
    refine' NN.all_mk KX G hmg ?a0 ?l0 ?e0 ?k0 ?t0 ?r0 ?h0 ?n0 ?m0 ?a1 ?l1 ?e1 ?k1 ?t1 ?r1 ?h1 ?n1 ?m1 ?a2 ?l2 ?e2 ?k2 ?t2 ?r2 ?h2 ?n2 ?m2 ?a3 ?l3 ?e3 ?k3 ?a4 ?l4 ?e4 ?k4 ?a5 ?l5 ?e5 ?k5 ?a6 ?l6 ?e6 ?k6 ?a7 ?l7 ?e7 ?k7 ?a8 ?l8 ?e8 ?k8 ?a9 ?l9 ?e9 ?k9 ?a10 ?l10 ?e10 ?k10 ?a11 ?l11 ?e11 ?k11 ?a12 ?l12 ?e12 ?k12 ?a13 ?l13 ?e13 ?k13 ?a14 ?l14 ?e14 ?k14 ?a15 ?l15 ?e15 ?k15 ?a16 ?l16 ?e16 ?k16 ?a17 ?l17 ?e17 ?k17 ?a18 ?l18 ?e18 ?k18 ?hneA ?hneB ?hneC ?z0 ?z1 ?z2 ?z3 ?z4 ?z5 ?z6 ?z7 ?z8 ?z9 ?z10 ?z11 ?z12
    (case a0 => k_is)
    (case l0 => k_is)
    (case e0 => k_is)
    (case k0 => k_is)
    (case t0 => k_is)
    (case r0 => exact rfl)
    (case h0 => kernel_rfl)
    (case n0 => kernel_rfl)
    (case m0 => decide)
    (case a1 => k_is)
    (case l1 => k_is)
    (case e1 => k_is)
    (case k1 => k_is)
    (case t1 => k_is)
    (case r1 => exact rfl)
    (case h1 => kernel_rfl)
    (case n1 => kernel_rfl)
    (case m1 => decide)
    (case a2 => k_is)
    (case l2 => k_is)
    (case e2 => k_is)
    (case k2 => k_is)
    (case t2 => k_is)
    (case r2 => exact rfl)
    (case h2 => kernel_rfl)
    (case n2 => kernel_rfl)
    (case m2 => decide)
    (case a3 => k_is)
    (case l3 => k_is)
    (case e3 => k_is)
    (case k3 => k_is)
    (case a4 => k_is)
    (case l4 => k_is)
    (case e4 => k_is)
    (case k4 => k_is)
    (case a5 => k_is)
    (case l5 => k_is)
    (case e5 => k_is)
    (case k5 => k_is)
    (case a6 => k_is)
    (case l6 => k_is)
    (case e6 => k_is)
    (case k6 => k_is)
    (case a7 => k_is)
    (case l7 => k_is)
    (case e7 => k_is)
    (case k7 => k_is)
    (case a8 => k_is)
    (case l8 => k_is)
    (case e8 => k_is)
    (case k8 => k_is)
    (case a9 => k_is)
    (case l9 => k_is)
    (case e9 => k_is)
    (case k9 => k_is)
    (case a10 => k_is)
    (case l10 => k_is)
    (case e10 => k_is)
    (case k10 => k_is)
    (case a11 => k_is)
    (case l11 => k_is)
    (case e11 => k_is)
    (case k11 => k_is)
    (case a12 => k_is)
    (case l12 => k_is)
    (case e12 => k_is)
    (case k12 => k_is)
    (case a13 => k_is)
    (case l13 => k_is)
    (case e13 => k_is)
    (case k13 => k_is)
    (case a14 => k_is)
    (case l14 => k_is)
    (case e14 => k_is)
    (case k14 => k_is)
    (case a15 => k_is)
    (case l15 => k_is)
    (case e15 => k_is)
    (case k15 => k_is)
    (case a16 => k_is)
    (case l16 => k_is)
    (case e16 => k_is)
    (case k16 => k_is)
    (case a17 => k_is)
    (case l17 => k_is)
    (case e17 => k_is)
    (case k17 => k_is)
    (case a18 => k_is)
    (case l18 => k_is)
    (case e18 => k_is)
    (case k18 => k_is)
    (case hneA => decide)
    (case hneB => decide)
    (case hneC => decide)
    (case z0 => k_is)
    (case z1 => k_is)
    (case z2 => k_is)
    (case z3 => k_is)
    (case z4 => k_is)
    (case z5 => k_is)
    (case z6 => k_is)
    (case z7 => k_is)
    (case z8 => k_is)
    (case z9 => k_is)
    (case z10 => k_is)
    (case z11 => k_is)
    (case z12 => k_is)
#print axioms PySem.Challenge.cw_nearnames_k24_fewer_silent_holds
