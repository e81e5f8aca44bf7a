import PyProof.Rows.All
import Wide.All
import OpenK.AllK
import Wide.FinOn
import Lean
import PyProof.EqAt
import PyProof.EqKinds
import PyProof.TupleCall
import PySem.Challenge.RW_nearnames_k36_towns_refused
set_option Elab.async false
set_option linter.all false
set_option maxRecDepth 100000
namespace L2
open PySem PySem.Spec PyProof.Rows
abbrev Key:=Sum Int Str
def zqq:Key→Value→Bool
 | .inl k,v=>Value.isInt k v
 | .inr x,v=>Value.isStrOf x v
def z0m (w:World):Key→Int
 | .inl k=>hashInt k
 | .inr x=>hashStr w x
theorem zc5:∀ {k:Key} {v:Value},zqq k v=true→(∃ i t,k=Sum.inl i∧v=Value.int i t)∨(∃ x t,k=Sum.inr x∧v=Value.str x t)
  | .inl i,v,h=>by
    obtain ⟨t,e⟩:=Value.isInt_shape (k:=i) (v:=v) h
    exact .inl ⟨i,t,rfl,e⟩
  | .inr x,v,h=>by
    obtain ⟨t,e⟩:=Value.isStrOf_shape (x:=x) (v:=v) h
    exact .inr ⟨x,t,rfl,e⟩
theorem zr8 (i:Int) (t:Tok):zqq (.inl i) (.int i t)=true:=by simp [zqq,Value.isInt]
theorem zqz (x:Str) (t:Tok):zqq (.inr x) (.str x t)=true:=by simp [zqq,Value.isStrOf]
theorem zxj (a b:Int):decide ((Sum.inl a:Key)=Sum.inl b)=(a == b):=by
 by_cases e:a=b
 ·subst e; simp
 ·have h:¬ (Sum.inl a:Key)=Sum.inl b:=fun q=>e (Sum.inl.inj q)
  rw [decide_eq_false h]
  exact (beq_eq_false_iff_ne.mpr e).symm
theorem zyk (a b:Str):decide ((Sum.inr a:Key)=Sum.inr b)=decide (a=b):=by
 by_cases e:a=b
 ·subst e; simp
 ·have h:¬ (Sum.inr a:Key)=Sum.inr b:=fun q=>e (Sum.inr.inj q)
  rw [decide_eq_false h,decide_eq_false e]
theorem zx_ (a:Int) (b:Str):decide ((Sum.inl a:Key)=Sum.inr b)=false:=decide_eq_false (fun q=>nomatch q)
theorem zx2 (a:Str) (b:Int):decide ((Sum.inr a:Key)=Sum.inl b)=false:=decide_eq_false (fun q=>nomatch q)
def zcr (prog:Program) (w:World):PySem.KeyKind prog w Key where
 is:=zqq
 hash:=z0m w
 inj:=fun v a b ha hb=>by
  rcases zc5 ha with ⟨i,t,rfl,rfl⟩ | ⟨x,t,rfl,rfl⟩
  ·rcases zc5 hb with ⟨j,u,rfl,e⟩ | ⟨y,u,rfl,e⟩
   ·injection e with e1 _; rw [e1]
   ·exact nomatch e
  ·rcases zc5 hb with ⟨j,u,rfl,e⟩ | ⟨y,u,rfl,e⟩
   ·exact nomatch e
   ·injection e with e1 _; rw [e1]
 byValue:=fun k v h=>by
  rcases zc5 h with ⟨i,t,rfl,rfl⟩ | ⟨x,t,rfl,rfl⟩ <;> rfl
 pyHash:=fun hv h=>by
  rcases zc5 hv with ⟨i,t,rfl,rfl⟩ | ⟨x,t,rfl,rfl⟩
  ·exact wpAny_pyHash_int h
  ·exact wpAny_pyHash_str h
 eqBool:=fun hu hv h=>by
  rcases zc5 hu with ⟨i,t,rfl,rfl⟩ | ⟨x,t,rfl,rfl⟩
  ·rcases zc5 hv with ⟨j,u,rfl,rfl⟩ | ⟨y,u,rfl,rfl⟩
   ·rw [zxj] at h; exact wpAny_eqBool_int h
   ·rw [zx_] at h; exact SeqAt.EqAt.int_str i t y u _ _ _ _ h
  ·rcases zc5 hv with ⟨j,u,rfl,rfl⟩ | ⟨y,u,rfl,rfl⟩
   ·rw [zx2] at h; exact SeqAt.EqAt.str_int x t j u _ _ _ _ h
   ·rw [zyk] at h; exact wpAny_eqBool_str h
 «strs» :=fun k x t v h=>by
  rcases zc5 h with ⟨i,u,rfl,e⟩ | ⟨y,u,rfl,e⟩
  ·exact nomatch e
  ·injection e with e1 _
   subst e1
   cases v <;> rfl
theorem zn2 (prog:Program) (w:World) (i:Int) (t:Tok):(zcr prog w).is (.inl i) (.int i t)=true:=zr8 i t
theorem zn0 (prog:Program) (w:World) (x:Str) (t:Tok):(zcr prog w).is (.inr x) (.str x t)=true:=zqz x t
end L2
namespace L2
open PySem PySem.Spec PyProof.Rows
inductive V where
 | non | bl (b:Bool) | int (i:Int) | str (x:Str) | byt (b:Array UInt8) | flt (b:UInt64) | ref (a:Addr) | ty (n:String)
 deriving DecidableEq
def zdk:V→Value→Prop
 | .non,u=>u=Value.none
 | .bl b,u=>u=Value.bool b
 | .int i,u=>∃ t,u=Value.int i t
 | .str x,u=>∃ t,u=Value.str x t
 | .byt b,u=>∃ t,u=Value.bytes b t
 | .flt b,u=>∃ t,u=Value.float b t
 | .ref a,u=>u=Value.ref a
 | .ty n,u=>u=Value.type n
abbrev zc2:List V→List Value→Prop:=Paired zdk
theorem zc2.length {xs:List V} {us:List Value} (r:zc2 xs us):xs.length=us.length:=Paired.length r
theorem zc2.get:∀ {xs:List V} {us:List Value} {i:Nat} {x:V},zc2 xs us→xs[i]? = some x→∃ u,us[i]? = some u∧zdk x u
  | _,_,_,_,.nil,e=>by simp at e
  | _,_,0,_,.cons r _,e=>by simp at e; subst e; exact ⟨_,rfl,r⟩
  | _,_,i+1,x,.cons _ t,e=>by
    obtain ⟨u,h1,h2⟩:=zc2.get (i:=i) (x:=x) t (by simpa using e)
    exact ⟨u,by simpa using h1,h2⟩
theorem zc2.set {x:V} {u:Value} (r:zdk x u):∀ {xs:List V} {us:List Value} (i:Nat),zc2 xs us→zc2 (xs.set i x) (us.set i u)
 | _,_,_,.nil=> .nil
 | _,_,0,.cons _ t=> .cons r t
 | _,_,i+1,.cons q t=> .cons q (zc2.set r i t)
theorem zc2.append:∀ {xs ys:List V} {us ws:List Value},zc2 xs us→zc2 ys ws→zc2 (xs++ys) (us++ws)
 | _,_,_,_,.nil,s=>s
 | _,_,_,_,.cons r t,s=> .cons r (zc2.append t s)
theorem zc2.take:∀ {xs:List V} {us:List Value} (n:Nat),zc2 xs us→zc2 (xs.take n) (us.take n)
 | _,_,0,_=> .nil
 | _,_,_+1,.nil=> .nil
 | _,_,n+1,.cons r t=> .cons r (zc2.take n t)
theorem zc2.drop:∀ {xs:List V} {us:List Value} (n:Nat),zc2 xs us→zc2 (xs.drop n) (us.drop n)
 | _,_,0,r=>r
 | _,_,_+1,.nil=> .nil
 | _,_,n+1,.cons _ t=>zc2.drop n t
theorem zc2.none_of:∀ {xs:List V} {us:List Value} {i:Nat},zc2 xs us→xs[i]? = none→us[i]? = none:=fun {xs us i} r e=>by
 have h1:=r.length
 have h2:xs.length≤i:=List.getElem?_eq_none_iff.mp e
 exact List.getElem?_eq_none_iff.mpr (by omega)
def zlw:Option V→Option Value→Prop
 | some v,some u=>zdk v u
 | none,none=>True
 | _,_=>False
def KV {κ:Type}:List (κ × V)→List (κ × Value)→Prop:=Paired fun (p:κ × V) (q:κ × Value)=>p.1=q.1∧zdk p.2 q.2
def kV:Key→V
 | .inl i=> .int i
 | .inr x=> .str x
inductive HO where
 | lst (xs:List V)
 | tup (xs:List V)
 | dK (kvs:List (Key × V)) | dT (kvs:List (List Key × V))
 | set (S:Int→Bool) (n:Nat)
 | ins (C dx:Addr) (fs:List (Str × V))
 | own (x:Addr)
 | xd (fs:List (Str × V))
 | met (f x:Addr)
 | rng (lo hi:Int)
 | frz (o:Obj) (u:HO)
 | tbl (ps:Array Value)
 | ext (φ:Heap→Prop)
abbrev Hp:=Addr→Option HO
def upd (H:Hp) (a:Addr) (o:HO):Hp:=fun b=>if b=a then some o else H b
theorem zam {H:Hp} {a:Addr} {o:HO}:upd H a o a=some o:=by unfold upd; rw [if_pos rfl]
theorem zal {H:Hp} {a b:Addr} {o:HO} (h:b≠a):upd H a o b=H b:=by unfold upd; rw [if_neg h]
theorem zd_ {H:Hp} {a b:Addr} {o u:HO} (h:H a=some o) (h':H b=some u) (d:o≠u):a≠b:=by
 intro e; subst e; rw [h] at h'; exact d (Option.some.inj h')
theorem zap {H:Hp} {a b:Addr} {o:HO} (h:H a=some o) (h':H b=none):a≠b:=by
 intro e; subst e; rw [h] at h'; cases h'
section
variable (P:Program) (w:World)
def zdy (H:Hp) (h:Heap) (a:Addr):HO→Prop
 | .lst xs=>xs.length≤sizeLine∧∃ (its:List Value) (n:Nat),zc2 xs its∧h.get? a=some { cls:= .type "list",data:= .seq its.toArray n }
 | .tup xs=>xs.length≤sizeLine∧∃ its:List Value,zc2 xs its∧IsTup h a its.toArray
 | .dK kvs=>kvs.length≤sizeLine∧(a == sysModules)=false∧∃ vs,KV kvs vs∧h.DictOf (zcr P w) a vs
 | .dT kvs=>kvs.length≤sizeLine∧(a == sysModules)=false∧∃ xs:List (List Key × Addr × Value),
   Paired (fun (p:List Key × V) (q:List Key × Addr × Value)=>p.1=q.1∧H q.2.1=some (.tup (p.1.map kV))∧zdk p.2 q.2.2) kvs xs ∧
   ∃ o es ep,h.get? a=some o∧o.ExactDict∧o.data = .dict es ep∧es.toList=xs.map (entryOfKey (tupleKind (zcr P w)))∧(xs.map (·.1)).Nodup
 | .set S n=>h.SetOf (intKind P w) a S n
 | .ins C dx fs=>H dx=some (.own a)∧fs.length≤1000∧dx≠a∧h.get? a=some (PySem.W.instObj C dx) ∧
   ∃ mA,h.Ns1 dx mA∧(∀ f,zlw (fs.lookup f) (mA f))∧PySem.Within mA (fs.map (·.1))
 | .own _=>∃ o,h.get? a=some o
 | .xd fs=>∃ mA,h.Ns1 a mA∧∀ f,zlw (fs.lookup f) (mA f)
 | .rng lo hi=>∃ t u v,h.get? a=some { cls:= .type "range",data:= .fields #[.int lo t,.int hi u,.int 1 v] }
 | .frz o u=>h.get? a=some o∧zdy H h a u
 | .tbl ps=>h.get? a=some { cls:= .none,data:= .fields ps }
 | .met f x=>h.get? a=some (PySem.W.methodObj (.ref f) (.ref x))
 | .ext φ=>φ h∧(∃ o,h.get? a=some o)∧∀ h1 h2:Heap,φ h1→(∀ o,h1.get? a=some o→h2.get? a=some o)→φ h2
def HOk (H:Hp) (h:Heap):Prop:=∀ a o,H a=some o→zdy P w H h a o
end
section
variable {P:Program} {w:World} {H H':Hp} {h h':Heap} {a:Addr} {o:HO}
theorem zdy.lt (x:zdy P w H h a o):a<h.objs.size:=by
 cases o with
 | lst xs=>obtain ⟨_,_,_,_,e⟩:=x; exact Heap.lt_size e
 | tup xs=>obtain ⟨_,_,_,p⟩:=x; exact p.lt
 | dK kvs=>obtain ⟨_,_,_,_,o,_,_,e,_⟩:=x; exact Heap.lt_size e
 | dT kvs=>obtain ⟨_,_,_,_,o,_,_,e,_⟩:=x; exact Heap.lt_size e
 | set S n=>obtain ⟨o,_,_,_,e,_⟩:=x; exact Heap.lt_size e
 | ins C dx fs=>obtain ⟨_,_,_,e,_⟩:=x; exact Heap.lt_size e
 | own y=>obtain ⟨_,e⟩:=x; exact Heap.lt_size e
 | xd fs=>obtain ⟨_,⟨_,_,_,e,_⟩,_⟩:=x; exact Heap.lt_size e
 | rng lo hi=>obtain ⟨_,_,_,e⟩:=x; exact Heap.lt_size e
 | frz ob u=>obtain ⟨e,_⟩:=x; exact Heap.lt_size e
 | tbl ps=>exact Heap.lt_size (show h.get? a=some _ from x)
 | met f y=>exact Heap.lt_size (show h.get? a=some _ from x)
 | ext φ=>obtain ⟨_,⟨_,e⟩,_⟩:=x; exact Heap.lt_size e
theorem Paired.mapP {α β:Type} {F G:α→β→Prop}:∀ {l₁:List α} {l₂:List β},Paired F l₁ l₂→(∀ a b,F a b→G a b)→Paired G l₁ l₂
 | _,_,.nil,_=> .nil
 | _,_,.cons r t,f=> .cons (f _ _ r) (Paired.mapP t f)
theorem zdy.stay (x:zdy P w H h a o) (k:∀ b u,(b=a∨H b=some (.own a))→h.get? b=some u→h'.get? b=some u)
    (ho:∀ b,H b=some (.own a)→H' b=some (.own a)) (ht:∀ b xs,H b=some (.tup xs)→H' b=some (.tup xs)):zdy P w H' h' a o:=by
  induction o with
  | lst xs=>obtain ⟨z,its,n,r,e⟩:=x; exact ⟨z,its,n,r,k _ _ (.inl rfl) e⟩
  | tup xs=>obtain ⟨z,its,r,ob,e,c⟩:=x; exact ⟨z,its,r,ob,k _ _ (.inl rfl) e,c⟩
  | dK kvs=>obtain ⟨z,y,vs,r,ob,es,ep,e,c⟩:=x; exact ⟨z,y,vs,r,ob,es,ep,k _ _ (.inl rfl) e,c⟩
  | dT kvs =>
    obtain ⟨z,y,xs,r,ob,es,ep,e,c⟩:=x
    exact ⟨z,y,xs,Paired.mapP r fun p q z=>⟨z.1,ht _ _ z.2.1,z.2.2⟩,ob,es,ep,k _ _ (.inl rfl) e,c⟩
  | set S n=>obtain ⟨ob,es,ep,t,e,c⟩:=x; exact ⟨ob,es,ep,t,k _ _ (.inl rfl) e,c⟩
  | ins C dx fs =>
    obtain ⟨d,z,ne,e,mA,⟨od,es,ep,e2,c⟩,r⟩:=x
    exact ⟨ho _ d,z,ne,k _ _ (.inl rfl) e,mA,⟨od,es,ep,k _ _ (.inr d) e2,c⟩,r⟩
  | own y=>obtain ⟨ob,e⟩:=x; exact ⟨ob,k _ _ (.inl rfl) e⟩
  | xd fs=>obtain ⟨mA,⟨od,es,ep,e,c⟩,r⟩:=x; exact ⟨mA,⟨od,es,ep,k _ _ (.inl rfl) e,c⟩,r⟩
  | rng lo hi=>obtain ⟨t,u,v,e⟩:=x; exact ⟨t,u,v,k _ _ (.inl rfl) e⟩
  | frz ob u ih=>obtain ⟨e,q⟩:=x; exact ⟨k _ _ (.inl rfl) e,ih q⟩
  | tbl ps =>
    have e:h.get? a=some { cls:= .none,data:= .fields ps }:=x
    show h'.get? a=some { cls:= .none,data:= .fields ps }
    exact k a _ (.inl rfl) e
  | met f y =>
    have e:h.get? a=some (PySem.W.methodObj (.ref f) (.ref y)):=x
    show h'.get? a=some (PySem.W.methodObj (.ref f) (.ref y))
    exact k a _ (.inl rfl) e
  | ext φ=>obtain ⟨p,⟨o,e⟩,st⟩:=x; exact ⟨st _ _ p fun o q=>k _ _ (.inl rfl) q,⟨o,k _ _ (.inl rfl) e⟩,st⟩
theorem HOk.lt (x:HOk P w H h) (e:H a=some o):a<h.objs.size:=(x a o e).lt
theorem HOk.fresh (x:HOk P w H h) (e:h.objs.size≤a):H a=none:=by
 cases q:H a with
 | none=>rfl
 | some u=>exact absurd (Nat.lt_of_lt_of_le (x.lt q) e) (Nat.lt_irrefl _)
theorem HOk.kept (x:HOk P w H h) (k:∀ b u,h.get? b=some u→h'.get? b=some u):HOk P w H h':=fun a o e =>
 (x a o e).stay (fun b u _ q=>k b u q) (fun _ q=>q) fun _ _ q=>q
theorem HOk.laid (x:HOk P w H h) (k:∀ b u,h.get? b=some u→h'.get? b=some u) (hp:h.objs.size≤a) (new:zdy P w (upd H a o) h' a o):HOk P w (upd H a o) h':=fun b u e=>by
 have hn:=x.fresh hp
 by_cases hb:b=a
 ·subst hb; rw [zam] at e; cases e; exact new
 ·rw [zal hb] at e
  exact (x b u e).stay (fun c v _ q=>k c v q) (fun c q=>by rw [zal (zap q hn)]; exact q) fun c xs q=>by rw [zal (zap q hn)]; exact q
end
def Rd (H:Hp) (a:Addr) (u:HO):Prop:=H a=some u∨∃ o,H a=some (.frz o u)
theorem Rd.of {H:Hp} {a:Addr} {u:HO} (h:H a=some u):Rd H a u:= .inl h
theorem Rd.ok {P:Program} {w:World} {H:Hp} {h:Heap} {a:Addr} {u:HO} (r:Rd H a u) (x:HOk P w H h):zdy P w H h a u:=by
 rcases r with r | ⟨o,r⟩
 ·exact x a u r
 ·obtain ⟨_,q⟩:=x a _ r
  exact q
def Mut:Option HO→Prop
 | some (.lst _)=>True
 | some (.dK _)=>True
 | some (.dT _)=>True
 | some (.set _ _)=>True
 | some (.ins _ _ _)=>True
 | some (.ext _)=>True
 | _=>False
section
variable {P:Program} {w:World} {H:Hp} {h h':Heap} {x e:Addr} {o':HO}
theorem HOk.write (ok:HOk P w H h) (mu:Mut (H x)) (he:e=x∨H e=some (.own x)) (k:∀ b u,b≠e→h.get? b=some u→h'.get? b=some u) (heo:∃ u,h'.get? e=some u)
  (new:zdy P w (upd H x o') h' x o'):HOk P w (upd H x o') h':=fun b u q=>by
 have nown:∀ c y,H c=some (.own y)→c≠x:=fun c y r z=>by subst z; rw [r] at mu; exact mu
 have ntup:∀ c xs,H c=some (.tup xs)→c≠x:=fun c xs r z=>by subst z; rw [r] at mu; exact mu
 by_cases hb:b=x
 ·subst hb; rw [zam] at q; cases q; exact new
 ·rw [zal hb] at q
  by_cases hbe:b=e
  ·have q':H b=some (.own x):=by
    rcases he with z | z
    ·exact absurd (hbe.trans z) hb
    ·rw [hbe]; exact z
   rw [q] at q'; cases q'
   obtain ⟨v,hv⟩:=heo
   exact ⟨v,by rw [hbe]; exact hv⟩
  ·refine (ok b u q).stay (fun c v hc r=>k c v ?_ r) (fun c r=>by rw [zal (nown c b r)]; exact r) fun c xs r=>by rw [zal (ntup c xs r)]; exact r
   rcases hc with rfl | hc
   ·exact hbe
   ·rintro rfl
    rcases he with z | z
    ·exact nown c b hc z
    ·rw [hc] at z; cases z; exact hb rfl
end
structure Un (fs ex:List Addr) (H H':Hp) (h h':Heap):Prop where
 keep:∀ b o,h.get? b=some o→H b=none→b∉fs→b∉ex→h'.get? b=some o
 slot:∀ b o,h.get? b=some o→H b=none→b∈fs→b∉ex→∃ sl,h'.get? b=some { o with slots:=sl }
 free:∀ b o,h.get? b=some o→H b=none→b∉ex→H' b=none
 there:∀ b o,h.get? b=some o→b∉ex→∃ o',h'.get? b=some o'
 tups:∀ b xs,H b=some (.tup xs)→H' b=some (.tup xs)
 frzs:∀ b o u,H b=some (.frz o u)→H' b=some (.frz o u)
 tbls:∀ b ps,H b=some (.tbl ps)→∃ more,H' b=some (.tbl (ps++more))
section
variable {fs fs' ex ex':List Addr} {H H1 H2:Hp} {h h1 h2 h':Heap} {a x e:Addr} {o:HO}
theorem Un.any (u:Un fs ex H H1 h h1) {b:Addr} {ob:Obj} (q:h.get? b=some ob) (n:H b=none) (hx:b∉ex):∃ sl,h1.get? b=some { ob with slots:=sl }:=by
 by_cases hb:b∈fs
 ·exact u.slot b ob q n hb hx
 ·exact ⟨ob.slots,u.keep b ob q n hb hx⟩
theorem Un.trans (a:Un fs ex H H1 h h1) (b:Un fs ex H1 H2 h1 h2):Un fs ex H H2 h h2 where
 keep:=fun c ob q n hc hx=>b.keep c ob (a.keep c ob q n hc hx) (a.free c ob q n hx) hc hx
 slot:=fun c ob q n hc hx=>by
  obtain ⟨sl,e1⟩:=a.slot c ob q n hc hx
  obtain ⟨sl',e2⟩:=b.slot c _ e1 (a.free c ob q n hx) hc hx
  exact ⟨sl',e2⟩
 free:=fun c ob q n hx=>by
  obtain ⟨o',e1⟩:=a.there c ob q hx
  exact b.free c o' e1 (a.free c ob q n hx) hx
 there:=fun c ob q hx=>by
  obtain ⟨o',e1⟩:=a.there c ob q hx
  exact b.there c o' e1 hx
 tups:=fun c xs q=>b.tups c xs (a.tups c xs q)
 frzs:=fun c ob xs q=>b.frzs c ob xs (a.frzs c ob xs q)
 tbls:=fun c ps q=>by
  obtain ⟨m1,e1⟩:=a.tbls c ps q
  obtain ⟨m2,e2⟩:=b.tbls c _ e1
  exact ⟨m1++m2,by rw [e2,Array.append_assoc]⟩
theorem Un.kept (k:∀ b u,h.get? b=some u→h'.get? b=some u):Un fs ex H H h h' :=
 ⟨fun b ob q _ _ _=>k b ob q,fun b ob q _ _ _=>⟨ob.slots,k b ob q⟩,fun _ _ _ n _=>n,fun b ob q _=>⟨ob,k b ob q⟩,fun _ _ q=>q,fun _ _ _ q=>q,fun _ ps q=>⟨#[],by rw [q]; simp⟩⟩
theorem Un.refl:Un fs ex H H h h:=Un.kept fun _ _ q=>q
theorem Un.laid (k:∀ b u,h.get? b=some u→h'.get? b=some u) (hp:h.objs.size≤a) (hn:H a=none):Un fs ex H (upd H a o) h h' where
 keep:=fun b u q _ _ _=>k b u q
 slot:=fun b u q _ _ _=>⟨u.slots,k b u q⟩
 free:=fun b u q n _=>by rw [zal (Nat.ne_of_lt (Nat.lt_of_lt_of_le (Heap.lt_size q) hp))]; exact n
 there:=fun b u q _=>⟨u,k b u q⟩
 tups:=fun b xs q=>by rw [zal (zap q hn)]; exact q
 frzs:=fun b u xs q=>by rw [zal (zap q hn)]; exact q
 tbls:=fun b ps q=>⟨#[],by rw [zal (zap q hn),q]; simp⟩
theorem Un.write (mu:Mut (H x)) (he:e=x∨H e=some (.own x)) (k:∀ b u,b≠e→h.get? b=some u→h'.get? b=some u) (heo:∃ u,h'.get? e=some u):Un fs ex H (upd H x o) h h':=by
 have hx:∀ b,H b=none→b≠x:=fun b n z=>by subst z; rw [n] at mu; exact mu
 have hb:∀ b,H b=none→b≠e:=fun b n z=>by
  subst z
  rcases he with r | r
  ·exact hx b n r
  ·rw [n] at r; cases r
 have hm:∀ b u,H b=some u→¬ Mut (some u)→b≠x:=fun b u q nm z=>by subst z; rw [q] at mu; exact nm mu
 refine ⟨fun b u q n _ _=>k b u (hb b n) q,fun b u q n _ _=>⟨u.slots,k b u (hb b n) q⟩,fun b u q n _=>by rw [zal (hx b n)]; exact n,fun b u q _=>?_,
  fun b xs q=>by rw [zal (hm b _ q fun z=>z)]; exact q,fun b u xs q=>by rw [zal (hm b _ q fun z=>z)]; exact q,fun b ps q=>⟨#[],by rw [zal (hm b _ q fun z=>z),q]; simp⟩⟩
 by_cases hbe:b=e
 ·subst hbe; exact heo
 ·exact ⟨u,k b u hbe q⟩
theorem Un.mono (u:Un fs ex H H1 h h1) (hs:∀ b∈fs,b∈fs') (hx:∀ b∈ex,b∈ex'):Un fs' ex' H H1 h h1 :=
 ⟨fun b ob q n hb he=>u.keep b ob q n (fun z=>hb (hs b z)) fun z=>he (hx b z),fun _ _ q n _ he=>u.any q n fun z=>he (hx _ z),fun b ob q n he=>u.free b ob q n fun z=>he (hx b z),fun b ob q he=>u.there b ob q fun z=>he (hx b z),u.tups,u.frzs,u.tbls⟩
end
def trk (h:Heap) (H:Hp):List Addr:=(List.range h.objs.size).filter fun a=>(H a).isSome
def zsv (h:Heap) (H:Hp):Heap:=PySem.W.hideAll h (trk h H)
theorem zsq (h:Heap) (H:Hp):(zsv h H).objs.size=h.objs.size:=PySem.W.hideAll_size _ _
theorem ztl {h:Heap} {H:Hp} {b:Addr} {o:Obj} (e:h.get? b=some o) (n:H b=none):(zsv h H).get? b=some o :=
 PySem.W.hideAll_get _ e fun hm=>by
  have q:(H b).isSome=true:=(List.mem_filter.mp hm).2
  rw [n] at q; simp at q
theorem zwe {h:Heap} {H:Hp} {b:Addr} {o:Obj} (e:(zsv h H).get? b=some o):h.get? b=some o∧H b=none:=by
  have e':h.get? b=some o:=PySem.W.of_hideAll (trk h H) e
  refine ⟨e',?_⟩
  cases q:H b with
  | none=>rfl
  | some x =>
    have hm:b∈trk h H:=List.mem_filter.mpr ⟨List.mem_range.mpr (Heap.lt_size e'),by simp [q]⟩
    have z:(zsv h H).get? b=none:=PySem.W.hideAll_none (trk h H) hm
    rw [z] at e; cases e
def zvo (g h:Heap) (L:Addr):List (Addr × Obj):=(List.range h.objs.size).filterMap fun a=>if a=L∨(g.get? a).isSome=true then none else (h.get? a).map fun o=>(a,o)
def zn5 (g h:Heap) (L d:Addr):List (Addr × Obj):=(zvo g h L).filter fun p=>decide (p.1≠d)
end L2
namespace L2
open PySem PySem.Spec PyProof.Rows
structure Mod (K:PySem.W.Frag) (mg:Str→Option Value) (base:Heap):Prop where
 kin:K.In base
 glob:base.Ns mainGlobals mg
 blt:∃ mb,base.Ns builtinsNs mb∧∀ x:Str,x≠ "__name__" →mb x=bootBuiltins x
 nolimit:base.NoLimit
structure Cx where
 prog:Program
 w:World
 K:PySem.W.Frag
 mg:Str→Option Value
 base:Heap
 A:Around
 N:List Str
 s₀:Shared
 H₀:Hp
 env:Env
 outer:List Env
 stack:List Env
 ex:List Addr
 fn:Str→Bool
 calm:Bool
 pn:List (Addr × Obj)
 xe:Value→Shared→Prop
def frs (l:List Env):List Addr:=l.filterMap (·.frame)
abbrev Cx.fs (X:Cx):List Addr:=frs X.outer
def Vis (sc:Scope) (x:Str):Prop:=sc.names.lookup x=some .local∨sc.names.lookup x=some .cell∨sc.names.lookup x=some .free
def Loc (sc:Scope) (x:Str):Prop:=sc.names.lookup x=some .local∨sc.names.lookup x=some .cell
def z0e (env:Env) (h:Heap) (m:Str→Option Value) (x:Str) (u:Value):Prop :=
 (env.kindOf x=some .local∧m x=some u)∨((env.kindOf x=some .cell∨env.kindOf x=some .free)∧∃ c,env.cells.lookup x=some c∧h.IsCell c (some u))
structure Cx.Ok (X:Cx):Prop where
 mod:Mod X.K X.mg X.base
 kind:X.env.scope.kind = .function
 glob:X.env.globals=mainGlobals
 blt:X.env.builtins=builtinsNs
 above:X.s₀.heap.objs.size≤X.env.locals
 inj:∀ x y c,X.env.cells.lookup x=some c→X.env.cells.lookup y=some c→x=y
 has:∀ x,(X.env.kindOf x=some .cell∨X.env.kindOf x=some .free)→∃ c,X.env.cells.lookup x=some c
 cab:∀ x c,X.fn x=true→X.env.cells.lookup x=some c→X.s₀.heap.objs.size≤c
 hd:X.calm=true→X.A.handled=none
 frames:X.A.frames=some X.stack
 stk:X.stack=X.outer∨(X.stack=X.env :: X.outer∧X.env.frame=some X.env.locals)
 exf:∀ b∈X.ex,b≠X.env.locals∧∀ x c,X.env.cells.lookup x=some c→c≠b
 bs:∀ b o,X.base.get? b=some o→X.s₀.heap.get? b=some o∧X.H₀ b=none
 bsz:X.base.objs.size≤X.s₀.heap.objs.size
 noex:∀ b o,X.base.get? b=some o→b∉X.ex
 exfs:∀ b∈X.ex,b∉X.fs
 funs:X.s₀.heap.FunFrames X.base X.outer
 frf:∀ b∈X.fs,X.H₀ b=none
structure Inv (X:Cx) (pins:List (Addr × Obj)) (σ:List (Option V)) (H:Hp) (s:Shared):Prop where
 ok:X.Ok
 os:s.os=X.s₀.os
 bare:AllBare s.gens
 base:Un X.fs X.ex X.H₀ H X.s₀.heap s.heap
 loc:∃ m,s.heap.Ns X.env.locals m∧∀ (i:Nat) (x:Str) (v:V),X.N[i]? = some x→σ[i]? = some (some v)→Vis X.env.scope x→∃ u,zdk v u∧z0e X.env s.heap m x u
 cell:∀ x c,X.env.cells.lookup x=some c→∃ v,s.heap.IsCell c v
 free:H X.env.locals=none
 freeC:∀ x c,X.env.cells.lookup x=some c→(X.fn x=true→H c=none)∧(H c=none∨∃ o u,H c=some (.frz o u))
 pin:∀ p∈X.pn++pins,s.heap.get? p.1=some p.2∧H p.1=none∧p.1≠X.env.locals∧p.1∉X.fs∧∀ v,p.2.data≠ .cell v
 hok:HOk X.prog X.w H s.heap
 len:σ.length=X.N.length
section
variable {X:Cx} {pins:List (Addr × Obj)} {σ:List (Option V)} {H H':Hp} {s:Shared} {h':Heap}
theorem Cx.Ok.nofr (ok:X.Ok) {b:Addr} {o:Obj} (e:X.base.get? b=some o):b∉X.fs:=fun hb=>by
 have:=(ok.funs.mem hb).1
 rw [e] at this; cases this
theorem Inv.bs (I:Inv X pins σ H s):∀ b o,X.base.get? b=some o→s.heap.get? b=some o∧H b=none:=fun b o e =>
 ⟨I.base.keep b o (I.ok.bs b o e).1 (I.ok.bs b o e).2 (I.ok.nofr e) (I.ok.noex b o e),I.base.free b o (I.ok.bs b o e).1 (I.ok.bs b o e).2 (I.ok.noex b o e)⟩
theorem Inv.bk (I:Inv X pins σ H s):∀ b o,X.base.get? b=some o→s.heap.get? b=some o:=fun b o e=>(I.bs b o e).1
theorem Inv.mod (I:Inv X pins σ H s):Mod X.K X.mg X.base:=I.ok.mod
theorem Inv.kIn (I:Inv X pins σ H s):X.K.In s.heap:=I.ok.mod.kin.keeps I.bk
theorem Inv.nolimit (I:Inv X pins σ H s):s.heap.NoLimit:=I.ok.mod.nolimit.keeps I.bk
theorem Inv.fr (I:Inv X pins σ H s):∃ m,Fr X.base X.env.locals s.heap m :=
 let ⟨m,hn,_⟩:=I.loc
 ⟨m,hn,I.bk,Nat.le_trans I.ok.bsz I.ok.above⟩
theorem Inv.lt (I:Inv X pins σ H s):X.env.locals<s.heap.objs.size:=let ⟨_,hn,_⟩:=I.loc; hn.lt
theorem Inv.sz (I:Inv X pins σ H s):X.s₀.heap.objs.size≤s.heap.objs.size:=Nat.le_trans I.ok.above (Nat.le_of_lt I.lt)
theorem Inv.nofs (I:Inv X pins σ H s) {a:Addr} (h:s.heap.objs.size≤a):a∉X.fs:=fun hb=>by
 obtain ⟨_,o,ho,_⟩:=I.ok.funs.mem hb
 exact absurd (Nat.lt_of_lt_of_le (Heap.lt_size ho) (Nat.le_trans I.sz h)) (Nat.lt_irrefl _)
theorem Inv.cne (I:Inv X pins σ H s):∀ x c,X.env.cells.lookup x=some c→c≠X.env.locals:=fun x c e z=>by
 obtain ⟨v,o,ho,hd⟩:=I.cell x c e
 obtain ⟨m,⟨o',es,ep,ho',hd',_⟩,_⟩:=I.loc
 rw [z,ho'] at ho; cases ho; rw [hd'] at hd; cases hd
theorem Inv.funs (I:Inv X pins σ H s):s.heap.FunFrames X.base X.outer:=by
  have all:∀ (l:List Env),(∀ b∈frs l,b∈X.fs)→X.s₀.heap.FunFrames X.base l→s.heap.FunFrames X.base l:=by
    intro l
    induction l with
    | nil=>intro _ _; trivial
    | cons env r ih =>
      intro hs hl
      obtain ⟨hk,⟨L,o,hf,hn,ho,hd⟩,hr⟩:=hl
      have hL:L∈X.fs:=hs L (by unfold frs; rw [List.filterMap_cons,hf]; exact List.mem_cons_self)
      obtain ⟨sl,e⟩:=I.base.slot L o ho (I.ok.frf L hL) hL fun z=>I.ok.exfs L z hL
      exact ⟨hk,⟨L,_,hf,hn,e,hd⟩,ih (fun b hb=>hs b (by unfold frs; rw [List.filterMap_cons,hf]; exact List.mem_cons_of_mem _ hb)) hr⟩
  exact all X.outer (fun _ hb=>hb) I.ok.funs
theorem Inv.stack (I:Inv X pins σ H s):s.heap.FunFrames X.base X.stack:=by
 rcases I.ok.stk with e | ⟨e,hf⟩
 ·rw [e]; exact I.funs
 ·rw [e]
  obtain ⟨m,hn,_⟩:=I.loc
  refine .cons (by rw [I.ok.kind]; decide) hf hn ?_ I.funs
  exact Heap.get?_none_of_le (Nat.le_trans I.ok.bsz I.ok.above)
theorem Inv.stkSub (I:Inv X pins σ H s):∀ b∈frs X.stack,b∈X.env.locals :: X.fs:=fun b hb=>by
 rcases I.ok.stk with e | ⟨e,hf⟩
 ·rw [e] at hb; exact List.mem_cons_of_mem _ hb
 ·rw [e] at hb
  unfold frs at hb
  rw [List.filterMap_cons,hf] at hb
  exact hb
theorem Inv.stkFree (I:Inv X pins σ H s):∀ b∈frs X.stack,H b=none:=fun b hb=>by
 rcases List.mem_cons.mp (I.stkSub b hb) with e | hb
 ·rw [e]; exact I.free
 ·obtain ⟨_,o,ho,_⟩:=I.ok.funs.mem hb
  exact I.base.free b o ho (I.ok.frf b hb) fun z=>I.ok.exfs b z hb
theorem Inv.step {g':Array GenState} {t':Nat} {d':Drawn} {ch:List Addr} (I:Inv X pins σ H s)
  (hch:∀ b∈ch,(b∈X.ex∨X.s₀.heap.objs.size≤b)∧b≠X.env.locals∧(∀ x c,X.env.cells.lookup x=some c→c≠b)∧∀ p∈X.pn++pins,p.1≠b)
  (keep:∀ b o,b≠X.env.locals→b∉X.fs→b∉ch→s.heap.get? b=some o→H b=none→h'.get? b=some o)
  (slot:∀ b o,b≠X.env.locals→b∈X.fs→b∉ch→s.heap.get? b=some o→H b=none→∃ sl,h'.get? b=some { o with slots:=sl }) (free:∀ b o,b∉ch→s.heap.get? b=some o→H b=none→H' b=none)
  (there:∀ b o,b∉ch→s.heap.get? b=some o→∃ o',h'.get? b=some o')
  (tups:∀ b xs,H b=some (.tup xs)→H' b=some (.tup xs)) (frzs:∀ b o u,H b=some (.frz o u)→H' b=some (.frz o u)) (tbls:∀ b ps,H b=some (.tbl ps)→∃ more,H' b=some (.tbl (ps++more)))
  (ns:∀ m,s.heap.Ns X.env.locals m→h'.Ns X.env.locals m) (hok:HOk X.prog X.w H' h') (hg:AllBare g') :
  Inv X pins σ H' { s with heap:=h',gens:=g',drawn:=d',toks:=t' }:=by
 have neL:∀ b o,X.s₀.heap.get? b=some o→b≠X.env.locals:=fun b o e=>Nat.ne_of_lt (Nat.lt_of_lt_of_le (Heap.lt_size e) I.ok.above)
 have neC:∀ b o,X.s₀.heap.get? b=some o→b∉X.ex→b∉ch:=fun b o e hx hb=>by
  rcases (hch b hb).1 with z | z
  ·exact hx z
  ·exact absurd (Nat.lt_of_lt_of_le (Heap.lt_size e) z) (Nat.lt_irrefl _)
 have cellK:∀ x c,X.env.cells.lookup x=some c→∀ v,s.heap.IsCell c v→h'.IsCell c v:=fun x c e v ⟨o,ho,hd⟩=>by
  have nch:c∉ch:=fun z=>(hch c z).2.2.1 x c e rfl
  rcases (I.freeC x c e).2 with fr | ⟨oz,uz,fz⟩
  ·by_cases hc:c∈X.fs
   ·obtain ⟨sl,q⟩:=slot c o (I.cne x c e) hc nch ho fr
    exact ⟨_,q,hd⟩
   ·exact ⟨o,keep c o (I.cne x c e) hc nch ho fr,hd⟩
  ·obtain ⟨z1,_⟩:=I.hok c _ fz
   obtain ⟨z2,_⟩:=hok c _ (frzs c oz uz fz)
   rw [ho] at z1
   cases z1
   exact ⟨o,z2,hd⟩
 refine ⟨I.ok,I.os,hg,⟨fun b o e n hb hx=>?_,fun b o e n hb hx=>?_,fun b o e n hx=>?_,fun b o e hx=>?_,fun b xs e=>tups b xs (I.base.tups b xs e),fun b o xs e=>frzs b o xs (I.base.frzs b o xs e),fun b ps e=>?_⟩,?_,fun x c e=>?_,?_,fun x c e=>?_,fun p hp=>?_,hok,I.len⟩
 ·exact keep b o (neL b o e) hb (neC b o e hx) (I.base.keep b o e n hb hx) (I.base.free b o e n hx)
 ·obtain ⟨sl,e1⟩:=I.base.slot b o e n hb hx
  obtain ⟨sl',e2⟩:=slot b _ (neL b o e) hb (neC b o e hx) e1 (I.base.free b o e n hx)
  exact ⟨sl',e2⟩
 ·obtain ⟨o',e1⟩:=I.base.there b o e hx
  exact free b o' (neC b o e hx) e1 (I.base.free b o e n hx)
 ·obtain ⟨o',e1⟩:=I.base.there b o e hx
  exact there b o' (neC b o e hx) e1
 ·obtain ⟨m1,e1⟩:=I.base.tbls b ps e
  obtain ⟨m2,e2⟩:=tbls b _ e1
  exact ⟨m1++m2,by rw [e2,Array.append_assoc]⟩
 ·obtain ⟨m,hn,hl⟩:=I.loc
  refine ⟨m,ns m hn,fun i x v e1 e2 e3=>?_⟩
  obtain ⟨u,r,l⟩:=hl i x v e1 e2 e3
  refine ⟨u,r,?_⟩
  rcases l with l | ⟨k,c,e,z⟩
  ·exact .inl l
  ·exact .inr ⟨k,c,e,cellK x c e _ z⟩
 ·obtain ⟨v,z⟩:=I.cell x c e
  exact ⟨v,cellK x c e v z⟩
 ·obtain ⟨m,⟨o,_,_,ho,_⟩,_⟩:=I.loc
  exact free _ o (fun z=>(hch _ z).2.1 rfl) ho I.free
 ·obtain ⟨v,o,ho,hd⟩:=I.cell x c e
  refine ⟨fun q=>free c o (fun z=>(hch c z).2.2.1 x c e rfl) ho ((I.freeC x c e).1 q),?_⟩
  rcases (I.freeC x c e).2 with fr | ⟨oz,uz,fz⟩
  ·exact .inl (free c o (fun z=>(hch c z).2.2.1 x c e rfl) ho fr)
  ·exact .inr ⟨oz,uz,frzs c oz uz fz⟩
 ·obtain ⟨e,n,ne,nf,d⟩:=I.pin p hp
  have nch:p.1∉ch:=fun z=>(hch p.1 z).2.2.2 p hp rfl
  exact ⟨keep p.1 p.2 ne nf nch e n,free p.1 p.2 nch e n,ne,nf,d⟩
theorem Inv.un {t':Nat} (I:Inv X pins σ H s) (u:Un X.fs [] H H' s.heap h') (hok:HOk X.prog X.w H' h'):Inv X pins σ H' { s with heap:=h',toks:=t' }:=by
 obtain ⟨m,⟨o,es,ep,ho,r⟩,_⟩:=id I.loc
 obtain ⟨sl,hL⟩:=u.any ho I.free (by simp)
 exact I.step (g':=s.gens) (d':=s.drawn) (ch:=[]) (fun _ z=>nomatch z) (fun b o _ hb _ e n=>u.keep b o e n hb (by simp)) (fun b o _ hb _ e n=>u.slot b o e n hb (by simp)) (fun b o _ e n=>u.free b o e n (by simp)) (fun b o _ e=>u.there b o e (by simp)) u.tups u.frzs u.tbls (fun m' hm=>by
  obtain ⟨o',es',ep',ho',r'⟩:=hm
  rw [ho] at ho'; cases ho'
  exact ⟨_,es',ep',hL,r'⟩) hok I.bare
theorem Inv.call {g':Array GenState} {t':Nat} {d':Drawn} {ch:List Addr} (I:Inv X pins σ H s) (u:Un (frs X.stack) ch H H' s.heap h') (hok:HOk X.prog X.w H' h') (hg:AllBare g')
  (hch:∀ b∈ch,(b∈X.ex∨X.s₀.heap.objs.size≤b)∧b≠X.env.locals∧(∀ x c,X.env.cells.lookup x=some c→c≠b)∧∀ p∈X.pn++pins,p.1≠b) :
  Inv X pins σ H' { s with heap:=h',gens:=g',drawn:=d',toks:=t' }:=by
 obtain ⟨m,⟨o,es,ep,ho,r⟩,_⟩:=id I.loc
 obtain ⟨sl,hL⟩:=u.any ho I.free fun z=>(hch _ z).2.1 rfl
 exact I.step (ch:=ch) hch (fun b o hL hb hc e n=>u.keep b o e n (fun z=>(List.mem_cons.mp (I.stkSub b z)).elim hL hb) hc) (fun b o _ _ hc e n=>u.any e n hc) (fun b o hc e n=>u.free b o e n hc) (fun b o hc e=>u.there b o e hc) u.tups u.frzs u.tbls (fun m' hm=>by
  obtain ⟨o',es',ep',ho',r'⟩:=hm
  rw [ho] at ho'; cases ho'
  exact ⟨_,es',ep',hL,r'⟩) hok hg
theorem Inv.turned {t':Nat} {it:Addr} (I:Inv X pins σ H s) (k:∀ b o,b≠it→s.heap.get? b=some o→h'.get? b=some o) (hn:H it=none) (hL:it≠X.env.locals)
  (h1:it∈X.ex∨X.s₀.heap.objs.size≤it) (h2:∀ x c,X.env.cells.lookup x=some c→c≠it) (h3:∀ p∈X.pn++pins,p.1≠it):Inv X pins σ H { s with heap:=h',toks:=t' }:=by
 have nit:∀ b u,H b=some u→b≠it:=fun b u e z=>by rw [z,hn] at e; cases e
 refine I.step (g':=s.gens) (d':=s.drawn) (ch:=[it]) (fun b hb=>?_) (fun b o _ _ hc e _=>k b o (fun z=>hc (by simp [z])) e) (fun b o _ _ hc e _=>⟨o.slots,k b o (fun z=>hc (by simp [z])) e⟩) (fun _ _ _ _ n=>n)
  (fun b o hc e=>⟨o,k b o (fun z=>hc (by simp [z])) e⟩) (fun _ _ e=>e) (fun _ _ _ e=>e) (fun b ps e=>⟨#[],by rw [e]; simp⟩) (fun m hm=>?_) (fun b u e=>?_) I.bare
 ·have e:b=it:=by simpa using hb
  subst e
  exact ⟨h1,hL,h2,h3⟩
 ·obtain ⟨o,es,ep,ho,r⟩:=hm
  exact ⟨o,es,ep,k _ o (Ne.symm hL) ho,r⟩
 ·refine (I.hok b u e).stay (fun c v hc q=>k c v ?_ q) (fun _ q=>q) fun _ _ q=>q
  rcases hc with z | z
  ·rw [z]; exact nit b u e
  ·exact nit c _ z
theorem Inv.tok (I:Inv X pins σ H s) (t:Nat):Inv X pins σ H { s with toks:=t }:=I.un (h':=s.heap) (t':=t) Un.refl I.hok
theorem Inv.kept {t':Nat} (I:Inv X pins σ H s) (k:∀ b u,s.heap.get? b=some u→h'.get? b=some u):Inv X pins σ H { s with heap:=h',toks:=t' }:=I.un (Un.kept k) (I.hok.kept k)
theorem Inv.laid {a:Addr} {o:HO} {t':Nat} (I:Inv X pins σ H s) (k:∀ b u,s.heap.get? b=some u→h'.get? b=some u) (hp:s.heap.objs.size≤a) (new:zdy X.prog X.w (upd H a o) h' a o) :
  Inv X pins σ (upd H a o) { s with heap:=h',toks:=t' }:=I.un (Un.laid k hp (I.hok.fresh hp)) (I.hok.laid k hp new)
theorem Inv.write {x e:Addr} {o:HO} {t':Nat} (I:Inv X pins σ H s) (mu:Mut (H x)) (he:e=x∨H e=some (.own x)) (k:∀ b u,b≠e→s.heap.get? b=some u→h'.get? b=some u) (heo:∃ u,h'.get? e=some u)
  (new:zdy X.prog X.w (upd H x o) h' x o):Inv X pins σ (upd H x o) { s with heap:=h',toks:=t' }:=I.un (Un.write mu he k heo) (I.hok.write mu he k heo new)
theorem Inv.pins_of {pins':List (Addr × Obj)} (I:Inv X pins σ H s) (h:∀ p∈pins',s.heap.get? p.1=some p.2∧H p.1=none∧p.1≠X.env.locals∧p.1∉X.fs∧∀ v,p.2.data≠ .cell v):Inv X pins' σ H s :=
 ⟨I.ok,I.os,I.bare,I.base,I.loc,I.cell,I.free,I.freeC,fun p hp=>(List.mem_append.mp hp).elim (fun z=>I.pin p (List.mem_append_left _ z)) (h p),I.hok,I.len⟩
theorem zi4 {N:List Str} (hN:N.Nodup) {i j:Nat} {x:Str} (a:N[i]? = some x) (b:N[j]? = some x):i=j:=by
 obtain ⟨h1,e1⟩:=List.getElem?_eq_some_iff.mp a
 obtain ⟨h2,e2⟩:=List.getElem?_eq_some_iff.mp b
 exact (List.getElem_inj hN).mp (e1.trans e2.symm)
theorem zrj {M:Model} {A:Around} {E:Value→Shared→Prop} {i:Nat} {x:Str} {v:V} {u:Value} {Q:Unit→Shared→Prop} (I:Inv X pins σ H s) (hN:X.N.Nodup) (hi:X.N[i]? = some x) (hx:Loc X.env.scope x) (r:zdk v u)
  (h:∀ s',Inv X pins (σ.set i (some v)) H s'→(∃ a,Heap.SameBut a s.heap s'.heap∧(a=X.env.locals∨X.env.cells.lookup x=some a))→Q () s') (hf:X.fn x=true∨X.env.scope.names.lookup x=some .local:=by first | exact .inl rfl | exact .inr rfl | assumption):wpAny M A (storeName X.env x u) Q E s:=by
 obtain ⟨m,hn,hl⟩:=id I.loc
 have hcls:(X.env.scope.kind == .class || (X.env.scope.kind == .module && X.env.locals != X.env.globals))=false:=by rw [I.ok.kind]; rfl
 have hiσ:i<σ.length:=by rw [I.len]; exact (List.getElem?_eq_some_iff.mp hi).1
 have cne:=I.cne
 have tracked:∀ {a:Addr} {h':Heap},(∃ o,s.heap.get? a=some o∧H a=none)→Heap.SameBut a s.heap h'→HOk X.prog X.w H h':=fun {a h'} ha hs b ob e=>by
  obtain ⟨_,_,hfree⟩:=ha
  refine (I.hok b ob e).stay (fun c w' hc q=>(hs.2 c ?_).trans q) (fun _ q=>q) fun _ _ q=>q
  rintro rfl
  rcases hc with rfl | hc
  ·rw [hfree] at e; cases e
  ·rw [hfree] at hc; cases hc
 rcases hx with hk | hk
 ·refine wpAny_storeName_local hk hn (fun h' hn' hs=>?_) hcls
  obtain ⟨oL,_,_,hoL,_⟩:=id hn
  refine h _ ⟨I.ok,I.os,I.bare,⟨fun b o e n hb hx=>?_,fun b o e n hb hx=>?_,I.base.free,fun b o e hx=>?_,I.base.tups,I.base.frzs,I.base.tbls⟩,⟨_,hn',fun j y v' e1 e2 e3=>?_⟩,fun y c e=>?_,I.free,I.freeC,fun p hp=>?_,tracked ⟨oL,hoL,I.free⟩ hs,by simpa using I.len⟩ ⟨_,hs,.inl rfl⟩
  ·exact (hs.2 b (Nat.ne_of_lt (Nat.lt_of_lt_of_le (Heap.lt_size e) I.ok.above))).trans (I.base.keep b o e n hb hx)
  ·obtain ⟨sl,e1⟩:=I.base.slot b o e n hb hx
   exact ⟨sl,(hs.2 b (Nat.ne_of_lt (Nat.lt_of_lt_of_le (Heap.lt_size e) I.ok.above))).trans e1⟩
  ·obtain ⟨o',e1⟩:=I.base.there b o e hx
   exact ⟨o',(hs.2 b (Nat.ne_of_lt (Nat.lt_of_lt_of_le (Heap.lt_size e) I.ok.above))).trans e1⟩
  ·by_cases hj:j=i
   ·subst hj
    rw [hi] at e1; cases e1
    rw [List.getElem?_set_self hiσ] at e2
    cases e2
    exact ⟨u,r,.inl ⟨hk,by simp⟩⟩
   ·rw [List.getElem?_set_ne (Ne.symm hj)] at e2
    obtain ⟨u',r',q⟩:=hl j y v' e1 e2 e3
    refine ⟨u',r',?_⟩
    rcases q with ⟨k,e⟩ | ⟨k,c,e,z⟩
    ·refine .inl ⟨k,?_⟩
     have:y≠x:=fun e=>hj (zi4 hN e1 (e ▸ hi))
     simp [this,e]
    ·exact .inr ⟨k,c,e,z.sameBut hs (cne y c e)⟩
  ·obtain ⟨w',z⟩:=I.cell y c e
   exact ⟨w',z.sameBut hs (cne y c e)⟩
  ·obtain ⟨e,n,ne,nf,d⟩:=I.pin p hp
   exact ⟨(hs.2 p.1 ne).trans e,n,ne,nf,d⟩
 ·have hfn:X.fn x=true:=by
   rcases hf with z | z
   ·exact z
   ·rw [z] at hk; cases hk
  obtain ⟨c,hc⟩:=I.ok.has x (.inl hk)
  obtain ⟨w',z⟩:=I.cell x c hc
  refine wpAny_storeName_cell I.ok.kind hk hc z (fun h' hc' hs=>?_)
  obtain ⟨oc,hoc,hocd⟩:=id z
  refine h { s with heap:=h' } ⟨I.ok,I.os,I.bare,⟨fun b o e n hb hx=>?_,fun b o e n hb hx=>?_,I.base.free,fun b o e hx=>?_,I.base.tups,I.base.frzs,I.base.tbls⟩,⟨m,hn.sameBut hs (Ne.symm (cne x c hc)),fun j y v' e1 e2 e3=>?_⟩,fun y c' e=>?_,I.free,I.freeC,fun p hp=>?_,tracked ⟨oc,hoc,(I.freeC x c hc).1 hfn⟩ hs,by simpa using I.len⟩ ⟨c,hs,.inr hc⟩
  ·exact (hs.2 b (Nat.ne_of_lt (Nat.lt_of_lt_of_le (Heap.lt_size e) (I.ok.cab x c hfn hc)))).trans (I.base.keep b o e n hb hx)
  ·obtain ⟨sl,e1⟩:=I.base.slot b o e n hb hx
   exact ⟨sl,(hs.2 b (Nat.ne_of_lt (Nat.lt_of_lt_of_le (Heap.lt_size e) (I.ok.cab x c hfn hc)))).trans e1⟩
  ·obtain ⟨o',e1⟩:=I.base.there b o e hx
   exact ⟨o',(hs.2 b (Nat.ne_of_lt (Nat.lt_of_lt_of_le (Heap.lt_size e) (I.ok.cab x c hfn hc)))).trans e1⟩
  ·by_cases hj:j=i
   ·subst hj
    rw [hi] at e1; cases e1
    rw [List.getElem?_set_self hiσ] at e2
    cases e2
    exact ⟨u,r,.inr ⟨.inl hk,c,hc,hc'⟩⟩
   ·rw [List.getElem?_set_ne (Ne.symm hj)] at e2
    obtain ⟨u',r',q⟩:=hl j y v' e1 e2 e3
    refine ⟨u',r',?_⟩
    rcases q with q | ⟨k,c',e,z'⟩
    ·exact .inl q
    ·refine .inr ⟨k,c',e,z'.sameBut hs ?_⟩
     rintro rfl
     exact hj (zi4 hN e1 (I.ok.inj _ _ _ e hc ▸ hi))
  ·by_cases hcc:c'=c
   ·subst hcc; exact ⟨_,hc'⟩
   ·obtain ⟨w2,z2⟩:=I.cell y c' e
    exact ⟨w2,z2.sameBut hs hcc⟩
  ·obtain ⟨e,n,ne,nf,d⟩:=I.pin p hp
   refine ⟨(hs.2 p.1 ?_).trans e,n,ne,nf,d⟩
   intro q
   rw [q,hoc] at e
   have q':oc=p.2:=Option.some.inj e
   exact d w' (by rw [← q']; exact hocd)
theorem zhf {M:Model} {A:Around} {E:Value→Shared→Prop} {i:Nat} {x:Str} {v:V} {u:Value} {Q:Unit→Shared→Prop} (I:Inv X pins σ H s) (hN:X.N.Nodup) (hi:X.N[i]? = some x) (hx:Loc X.env.scope x) (r:zdk v u)
  (h:∀ s',Inv X pins (σ.set i (some v)) H s'→Q () s') (hf:X.fn x=true∨X.env.scope.names.lookup x=some .local:=by first | exact .inl rfl | exact .inr rfl | assumption):wpAny M A (storeName X.env x u) Q E s :=
 zrj I hN hi hx r (fun s' I' _=>h s' I') hf
theorem Inv.call' {s':Shared} {ch:List Addr} (I:Inv X pins σ H s) (ho:s'.os=s.os) (u:Un (frs X.stack) ch H H' s.heap s'.heap) (hok:HOk X.prog X.w H' s'.heap) (hg:AllBare s'.gens)
  (hch:∀ b∈ch,(b∈X.ex∨X.s₀.heap.objs.size≤b)∧b≠X.env.locals∧(∀ x c,X.env.cells.lookup x=some c→c≠b)∧∀ p∈X.pn++pins,p.1≠b):Inv X pins σ H' s':=by
 obtain ⟨h',g',d',t',o'⟩:=s'
 have e:o'=s.os:=ho
 subst e
 exact I.call (g':=g') (t':=t') (d':=d') u hok hg hch
end
abbrev XK:=Value→Option Addr→Hp→Prop
abbrev St:=List (Option V)
abbrev VK:=V→Hp→Prop
abbrev TE:=St→Hp→VK→Prop
abbrev TT:=St→Hp→(Bool→Hp→Prop)→Prop
abbrev TA:=St→Hp→(List V→Hp→Prop)→Prop
structure ztr where
 nx:St→Hp→Prop
 rt:VK
 bk:St→Hp→Prop:=fun _ _=>False
 ct:St→Hp→Prop:=fun _ _=>False
abbrev TS:=ztr→St→Hp→Prop
def EP (X:Cx) (pins:List (Addr × Obj)) (σ:St) (Q:VK) (u:Value) (s':Shared):Prop:=∃ v H',Inv X pins σ H' s'∧zdk v u∧Q v H'
def TP (X:Cx) (pins:List (Addr × Obj)) (σ:St) (Q:Bool→Hp→Prop) (b:Bool) (s':Shared):Prop:=∃ H',Inv X pins σ H' s'∧Q b H'
def AP (X:Cx) (pins:List (Addr × Obj)) (σ:St) (Q:List V→Hp→Prop) (us:List Value) (s':Shared):Prop:=∃ vs H',Inv X pins σ H' s'∧zc2 vs us∧Q vs H'
def SP (X:Cx) (pins:List (Addr × Obj)) (D:ztr) (f:Flow) (s':Shared):Prop :=
 match f with
 | .next=>∃ σ' H',Inv X pins σ' H' s'∧D.nx σ' H'
 | .brk=>∃ σ' H',Inv X pins σ' H' s'∧D.bk σ' H'
 | .cont=>∃ σ' H',Inv X pins σ' H' s'∧D.ct σ' H'
 | .ret u=>∃ v σ' H',Inv X pins σ' H' s'∧zdk v u∧D.rt v H'
def PE (X:Cx) (e:Expr) (t:TE):Prop :=
 ∀ (pins:List (Addr × Obj)) (s:Shared) (σ:St) (H:Hp) (Q:VK),Inv X pins σ H s→t σ H Q→wpAny (model X.prog X.w) X.A (eval e X.env) (EP X pins σ Q) X.xe s
def PT (X:Cx) (e:Expr) (t:TT):Prop :=
 ∀ (pins:List (Addr × Obj)) (s:Shared) (σ:St) (H:Hp) (Q:Bool→Hp→Prop),Inv X pins σ H s→t σ H Q→wpAny (model X.prog X.w) X.A (isTrue e X.env (eval e X.env)) (TP X pins σ Q) X.xe s
def PW (X:Cx) (e:Expr) (t:TT):Prop :=
 ∀ (whole:Sem Value) (pins:List (Addr × Obj)) (s:Shared) (σ:St) (H:Hp) (Q:Bool→Hp→Prop),Inv X pins σ H s→t σ H Q→wpAny (model X.prog X.w) X.A (isTrue e X.env whole) (TP X pins σ Q) X.xe s
theorem PW.pt {X:Cx} {e:Expr} {t:TT} (h:PW X e t):PT X e t:=h _
def PA (X:Cx) (es:List Expr) (t:TA):Prop :=
 ∀ (pos:Pos) (pins:List (Addr × Obj)) (s:Shared) (σ:St) (H:Hp) (Q:List V→Hp→Prop),Inv X pins σ H s→t σ H Q→wpAny (model X.prog X.w) X.A (spliced (backTo pos (starEach es X.env))) (AP X pins σ Q) X.xe s
def PS (X:Cx) (st:Stmt) (t:TS):Prop :=
 ∀ (pins:List (Addr × Obj)) (s:Shared) (σ:St) (H:Hp) (D:ztr),Inv X pins σ H s→t D σ H→wpAny (model X.prog X.w) X.A (exec st X.env) (SP X pins D) X.xe s
def PSs (X:Cx) (st:List Stmt) (t:TS):Prop :=
 ∀ (pins:List (Addr × Obj)) (s:Shared) (σ:St) (H:Hp) (D:ztr),Inv X pins σ H s→t D σ H→wpAny (model X.prog X.w) X.A (execs st X.env) (SP X pins D) X.xe s
theorem thn {α:Type} {t:Sem α} {Q Q':α→Shared→Prop} {M:Model} {A:Around} {E:Value→Shared→Prop} {s:Shared} (h:wpAny M A t Q E s) (hQ:∀ a s,Q a s→Q' a s):wpAny M A t Q' E s:=wpAny_mono h hQ fun _ _ x=>x
end L2
namespace L2
open PySem PySem.Spec PyProof.Rows
section
variable {X:Cx}
def zy2 (i:Nat):TE:=fun σ H Q=>∃ v,σ[i]? = some (some v)∧Q v H
def tC (v:V):TE:=fun _ H Q=>Q v H
theorem zyp {i:Nat} {x:Str} {pos:Pos} (hN:X.N[i]? = some x) (hv:Vis X.env.scope x) (hd:(x == ("__debug__" : Str))=false:=by decide) (hcd:(x == ("__classdict__" : Str))=false:=by decide):PE X (.Name x pos) (zy2 i):=by
 intro pins s σ H Q I h
 obtain ⟨v,e,h⟩:=h
 obtain ⟨m,hn,hl⟩:=I.loc
 obtain ⟨u,r,l⟩:=hl i x v hN e hv
 have fin:EP X pins σ Q u s:=⟨v,H,I,r,h⟩
 rcases l with ⟨hk,hm⟩ | ⟨hk,c,hc,hcell⟩
 ·exact wpAny_Name (wpAny_loadName_local I.ok.kind hk hn hm fin) hd
 ·rcases hk with hk | hk
  ·exact wpAny_Name (wpAny_loadName_cell I.ok.kind hk hc hcell fin) hd
  ·exact wpAny_Name (wpAny_loadName_free I.ok.kind hk hc hcell fin hcd) hd
theorem zaw {i j pos}:PE X (.Constant (.int i) j pos) (tC (.int i)):=fun _ _ _ H _ I h=>wpAny_Constant_int ⟨.int i,H,I.tok _,⟨_,rfl⟩,h⟩
theorem zgd {b j pos}:PE X (.Constant (.bool b) j pos) (tC (.bl b)):=fun _ _ _ H _ I h=>Constant_bool ⟨.bl b,H,I,rfl,h⟩
theorem zht {j pos}:PE X (.Constant .none j pos) (tC .non):=fun _ _ _ H _ I h=>Constant_none ⟨.non,H,I,rfl,h⟩
theorem zb6 {x j pos}:PE X (.Constant (.str x) j pos) (tC (.str x)):=fun _ _ _ H _ I h=>Calls.Constant_str ⟨.str x,H,I.tok _,⟨_,rfl⟩,h⟩
def Gl (X:Cx) (x:Str):Prop:=X.env.kindOf x=some .globalImplicit
theorem zic {E:Value→Shared→Prop} {pins:List (Addr × Obj)} {s:Shared} {σ:St} {H:Hp} {x:Str} {u:Value} {pos:Pos} {Q:Value→Shared→Prop} (I:Inv X pins σ H s) (hg:Gl X x) (hm:X.mg x=some u) (h:Q u s)
  (hd:(x == ("__debug__" : Str))=false:=by decide):wpAny (model X.prog X.w) X.A (eval (.Name x pos) X.env) Q E s :=
 Calls.Name_function_global I.ok.kind hg (Calls.loadGlobal_global (by rw [I.ok.glob]; exact I.mod.glob.keeps I.bk) hm h) hd
theorem zpo {E:Value→Shared→Prop} {pins:List (Addr × Obj)} {s:Shared} {σ:St} {H:Hp} {x:Str} {u:Value} {pos:Pos} {Q:Value→Shared→Prop} (I:Inv X pins σ H s) (hg:Gl X x) (hm:X.mg x=none) (hv:bootBuiltins x=some u) (h:Q u s)
  (hn:x≠ "__name__" :=by decide) (hd:(x == ("__debug__" : Str))=false:=by decide):wpAny (model X.prog X.w) X.A (eval (.Name x pos) X.env) Q E s:=by
 obtain ⟨mb,h1,h2⟩:=I.mod.blt
 exact Calls.Name_function_global I.ok.kind hg (Calls.loadGlobal_builtin (by rw [I.ok.glob]; exact I.mod.glob.keeps I.bk) hm (by rw [I.ok.blt]; exact h1.keeps I.bk) ((h2 x hn).trans hv) h) hd
theorem zg2 {x:Str} {v:V} {u:Value} {pos:Pos} (hg:Gl X x) (hm:X.mg x=some u) (r:zdk v u) (hd:(x == ("__debug__" : Str))=false:=by decide):PE X (.Name x pos) (tC v) :=
 fun _ _ _ H _ I h=>zic I hg hm ⟨v,H,I,r,h⟩ hd
theorem zwf {x:Str} {v:V} {u:Value} {pos:Pos} (hg:Gl X x) (hm:X.mg x=none) (hv:bootBuiltins x=some u) (r:zdk v u) (hn:x≠ "__name__" :=by decide) (hd:(x == ("__debug__" : Str))=false:=by decide):PE X (.Name x pos) (tC v) :=
 fun _ _ _ H _ I h=>zpo I hg hm hv ⟨v,H,I,r,h⟩ hn hd
variable {a b:Expr} {ta tb:TE} {pos:Pos}
def PC (X:Cx) (op:CmpOp) (a b:Expr) (t:TE):Prop :=
 ∀ (pins:List (Addr × Obj)) (s:Shared) (σ:St) (H:Hp) (Q:VK),Inv X pins σ H s→t σ H Q →
  wpAny (model X.prog X.w) X.A (eval a X.env) (fun v s₁=>wpAny (model X.prog X.w) X.A (eval b X.env) (fun u s₂=>wpAny (model X.prog X.w) X.A (compareOp op v u) (EP X pins σ Q) X.xe s₂) X.xe s₁) X.xe s
theorem zo4 (b:Expr) {op:CmpOp} (h:op≠ .In) (h2:op≠ .NotIn):behindInMarks op b=false:=by
 have e1:(op == CmpOp.In)=false:=by cases op <;> first | rfl | exact absurd rfl h
 have e2:(op == CmpOp.NotIn)=false:=by cases op <;> first | rfl | exact absurd rfl h2
 cases b <;> simp [behindInMarks,e1,e2]
def tB (t:TE):TT:=fun σ H Q=>t σ H fun x H1=>∃ c,x = .bl c∧Q c H1
theorem zpb {op:CmpOp} {t:TE} (h:PC X op a b t) (h1:behindInMarks op b=false:=by first | exact zo4 _ (by decide) (by decide) | rfl):PE X (.Compare a [op] [b] pos) t:=fun pins s σ H Q I hw=>wpAny_Compare1 (h pins s σ H Q I hw) h1
theorem zie {op:CmpOp} {t:TE} (h:PC X op a b t) (h1:behindInMarks op b=false:=by first | exact zo4 _ (by decide) (by decide) | rfl):PT X (.Compare a [op] [b] pos) (tB t):=by
 intro pins s σ H Q I hw
 refine wpAny_isTrue_Compare1 (thn (h pins s σ H _ I hw) fun v s1 h1=>thn h1 fun u s2 h2=>thn h2 fun c s3 ⟨x,H1,I1,r1,q1⟩=>?_) h1
 obtain ⟨d,rfl,q⟩:=q1
 cases r1
 exact wpAny_truthy_bool ⟨H1,I1,q⟩
theorem zdv {e:Expr} {t:TE} (h:PE X e t) (he:∀ whole,isTrue e X.env whole=(do let v ← whole; standAt e.pos; holding [v] (truthy v)):=by intro _; rfl):PT X e (tB t):=by
 intro pins s σ H Q I hw
 refine isTrue_plain (thn (h pins s σ H _ I hw) fun v s1 ⟨x,H1,I1,r1,q1⟩=>?_) (he _)
 obtain ⟨d,rfl,q⟩:=q1
 cases r1
 exact wpAny_truthy_bool ⟨H1,I1,q⟩
variable {tA tB':TT} {zn5:List Expr}
def z0p (t u:TT):TT:=fun σ H Q=>t σ H fun c H1=>if c=true then u σ H1 Q else Q false H1
def tOr (t u:TT):TT:=fun σ H Q=>t σ H fun c H1=>if c=true then Q true H1 else u σ H1 Q
def z0d (t:TT):TT:=fun σ H Q=>t σ H fun c H1=>Q (!c) H1
theorem zg0 (ha:PT X a tA):PW X (.BoolOp .And [a] pos) tA:=by
 intro wh pins s σ H Q I h
 refine isTrue_and (thn (ha pins s σ H Q I h) fun c s1 e=>?_)
 cases c with
 | true=>exact isTrue_and_nil e
 | false=>exact e
theorem zq4 (ha:PT X a tA):PW X (.BoolOp .Or [a] pos) tA:=by
 intro wh pins s σ H Q I h
 refine isTrue_or (thn (ha pins s σ H Q I h) fun c s1 e=>?_)
 cases c with
 | false=>exact isTrue_or_nil e
 | true=>exact e
theorem zif (ha:PT X a tA) (hb:PW X (.BoolOp .And (b :: zn5) pos) tB'):PW X (.BoolOp .And (a :: b :: zn5) pos) (z0p tA tB'):=by
 intro wh pins s σ H Q I h
 refine isTrue_and (thn (ha pins s σ H _ I h) fun c s1 ⟨H1,I1,q1⟩=>?_)
 cases c with
 | true=>exact hb wh pins s1 σ H1 Q I1 q1
 | false=>exact ⟨H1,I1,q1⟩
theorem zsl (ha:PT X a tA) (hb:PW X (.BoolOp .Or (b :: zn5) pos) tB'):PW X (.BoolOp .Or (a :: b :: zn5) pos) (tOr tA tB'):=by
 intro wh pins s σ H Q I h
 refine isTrue_or (thn (ha pins s σ H _ I h) fun c s1 ⟨H1,I1,q1⟩=>?_)
 cases c with
 | true=>exact ⟨H1,I1,q1⟩
 | false=>exact hb wh pins s1 σ H1 Q I1 q1
theorem zf0 (ha:PT X a tA):PT X (.UnaryOp .Not a pos) (z0d tA):=by
 intro pins s σ H Q I h
 exact isTrue_not (ha pins s σ H (fun c H1=>Q (!c) H1) I h)
def zzp (ta tb:TE):TE:=fun σ H Q=>ta σ H fun x H1=>∃ c,x = .bl c∧if c=true then tb σ H1 Q else Q (.bl false) H1
def zy_ (ta:TE):TE:=fun σ H Q=>ta σ H fun x H1=>∃ c,x = .bl c∧Q (.bl (!c)) H1
theorem zjk {op} {t:TE} (h:PE X a t):PE X (.BoolOp op [a] pos) t:=fun pins s σ H Q I hw=>BoolOp_one (h pins s σ H Q I hw)
theorem zhs (ha:PE X a ta) (hb:PE X (.BoolOp .And (b :: zn5) pos) tb):PE X (.BoolOp .And (a :: b :: zn5) pos) (zzp ta tb):=by
 intro pins s σ H Q I h
 refine BoolOp_and (thn (ha pins s σ H _ I h) fun v s1 ⟨x,H1,I1,r1,q1⟩=>?_)
 obtain ⟨c,rfl,q1⟩:=q1
 cases r1
 refine wpAny_truthy_bool ?_
 cases c with
 | true=>exact hb pins s1 σ H1 Q I1 q1
 | false=>exact ⟨.bl false,H1,I1,rfl,q1⟩
theorem zq5 (ha:PE X a ta):PE X (.UnaryOp .Not a pos) (zy_ ta):=by
 intro pins s σ H Q I h
 refine UnaryOp_ (thn (ha pins s σ H _ I h) fun v s1 ⟨x,H1,I1,r1,q1⟩=>?_)
 obtain ⟨c,rfl,q1⟩:=q1
 cases r1
 exact not_of (wpAny_truthy_bool ⟨.bl (!c),H1,I1,rfl,q1⟩)
def tIf (t:TT) (ta tb:TE):TE:=fun σ H Q=>t σ H fun c H1=>if c=true then ta σ H1 Q else tb σ H1 Q
theorem zub {c:Expr} (hc:PT X c tA) (ha:PE X a ta) (hb:PE X b tb):PE X (.IfExp c a b pos) (tIf tA ta tb):=by
 intro pins s σ H Q I h
 refine wpAny_IfExp (thn (hc pins s σ H _ I h) fun d s1 ⟨H1,I1,q1⟩=>?_)
 cases d with
 | true=>exact ha pins s1 σ H1 Q I1 q1
 | false=>exact hb pins s1 σ H1 Q I1 q1
end
end L2
namespace L2
open PySem PySem.Spec PyProof.Rows
def SqL (K:PySem.W.Frag) (H:Hp) (a:Addr) (xs:List V):Prop :=
 Rd H a (.lst xs) ∨
  ∃ (o:Obj) (its:Array Value) (n:Nat),K.lookup a=some o∧o.cls = .type "list" ∧o.dict=none∧o.data = .seq its n∧its.size≤sizeLine∧zc2 xs its.toList
def SqT (K:PySem.W.Frag) (H:Hp) (a:Addr) (xs:List V):Prop :=
 Rd H a (.tup xs) ∨
  ∃ (o:Obj) (its:Array Value) (n:Nat),K.lookup a=some o∧o.cls = .type "tuple" ∧o.data = .seq its n∧its.size≤sizeLine∧zc2 xs its.toList
def z0i:Value→Option V
 | .none=>some .non
 | .bool b=>some (.bl b)
 | .int i _=>some (.int i)
 | .str x _=>some (.str x)
 | .bytes b _=>some (.byt b)
 | .float b _=>some (.flt b)
 | .ref a=>some (.ref a)
 | .type n=>some (.ty n)
 | _=>none
theorem zdk.abs {x:V} {u:Value} (r:zdk x u):z0i u=some x:=by
 cases x with
 | non=>cases r; rfl
 | bl _=>cases r; rfl
 | int _=>obtain ⟨t,rfl⟩:=r; rfl
 | str _=>obtain ⟨t,rfl⟩:=r; rfl
 | byt _=>obtain ⟨t,rfl⟩:=r; rfl
 | flt _=>obtain ⟨t,rfl⟩:=r; rfl
 | ref _=>cases r; rfl
 | ty _=>cases r; rfl
theorem zdk.inj {x y:V} {u:Value} (r:zdk x u) (q:zdk y u):x=y:=Option.some.inj (r.abs.symm.trans q.abs)
theorem zc2.inj:∀ {xs ys:List V} {us:List Value},zc2 xs us→zc2 ys us→xs=ys
 | _,_,_,.nil,.nil=>rfl
 | _,_,_,.cons r t,.cons r' t'=>by rw [r.inj r',zc2.inj t t']
section
variable {X:Cx} {pins:List (Addr × Obj)} {σ:St} {H:Hp} {s:Shared} {a:Addr} {xs ys:List V}
theorem SqL.of {K:PySem.W.Frag} (h:H a=some (.lst xs)):SqL K H a xs:= .inl (.inl h)
theorem SqT.of {K:PySem.W.Frag} (h:H a=some (.tup xs)):SqT K H a xs:= .inl (.inl h)
theorem Inv.list (I:Inv X pins σ H s) (h:SqL X.K H a xs):∃ its:List Value,zc2 xs its∧PlainL s.heap a its.toArray∧xs.length≤sizeLine:=by
 rcases h with h | ⟨o,its,n,hk,hc,hd,hs,hz,r⟩
 ·obtain ⟨z,its,n,r,e⟩:=h.ok I.hok
  exact ⟨its,r,⟨_,n,e,rfl,rfl,rfl⟩,z⟩
 ·refine ⟨its.toList,r,⟨o,n,I.kIn a o hk,hc,hd,by simpa using hs⟩,?_⟩
  have e:=r.length
  simp only [Array.length_toList] at e
  omega
theorem Inv.tuple (I:Inv X pins σ H s) (h:SqT X.K H a xs):∃ its:List Value,zc2 xs its∧IsTup s.heap a its.toArray∧xs.length≤sizeLine:=by
 rcases h with h | ⟨o,its,n,hk,hc,hs,hz,r⟩
 ·obtain ⟨z,its,r,p⟩:=h.ok I.hok
  exact ⟨its,r,p,z⟩
 ·refine ⟨its.toList,r,⟨o,I.kIn a o hk,hc,n,by simpa using hs⟩,?_⟩
  have e:=r.length
  simp only [Array.length_toList] at e
  omega
theorem Inv.list_inj (I:Inv X pins σ H s) (h:SqL X.K H a xs) (h':SqL X.K H a ys):xs=ys:=by
 obtain ⟨its,r,⟨o,n,e,_,_,d⟩,_⟩:=I.list h
 obtain ⟨its',r',⟨o',n',e',_,_,d'⟩,_⟩:=I.list h'
 rw [e] at e'; cases e'
 rw [d] at d'
 injection d' with d1 _
 have:its=its':=by simpa using congrArg Array.toList d1
 subst this
 exact r.inj r'
end
abbrev Cx.wish (X:Cx) (E:Value→Shared→Prop):Cx:={ X with xe:=E }
abbrev Cx.nox (X:Cx):Cx:=X.wish fun _ _=>False
theorem Cx.Ok.wish {X:Cx} (ok:X.Ok) (E:Value→Shared→Prop):(X.wish E).Ok :=
 ⟨ok.mod,ok.kind,ok.glob,ok.blt,ok.above,ok.inj,ok.has,ok.cab,ok.hd,ok.frames,ok.stk,ok.exf,ok.bs,ok.bsz,ok.noex,ok.exfs,ok.funs,ok.frf⟩
theorem Cx.Ok.unwish {X:Cx} {E:Value→Shared→Prop} (ok:(X.wish E).Ok):X.Ok :=
 ⟨ok.mod,ok.kind,ok.glob,ok.blt,ok.above,ok.inj,ok.has,ok.cab,ok.hd,ok.frames,ok.stk,ok.exf,ok.bs,ok.bsz,ok.noex,ok.exfs,ok.funs,ok.frf⟩
section
variable {X:Cx} {pins:List (Addr × Obj)} {σ:St} {H:Hp} {s:Shared} {E:Value→Shared→Prop}
theorem Inv.wish (I:Inv X pins σ H s) (E:Value→Shared→Prop):Inv (X.wish E) pins σ H s:=⟨I.ok.wish E,I.os,I.bare,I.base,I.loc,I.cell,I.free,I.freeC,I.pin,I.hok,I.len⟩
theorem Inv.unwish (I:Inv (X.wish E) pins σ H s):Inv X pins σ H s:=⟨I.ok.unwish,I.os,I.bare,I.base,I.loc,I.cell,I.free,I.freeC,I.pin,I.hok,I.len⟩
theorem SP.unwish {D:ztr} {f:Flow} {s':Shared} (h:SP (X.wish E) pins D f s'):SP X pins D f s':=by
 cases f with
 | next=>obtain ⟨σ',H',I,q⟩:=h; exact ⟨σ',H',I.unwish,q⟩
 | brk=>obtain ⟨σ',H',I,q⟩:=h; exact ⟨σ',H',I.unwish,q⟩
 | cont=>obtain ⟨σ',H',I,q⟩:=h; exact ⟨σ',H',I.unwish,q⟩
 | ret u=>obtain ⟨v,σ',H',I,r,q⟩:=h; exact ⟨v,σ',H',I.unwish,r,q⟩
theorem PE.nox {e:Expr} {t:TE} (h:PE X.nox e t):PE X e t:=fun pins s σ H Q I hw =>
 wpAny_mono (h pins s σ H Q (I.wish _) hw) (fun _ _ ⟨v,H',I',r,q⟩=>⟨v,H',I'.unwish,r,q⟩) fun _ _ z=>False.elim z
theorem PT.nox {e:Expr} {t:TT} (h:PT X.nox e t):PT X e t:=fun pins s σ H Q I hw =>
 wpAny_mono (h pins s σ H Q (I.wish _) hw) (fun _ _ ⟨H',I',q⟩=>⟨H',I'.unwish,q⟩) fun _ _ z=>False.elim z
theorem PSs.nox {st:List Stmt} {t:TS} (h:PSs X.nox st t):PSs X st t:=fun pins s σ H D I hw =>
 wpAny_mono (h pins s σ H D (I.wish _) hw) (fun _ _ q=>q.unwish) fun _ _ z=>False.elim z
end
section
variable {X:Cx} {st:Stmt} {zn5:List Stmt} {t u:TS} {e:Expr} {te:TE} {pos:Pos}
def zxv:TS:=fun D σ H=>D.nx σ H
def zz1 (t u:TS):TS:=fun D σ H=>t { D with nx:=u D } σ H
theorem zbo:PSs X [] zxv:=fun _ _ σ H _ I h=>wpAny_execs_nil ⟨σ,H,I,h⟩
theorem zaq (h1:PS X st t) (h2:PSs X zn5 u):PSs X (st :: zn5) (zz1 t u):=by
  intro pins s σ H D I h
  refine wpAny_execs_cons (thn (h1 pins s σ H { D with nx:=u D } I h) fun f s1 q=>?_)
  cases f with
  | next =>
    obtain ⟨σ',H',I',q⟩:=q
    exact h2 pins s1 σ' H' D I' q
  | ret v=>exact q
  | brk=>exact q
  | cont=>exact q
theorem zas (h1:PS X st t):PSs X [st] t:=by
 intro pins s σ H D I h
 refine wpAny_execs_cons (thn (h1 pins s σ H D I h) fun f s1 q=>?_)
 cases f with
 | next=>exact wpAny_execs_nil q
 | ret v=>exact q
 | brk=>exact q
 | cont=>exact q
theorem zvw:PS X (.Pass pos) zxv:=fun _ _ σ H _ I h=>wpAny_Pass ⟨σ,H,I,h⟩
theorem Inv.quiet {pins:List (Addr × Obj)} {σ:St} {H:Hp} {s:Shared} (I:Inv X pins σ H s):interactive X.env=false:=by simp [interactive,I.ok.kind]
def zy4 (te:TE):TS:=fun D σ H=>te σ H fun _ H1=>D.nx σ H1
theorem zbj (he:PE X e te) (hs:swapsWith e none pos.line X.env=pure false:=by rfl):PS X (.Expr e pos) (zy4 te):=by
 intro pins s σ H D I h
 exact wpAny_Expr_any (thn (he pins s σ H _ I h) fun v s1 ⟨x,H1,I1,r1,q1⟩=>⟨σ,H1,I1,q1⟩) I.quiet hs
def z0r (te:TE):TS:=fun D σ H=>te σ H D.rt
theorem zbh (he:PE X e te):PS X (.Return (some e) pos) (z0r te):=by
 intro pins s σ H D I h
 exact wpAny_Return_some (thn (he pins s σ H _ I h) fun v s1 ⟨x,H1,I1,r1,q1⟩=>⟨x,σ,H1,I1,r1,q1⟩)
def z00 (c:TT) (t u:TS):TS:=fun D σ H=>c σ H fun b H1=>if b=true then t D σ H1 else u D σ H1
theorem zcq {c:Expr} {a b:List Stmt} {tc:TT} (hc:PT X c tc) (ha:PSs X a t) (hb:PSs X b u):PS X (.If c a b pos) (z00 tc t u):=by
 intro pins s σ H D I h
 refine wpAny_If (thn (hc pins s σ H _ I h) fun d s1 ⟨H1,I1,q1⟩=>?_)
 cases d with
 | true=>exact ha pins s1 σ H1 D I1 q1
 | false=>exact hb pins s1 σ H1 D I1 q1
def zxe:TS:=fun _ _ _=>False
theorem zd1 {sts:List Stmt}:PSs X sts zxe:=fun _ _ _ _ _ _ h=>h.elim
end
abbrev TG:=V→St→Hp→(St→Hp→Prop)→Prop
abbrev TGs:=List V→St→Hp→(St→Hp→Prop)→Prop
def PG (X:Cx) (target:Expr) (t:TG):Prop :=
 ∀ (pins:List (Addr × Obj)) (s:Shared) (σ:St) (H:Hp) (v:V) (u:Value) (Q:St→Hp→Prop),Inv X pins σ H s→zdk v u→t v σ H Q →
  wpAny (model X.prog X.w) X.A (assign target X.env u) (fun _ s'=>∃ σ' H',Inv X pins σ' H' s'∧Q σ' H') X.xe s
def PGs (X:Cx) (ts:List Expr) (t:TGs):Prop :=
 ∀ (pins:List (Addr × Obj)) (s:Shared) (σ:St) (H:Hp) (vs:List V) (us:List Value) (Q:St→Hp→Prop),Inv X pins σ H s→zc2 vs us→t vs σ H Q →
  wpAny (model X.prog X.w) X.A (assignInOrder ((assignEach ts X.env).map (·.2)) us) (fun _ s'=>∃ σ' H',Inv X pins σ' H' s'∧Q σ' H') X.xe s
section
variable {X:Cx} {pos:Pos}
def zl8 (i:Nat):TG:=fun v σ H Q=>Q (σ.set i (some v)) H
theorem zcw {i:Nat} {x:Str} (hN:X.N.Nodup) (hi:X.N[i]? = some x) (hx:Loc X.env.scope x) (hf:X.fn x=true∨X.env.scope.names.lookup x=some .local:=by first | exact .inl rfl | exact .inr rfl | assumption):PG X (.Name x pos) (zl8 i):=by
 intro pins s σ H v u Q I r h
 exact wpAny_assign_Name (zhf I hN hi hx r (fun s' I'=>⟨_,H,I',h⟩) hf)
def z0w:TGs:=fun vs σ H Q=>vs=[]∧Q σ H
def zzd (t:TG) (u:TGs):TGs:=fun vs σ H Q=>∃ v r,vs=v :: r∧t v σ H fun σ' H'=>u r σ' H' Q
theorem zvp:PGs X [] z0w:=by
 intro pins s σ H vs us Q I r h
 obtain ⟨e,h⟩:=h
 subst e
 cases r
 exact assignInOrder_nil ⟨σ,H,I,h⟩
theorem zlu {e:Expr} {es:List Expr} {t:TG} {u:TGs} (h1:PG X e t) (h2:PGs X es u)
    (hs:(assignEach (e :: es) X.env).map (·.2)=assign e X.env :: (assignEach es X.env).map (·.2):=by rfl):PGs X (e :: es) (zzd t u):=by
  intro pins s σ H vs us Q I r h
  obtain ⟨v,vr,e1,h⟩:=h
  subst e1
  cases r with
  | cons r rr =>
    rw [hs]
    refine assignInOrder_cons (thn (h1 pins s σ H _ _ _ I r h) fun _ s1 ⟨σ1,H1,I1,q1⟩=>?_)
    exact h2 pins s1 σ1 H1 _ _ Q I1 rr q1
def z0n (K:PySem.W.Frag) (n:Nat) (t:TGs):TG:=fun v σ H Q=>∃ a xs,v = .ref a∧SqT K H a xs∧xs.length=n∧t xs σ H Q
theorem zxw {es:List Expr} {k:Nat} {t:TGs} {n:Nat} (hc:X.calm=true) (h:PGs X es t)
  (hn:(assignEach es X.env).length=n:=by rfl) (hst:(assignEach es X.env).findIdx? (·.1)=none:=by rfl):PG X (.Tuple es k pos) (z0n X.K n t):=by
 intro pins s σ H v u Q I r hw
 obtain ⟨a,xs,e1,hq,hl,hw⟩:=hw
 subst e1
 cases r
 obtain ⟨its,rv,ht,hz⟩:=I.tuple hq
 refine assign_Tuple_tuple (I.ok.hd hc) ht (by simp [hn,← hl,rv.length]) hst fun h' hx=>?_
 have I1:Inv X pins σ H { s with heap:=h' }:=I.kept (t':=s.toks) fun b o e=>hx b o (Nat.ne_of_lt (Heap.lt_size e)) e
 exact h pins _ σ H xs _ Q I1 (by simpa using rv) hw
def zzt (te:TE) (g:TG):TS:=fun D σ H=>te σ H fun x H1=>g x σ H1 D.nx
theorem zxz {tg e:Expr} {te:TE} {g:TG} (he:PE X e te) (hg:PG X tg g) (hs:swapsWithSole [tg] e pos.line X.env=pure false:=by rfl) (hw:swappedStores [tg] e X.env=pure none:=by rfl)
  (h1:(assignEach [tg] X.env).map (·.2)=[assign tg X.env]:=by rfl):PS X (.Assign [tg] e pos) (zzt te g):=by
 intro pins s σ H D I h
 refine wpAny_Assign_stores (thn (he pins s σ H _ I h) fun v s1 ⟨x,H1,I1,r1,q1⟩=>?_) hs hw
 rw [h1]
 exact thn (hg pins s1 σ H1 x v _ I1 r1 q1) fun _ s2 q=>q
theorem zcp {i:Nat} {x:Str} {e:Expr} {te:TE} {pos':Pos} (hN:X.N.Nodup) (hi:X.N[i]? = some x) (hx:Loc X.env.scope x) (he:PE X e te) (hs:swapsWith e (some (.Name x pos')) pos.line X.env=pure false:=by rfl) (hf:X.fn x=true∨X.env.scope.names.lookup x=some .local:=by first | exact .inl rfl | exact .inr rfl | assumption) :
  PS X (.Assign [.Name x pos'] e pos) (zzt te (zl8 i)):=by
 intro pins s σ H D I h
 refine wpAny_Assign_Name (thn (he pins s σ H _ I h) fun v s1 ⟨y,H1,I1,r1,q1⟩=>?_) hs
 exact zhf I1 hN hi hx r1 (fun s2 I2=>⟨_,H1,I2,q1⟩) hf
end
section
variable {X:Cx} {pos:Pos}
def zya (c:TT) (tb:TS):TS:=fun D σ H=>∃ W:Nat→St→Hp→Prop,(∃ m,W m σ H)∧∀ m σ H,W m σ H →
 c σ H fun b H1=>if b=true then ∃ N:St→Hp→Prop,(∀ σ' H',N σ' H'→∃ m',m'<m∧W m' σ' H')∧tb { D with nx:=N,ct:=N,bk:=D.nx } σ H1 else D.nx σ H1
theorem zps {c:Expr} {body:List Stmt} {tc:TT} {tb:TS} (hp:PassesOwn (model X.prog X.w) X.A X.env X.xe) (hc:PT X c tc) (hb:PSs X body tb):PS X (.While c body [] pos) (zya tc tb):=by
  intro pins s σ H D I h
  obtain ⟨W,⟨m0,w0⟩,turn⟩:=h
  refine wpAny_While (codeAny_whileLoop (fun n s'=>∃ σ' H',Inv X pins σ' H' s'∧W n σ' H') ?_ m0 ⟨σ,H,I,w0⟩)
  rintro n s1 ⟨σ1,H1,I1,w1⟩
  refine wpAny_passesOwn hp (thn (hc pins s1 σ1 H1 _ I1 (turn n σ1 H1 w1)) fun b s2 ⟨H2,I2,q2⟩=>?_)
  cases b with
  | true =>
    obtain ⟨N,hN,q2⟩:=q2
    rw [if_pos rfl]
    refine wpAny_passesOwn hp (thn (hb pins s2 σ1 H2 _ I2 q2) fun f s3 q3=>?_)
    cases f with
    | next =>
      obtain ⟨σ3,H3,I3,n3⟩:=q3
      obtain ⟨m',hm,w3⟩:=hN σ3 H3 n3
      exact ⟨m',hm,σ3,H3,I3,w3⟩
    | cont =>
      obtain ⟨σ3,H3,I3,n3⟩:=q3
      obtain ⟨m',hm,w3⟩:=hN σ3 H3 n3
      exact ⟨m',hm,σ3,H3,I3,w3⟩
    | brk=>exact q3
    | ret v=>exact q3
  | false =>
    rw [if_neg Bool.false_ne_true]
    exact wpAny_execs_nil ⟨σ1,H2,I2,q2⟩
end
structure It where
 go:Nat→Hp→Prop
 yld:Nat→Hp→V→Hp→Prop
 stop:Nat→Hp→Prop
def zp_ (X:Cx) (pins:List (Addr × Obj)) (H:Hp) (b:Addr):Prop :=
 H b=none∧b≠X.env.locals∧b∉X.fs∧(b∈X.ex∨X.s₀.heap.objs.size≤b)∧(∀ x c,X.env.cells.lookup x=some c→c≠b)∧∀ p∈X.pn++pins,p.1≠b
theorem Inv.fpOk {X:Cx} {pins:List (Addr × Obj)} {σ:St} {H H':Hp} {s:Shared} {b:Addr} (I:Inv X pins σ H s) (hb:s.heap.objs.size≤b) (hn:H' b=none):zp_ X pins H' b:=by
 refine ⟨hn,Nat.ne_of_gt (Nat.lt_of_lt_of_le I.lt hb),I.nofs hb,.inr (Nat.le_trans I.sz hb),fun x c e z=>?_,fun p hp z=>?_⟩
 ·obtain ⟨v,q⟩:=I.cell x c e
  exact absurd (Nat.lt_of_lt_of_le q.lt (by rw [z]; exact hb)) (Nat.lt_irrefl _)
 ·exact absurd (Nat.lt_of_lt_of_le (Heap.lt_size (I.pin p hp).1) (by rw [z]; exact hb)) (Nat.lt_irrefl _)
structure zyt (P:Program) (w:World) (K:PySem.W.Frag) (tg:Expr) (J:It) (fp:List Addr) (it:Addr) (tn:Nat→Heap→Prop):Prop where
 mem:it∈fp
 obj:∀ i h,tn i h→∀ b∈fp,∃ o,h.get? b=some o∧∀ v,o.data≠ .cell v
 keep:∀ i h h',tn i h→(∀ b∈fp,∀ o,h.get? b=some o→h'.get? b=some o)→tn i h'
 item:∀ (X:Cx),X.prog=P→X.w=w→X.K=K→X.calm=true→∀ (i:Nat) (pins:List (Addr × Obj)) (s:Shared) (σ:St) (H:Hp) (E:Value→Shared→Prop),Inv X pins σ H s→(∀ b∈fp,zp_ X pins H b)→tn i s.heap→J.go i H →
  wpAny (model P w) X.A (pyNext (.ref it)) (fun r s1=>∃ u,r=some u ∧
   wpAny (model P w) X.A (letOwnedTupleGo tg (.ref it) u) (fun _ s2=>∃ x H',Inv X pins σ H' s2∧zdk x u∧J.yld i H x H'∧tn (i+1) s2.heap∧∀ b∈fp,H' b=none) E s1) E s
 done:∀ (X:Cx),X.prog=P→X.w=w→X.K=K→X.calm=true→∀ (i:Nat) (pins:List (Addr × Obj)) (s:Shared) (σ:St) (H:Hp) (E:Value→Shared→Prop),Inv X pins σ H s→(∀ b∈fp,zp_ X pins H b)→tn i s.heap→J.stop i H →
  wpAny (model P w) X.A (pyNext (.ref it)) (fun r s1=>r=none∧Inv X pins σ H s1) E s
 self:∀ (A:Around) (i:Nat) (s:Shared) (Q:Value→Shared→Prop) (E:Value→Shared→Prop),tn i s.heap→Q (.ref it) s→wpAny (model P w) A (pyIter (.ref it)) Q E s
abbrev TI:=St→Hp→(It→Hp→Prop)→Prop
def PIE (X:Cx) (pins:List (Addr × Obj)) (σ:St) (tg:Expr) (R:It→Hp→Prop) (itv:Value) (s2:Shared):Prop :=
 ∃ (it:Addr) (fp:List Addr) (tn:Nat→Heap→Prop) (J:It) (H':Hp),itv = .ref it∧Inv X pins σ H' s2∧zyt X.prog X.w X.K tg J fp it tn∧tn 0 s2.heap∧(∀ b∈fp,zp_ X pins H' b)∧R J H'
def PI (X:Cx) (tg iter:Expr) (wi:TI):Prop :=
 ∀ (pins:List (Addr × Obj)) (s:Shared) (σ:St) (H:Hp) (R:It→Hp→Prop),Inv X pins σ H s→wi σ H R →
  wpAny (model X.prog X.w) X.A (eval iter X.env) (fun v s1=>wpAny (model X.prog X.w) X.A (pyIter v) (PIE X pins σ tg R) X.xe s1) X.xe s
theorem zvg {M:Model} {A:Around} {E:Value→Shared→Prop} {s:Shared} {tg:Expr} {it:Addr} {u:Value} {o:Obj} {n:String} {vs:Array Value} {Q:Unit→Shared→Prop} (ho:s.heap.get? it=some o) (hc:o.cls = .type n) (hd:o.data = .fields vs)
    (hn:["enumerate","zip","dict_itemiterator","dict_reverseitemiterator","odict_iterator","itertools.zip_longest","itertools.pairwise"].contains n=false) (hQ:Q () s):wpAny M A (letOwnedTupleGo tg (.ref it) u) Q E s:=by
  unfold letOwnedTupleGo
  cases tg <;> first
    | exact wpAny_pure hQ
    | (cases u <;> first
        | exact wpAny_pure hQ
        | (refine wpAny_bind (wpAny_load ho ?_)
           rw [hc,hd]
           show wpAny M A (if (["enumerate","zip","dict_itemiterator","dict_reverseitemiterator","odict_iterator","itertools.zip_longest","itertools.pairwise"].contains n && vs[0]? == some (rawInt _))=true then _ else _) Q E s
           rw [if_neg (by intro h; rw [hn,Bool.false_and] at h; cases h)]
           exact wpAny_pure hQ))
def Itl (K:PySem.W.Frag) (a:Addr):It :=
 ⟨fun i H=>∃ xs x,SqL K H a xs∧xs[i]? = some x,fun i H x H'=>H'=H∧∀ xs,SqL K H a xs→xs[i]? = some x,fun i H=>∃ xs,SqL K H a xs∧xs.length≤i⟩
def Itr (lo:Int) (n:Nat):It:=⟨fun i _=>i<n,fun i H x H'=>H'=H∧x = .int (lo+i),fun i _=>n≤i⟩
theorem zqv {P:Program} {w:World} {K:PySem.W.Frag} {tg:Expr} (a it:Addr):zyt P w K tg (Itl K a) [it] it (fun i h=>h.IsListIter it a i) where
 mem:=by simp
 obj:=fun i h st b hb=>by
  have e:b=it:=by simpa using hb
  subst e
  obtain ⟨o,e,c,d⟩:=st
  exact ⟨o,e,fun v z=>by rw [d] at z; cases z⟩
 keep:=fun i h h' st k=>st.at fun o e=>k it (by simp) o e
 item:=by
  intro X hP hw hK hc i pins s σ H E I hf st hg
  subst hP hw hK
  obtain ⟨xs,x,hq,hx⟩:=hg
  obtain ⟨its,rv,p,hz⟩:=I.list hq
  obtain ⟨u,hu,ru⟩:=rv.get hx
  obtain ⟨f0,f1,f2,f3,f4,f5⟩:=hf it (by simp)
  refine wpAny_pyNext_list_item st p.isList (x:=u) (by simpa using hu) fun h' st' sb=>?_
  have I1:Inv X pins σ H { s with heap:=h' }:=I.turned (t':=s.toks) (fun b o hb e=>(sb.2 b hb).trans e) f0 f1 f3 f4 f5
  obtain ⟨o,e,c,d⟩:=id st'
  exact ⟨u,rfl,zvg (s:={ s with heap:=h' }) e c d (by decide) ⟨x,H,I1,ru,⟨rfl,fun ys hy=>by rw [I.list_inj hy hq]; exact hx⟩,st',fun b hb=>(hf b hb).1⟩⟩
 done:=by
  intro X hP hw hK hc i pins s σ H E I hf st hg
  subst hP hw hK
  obtain ⟨xs,hq,hx⟩:=hg
  obtain ⟨its,rv,p,hz⟩:=I.list hq
  obtain ⟨f0,f1,f2,f3,f4,f5⟩:=hf it (by simp)
  have hl:=rv.length
  exact wpAny_pyNext_list_end (I.ok.hd hc) st p.isList (by simp; omega) fun h' eb=>⟨rfl,I.turned (t':=s.toks) (fun b o hb e=>eb b o hb e) f0 f1 f3 f4 f5⟩
 self:=fun _ _ _ _ _ st h=>wpAny_pyIter_listiter st h
theorem zpx {P:Program} {w:World} {K:PySem.W.Frag} {tg:Expr} (it:Addr) (lo:Int) (n:Nat):zyt P w K tg (Itr lo n) [it] it (fun i h=>IsRangeIter h it (lo+(i:Nat) * 1) ((n:Int) - (i:Nat)) 1) where
 mem:=by simp
 obj:=fun i h st b hb=>by
  have e:b=it:=by simpa using hb
  subst e
  exact ⟨_,st,fun v z=>by
   have z':Data.fields _=Data.cell v:=z
   cases z'⟩
 keep:=fun i h h' st k=>k it (by simp) _ st
 item:=by
  intro X hP hw hK hc i pins s σ H E I hf st hg
  subst hP hw hK
  obtain ⟨f0,f1,f2,f3,f4,f5⟩:=hf it (by simp)
  have W:=Walks.range (prog:=X.prog) (w:=X.w) (I.ok.hd hc) it lo 1 n
  refine W.item i s _ _ hg st fun v h' tk hv st' kk=>?_
  obtain ⟨t,rfl⟩:=hv
  have I1:Inv X pins σ H { s with heap:=h',toks:=tk }:=I.turned (fun b o hb e=>kk b o (by simpa using hb) e) f0 f1 f3 f4 f5
  refine ⟨_,rfl,zvg (s:={ s with heap:=h',toks:=tk }) (n:= "range_iterator") st' rfl rfl (by decide) ⟨.int (lo+i),H,I1,⟨t,?_⟩,⟨rfl,rfl⟩,st',fun b hb=>(hf b hb).1⟩⟩
  rw [Int.mul_one]
 done:=by
  intro X hP hw hK hc i pins s σ H E I hf st hg
  subst hP hw hK
  obtain ⟨f0,f1,f2,f3,f4,f5⟩:=hf it (by simp)
  exact wpAny_pyNext_range_end (I.ok.hd hc) st (by have:n≤i:=hg; omega) fun h' eb=>⟨rfl,I.turned (t':=s.toks) (fun b o hb e=>eb b o hb e) f0 f1 f3 f4 f5⟩
 self:=fun _ _ _ _ _ st h=>wpAny_pyIter_rangeiter st h
end L2
namespace L2
open PySem PySem.Spec PyProof.Rows
section
variable {X:Cx} {tg:Expr}
def zy5 (K:PySem.W.Frag) (tl:TE):TI:=fun σ H R=>tl σ H fun x H1=>∃ a,x = .ref a∧(∃ xs,SqL K H1 a xs)∧R (Itl K a) H1
theorem zee {l:Expr} {tl:TE} (hl:PE X l tl):PI X tg l (zy5 X.K tl):=by
 intro pins s σ H R I h
 refine thn (hl pins s σ H _ I h) fun v s1 ⟨x,H1,I1,r1,q1⟩=>?_
 obtain ⟨a,e,⟨xs,hq⟩,q⟩:=q1
 subst e
 cases r1
 obtain ⟨its,rv,p,hz⟩:=I1.list hq
 refine wpAny_pyIter_list p.isList ?_
 refine ⟨s1.heap.objs.size,[s1.heap.objs.size],_,_,H1,rfl,I1.kept (t':=s1.toks) fun b o e=>Heap.get?_push_of_some _ e,zqv a _,⟨_,Heap.get?_push_size _ rfl,rfl,rfl⟩,fun b hb=>?_,q⟩
 have e:b=s1.heap.objs.size:=by simpa using hb
 subst e
 exact I1.fpOk (Nat.le_refl _) (I1.hok.fresh (Nat.le_refl _))
theorem ztb {pins:List (Addr × Obj)} {σ:St} {H:Hp} {s:Shared} {R:It→Hp→Prop} {E:Value→Shared→Prop} {lo hi:Int} {t u v:Tok} {tk:Nat} (I:Inv X pins σ H s) (h1 : -(2 ^ 62)≤lo) (h2:lo<2 ^ 62) (h3 : -(2 ^ 62)≤hi) (h4:hi<2 ^ 62)
  (q:R (Itr lo (hi - lo).toNat) H):wpAny (model X.prog X.w) X.A (pyIter (.ref s.heap.objs.size)) (PIE X pins σ tg R) E { s with heap:=s.heap.push { cls:= .type "range",data:= .fields #[.int lo t,.int hi u,.int 1 v] },toks:=tk }:=by
 refine wpAny_pyIter_range (IsRange.new ..) (small_one h1 h2 h3 h4) ?_
 have I1:Inv X pins σ H { s with heap:=s.heap.push { cls:= .type "range",data:= .fields #[.int lo t,.int hi u,.int 1 v] },toks:=tk }:=I.kept fun b o e=>Heap.get?_push_of_some _ e
 refine ⟨(s.heap.push { cls:= .type "range",data:= .fields #[.int lo t,.int hi u,.int 1 v] }).objs.size,[(s.heap.push { cls:= .type "range",data:= .fields #[.int lo t,.int hi u,.int 1 v] }).objs.size],_,_,H,rfl,
  I1.kept (t':=tk) fun b o e=>Heap.get?_push_of_some _ e,zpx _ lo (hi - lo).toNat,?_,fun b hb=>?_,q⟩
 ·have e1:lo+((0:Nat):Int) * 1=lo:=by simp
  have e2:(((hi - lo).toNat:Nat):Int) - ((0:Nat):Int)=Builtin.Range.rangeSize lo hi 1:=by rw [rangeSize_one]; split <;> omega
  show IsRangeIter _ _ (lo+((0:Nat):Int) * 1) ((((hi - lo).toNat:Nat):Int) - ((0:Nat):Int)) 1
  rw [e1,e2]
  exact Heap.get?_push_size _ rfl
 ·have e:b=(s.heap.push { cls:= .type "range",data:= .fields #[.int lo t,.int hi u,.int 1 v] }).objs.size:=by simpa using hb
  subst e
  exact I1.fpOk (Nat.le_refl _) (I1.hok.fresh (Nat.le_refl _))
def zzh (ta:TA):TI:=fun σ H R=>ta σ H fun vs H1=>∃ j:Int,vs=[.int j]∧ -(2 ^ 62)≤j∧j<2 ^ 62∧R (Itr 0 j.toNat) H1
theorem zjn {a:Expr} {ta:TA} {p pos:Pos} (hg:Gl X "range") (hm:X.mg "range" = none) (ha:PA X [a] ta) (hs:starEach [a] X.env=[(false,eval a X.env)]:=by rfl):PI X tg (.Call (.Name "range" p) [a] [] pos) (zzh ta):=by
  intro pins s σ H R I h
  refine Call_ (zpo I hg hm boot_range (PyProof.Rows.callWith_type1 (thn (ha pos pins s σ H _ I h) fun us s1 ⟨vs,H1,I1,r1,q1⟩=>?_) hs rfl))
  obtain ⟨j,e,q1,q2,q⟩:=q1
  subst e
  cases r1 with
  | cons r rr =>
    cases rr
    obtain ⟨t,rfl⟩:=r
    exact call_range_1 (ztb I1 (by omega) (by omega) q1 q2 (by simpa using q))
def z0v (wi:TI) (g:TG) (tb:TS):TS:=fun D σ H=>wi σ H fun J H1=>∃ W:Nat→Nat→St→Hp→Prop,(∃ m,W 0 m σ H1)∧∀ i m σ H,W i m σ H →
 (J.stop i H∧D.nx σ H)∨(J.go i H∧∃ N:St→Hp→Prop,(∀ σ' H',N σ' H'→∃ m',m'<m∧W (i+1) m' σ' H')∧∀ x H',J.yld i H x H'→g x σ H' fun σ2 H2=>tb { D with nx:=N,ct:=N,bk:=D.nx } σ2 H2)
def zmb (fp:List Addr) (h:Heap):List (Addr × Obj):=fp.filterMap fun b=>(h.get? b).map fun o=>(b,o)
theorem zgr {fp:List Addr} {h:Heap} {b:Addr} {o:Obj} (hb:b∈fp) (e:h.get? b=some o):(b,o)∈zmb fp h:=List.mem_filterMap.mpr ⟨b,hb,by rw [e]; rfl⟩
theorem zrr {fp:List Addr} {h:Heap} {p:Addr × Obj} (hp:p∈zmb fp h):p.1∈fp∧h.get? p.1=some p.2:=by
  obtain ⟨b,hb,e⟩:=List.mem_filterMap.mp hp
  cases q:h.get? b with
  | none=>rw [q] at e; cases e
  | some o =>
    rw [q] at e
    have e':(b,o)=p:=Option.some.inj e
    subst e'
    exact ⟨hb,q⟩
theorem Inv.pinned {pins:List (Addr × Obj)} {σ:St} {H:Hp} {s:Shared} {fp:List Addr} (I:Inv X pins σ H s) (hf:∀ b∈fp,zp_ X pins H b) (ho:∀ b∈fp,∃ o,s.heap.get? b=some o∧∀ v,o.data≠ .cell v):Inv X (pins++zmb fp s.heap) σ H s :=
 I.pins_of fun p hp=>(List.mem_append.mp hp).elim (fun z=>I.pin p (List.mem_append_right _ z)) fun z=>by
  obtain ⟨hb,e⟩:=zrr z
  obtain ⟨f0,f1,f2,_⟩:=hf p.1 hb
  obtain ⟨o,e',d⟩:=ho p.1 hb
  rw [e] at e'; cases e'
  exact ⟨e,f0,f1,f2,d⟩
theorem Inv.unpinned {pins pl:List (Addr × Obj)} {σ:St} {H:Hp} {s:Shared} (I:Inv X (pins++pl) σ H s):Inv X pins σ H s:=I.pins_of fun p hp=>I.pin p (List.mem_append_right _ (List.mem_append_left _ hp))
theorem zf4 {iter:Expr} {body:List Stmt} {wi:TI} {g:TG} {tb:TS} {pos:Pos} (hp:PassesOwn (model X.prog X.w) X.A X.env X.xe) (hc:X.calm=true) (hi:PI X tg iter wi) (hg:PG X tg g) (hb:PSs X body tb)
  (hs:∀ x,foldedSetIterable iter X.env x=pure x:=by intro _; rfl):PS X (.For tg iter body [] pos) (z0v wi g tb):=by
 intro pins s σ H D I h
 refine wpAny_For (thn (hi pins s σ H _ I h) fun v s1 h1=>thn h1 fun itv s2 h2=>?_) hs
 obtain ⟨it,fp,tn,J,H2,e,I2,T,st2,f2,W,⟨m0,w0⟩,turn⟩:=h2
 subst e
 have stat:∀ {H':Hp},(∀ b∈fp,H' b=none)→∀ b∈fp,zp_ X pins H' b:=fun hn b hb=>⟨hn b hb,(f2 b hb).2⟩
 refine codeAny_forLoop_any (fun n s'=>∃ i σ' H',Inv X pins σ' H' s'∧tn i s'.heap∧(∀ b∈fp,H' b=none)∧W i n σ' H') ?_ m0 ⟨0,σ,H2,I2,st2,fun b hb=>(f2 b hb).1,w0⟩
 rintro n s3 ⟨i,σ3,H3,I3,st3,fr3,w3⟩
 rcases turn i n σ3 H3 w3 with ⟨stop,qn⟩ | ⟨go,N,hN,step⟩
 ·refine wpAny_passesOwn hp (thn (T.done X rfl rfl rfl hc i pins s3 σ3 H3 X.xe I3 (stat fr3) st3 stop) fun r s4 ⟨hr,I4⟩=>?_)
  subst hr
  exact wpAny_execs_nil ⟨σ3,H3,I4,qn⟩
 ·refine wpAny_passesOwn hp (thn (T.item X rfl rfl rfl hc i pins s3 σ3 H3 X.xe I3 (stat fr3) st3 go) fun r s4 ⟨u,hr,h4⟩=>?_)
  subst hr
  refine wpAny_passesOwn hp (thn h4 fun _ s5 ⟨x,H5,I5,r5,y5,st5,fr5⟩=>?_)
  have I5':=I5.pinned (stat fr5) (T.obj _ _ st5)
  refine wpAny_passesOwn hp (thn (hg _ s5 σ3 H5 x u _ I5' r5 (step x H5 y5)) fun _ s6 ⟨σ6,H6,I6,q6⟩=>?_)
  refine wpAny_passesOwn hp (thn (hb _ s6 σ6 H6 _ I6 q6) fun f s7 q7=>?_)
  have again:∀ {σ7:St} {H7:Hp},Inv X (pins++zmb fp s5.heap) σ7 H7 s7→N σ7 H7→∃ m,m<n∧∃ i σ' H',Inv X pins σ' H' s7∧tn i s7.heap∧(∀ b∈fp,H' b=none)∧W i m σ' H':=fun {σ7 H7} I7 n7=>by
   obtain ⟨m',hm,w7⟩:=hN σ7 H7 n7
   refine ⟨m',hm,i+1,σ7,H7,I7.unpinned,T.keep _ _ _ st5 fun b hb o e=>(I7.pin (b,o) (List.mem_append_right _ (List.mem_append_right _ (zgr hb e)))).1,fun b hb=>?_,w7⟩
   obtain ⟨o,e,d⟩:=T.obj _ _ st5 b hb
   exact (I7.pin (b,o) (List.mem_append_right _ (List.mem_append_right _ (zgr hb e)))).2.1
  cases f with
  | next=>obtain ⟨σ7,H7,I7,n7⟩:=q7; exact again I7 n7
  | cont=>obtain ⟨σ7,H7,I7,n7⟩:=q7; exact again I7 n7
  | brk=>obtain ⟨σ7,H7,I7,q7⟩:=q7; exact ⟨σ7,H7,I7.unpinned,q7⟩
  | ret v=>obtain ⟨x7,σ7,H7,I7,r7,q7⟩:=q7; exact ⟨x7,σ7,H7,I7.unpinned,r7,q7⟩
end
theorem zfe {K:PySem.W.Frag} {a:Addr} {xs:List V} {g:TG} {tb:TS} {D:ztr} {σ:St} {H:Hp} (Pv:Nat→St→Hp→Prop) (h0:Pv 0 σ H) (hl:∀ i σ H,i≤xs.length→Pv i σ H→SqL K H a xs)
  (hs:∀ i x σ H,xs[i]? = some x→Pv i σ H→g x σ H fun σ2 H2=>tb { D with nx:=Pv (i+1),ct:=Pv (i+1),bk:=D.nx } σ2 H2) (hd:∀ σ H,Pv xs.length σ H→D.nx σ H) :
  ∃ W:Nat→Nat→St→Hp→Prop,(∃ m,W 0 m σ H)∧∀ i m σ H,W i m σ H →
   ((Itl K a).stop i H∧D.nx σ H)∨((Itl K a).go i H∧∃ N:St→Hp→Prop,(∀ σ' H',N σ' H'→∃ m',m'<m∧W (i+1) m' σ' H')∧∀ x H',(Itl K a).yld i H x H'→g x σ H' fun σ2 H2=>tb { D with nx:=N,ct:=N,bk:=D.nx } σ2 H2):=by
 refine ⟨fun i m σ H=>m=xs.length - i∧i≤xs.length∧Pv i σ H,⟨xs.length,by simp,Nat.zero_le _,h0⟩,?_⟩
 rintro i m σ H ⟨rfl,hi,p⟩
 have q:=hl i σ H hi p
 by_cases hlt:i<xs.length
 ·refine .inr ⟨⟨xs,xs[i],q,by simp [hlt]⟩,Pv (i+1),fun σ' H' p'=>⟨xs.length - (i+1),by omega,rfl,hlt,p'⟩,fun x H' y=>?_⟩
  obtain ⟨e,y⟩:=y
  subst e
  exact hs i x σ _ (y xs q) p
 ·have e:i=xs.length:=by omega
  subst e
  exact .inl ⟨⟨xs,q,Nat.le_refl _⟩,hd σ H p⟩
theorem zr2 {lo:Int} {n:Nat} {g:TG} {tb:TS} {D:ztr} {σ:St} {H:Hp} (Pv:Nat→St→Hp→Prop) (h0:Pv 0 σ H)
  (hs:∀ i σ H,i<n→Pv i σ H→g (.int (lo+i)) σ H fun σ2 H2=>tb { D with nx:=Pv (i+1),ct:=Pv (i+1),bk:=D.nx } σ2 H2) (hd:∀ σ H,Pv n σ H→D.nx σ H) :
  ∃ W:Nat→Nat→St→Hp→Prop,(∃ m,W 0 m σ H)∧∀ i m σ H,W i m σ H →
   ((Itr lo n).stop i H∧D.nx σ H)∨((Itr lo n).go i H∧∃ N:St→Hp→Prop,(∀ σ' H',N σ' H'→∃ m',m'<m∧W (i+1) m' σ' H')∧∀ x H',(Itr lo n).yld i H x H'→g x σ H' fun σ2 H2=>tb { D with nx:=N,ct:=N,bk:=D.nx } σ2 H2):=by
 refine ⟨fun i m σ H=>m=n - i∧i≤n∧Pv i σ H,⟨n,by simp,Nat.zero_le _,h0⟩,?_⟩
 rintro i m σ H ⟨rfl,hi,p⟩
 by_cases hlt:i<n
 ·refine .inr ⟨hlt,Pv (i+1),fun σ' H' p'=>⟨n - (i+1),by omega,rfl,hlt,p'⟩,fun x H' y=>?_⟩
  obtain ⟨e,y⟩:=y
  subst e y
  exact hs i σ _ hlt p
 ·have e:i=n:=by omega
  subst e
  exact .inl ⟨Nat.le_refl _,hd σ H p⟩
end L2
namespace L2
open PySem PySem.Spec PyProof.Rows
abbrev R2:=V→V→Hp→VK→Prop
def OpR (X:Cx) (f:Value→Value→Sem Value) (r:R2):Prop :=
 ∀ (pins:List (Addr × Obj)) (s:Shared) (σ:St) (H:Hp) (x y:V) (v u:Value) (Q:VK),Inv X pins σ H s→zdk x v→zdk y u→r x y H Q →
  wpAny (model X.prog X.w) X.A (f v u) (EP X pins σ Q) X.xe s
def UnR (X:Cx) (f:Value→Sem Value) (r:V→Hp→VK→Prop):Prop :=
 ∀ (pins:List (Addr × Obj)) (s:Shared) (σ:St) (H:Hp) (x:V) (v:Value) (Q:VK),Inv X pins σ H s→zdk x v→r x H Q →
  wpAny (model X.prog X.w) X.A (f v) (EP X pins σ Q) X.xe s
def zgy (X:Cx) (f:Value) (r:List V→Hp→VK→Prop):Prop :=
 ∀ (pins:List (Addr × Obj)) (s:Shared) (σ:St) (H:Hp) (xs:List V) (us:List Value) (Q:VK),Inv X pins σ H s→zc2 xs us→r xs H Q →
  wpAny (model X.prog X.w) X.A (call f us) (EP X pins σ Q) X.xe s
def tOp (r:R2) (ta tb:TE):TE:=fun σ H Q=>ta σ H fun x H1=>tb σ H1 fun y H2=>r x y H2 Q
def tUn (r:V→Hp→VK→Prop) (ta:TE):TE:=fun σ H Q=>ta σ H fun x H1=>r x H1 Q
def rI (C:Int→Int→Prop) (g:Int→Int→V):R2:=fun x y H Q=>∃ i j,x = .int i∧y = .int j∧C i j∧Q (g i j) H
def rI0 (g:Int→Int→V):R2:=fun x y H Q=>∃ i j,x = .int i∧y = .int j∧Q (g i j) H
def rU (g:Int→V):V→Hp→VK→Prop:=fun x H Q=>∃ i,x = .int i∧Q (g i) H
section
variable {X:Cx} {a b c:Expr} {ta tb tc:TE} {pos:Pos}
theorem zzq (ha:PE X a ta) (hb:PE X b tb) {pins:List (Addr × Obj)} {s:Shared} {σ:St} {H:Hp} {R:V→V→Hp→Prop} (I:Inv X pins σ H s)
  (h:ta σ H fun x H1=>tb σ H1 fun y H2=>R x y H2) {Q:Value→Shared→Prop} {f:Value→Value→Sem Value}
  (hf:∀ v u s2 x y H2,Inv X pins σ H2 s2→zdk x v→zdk y u→R x y H2→wpAny (model X.prog X.w) X.A (f v u) Q X.xe s2) :
  wpAny (model X.prog X.w) X.A (eval a X.env) (fun v s₁=>wpAny (model X.prog X.w) X.A (eval b X.env) (fun u s₂=>wpAny (model X.prog X.w) X.A (f v u) Q X.xe s₂) X.xe s₁) X.xe s:=by
 refine thn (ha pins s σ H _ I h) fun v s1 ⟨x,H1,I1,r1,q1⟩=>?_
 refine thn (hb pins s1 σ H1 _ I1 q1) fun u s2 ⟨y,H2,I2,r2,q2⟩=>?_
 exact hf v u s2 x y H2 I2 r1 r2 q2
theorem zbt {op:Operator} {r:R2} (ho:OpR X (binaryOp op) r) (ha:PE X a ta) (hb:PE X b tb):PE X (.BinOp a op b pos) (tOp r ta tb):=by
 intro pins s σ H Q I h
 exact wpAny_BinOp (zzq ha hb I h fun v u s2 x y H2 I2 rx ry q=>ho pins s2 σ H2 x y v u Q I2 rx ry q)
theorem zw1 {op:UnaryOp} {r:V→Hp→VK→Prop} (ho:UnR X (unaryOp op) r) (ha:PE X a ta):PE X (.UnaryOp op a pos) (tUn r ta):=by
 intro pins s σ H Q I h
 exact UnaryOp_ (thn (ha pins s σ H _ I h) fun v s1 ⟨x,H1,I1,r1,q1⟩=>ho pins s1 σ H1 x v Q I1 r1 q1)
theorem opI {f:Value→Value→Sem Value} {C:Int→Int→Prop} {g:Int→Int→Int}
  (rule:∀ (i j:Int) (t u:Tok) (s:Shared) (Q:Value→Shared→Prop) (E:Value→Shared→Prop),C i j→Q (.int (g i j) s.toks) { s with toks:=s.toks+1 }→wpAny (model X.prog X.w) X.A (f (.int i t) (.int j u)) Q E s) :
  OpR X f (rI C fun i j=> .int (g i j)):=by
 intro pins s σ H x y v u Q I rx ry h
 obtain ⟨i,j,rfl,rfl,hc,q⟩:=h
 obtain ⟨t,rfl⟩:=rx
 obtain ⟨t',rfl⟩:=ry
 exact rule i j t t' s _ _ hc ⟨.int (g i j),H,I.tok _,⟨_,rfl⟩,q⟩
theorem zzz {f:Value→Value→Sem Value} {g:Int→Int→Int}
  (rule:∀ (i j:Int) (t u:Tok) (s:Shared) (Q:Value→Shared→Prop) (E:Value→Shared→Prop),Q (.int (g i j) s.toks) { s with toks:=s.toks+1 }→wpAny (model X.prog X.w) X.A (f (.int i t) (.int j u)) Q E s) :
  OpR X f (rI0 fun i j=> .int (g i j)):=by
 intro pins s σ H x y v u Q I rx ry h
 obtain ⟨i,j,rfl,rfl,q⟩:=h
 obtain ⟨t,rfl⟩:=rx
 obtain ⟨t',rfl⟩:=ry
 exact rule i j t t' s _ _ ⟨.int (g i j),H,I.tok _,⟨_,rfl⟩,q⟩
theorem zyz {f:Value→Value→Sem Value} {g:Int→Int→Bool}
  (rule:∀ (i j:Int) (t u:Tok) (s:Shared) (Q:Value→Shared→Prop) (E:Value→Shared→Prop),Q (.bool (g i j)) s→wpAny (model X.prog X.w) X.A (f (.int i t) (.int j u)) Q E s) :
  OpR X f (rI0 fun i j=> .bl (g i j)):=by
 intro pins s σ H x y v u Q I rx ry h
 obtain ⟨i,j,rfl,rfl,q⟩:=h
 obtain ⟨t,rfl⟩:=rx
 obtain ⟨t',rfl⟩:=ry
 exact rule i j t t' s _ _ ⟨.bl (g i j),H,I,rfl,q⟩
def z0j (i j:Int):Prop:=0<j∧j<1073741824
def zz3 (i j:Int):Prop:=0≤j∧j≤1000000∧i.natAbs<2 ^ 64
def zz0 (i j:Int):Prop:=(-(2 ^ 64)<i∧i<2 ^ 64)∨(-(2 ^ 64)<j∧j<2 ^ 64)
theorem zz0.ok {i j:Int} (h:zz0 i j):IntMulOk i j:=by
 rcases h with ⟨h1,h2⟩ | ⟨h1,h2⟩
 ·exact .of_left (intBits_le_64 h1 h2)
 ·exact .of_right (intBits_le_64 h1 h2)
theorem zqm (k:Nat):(0:Int)≤2 ^ k:=by
 rw [two_pow_cast]
 exact Int.natCast_nonneg _
theorem zf1:OpR X (binaryOp .Add) (rI0 fun i j=> .int (i+j)):=zzz fun _ _ _ _ _ _ _ q=>add_int q
theorem zw5:OpR X (binaryOp .Sub) (rI0 fun i j=> .int (i - j)):=zzz fun _ _ _ _ _ _ _ q=>sub_int q
theorem zmt:OpR X (binaryOp .Mult) (rI zz0 fun i j=> .int (i * j)):=opI fun _ _ _ _ _ _ _ hc q=>mul_int q hc.ok
theorem zd3:OpR X (binaryOp .FloorDiv) (rI z0j fun i j=> .int (i / j)):=opI fun i j _ _ _ _ _ hc q=>by
 have h1:(0:Int)<j:=hc.1
 have h2:j<1073741824:=hc.2
 exact floordiv_int (by omega) (by rw [Int.fdiv_eq_ediv_of_nonneg i (by omega)]; exact q) (.inl (PyProof.noPylong_small (by omega)))
theorem zdp:OpR X (binaryOp .Mod) (rI (fun _ j=>0<j) fun i j=> .int (i % j)):=opI fun i j _ _ _ _ _ hc q=>by
 have h1:(0:Int)<j:=hc
 exact mod_int' (by omega) (by rw [Int.fmod_eq_emod_of_nonneg i (by omega)]; exact q)
theorem zo0:OpR X (binaryOp .Pow) (rI zz3 fun i j=> .int (i ^ j.toNat)):=opI fun _ _ _ _ _ _ _ hc q=>pow_int_small hc.1 hc.2.1 hc.2.2 q
theorem zku:OpR X (binaryOp .LShift) (rI zz3 fun i j=> .int (i * 2 ^ j.toNat)):=opI fun _ _ _ _ _ _ _ hc q=>lshift_int_small hc.1 hc.2.1 hc.2.2 q
theorem zxi:OpR X (binaryOp .RShift) (rI (fun _ j=>0≤j) fun i j=> .int (i / 2 ^ j.toNat)):=opI fun i j _ _ _ _ _ hc q =>
 rshift_int hc (by rw [Int.fdiv_eq_ediv_of_nonneg i (zqm _)]; exact q)
theorem zsf:OpR X (binaryOp .BitXor) (rI0 fun i j=> .int (Builtin.bitXor i j)):=zzz fun _ _ _ _ _ _ _ q=>xor_int q
theorem unI {f:Value→Sem Value} {g:Int→Int}
  (rule:∀ (i:Int) (t:Tok) (s:Shared) (Q:Value→Shared→Prop) (E:Value→Shared→Prop),Q (.int (g i) s.toks) { s with toks:=s.toks+1 }→wpAny (model X.prog X.w) X.A (f (.int i t)) Q E s) :
  UnR X f (rU fun i=> .int (g i)):=by
 intro pins s σ H x v Q I rx h
 obtain ⟨i,rfl,q⟩:=h
 obtain ⟨t,rfl⟩:=rx
 exact rule i t s _ _ ⟨.int (g i),H,I.tok _,⟨_,rfl⟩,q⟩
theorem zr_:UnR X (unaryOp .USub) (rU fun i=> .int (-i)):=unI fun _ _ _ _ _ q=>neg_int q
end
def zz8:V→V→Bool
 | .non,.non=>true | .non,.int _=>true | .int _,.non=>true | .non,.bl _=>true | .bl _,.non=>true | .non,.str _=>true | .str _,.non=>true
 | .int _,.int _=>true | .bl _,.bl _=>true | .str _,.str _=>true | .byt _,.byt _=>true
 | .int _,.str _=>true | .str _,.int _=>true | .bl _,.str _=>true | .str _,.bl _=>true
 | _,_=>false
def rEq:R2:=fun x y H Q=>zz8 x y=true∧Q (.bl (decide (x=y))) H
def rNe:R2:=fun x y H Q=>zz8 x y=true∧Q (.bl (!decide (x=y))) H
theorem zrn {i j:Int}:decide (V.int i=V.int j)=(i == j):=by
 rw [Bool.eq_iff_iff]
 simp
theorem zu3 {i j:Bool}:decide (V.bl i=V.bl j)=(i == j):=by
 rw [Bool.eq_iff_iff]
 simp
theorem zrw {i j:Str}:decide (V.str i=V.str j)=(i == j):=by
 rw [Bool.eq_iff_iff]
 simp
theorem zr9 {i j:Array UInt8}:decide (V.byt i=V.byt j)=(i.toList == j.toList):=by
 rw [Bool.eq_iff_iff]
 cases i
 cases j
 simp
section
variable {X:Cx} {a b c:Expr} {ta tb tc:TE} {pos:Pos}
theorem zcs {pins:List (Addr × Obj)} {σ:St} {H:Hp} {s:Shared} {Q:VK} {k k':Bool} (I:Inv X pins σ H s) (q:Q (.bl k) H) (e:k=k'):EP X pins σ Q (.bool k') s:=by
 subst e
 exact ⟨.bl k,H,I,rfl,q⟩
theorem zgf:OpR X (compareOp .Eq) rEq:=by
  intro pins s σ H x y v u Q I rx ry h
  obtain ⟨hs,q⟩:=h
  cases x with
  | non =>
    cases rx
    cases y with
    | non=>cases ry; exact PySem.EqNone.eq_none_none (zcs I q (by simp))
    | bl j=>cases ry; exact PySem.EqNone.eq_none_bool (zcs I q (by simp))
    | int j=>obtain ⟨t',rfl⟩:=ry; exact PySem.EqNone.eq_none_int (zcs I q (by simp))
    | str j=>obtain ⟨t',rfl⟩:=ry; exact PySem.EqNone.eq_none_str (zcs I q (by simp))
    | _=>exact absurd (show false=true from hs) Bool.false_ne_true
  | bl i =>
    cases rx
    cases y with
    | non=>cases ry; exact PySem.EqNone.eq_bool_none (zcs I q (by simp))
    | bl j=>cases ry; exact eq_bool (zcs I q zu3)
    | str j=>obtain ⟨t',rfl⟩:=ry; exact PySem.EqMixed.eq_bool_str (zcs I q (by simp))
    | _=>exact absurd (show false=true from hs) Bool.false_ne_true
  | int i =>
    obtain ⟨t,rfl⟩:=rx
    cases y with
    | non=>cases ry; exact PySem.EqNone.eq_int_none (zcs I q (by simp))
    | int j=>obtain ⟨t',rfl⟩:=ry; exact eq_int (zcs I q zrn)
    | str j=>obtain ⟨t',rfl⟩:=ry; exact PySem.EqMixed.eq_int_str (zcs I q (by simp))
    | _=>exact absurd (show false=true from hs) Bool.false_ne_true
  | str i =>
    obtain ⟨t,rfl⟩:=rx
    cases y with
    | non=>cases ry; exact PySem.EqNone.eq_str_none (zcs I q (by simp))
    | bl j=>cases ry; exact PySem.EqMixed.eq_str_bool (zcs I q (by simp))
    | int j=>obtain ⟨t',rfl⟩:=ry; exact PySem.EqMixed.eq_str_int (zcs I q (by simp))
    | str j=>obtain ⟨t',rfl⟩:=ry; exact eq_str (zcs I q zrw)
    | _=>exact absurd (show false=true from hs) Bool.false_ne_true
  | byt i =>
    obtain ⟨t,rfl⟩:=rx
    cases y with
    | byt j=>obtain ⟨t',rfl⟩:=ry; exact PySem.W.eq_bytes (zcs I q zr9)
    | _=>exact absurd (show false=true from hs) Bool.false_ne_true
  | _=>cases y <;> exact absurd (show false=true from hs) Bool.false_ne_true
theorem zum:OpR X (compareOp .NotEq) rNe:=by
  intro pins s σ H x y v u Q I rx ry h
  obtain ⟨hs,q⟩:=h
  cases x with
  | non =>
    cases rx
    cases y with
    | non=>cases ry; exact PySem.EqNone.ne_none_none (zcs I q (by simp))
    | bl j=>cases ry; exact PySem.EqNone.ne_none_bool (zcs I q (by simp))
    | int j=>obtain ⟨t',rfl⟩:=ry; exact PySem.EqNone.ne_none_int (zcs I q (by simp))
    | str j=>obtain ⟨t',rfl⟩:=ry; exact PySem.EqNone.ne_none_str (zcs I q (by simp))
    | _=>exact absurd (show false=true from hs) Bool.false_ne_true
  | bl i =>
    cases rx
    cases y with
    | non=>cases ry; exact PySem.EqNone.ne_bool_none (zcs I q (by simp))
    | bl j=>cases ry; exact ne_bool (zcs I q (congrArg not zu3))
    | str j=>obtain ⟨t',rfl⟩:=ry; exact PySem.EqMixed.ne_bool_str (zcs I q (by simp))
    | _=>exact absurd (show false=true from hs) Bool.false_ne_true
  | int i =>
    obtain ⟨t,rfl⟩:=rx
    cases y with
    | non=>cases ry; exact PySem.EqNone.ne_int_none (zcs I q (by simp))
    | int j=>obtain ⟨t',rfl⟩:=ry; exact ne_int (zcs I q (congrArg not zrn))
    | str j=>obtain ⟨t',rfl⟩:=ry; exact PySem.EqMixed.ne_int_str (zcs I q (by simp))
    | _=>exact absurd (show false=true from hs) Bool.false_ne_true
  | str i =>
    obtain ⟨t,rfl⟩:=rx
    cases y with
    | non=>cases ry; exact PySem.EqNone.ne_str_none (zcs I q (by simp))
    | bl j=>cases ry; exact PySem.EqMixed.ne_str_bool (zcs I q (by simp))
    | int j=>obtain ⟨t',rfl⟩:=ry; exact PySem.EqMixed.ne_str_int (zcs I q (by simp))
    | str j=>obtain ⟨t',rfl⟩:=ry; exact ne_str (zcs I q (congrArg not zrw))
    | _=>exact absurd (show false=true from hs) Bool.false_ne_true
  | byt i =>
    obtain ⟨t,rfl⟩:=rx
    cases y with
    | byt j=>obtain ⟨t',rfl⟩:=ry; exact PySem.W.ne_bytes (zcs I q (congrArg not zr9))
    | _=>exact absurd (show false=true from hs) Bool.false_ne_true
  | _=>cases y <;> exact absurd (show false=true from hs) Bool.false_ne_true
theorem zte:OpR X (compareOp .Lt) (rI0 fun i j=> .bl (decide (i<j))):=zyz fun _ _ _ _ _ _ _ q=>lt_int q
theorem znb:OpR X (compareOp .LtE) (rI0 fun i j=> .bl (decide (i≤j))):=zyz fun _ _ _ _ _ _ _ q=>le_int q
theorem zty:OpR X (compareOp .Gt) (rI0 fun i j=> .bl (decide (j<i))):=zyz fun _ _ _ _ _ _ _ q=>gt_int q
theorem zyb:OpR X (compareOp .GtE) (rI0 fun i j=> .bl (decide (j≤i))):=zyz fun _ _ _ _ _ _ _ q=>ge_int q
theorem zr0:OpR X (compareOp .Is) (fun x y H Q=>y = .non∧Q (.bl (decide (x = .non))) H):=by
 intro pins s σ H x y v u Q I rx ry h
 obtain ⟨rfl,q⟩:=h
 cases ry
 refine is_none_gen (zcs I q ?_)
 cases x <;> first
  | (cases rx; rfl)
  | (obtain ⟨t,rfl⟩:=rx; rfl)
theorem zno:OpR X (compareOp .IsNot) (fun x y H Q=>y = .non∧Q (.bl (!decide (x = .non))) H):=by
 intro pins s σ H x y v u Q I rx ry h
 obtain ⟨rfl,q⟩:=h
 cases ry
 refine isnot_none_gen (zcs I q ?_)
 cases x <;> first
  | (cases rx; rfl)
  | (obtain ⟨t,rfl⟩:=rx; rfl)
theorem OpR.or {f:Value→Value→Sem Value} {r r':R2} (h:OpR X f r) (h':OpR X f r'):OpR X f (fun x y H Q=>r x y H Q∨r' x y H Q):=by
 intro pins s σ H x y v u Q I rx ry q
 rcases q with q | q
 ·exact h pins s σ H x y v u Q I rx ry q
 ·exact h' pins s σ H x y v u Q I rx ry q
theorem zb8 (b:Expr) {op:CmpOp} (h:op≠ .In:=by decide) (h2:op≠ .NotIn:=by decide):behindInMarks op b=false:=by
 have e1:(op == CmpOp.In)=false:=by cases op <;> first | rfl | exact absurd rfl h
 have e2:(op == CmpOp.NotIn)=false:=by cases op <;> first | rfl | exact absurd rfl h2
 cases b <;> simp [behindInMarks,e1,e2]
theorem znz {op:CmpOp} {r:R2} (ho:OpR X (compareOp op) r) (ha:PE X a ta) (hb:PE X b tb) (hm:behindInMarks op b=false):PE X (.Compare a [op] [b] pos) (tOp r ta tb):=by
 intro pins s σ H Q I h
 exact wpAny_Compare1 (zzq ha hb I h fun v u s2 x y H2 I2 rx ry q=>ho pins s2 σ H2 x y v u Q I2 rx ry q) hm
def zx4 (t:TE):TT:=fun σ H Q=>t σ H fun x H'=>∃ k,x = .bl k∧Q k H'
theorem zbk {op:CmpOp} {r:R2} (ho:OpR X (compareOp op) r) (ha:PE X a ta) (hb:PE X b tb) (hm:behindInMarks op b=false):PT X (.Compare a [op] [b] pos) (zx4 (tOp r ta tb)):=by
 intro pins s σ H Q I h
 refine wpAny_isTrue_Compare1 (thn (ha pins s σ H _ I h) fun v s1 ⟨x,H1,I1,r1,q1⟩=>thn (hb pins s1 σ H1 _ I1 q1) fun u s2 ⟨y,H2,I2,r2,q2⟩ =>
  thn (ho pins s2 σ H2 x y v u _ I2 r1 r2 q2) fun c s3 ⟨z,H3,I3,r3,k,e,q3⟩=>?_) hm
 subst e
 cases r3
 exact wpAny_truthy_bool ⟨H3,I3,q3⟩
def zuz (r r':R2) (ta tb tc:TE):TE:=fun σ H Q=>ta σ H fun x H1=>tb σ H1 fun y H2=>r x y H2 fun z H3=>∃ k,z = .bl k ∧
 (if k=true then tc σ H3 fun w' H4=>r' y w' H4 Q else Q (.bl false) H3)
theorem zla {op op':CmpOp} {r r':R2} (ho:OpR X (compareOp op) r) (ho':OpR X (compareOp op') r') (ha:PE X a ta) (hb:PE X b tb) (hc:PE X c tc)
  (hm:lastMarks [op,op'] [b,c]=false:=by with_unfolding_all rfl):PE X (.Compare a [op,op'] [b,c] pos) (zuz r r' ta tb tc):=by
 intro pins s σ H Q I h
 refine Compare_chain (thn (ha pins s σ H _ I h) fun v s1 ⟨x,H1,I1,r1,q1⟩=>chain_link (thn (hb pins s1 σ H1 _ I1 q1) fun u s2 ⟨y,H2,I2,r2,q2⟩ =>
  thn (ho pins s2 σ H2 x y v u _ I2 r1 r2 q2) fun d s3 ⟨z,H3,I3,r3,k,e,q3⟩=>?_)) hm
 subst e
 cases r3
 refine wpAny_truthy_bool ?_
 cases k with
 | false=>exact ite_ff ⟨.bl false,H3,I3,rfl,q3⟩
 | true=>exact ite_tt (chain_last (thn (hc pins s3 σ H3 _ I3 q3) fun w' s4 ⟨z',H4,I4,r4,q4⟩=>ho' pins s4 σ H4 y z' u w' Q I4 r2 r4 q4))
theorem zth {op op':CmpOp} {r r':R2} (ho:OpR X (compareOp op) r) (ho':OpR X (compareOp op') r') (ha:PE X a ta) (hb:PE X b tb) (hc:PE X c tc)
    (hm:lastMarks [op,op'] [b,c]=false:=by with_unfolding_all rfl):PT X (.Compare a [op,op'] [b,c] pos) (zx4 (zuz r r' ta tb tc)):=by
  intro pins s σ H Q I h
  refine isTrue_chain (thn (ha pins s σ H _ I h) fun v s1 ⟨x,H1,I1,r1,q1⟩=>test_link (thn (hb pins s1 σ H1 _ I1 q1) fun u s2 ⟨y,H2,I2,r2,q2⟩ =>
    thn (ho pins s2 σ H2 x y v u _ I2 r1 r2 q2) fun d s3 ⟨z,H3,I3,r3,k,e,q3⟩=>?_)) hm
  subst e
  cases r3
  refine wpAny_truthy_bool ?_
  cases k with
  | false =>
    obtain ⟨k',e',q'⟩:=q3
    cases e'
    exact ite_ff ⟨H3,I3,q'⟩
  | true =>
    refine ite_tt (test_last (thn (hc pins s3 σ H3 _ I3 q3) fun w' s4 ⟨z',H4,I4,r4,q4⟩=>thn (ho' pins s4 σ H4 y z' u w' _ I4 r2 r4 q4) fun d' s5 ⟨z2,H5,I5,r5,k2,e2,q5⟩=>?_))
    subst e2
    cases r5
    exact wpAny_truthy_bool ⟨H5,I5,q5⟩
theorem zux:(sizeLine:Nat)<2 ^ 63:=by rw [sizeLine_eq]; decide
theorem zn3 {x:V} {us:List Value} (r:zc2 [x] us):∃ u,us=[u]∧zdk x u:=by
 cases r with
 | cons r1 r2=>cases r2; exact ⟨_,rfl,r1⟩
theorem zxg {x y:V} {us:List Value} (r:zc2 [x,y] us):∃ u w',us=[u,w']∧zdk x u∧zdk y w':=by
  cases r with
  | cons r1 r2 =>
    cases r2 with
    | cons r3 r4=>cases r4; exact ⟨_,_,rfl,r1,r3⟩
end
end L2
namespace L2
open PySem PySem.Spec PyProof.Rows
structure zvm (h:Heap) (x dx C:Addr) (mA:Str→Option Value):Prop where
 obj:h.get? x=some (PySem.W.instObj C dx)
 ns:h.Ns1 dx mA
 ne:dx≠x
theorem zr3 {h:Heap} {dx:Addr} {mA:Str→Option Value} (n:h.Ns1 dx mA):∃ od,h.get? dx=some od∧∀ name,PySem.W.lookIn name od=some (mA name):=by
 obtain ⟨o,es,ep,ho,hd,hk,_,hm⟩:=n
 refine ⟨o,ho,fun name=>?_⟩
 have e:=hm name
 unfold nsFind findBy at e
 rw [← Array.find?_toList] at e
 unfold PySem.W.lookIn
 rw [hd]
 dsimp only
 split
 ·rename_i y q
  rw [q] at e
  exact congrArg some e
 ·rename_i q
  rw [q] at e
  have a:es.toList.any (·.refKey)=false:=by
   rw [List.any_eq_false]
   intro y hy
   obtain ⟨z,t,hkey⟩:=hk y (Array.mem_toList_iff.mp hy)
   simp [DictEntry.refKey,hkey]
  have a':¬ es.toList.any (·.refKey)=true:=by rw [a]; exact Bool.false_ne_true
  rw [if_neg a']
  exact congrArg some e
theorem zvm.look {h:Heap} {x dx C:Addr} {mA:Str→Option Value} (I:zvm h x dx C mA):∃ od,PySem.W.InstAt h x (PySem.W.instObj C dx) C (some od)∧∀ name,PySem.W.lookIn name od=some (mA name) :=
 let ⟨od,ho,hl⟩:=zr3 I.ns
 ⟨od,⟨I.obj,rfl,rfl,ho⟩,hl⟩
section
variable {prog:Program} {w:World} {A:Around} {E:Value→Shared→Prop} {s:Shared} {K:PySem.W.Frag} {x dx C f:Addr} {mA:Str→Option Value} {name:Str} {v:Value}
theorem zwh {expr:Bool} {Q:Value→Shared→Prop} (X:K.In s.heap) (I:zvm s.heap x dx C mA) (hg:PySem.W.plainGet K C name=true) (hh:PySem.W.hasDictIn K C=true)
  (ha:PySem.W.findIn K (.ref C) name=some none) (hv:mA name=some v) (hv':PySem.W.handedIn v=true) (h:Q v { s with toks:=s.toks+1 }) :
  wpAny (model prog w) A (getAttr (.ref x) name expr) Q E s:=by
 obtain ⟨od,J,hl⟩:=I.look
 exact PySem.W.get_value X J (PySem.W.plainGet_of hg).1 (PySem.W.findObj_own hh ha rfl (by rw [hl,hv])) hv' h
theorem zs0 {pl:Sem Bool} {Q:Value × List Value→Shared→Prop} (X:K.In s.heap) (I:zvm s.heap x dx C mA) (hg:PySem.W.plainGet K C name=true)
  (hf:PySem.W.findIn K (.ref C) name=some (some (.ref f))) (ht:PySem.W.isFn K (.ref f)=true) (hv:mA name=none) (h:Q (.ref f,[.ref x]) s) :
  wpAny (model prog w) A (getMethod (.ref x) name pl) Q E s:=by
 obtain ⟨od,J,hl⟩:=I.look
 exact PySem.W.method_fn X J (PySem.W.plainGet_of hg).1 (PySem.W.plainGet_of hg).2 hf (beq_iff_eq.mp ht) (by show (PySem.W.lookIn name od).map (·.isSome)=some false; rw [hl,hv]; rfl) h
theorem zv2 {ns:List Str} {Q:Unit→Shared→Prop} (X:K.In s.heap) (I:zvm s.heap x dx C mA)
  (hs:PySem.W.findIn K (.ref C) "__setattr__" = some (some (.builtin "object.__setattr__"))) (hp:PySem.W.plainOver K C=true) (ht:PySem.W.takerIn K C name=some none) (hh:PySem.W.hasDictIn K C=true)
  (hw:PySem.Within mA ns) (hsz:ns.length≤sizeLine)
  (h:∀ h',zvm h' x dx C (fun y=>if y=name then some v else mA y)→Heap.SameBut dx s.heap h'→Q () { s with heap:=h',toks:=s.toks+2 }) :
  wpAny (model prog w) A (setAttr (.ref x) name v) Q E s:=by
 obtain ⟨od,J,hl⟩:=I.look
 refine PySem.W.set_plain X J hs (PySem.W.osa_open (s:={ s with toks:=s.toks+1 }) (r:=none) X J hp ht fun b=>?_)
 obtain ⟨cd,hc,hd'⟩:=PySem.W.any_some hh
 have hx:s.heap.get? x=some ⟨.ref C,some dx,.plain,#[]⟩:=I.obj
 refine wpAny_bind (wpAny_pure (wpAny_bind (wpAny_bind (wpAny_loadPart hx (wpAny_bind (PySem.W.Looks.here (s:={ s with toks:=s.toks+1 }) (PySem.W.looks_clsIn X hc) ?_))))))
 rw [hd']
 refine wpAny_pure (a:=some dx) (wpAny_bind (wpAny_pure (wpAny_bind ?_)))
 refine wpAny_nsSet1 (s:={ s with toks:=s.toks+1 }) I.ns fun h' hn2 hs2=>?_
 obtain ⟨oD,esD,epD,hoD,hdD,hcD⟩:=hn2.count (PySem.Within.cons name v hw)
 refine wpAny_bind (wpAny_lookBehind hoD (by rw [hdD]; exact pastItsLine_dict (Nat.le_trans hcD (by rw [List.length_cons]; omega))) ?_)
 exact wpAny_pure (h _ ⟨(hs2.2 _ (Ne.symm I.ne)).trans I.obj,hn2,I.ne⟩ hs2)
theorem zs7 {R:Result→Shared→Prop} {vs:List Value} {kw:List (Str × Value)} (X:K.In s.heap) (hm:PySem.W.makesIn K C=true)
  (hi:PySem.W.findIn K (.ref C) "__init__" = some (some (.ref f))) (hf:PySem.W.typeIn K (.ref f)=some (.type "function"))
  (h:codeAny (model prog w) (A.under (.builtin "type.__call__" ⟨.ref C :: vs,kw⟩)) (.call (.ref f) ⟨.ref (s.heap.objs.size+1) :: vs,kw⟩) (PySem.W.InitBack (s.heap.objs.size+1) R)
   { s with heap:=(s.heap.push PySem.W.emptyDict).push (PySem.W.instObj C s.heap.objs.size) }) :
  codeAny (model prog w) A (.call (.ref C) ⟨vs,kw⟩) R s:=by
 obtain ⟨hh,g,d,t,os⟩:=s
 exact PySem.W.make_core (PySem.W.makes_of X hm) (PySem.W.looks_findIn X hi) (fun self=>PySem.W.bind_fn X self hf) (.inl rfl) h
end
def zf2 (f:Str) (v:V):List (Str × V)→List (Str × V)
 | []=>[(f,v)]
 | (g,x) :: r=>if g=f then (g,v) :: r else (g,x) :: zf2 f v r
theorem zjf (f g:Str) (v:V):∀ fs:List (Str × V),(zf2 f v fs).lookup g=if g=f then some v else fs.lookup g
  | []=>by
    show List.lookup g [(f,v)]=_
    by_cases h:g=f
    · have hb:(g == f)=true:=beq_iff_eq.mpr h
      simp only [List.lookup,hb,if_pos h]
    · have hb:(g == f)=false:=beq_eq_false_iff_ne.mpr h
      simp only [List.lookup,hb,if_neg h]
  | (k,x) :: r=>by
    have ih:=zjf f g v r
    rw [show zf2 f v ((k,x) :: r)=(if k=f then (k,v) :: r else (k,x) :: zf2 f v r) from rfl]
    by_cases hk:k=f
    · rw [if_pos hk]
      by_cases h:g=k
      · have hb:(g == k)=true:=beq_iff_eq.mpr h
        simp only [List.lookup,hb,if_pos (h.trans hk)]
      · have hb:(g == k)=false:=beq_eq_false_iff_ne.mpr h
        simp only [List.lookup,hb,if_neg (fun e:g=f=>h (e.trans hk.symm))]
    · rw [if_neg hk]
      by_cases h:g=k
      · have hb:(g == k)=true:=beq_iff_eq.mpr h
        simp only [List.lookup,hb,if_neg (fun e:g=f=>hk (h.symm.trans e))]
      · have hb:(g == k)=false:=beq_eq_false_iff_ne.mpr h
        simp only [List.lookup,hb]
        exact ih
theorem zi9 (f:Str) (v:V):∀ fs:List (Str × V),f∈(zf2 f v fs).map (·.1)∧∀ g,g∈fs.map (·.1)→g∈(zf2 f v fs).map (·.1)
  | []=>⟨by simp [zf2],fun g h=>by simp at h⟩
  | (k,x) :: r=>by
    obtain ⟨i1,i2⟩:=zi9 f v r
    rw [show zf2 f v ((k,x) :: r)=(if k=f then (k,v) :: r else (k,x) :: zf2 f v r) from rfl]
    by_cases hk:k=f
    · rw [if_pos hk]
      subst hk
      exact ⟨by simp,fun g h=>by simpa using h⟩
    · rw [if_neg hk]
      refine ⟨?_,fun g h=>?_⟩
      · rw [List.map_cons]
        exact List.mem_cons_of_mem _ i1
      · rw [List.map_cons] at h ⊢
        rcases List.mem_cons.mp h with e | e
        · exact List.mem_cons.mpr (.inl e)
        · exact List.mem_cons_of_mem _ (i2 g e)
theorem zjd (f:Str) (v:V):∀ fs:List (Str × V),(zf2 f v fs).length≤fs.length+1
  | []=>by simp [zf2]
  | (k,x) :: r=>by
    have ih:=zjd f v r
    rw [show zf2 f v ((k,x) :: r)=(if k=f then (k,v) :: r else (k,x) :: zf2 f v r) from rfl]
    by_cases hk:k=f
    · rw [if_pos hk,List.length_cons,List.length_cons]; omega
    · rw [if_neg hk,List.length_cons,List.length_cons]; omega
theorem zlw.some_of {v:V} {o:Option Value} (r:zlw (some v) o):∃ u,o=some u∧zdk v u:=by
 cases o with
 | none=>exact (show False from r).elim
 | some u=>exact ⟨u,rfl,r⟩
theorem zlw.none_of {o:Option Value} (r:zlw none o):o=none:=by
 cases o with
 | none=>rfl
 | some u=>exact (show False from r).elim
theorem zr7 {v:V} {u:Value} (r:zdk v u):PySem.W.handedIn u=true:=by
 cases v with
 | non=>cases (show u=Value.none from r); rfl
 | bl b=>cases (show u=Value.bool b from r); rfl
 | int i=>obtain ⟨t,e⟩:=(show ∃ t,u=Value.int i t from r); cases e; rfl
 | str x=>obtain ⟨t,e⟩:=(show ∃ t,u=Value.str x t from r); cases e; rfl
 | byt b=>obtain ⟨t,e⟩:=(show ∃ t,u=Value.bytes b t from r); cases e; rfl
 | flt b=>obtain ⟨t,e⟩:=(show ∃ t,u=Value.float b t from r); cases e; rfl
 | ref a=>cases (show u=Value.ref a from r); rfl
 | ty n=>cases (show u=Value.type n from r); rfl
section
variable {P:Program} {w:World} {H H':Hp} {h h':Heap} {a C dx:Addr} {fs fs':List (Str × V)}
theorem zlm (hok:HOk P w H h) (e:H a=some (.ins C dx fs)):∃ mA,zvm h a dx C mA∧(∀ f,zlw (fs.lookup f) (mA f))∧PySem.Within mA (fs.map (·.1))∧fs.length≤1000∧H dx=some (.own a):=by
 obtain ⟨d,z,ne,ob,mA,n,r,q⟩:=(show zdy P w H h a (.ins C dx fs) from hok a _ e)
 exact ⟨mA,⟨ob,n,ne⟩,r,q,z,d⟩
end
structure Cls (K:PySem.W.Frag) (C:Addr):Prop where
 pg:PySem.W.plainGet K C Str.empty=true
 hd:PySem.W.hasDictIn K C=true
 po:PySem.W.plainOver K C=true
 sa:PySem.W.findIn K (.ref C) "__setattr__" = some (some (.builtin "object.__setattr__"))
theorem Cls.get {K:PySem.W.Frag} {C:Addr} (c:Cls K C) (f:Str):PySem.W.plainGet K C f=true:=c.pg
def zjb (K:PySem.W.Frag) (C:Addr) (f:Str):Prop:=PySem.W.findIn K (.ref C) f=some none
theorem zjb.taker {K:PySem.W.Frag} {C:Addr} {f:Str} (n:zjb K C f):PySem.W.takerIn K C f=some none:=by
 unfold PySem.W.takerIn
 rw [show PySem.W.findIn K (.ref C) f=some none from n]
 rfl
structure Con (K:PySem.W.Frag) (C:Addr) (f:Str) (v:V) (u:Value):Prop where
 at_:PySem.W.findIn K (.ref C) f=some (some u)
 rel:zdk v u
 get:PySem.W.specialIn K u "__get__" = some none
 cp:PySem.W.copiedNames.contains f=false
structure zwt (K:PySem.W.Frag) (C:Addr) (m:Str) (f:Addr):Prop where
 at_:PySem.W.findIn K (.ref C) m=some (some (.ref f))
 fn:PySem.W.isFn K (.ref f)=true
 kp:PySem.W.keepIn K (.ref f)=true
section
variable {X:Cx} {pins:List (Addr × Obj)} {σ:St} {H:Hp} {s:Shared} {a C dx:Addr} {fs:List (Str × V)} {f:Str} {v:V} {A:Around} {E:Value→Shared→Prop}
theorem zpt {b:Bool} {Q:Value→Shared→Prop} (I:Inv X pins σ H s) (e:H a=some (.ins C dx fs)) (c:Cls X.K C) (n:zjb X.K C f) (l:fs.lookup f=some v)
  (h:∀ u s',Inv X pins σ H s'→zdk v u→Q u s'):wpAny (model X.prog X.w) A (getAttr (.ref a) f b) Q E s:=by
 obtain ⟨mA,O,r,_,_,_⟩:=zlm I.hok e
 obtain ⟨u,hu,ru⟩:=zlw.some_of (v:=v) (o:=mA f) (by rw [← l]; exact r f)
 exact zwh I.kIn O (c.get f) c.hd n hu (zr7 ru) (h u _ (I.tok _) ru)
theorem zh4 {m:Str} {g:Addr} {pl:Sem Bool} {Q:Value × List Value→Shared→Prop} (I:Inv X pins σ H s) (e:H a=some (.ins C dx fs)) (c:Cls X.K C) (k:zwt X.K C m g) (l:fs.lookup m=none)
  (h:Q (.ref g,[.ref a]) s):wpAny (model X.prog X.w) A (getMethod (.ref a) m pl) Q E s:=by
 obtain ⟨mA,O,r,_,_,_⟩:=zlm I.hok e
 have hn:mA m=none:=zlw.none_of (by rw [← l]; exact r m)
 exact zs0 I.kIn O (c.get m) k.at_ k.fn hn h
theorem zqg {y:V} {u:Value} {Q:Unit→Shared→Prop} (I:Inv X pins σ H s) (e:H a=some (.ins C dx fs)) (c:Cls X.K C) (n:zjb X.K C f) (hl:fs.length<1000) (ry:zdk y u)
  (h:∀ s',Inv X pins σ (upd H a (.ins C dx (zf2 f y fs))) s'→Q () s'):wpAny (model X.prog X.w) A (setAttr (.ref a) f u) Q E s:=by
 obtain ⟨mA,O,r,wi,_,ho⟩:=zlm I.hok e
 have hz:(fs.map (·.1)).length≤sizeLine:=by rw [List.length_map,sizeLine_eq]; omega
 refine zv2 I.kIn O c.sa c.po n.taker c.hd wi hz fun h' O' sb=>h _ ?_
 have hd:∃ o,h'.get? dx=some o:=let ⟨o,_,_,e',_⟩:=O'.ns; ⟨o,e'⟩
 refine I.write (x:=a) (e:=dx) (by rw [e]; exact True.intro) (.inr ho) (fun b q hb z=>(sb.2 b hb).trans z) hd ?_
 refine ⟨by rw [zal O.ne]; exact ho,?_,O.ne,O'.obj,_,O'.ns,fun g=>?_,fun g hg=>?_⟩
 ·have:=zjd f y fs; omega
 ·show zlw ((zf2 f y fs).lookup g) (if g=f then some u else mA g)
  rw [zjf]
  by_cases q:g=f
  ·rw [if_pos q,if_pos q]; exact ry
  ·rw [if_neg q,if_neg q]; exact r g
 ·by_cases q:g=f
  ·rw [q]; exact (zi9 f y fs).1
  ·refine (zi9 f y fs).2 g (wi g fun z=>hg ?_)
   show (if g=f then some u else mA g)=none
   rw [if_neg q]; exact z
theorem Inv.made (I:Inv X pins σ H s):Inv X pins σ (upd (upd H s.heap.objs.size (.own (s.heap.objs.size+1))) (s.heap.objs.size+1) (.ins C s.heap.objs.size []))
  { s with heap:=(s.heap.push PySem.W.emptyDict).push (PySem.W.instObj C s.heap.objs.size) }:=by
 have e1:(s.heap.push PySem.W.emptyDict).get? s.heap.objs.size=some PySem.W.emptyDict:=Heap.get?_push_size s.heap rfl
 have e2:((s.heap.push PySem.W.emptyDict).push (PySem.W.instObj C s.heap.objs.size)).get? (s.heap.objs.size+1)=some (PySem.W.instObj C s.heap.objs.size):=by
  have:=Heap.get?_push_size (s.heap.push PySem.W.emptyDict) (o:=PySem.W.instObj C s.heap.objs.size) rfl
  rwa [Heap.size_push] at this
 have e3:(s.heap.push PySem.W.emptyDict).Ns s.heap.objs.size (fun _=>none):=⟨PySem.W.emptyDict,#[],_,e1,rfl,(fun e he=>absurd he (by simp)),fun _=>rfl⟩
 have I1:=I.laid (a:=s.heap.objs.size) (o:= .own (s.heap.objs.size+1)) (h':=s.heap.push PySem.W.emptyDict) (t':=s.toks) (fun b u q=>Heap.get?_push_of_some _ q) (Nat.le_refl _) ⟨_,e1⟩
 refine I1.laid (a:=s.heap.objs.size+1) (o:= .ins C s.heap.objs.size []) (t':=s.toks) (fun b u q=>Heap.get?_push_of_some _ q) (Nat.le_of_eq (Heap.size_push _ _)) ?_
 have ne:s.heap.objs.size≠s.heap.objs.size+1:=Nat.ne_of_lt (Nat.lt_succ_self _)
 refine ⟨by rw [zal ne,zam],Nat.zero_le _,ne,e2,fun _=>none,(Heap.Ns1.of_empty e3).at fun o q=>Heap.get?_push_of_some _ q,fun _=>True.intro,fun y hy=>absurd rfl hy⟩
theorem zwr {prog:Program} {w:World} {env:Env} {e:Expr} {f:Str} {pos:Pos} {s:Shared} {Q:Value→Shared→Prop} (hb:attributeBase e f env (eval e env)=eval e env)
  (h:wpAny (model prog w) A (eval e env) (fun o s₁=>wpAny (model prog w) A (getAttr o f true) Q E s₁) E s):wpAny (model prog w) A (eval (.Attribute e f pos) env) Q E s :=
 Attribute_any_ h (by rw [arm_eval_Attribute,hb])
end
def z0k (K:PySem.W.Frag) (ta:TE) (f:Str):TE:=fun σ H Q=>ta σ H fun x H1=>∃ a C dx fs v,x = .ref a∧H1 a=some (.ins C dx fs)∧Cls K C∧zjb K C f∧fs.lookup f=some v∧Q v H1
def z0y (K:PySem.W.Frag) (ta tv:TE) (f:Str):TS:=fun D σ H=>tv σ H fun y H1=>ta σ H1 fun x H2=>∃ a C dx fs,x = .ref a∧H2 a=some (.ins C dx fs)∧Cls K C∧zjb K C f∧fs.length<1000 ∧
 D.nx σ (upd H2 a (.ins C dx (zf2 f y fs)))
section
variable {X:Cx} {o e value:Expr} {f:Str} {pos pos' tpos:Pos} {ta tv:TE}
theorem zc0 (he:PE X e ta) (hb:attributeBase e f X.env (eval e X.env)=eval e X.env):PE X (.Attribute e f pos) (z0k X.K ta f):=by
 intro pins s σ H Q I h
 refine zwr hb (thn (he pins s σ H _ I h) fun u s1 ⟨x,H1,I1,rx,a,C,dx,fs,v,ex,ea,c,n,l,q⟩=>?_)
 subst ex
 obtain rfl:u=Value.ref a:=rx
 exact zpt I1 ea c n l fun u' s2 I2 ru=>⟨v,H1,I2,ru,q⟩
theorem zf3 (ha:PE X o ta) (hv:PE X value tv) (hs:swapsWith value (some (.Attribute o f pos')) pos.line X.env=pure false):PS X (.Assign [.Attribute o f pos'] value pos) (z0y X.K ta tv f):=by
 intro pins s σ H D I h
 refine plainObj_wpAny_Assign_Attribute (thn (hv pins s σ H _ I h) fun u s1 ⟨y,H1,I1,ry,q⟩=>thn (ha pins s1 σ H1 _ I1 q) fun ov s2 ⟨x,H2,I2,rx,a,C,dx,fs,ex,ea,c,n,l,q2⟩=>?_) hs
 subst ex
 obtain rfl:ov=Value.ref a:=rx
 exact zqg I2 ea c n l ry fun s3 I3=>⟨σ,_,I3,q2⟩
end
section
variable {X:Cx} {pins:List (Addr × Obj)} {σ:St} {H:Hp} {s:Shared} {A:Around} {E:Value→Shared→Prop} {Q:Value→Shared→Prop} {c:Value} {b:Bool}
inductive zj3 (K:PySem.W.Frag) (H:Hp):V→Value→Prop where
 | non:zj3 K H .non (.type "NoneType")
 | bl (x:Bool):zj3 K H (.bl x) (.type "bool")
 | int (i:Int):zj3 K H (.int i) (.type "int")
 | str (x:Str):zj3 K H (.str x) (.type "str")
 | flt (x:UInt64):zj3 K H (.flt x) (.type "float")
 | lst {a:Addr} {xs:List V} (e:H a=some (.lst xs)):zj3 K H (.ref a) (.type "list")
 | frz {a:Addr} {o:Obj} {xs:List V} (e:H a=some (.frz o (.lst xs))):zj3 K H (.ref a) (.type "list")
 | tup {a:Addr} {xs:List V} (e:H a=some (.tup xs)):zj3 K H (.ref a) (.type "tuple")
 | dK {a:Addr} {kvs:List (Key × V)} (e:H a=some (.dK kvs)):zj3 K H (.ref a) (.type "dict")
 | dT {a:Addr} {kvs:List (List Key × V)} (e:H a=some (.dT kvs)):zj3 K H (.ref a) (.type "dict")
 | ins {a C dx:Addr} {fs:List (Str × V)} (e:H a=some (.ins C dx fs)) (cl:Cls K C) (ha:PySem.W.findIn K (.ref C) "__class__" = some (some (.builtin "object.__class__")))
   (hn:PySem.W.specialIn K (.builtin "object.__class__") "__get__" = some (some (.builtin "getset_descriptor.__get__"))) (htk:PySem.W.takesIn K (.builtin "object.__class__")=some true)
   (hm:PySem.W.mroIn K C (.type "object")=some true):zj3 K H (.ref a) (.ref C)
theorem zrd {x:V} {u t:Value} (I:Inv X pins σ H s) (rx:zdk x u) (ty:zj3 X.K H x t) (e:PySem.W.kitOne X.K t c=some b) (h:∀ tk,Q (.bool b) { s with toks:=tk }) :
    wpAny (model X.prog X.w) A (call (.builtin "isinstance") [u,c]) Q E s:=by
  cases ty with
  | non=>cases (show u=Value.none from rx); exact PySem.W.kia_one PySem.W.kitx_none I.kIn True.intro e (fun z=>nomatch z) h
  | bl y=>cases (show u=Value.bool y from rx); exact PySem.W.kia_one PySem.W.kitx_bool I.kIn True.intro e (fun z=>nomatch z) h
  | int i=>obtain ⟨t,q⟩:=(show ∃ t,u=Value.int i t from rx); cases q; exact PySem.W.kia_one PySem.W.kitx_int I.kIn True.intro e (fun z=>nomatch z) h
  | str y=>obtain ⟨t,q⟩:=(show ∃ t,u=Value.str y t from rx); cases q; exact PySem.W.kia_one PySem.W.kitx_str I.kIn True.intro e (fun z=>nomatch z) h
  | flt y=>obtain ⟨t,q⟩:=(show ∃ t,u=Value.float y t from rx); cases q; exact PySem.W.kia_one PySem.W.kitx_float I.kIn True.intro e (fun z=>nomatch z) h
  | @lst a xs ea =>
    cases (show u=Value.ref a from rx)
    obtain ⟨_,_,n,_,h1⟩:=(show zdy X.prog X.w H s.heap a (.lst xs) from I.hok a _ ea)
    exact PySem.W.kia_one PySem.W.kitx_list I.kIn ⟨_,h1,rfl⟩ e (fun z=>nomatch z) h
  | @frz a ob xs ea =>
    cases (show u=Value.ref a from rx)
    obtain ⟨_,_,_,n,_,h1⟩:=(show zdy X.prog X.w H s.heap a (.frz ob (.lst xs)) from I.hok a _ ea)
    exact PySem.W.kia_one PySem.W.kitx_list I.kIn ⟨_,h1,rfl⟩ e (fun z=>nomatch z) h
  | @tup a xs ea =>
    cases (show u=Value.ref a from rx)
    obtain ⟨_,_,_,p⟩:=(show zdy X.prog X.w H s.heap a (.tup xs) from I.hok a _ ea)
    obtain ⟨o,h1,h2,_⟩:=p
    exact PySem.W.kia_one PySem.W.kitx_tuple I.kIn ⟨o,h1,h2⟩ e (fun z=>nomatch z) h
  | @dK a kvs ea =>
    cases (show u=Value.ref a from rx)
    obtain ⟨_,_,vs,_,p⟩:=(show zdy X.prog X.w H s.heap a (.dK kvs) from I.hok a _ ea)
    obtain ⟨o,es,ep,h1,h2,_⟩:=p
    exact PySem.W.kia_one PySem.W.kitx_dict I.kIn ⟨o,h1,h2.1⟩ e (fun z=>nomatch z) h
  | @dT a kvs ea =>
    cases (show u=Value.ref a from rx)
    obtain ⟨_,_,xs,_,o,es,ep,h1,h2,_⟩:=(show zdy X.prog X.w H s.heap a (.dT kvs) from I.hok a _ ea)
    exact PySem.W.kia_one PySem.W.kitx_dict I.kIn ⟨o,h1,h2.1⟩ e (fun z=>nomatch z) h
  | @ins a C dx fs ea cl ha hn htk hm =>
    cases (show u=Value.ref a from rx)
    obtain ⟨mA,O,_⟩:=zlm I.hok ea
    obtain ⟨od,J,_⟩:=O.look
    exact PySem.W.kia_one (PySem.W.kitx_own (cl.get _) cl.hd ha hn htk hm) I.kIn J e (fun z=>nomatch z) h
end
end L2
namespace L2
open PySem PySem.Spec PyProof.Rows
structure zfy (k:Nat) (A:Around):Prop where
 hd:A.handled=none
 dp:A.depth+3 * k+5<recursionLimit
 un:A.units+16 * k+200<cLine
theorem zfy.mono {j k:Nat} {A:Around} (r:zfy k A) (h:j≤k):zfy j A:=⟨r.hd,by have:=r.dp; omega,by have:=r.un; omega⟩
theorem zfy.deeper {k:Nat} {A:Around} (r:zfy (k+1) A) (env:Env):zfy k (A.deeper env) :=
 ⟨r.hd,by have:=r.dp; show A.depth+1+3 * k+5<_; omega,by have:=r.un; show A.units+3+16 * k+200<_; omega⟩
theorem zfy.in1 {k:Nat} {A:Around} (r:zfy (k+1) A):zfy k A.in1 :=
 ⟨r.hd,by have:=r.dp; show A.depth+3 * k+5<_; omega,by have:=r.un; show A.units+1+16 * k+200<_; omega⟩
theorem zp6 {A:Around} {C:Addr} {us:List Value} {kw:List (Str × Value)}:(A.under (.builtin "type.__call__" ⟨.ref C :: us,kw⟩)).depth=A.depth+1:=by
 first | rfl | simp [Around.under,Code.weight,Code.isCreation,Code.isGuard,Code.isCaller,Code.frames,Code.isFrame,guardIds]
theorem zpv {A:Around} {C:Addr} {us:List Value} {kw:List (Str × Value)}:(A.under (.builtin "type.__call__" ⟨.ref C :: us,kw⟩)).units=A.units+1:=by
 first | rfl | simp [Around.under,Code.cUnits,Code.frames,Code.isFrame]
theorem zfy.make {k:Nat} {A:Around} (r:zfy (k+1) A) (C:Addr) (us:List Value) (kw:List (Str × Value)):zfy k (A.under (.builtin "type.__call__" ⟨.ref C :: us,kw⟩)) :=
 ⟨r.hd,by have:=r.dp; rw [zp6]; omega,by have:=r.un; rw [zpv]; omega⟩
theorem zfy.depth {k:Nat} {A:Around} (r:zfy k A):A.depth<recursionLimit:=by have:=r.dp; omega
theorem zfy.units {k:Nat} {A:Around} (r:zfy k A):A.units+64<cLine:=by have:=r.un; omega
def z0b:TA:=fun _ H Q=>Q [] H
def zx3 (ta:TE) (tr:TA):TA:=fun σ H Q=>ta σ H fun x H1=>tr σ H1 fun xs H2=>Q (x :: xs) H2
section
variable {X:Cx} {e:Expr} {es:List Expr} {te:TE} {t:TA} {pos:Pos}
theorem zar:PA X [] z0b:=fun _ _ _ _ H Q I h=>Calls.spliced_nil ⟨[],H,I,.nil,h⟩
theorem zad (ha:PE X e te) (hr:PA X es t) (hs:starEach (e :: es) X.env=(false,eval e X.env) :: starEach es X.env:=by rfl):PA X (e :: es) (zx3 te t):=by
 intro pos pins s σ H Q I h
 rw [hs]
 show wpAny _ _ (spliced ((false,eval e X.env) :: backTo pos (starEach es X.env))) _ _ s
 refine Calls.spliced_cons (thn (ha pins s σ H _ I h) fun u s1 ⟨x,H1,I1,r1,q1⟩=>?_)
 exact thn (hr pos pins s1 σ H1 _ I1 q1) fun us s2 ⟨xs,H2,I2,r2,q2⟩=>⟨x :: xs,H2,I2,.cons r1 r2,q2⟩
def z01 (t:TA):TE:=fun σ H Q=>t σ H fun xs H1=>xs.length≤sizeLine∧∀ p,H1 p=none→Q (.ref p) (upd H1 p (.tup xs))
def z0o (t:TA):TE:=fun σ H Q=>t σ H fun xs H1=>xs.length≤sizeLine∧∀ p,H1 p=none→Q (.ref p) (upd H1 p (.lst xs))
theorem zuu {x1} (h:PA X es t):PE X (.Tuple es x1 pos) (z01 t):=by
 intro pins s σ H Q I hq
 refine wpAny_Tuple_spliced (thn (h pos pins s σ H _ I hq) fun us s1 ⟨xs,H1,I1,r,z,q⟩=>⟨by rw [← r.length]; exact z,?_⟩)
 have hf:H1 s1.heap.objs.size=none:=I1.hok.fresh (Nat.le_refl _)
 refine ⟨.ref s1.heap.objs.size,upd H1 s1.heap.objs.size (.tup xs),I1.laid (t':=s1.toks) (fun b u e=>Heap.get?_push_of_some _ e) (Nat.le_refl _) ?_,rfl,q _ hf⟩
 exact ⟨z,us,r,⟨_,Heap.get?_push_size _ rfl,rfl,_,rfl⟩⟩
theorem zc9 (h:PA X es t):PE X (.List es pos) (z0o t):=by
 intro pins s σ H Q I hq
 refine wpAny_List_spliced (thn (h pos pins s σ H _ I hq) fun us s1 ⟨xs,H1,I1,r,z,q⟩=>⟨by rw [← r.length]; exact z,?_⟩)
 have hf:H1 s1.heap.objs.size=none:=I1.hok.fresh (Nat.le_refl _)
 refine ⟨.ref s1.heap.objs.size,upd H1 s1.heap.objs.size (.lst xs),I1.laid (t':=s1.toks) (fun b u e=>Heap.get?_push_of_some _ e) (Nat.le_refl _) ?_,rfl,q _ hf⟩
 exact ⟨z,us,0,r,Heap.get?_push_size _ rfl⟩
end
abbrev Sp:=List V→Hp→VK→XK→Prop
abbrev CXT:=List Env→Hp→Shared→XK→Value→Shared→Prop
structure zsw (P:Program) (w:World) (K:PySem.W.Frag) (mg:Str→Option Value) (base:Heap) (A:Around) (outer:List Env) (s:Shared) (H:Hp):Prop where
 frames:A.frames=some outer
 mod:Mod K mg base
 bs:∀ b o,base.get? b=some o→s.heap.get? b=some o∧H b=none
 bsz:base.objs.size≤s.heap.objs.size
 funs:s.heap.FunFrames base outer
 frf:∀ b∈frs outer,H b=none
 hok:HOk P w H s.heap
 bare:AllBare s.gens
def CE (outer:List Env) (P:Program) (w:World) (H:Hp) (s:Shared) (Q:VK) (u:Value) (s':Shared):Prop :=
 ∃ v H',s'.os=s.os∧AllBare s'.gens∧Un (frs outer) [] H H' s.heap s'.heap∧HOk P w H' s'.heap∧zdk v u∧Q v H'
def CR (CX:CXT) (outer:List Env) (P:Program) (w:World) (H:Hp) (s:Shared) (Q:VK) (E:XK) (r:Result) (s':Shared):Prop :=
 match r with
 | .ok (.ret u)=>CE outer P w H s Q u s'
 | .ok _=>False
 | .error e=>CX outer H s E e s'
structure zbe (P:Program) (w:World) (K:PySem.W.Frag) (mg:Str→Option Value) (base:Heap) (CX:CXT) (k:Nat) (f:Addr) (fd:FuncData) (ps:List Str) (sp:Sp):Prop where
 len:∀ vs H Q E,sp vs H Q E→vs.length=ps.length
 run:∀ (A:Around) (outer:List Env) (s:Shared) (H:Hp) (args:Args) (us:List Value) (vs:List V) (Q:VK) (E:XK),zfy k A→zsw P w K mg base A outer s H→BindsTo s fd args (ps.zip us)→zc2 vs us→sp vs H Q E →
  codeAny (model P w) A (.call (.ref f) args) (CR CX outer P w H s Q E) s
theorem zbe.mono {P:Program} {w:World} {K:PySem.W.Frag} {mg:Str→Option Value} {base:Heap} {CX:CXT} {j k:Nat} {f:Addr} {fd:FuncData} {ps:List Str} {sp:Sp} (F:zbe P w K mg base CX j f fd ps sp) (h:j≤k) :
  zbe P w K mg base CX k f fd ps sp:=⟨F.len,fun A outer s H args us vs Q E hr=>F.run A outer s H args us vs Q E (hr.mono h)⟩
theorem zbe.imp {P:Program} {w:World} {K:PySem.W.Frag} {mg:Str→Option Value} {base:Heap} {CX:CXT} {k:Nat} {f:Addr} {fd:FuncData} {ps:List Str} {sp sp':Sp} (F:zbe P w K mg base CX k f fd ps sp)
  (h:∀ vs H Q E,sp' vs H Q E→sp vs H Q E):zbe P w K mg base CX k f fd ps sp' :=
 ⟨fun vs H Q E q=>F.len vs H Q E (h _ _ _ _ q),fun A outer s H args us vs Q E hr he hb hv hs=>F.run A outer s H args us vs Q E hr he hb hv (h _ _ _ _ hs)⟩
theorem zsw.make {P:Program} {w:World} {K:PySem.W.Frag} {mg:Str→Option Value} {base:Heap} {A:Around} {outer:List Env} {s:Shared} {H:Hp} (e:zsw P w K mg base A outer s H) (C:Addr) (us:List Value) (kw:List (Str × Value)) :
  zsw P w K mg base (A.under (.builtin "type.__call__" ⟨.ref C :: us,kw⟩)) outer s H:=⟨by first | exact e.frames | (simpa [Around.under,Code.envs,Code.isFrame,pushEnvs] using e.frames),e.mod,e.bs,e.bsz,e.funs,e.frf,e.hok,e.bare⟩
theorem zsw.in1 {P:Program} {w:World} {K:PySem.W.Frag} {mg:Str→Option Value} {base:Heap} {A:Around} {outer:List Env} {s:Shared} {H:Hp} (e:zsw P w K mg base A outer s H) :
  zsw P w K mg base A.in1 outer s H:=⟨e.frames,e.mod,e.bs,e.bsz,e.funs,e.frf,e.hok,e.bare⟩
section
variable {X:Cx} {pins:List (Addr × Obj)} {σ:St} {H:Hp} {s s':Shared}
theorem Inv.env0 (I:Inv X pins σ H s):zsw X.prog X.w X.K X.mg X.base X.A X.stack s H :=
 ⟨I.ok.frames,I.ok.mod,I.bs,Nat.le_trans I.ok.bsz I.sz,I.stack,I.stkFree,I.hok,I.bare⟩
theorem Inv.after {Q:VK} {u:Value} (I:Inv X pins σ H s) (h:CE X.stack X.prog X.w H s Q u s'):EP X pins σ Q u s':=by
 obtain ⟨v,H',os,bare,un,hok,r,q⟩:=h
 obtain ⟨hh,g,d,t,os'⟩:=s'
 obtain rfl:os'=s.os:=os
 exact ⟨v,H',I.call (h':=hh) (g':=g) (d':=d) (t':=t) (ch:=[]) un hok bare (fun b z=>absurd z (by simp)),r,q⟩
end
def zzn (sp:Sp) (dvs:List V) (E:XK) (t:TA):TE:=fun σ H Q=>t σ H fun vs H1=>sp (vs++dvs) H1 Q E
def zyg (C:Addr) (m:Str) (sp:Sp) (dvs:List V) (E:XK) (ta:TE) (t:TA):TE:=fun σ H Q=>ta σ H fun x H1=>∃ a dx fs,x = .ref a∧H1 a=some (.ins C dx fs)∧fs.lookup m=none ∧
 t σ H1 fun vs H2=>sp (x :: (vs++dvs)) H2 Q E
def zzf (C:Addr) (sp:Sp) (dvs:List V) (E:XK) (t:TA):TE:=fun σ H Q=>t σ H fun vs H1=>∀ x dx,H1 x=none→H1 dx=none→dx≠x →
 sp (.ref x :: (vs++dvs)) (upd (upd H1 dx (.own x)) x (.ins C dx [])) (fun v H2=>v = .non∧Q (.ref x) H2) E
def zex (K:PySem.W.Frag) (fd:FuncData) (ps:List Str) (ds:List Value):Prop :=
 ∀ (s:Shared) (us:List Value),K.In s.heap→(us++ds).length=ps.length→BindsTo s fd ⟨us,[]⟩ (ps.zip (us++ds))
theorem zex.all {K:PySem.W.Frag} {fd:FuncData} {ps:List Str} (h:∀ us:List Value,us.length=ps.length→bindArgs fd ⟨us,[]⟩=pure (ps.zip us)):zex K fd ps []:=fun s us _ hl=>by
 rw [List.append_nil] at hl ⊢
 exact .of_eq (h us hl)
def zjc (CX:CXT) (X:Cx) (E:XK):Prop:=∀ (pins:List (Addr × Obj)) (σ:St) (H:Hp) (s:Shared) (e:Value) (s':Shared),Inv X pins σ H s→CX X.stack H s E e s'→X.xe e s'
section
variable {X:Cx} {CX:CXT} {k:Nat} {f C:Addr} {fd:FuncData} {ps:List Str} {sp:Sp} {dvs:List V} {ds:List Value} {E:XK} {x m:Str} {p pos apos:Pos} {e o:Expr} {es:List Expr} {ta:TE} {t:TA}
theorem zow {pins:List (Addr × Obj)} {σ:St} {H:Hp} {s:Shared} {Q:VK} {us:List Value} {vs:List V} (F:zbe X.prog X.w X.K X.mg X.base CX k f fd ps sp) (hr:zfy k X.A) (hb:zex X.K fd ps ds) (hd:zc2 dvs ds) (hx:zjc CX X E)
    (I:Inv X pins σ H s) (r:zc2 vs us) (h:sp (vs++dvs) H Q E):wpAny (model X.prog X.w) X.A (call (.ref f) us) (EP X pins σ Q) X.xe s:=by
  have r2:zc2 (vs++dvs) (us++ds):=r.append hd
  have hl:(us++ds).length=ps.length:=by rw [← r2.length]; exact F.len _ _ _ _ h
  refine wpAny_call (codeAny_mono (F.run X.A X.stack s H ⟨us,[]⟩ (us++ds) (vs++dvs) Q E hr I.env0 (hb s us I.kIn hl) r2 h) fun r s' hq=>?_)
  cases r with
  | error e=>exact hx pins σ H s e s' I hq
  | ok fl =>
    cases fl with
    | ret u=>exact I.after hq
    | next=>exact False.elim hq
    | brk=>exact False.elim hq
    | cont=>exact False.elim hq
theorem zbn (F:zbe X.prog X.w X.K X.mg X.base CX k f fd ps sp) (hr:zfy k X.A) (hg:Gl X x) (hm:X.mg x=some (.ref f)) (hk:PySem.W.keepIn X.K (.ref f)=true) (hb:zex X.K fd ps ds) (hd:zc2 dvs ds) (hx:zjc CX X E)
  (ha:PA X (e :: es) t) (hdb:(x == ("__debug__" : Str))=false:=by decide) (he:starEach (e :: es) X.env=(false,eval e X.env) :: starEach es X.env:=by rfl) (hpl:(backTo pos (starEach es X.env)).any (·.1)=false:=by rfl) :
  PE X (.Call (.Name x p) (e :: es) [] pos) (zzn sp dvs E t):=by
 intro pins s σ H Q I h
 refine wpAny_Call_Name_kw (zic I hg hm ?_ hdb)
 refine PySem.W.callWith_K (h₀:=X.base) I.ok.mod.kin hk (thn (ha pos pins s σ H _ I h) fun us s1 ⟨vs,H1,I1,r,q⟩=>⟨I1.kIn,?_⟩) he hpl
 exact zow F hr hb hd hx I1 r q
theorem zb7 {pl:Sem Bool} (he:PE X o ta) (c:Cls X.K C) (hm:zwt X.K C m f) (F:zbe X.prog X.w X.K X.mg X.base CX k f fd ps sp) (hr:zfy k X.A) (hb:zex X.K fd ps ds) (hd:zc2 dvs ds) (hx:zjc CX X E) (ha:PA X (e :: es) t)
  (hst:starEach (e :: es) X.env=(false,eval e X.env) :: starEach es X.env:=by rfl) (hpl:(backTo pos (starEach es X.env)).any (·.1)=false:=by rfl)
  (ht:eval (.Call (.Attribute o m apos) (e :: es) [] pos) X.env=(do
   let ov ← eval o X.env
   standAt apos.atName
   let (f,first) ← holding [ov] (getMethod ov m pl)
   callWith pos f first (backTo pos (starEach (e :: es) X.env)) (backToKw pos (keywordEach [] X.env))):=by rfl) :
  PE X (.Call (.Attribute o m apos) (e :: es) [] pos) (zyg C m sp dvs E ta t):=by
 intro pins s σ H Q I h
 refine PySem.W.methodCall_KW (pl:=pl) (thn (he pins s σ H _ I h) fun u s1 ⟨x,H1,I1,rx,a,dx,fs,ex,ea,l,q⟩=>?_) ht
 subst ex
 obtain rfl:u=Value.ref a:=rx
 refine zh4 I1 ea c hm l ?_
 refine PySem.W.callWith_K (first:=[.ref a]) (h₀:=X.base) I.ok.mod.kin hm.kp (thn (ha pos pins s1 σ H1 _ I1 q) fun us s2 ⟨vs,H2,I2,r,q2⟩=>⟨I2.kIn,?_⟩) hst hpl
 exact zow (us:= .ref a :: us) (vs:= .ref a :: vs) F hr hb hd hx I2 (.cons rfl r) q2
theorem zfu {pl:Sem Bool} (he:PE X o ta) (c:Cls X.K C) (hm:zwt X.K C m f) (F:zbe X.prog X.w X.K X.mg X.base CX k f fd ps sp) (hr:zfy k X.A) (hb:zex X.K fd ps ds) (hd:zc2 dvs ds) (hx:zjc CX X E)
  (ht:eval (.Call (.Attribute o m apos) [] [] pos) X.env=(do
   let ov ← eval o X.env
   standAt apos.atName
   let (f,first) ← holding [ov] (getMethod ov m pl)
   callWith pos f first (backTo pos (starEach [] X.env)) (backToKw pos (keywordEach [] X.env))):=by rfl) :
  PE X (.Call (.Attribute o m apos) [] [] pos) (zyg C m sp dvs E ta z0b):=by
 intro pins s σ H Q I h
 refine PySem.W.methodCall_KW (pl:=pl) (thn (he pins s σ H _ I h) fun u s1 ⟨x,H1,I1,rx,a,dx,fs,ex,ea,l,q⟩=>?_) ht
 subst ex
 obtain rfl:u=Value.ref a:=rx
 refine zh4 I1 ea c hm l ?_
 exact PySem.W.callWith_K0 (first:=[.ref a]) I1.kIn hm.kp (zow (us:=[.ref a]) (vs:=[.ref a]) F hr hb hd hx I1 (.cons rfl .nil) q)
structure Mk (K:PySem.W.Frag) (C f:Addr):Prop where
 makes:PySem.W.makesIn K C=true
 init:PySem.W.findIn K (.ref C) "__init__" = some (some (.ref f))
 fn:PySem.W.isFn K (.ref f)=true
 kp:PySem.W.keepIn K (.ref C)=true
theorem zt6 {pins:List (Addr × Obj)} {σ:St} {H:Hp} {s:Shared} {Q:VK} {us:List Value} {vs:List V} (M:Mk X.K C f) (F:zbe X.prog X.w X.K X.mg X.base CX k f fd ps sp) (hr:zfy (k+1) X.A) (hb:zex X.K fd ps ds) (hd:zc2 dvs ds)
    (hx:zjc CX X E) (I:Inv X pins σ H s) (r:zc2 vs us)
    (h:∀ x dx,H x=none→H dx=none→dx≠x→sp (.ref x :: (vs++dvs)) (upd (upd H dx (.own x)) x (.ins C dx [])) (fun v H2=>v = .non∧Q (.ref x) H2) E) :
    wpAny (model X.prog X.w) X.A (call (.ref C) us) (EP X pins σ Q) X.xe s:=by
  have hq:=h (s.heap.objs.size+1) s.heap.objs.size (I.hok.fresh (Nat.le_succ _)) (I.hok.fresh (Nat.le_refl _)) (Nat.ne_of_lt (Nat.lt_succ_self _))
  have I2:=Inv.made (C:=C) I
  have r2:zc2 (V.ref (s.heap.objs.size+1) :: (vs++dvs)) (Value.ref (s.heap.objs.size+1) :: (us++ds)):= .cons rfl (r.append hd)
  have hl:(Value.ref (s.heap.objs.size+1) :: us++ds).length=ps.length:=by
    have e:=r2.length
    rw [F.len _ _ _ _ hq] at e
    exact e.symm
  refine wpAny_call (zs7 (f:=f) I.kIn M.makes M.init (beq_iff_eq.mp M.fn) (codeAny_mono (F.run _ X.stack _ _ ⟨Value.ref (s.heap.objs.size+1) :: us,[]⟩ (Value.ref (s.heap.objs.size+1) :: (us++ds)) _ _ E (hr.make C us [])
    (I2.env0.make C us []) (hb _ (Value.ref (s.heap.objs.size+1) :: us) I2.kIn hl) r2 hq) fun r s' hq'=>?_))
  cases r with
  | error e=>exact hx pins σ _ _ e s' I2 hq'
  | ok fl =>
    cases fl with
    | ret u =>
      obtain ⟨v,H',I3,rv,ev,q3⟩:=I2.after hq'
      subst ev
      exact ⟨rv,⟨V.ref (s.heap.objs.size+1),H',I3,rfl,q3⟩⟩
    | next=>exact False.elim hq'
    | brk=>exact False.elim hq'
    | cont=>exact False.elim hq'
theorem zoo (M:Mk X.K C f) (F:zbe X.prog X.w X.K X.mg X.base CX k f fd ps sp) (hr:zfy (k+1) X.A) (hg:Gl X x) (hm:X.mg x=some (.ref C)) (hb:zex X.K fd ps ds) (hd:zc2 dvs ds) (hx:zjc CX X E)
  (ha:PA X (e :: es) t) (hdb:(x == ("__debug__" : Str))=false:=by decide) (he:starEach (e :: es) X.env=(false,eval e X.env) :: starEach es X.env:=by rfl) (hpl:(backTo pos (starEach es X.env)).any (·.1)=false:=by rfl) :
  PE X (.Call (.Name x p) (e :: es) [] pos) (zzf C sp dvs E t):=by
 intro pins s σ H Q I h
 refine wpAny_Call_Name_kw (zic I hg hm ?_ hdb)
 refine PySem.W.callWith_K (h₀:=X.base) I.ok.mod.kin M.kp (thn (ha pos pins s σ H _ I h) fun us s1 ⟨vs,H1,I1,r,q⟩=>⟨I1.kIn,?_⟩) he hpl
 exact zt6 M F hr hb hd hx I1 r q
end
section
variable {X:Cx} {CX:CXT} {k:Nat} {f C:Addr} {fd:FuncData} {ps ks:List Str} {sp:Sp} {E:XK} {x m:Str} {p pos apos kpos:Pos} {e o:Expr} {es:List Expr} {kws:List Keyword} {te ta:TE} {t tk:TA} {nm:Option Str}
structure zz7 (K:PySem.W.Frag) (fd:FuncData) (ps ks:List Str) (g:List Value→List Value→List Value) (gV:List V→List V→List V):Prop where
 to:∀ (s:Shared) (us ws:List Value),K.In s.heap→(g us ws).length=ps.length→BindsTo s fd ⟨us,ks.zip ws⟩ (ps.zip (g us ws))
 rel:∀ {vs:List V} {us:List Value} {zs:List V} {ws:List Value},zc2 vs us→zc2 zs ws→zc2 (gV vs zs) (g us ws)
variable {g:List Value→List Value→List Value} {gV:List V→List V→List V}
end
structure za3 (N P:List Str) (sc:Scope):Prop where
 kind:sc.kind = .function
 co:sc.isCoroutine=false
 gen:sc.isGenerator=false
 nd:N.Nodup
 pre:N.take P.length=P
 par:∀ x∈P,sc.names.lookup x=some .local∨sc.names.lookup x=some .cell
 nofree:∀ y∈sc.names,y.2≠ .free
theorem zmw {kindOf:Str→Option NameKind} {x:Str}:∀ {binds:List (Str × Value)} {m:Str→Option Value},(∀ v,(x,v)∉binds)→bindL kindOf binds m x=m x
  | [],_,_=>rfl
  | (n,v) :: r,m,h=>by
    unfold bindL
    rw [zmw fun w hw=>h w (List.mem_cons_of_mem _ hw)]
    split
    · have:x≠n:=by rintro rfl; exact h v List.mem_cons_self
      simp [this]
    · rfl
theorem zmp {kindOf:Str→Option NameKind} {x:Str}:∀ {binds:List (Str × Value)} {m:Str→Option Value},(∀ v,(x,v)∉binds)→bindC kindOf binds m x=m x
  | [],_,_=>rfl
  | (n,v) :: r,m,h=>by
    unfold bindC
    rw [zmp fun w hw=>h w (List.mem_cons_of_mem _ hw)]
    split
    · rfl
    · have:x≠n:=by rintro rfl; exact h v List.mem_cons_self
      simp [this]
theorem zl5 {kindOf:Str→Option NameKind} {x:Str} {v:Value}:∀ {P:List Str} {vs:List Value} {i:Nat} {m:Str→Option Value},P.Nodup→P[i]? = some x→vs[i]? = some v→kindOf x=some .local →
    bindL kindOf (P.zip vs) m x=some v
  | [],_,_,_,_,h,_,_=>by simp at h
  | _ :: _,[],_,_,_,_,h,_=>by simp at h
  | p :: P,w :: vs,0,m,nd,h1,h2,hk=>by
    simp at h1 h2; subst h1; subst h2
    show bindL kindOf ((p,w) :: P.zip vs) m p=_
    unfold bindL
    rw [zmw fun v hv=>(List.nodup_cons.mp nd).1 (List.of_mem_zip hv).1,if_pos hk]
    simp
  | p :: P,w :: vs,i+1,m,nd,h1,h2,hk=>by
    show bindL kindOf ((p,w) :: P.zip vs) m x=_
    unfold bindL
    exact zl5 (i:=i) (List.nodup_cons.mp nd).2 (by simpa using h1) (by simpa using h2) hk
theorem zm4 {kindOf:Str→Option NameKind} {x:Str} {v:Value}:∀ {P:List Str} {vs:List Value} {i:Nat} {m:Str→Option Value},P.Nodup→P[i]? = some x→vs[i]? = some v→kindOf x≠some .local →
    bindC kindOf (P.zip vs) m x=some v
  | [],_,_,_,_,h,_,_=>by simp at h
  | _ :: _,[],_,_,_,_,h,_=>by simp at h
  | p :: P,w :: vs,0,m,nd,h1,h2,hk=>by
    simp at h1 h2; subst h1; subst h2
    show bindC kindOf ((p,w) :: P.zip vs) m p=_
    unfold bindC
    rw [zmp fun v hv=>(List.nodup_cons.mp nd).1 (List.of_mem_zip hv).1,if_neg hk]
    simp
  | p :: P,w :: vs,i+1,m,nd,h1,h2,hk=>by
    show bindC kindOf ((p,w) :: P.zip vs) m x=_
    unfold bindC
    exact zm4 (i:=i) (List.nodup_cons.mp nd).2 (by simpa using h1) (by simpa using h2) hk
def start (N:List Str) (vs:List V):St:=vs.map some++List.replicate (N.length - vs.length) none
def zkz (CX:CXT) (P:Program) (w:World) (K:PySem.W.Frag) (mg:Str→Option Value) (base:Heap) (N:List Str) (qual:Str) (scope:Scope) (f:Addr) (cd:Value) (A:Around) (outer:List Env) (s:Shared) (H:Hp) (E:XK) (fn:Str→Bool:=fun _=>true):Cx where
 prog:=P
 w:=w
 K:=K
 mg:=mg
 base:=base
 A:=A.deeper (envOfC qual scope s.heap.objs.size f cd)
 N:=N
 s₀:=s
 H₀:=H
 env:=envOfC qual scope s.heap.objs.size f cd
 outer:=outer
 stack:=envOfC qual scope s.heap.objs.size f cd :: outer
 ex:=[]
 calm:=true
 fn:=fn
 pn:=[]
 xe:=fun e s'=>wpAny (model P w) (A.deeper (envOfC qual scope s.heap.objs.size f cd)) (leaving (envOfC qual scope s.heap.objs.size f cd) e) (fun _ s''=>CX outer H s E e s'') (fun e' s''=>CX outer H s E e' s'') s'
theorem zox {sc:Scope} {n:Nat} {x:Str} (h:sc.names.lookup x=some .cell):∃ c,(cellsFrom n sc.names []).lookup x=some c:=by
 have q:=PySem.W.cellsFrom_some sc.names n [] (.inl h)
 exact Option.isSome_iff_exists.mp q
theorem zl1 {CX:CXT} {P:Program} {w:World} {K:PySem.W.Frag} {mg:Str→Option Value} {base:Heap} {N ps:List Str} {qual:Str} {scope:Scope} {f:Addr} {cd:Value} {A:Around} {outer:List Env} {s s1:Shared} {H:Hp} {E:XK} {us:List Value} {vs:List V} {fn:Str→Bool}
  (S:za3 N ps scope) (hd:A.handled=none) (e0:zsw P w K mg base A outer s H) (hl:vs.length=ps.length) (r:zc2 vs us)
  (x:InCallC s s.heap.objs.size (bindL (envOfC qual scope s.heap.objs.size f cd).kindOf (ps.zip us) fun _=>none) (cellsFrom (s.heap.objs.size+1) scope.names []) (bindC (envOfC qual scope s.heap.objs.size f cd).kindOf (ps.zip us) fun _=>none) s1) :
  Inv (zkz CX P w K mg base N qual scope f cd A outer s H E fn) [] (start N vs) H s1:=by
 have hpl:ps.length≤N.length:=by have:=congrArg List.length S.pre; rw [List.length_take] at this; omega
 obtain ⟨h1,tk,rfl,hk⟩:=x.done
 have noA:∀ b:Addr,b∉(zkz CX P w K mg base N qual scope f cd A outer s H E fn).ex:=fun b z=>absurd (show b∈([]:List Addr) from z) (by simp)
 refine ⟨⟨e0.mod,S.kind,rfl,rfl,Nat.le_refl _,fun y z c h1 h2=>?_,fun y hy=>?_,fun y c _ h=>?_,fun _=>hd,Around.frames_deeper e0.frames,.inr ⟨rfl,rfl⟩,fun b z=>absurd z (noA b),e0.bs,e0.bsz,fun b _ _=>noA b,fun b z=>absurd z (noA b),e0.funs,e0.frf⟩,
  rfl,e0.bare,Un.kept hk,⟨_,x.toInCall.ns,fun i y v h1 h2 h3=>?_⟩,fun y c h=>⟨_,x.cell y c h⟩,e0.hok.fresh (Nat.le_refl _),fun y c h=>?_,fun p hp=>absurd (show p∈([]:List (Addr × Obj)) from hp) (by simp),e0.hok.kept hk,?_⟩
 ·exact name_of_addr x.apart (PySem.mem_of_lookup h1) (PySem.mem_of_lookup h2)
 ·have hy:scope.names.lookup y=some .cell∨scope.names.lookup y=some .free:=hy
  rcases hy with hy | hy
  ·exact zox hy
  ·exact absurd rfl (S.nofree _ (PySem.mem_of_lookup hy))
 ·exact Nat.le_of_lt (x.above y c (PySem.mem_of_lookup h))
 ·have hi:i<vs.length:=by
   unfold start at h2
   by_cases hi:i<vs.length
   ·exact hi
   ·rw [List.getElem?_append_right (by simpa using hi)] at h2
    rw [List.getElem?_replicate] at h2
    split at h2 <;> cases h2
  have ha:vs[i]? = some v:=by
   unfold start at h2
   rw [List.getElem?_append_left (by simpa using hi),List.getElem?_map] at h2
   cases e:vs[i]? with
   | none=>rw [e] at h2; cases h2
   | some a=>rw [e] at h2; cases h2; rfl
  obtain ⟨u,hu,rv⟩:=r.get ha
  have hp:ps[i]? = some y:=by
   rw [← S.pre,List.getElem?_take_of_lt (by omega)]; exact h1
  have ndP:ps.Nodup:=by rw [← S.pre]; exact S.nd.sublist (List.take_sublist _ _)
  refine ⟨u,rv,?_⟩
  rcases S.par y (List.mem_of_getElem? hp) with k | k
  ·exact .inl ⟨k,zl5 ndP hp hu k⟩
  ·obtain ⟨c,e⟩:=zox (n:=s.heap.objs.size+1) k
   refine .inr ⟨.inl k,c,e,?_⟩
   have q:=x.cell y c e
   rw [zm4 ndP hp hu (by show scope.names.lookup y≠_; rw [k]; decide)] at q
   exact q
 ·have z:=e0.hok.fresh (Nat.le_of_lt (x.above y c (PySem.mem_of_lookup h)))
  exact ⟨fun _=>z,.inl z⟩
 ·unfold start
  show _=N.length
  rw [List.length_append,List.length_map,List.length_replicate]
  omega
theorem zs4 {CX:CXT} {P:Program} {w:World} {K:PySem.W.Frag} {mg:Str→Option Value} {base:Heap} {k:Nat} {f:Addr} {name qual:Str} {params:Arguments} {body:List Stmt} {scope:Scope} {dV kV doc pm cdv ct oc:Value} {an od:Option Addr}
    {osl:Array (Option Value)} {N ps:List Str} {sp:Sp} (lk:K.lookup f=some ⟨oc,od,.func (PySem.W.fnOf name qual params body scope dV kV doc pm an cdv ct),osl⟩) (hcd:PySem.W.codeIn K cdv qual=true) (S:za3 N ps scope)
    (len:∀ vs H Q E,sp vs H Q E→vs.length=ps.length)
    (hbody:∀ (A:Around) (outer:List Env) (s:Shared) (H:Hp) (vs:List V) (Q:VK) (E:XK),zfy k (A.deeper (envOfC qual scope s.heap.objs.size f cdv))→sp vs H Q E →
      ∃ t,PSs (zkz CX P w K mg base N qual scope f cdv A outer s H E) body t∧t { nx:=fun _ H'=>Q .non H',rt:=Q } (start N vs) H) :
    zbe P w K mg base CX (k+1) f (PySem.W.fnOf name qual params body scope dV kV doc pm an cdv ct) ps sp:=by
  refine ⟨len,fun A outer s H args us vs Q E hr e0 hb r hsp=>?_⟩
  have hl:=len _ _ _ _ hsp
  have KX:K.In s.heap:=e0.mod.kin.keeps fun b o e=>(e0.bs b o e).1
  have lim:s.heap.NoLimit:=e0.mod.nolimit.keeps fun b o e=>(e0.bs b o e).1
  have hkind:∀ y∈ps.zip us,scope.names.lookup y.1=some .local∨(scope.names.lookup y.1=some .cell∧((cellsFrom (s.heap.objs.size+1) scope.names []).lookup y.1).isSome=true):=fun ⟨n,v⟩ hy=>by
    rcases S.par n (List.of_mem_zip hy).1 with q | q
    · exact .inl q
    · exact .inr ⟨q,PySem.W.cellsFrom_some _ _ _ (.inl q)⟩
  refine codeAny_call_function hr.depth (KX _ _ lk) rfl S.co S.gen rfl (PySem.W.codeRec_of KX hcd) (hb _ _ _ _ ?_)
  refine wpAny_newFunctionEnv_cells S.kind hkind fun env he s1 x=>?_
  subst he
  refine ⟨lim.keeps x.toInCall.keep,codeAny_func ?_⟩
  obtain ⟨t,ht,hq⟩:=hbody A outer s H vs Q E (hr.deeper _) hsp
  have I:Inv (zkz CX P w K mg base N qual scope f cdv A outer s H E) [] (start N vs) H s1:=zl1 S hr.hd e0 hl r x
  refine wpAny_mono (ht [] s1 (start N vs) H _ I hq) (fun fl s' hs=>?_) fun e s' hs=>hs
  have fin:∀ {σ':St} {H':Hp} {v:V} {u:Value},Inv (zkz CX P w K mg base N qual scope f cdv A outer s H E) [] σ' H' s'→zdk v u→Q v H'→CE outer P w H s Q u s' :=
    fun {σ' H' v u} J rv q=>⟨v,H',J.os,J.bare,J.base,J.hok,rv,q⟩
  cases fl with
  | ret u =>
    obtain ⟨v,σ',H',J,rv,q⟩:=hs
    exact fin J rv q
  | next =>
    obtain ⟨σ',H',J,q⟩:=hs
    exact fin (v:=V.non) (u:=Value.none) J rfl q
  | brk =>
    obtain ⟨_,_,_,q⟩:=hs
    exact False.elim q
  | cont =>
    obtain ⟨_,_,_,q⟩:=hs
    exact False.elim q
end L2
namespace L2
open PySem PySem.Spec PyProof.Rows
section
variable {X:Cx} {x:Str} {p pos:Pos} {e:Expr} {es:List Expr} {t:TA} {id T:String} {r:List V→Hp→VK→Prop}
def tCB (r:List V→Hp→VK→Prop) (t:TA):TE:=fun σ H Q=>t σ H fun vs H1=>r vs H1 Q
theorem zb1 (hc:zgy X (.builtin id) r) (hg:Gl X x) (hm:X.mg x=none) (hv:bootBuiltins x=some (.builtin id)) (ha:PA X (e :: es) t) (hn:x≠ "__name__" :=by decide) (hdb:(x == ("__debug__" : Str))=false:=by decide)
  (he:starEach (e :: es) X.env=(false,eval e X.env) :: starEach es X.env:=by rfl) (hpl:(backTo pos (starEach es X.env)).any (·.1)=false:=by rfl):PE X (.Call (.Name x p) (e :: es) [] pos) (tCB r t):=by
 intro pins s σ H Q I h
 refine wpAny_Call_Name_kw (zpo I hg hm hv ?_ hn hdb)
 exact PyProof.Rows.callWith_builtin1 (thn (ha pos pins s σ H _ I h) fun us s1 ⟨vs,H1,I1,r1,q1⟩=>hc pins s1 σ H1 vs us Q I1 r1 q1) he hpl
theorem zi_ (hc:zgy X (.type T) r) (hg:Gl X x) (hm:X.mg x=none) (hv:bootBuiltins x=some (.type T)) (ha:PA X (e :: es) t) (hn:x≠ "__name__" :=by decide) (hdb:(x == ("__debug__" : Str))=false:=by decide)
  (he:starEach (e :: es) X.env=(false,eval e X.env) :: starEach es X.env:=by rfl) (hpl:(backTo pos (starEach es X.env)).any (·.1)=false:=by rfl):PE X (.Call (.Name x p) (e :: es) [] pos) (tCB r t):=by
 intro pins s σ H Q I h
 refine wpAny_Call_Name_kw (zpo I hg hm hv ?_ hn hdb)
 exact PyProof.Rows.callWith_type1 (thn (ha pos pins s σ H _ I h) fun us s1 ⟨vs,H1,I1,r1,q1⟩=>hc pins s1 σ H1 vs us Q I1 r1 q1) he hpl
end
end L2
namespace HT
open PySem PyProof.Rows
section
open PySem.SeqAt
open PySem.AutoSeq1 (wpAny_loadPart')
open PySem.MeetsSeq PySem.MeetsSeq2 PySem.MeetsSeq3
end
section
variable {prog:Program} {w:World} {A:Around} {E:Value→Shared→Prop} {s:Shared}
def sIx (n d:Nat):Option Int→Nat
 | none=>d
 | some v=>if v<0 then (v+(n:Int)).toNat else min v.toNat n
theorem sIx_none (n d:Nat):sIx n d none=d:=rfl
theorem sIx_nat (n d k:Nat):sIx n d (some (k:Int))=min k n:=by
 show (if (k:Int)<0 then ((k:Int)+(n:Int)).toNat else min (k:Int).toNat n)=min k n
 rw [if_neg (by omega),Int.toNat_natCast]
end
end HT
namespace L2
open PySem PySem.Spec PyProof.Rows
abbrev TO:=St→Hp→(Option Int→Hp→Prop)→Prop
def PO (X:Cx) (e:Option Expr) (t:TO):Prop :=
 ∀ (pins:List (Addr × Obj)) (s:Shared) (σ:St) (H:Hp) (Q:Option Int→Hp→Prop),Inv X pins σ H s→t σ H Q →
  wpAny (model X.prog X.w) X.A (evalPart e X.env) (fun u s'=>∃ o H',Inv X pins σ H' s'∧IsPart u o∧Q o H') X.xe s
def zwn:TO:=fun _ H Q=>Q none H
def zzc (t:TE):TO:=fun σ H Q=>t σ H fun x H1=>∃ i,x = .int i∧Q (some i) H1
theorem zkq {ns:List Int}:∀ {us:List Value},zc2 (ns.map V.int) us→IntsAre us ns:=by
  induction ns with
  | nil=>intro us r; rw [List.map_nil] at r; cases r; exact .nil
  | cons n ns ih =>
    intro us r
    rw [List.map_cons] at r
    cases r with
    | cons r1 r2 =>
      obtain ⟨t,e⟩:=r1
      subst e
      exact .cons n t (ih r2)
section
variable {X:Cx} {e:Expr} {te:TE} {lo hi:Option Expr} {tl th:TO} {pos p2:Pos}
theorem zg5:PO X none zwn:=by
 intro pins s σ H Q I h
 rw [evalPart_none]
 exact wpAny_pure ⟨none,H,I,.none,h⟩
theorem ze_ (h:PE X e te):PO X (some e) (zzc te):=by
 intro pins s σ H Q I hw
 rw [evalPart_some]
 refine thn (h pins s σ H _ I hw) fun u s1 ⟨x,H1,I1,r1,q1⟩=>?_
 obtain ⟨i,rfl,q⟩:=q1
 obtain ⟨t,rfl⟩:=r1
 exact ⟨some i,H1,I1,.int i t,q⟩
def SlR (X:Cx) (r:V→Option Int→Option Int→Hp→VK→Prop):Prop :=
 ∀ (pins:List (Addr × Obj)) (s:Shared) (σ:St) (H:Hp) (x:V) (v vl vu:Value) (lo hi:Option Int) (sl:Addr) (Q:VK),Inv X pins σ H s→zdk x v→s.heap.IsSliceOf sl vl vu .none→IsPart vl lo→IsPart vu hi→r x lo hi H Q →
  ∃ T id,typeLookup (.type T) "__getitem__" = pure (some (.builtin id))∧s.TypeIs v T∧wpAny (model X.prog X.w) X.A (getItem v (.ref sl)) (EP X pins σ Q) X.xe s
theorem SlR.or {r r':V→Option Int→Option Int→Hp→VK→Prop} (h:SlR X r) (h':SlR X r'):SlR X (fun x lo hi H Q=>r x lo hi H Q∨r' x lo hi H Q):=by
 intro pins s σ H x v vl vu lo hi sl Q I rx hs pl pu q
 rcases q with q | q
 ·exact h pins s σ H x v vl vu lo hi sl Q I rx hs pl pu q
 ·exact h' pins s σ H x v vl vu lo hi sl Q I rx hs pl pu q
def tSl (r:V→Option Int→Option Int→Hp→VK→Prop) (te:TE) (tl th:TO):TE:=fun σ H Q=>te σ H fun x H1=>tl σ H1 fun l H2=>th σ H2 fun u H3=>r x l u H3 Q
theorem zez {r:V→Option Int→Option Int→Hp→VK→Prop} (hr:SlR X r) (he:PE X e te) (hl:PO X lo tl) (hu:PO X hi th):PE X (.Subscript e (.Slice lo hi none p2) pos) (tSl r te tl th):=by
 intro pins s σ H Q I h
 refine Subscript_ (thn (he pins s σ H _ I h) fun v s1 ⟨x,H1,I1,r1,q1⟩=>?_)
 refine wpAny_Slice (thn (hl pins s1 σ H1 _ I1 q1) fun vl s2 ⟨l,H2,I2,pl,q2⟩=>thn (hu pins s2 σ H2 _ I2 q2) fun vu s3 ⟨u,H3,I3,pu,q3⟩=>?_)
 rw [evalPart_none]
 refine wpAny_pure ?_
 have I4:Inv X pins σ H3 { s3 with heap:=s3.heap.push { cls:= .type "slice",data:= .fields #[vl,vu,.none] } }:=I3.kept (t':=s3.toks) fun b ob q=>Heap.get?_push_of_some _ q
 obtain ⟨T,id,hT,ht,hg⟩:=hr pins { s3 with heap:=s3.heap.push { cls:= .type "slice",data:= .fields #[vl,vu,.none] } } σ H3 x v vl vu l u s3.heap.objs.size Q I4 r1 (Heap.IsSliceOf.new ..) pl pu q3
 show wpAny (model X.prog X.w) X.A (subscriptTail e (.Slice lo hi none p2) v (.ref s3.heap.objs.size)) (EP X pins σ Q) X.xe { s3 with heap:=s3.heap.push { cls:= .type "slice",data:= .fields #[vl,vu,.none] } }
 exact tail_any (ops:=[.ref s3.heap.objs.size,v]) ht hT hg (by with_unfolding_all rfl)
def zjv (xs:List V) (lo hi:Option Int):List V:=(xs.drop (HT.sIx xs.length 0 lo)).take (HT.sIx xs.length xs.length hi - HT.sIx xs.length 0 lo)
theorem znm (xs:List V) (lo hi:Option Int):(zjv xs lo hi).length≤xs.length:=by
 unfold zjv
 rw [List.length_take,List.length_drop]
 omega
end
end L2
namespace L2
open PySem PySem.Spec PyProof.Rows
def ixN (n:Nat) (i:Int):Option Nat:=if 0≤i then (if i<n then some i.toNat else none) else if -(n:Int)≤i then some (i+n).toNat else none
def atI {α:Type} (xs:List α) (i:Int):Option α:=(ixN xs.length i).bind fun j=>xs[j]?
theorem zwo {n:Nat} {i:Int} {j:Nat} (h:ixN n i=some j):seqIndex? i n=some j∧j<n∧ -(n:Int)≤i∧i<n:=by
 unfold ixN at h
 by_cases h0:0≤i
 ·rw [if_pos h0] at h
  by_cases h1:i<n
  ·rw [if_pos h1] at h
   have e:i.toNat=j:=Option.some.inj h
   exact ⟨by rw [seqIndex_of h0 h1,e],by omega,by omega,h1⟩
  ·rw [if_neg h1] at h; cases h
 ·rw [if_neg h0] at h
  by_cases h1 : -(n:Int)≤i
  ·rw [if_pos h1] at h
   have e:(i+n).toNat=j:=Option.some.inj h
   exact ⟨by rw [seqIndex_neg (by omega) h1,e],by omega,h1,by omega⟩
  ·rw [if_neg h1] at h; cases h
theorem zvy {α:Type} {xs:List α} {i:Int} {v:α} (h:atI xs i=some v):∃ j,seqIndex? i xs.length=some j∧xs[j]? = some v∧j<xs.length∧ -(xs.length:Int)≤i∧i<xs.length:=by
  unfold atI at h
  cases e:ixN xs.length i with
  | none=>rw [e] at h; cases h
  | some j =>
    rw [e] at h
    obtain ⟨h1,h2,h3,h4⟩:=zwo e
    exact ⟨j,h1,h,h2,h3,h4⟩
theorem zlf {α:Type} {xs:List α} {j:Nat} {v:α} (h:xs[j]? = some v):atI xs (j:Int)=some v:=by
 have hj:j<xs.length:=(List.getElem?_eq_some_iff.mp h).1
 have e:ixN xs.length (j:Int)=some j:=by
  unfold ixN
  rw [if_pos (by omega),if_pos (by omega)]; simp
 unfold atI; rw [e]; exact h
def zwp (b:Expr):Prop:=∀ o i,subscripted b false o i=operate [o,i] (getItem o i)
def IxR (X:Cx) (r:R2):Prop :=
 ∀ (value slice:Expr) (pins:List (Addr × Obj)) (s:Shared) (σ:St) (H:Hp) (x y:V) (v u:Value) (Q:VK),Inv X pins σ H s→zdk x v→zdk y u→r x y H Q →
  subscripted slice false v u=operate [v,u] (getItem v u)→wpAny (model X.prog X.w) X.A (subscriptTail value slice v u) (EP X pins σ Q) X.xe s
def MtR (X:Cx) (id:String) (r:V→List V→Hp→VK→Prop):Prop :=
 ∀ (pins:List (Addr × Obj)) (s:Shared) (σ:St) (H:Hp) (x:V) (xs:List V) (v:Value) (us:List Value) (Q:VK),Inv X pins σ H s→zdk x v→zc2 xs us→r x xs H Q →
  wpAny (model X.prog X.w) X.A (call (.builtin id) (v :: us)) (EP X pins σ Q) X.xe s
section
variable {X:Cx} {a b:Expr} {ta tb:TE} {pos:Pos}
theorem IxR.or {r r':R2} (h:IxR X r) (h':IxR X r'):IxR X (fun x y H Q=>r x y H Q∨r' x y H Q):=by
 intro value slice pins s σ H x y v u Q I rx ry q hs
 rcases q with q | q
 ·exact h value slice pins s σ H x y v u Q I rx ry q hs
 ·exact h' value slice pins s σ H x y v u Q I rx ry q hs
theorem MtR.or {id:String} {r r':V→List V→Hp→VK→Prop} (h:MtR X id r) (h':MtR X id r'):MtR X id (fun x xs H Q=>r x xs H Q∨r' x xs H Q):=by
 intro pins s σ H x xs v us Q I rx rs q
 rcases q with q | q
 ·exact h pins s σ H x xs v us Q I rx rs q
 ·exact h' pins s σ H x xs v us Q I rx rs q
theorem zk4 {r:R2} (hr:IxR X r) (ha:PE X a ta) (hb:PE X b tb) (hs:zwp b):PE X (.Subscript a b pos) (tOp r ta tb):=by
 intro pins s σ H Q I h
 exact Subscript_ (zzq ha hb I h fun v u s2 x y H2 I2 rx ry q=>hr a b pins s2 σ H2 x y v u Q I2 rx ry q (hs _ _))
def z0t (K:PySem.W.Frag):R2:=fun x y H Q=>∃ p xs i v,x = .ref p∧y = .int i∧SqL K H p xs∧atI xs i=some v∧Q v H
theorem zft:IxR X (z0t X.K):=by
 intro value slice pins s σ H x y v u Q I rx ry h hs
 obtain ⟨p,xs,i,z,rfl,rfl,hq,he,q⟩:=h
 cases rx
 obtain ⟨t,rfl⟩:=ry
 obtain ⟨its,r,pl,hz⟩:=I.list hq
 obtain ⟨j,h1,h2,h3,h4,h5⟩:=zvy he
 obtain ⟨w,ew,rw'⟩:=r.get h2
 have hl:=r.length
 have hn:=zux
 have fin:EP X pins σ Q w s:=⟨z,H,I,rw',q⟩
 by_cases h0:0≤i
 ·have hj:i.toNat=j:=by
   rw [seqIndex_of h0 h5] at h1
   exact Option.some.inj h1
  exact item_listR pl.isList h0 (by omega) (by rw [hj]; simpa using ew) fin hs
 ·have hj:(i+(its.toArray.size:Int)).toNat=j:=by
   rw [seqIndex_neg (by omega) h4] at h1
   rw [List.size_toArray,← hl]
   exact Option.some.inj h1
  exact subscriptTail_builtinR (x:=w) pl.isList.typeIs slot_list_getitem.lookup
   (wpAny_getItem_list_neg (Q:=fun r s'=>r=w∧EP X pins σ Q r s') pl.isList (by omega) (by rw [List.size_toArray] <;> omega) (by omega) (by rw [hj]; simpa using ew) ⟨rfl,fin⟩) hs
theorem Inv.lst {pins:List (Addr × Obj)} {σ:St} {H:Hp} {s:Shared} {p:Addr} {xs:List V} (I:Inv X pins σ H s) (h:H p=some (.lst xs)) :
  ∃ (its:List Value) (n:Nat),zc2 xs its∧s.heap.get? p=some { cls:= .type "list",data:= .seq its.toArray n }∧xs.length≤sizeLine:=by
 obtain ⟨z,its,n,r,e⟩:=I.hok p _ h
 exact ⟨its,n,r,e,z⟩
theorem zmr (lo hi:Option Int) (n:Nat):(sliceBounds lo hi none n).1=((HT.sIx n 0 lo:Nat):Int)∧(sliceBounds lo hi none n).2.1=((HT.sIx n n hi:Nat):Int)∧(sliceBounds lo hi none n).2.2=1:=by
  refine ⟨?_,?_,rfl⟩
  · cases lo with
    | none=>simp [sliceBounds,HT.sIx]
    | some i =>
      simp only [sliceBounds,HT.sIx,Option.getD_none,show (1:Int) > 0 by decide,if_true]
      by_cases h:i<0
      · simp only [h,if_true] <;> omega
      · simp only [h,if_false] <;> omega
  · cases hi with
    | none=>simp [sliceBounds,HT.sIx]
    | some i =>
      simp only [sliceBounds,HT.sIx,Option.getD_none,show (1:Int) > 0 by decide,if_true]
      by_cases h:i<0
      · simp only [h,if_true] <;> omega
      · simp only [h,if_false] <;> omega
theorem zk9 (its:List Value) (lo hi:Option Int):slicePick its.toArray lo hi none=((its.drop (HT.sIx its.length 0 lo)).take (HT.sIx its.length its.length hi - HT.sIx its.length 0 lo)).toArray:=by
 obtain ⟨h1,h2,h3⟩:=zmr lo hi its.toArray.size
 unfold slicePick
 rw [h1,h2,h3]
 simp only [sliceRange_one,pick_run,List.size_toArray] <;> rfl
def z0h (K:PySem.W.Frag):V→Option Int→Option Int→Hp→VK→Prop:=fun x lo hi H Q=>∃ a xs,x = .ref a∧SqL K H a xs∧∀ p,H p=none→Q (.ref p) (upd H p (.lst (zjv xs lo hi)))
theorem zfn:SlR X (z0h X.K):=by
 intro pins s σ H x v vl vu lo hi sl Q I rx hs pl pu h
 obtain ⟨a,xs,rfl,hx,q⟩:=h
 cases rx
 obtain ⟨its,r,ht,hz⟩:=I.list hx
 have hlen:=r.length
 refine ⟨"list",_,slot_list_getitem.lookup,ht.isList.typeIs,?_⟩
 refine wpAny_getItem_list_slice ht.isList hs pl pu .none (by simp) ?_ (by rw [List.size_toArray] <;> omega)
 rw [zk9,← hlen]
 refine ⟨.ref s.heap.objs.size,_,I.laid (t':=s.toks) (o:= .lst (zjv xs lo hi)) (fun b ob q=>Heap.get?_push_of_some _ q) (Nat.le_refl _) ?_,rfl,q _ (I.hok.fresh (Nat.le_refl _))⟩
 exact ⟨Nat.le_trans (znm xs lo hi) hz,_,0,(r.drop (HT.sIx xs.length 0 lo)).take (HT.sIx xs.length xs.length hi - HT.sIx xs.length 0 lo),Heap.get?_push_size _ rfl⟩
def zlk:V→Bool
 | .non=>true
 | .bl _=>true
 | .int _=>true
 | .str _=>true
 | _=>false
def eqV:V→V→Bool
 | .non,.non=>true
 | .bl a,.bl b=>a == b
 | .bl a,.int b=>(if a then 1 else 0) == b
 | .int a,.bl b=>a == (if b then 1 else 0)
 | .int a,.int b=>a == b
 | .str a,.str b=>a == b
 | _,_=>false
theorem zw8 {A:Around} {s:Shared} {y x:V} {u v:Value} (ry:zdk y u) (rx:zdk x v) (fy:zlk y=true) (fx:zlk x=true):SeqAt.EqAt A s u v (eqV y x):=by
  cases y with
  | non =>
    cases ry
    cases x with
    | non=>cases rx; exact SeqAt.EqAt.same _
    | bl b=>cases rx; exact SeqAt.EqAt.none_bool b
    | int b=>obtain ⟨t,rfl⟩:=rx; exact SeqAt.EqAt.none_int b t
    | str b=>obtain ⟨t,rfl⟩:=rx; exact SeqAt.EqAt.none_str b t
    | _=>exact absurd (show false=true from fx) Bool.false_ne_true
  | bl a =>
    cases ry
    cases x with
    | non=>cases rx; exact SeqAt.EqAt.bool_none a
    | bl b=>cases rx; exact SeqAt.EqAt.bool_bool a b
    | int b=>obtain ⟨t,rfl⟩:=rx; exact SeqAt.EqAt.bool_int a b t
    | str b=>obtain ⟨t,rfl⟩:=rx; exact SeqAt.EqAt.bool_str a b t
    | _=>exact absurd (show false=true from fx) Bool.false_ne_true
  | int a =>
    obtain ⟨t',rfl⟩:=ry
    cases x with
    | non=>cases rx; exact SeqAt.EqAt.int_none a t'
    | bl b=>cases rx; exact SeqAt.EqAt.int_bool a t' b
    | int b=>obtain ⟨t,rfl⟩:=rx; exact SeqAt.EqAt.int_int a t' b t
    | str b=>obtain ⟨t,rfl⟩:=rx; exact SeqAt.EqAt.int_str a t' b t
    | _=>exact absurd (show false=true from fx) Bool.false_ne_true
  | str a =>
    obtain ⟨t',rfl⟩:=ry
    cases x with
    | non=>cases rx; exact SeqAt.EqAt.str_none a t'
    | bl b=>cases rx; exact SeqAt.EqAt.str_bool a t' b
    | int b=>obtain ⟨t,rfl⟩:=rx; exact SeqAt.EqAt.str_int a t' b t
    | str b=>obtain ⟨t,rfl⟩:=rx; exact SeqAt.EqAt.str_str a t' b t
    | _=>exact absurd (show false=true from fx) Bool.false_ne_true
  | _=>exact absurd (show false=true from fy) Bool.false_ne_true
def eqU (x:V) (u:Value):Bool:=match u with
 | .none=>eqV .non x
 | .bool b=>eqV (.bl b) x
 | .int i _=>eqV (.int i) x
 | .str z _=>eqV (.str z) x
 | _=>false
theorem zu4 {x y:V} {u:Value} (r:zdk y u) (f:zlk y=true):eqU x u=eqV y x:=by
 cases y with
 | non=>cases r; rfl
 | bl b=>cases r; rfl
 | int i=>obtain ⟨t,rfl⟩:=r; rfl
 | str z=>obtain ⟨t,rfl⟩:=r; rfl
 | _=>exact absurd (show false=true from f) Bool.false_ne_true
theorem zj1 {x:V}:∀ {xs:List V} {us:List Value},zc2 xs us→xs.all zlk=true→us.any (eqU x)=xs.any fun y=>eqV y x
  | _,_,.nil,_=>rfl
  | y :: xs,u :: us,.cons r t,f=>by
    rw [List.all_cons,Bool.and_eq_true] at f
    rw [List.any_cons,List.any_cons,zu4 r f.1,zj1 t f.2]
theorem zg_ {A:Around} {s:Shared} {x:V} {v:Value} (rx:zdk x v) (fx:zlk x=true):∀ {xs:List V} {us:List Value},zc2 xs us→xs.all zlk=true→∀ u∈us,SeqAt.EqAt A s u v (eqU x u)
  | _,_,.nil,_=>fun u hu=>by cases hu
  | y :: xs,u :: us,.cons r t,f=>fun u' hu=>by
    rw [List.all_cons,Bool.and_eq_true] at f
    rcases List.mem_cons.mp hu with rfl | hu
    · rw [zu4 r f.1]; exact zw8 r rx f.1 fx
    · exact zg_ rx fx t f.2 u' hu
def inV (x:V) (xs:List V):Bool:=xs.any fun y=>eqV y x
def rIn (K:PySem.W.Frag) (neg:Bool):R2:=fun x y H Q=>∃ p xs,y = .ref p∧(SqL K H p xs∨SqT K H p xs)∧zlk x=true∧xs.all zlk=true∧Q (.bl (if neg then !inV x xs else inV x xs)) H
theorem zmq:OpR X (compareOp .In) (rIn X.K false):=by
 intro pins s σ H x y v u Q I rx ry h
 obtain ⟨p,xs,rfl,hq,fx,fs,q⟩:=h
 cases ry
 rcases hq with hq | hq
 ·obtain ⟨its,r,pl,hz⟩:=I.list hq
  refine SeqAt.in_listAt (eqU x) pl.isList (fun w hw=>zg_ rx fx r fs w (by simpa using hw)) ⟨.bl _,H,I,rfl,?_⟩
  rw [show its.toArray.any (eqU x)=its.any (eqU x) by simp,zj1 r fs]
  exact q
 ·obtain ⟨its,r,pl,hz⟩:=I.tuple hq
  refine SeqAt.in_tupleAt (eqU x) pl (fun w hw=>zg_ rx fx r fs w (by simpa using hw)) ⟨.bl _,H,I,rfl,?_⟩
  rw [show its.toArray.any (eqU x)=its.any (eqU x) by simp,zj1 r fs]
  exact q
theorem zm7:OpR X (compareOp .NotIn) (rIn X.K true):=by
 intro pins s σ H x y v u Q I rx ry h
 obtain ⟨p,xs,rfl,hq,fx,fs,q⟩:=h
 cases ry
 rcases hq with hq | hq
 ·obtain ⟨its,r,pl,hz⟩:=I.list hq
  refine SeqAt.notIn_listAt (eqU x) pl.isList (fun w hw=>zg_ rx fx r fs w (by simpa using hw)) ⟨.bl _,H,I,rfl,?_⟩
  rw [show its.toArray.any (eqU x)=its.any (eqU x) by simp,zj1 r fs]
  exact q
 ·obtain ⟨its,r,pl,hz⟩:=I.tuple hq
  refine SeqAt.notIn_tupleAt (eqU x) pl (fun w hw=>zg_ rx fx r fs w (by simpa using hw)) ⟨.bl _,H,I,rfl,?_⟩
  rw [show its.toArray.any (eqU x)=its.any (eqU x) by simp,zj1 r fs]
  exact q
theorem zet:zgy X (.builtin "len") (fun xs H Q=>∃ p ys,xs=[.ref p]∧(SqL X.K H p ys∨SqT X.K H p ys)∧Q (.int ys.length) H):=by
 intro pins s σ H xs us Q I r h
 obtain ⟨p,ys,rfl,hq,q⟩:=h
 obtain ⟨u,rfl,rx⟩:=zn3 r
 cases rx
 have hn:=zux
 rcases hq with hq | hq
 ·obtain ⟨its,r',pl,hz⟩:=I.list hq
  have hlen:=r'.length
  exact Calls.call_len_list pl.isList (by simp only [List.size_toArray] <;> omega) ⟨.int ys.length,H,I.tok _,⟨s.toks+1,by rw [List.size_toArray,hlen]⟩,q⟩
 ·obtain ⟨its,r',pl,hz⟩:=I.tuple hq
  have hlen:=r'.length
  exact len_tuple pl (by simp only [List.size_toArray] <;> omega) ⟨.int ys.length,H,I.tok _,⟨s.toks+1,by rw [List.size_toArray,hlen]⟩,q⟩
theorem zgy.or {f:Value} {r r':List V→Hp→VK→Prop} (h:zgy X f r) (h':zgy X f r'):zgy X f (fun xs H Q=>r xs H Q∨r' xs H Q):=by
 intro pins s σ H xs us Q I rs q
 rcases q with q | q
 ·exact h pins s σ H xs us Q I rs q
 ·exact h' pins s σ H xs us Q I rs q
theorem zih:zgy X (.type "list") (fun xs H Q=>∃ p ys,xs=[.ref p]∧(SqL X.K H p ys∨SqT X.K H p ys)∧∀ l,H l=none→Q (.ref l) (upd H l (.lst ys))):=by
 intro pins s σ H xs us Q I r h
 obtain ⟨p,ys,rfl,hq,q⟩:=h
 obtain ⟨u,rfl,rx⟩:=zn3 r
 cases rx
 have fin:∀ (its:List Value),zc2 ys its→ys.length≤sizeLine→∀ (h':Heap) (c':Nat),(∀ b o',s.heap.get? b=some o'→h'.get? b=some o') →
   h'.get? s.heap.objs.size=some { cls:= .type "list",dict:=none,data:= .seq its.toArray c',slots:= #[] }→EP X pins σ Q (.ref s.heap.objs.size) { s with heap:=h' }:=fun its r' hz h' c' kp e =>
  ⟨.ref s.heap.objs.size,_,I.laid (t':=s.toks) kp (Nat.le_refl _) (show zdy X.prog X.w _ h' _ (.lst ys) from ⟨hz,its,c',r',e⟩),rfl,q _ (I.hok.fresh (Nat.le_refl _))⟩
 rcases hq with hq | hq
 ·obtain ⟨its,r',pl,hz⟩:=I.list hq
  have hlen:=r'.length
  obtain ⟨o,ho,hc,n,hd⟩:=pl.isList
  exact call_list_seq p (.inl rfl) ho hc hd (fun h' c' kp e=>fin its r' hz h' c' kp e) (by simp only [List.size_toArray] <;> omega)
 ·obtain ⟨its,r',pl,hz⟩:=I.tuple hq
  have hlen:=r'.length
  obtain ⟨o,ho,hc,n,hd⟩:=pl
  exact call_list_seq p (.inr rfl) ho hc hd (fun h' c' kp e=>fin its r' hz h' c' kp e) (by simp only [List.size_toArray] <;> omega)
def tyV (K:PySem.W.Frag) (T:String) (x:V) (H:Hp):Prop:=match x with
 | .str _=>T = "str"
 | .int _=>T = "int"
 | .ref p=>(T = "list" ∧∃ xs,SqL K H p xs)∨(T = "tuple" ∧∃ o,K.lookup p=some o∧o.cls = .type "tuple" ∧o.dict=none) ∨
   (T = "dict" ∧((∃ kvs,H p=some (.dK kvs))∨∃ kvs,H p=some (.dT kvs)))∨(T = "set" ∧∃ S n,H p=some (.set S n))
 | _=>False
theorem zut {pins:List (Addr × Obj)} {σ:St} {H:Hp} {s:Shared} {T:String} {x:V} {v:Value} (I:Inv X pins σ H s) (r:zdk x v) (ty:tyV X.K T x H) :
    s.TypeIs v T∧∀ a,v = .ref a→∃ ob,s.heap.get? a=some ob∧ob.dict=none:=by
  cases x with
  | str z =>
    obtain ⟨t,rfl⟩:=r
    cases (show T = "str" from ty)
    exact ⟨typeIs_str s z t,fun _ e=>nomatch e⟩
  | int i =>
    obtain ⟨t,rfl⟩:=r
    cases (show T = "int" from ty)
    exact ⟨typeIs_int s i t,fun _ e=>nomatch e⟩
  | ref p =>
    cases r
    rcases ty with ⟨rfl,xs,hq⟩ | ⟨rfl,o,hk,hc,hd⟩ | ⟨rfl,hk⟩ | ⟨rfl,S,n,hk⟩
    · obtain ⟨its,_,pl,_⟩:=I.list hq
      refine ⟨pl.isList.typeIs,fun a e=>?_⟩
      cases e
      obtain ⟨o,n,e,c,hd,_⟩:=pl
      exact ⟨o,e,hd⟩
    · refine ⟨⟨o,I.kIn p o hk,hc⟩,fun a e=>?_⟩
      cases e
      exact ⟨o,I.kIn _ o hk,hd⟩
    · have z:∃ o,s.heap.get? p=some o∧o.ExactDict:=by
        rcases hk with ⟨kvs,hk⟩ | ⟨kvs,hk⟩
        · obtain ⟨_,_,_,_,o,_,_,e,ex,_⟩:=I.hok p _ hk
          exact ⟨o,e,ex⟩
        · obtain ⟨_,_,_,_,o,_,_,e,ex,_⟩:=I.hok p _ hk
          exact ⟨o,e,ex⟩
      obtain ⟨o,e,ex⟩:=z
      refine ⟨⟨o,e,ex.1⟩,fun a e2=>?_⟩
      cases e2
      exact ⟨o,e,ex.2.1⟩
    · obtain ⟨o,_,_,_,e,ex,_⟩:=I.hok p _ hk
      refine ⟨⟨o,e,ex.1⟩,fun a e2=>?_⟩
      cases e2
      exact ⟨o,e,ex.2.1⟩
  | _=>exact False.elim ty
def zz9 (K:PySem.W.Frag) (T:String) (r:V→List V→Hp→VK→Prop) (to:TE):TE:=fun σ H Q=>to σ H fun x H1=>tyV K T x H1∧r x [] H1 Q
def tBM (K:PySem.W.Frag) (T:String) (r:V→List V→Hp→VK→Prop) (to:TE) (t:TA):TE:=fun σ H Q=>to σ H fun x H1=>tyV K T x H1∧t σ H1 fun xs H2=>r x xs H2 Q
variable {o e:Expr} {es:List Expr} {to:TE} {t:TA} {name:Str} {apos cpos:Pos} {T id:String} {r:V→List V→Hp→VK→Prop}
theorem zuv (pa:PlainAttrs T) (slot:Slot T name id) (hty:typeOf (.builtin id)=pure (.type "method_descriptor")) (hm:MtR X id r) (ho:PE X o to)
  (hbase:attributeBase o name X.env (eval o X.env)=eval o X.env:=by rfl) (hline:(apos.endLine == cpos.line)=true:=by rfl):PE X (.Call (.Attribute o name apos) [] [] cpos) (zz9 X.K T r to):=by
 intro pins s σ H Q I h
 refine wpAny_Call_method0_late hbase hline (thn (ho pins s σ H _ I h) fun v s1 ⟨x,H1,I1,r1,ty,q1⟩=>?_)
 obtain ⟨h1,h2⟩:=zut I1 r1 ty
 exact ⟨T,id,pa,slot,hty,h1,h2,Calls.callWith_builtin rfl (PySem.evalArgs_none (hm pins s1 σ H1 x [] v [] Q I1 r1 .nil q1))⟩
theorem zqa (pa:PlainAttrs T) (slot:Slot T name id) (hty:typeOf (.builtin id)=pure (.type "method_descriptor")) (hm:MtR X id r) (ho:PE X o to) (ha:PA X (e :: es) t)
  (hbase:attributeBase o name X.env (eval o X.env)=eval o X.env:=by rfl)
  (hfew:((backTo cpos (starEach (e :: es) X.env)).all (fun x=> !x.1) && (backToKw cpos (keywordEach [] X.env)).all (fun x=>x.1.isSome)
   && decide ((e :: es).length+([]:List Keyword).length+(if ([]:List Keyword).isEmpty then 0 else 1)<30))=true:=by rfl)
  (hline:(apos.endLine == cpos.line)=true:=by rfl) (hs:starEach (e :: es) X.env=(false,eval e X.env) :: starEach es X.env:=by rfl) (hplain:(backTo cpos (starEach es X.env)).any (·.1)=false:=by rfl) :
  PE X (.Call (.Attribute o name apos) (e :: es) [] cpos) (tBM X.K T r to t):=by
 intro pins s σ H Q I h
 refine wpAny_Call_method_late hbase hfew hline rfl (thn (ho pins s σ H _ I h) fun v s1 ⟨x,H1,I1,r1,ty,q1⟩=>?_)
 obtain ⟨h1,h2⟩:=zut I1 r1 ty
 refine ⟨T,id,pa,slot,hty,h1,h2,?_⟩
 have hA:=ha cpos pins s1 σ H1 _ I1 q1
 rw [hs] at hA ⊢
 refine Calls.callWith_builtin (by show (false || (backTo cpos (starEach es X.env)).any (·.1))=false; rw [hplain] <;> rfl) (Calls.evalArgs_plain ?_)
 exact thn hA fun us s2 ⟨vs,H2,I2,r2,q2⟩=>hm pins s2 σ H2 x vs v us Q I2 r1 r2 q2
end
end L2
namespace L2
open PySem PySem.Spec PyProof.Rows
def MtM (X:Cx) (id:String) (r:V→List V→Hp→VK→Prop):Prop :=
 ∀ (pins:List (Addr × Obj)) (s:Shared) (σ:St) (H:Hp) (x:V) (xs:List V) (v:Value) (us:List Value) (Q:VK),Inv X pins σ H s→zdk x v→zc2 xs us→r x xs H Q →
  wpAny (model X.prog X.w) X.A (call (.builtin id) (v :: us)) (EP X pins σ Q) X.xe s
theorem zc2.one:∀ {x:V} {us:List Value},zc2 [x] us→∃ u,us=[u]∧zdk x u
 | _,_,.cons r .nil=>⟨_,rfl,r⟩
theorem zc2.zero:∀ {us:List Value},zc2 [] us→us=[]
 | _,.nil=>rfl
theorem zc2.dropLast {xs:List V} {us:List Value} (h:zc2 xs us):zc2 xs.dropLast us.dropLast:=by
  induction h with
  | nil=>exact .nil
  | cons r t ih =>
    cases t with
    | nil=>exact .nil
    | cons q t'=>exact .cons r ih
theorem zc2.eraseIdx:∀ {xs:List V} {us:List Value} (i:Nat),zc2 xs us→zc2 (xs.eraseIdx i) (us.eraseIdx i)
 | _,_,_,.nil=> .nil
 | _,_,0,.cons _ t=>t
 | _,_,i+1,.cons r t=> .cons r (zc2.eraseIdx i t)
theorem zc2.reverse {xs:List V} {us:List Value} (h:zc2 xs us):zc2 xs.reverse us.reverse:=by
 induction h with
 | nil=>exact .nil
 | cons r t ih=>rw [List.reverse_cons,List.reverse_cons]; exact zc2.append ih (.cons r .nil)
theorem zpz {α:Type} (l:List α):l.eraseIdx (l.length - 1)=l.dropLast:=by
  induction l with
  | nil=>rfl
  | cons a r ih =>
    cases r with
    | nil=>rfl
    | cons b r =>
      have e:(a :: b :: r).length - 1=((b :: r).length - 1)+1:=by
        have h1:(a :: b :: r).length=r.length+2:=rfl
        have h2:(b :: r).length=r.length+1:=rfl
        omega
      rw [e,List.eraseIdx_cons_succ,ih]
      all_goals rfl
section
variable {X:Cx} {pins:List (Addr × Obj)} {σ:St} {H:Hp} {s:Shared} {l b:Addr} {xs ys zs:List V}
theorem Inv.lset {its its':List Value} {n:Nat} {f:Array Value→Array Value} {t':Nat} (I:Inv X pins σ H s) (hH:H l=some (.lst xs))
  (e:s.heap.get? l=some { cls:= .type "list",data:= .seq its.toArray n }) (hf:f its.toArray=its'.toArray) (hv:zc2 ys its') (hz:ys.length≤sizeLine) :
  Inv X pins σ (upd H l (.lst ys)) { s with heap:=s.heap.update l (Obj.mapSeq f),toks:=t' }:=by
 have q:=PySem.IsL.update e f
 rw [hf] at q
 refine I.write (x:=l) (e:=l) (by rw [hH]; exact trivial) (.inl rfl) (fun b' u hb hu=>(Heap.get?_update_other s.heap (Obj.mapSeq f) (Ne.symm hb)).trans hu) ⟨_,q⟩ ?_
 exact ⟨hz,its',_,hv,q⟩
theorem Inv.lnew {its:List Value} {t':Nat} (I:Inv X pins σ H s) (hv:zc2 ys its) (hz:ys.length≤sizeLine) :
  Inv X pins σ (upd H s.heap.objs.size (.lst ys)) { s with heap:=s.heap.push { cls:= .type "list",data:= .seq its.toArray },toks:=t' } :=
 I.laid (fun _ _ q=>Heap.get?_push_of_some _ q) (Nat.le_refl _) ⟨hz,its,0,hv,Heap.get?_push_size _ rfl⟩
theorem Inv.fresh (I:Inv X pins σ H s):H s.heap.objs.size=none:=I.hok.fresh (Nat.le_refl _)
theorem Inv.lstM (I:Inv X pins σ H s) (hH:H l=some (.lst xs)):xs.length≤sizeLine∧∃ (its:List Value) (n:Nat),zc2 xs its∧xs.length=its.length∧s.heap.get? l=some { cls:= .type "list",data:= .seq its.toArray n }:=by
 obtain ⟨z,its,n,r,e⟩:=I.hok l _ hH
 exact ⟨z,its,n,r,r.length,e⟩
theorem ztn {n:Nat} (h:n≤sizeLine):Builtin.List.listTooLong n=false:=by
 unfold Builtin.List.listTooLong
 exact decide_eq_false (by omega)
end
section
variable {X:Cx}
def zv3:V→List V→Hp→VK→Prop:=fun x vs H Q=>∃ l xs y,x = .ref l∧vs=[y]∧H l=some (.lst xs)∧xs.length<sizeLine∧Q .non (upd H l (.lst (xs++[y])))
theorem zf6:MtM X "list.append" zv3:=by
 intro pins s σ H x vs v us Q I rx rv h
 obtain ⟨l,xs,y,rfl,rfl,hH,hz,q⟩:=h
 cases rx
 obtain ⟨u,rfl,ru⟩:=rv.one
 obtain ⟨z,its,n,r,hl,e⟩:=I.lstM hH
 refine call_meets F.slot_list_append ⟨_,e,rfl⟩ F.entry_list_append (F.args_list_append_2 _ _) (PySem.list_append l its.toArray n u (by rw [List.size_toArray]; omega)) ⟨e,?_⟩
 refine ⟨.non,_,I.lset (its':=its++[u]) hH e (by simp) (r.append (.cons ru .nil)) ?_,rfl,q⟩
 rw [List.length_append,List.length_singleton]
 omega
def zw0:V→List V→Hp→VK→Prop:=fun x vs H Q=>∃ l b xs zs,x = .ref l∧vs=[.ref b]∧H l=some (.lst xs)∧H b=some (.lst zs)∧xs.length+zs.length≤sizeLine∧Q .non (upd H l (.lst (xs++zs)))
theorem zsi:MtM X "list.extend" zw0:=by
 intro pins s σ H x vs v us Q I rx rv h
 obtain ⟨l,b,xs,zs,rfl,rfl,hH,hB,hz,q⟩:=h
 cases rx
 obtain ⟨u,rfl,ru⟩:=rv.one
 cases ru
 obtain ⟨z,its,n,r,hl,e⟩:=I.lstM hH
 obtain ⟨z2,its2,n2,r2,hl2,e2⟩:=I.lstM hB
 have hsz:its.toArray.size+its2.toArray.size≤sizeLine:=by rw [List.size_toArray,List.size_toArray]; omega
 have hlong:¬ (!its.toArray.isEmpty && Builtin.List.listTooLong (its.toArray.size+its2.toArray.size))=true:=by
  rw [ztn hsz,Bool.and_false]
  exact Bool.false_ne_true
 refine call_meets F.slot_list_extend ⟨_,e,rfl⟩ F.entry_list_extend (F.args_list_extend_2 _ _)
  (AutoSeq1.list_extend_list_list_0 l its.toArray n b its2.toArray n2 hlong (by rw [List.size_toArray]; omega) (by omega)) ⟨e,e2,?_⟩
 refine ⟨.non,_,I.lset (its':=its++its2) hH e (by simp) (r.append r2) ?_,rfl,q⟩
 rw [List.length_append]
 omega
def z0c:V→List V→Hp→VK→Prop:=fun x vs H Q=>∃ l xs y,x = .ref l∧vs=[]∧H l=some (.lst xs)∧xs[xs.length - 1]? = some y∧Q y (upd H l (.lst xs.dropLast))
theorem zxx:MtM X "list.pop" z0c:=by
 intro pins s σ H x vs v us Q I rx rv h
 obtain ⟨l,xs,y,rfl,rfl,hH,hy,q⟩:=h
 cases rx
 have hus:=rv.zero
 subst hus
 obtain ⟨z,its,n,r,hl,e⟩:=I.lstM hH
 obtain ⟨u,hu,ru⟩:=r.get hy
 have hy':its.toArray[its.toArray.size - 1]? = some u:=by
  show its.toArray[its.length - 1]? = some u
  rw [← Array.getElem?_toList,← hl]
  exact hu
 refine call_meets F.slot_list_pop ⟨_,e,rfl⟩ F.entry_list_pop (F.args_list_pop_1 _) (MeetsSeq.list_pop_last l its.toArray n u hy' (by rw [List.size_toArray]; omega)) ⟨e,?_⟩
 refine ⟨y,_,I.lset (its':=its.dropLast) hH e ?_ r.dropLast ?_,ru,q⟩
 ·show its.toArray.eraseIdxIfInBounds (its.toArray.size - 1)=its.dropLast.toArray
  rw [List.size_toArray,List.eraseIdxIfInBounds_toArray,zpz]
 ·rw [List.length_dropLast]
  omega
def z0x:R2:=fun x y H Q=>∃ l b xs zs,x = .ref l∧y = .ref b∧H l=some (.lst xs)∧H b=some (.lst zs)∧xs.length+zs.length≤sizeLine∧∀ p,H p=none→Q (.ref p) (upd H p (.lst (xs++zs)))
theorem zfj:OpR X (binaryOp .Add) z0x:=by
 intro pins s σ H x y v u Q I rx ry h
 obtain ⟨l,b,xs,zs,rfl,rfl,hH,hB,hz,q⟩:=h
 cases rx
 cases ry
 obtain ⟨z,its,n,r,hl,e⟩:=I.lstM hH
 obtain ⟨z2,its2,n2,r2,hl2,e2⟩:=I.lstM hB
 refine PySem.P.add_list e e2 ?_ (by rw [List.size_toArray,List.size_toArray]; omega)
 have ea:its.toArray++its2.toArray=(its++its2).toArray:=by simp
 rw [ea]
 exact ⟨.ref _,_,I.lnew (t':=s.toks) (r.append r2) (by rw [List.length_append]; omega),rfl,q _ I.fresh⟩
end
section
variable {prog:Program} {w:World} {A:Around} {E:Value→Shared→Prop} {s:Shared}
set_option maxRecDepth 100000 in
end
section
variable {X:Cx}
end
end L2
namespace Att
open PySem PySem.W PySem.Calls PyProof.Rows
theorem zjl {P:Params} {h:Heap}:∀ (ns:List Int) (vs:List Value),WellAll P h vs (ns.map WData.int)→IntsAre vs ns:=by
  intro ns
  induction ns with
  | nil =>
    intro vs w
    rw [List.map_nil] at w
    cases w
    exact .nil
  | cons n ns ih =>
    intro vs w
    rw [List.map_cons] at w
    cases w with
    | cons a b =>
      cases a
      exact .cons _ _ (ih _ b)
theorem zsj {l:OpenLaw} {n:Nat} (hn:l.most=some n) {P:Params} {h:Heap} {args:List WData} {vals:List Value}
    (hpre:l.row.toRowW.claim.pre args=true) (hwl:WellAll P h vals args) :
    ∃ a vs ns,vals=[Value.ref a]∧args=[WData.list (ns.map WData.int)]∧h.get? a=some { cls:= .type "list",data:= .seq vs.toArray }∧IntsAre vs ns∧ns.length≤n:=by
  have hsh:WShape.hasAll [] args [.list .int]=true:=(pre_splitW hpre).1
  have hc:l.pre.holds [] { args:=args }=true:=(pre_splitW hpre).2
  obtain ⟨d,r,rfl,h1,h2⟩:=hasAllW_cons hsh
  obtain rfl:=hasAllW_nil h2
  obtain ⟨xs,rfl,h3⟩:=hasW_list h1
  obtain ⟨ns,rfl⟩:=items_int h3
  have hlen:ns.length≤n:=by
    unfold OpenLaw.pre at hc
    have h4:(WTm.not (.lt (.lit (.int (n:Int))) (.len (.arg 0)))).holds [] { args:=[.list (ns.map .int)] }=true:=by
      have h4:=(holds_andW hc).1
      rw [hn] at h4
      exact h4
    have h5:=condW_of h4 (w_not (w_lt w_lit (w_len_list (w_arg rfl))))
    rw [List.length_map] at h5
    refine Nat.le_of_not_lt fun q=>?_
    have q':(n:Int)<((ns.length:Nat):Int):=by omega
    first
      | (rw [decide_eq_true q'] at h5; exact absurd h5 (by decide))
      | (simp at h5; omega)
  cases hwl with
  | cons w1 w2 =>
    cases w2
    cases w1 with
    | list ho hall=>exact ⟨_,_,ns,rfl,rfl,ho,zjl ns _ hall,hlen⟩
theorem zqt (l:OpenLaw) (args:List WData):l.row.toRowW.claim.post args (.bool true) args=true :=
 postW_of (r:=l.row.toRowW) (X:=(true == true))
  (show WShape.has [] (.bool true) .bool=true by first | rfl | decide | simp [WShape.has,WShape.arms,WShape.armsAll])
  (show (WTm.eq .res (.lit (.bool true))).value [] { args:=args,res:=some (.bool true),after:=args }=some (.bool (true == true)) from w_eq_bool (w_res rfl) w_lit) rfl
theorem attach_call {l:OpenLaw} {n:Nat} {q:Program} {loose:List Str} {XP:(Str→Option Value)→Heap→Prop} {YP:World→Heap→Prop} {d:DefRec}
  (hn:l.most=some n) (hdf:d.params.defaults=[])
  (call:∀ (w:World) (s₀ s₁:Shared) (mg mb:Str→Option Value) (fa:Addr) (o:Obj) (pm cd doc:Value) (a:Addr) (vs:List Value) (ns:List Int),
   Ground q loose [] XP w s₀ mg mb s₁.heap→YP w s₁.heap →
   s₁.heap.get? fa=some o→o.data = .func (docDef d.name d.params d.body d.scope pm cd doc)→s₁.heap.CodeRec cd d.name→mg d.name=some (.ref fa) →
   s₁.heap.get? a=some { cls:= .type "list",data:= .seq vs.toArray }→IntsAre vs ns→ns.length≤n→s₁.gens = #[] →
   codeAny (model l.prog w) callerA (.call (.ref fa) ⟨[.ref a],[]⟩) (fun r s'=>r = .ok (.ret (.bool true))∧OldK s₁.heap s'.heap∧s'.os=s₁.os∧AllBare s'.gens) s₁) :
  WalkO q loose XP YP l.row.toRowW d [] (fun f vs=>PySem.call f vs):=by
 intro w s₀ s₁ mg mb G Y fa o pm cd doc dV kV ho hd hcd hD hmg hg args vals as hpre hlay hrd hwl hlo
 obtain rfl:dV = .none:=Dflts.none hD hdf
 obtain rfl:kV = .none:=Dflts.noKw hD
 obtain ⟨a,vs,ns,rfl,rfl,hobj,hints,hlen⟩:=zsj hn hpre hwl
 refine enter_call (codeAny_mono (call w s₀ s₁ mg mb fa o pm cd doc a vs ns G Y ho (fd_plain hd) hcd hmg hobj hints hlen hg) fun r s' hq=>?_)
 obtain ⟨rfl,h2,h3,h4⟩:=hq
 exact ⟨.inl ⟨.bool true,.bool true,[],rfl,fun _=>rfl,.bool true,zqt l _,fun _=>⟨List.Pairwise.nil,fun _ hm=>(nomatch hm)⟩⟩,h2,h3,h4⟩
section
variable {prog:Program} {w:World} {A:Around} {E:Value→Shared→Prop} {s:Shared} {K:Frag}
end
end Att
namespace L2
open PySem PySem.Spec PyProof.Rows
theorem zgb:∀ {vs:List Value} {ns:List Int},IntsAre vs ns→zc2 (ns.map V.int) vs
 | _,_,.nil=> .nil
 | _,_,.cons n t h=> .cons ⟨t,rfl⟩ (zgb h)
end L2
namespace L2
open PySem PySem.Spec PyProof.Rows
end L2
namespace L2
open PySem PySem.Spec PyProof.Rows
def zaa (s:Stmt) (j:Nat):Stmt:=match s with
 | .ClassDef _ _ _ body _ _ _ _ _ _ _=>body.getD j (.Pass ⟨0,0,0,0⟩)
 | _=> .Pass ⟨0,0,0,0⟩
def za4 (s:Stmt):Arguments:=match s with
 | .FunctionDef _ a _ _ _ _ _ _ _ _=>a
 | _=>{ posonlyargs:=[],args:=[],vararg:=none,kwonlyargs:=[],kw_defaults:=[],kwarg:=none,defaults:=[] }
def za0 (s:Stmt):List Stmt:=match s with
 | .FunctionDef _ _ b _ _ _ _ _ _ _=>b
 | _=>[]
def zai (s:Stmt):Scope:=match s with
 | .FunctionDef _ _ _ _ _ _ sc _ _ _=>sc
 | _=>{ kind:= .function,names:=[],isGenerator:=false,isCoroutine:=false }
abbrev CX0:CXT:=fun _ _ _ _ _ _=>False
abbrev E0:XK:=fun _ _ _=>False
theorem zbm {X:Cx}:zjc CX0 X E0:=fun _ _ _ _ _ _ _ h=>h.elim
structure Fun (K:PySem.W.Frag) (x qual:Str) (st:Stmt) (f:Addr) (fd:FuncData):Prop where
 ex:∃ (oc:Value) (od:Option Addr) (kV doc pm:Value) (an:Option Addr) (cdv ct:Value) (osl:Array (Option Value)),
  fd=PySem.W.fnOf x qual (za4 st) (za0 st) (zai st) .none kV doc pm an cdv ct∧K.lookup f=some ⟨oc,od,.func fd,osl⟩∧PySem.W.codeIn K cdv qual=true
 kp:PySem.W.keepIn K (.ref f)=true
section
variable {P:Program} {w:World} {K:PySem.W.Frag} {mg:Str→Option Value} {base:Heap}
theorem Fun.ok {x qual:Str} {st:Stmt} {f:Addr} {fd:FuncData} {N ps:List Str} {k:Nat} {sp:Sp} (F:Fun K x qual st f fd) (S:za3 N ps (zai st)) (len:∀ vs H Q E,sp vs H Q E→vs.length=ps.length)
  (hbody:∀ (cdv:Value) (A:Around) (outer:List Env) (s:Shared) (H:Hp) (vs:List V) (Q:VK) (E:XK),zfy k (A.deeper (envOfC qual (zai st) s.heap.objs.size f cdv))→sp vs H Q E →
   ∃ t,PSs (zkz CX0 P w K mg base N qual (zai st) f cdv A outer s H E).nox (za0 st) t∧t { nx:=fun _ H'=>Q .non H',rt:=Q } (start N vs) H):zbe P w K mg base CX0 (k+1) f fd ps sp:=by
 obtain ⟨oc,od,kV,doc,pm,an,cdv,ct,osl,rfl,lk,hcd⟩:=F.ex
 refine zs4 lk hcd S len fun A outer s H vs Q E hr hsp=>?_
 obtain ⟨t,h,q⟩:=hbody cdv A outer s H vs Q E hr hsp
 exact ⟨t,h.nox,q⟩
theorem Fun.binds {x qual:Str} {st:Stmt} {f:Addr} {fd:FuncData} {ps:List Str} (F:Fun K x qual st f fd)
  (h:∀ (kV doc pm:Value) (an:Option Addr) (cdv ct:Value) (us:List Value),us.length=ps.length→bindArgs (PySem.W.fnOf x qual (za4 st) (za0 st) (zai st) .none kV doc pm an cdv ct) ⟨us,[]⟩=pure (ps.zip us)):zex K fd ps []:=by
 obtain ⟨oc,od,kV,doc,pm,an,cdv,ct,osl,rfl,lk,hcd⟩:=F.ex
 exact .all (h kV doc pm an cdv ct)
theorem zay {x qual:Str} {st:Stmt} {f:Addr} {oc:Value} {od an:Option Addr} {osl:Array (Option Value)} {kV doc pm cdv ct:Value} (l:K.lookup f=some ⟨oc,od,.func (PySem.W.fnOf x qual (za4 st) (za0 st) (zai st) .none kV doc pm an cdv ct),osl⟩)
  (c:PySem.W.codeIn K cdv qual=true) (k:PySem.W.keepIn K (.ref f)=true):Fun K x qual st f (PySem.W.fnOf x qual (za4 st) (za0 st) (zai st) .none kV doc pm an cdv ct):=⟨⟨oc,od,kV,doc,pm,an,cdv,ct,osl,rfl,l,c⟩,k⟩
end
theorem zcj {A:Around} {k:Nat} (hr:zfy k A):A.units+1<cLine:=Nat.lt_of_le_of_lt (Nat.add_le_add_left (by decide:1≤64) _) hr.units
theorem zbu {n:Nat} (h:n≤1000):n<sizeLine:=Nat.lt_of_le_of_lt h (by decide)
section
variable {X:Cx}
theorem pv (i:Nat) {x:Str} {pos:Pos} (hN:X.N[i]? = some x:=by rfl) (hv:Vis X.env.scope x:=by first | exact Or.inl rfl | exact Or.inr (Or.inl rfl) | exact Or.inr (Or.inr rfl)) (hd:(x == ("__debug__" : Str))=false:=by decide)
  (hcd:(x == ("__classdict__" : Str))=false:=by decide):PE X (.Name x pos) (zy2 i):=zyp hN hv hd hcd
end
theorem zw4 {A B:Prop} (h:B):if false=true then A else B:=by
 rw [if_neg Bool.false_ne_true]
 exact h
theorem zxu {A B:Prop} (h:A):if true=true then A else B:=by
 rw [if_pos rfl]
 exact h
theorem zzb {c A B:Prop} [Decidable c] (h1:c→A) (h2:¬ c→B):if c then A else B:=by
 by_cases h:c
 ·rw [if_pos h]
  exact h1 h
 ·rw [if_neg h]
  exact h2 h
theorem zzm {c A B:Prop} [Decidable c] (hc:c) (h:B):if (!decide c)=true then A else B:=by
 rw [decide_eq_true hc]
 exact zw4 h
def zbf (H H':Hp):Prop:=∀ b o,H b=some o→H' b=some o
theorem zbf.refl (H:Hp):zbf H H:=fun _ _ h=>h
theorem zbf.trans {H H1 H2:Hp} (a:zbf H H1) (b:zbf H1 H2):zbf H H2:=fun c o h=>b c o (a c o h)
theorem zbf.free {H H':Hp} (e:zbf H H') {l:Addr} (h:H' l=Option.none):H l=Option.none:=by
  cases q:H l with
  | none=>rfl
  | some o =>
    rw [e l o q] at h
    cases h
theorem zbf.seq {K:PySem.W.Frag} {H H':Hp} {a:Addr} {xs:List V} (e:zbf H H') (h:SqL K H a xs):SqL K H' a xs:=by
 rcases h with (h | ⟨o,h⟩) | h
 ·exact .inl (.inl (e _ _ h))
 ·exact .inl (.inr ⟨o,e _ _ h⟩)
 ·exact .inr h
end L2
namespace L2
open PySem PySem.Spec PyProof.Rows
structure Df (K:PySem.W.Frag) (mg:Str→Option Value) (x:Str) (st:Stmt) (ps:List Str) where
 f:Addr
 fd:FuncData
 fn:Fun K x x st f fd
 hm:mg x=some (.ref f)
 b:zex K fd ps []
section
variable {X:Cx} {x:Str} {st:Stmt} {ps:List Str} {k:Nat} {sp:Sp} {p pos:Pos} {e:Expr} {es:List Expr} {t:TA}
end
theorem zjs:bootBuiltins "len" = some (.builtin "len"):=by decide +kernel
theorem zb9:bootBuiltins "isinstance" = some (.builtin "isinstance"):=by decide +kernel
theorem zd7:bootBuiltins "sorted" = some (.builtin "sorted"):=by decide +kernel
theorem zu0:bootBuiltins "sum" = some (.builtin "sum"):=by decide +kernel
theorem zu7:bootBuiltins "int" = some (.type "int"):=by decide +kernel
theorem zq3:bootBuiltins "bool" = some (.type "bool"):=by decide +kernel
theorem zof:bootBuiltins "list" = some (.type "list"):=by decide +kernel
section
variable {X:Cx} {x:Str} {pos:Pos}
theorem zsp {T:String} (hg:Gl X x) (hm:X.mg x=none) (hv:bootBuiltins x=some (.type T)) (hn:x≠ "__name__" :=by decide) (hd:(x == ("__debug__" : Str))=false:=by decide):PE X (.Name x pos) (tC (.ty T)) :=
 zwf hg hm hv rfl hn hd
theorem zi2:zgy X (.builtin "isinstance") (fun xs H Q=>∃ x T t b,xs=[x,.ty T]∧zj3 X.K H x t∧PySem.W.kitOne X.K t (.type T)=some b∧Q (.bl b) H):=by
 intro pins s σ H xs us Q I r h
 obtain ⟨x,T,t,b,rfl,ty,e,q⟩:=h
 obtain ⟨u,w',rfl,r1,r2⟩:=zxg r
 cases (show w'=Value.type T from r2)
 exact zrd I r1 ty e fun tk=>⟨.bl b,H,I.tok _,rfl,q⟩
end
theorem zn6 (K:PySem.W.Frag):PySem.W.kitOne K (.type "int") (.type "int")=some true:=by kernel_rfl
theorem zl0 (K:PySem.W.Frag):PySem.W.kitOne K (.type "int") (.type "bool")=some false:=by kernel_rfl
theorem zk6 (K:PySem.W.Frag):PySem.W.kitOne K (.type "bool") (.type "bool")=some true:=by kernel_rfl
theorem zl4 (K:PySem.W.Frag):PySem.W.kitOne K (.type "bool") (.type "int")=some true:=by kernel_rfl
theorem zln (K:PySem.W.Frag):PySem.W.kitOne K (.type "list") (.type "list")=some true:=by kernel_rfl
theorem zju (K:PySem.W.Frag):PySem.W.kitOne K (.type "tuple") (.type "tuple")=some true:=by kernel_rfl
theorem zoq (K:PySem.W.Frag):PySem.W.kitOne K (.type "str") (.type "str")=some true:=by kernel_rfl
theorem zjg (K:PySem.W.Frag):PySem.W.kitOne K (.type "str") (.type "int")=some false:=by kernel_rfl
theorem zij (K:PySem.W.Frag):PySem.W.kitOne K (.type "NoneType") (.type "int")=some false:=by kernel_rfl
theorem zni (K:PySem.W.Frag):PySem.W.kitOne K (.type "NoneType") (.type "str")=some false:=by kernel_rfl
theorem zod (K:PySem.W.Frag):PySem.W.kitOne K (.type "int") (.type "str")=some false:=by kernel_rfl
theorem zmh (K:PySem.W.Frag):PySem.W.kitOne K (.type "bool") (.type "str")=some false:=by kernel_rfl
theorem zl_ (K:PySem.W.Frag):PySem.W.kitOne K (.type "list") (.type "str")=some false:=by kernel_rfl
theorem zis (K:PySem.W.Frag):PySem.W.kitOne K (.type "list") (.type "int")=some false:=by kernel_rfl
theorem zlg (K:PySem.W.Frag):PySem.W.kitOne K (.type "tuple") (.type "str")=some false:=by kernel_rfl
theorem zhm (K:PySem.W.Frag):PySem.W.kitOne K (.type "tuple") (.type "int")=some false:=by kernel_rfl
theorem zmc (K:PySem.W.Frag):PySem.W.kitOne K (.type "dict") (.type "str")=some false:=by kernel_rfl
theorem zir (K:PySem.W.Frag):PySem.W.kitOne K (.type "dict") (.type "int")=some false:=by kernel_rfl
section
variable {X:Cx} {pins:List (Addr × Obj)} {σ:St} {H:Hp} {s:Shared} {h':Heap}
theorem Inv.turnN {t':Nat} {ch:List Addr} (I:Inv X pins σ H s) (k:∀ b u,b∉ch→s.heap.get? b=some u→h'.get? b=some u) (hf:∀ b∈ch,zp_ X pins H b):Inv X pins σ H { s with heap:=h',toks:=t' }:=by
 have nch:∀ b u,H b=some u→b∉ch:=fun b u e z=>by rw [(hf b z).1] at e; cases e
 refine I.step (g':=s.gens) (d':=s.drawn) (ch:=ch) (fun b hb=>?_) (fun b u _ _ hc e _=>k b u hc e) (fun b u _ _ hc e _=>⟨u.slots,k b u hc e⟩) (fun _ _ _ _ n=>n)
  (fun b u hc e=>⟨u,k b u hc e⟩) (fun _ _ e=>e) (fun _ _ _ e=>e) (fun b ps e=>⟨#[],by rw [e]; simp⟩) (fun m hm=>?_) (fun b u e=>?_) I.bare
 ·obtain ⟨f0,f1,f2,f3,f4,f5⟩:=hf b hb
  exact ⟨f3,f1,f4,f5⟩
 ·obtain ⟨u,es,ep,ho,r⟩:=hm
  exact ⟨u,es,ep,k _ u (fun z=>(hf _ z).2.1 rfl) ho,r⟩
 ·refine (I.hok b u e).stay (fun c v hc q=>k c v ?_ q) (fun _ q=>q) fun _ _ q=>q
  rcases hc with z | z
  ·rw [z]
   exact nch b u e
  ·exact nch c _ z
end
theorem zkn {c A B:Prop} [Decidable c] (hc:c) (h:A):if decide c=true then A else B:=by
 rw [decide_eq_true hc]
 exact zxu h
theorem zfv {c A B:Prop} [Decidable c] (hc:¬ c) (h:B):if decide c=true then A else B:=by
 rw [decide_eq_false hc]
 exact zw4 h
theorem zbf.lay {H H':Hp} {p:Addr} {o:HO} (h:zbf H H') (hp:H' p=none):zbf H (upd H' p o):=fun b u e=>by
 rw [zal (zap (h b u e) hp)]
 exact h b u e
theorem zbf.new (H:Hp) {p:Addr} {o:HO} (hp:H p=none):zbf H (upd H p o):=(zbf.refl H).lay hp
end L2
namespace L2
open PySem PySem.Spec PyProof.Rows
def zea (X:Cx) (N':List Str) (scope:Scope) (cl:List (Str × Addr)) (C:Addr) (s:Shared) (H:Hp) (fp:List Addr):Cx where
 prog:=X.prog
 w:=X.w
 K:=X.K
 mg:=X.mg
 base:=X.base
 A:=X.A
 N:=N'
 s₀:=s
 H₀:=H
 env:=compEnvC scope cl C X.env
 outer:=X.stack
 stack:=X.stack
 ex:=fp
 fn:=fun _=>false
 calm:=X.calm
 pn:=[]
 xe:=fun _ _=>False
def PTs (X:Cx) (ifs:List Expr) (t:TT):Prop :=
 ∀ (pins:List (Addr × Obj)) (s:Shared) (σ:St) (H:Hp) (Q:Bool→Hp→Prop),Inv X pins σ H s→t σ H Q →
  wpAny (model X.prog X.w) X.A (forIn ifs true fun c r=>if r=true then do let ok ← isTrue c X.env (eval c X.env); pure (ForInStep.yield ok) else pure (ForInStep.yield r)) (TP X pins σ Q) X.xe s
def z0s:TT:=fun _ H Q=>Q true H
theorem zq2 {X:Cx}:PTs X [] z0s:=fun pins s σ H Q I h=>wpAny_pure ⟨H,I,h⟩
theorem zh9 {X:Cx} {c:Expr} {t:TT} (hc:PT X c t):PTs X [c] t:=fun pins s σ H Q I h=>by
 show wpAny _ _ (forIn [c] true _) _ _ s
 rw [List.forIn_cons]
 rw [if_pos rfl]
 refine wpAny_bind (wpAny_bind (thn (hc pins s σ H Q I h) fun b s1 h1=>wpAny_pure ?_))
 exact wpAny_pure h1
theorem zgp {env:Env}:∀ (names:List (Str × NameKind)) (acc:List (Str × Addr)),
    (∀ y∈names,y.2 = .free→∃ c,env.cells.lookup y.1=some c)→(∀ x c,acc.lookup x=some c→env.cells.lookup x=some c) →
    ∃ cl,(forIn names acc fun (x:Str × NameKind) cs=>if (x.2 == NameKind.free)=true then (do let a ← cellOf env x.1; pure (ForInStep.yield ((x.1,a) :: cs))) else pure (ForInStep.yield cs):Sem (List (Str × Addr)))=pure cl ∧
      (∀ x c,cl.lookup x=some c→env.cells.lookup x=some c)∧(∀ y∈names,y.2 = .free→∃ c,cl.lookup y.1=some c)∧(∀ x c,acc.lookup x=some c→cl.lookup x=some c)
  | [],acc,_,ha=>⟨acc,rfl,ha,fun y hy=>(nomatch hy),fun _ _ h=>h⟩
  | (n,k) :: r,acc,hn,ha=>by
    rw [List.forIn_cons]
    by_cases hk:k = .free
    · obtain ⟨c,hc⟩:=hn (n,k) List.mem_cons_self hk
      have ha':∀ x d,((n,c) :: acc).lookup x=some d→env.cells.lookup x=some d:=fun x d h=>by
        rw [List.lookup_cons] at h
        by_cases e:(x == n)=true
        · rw [e] at h
          have e':=beq_iff_eq.mp e
          cases h
          rw [e']
          exact hc
        · rw [Bool.eq_false_iff.mpr e] at h
          exact ha x d h
      obtain ⟨cl,e1,h1,h2,h3⟩:=zgp r ((n,c) :: acc) (fun y hy=>hn y (List.mem_cons_of_mem _ hy)) ha'
      refine ⟨cl,?_,h1,fun y hy hf=>?_,fun x d h=>?_⟩
      · rw [if_pos (by rw [hk]; rfl)]
        show ((cellOf env n >>= fun a=>pure (ForInStep.yield ((n,a) :: acc))) >>= _)=_
        have hco:cellOf env n=pure c:=by unfold cellOf; rw [hc]
        rw [hco,pure_bind,pure_bind]
        exact e1
      · rcases List.mem_cons.mp hy with rfl | hy
        · exact ⟨c,h3 n c (by rw [List.lookup_cons]; simp)⟩
        · exact h2 y hy hf
      · by_cases e:(x == n)=true
        · have e':=beq_iff_eq.mp e
          subst e'
          have:=ha x d h
          rw [hc] at this
          cases this
          exact h3 x c (by rw [List.lookup_cons]; simp)
        · exact h3 x d (by rw [List.lookup_cons,Bool.eq_false_iff.mpr e]; exact h)
    · obtain ⟨cl,e1,h1,h2,h3⟩:=zgp r acc (fun y hy=>hn y (List.mem_cons_of_mem _ hy)) ha
      refine ⟨cl,?_,h1,fun y hy hf=>?_,h3⟩
      · rw [if_neg (by simpa using hk),pure_bind]
        exact e1
      · rcases List.mem_cons.mp hy with rfl | hy
        · exact absurd hf hk
        · exact h2 y hy hf
theorem zhj {scope:Scope} {env:Env} (hn:∀ y∈scope.names,y.2 = .free→∃ c,env.cells.lookup y.1=some c) :
  ∃ cl,closureFor scope env=pure cl∧(∀ x c,cl.lookup x=some c→env.cells.lookup x=some c)∧∀ y∈scope.names,y.2 = .free→∃ c,cl.lookup y.1=some c:=by
 obtain ⟨cl,e1,h1,h2,_⟩:=zgp (env:=env) scope.names [] hn (fun x c h=>by cases h)
 refine ⟨cl,?_,h1,h2⟩
 unfold closureFor
 rw [← e1,bind_pure]
theorem zns {prog:Program} {w:World} {A:Around} {R:Result→Shared→Prop} {s:Shared} {elt target iter:Expr} {ifs:List Expr} {scope:Scope} {pos:Pos} {it acc:Value} {env:Env} (I:Nat→Shared→Prop)
    (turn:∀ n s,I n s→wpAny (model prog w) A (pyNext it) (fun r s₁=>match r with
      | none=>R (.ok .next) s₁
      | some v=>wpAny (model prog w) A (letOwnedTupleGo target it v) (fun _ s₁=>wpAny (model prog w) A (assign target env v) (fun _ s₂ =>
          wpAny (model prog w) A (forIn ifs true fun c r=>if r=true then do let ok ← isTrue c env (eval c env); pure (ForInStep.yield ok) else pure (ForInStep.yield r)) (fun ok s₃ =>
            if ok=true then wpAny (model prog w) A (eval elt env) (fun x s₄ =>
              wpAny (model prog w) A (call (.builtin "list.append") [acc,x]) (fun _ s₅=>∃ m,m<n∧I m s₅) (fun _ _=>False) s₄) (fun _ _=>False) s₃
            else ∃ m,m<n∧I m s₃) (fun _ _=>False) s₂) (fun _ _=>False) s₁) (fun _ _=>False) s₁) (fun _ _=>False) s)
    (n:Nat) (h:I n s) :
    codeAny (model prog w) A (.compLoop (.ListComp elt [⟨target,iter,ifs,0⟩] scope pos) 0 it acc env) R s:=by
  refine codeAny_loop rfl I (fun n s hI=>?_) n h
  show wpAny _ A ((compTurn (.ListComp elt [⟨target,iter,ifs,0⟩] scope pos) 0 it acc env).onRaise (fun x=>do noteFrame x env; theTreesLotGoes x)) _ _ s
  refine wpAny_noted ?_
  rw [compTurn_list]
  have ff:∀ {E:Value→Shared→Prop} (v:Value) (s:Shared),False→E v s:=fun _ _ z=>z.elim
  refine wpAny_bind (wpAny_standAt (wpAny_bind (wpAny_mono (turn n s hI) (fun r s₁ h₁=>?_) ff)))
  cases r with
  | none=>exact wpAny_pure h₁
  | some v =>
    refine wpAny_bind (wpAny_mono h₁ (fun _ s₁' h₁'=>?_) ff)
    refine wpAny_bind (wpAny_mono h₁' (fun _ s₂ h₂=>wpAny_bind (wpAny_mono h₂ (fun ok s₃ h₃=>?_) ff)) ff)
    cases ok with
    | false=>exact wpAny_pure ⟨rfl,h₃⟩
    | true =>
      exact wpAny_bind (wpAny_bind (wpAny_mono h₃ (fun x s₄ h₄=>wpAny_bind (wpAny_mono h₄ (fun _ s₅ h₅=>wpAny_pure (wpAny_pure ⟨rfl,h₅⟩)) ff)) ff))
def ztd (J:It) (g:TG) (tc:TT) (te:TE) (Q:VK) (D:Addr) (σ:St) (H:Hp):Prop:=∃ W:Nat→Nat→St→Hp→Prop,(∃ m,W 0 m σ H)∧∀ i m σ' H',W i m σ' H' →
 (J.stop i H'∧Q (.ref D) H')∨(J.go i H'∧∃ N:St→Hp→Prop,(∀ σ2 H2,N σ2 H2→∃ m',m'<m∧W (i+1) m' σ2 H2)∧∀ x H2,J.yld i H' x H2→g x σ' H2 fun σ3 H3=>tc σ3 H3 fun b H4 =>
  if b=true then te σ3 H4 fun y H5=>∃ acc,H5 D=some (.lst acc)∧acc.length<sizeLine∧N σ3 (upd H5 D (.lst (acc++[y]))) else N σ3 H4)
def zve (wi:TI) (g:TG) (tc:TT) (te:TE) (cp:St→St):TE:=fun σ H Q=>wi σ H fun J H1=>∀ D,H1 D=none→ztd J g tc te Q D (cp σ) (upd H1 D (.lst []))
def zs2 (k:Nat) (caps:List Nat):St→St:=fun σ=>List.replicate k none++caps.map fun i=>σ.getD i none
structure zhe (X:Cx) (scope:Scope) (own:List Str) (caps:List Nat) (N':List Str):Prop where
 kind:scope.kind = .function
 nocell:∀ y∈scope.names,y.2≠ .cell
 names:∀ y∈scope.names,y.2 = .local→scope.names.lookup y.1=some .local
 free:∀ y∈scope.names,y.2 = .free→X.env.kindOf y.1=some .cell∨X.env.kindOf y.1=some .free
 hN:N'=own++caps.filterMap fun i=>X.N[i]?
 cap:∀ i∈caps,i<X.N.length
 capk:∀ i∈caps,∀ x,X.N[i]? = some x→scope.names.lookup x=some .free
 look:∀ x,(relabel scope X.env).names.lookup x=some .cell∨(relabel scope X.env).names.lookup x=some .free→(x,NameKind.free)∈scope.names
theorem zii {env:Env}:∀ {names:List (Str × NameKind)} {x:Str},names.lookup x=some .free →
    (names.map fun (n,k)=>if (k == NameKind.free && env.scope.kind == .function && env.kindOf n == some .cell) then (n,NameKind.cell) else (n,k)).lookup x≠some .local
  | [],_,h=>by simp at h
  | (n,k) :: r,x,h=>by
    have ih:=@zii env r x
    show List.lookup x ((if (k == NameKind.free && env.scope.kind == .function && env.kindOf n == some .cell)=true then (n,NameKind.cell) else (n,k)) :: _)≠_
    cases hx:x == n with
    | true =>
      simp only [List.lookup_cons,hx] at h
      cases h
      by_cases hc:(NameKind.free == NameKind.free && env.scope.kind == .function && env.kindOf n == some .cell)=true
      · rw [if_pos hc]; simp [List.lookup_cons,hx]
      · rw [if_neg hc]; simp [List.lookup_cons,hx]
    | false =>
      simp only [List.lookup_cons,hx] at h
      by_cases hc:(k == NameKind.free && env.scope.kind == .function && env.kindOf n == some .cell)=true
      · rw [if_pos hc]; simp only [List.lookup_cons,hx]; exact ih h
      · rw [if_neg hc]; simp only [List.lookup_cons,hx]; exact ih h
section
variable {X:Cx} {scope:Scope} {own N':List Str} {caps:List Nat}
theorem zhr {α:Type} (N:List α):∀ (caps:List Nat),(∀ i∈caps,i<N.length)→∀ (j:Nat) (x:α),(caps.filterMap fun i=>N[i]?)[j]? = some x→∃ i,caps[j]? = some i∧N[i]? = some x
  | [],_,j,x,h=>by simp at h
  | a :: r,hc,j,x,h=>by
    have ha:=hc a List.mem_cons_self
    rw [List.filterMap_cons,List.getElem?_eq_getElem ha] at h
    cases j with
    | zero=>exact ⟨a,rfl,by rw [List.getElem?_eq_getElem ha]; simpa using h⟩
    | succ j =>
      obtain ⟨i,h1,h2⟩:=zhr N r (fun i hi=>hc i (List.mem_cons_of_mem _ hi)) j x (by simpa using h)
      exact ⟨i,by simpa using h1,h2⟩
theorem zhl {α:Type} (N:List α):∀ (caps:List Nat),(∀ i∈caps,i<N.length)→(caps.filterMap fun i=>N[i]?).length=caps.length
  | [],_=>rfl
  | a :: r,hc=>by
    have ha:=hc a List.mem_cons_self
    rw [List.filterMap_cons,List.getElem?_eq_getElem ha]
    simp [zhl N r fun i hi=>hc i (List.mem_cons_of_mem _ hi)]
theorem Inv.enterComp {pins:List (Addr × Obj)} {σ:St} {H:Hp} {s:Shared} {cl:List (Str × Addr)} {fp:List Addr} {h1:Heap} {tk:Nat} (I:Inv X pins σ H s) (T:zhe X scope own caps N')
    (hcl:∀ x c,cl.lookup x=some c→X.env.cells.lookup x=some c) (hcl2:∀ y∈scope.names,y.2 = .free→∃ c,cl.lookup y.1=some c)
    (hf:∀ b∈fp,zp_ X pins H b) (hfo:∀ b∈fp,∃ o,s.heap.get? b=some o) (hns:h1.Ns s.heap.objs.size (fun _=>none)) (hk:∀ b o,s.heap.get? b=some o→h1.get? b=some o) :
    Inv (zea X N' scope cl s.heap.objs.size s H fp) [] (zs2 own.length caps σ) H { s with heap:=h1,toks:=tk }:=by
  have lenN:N'.length=own.length+caps.length:=by rw [T.hN,List.length_append,zhl _ _ T.cap]
  refine ⟨⟨I.ok.mod,?_,I.ok.glob,I.ok.blt,Nat.le_refl _,fun x y c h1 h2=>I.ok.inj x y c (hcl x c h1) (hcl y c h2),fun x hx=>?_,fun x c h=>absurd h Bool.false_ne_true,I.ok.hd,I.ok.frames,.inl rfl,
      fun b hb=>⟨?_,fun x c e=>(hf b hb).2.2.2.2.1 x c (hcl x c e)⟩,fun b o e=>I.bs b o e,Nat.le_trans I.ok.bsz I.sz,fun b o e hb=>?_,fun b hb z=>?_,I.stack,I.stkFree⟩,
    rfl,I.bare,Un.kept hk,⟨_,hns,fun i x v e1 e2 e3=>?_⟩,fun x c e=>?_,I.hok.fresh (Nat.le_refl _),fun x c e=>⟨fun z=>absurd z Bool.false_ne_true,(I.freeC x c (hcl x c e)).2⟩,fun p hp=>absurd (show p∈([]:List (Addr × Obj)) from hp) (by simp),I.hok.kept hk,?_⟩
  · show (relabel scope X.env).kind = .function
    exact T.kind
  · exact hcl2 (x,.free) (T.look x hx) rfl
  · obtain ⟨o,e⟩:=hfo b hb
    exact Nat.ne_of_lt (Heap.lt_size e)
  · rcases (hf b hb).2.2.2.1 with z | z
    · exact I.ok.noex b o e z
    · exact absurd (Nat.lt_of_lt_of_le (Heap.lt_size e) (Nat.le_trans I.ok.bsz z)) (Nat.lt_irrefl _)
  · rcases List.mem_cons.mp (I.stkSub b z) with q | q
    · exact (hf b hb).2.1 q
    · exact (hf b hb).2.2.1 q
  · -- the values of the block's names
    have e1':N'[i]? = some x:=e1
    rw [T.hN] at e1'
    have e2':(zs2 own.length caps σ)[i]? = some (some v):=e2
    unfold zs2 at e2'
    by_cases hi:i<own.length
    · rw [List.getElem?_append_left (by simpa using hi),List.getElem?_replicate,if_pos hi] at e2'
      cases e2'
    · rw [List.getElem?_append_right (by simpa using hi),List.length_replicate] at e2'
      rw [List.getElem?_append_right (by omega)] at e1'
      obtain ⟨j,hj,hx⟩:=zhr X.N caps T.cap _ _ e1'
      rw [List.getElem?_map,hj] at e2'
      have e3':σ.getD j none=some v:=Option.some.inj e2'
      have hs:σ[j]? = some (some v):=by
        rw [List.getD_eq_getElem?_getD] at e3'
        cases q:σ[j]? with
        | none =>
          rw [q] at e3'
          cases e3'
        | some z =>
          rw [q] at e3'
          have:z=some v:=e3'
          rw [this]
      have hfree:=T.capk j (List.mem_of_getElem? hj) x hx
      have hmem:(x,NameKind.free)∈scope.names:=PySem.mem_of_lookup hfree
      have hkd:=T.free _ hmem rfl
      obtain ⟨m,hn,hl⟩:=I.loc
      obtain ⟨u,r,l⟩:=hl j x v hx hs (by
        rcases hkd with z | z
        · exact .inr (.inl z)
        · exact .inr (.inr z))
      rcases l with ⟨q,_⟩ | ⟨_,c,hc,hcell⟩
      · rcases hkd with z | z
        · rw [show X.env.kindOf x=some .local from q] at z; cases z
        · rw [show X.env.kindOf x=some .local from q] at z; cases z
      · obtain ⟨c',hc'⟩:=hcl2 _ hmem rfl
        have hc2:=hcl x c' hc'
        rw [hc] at hc2
        cases hc2
        refine ⟨u,r,.inr ⟨?_,c,hc',?_⟩⟩
        · rcases e3 with z | z | z
          · -- a free name does not become local
            exfalso
            have:(relabel scope X.env).names.lookup x=some .local:=z
            rw [show (relabel scope X.env).names=scope.names.map fun (n,k)=>if (k == .free && X.env.scope.kind == .function && X.env.kindOf n == some .cell) then (n,.cell) else (n,k) from rfl] at this
            exact absurd this (zii hfree)
          · exact .inl z
          · exact .inr z
        · obtain ⟨o,ho,hd⟩:=hcell
          exact ⟨o,hk _ _ ho,hd⟩
  · obtain ⟨v,o,ho,hd⟩:=I.cell x c (hcl x c e)
    exact ⟨v,o,hk _ _ ho,hd⟩
  · show (zs2 own.length caps σ).length=N'.length
    rw [lenN]
    unfold zs2
    simp
theorem Inv.leaveComp {pins pins':List (Addr × Obj)} {σ σ':St} {H H':Hp} {s s':Shared} {cl:List (Str × Addr)} {fp:List Addr} {h2:Heap} (I:Inv X pins σ H s) (hf:∀ b∈fp,zp_ X pins H b)
  (J:Inv (zea X N' scope cl s.heap.objs.size s H fp) pins' σ' H' s') (hs:Heap.SameBut s.heap.objs.size s'.heap h2):Inv X pins σ H' { s' with heap:=h2 }:=by
 have fr:H' s.heap.objs.size=none:=J.free
 have ne:∀ b o,s.heap.get? b=some o→b≠s.heap.objs.size:=fun b o e=>Nat.ne_of_lt (Heap.lt_size e)
 have U:Un (frs X.stack) fp H H' s.heap s'.heap:=J.base
 refine I.call' (s':={ s' with heap:=h2 }) (ch:=fp) J.os ⟨fun b o e n hb hx=>(hs.2 b (ne b o e)).trans (U.keep b o e n hb hx),fun b o e n hb hx=>?_,U.free,fun b o e hx=>?_,U.tups,U.frzs,U.tbls⟩ (fun a o e=>?_) J.bare fun b hb=>?_
 ·obtain ⟨sl,q⟩:=U.slot b o e n hb hx
  exact ⟨sl,(hs.2 b (ne b o e)).trans q⟩
 ·obtain ⟨o',q⟩:=U.there b o e hx
  exact ⟨o',(hs.2 b (ne b o e)).trans q⟩
 ·refine (J.hok a o e).stay (fun b u hb q=>(hs.2 b ?_).trans q) (fun _ q=>q) fun _ _ q=>q
  intro z
  rcases hb with hb | hb
  ·rw [← hb,z,fr] at e
   cases e
  ·rw [z,fr] at hb
   cases hb
 ·obtain ⟨f0,f1,f2,f3,f4,f5⟩:=hf b hb
  exact ⟨f3,f1,f4,f5⟩
theorem zm2 {elt tg iter:Expr} {ifs:List Expr} {pos:Pos} {wi:TI} {g:TG} {tc:TT} {te:TE} (hc:X.calm=true) (T:zhe X scope own caps N') (hi:PI X tg iter wi)
    (hg:∀ cl C s H fp,PG (zea X N' scope cl C s H fp) tg g) (ht:∀ cl C s H fp,PTs (zea X N' scope cl C s H fp) ifs tc) (he:∀ cl C s H fp,PE (zea X N' scope cl C s H fp) elt te)
    {pins:List (Addr × Obj)} {σ:St} {H:Hp} {s:Shared} {Q:VK} (I:Inv X pins σ H s) (h:zve wi g tc te (zs2 own.length caps) σ H Q) {cl:List (Str × Addr)}
    (hcl:∀ x c,cl.lookup x=some c→X.env.cells.lookup x=some c) (hcl2:∀ y∈scope.names,y.2 = .free→∃ c,cl.lookup y.1=some c) {RR:Value→Addr→Result→Shared→Prop}
    (k:∀ {s3:Shared} {H3:Hp} {D:Addr} {fp:List Addr} {σ5:St} {H5:Hp} {s6:Shared},Inv X pins σ H3 s3→(∀ b∈fp,zp_ X pins H3 b)→Inv (zea X N' scope cl s3.heap.objs.size s3 H3 fp) [] σ5 H5 s6→Q (.ref D) H5→RR (.ref D) s3.heap.objs.size (.ok .next) s6) :
    wpAny (model X.prog X.w) X.A (eval iter X.env) (fun x s₁=>wpAny (model X.prog X.w) X.A (pyIter x) (fun it s₂=>wpAny (model X.prog X.w) X.A (newList []) (fun acc s₃ =>
      wpAny (model X.prog X.w) X.A (newFunctionEnv scope X.env.globals cl [] X.env.qual none .none (some X.env)) (fun cenv s₄ =>
        codeAny (model X.prog X.w) X.A (.compStart (.ListComp elt [⟨tg,iter,ifs,0⟩] scope pos) 0 it acc { cenv with scope:=relabel scope X.env }) (RR acc cenv.locals) s₄) X.xe s₃) X.xe s₂) X.xe s₁) X.xe s:=by
  refine thn (hi pins s σ H _ I h) fun xv s1 h1=>thn h1 fun itv s2 h2=>?_
  obtain ⟨it,fp,tn,J,H2,rfl,I2,TU,st2,f2,q2⟩:=h2
  have fo:∀ b∈fp,∃ o,s2.heap.get? b=some o:=fun b hb=>let ⟨o,e,_⟩:=TU.obj _ _ st2 b hb; ⟨o,e⟩
  obtain ⟨W,⟨m0,w0⟩,turn⟩:=q2 s2.heap.objs.size I2.fresh
  refine wpAny_newObj_type ?_
  have I3:Inv X pins σ (upd H2 s2.heap.objs.size (.lst [])) { s2 with heap:=s2.heap.push { cls:= .type "list",data:= .seq ([]:List Value).toArray } }:=I2.lnew (t':=s2.toks) .nil (Nat.zero_le _)
  generalize hs3:({ s2 with heap:=s2.heap.push { cls:= .type "list",data:= .seq ([]:List Value).toArray } }:Shared)=s3 at I3
  have k3:∀ b o,s2.heap.get? b=some o→s3.heap.get? b=some o:=fun b o e=>by rw [← hs3]; exact Heap.get?_push_of_some _ e
  have f3:∀ b∈fp,zp_ X pins (upd H2 s2.heap.objs.size (.lst [])) b:=fun b hb=>by
    obtain ⟨o,e⟩:=fo b hb
    exact ⟨by rw [zal (Nat.ne_of_lt (Heap.lt_size e))]; exact (f2 b hb).1,(f2 b hb).2⟩
  have fo3:∀ b∈fp,∃ o,s3.heap.get? b=some o:=fun b hb=>let ⟨o,e⟩:=fo b hb; ⟨o,k3 b o e⟩
  have st3:tn 0 s3.heap:=TU.keep _ _ _ st2 fun b hb o e=>k3 b o e
  show wpAny _ _ _ _ _ s3
  refine wpAny_newFunctionEnv T.nocell (fun y hy=>(nomatch hy)) (fun h4 hns hsb=>?_) T.kind
  have k4:∀ b o,s3.heap.get? b=some o→h4.get? b=some o:=fun b o e=>(hsb.2 b (Nat.ne_of_lt (Heap.lt_size e))).trans (Heap.get?_push_of_some _ e)
  have J4:Inv (zea X N' scope cl s3.heap.objs.size s3 (upd H2 s2.heap.objs.size (.lst [])) fp) [] (zs2 own.length caps σ) (upd H2 s2.heap.objs.size (.lst [])) { s3 with heap:=h4,toks:=s3.toks+0 } :=
    I3.enterComp T hcl hcl2 f3 fo3 hns k4
  have st4:tn 0 h4:=TU.keep _ _ _ st3 fun b hb o e=>k4 b o e
  have stat:∀ {H':Hp},(∀ b∈fp,H' b=none)→∀ b∈fp,zp_ (zea X N' scope cl s3.heap.objs.size s3 (upd H2 s2.heap.objs.size (.lst [])) fp) [] H' b:=fun hn b hb=>by
    obtain ⟨o,e⟩:=fo3 b hb
    refine ⟨hn b hb,Nat.ne_of_lt (Heap.lt_size e),fun z=>?_,.inl hb,fun x c q=>(f3 b hb).2.2.2.2.1 x c (hcl x c q),fun p hp=>absurd (show p∈([]:List (Addr × Obj)) from hp) (by simp)⟩
    rcases List.mem_cons.mp (I3.stkSub b z) with q | q
    · exact (f3 b hb).2.1 q
    · exact (f3 b hb).2.2.1 q
  have loop:codeAny (model X.prog X.w) X.A (.compLoop (.ListComp elt [⟨tg,iter,ifs,0⟩] scope pos) 0 (.ref it) (.ref s2.heap.objs.size) (compEnvC scope cl s3.heap.objs.size X.env))
      (RR (.ref s2.heap.objs.size) s3.heap.objs.size) { s3 with heap:=h4,toks:=s3.toks+0 }:=by
    refine zns (fun n s'=>∃ i σ' H',Inv (zea X N' scope cl s3.heap.objs.size s3 (upd H2 s2.heap.objs.size (.lst [])) fp) [] σ' H' s'∧tn i s'.heap∧(∀ b∈fp,H' b=none)∧W i n σ' H') ?_ m0
      ⟨0,_,_,J4,st4,fun b hb=>(f3 b hb).1,w0⟩
    rintro n s5 ⟨i,σ5,H5,I5,st5,fr5,w5⟩
    rcases turn i n σ5 H5 w5 with ⟨stop,qn⟩ | ⟨go,N,hN,step⟩
    · refine thn (TU.done (zea X N' scope cl s3.heap.objs.size s3 (upd H2 s2.heap.objs.size (.lst [])) fp) rfl rfl rfl hc i [] s5 σ5 H5 (fun _ _=>False) I5 (stat fr5) st5 stop) fun r s6 ⟨hr,I6⟩=>?_
      subst hr
      exact k I3 f3 I6 qn
    · refine thn (TU.item (zea X N' scope cl s3.heap.objs.size s3 (upd H2 s2.heap.objs.size (.lst [])) fp) rfl rfl rfl hc i [] s5 σ5 H5 (fun _ _=>False) I5 (stat fr5) st5 go) fun r s6 ⟨u,hr,h6⟩=>?_
      subst hr
      refine thn h6 fun _ s7 ⟨x,H7,I7,r7,y7,st7,fr7⟩=>?_
      have I7':=I7.pinned (stat fr7) (TU.obj _ _ st7)
      have again:∀ {σ':St} {H':Hp} {s':Shared},Inv (zea X N' scope cl s3.heap.objs.size s3 (upd H2 s2.heap.objs.size (.lst [])) fp) ([]++zmb fp s7.heap) σ' H' s'→N σ' H' →
          ∃ m,m<n∧∃ i σ' H',Inv (zea X N' scope cl s3.heap.objs.size s3 (upd H2 s2.heap.objs.size (.lst [])) fp) [] σ' H' s'∧tn i s'.heap∧(∀ b∈fp,H' b=none)∧W i m σ' H':=fun {σ' H' s'} I' n'=>by
        obtain ⟨m',hm,w'⟩:=hN σ' H' n'
        refine ⟨m',hm,i+1,σ',H',I'.unpinned,TU.keep _ _ _ st7 fun b hb o e=>(I'.pin (b,o) (List.mem_append_right _ (List.mem_append_right _ (zgr hb e)))).1,fun b hb=>?_,w'⟩
        obtain ⟨o,e,d⟩:=TU.obj _ _ st7 b hb
        exact (I'.pin (b,o) (List.mem_append_right _ (List.mem_append_right _ (zgr hb e)))).2.1
      refine thn (hg _ _ _ _ _ _ s7 σ5 H7 x u _ I7' r7 (step x H7 y7)) fun _ s8 ⟨σ8,H8,I8,q8⟩=>?_
      refine thn (ht _ _ _ _ _ _ s8 σ8 H8 _ I8 q8) fun b s9 ⟨H9,I9,q9⟩=>?_
      cases b with
      | false =>
        rw [if_neg Bool.false_ne_true] at q9 ⊢
        exact again I9 q9
      | true =>
        rw [if_pos rfl] at q9 ⊢
        refine thn (he _ _ _ _ _ _ s9 σ8 H9 _ I9 q9) fun v s10 ⟨y,H10,I10,r10,acc,hD,hl,hn⟩=>?_
        refine thn (zf6 _ s10 σ8 H10 (.ref s2.heap.objs.size) [y] (.ref s2.heap.objs.size) [v] (fun _ H'=>N σ8 H') I10 rfl (.cons r10 .nil) ⟨_,acc,y,rfl,rfl,hD,hl,hn⟩) fun _ s11 ⟨_,H11,I11,_,n11⟩=>?_
        exact again I11 n11
  exact codeAny_compStart_list loop (TU.self _ 0 _ _ _ st4 loop)
theorem zlq {elt tg iter:Expr} {ifs:List Expr} {pos:Pos} {wi:TI} {g:TG} {tc:TT} {te:TE} (hc:X.calm=true) (T:zhe X scope own caps N') (hi:PI X tg iter wi)
  (hg:∀ cl C s H fp,PG (zea X N' scope cl C s H fp) tg g) (ht:∀ cl C s H fp,PTs (zea X N' scope cl C s H fp) ifs tc) (he:∀ cl C s H fp,PE (zea X N' scope cl C s H fp) elt te)
  (hs:∀ x,foldedSetIterable iter X.env x=pure x:=by intro _; rfl):PE X (.ListComp elt [⟨tg,iter,ifs,0⟩] scope pos) (zve wi g tc te (zs2 own.length caps)):=by
 intro pins s σ H Q I h
 obtain ⟨cl,hclos,hcl,hcl2⟩:=zhj (scope:=scope) (env:=X.env) (fun y hy hf=>I.ok.has y.1 (T.free y hy hf))
 rw [eval_ListComp]
 refine wpAny_comprehension_free (use:=none) rfl hs hclos T.kind T.names (zm2 hc T hi hg ht he I h hcl hcl2 (RR:=fun acc C=>compPost (model X.prog X.w) X.A X.xe none (EP X pins σ Q) acc C) ?_)
 intro s3 H3 D fp σ5 H5 s6 I3 f3 I6 qn
 obtain ⟨m,hn,_⟩:=I6.loc
 exact ⟨m,hn,fun h' hs'=>⟨.ref D,H5,I3.leaveComp f3 I6 hs',rfl,qn⟩⟩
theorem zkx {elt tg iter:Expr} {ifs:List Expr} {pos spos py:Pos} {y:Str} {i:Nat} {wi:TI} {g:TG} {tc:TT} {te:TE} (hN:X.N.Nodup) (hi':X.N[i]? = some y) (hx:Loc X.env.scope y) (hc:X.calm=true) (T:zhe X scope own caps N') (hi:PI X tg iter wi)
  (hg:∀ cl C s H fp,PG (zea X N' scope cl C s H fp) tg g) (ht:∀ cl C s H fp,PTs (zea X N' scope cl C s H fp) ifs tc) (he:∀ cl C s H fp,PE (zea X N' scope cl C s H fp) elt te)
  (hsw:swapsWith (.ListComp elt [⟨tg,iter,ifs,0⟩] scope pos) (some (.Name y py)) spos.line X.env=pure true:=by rfl) (hs:∀ x,foldedSetIterable iter X.env x=pure x:=by intro _; rfl)
  (hf:X.fn y=true∨X.env.scope.names.lookup y=some .local:=by first | exact .inl rfl | exact .inr rfl | assumption) :
  PS X (.Assign [.Name y py] (.ListComp elt [⟨tg,iter,ifs,0⟩] scope pos) spos) (zzt (zve wi g tc te (zs2 own.length caps)) (zl8 i)):=by
 intro pins s σ H Dn I h
 obtain ⟨cl,hclos,hcl,hcl2⟩:=zhj (scope:=scope) (env:=X.env) (fun y hy hf=>I.ok.has y.1 (T.free y hy hf))
 rw [exec_Assign_Name_used _ _ _ _ hsw]
 refine wpAny_bind (wpAny_standAt (wpAny_bind ?_))
 show wpAny _ X.A (do let _ ← comprehension (.ListComp elt [⟨tg,iter,ifs,0⟩] scope pos) scope X.env _ (newList []) false (eval iter X.env) (some (assign (.Name y py) X.env))) _ _ s
 refine wpAny_bind (wpAny_mono (wpAny_comprehension_free (use:=some (assign (.Name y py) X.env)) (Q:=fun _ s'=>SP X pins Dn .next s') rfl hs hclos T.kind T.names
  (zm2 hc T hi hg ht he I h hcl hcl2 (RR:=fun acc C=>compPost (model X.prog X.w) X.A X.xe (some (assign (.Name y py) X.env)) (fun _ s'=>SP X pins Dn .next s') acc C) ?_)) (fun _ s' hq=>wpAny_pure (wpAny_pure hq)) fun _ _ e=>e)
 intro s3 H3 D fp σ5 H5 s6 I3 f3 I6 qn
 obtain ⟨m,⟨oC,es,ep,hoC,hdC,rC⟩,_⟩:=I6.loc
 have I7:Inv X pins σ H5 { s6 with heap:=s6.heap }:=I3.leaveComp f3 I6 (Heap.SameBut.refl _ _)
 have fC:zp_ X pins H5 s3.heap.objs.size:=I3.fpOk (Nat.le_refl _) I6.free
 have I8:Inv X (pins++[(s3.heap.objs.size,oC)]) σ H5 s6:=I7.pins_of fun p hp=>by
  rcases List.mem_append.mp hp with z | z
  ·exact I7.pin p (List.mem_append_right _ z)
  ·rw [List.mem_singleton.mp z]
   exact ⟨hoC,fC.1,fC.2.1,fC.2.2.1,fun v q=>by rw [hdC] at q; cases q⟩
 show wpAny _ X.A (assign (.Name y py) X.env (.ref D)) _ _ s6
 refine wpAny_assign_Name (zhf I8 hN hi' hx (v:= .ref D) rfl (fun s9 I9=>?_) hf)
 have hC9:=(I9.pin (s3.heap.objs.size,oC) (List.mem_append_right _ (List.mem_append_right _ List.mem_cons_self))).1
 refine ⟨m,⟨oC,es,ep,hC9,hdC,rC⟩,fun h' hs'=>?_⟩
 have I10:Inv X pins (σ.set i (some (.ref D))) H5 s9:=I9.unpinned
 exact ⟨_,H5,I10.turnN (t':=s9.toks) (ch:=[s3.heap.objs.size]) (fun b u hb q=>(hs'.2 b (fun z=>hb (by simp [z]))).trans q) fun b hb=>by rw [List.mem_singleton.mp hb]; exact fC,qn⟩
end
def zu6 (outer:Scope) (N:List Str) (scope:Scope) (own:List Str) (caps:List Nat) (N':List Str):Bool :=
 (scope.kind == .function) && scope.names.all (fun y=>y.2 != .cell) && scope.names.all (fun y=>y.2 != .local || scope.names.lookup y.1 == some .local) &&
 scope.names.all (fun y=>y.2 != .free || (outer.names.lookup y.1 == some .cell || outer.names.lookup y.1 == some .free)) && decide (N'=own++caps.filterMap fun i=>N[i]?) &&
 caps.all (fun i=>match N[i]? with | some x=>scope.names.lookup x == some .free | none=>false)
theorem ziq {env:Env}:∀ {names:List (Str × NameKind)} {x:Str},(∀ y∈names,y.2≠ .cell) →
    ((names.map fun (n,k)=>if (k == NameKind.free && env.scope.kind == .function && env.kindOf n == some .cell) then (n,NameKind.cell) else (n,k)).lookup x=some .cell ∨
     (names.map fun (n,k)=>if (k == NameKind.free && env.scope.kind == .function && env.kindOf n == some .cell) then (n,NameKind.cell) else (n,k)).lookup x=some .free)→(x,NameKind.free)∈names
  | [],_,_,h=>by simp at h
  | (n,k) :: r,x,hn,h=>by
    have ih:=@ziq env r x (fun y hy=>hn y (List.mem_cons_of_mem _ hy))
    have hk:k≠ .cell:=hn (n,k) List.mem_cons_self
    change List.lookup x ((if (k == NameKind.free && env.scope.kind == .function && env.kindOf n == some .cell)=true then (n,NameKind.cell) else (n,k)) :: _)=_ ∨
      List.lookup x ((if (k == NameKind.free && env.scope.kind == .function && env.kindOf n == some .cell)=true then (n,NameKind.cell) else (n,k)) :: _)=_ at h
    cases hx:x == n with
    | true =>
      have e:=beq_iff_eq.mp hx
      subst e
      by_cases hc:(k == NameKind.free && env.scope.kind == .function && env.kindOf x == some .cell)=true
      · have:k = .free:=by
          rw [Bool.and_eq_true,Bool.and_eq_true] at hc
          simpa using hc.1.1
        rw [this]
        exact List.mem_cons_self
      · rw [if_neg hc] at h
        simp only [List.lookup_cons,hx] at h
        rcases h with h | h
        · exact absurd (Option.some.inj h) hk
        · rw [Option.some.inj h]
          exact List.mem_cons_self
    | false =>
      refine List.mem_cons_of_mem _ (ih ?_)
      by_cases hc:(k == NameKind.free && env.scope.kind == .function && env.kindOf n == some .cell)=true
      · rw [if_pos hc] at h
        simpa only [List.lookup_cons,hx] using h
      · rw [if_neg hc] at h
        simpa only [List.lookup_cons,hx] using h
theorem zdn {X:Cx} {scope:Scope} {own N':List Str} {caps:List Nat} (h:zu6 X.env.scope X.N scope own caps N'=true):zhe X scope own caps N':=by
  unfold zu6 at h
  simp only [Bool.and_eq_true] at h
  obtain ⟨⟨⟨⟨⟨h1,h2⟩,h3⟩,h4⟩,h5⟩,h6⟩:=h
  have nc:∀ y∈scope.names,y.2≠ .cell:=fun y hy=>by simpa using List.all_eq_true.mp h2 y hy
  have cp:∀ i∈caps,∃ x,X.N[i]? = some x∧scope.names.lookup x=some .free:=fun i hi=>by
    have q:=List.all_eq_true.mp h6 i hi
    cases e:X.N[i]? with
    | none =>
      rw [e] at q
      cases q
    | some x =>
      rw [e] at q
      exact ⟨x,rfl,by simpa using q⟩
  refine ⟨by simpa using h1,nc,fun y hy hl=>?_,fun y hy hf=>?_,of_decide_eq_true h5,fun i hi=>?_,fun i hi x e=>?_,fun x hx=>ziq nc hx⟩
  · have q:=List.all_eq_true.mp h3 y hy
    rw [hl] at q
    simpa using q
  · have q:=List.all_eq_true.mp h4 y hy
    rw [hf] at q
    simp at q
    exact q
  · obtain ⟨x,e,_⟩:=cp i hi
    exact (List.getElem?_eq_some_iff.mp e).1
  · obtain ⟨y,e',q⟩:=cp i hi
    rw [e] at e'
    cases e'
    exact q
theorem zst {K:PySem.W.Frag} {a D:Addr} {xs:List V} {g:TG} {tc:TT} {te:TE} {Q:VK} {σ:St} {H:Hp} (Pv:Nat→St→Hp→Prop) (h0:Pv 0 σ H) (hl:∀ i σ H,i≤xs.length→Pv i σ H→SqL K H a xs)
  (hs:∀ i x σ H,xs[i]? = some x→Pv i σ H→g x σ H fun σ3 H3=>tc σ3 H3 fun b H4=>if b=true then te σ3 H4 fun y H5=>∃ acc,H5 D=some (.lst acc)∧acc.length<sizeLine∧Pv (i+1) σ3 (upd H5 D (.lst (acc++[y]))) else Pv (i+1) σ3 H4)
  (hd:∀ σ H,Pv xs.length σ H→Q (.ref D) H) :
  ztd (Itl K a) g tc te Q D σ H:=by
 refine ⟨fun i m σ H=>m=xs.length - i∧i≤xs.length∧Pv i σ H,⟨xs.length,by simp,Nat.zero_le _,h0⟩,?_⟩
 rintro i m σ H ⟨rfl,hi,p⟩
 have q:=hl i σ H hi p
 by_cases hlt:i<xs.length
 ·refine .inr ⟨⟨xs,xs[i],q,by simp [hlt]⟩,Pv (i+1),fun σ' H' p'=>⟨xs.length - (i+1),by omega,rfl,hlt,p'⟩,fun x H' y=>?_⟩
  obtain ⟨e,y⟩:=y
  subst e
  exact hs i x σ _ (y xs q) p
 ·have e:i=xs.length:=by omega
  subst e
  exact .inl ⟨⟨xs,q,Nat.le_refl _⟩,hd σ H p⟩
theorem zkt {lo:Int} {n:Nat} {D:Addr} {g:TG} {tc:TT} {te:TE} {Q:VK} {σ:St} {H:Hp} (Pv:Nat→St→Hp→Prop) (h0:Pv 0 σ H)
  (hs:∀ i σ H,i<n→Pv i σ H→g (.int (lo+i)) σ H fun σ3 H3=>tc σ3 H3 fun b H4=>if b=true then te σ3 H4 fun y H5=>∃ acc,H5 D=some (.lst acc)∧acc.length<sizeLine∧Pv (i+1) σ3 (upd H5 D (.lst (acc++[y]))) else Pv (i+1) σ3 H4)
  (hd:∀ σ H,Pv n σ H→Q (.ref D) H) :
  ztd (Itr lo n) g tc te Q D σ H:=by
 refine ⟨fun i m σ H=>m=n - i∧i≤n∧Pv i σ H,⟨n,by simp,Nat.zero_le _,h0⟩,?_⟩
 rintro i m σ H ⟨rfl,hi,p⟩
 by_cases hlt:i<n
 ·refine .inr ⟨hlt,Pv (i+1),fun σ' H' p'=>⟨n - (i+1),by omega,rfl,hlt,p'⟩,fun x H' y=>?_⟩
  obtain ⟨e,y⟩:=y
  subst e y
  exact hs i σ _ hlt p
 ·have e:i=n:=by omega
  subst e
  exact .inl ⟨Nat.le_refl _,hd σ H p⟩
end L2
namespace L2
open PySem PySem.Spec PyProof.Rows
mutual
def DV (K:PySem.W.Frag) (H:Hp):PyData→V→Prop
 | .none,v=>v = .non
 | .bool b,v=>v = .bl b
 | .int i,v=>v = .int i
 | .str x,v=>v = .str x
 | .list ds,v=>∃ a xs,v = .ref a∧SqL K H a xs∧DVs K H ds xs
 | .tuple ds,v=>∃ a xs,v = .ref a∧SqT K H a xs∧DVs K H ds xs
 | .dict _,_=>False
def DVs (K:PySem.W.Frag) (H:Hp):List PyData→List V→Prop
 | [],xs=>xs=[]
 | d :: ds,xs=>∃ x r,xs=x :: r∧DV K H d x∧DVs K H ds r
end
section
variable {X:Cx} {pins:List (Addr × Obj)} {σ:St} {H:Hp} {s:Shared}
mutual
theorem Inv.reads (I:Inv X pins σ H s):∀ (d:PyData) (v:V) (u:Value),DV X.K H d v→zdk v u→∃ as,Reads s.heap u d as
  | .none,v,u,h,r=>by
    unfold DV at h
    subst h
    cases (show u=Value.none from r)
    exact ⟨_,.none⟩
  | .bool b,v,u,h,r=>by
    unfold DV at h
    subst h
    cases (show u=Value.bool b from r)
    exact ⟨_,.bool b⟩
  | .int i,v,u,h,r=>by
    unfold DV at h
    subst h
    obtain ⟨t,rfl⟩:=(show ∃ t,u=Value.int i t from r)
    exact ⟨_,.int i t⟩
  | .str x,v,u,h,r=>by
    unfold DV at h
    subst h
    obtain ⟨t,rfl⟩:=(show ∃ t,u=Value.str x t from r)
    exact ⟨_,.str x t⟩
  | .list ds,v,u,h,r=>by
    unfold DV at h
    obtain ⟨a,xs,rfl,hq,hd⟩:=h
    cases (show u=Value.ref a from r)
    obtain ⟨its,rv,p,_⟩:=I.list hq
    obtain ⟨as,ra⟩:=Inv.readsAll I ds xs its hd rv
    obtain ⟨o,e,c,n,q⟩:=p.isList
    exact ⟨_,.list e c q (by simpa using ra)⟩
  | .tuple ds,v,u,h,r=>by
    unfold DV at h
    obtain ⟨a,xs,rfl,hq,hd⟩:=h
    cases (show u=Value.ref a from r)
    obtain ⟨its,rv,p,_⟩:=I.tuple hq
    obtain ⟨as,ra⟩:=Inv.readsAll I ds xs its hd rv
    obtain ⟨o,e,c,n,q⟩:=(show s.heap.IsTuple a its.toArray from p)
    exact ⟨_,.tuple e c q (by simpa using ra)⟩
  | .dict _,v,u,h,r=>by
    unfold DV at h
    exact h.elim
theorem Inv.readsAll (I:Inv X pins σ H s):∀ (ds:List PyData) (xs:List V) (us:List Value),DVs X.K H ds xs→zc2 xs us→∃ as,ReadsAll s.heap us ds as
  | [],xs,us,h,r=>by
    unfold DVs at h
    subst h
    cases r
    exact ⟨_,.nil⟩
  | d :: ds,xs,us,h,r=>by
    unfold DVs at h
    obtain ⟨x,xr,rfl,h1,h2⟩:=h
    cases r with
    | cons r1 r2 =>
      obtain ⟨as,ra⟩:=Inv.reads I d x _ h1 r1
      obtain ⟨bs,rb⟩:=Inv.readsAll I ds xr _ h2 r2
      exact ⟨_,.cons ra rb⟩
end
end
def zyv (K:PySem.W.Frag) (neg:Bool):R2:=fun x y H Q=>∃ da db,DV K H da x∧DV K H db y∧da.canLay0=true∧db.canLay0=true∧da.depth≤64∧Q (.bl (if neg then !PyData.eqv da db else PyData.eqv da db)) H
theorem zxh {X:Cx} (hu:X.A.units+64<cLine):OpR X (compareOp .Eq) (zyv X.K false):=by
 intro pins s σ H x y v u Q I rx ry h
 obtain ⟨da,db,h1,h2,c1,c2,hd,q⟩:=h
 obtain ⟨as,ra⟩:=I.reads da x v h1 rx
 obtain ⟨bs,rb⟩:=I.reads db y u h2 ry
 exact SeqAt.compareEq_reads ra rb c1 c2 (by have:=Nat.min_le_left da.depth db.depth; omega) ⟨.bl _,H,I,rfl,q⟩
theorem zu8 {X:Cx} (hu:X.A.units+64<cLine):OpR X (compareOp .NotEq) (zyv X.K true):=by
 intro pins s σ H x y v u Q I rx ry h
 obtain ⟨da,db,h1,h2,c1,c2,hd,q⟩:=h
 obtain ⟨as,ra⟩:=I.reads da x v h1 rx
 obtain ⟨bs,rb⟩:=I.reads db y u h2 ry
 exact SeqAt.compareNe_reads ra rb c1 c2 (by have:=Nat.min_le_left da.depth db.depth; omega) ⟨.bl _,H,I,rfl,q⟩
theorem zpf {K:PySem.W.Frag} {H:Hp}:∀ ns:List Int,DVs K H (ns.map PyData.int) (ns.map V.int)
  | []=>by unfold DVs; rfl
  | n :: r=>by
    unfold DVs
    exact ⟨_,_,rfl,by unfold DV; rfl,zpf r⟩
theorem zrq {K:PySem.W.Frag} {H:Hp} {a:Addr} {ns:List Int} (h:SqL K H a (ns.map V.int)):DV K H (.list (ns.map PyData.int)) (.ref a):=by
 unfold DV
 exact ⟨a,_,rfl,h,zpf ns⟩
theorem zlv:∀ ns:List Int,PyData.canLayAll0 (ns.map PyData.int)=true
  | []=>by unfold PyData.canLayAll0; rfl
  | n :: r=>by
    show PyData.canLayAll0 (PyData.int n :: r.map PyData.int)=true
    unfold PyData.canLayAll0
    rw [zlv r]
    unfold PyData.canLay0
    rfl
theorem zm8:∀ ns:List Int,PyData.depthAll (ns.map PyData.int)=0
  | []=>by unfold PyData.depthAll; rfl
  | n :: r=>by
    show PyData.depthAll (PyData.int n :: r.map PyData.int)=0
    unfold PyData.depthAll
    rw [zm8 r]
    unfold PyData.depth
    rfl
def zyu (K:PySem.W.Frag) (neg:Bool):R2:=fun x y H Q=>∃ (a b:Addr) (ns ms:List Int),x = .ref a∧y = .ref b∧SqL K H a (ns.map V.int)∧SqL K H b (ms.map V.int)∧Q (.bl (if neg then !decide (ns=ms) else decide (ns=ms))) H
theorem zup {K:PySem.W.Frag} {neg:Bool} {x y:V} {H:Hp} {Q:VK} (h:zyu K neg x y H Q):zyv K neg x y H Q:=by
 obtain ⟨a,b,ns,ms,rfl,rfl,h1,h2,q⟩:=h
 have e:PyData.eqv (.list (ns.map PyData.int)) (.list (ms.map PyData.int))=decide (ns=ms):=by
  unfold PyData.eqv
  exact PySem.W.ked_eqvAll ns ms
 refine ⟨.list (ns.map PyData.int),.list (ms.map PyData.int),zrq h1,zrq h2,?_,?_,?_,?_⟩
 ·unfold PyData.canLay0
  exact zlv ns
 ·unfold PyData.canLay0
  exact zlv ms
 ·unfold PyData.depth
  rw [zm8]
  decide
 ·rw [e]
  exact q
theorem zyj {X:Cx} (hu:X.A.units+64<cLine):OpR X (compareOp .Eq) (zyu X.K false):=fun pins s σ H x y v u Q I rx ry h=>zxh hu pins s σ H x y v u Q I rx ry (zup h)
theorem zm6 {X:Cx} (hu:X.A.units+64<cLine):OpR X (compareOp .NotEq) (zyu X.K true):=fun pins s σ H x y v u Q I rx ry h=>zu8 hu pins s σ H x y v u Q I rx ry (zup h)
theorem zsm {X:Cx}:MtR X "int.bit_length" (fun x xs H Q=>∃ i,x = .int i∧xs=[]∧Q (.int (Builtin.Int.intBits i:Nat)) H):=by
 intro pins s σ H x xs v us Q I rx rs h
 obtain ⟨i,rfl,rfl,q⟩:=h
 obtain ⟨t,rfl⟩:=rx
 cases rs
 exact call_int_bit_length ⟨.int (Builtin.Int.intBits i:Nat),H,I.tok _,⟨_,rfl⟩,q⟩
theorem zlz {X:Cx} {o:Expr} {to:TE} {apos cpos:Pos} (ho:PE X o to) (hbase:attributeBase o "bit_length" X.env (eval o X.env)=eval o X.env:=by rfl) (hline:(apos.endLine == cpos.line)=true:=by rfl) :
  PE X (.Call (.Attribute o "bit_length" apos) [] [] cpos) (zz9 X.K "int" (fun x xs H Q=>∃ i,x = .int i∧xs=[]∧Q (.int (Builtin.Int.intBits i:Nat)) H) to) :=
 zuv PySem.F.plainAttrs_int PySem.F.slot_int_bit_length PySem.F.type_int_bit_length zsm ho hbase hline
end L2
namespace L2
open PySem PySem.Spec PyProof.Rows
def zh0 (H:Hp) (c:Addr) (v:V):Prop:=∃ o u k,H c=some (.frz o k)∧o.data = .cell (some u)∧zdk v u
theorem zh0.same {H H':Hp} {c:Addr} {v:V} (x:zh0 H c v) (h:∀ o k,H c=some (.frz o k)→H' c=some (.frz o k)):zh0 H' c v:=by
 obtain ⟨o,u,k,e,r⟩:=x
 exact ⟨o,u,k,h o k e,r⟩
section
variable {X:Cx} {pins:List (Addr × Obj)} {σ:St} {H:Hp} {s:Shared}
theorem Inv.freeze {x:Str} {c:Addr} {o:Obj} (I:Inv X pins σ H s) (hfn:X.fn x=false) (hc:X.env.cells.lookup x=some c) (hn:H c=none) (hab:X.s₀.heap.objs.size≤c) (ho:s.heap.get? c=some o) :
  Inv X pins σ (upd H c (.frz o (.own c))) s:=by
 have ne:∀ b u,H b=some u→b≠c:=fun b u e=>zap e hn
 obtain ⟨w,oc,hoc,hdc⟩:=I.cell x c hc
 rw [ho] at hoc
 cases hoc
 refine ⟨I.ok,I.os,I.bare,⟨I.base.keep,I.base.slot,fun b u e n hx=>?_,I.base.there,fun b xs e=>?_,fun b u k e=>?_,fun b ps e=>?_⟩,I.loc,I.cell,?_,fun y c' e=>?_,fun p hp=>?_,fun b u e=>?_,I.len⟩
 ·rw [zal (Nat.ne_of_lt (Nat.lt_of_lt_of_le (Heap.lt_size e) hab))]
  exact I.base.free b u e n hx
 ·have z:=I.base.tups b xs e
  rw [zal (ne b _ z)]
  exact z
 ·have z:=I.base.frzs b u k e
  rw [zal (ne b _ z)]
  exact z
 ·obtain ⟨m,z⟩:=I.base.tbls b ps e
  exact ⟨m,by rw [zal (ne b _ z)]; exact z⟩
 ·rw [zal (fun z=>I.cne x c hc z.symm)]
  exact I.free
 ·by_cases hcc:c'=c
  ·subst hcc
   have:=I.ok.inj _ _ _ e hc
   subst this
   exact ⟨fun z=>absurd (hfn.symm.trans z) Bool.false_ne_true,.inr ⟨o,_,zam⟩⟩
  ·rw [zal hcc]
   exact I.freeC y c' e
 ·obtain ⟨e,n,ne',nf,d⟩:=I.pin p hp
  refine ⟨e,?_,ne',nf,d⟩
  rw [zal]
  ·exact n
  ·intro z
   rw [z,ho] at e
   cases e
   exact d _ hdc
 ·by_cases hb:b=c
  ·subst hb
   rw [zam] at e
   cases e
   exact ⟨ho,o,ho⟩
  ·rw [zal hb] at e
   exact (I.hok b u e).stay (fun _ _ _ q=>q) (fun d q=>by rw [zal (ne d _ q)]; exact q) fun d xs q=>by rw [zal (ne d _ q)]; exact q
end
section
variable {P:Program} {w:World} {K:PySem.W.Frag} {mg:Str→Option Value} {base:Heap}
theorem zmx {X:Cx} {σ:St} {s:Shared} {Hb:Hp} (N ps:List Str) (vs:List V) (hps:∀ (i:Nat) x v,ps[i]? = some x→vs[i]? = some v→X.N[i]? = some x∧σ[i]? = some (some v)) (hab:∀ x c,X.env.cells.lookup x=some c→X.s₀.heap.objs.size≤c) :
    ∀ (fz:List Str) (H:Hp),(∀ x∈fz,X.fn x=false∧X.env.scope.names.lookup x=some .cell)→Inv X [] σ H s→zbf Hb H→(∀ x c,X.env.cells.lookup x=some c→Hb c=none) →
      ∃ H1,Inv X [] σ H1 s∧zbf Hb H1∧(∀ b o,H b=some o→H1 b=some o)∧∀ (i:Nat) x v,x∈fz→ps[i]? = some x→vs[i]? = some v→∃ c,X.env.cells.lookup x=some c∧zh0 H1 c v
  | [],H,_,I,sm,_=>⟨H,I,sm,fun _ _ e=>e,fun _ _ _ hx=>(nomatch hx)⟩
  | x :: r,H,hf,I,sm,hb=>by
    have hx:=hf x List.mem_cons_self
    obtain ⟨c,hc⟩:=I.ok.has x (.inl hx.2)
    obtain ⟨w',oc,hoc,hdc⟩:=I.cell x c hc
    obtain ⟨H2,I2,s2,k2,hz⟩:∃ H2,Inv X [] σ H2 s∧zbf Hb H2∧(∀ b o,H b=some o→H2 b=some o)∧∃ k,H2 c=some (.frz oc k):=by
      rcases (I.freeC x c hc).2 with z | ⟨o,u,z⟩
      · refine ⟨_,I.freeze hx.1 hc z (hab x c hc) hoc,fun b o e=>?_,fun b o e=>?_,_,zam⟩
        · rw [zal (zap (sm b o e) z)]
          exact sm b o e
        · rw [zal (zap e z)]
          exact e
      · obtain ⟨z1,_⟩:=I.hok c _ z
        rw [hoc] at z1
        cases z1
        exact ⟨H,I,sm,fun _ _ e=>e,u,z⟩
    obtain ⟨H3,I3,s3,k3,h3⟩:=zmx N ps vs hps hab r H2 (fun y hy=>hf y (List.mem_cons_of_mem _ hy)) I2 s2 hb
    refine ⟨H3,I3,s3,fun b o e=>k3 b o (k2 b o e),fun i y v hy e1 e2=>?_⟩
    by_cases hyx:y=x
    · subst hyx
      obtain ⟨hN,hσ⟩:=hps i y v e1 e2
      obtain ⟨m,hn,hl⟩:=I.loc
      obtain ⟨u,ru,l⟩:=hl i y v hN hσ (.inr (.inl hx.2))
      rcases l with ⟨q,_⟩ | ⟨_,c',hc',o',ho',hd'⟩
      · rw [show X.env.kindOf y=some .cell from hx.2] at q
        cases q
      · rw [hc] at hc'
        cases hc'
        rw [hoc] at ho'
        cases ho'
        obtain ⟨k,z⟩:=hz
        exact ⟨c,hc,oc,u,k,k3 c _ z,hd',ru⟩
    · rcases List.mem_cons.mp hy with q | q
      · exact absurd q hyx
      · exact h3 i y v q e1 e2
theorem zuw {k:Nat} {f:Addr} {name qual:Str} {params:Arguments} {body:List Stmt} {scope:Scope} {dV kV doc pm cdv ct oc:Value} {an od:Option Addr}
    {osl:Array (Option Value)} {N ps fz:List Str} {sp:Sp} (lk:K.lookup f=some ⟨oc,od,.func (PySem.W.fnOf name qual params body scope dV kV doc pm an cdv ct),osl⟩) (hcd:PySem.W.codeIn K cdv qual=true) (S:za3 N ps scope)
    (hfz:∀ x∈fz,scope.names.lookup x=some .cell) (len:∀ vs H Q E,sp vs H Q E→vs.length=ps.length)
    (hbody:∀ (A:Around) (outer:List Env) (s:Shared) (H:Hp) (vs:List V) (Q:VK) (E:XK),zfy k (A.deeper (envOfC qual scope s.heap.objs.size f cdv))→sp vs H Q E →
      ∀ H1:Hp,zbf H H1→(∀ (i:Nat) x v,x∈fz→ps[i]? = some x→vs[i]? = some v→∃ c,(envOfC qual scope s.heap.objs.size f cdv).cells.lookup x=some c∧zh0 H1 c v) →
      ∃ t,PSs (zkz CX0 P w K mg base N qual scope f cdv A outer s H E (fun x=> !fz.contains x)).nox body t∧t { nx:=fun _ H'=>Q .non H',rt:=Q } (start N vs) H1) :
    zbe P w K mg base CX0 (k+1) f (PySem.W.fnOf name qual params body scope dV kV doc pm an cdv ct) ps sp:=by
  refine ⟨len,fun A outer s H args us vs Q E hr e0 hb r hsp=>?_⟩
  have hl:=len _ _ _ _ hsp
  have KX:K.In s.heap:=e0.mod.kin.keeps fun b o e=>(e0.bs b o e).1
  have lim:s.heap.NoLimit:=e0.mod.nolimit.keeps fun b o e=>(e0.bs b o e).1
  have hpl:ps.length≤N.length:=by have:=congrArg List.length S.pre; rw [List.length_take] at this; omega
  have hkind:∀ y∈ps.zip us,scope.names.lookup y.1=some .local∨(scope.names.lookup y.1=some .cell∧((cellsFrom (s.heap.objs.size+1) scope.names []).lookup y.1).isSome=true):=fun ⟨n,v⟩ hy=>by
    rcases S.par n (List.of_mem_zip hy).1 with q | q
    · exact .inl q
    · exact .inr ⟨q,PySem.W.cellsFrom_some _ _ _ (.inl q)⟩
  refine codeAny_call_function hr.depth (KX _ _ lk) rfl S.co S.gen rfl (PySem.W.codeRec_of KX hcd) (hb _ _ _ _ ?_)
  refine wpAny_newFunctionEnv_cells S.kind hkind fun env he s1 x=>?_
  subst he
  refine ⟨lim.keeps x.toInCall.keep,codeAny_func ?_⟩
  have I:Inv (zkz CX0 P w K mg base N qual scope f cdv A outer s H E (fun x=> !fz.contains x)) [] (start N vs) H s1:=zl1 S hr.hd e0 hl r x
  have hst:∀ (i:Nat) y v,ps[i]? = some y→vs[i]? = some v→N[i]? = some y∧(start N vs)[i]? = some (some v):=fun i y v e1 e2=>by
    have hi:i<ps.length:=(List.getElem?_eq_some_iff.mp e1).1
    refine ⟨?_,?_⟩
    · rw [← S.pre,List.getElem?_take_of_lt hi] at e1
      exact e1
    · unfold start
      rw [List.getElem?_append_left (by simp; omega),List.getElem?_map,e2]
      rfl
  obtain ⟨H1,I1,sm,_,hcv⟩:=zmx (X:=zkz CX0 P w K mg base N qual scope f cdv A outer s H E (fun x=> !fz.contains x)) (Hb:=H) N ps vs hst
    (fun y c e=>Nat.le_of_lt (x.above y c (PySem.mem_of_lookup e))) fz H (fun y hy=>⟨by show (!fz.contains y)=false; simp [hy],hfz y hy⟩) I (zbf.refl H) (fun y c e=>e0.hok.fresh (Nat.le_of_lt (x.above y c (PySem.mem_of_lookup e))))
  obtain ⟨t,ht,hq⟩:=hbody A outer s H vs Q E (hr.deeper _) hsp H1 sm hcv
  refine wpAny_mono (ht.nox [] s1 (start N vs) H1 _ I1 hq) (fun fl s' hs=>?_) fun e s' hs=>hs
  have fin:∀ {σ':St} {H':Hp} {v:V} {u:Value},Inv (zkz CX0 P w K mg base N qual scope f cdv A outer s H E (fun x=> !fz.contains x)) [] σ' H' s'→zdk v u→Q v H'→CE outer P w H s Q u s' :=
    fun {σ' H' v u} J rv q=>⟨v,H',J.os,J.bare,J.base,J.hok,rv,q⟩
  cases fl with
  | ret u =>
    obtain ⟨v,σ',H',J,rv,q⟩:=hs
    exact fin J rv q
  | next =>
    obtain ⟨σ',H',J,q⟩:=hs
    exact fin (v:=V.non) (u:=Value.none) J rfl q
  | brk =>
    obtain ⟨_,_,_,q⟩:=hs
    exact False.elim q
  | cont =>
    obtain ⟨_,_,_,q⟩:=hs
    exact False.elim q
end
def ze3 (oc:Obj) (qual:Str):Prop:=∃ vs t,oc.data = .fields vs∧vs[1]? = some (.str qual t)
structure zva (name qual:Str) (params:Arguments) (body:List Stmt) (scope:Scope) (cells:List (Str × Addr)) (fo:Obj) (clos:List (Str × Addr)) (c':Addr):Prop where
 ob:∃ doc pm ctv,fo=PySem.W.fnMade name qual params body scope clos doc pm c' ctv
 sub:∀ x c,clos.lookup x=some c→cells.lookup x=some c
 free:∀ x c,clos.lookup x=some c→(x,NameKind.free)∈scope.names
 all:∀ y∈scope.names,y.2 = .free→∃ c,clos.lookup y.1=some c
 inj:∀ x y c,clos.lookup x=some c→clos.lookup y=some c→x=y
structure zza (H:Hp) (f:Addr) (name qual:Str) (params:Arguments) (body:List Stmt) (scope:Scope) (fr:List Str) (cv:List V) (fd:FuncData):Prop where
 ex:∃ fo cells clos c' oc k k',H f=some (.frz fo k)∧zva name qual params body scope cells fo clos c'∧fo.data = .func fd∧fd.closure=clos∧fd.code = .ref c'∧H c'=some (.frz oc k')∧ze3 oc qual ∧
  ∀ (i:Nat) x v,fr[i]? = some x→cv[i]? = some v→∃ c,clos.lookup x=some c∧zh0 H c v
theorem zza.same {H H':Hp} {f:Addr} {name qual:Str} {params:Arguments} {body:List Stmt} {scope:Scope} {fr:List Str} {cv:List V} {fd:FuncData} (x:zza H f name qual params body scope fr cv fd) (h:∀ a o k,H a=some (.frz o k)→H' a=some (.frz o k)) :
  zza H' f name qual params body scope fr cv fd:=by
 obtain ⟨fo,cells,clos,c',oc,k,k',e1,s,e2,e3,e4,e5,cs,hv⟩:=x.ex
 exact ⟨fo,cells,clos,c',oc,k,k',h _ _ _ e1,s,e2,e3,e4,h _ _ _ e5,cs,fun i y v a b=>let ⟨c,q,z⟩:=hv i y v a b; ⟨c,q,z.same fun o k=>h c o k⟩⟩
structure zpn (N ps fr:List Str) (sc:Scope):Prop where
 kind:sc.kind = .function
 co:sc.isCoroutine=false
 gen:sc.isGenerator=false
 nd:N.Nodup
 pre:N.take (ps++fr).length=ps++fr
 par:∀ x∈ps,sc.names.lookup x=some .local
 fre:∀ x∈fr,sc.names.lookup x=some .free
 nocell:∀ y∈sc.names,y.2≠ .cell
 allfr:∀ y∈sc.names,y.2 = .free→y.1∈fr
 look:∀ y∈sc.names,sc.names.lookup y.1=some y.2
def zo1 (qual:Str) (scope:Scope) (clos:List (Str × Addr)) (L a:Addr) (cd:Value):Env :=
 { scope:=scope,locals:=L,globals:=mainGlobals,cells:=clos,qual:=qual ++ ".<locals>.",func:=some a,code:=cd,frame:=some L,builtins:=builtinsNs }
def zwa (P:Program) (w:World) (K:PySem.W.Frag) (mg:Str→Option Value) (base:Heap) (N:List Str) (qual:Str) (scope:Scope) (clos:List (Str × Addr)) (f:Addr) (cd:Value) (A:Around) (outer:List Env) (s:Shared) (H:Hp):Cx where
 prog:=P
 w:=w
 K:=K
 mg:=mg
 base:=base
 A:=A.deeper (zo1 qual scope clos s.heap.objs.size f cd)
 N:=N
 s₀:=s
 H₀:=H
 env:=zo1 qual scope clos s.heap.objs.size f cd
 outer:=outer
 stack:=zo1 qual scope clos s.heap.objs.size f cd :: outer
 ex:=[]
 calm:=true
 fn:=fun _=>false
 pn:=[]
 xe:=fun _ _=>False
theorem zj5 {us:List Value} {x:Str} {u:Value}:∀ {ps:List Str} {us:List Value} {i:Nat},ps.Nodup→ps[i]? = some x→us[i]? = some u→(ps.zip us).reverse.lookup x=some u:=by
  intro ps us i nd h1 h2
  have mem:(x,u)∈(ps.zip us).reverse:=by
    rw [List.mem_reverse]
    refine List.mem_of_getElem? (i:=i) ?_
    rw [List.getElem?_zip_eq_some]
    exact ⟨h1,h2⟩
  have key:∀ (l:List (Str × Value)),(∀ v,(x,v)∈l→v=u)→(x,u)∈l→l.lookup x=some u:=by
    intro l
    induction l with
    | nil=>intro _ h; cases h
    | cons p r ih =>
      intro hu hm
      obtain ⟨n,v⟩:=p
      rw [List.lookup_cons]
      by_cases e:(x == n)=true
      · rw [e]
        have e':=beq_iff_eq.mp e
        subst e'
        exact congrArg some (hu v List.mem_cons_self)
      · rw [Bool.eq_false_iff.mpr e]
        refine ih (fun v hv=>hu v (List.mem_cons_of_mem _ hv)) ?_
        rcases List.mem_cons.mp hm with q | q
        · cases q
          exact absurd (beq_self_eq_true x) e
        · exact q
  refine key _ (fun v hv=>?_) mem
  rw [List.mem_reverse] at hv
  obtain ⟨j,hj⟩:=List.getElem?_of_mem hv
  rw [List.getElem?_zip_eq_some] at hj
  have:j=i:=zi4 nd hj.1 h1
  subst this
  rw [h2] at hj
  exact (Option.some.inj hj.2).symm
section
variable {P:Program} {w:World} {K:PySem.W.Frag} {mg:Str→Option Value} {base:Heap}
end
end L2
namespace L2
open PySem PySem.Spec PyProof.Rows
section
variable {X:Cx}
theorem ze8 {env:Env}:∀ (names:List (Str × NameKind)) (acc cl:List (Str × Addr)),
    (forIn names acc fun (x:Str × NameKind) cs=>if (x.2 == NameKind.free)=true then (do let a ← cellOf env x.1; pure (ForInStep.yield ((x.1,a) :: cs))) else pure (ForInStep.yield cs):Sem (List (Str × Addr)))=pure cl →
    (∀ y∈names,y.2 = .free→∃ c,env.cells.lookup y.1=some c)→∀ x c,cl.lookup x=some c→(x,NameKind.free)∈names∨∃ d,acc.lookup x=some d
  | [],acc,cl,e,_,x,c,h=>by
    have e':(pure acc:Sem (List (Str × Addr)))=pure cl:=e
    have:acc=cl:=by injection e'
    subst this
    exact .inr ⟨c,h⟩
  | (n,k) :: r,acc,cl,e,hn,x,c,h=>by
    rw [List.forIn_cons] at e
    by_cases hk:k = .free
    · obtain ⟨d,hd⟩:=hn (n,k) List.mem_cons_self hk
      rw [if_pos (by rw [hk]; rfl)] at e
      have hco:cellOf env n=pure d:=by unfold cellOf; rw [hd]
      change ((cellOf env n >>= fun a=>pure (ForInStep.yield ((n,a) :: acc))) >>= _)=_ at e
      rw [hco,pure_bind,pure_bind] at e
      rcases ze8 r ((n,d) :: acc) cl e (fun y hy=>hn y (List.mem_cons_of_mem _ hy)) x c h with z | ⟨d',z⟩
      · exact .inl (List.mem_cons_of_mem _ z)
      · rw [List.lookup_cons] at z
        by_cases hx:(x == n)=true
        · have hx':=beq_iff_eq.mp hx
          subst hx' hk
          exact .inl List.mem_cons_self
        · rw [Bool.eq_false_iff.mpr hx] at z
          exact .inr ⟨d',z⟩
    · rw [if_neg (by simpa using hk),pure_bind] at e
      rcases ze8 r acc cl e (fun y hy=>hn y (List.mem_cons_of_mem _ hy)) x c h with z | z
      · exact .inl (List.mem_cons_of_mem _ z)
      · exact .inr z
theorem zj9 {scope:Scope} {env:Env} (hn:∀ y∈scope.names,y.2 = .free→∃ c,env.cells.lookup y.1=some c) :
  ∃ cl,closureFor scope env=pure cl∧(∀ x c,cl.lookup x=some c→env.cells.lookup x=some c)∧(∀ y∈scope.names,y.2 = .free→∃ c,cl.lookup y.1=some c)∧∀ x c,cl.lookup x=some c→(x,NameKind.free)∈scope.names:=by
 obtain ⟨cl,e1,h1,h2,_⟩:=zgp (env:=env) scope.names [] hn (fun x c h=>by cases h)
 refine ⟨cl,?_,h1,h2,fun x c h=>?_⟩
 ·unfold closureFor
  rw [← e1,bind_pure]
 ·rcases ze8 scope.names [] cl e1 hn x c h with z | ⟨d,z⟩
  ·exact z
  ·cases z
end
def Tab (H:Hp) (P:Addr) (pos:Pos) (qual:Str):Prop:=∃ ps,H P=some (.tbl ps)∧TriplesOk ps.toList ∧
 (codeAmong pos ps.toList=none∨∃ c' oc k,codeAmong pos ps.toList=some (.ref c')∧H c'=some (.frz oc k)∧ze3 oc qual)
theorem Tab.new {H:Hp} {P:Addr} {pos:Pos} {qual:Str} (h:H P=some (.tbl #[])):Tab H P pos qual:=⟨#[],h,trivial,.inl rfl⟩
def But (P:Addr) (H H':Hp):Prop:=(∀ b o,b≠P→H b=some o→H' b=some o)∧∀ pos qual,Tab H P pos qual→Tab H' P pos qual
theorem zim {a b c:Value} {i j:Int} {t u:Tok} (ha:a = .int i t) (hb:b = .int j u):∀ {l:List Value},TriplesOk l→TriplesOk (l++[a,b,c])
 | [],_=>by rw [ha,hb]; exact trivial
 | .int _ _ :: .int _ _ :: _ :: r,h=>zim (l:=r) ha hb h
theorem zbf.but {H H':Hp} (P:Addr) (h:zbf H H'):But P H H':=by
 refine ⟨fun b o _ e=>h b o e,fun pos qual t=>?_⟩
 obtain ⟨ps,e,ht,z⟩:=t
 refine ⟨ps,h _ _ e,ht,?_⟩
 rcases z with z | ⟨c',oc,k,z1,z2,z3⟩
 ·exact .inl z
 ·exact .inr ⟨c',oc,k,z1,h _ _ z2,z3⟩
theorem But.trans {P:Addr} {H H1 H2:Hp} (a:But P H H1) (b:But P H1 H2):But P H H2:=⟨fun c o hc e=>b.1 c o hc (a.1 c o hc e),fun pos qual t=>b.2 pos qual (a.2 pos qual t)⟩
theorem zrl {P:Program} {w:World} {K:PySem.W.Frag} {mg mb:Str→Option Value} {k:Nat} {fa a:Addr} {fd:FuncData} {x:Str} {sp:Sp} {s₁:Shared} {vs:List Value} {ns:List Int} (tabs:List (Addr × Addr))
    (hT:PySem.W.TabsAt tabs s₁.heap) (hKT:∀ q∈tabs,K.lookup q.2=none) (hBm:∃ bm o,mg "__builtins__" = some (.ref bm)∧bm≠builtinsNs∧bm≠mainGlobals∧s₁.heap.get? bm=some o∧o.cls = .type "module" ∧o.dict=some builtinsNs∧o.data = .plain)
    (KX:K.In s₁.heap) (hns:s₁.heap.Ns mainGlobals mg) (hb:s₁.heap.Ns builtinsNs mb) (hbb:∀ x:Str,x≠ "__name__" →mb x=bootBuiltins x) (hlim:s₁.heap.NoLimit) (hg:s₁.gens = #[])
    (ha:s₁.heap.get? a=some { cls:= .type "list",data:= .seq vs.toArray }) (hi:IntsAre vs ns) (hl:ns.length≤sizeLine) (hr:zfy k callerA)
    (F:∀ base:Heap,K.In base→base.Ns mainGlobals mg→(∀ q∈tabs,base.BuiltinsAt mg q.2)→zbe P w K mg base CX0 k fa fd [x] sp) (hbind:∀ (s:Shared) (u:Value),BindsTo s fd ⟨[u],[]⟩ [(x,u)])
    (hsp:∀ H:Hp,SqL K H a (ns.map V.int)→(∀ q∈tabs,H q.2=some (.tbl #[]))→sp [.ref a] H (fun v _=>v = .bl true) fun _ _ _=>False) :
    codeAny (model P w) callerA (.call (.ref fa) ⟨[.ref a],[]⟩) (fun r s'=>r = .ok (.ret (.bool true))∧OldK s₁.heap s'.heap∧s'.os=s₁.os∧AllBare s'.gens) s₁:=by
  have rv:=zgb hi
  have lenV:=hi.length
  have naP:∀ q∈tabs,a≠q.2:=fun q hq z=>by
    have e:=(hT q hq).2
    rw [← z,ha] at e
    cases e
  have core:∀ (H0:Option HO),(H0=none∨∃ o xs,H0=some (.frz o (.lst xs)))→(∀ H:Hp,H a=H0→SqL K H a (ns.map V.int))→(∀ u,H0=some u→∀ H:Hp,zdy P w H s₁.heap a u)→(H0≠none→K.lookup a=none) →
      codeAny (model P w) callerA (.call (.ref fa) ⟨[.ref a],[]⟩) (fun r s'=>r = .ok (.ret (.bool true))∧OldK s₁.heap s'.heap∧s'.os=s₁.os∧AllBare s'.gens) s₁:=by
    intro H0 hO hS hok0 hK0
    let H:Hp:=fun b=>if b=a then H0 else if b∈tabs.map (·.2) then some (.tbl #[]) else none
    have Ha:H a=H0:=if_pos rfl
    have Ht:∀ q∈tabs,H q.2=some (.tbl #[]):=fun q hq=>by
      show (if q.2=a then H0 else _)=_
      rw [if_neg (naP q hq).symm,if_pos (List.mem_map_of_mem hq)]
    have Hn:∀ b,b≠a→b∉tabs.map (·.2)→H b=none:=fun b h1 h2=>by
      show (if b=a then H0 else _)=_
      rw [if_neg h1,if_neg h2]
    have notTab:∀ {b:Addr} {o:Obj},s₁.heap.get? b=some o→o.cls≠ .none→b∉tabs.map (·.2):=fun {b o} e hc z=>by
      obtain ⟨q,hq,rfl⟩:=List.mem_map.mp z
      rw [(hT q hq).2] at e
      cases e
      exact hc rfl
    have hok:HOk P w H s₁.heap:=fun b u z=>by
      by_cases hb:b=a
      · subst hb
        rw [Ha] at z
        exact hok0 u z H
      · by_cases hb2:b∈tabs.map (·.2)
        · obtain ⟨q,hq,rfl⟩:=List.mem_map.mp hb2
          rw [Ht q hq] at z
          cases z
          exact (hT q hq).2
        · rw [Hn b hb hb2] at z
          cases z
    have base_of:∀ {b:Addr} {o:Obj},s₁.heap.get? b=some o→H b=none→(zsv s₁.heap H).get? b=some o:=fun e n=>ztl e n
    have noA:∀ {b:Addr} {o:Obj},s₁.heap.get? b=some o→(∀ xs n,o.data≠ .seq xs n)→(∀ xs,o.data≠ .fields xs)→H b=none:=fun {b o} e d1 d2=>by
      refine Hn b (fun z=>?_) (fun z=>?_)
      · rw [z,ha] at e
        cases e
        exact d1 _ _ rfl
      · obtain ⟨q,hq,rfl⟩:=List.mem_map.mp z
        rw [(hT q hq).2] at e
        cases e
        exact d2 _ rfl
    have nsK:∀ {b:Addr} {m:Str→Option Value},s₁.heap.Ns b m→(zsv s₁.heap H).Ns b m:=fun {b m} ⟨o,es,ep,e,d,r⟩=>⟨o,es,ep,base_of e (noA e (fun _ _ z=>by rw [d] at z; cases z) (fun _ z=>by rw [d] at z; cases z)),d,r⟩
    have hKb:K.In (zsv s₁.heap H):=fun b o e=>base_of (KX b o e) (by
      by_cases hb:b=a
      · subst hb
        rw [Ha]
        cases q:H0 with
        | none=>rfl
        | some u =>
          rw [hK0 (by rw [q]; simp)] at e
          cases e
      · refine Hn b hb fun z=>?_
        obtain ⟨q,hq,rfl⟩:=List.mem_map.mp z
        rw [hKT q hq] at e
        cases e)
    have hM:Mod K mg (zsv s₁.heap H):=⟨hKb,nsK hns,⟨mb,nsK hb,hbb⟩,let ⟨mc,h1,h2⟩:=hlim; ⟨mc,nsK h1,h2⟩⟩
    have e0:zsw P w K mg (zsv s₁.heap H) callerA [] s₁ H:=⟨rfl,hM,fun b o e=>zwe e,Nat.le_of_eq (zsq _ _),trivial,fun b hb=>absurd (show b∈([]:List Addr) from hb) (by simp),hok,.of_eq hg⟩
    have hBt:∀ q∈tabs,(zsv s₁.heap H).BuiltinsAt mg q.2:=fun q hq=>by
      obtain ⟨bm,o,a1,a2,a3,a4,a5,a6,a7⟩:=hBm
      refine ⟨bm,o,a1,a2,a3,fun z=>?_,base_of a4 (noA a4 (fun _ _ z=>by rw [a7] at z; cases z) (fun _ z=>by rw [a7] at z; cases z)),a5,a6,a7⟩
      rw [z,(hT q hq).2] at a4
      cases a4
      cases a7
    refine codeAny_mono ((F _ hKb (nsK hns) hBt).run callerA [] s₁ H ⟨[.ref a],[]⟩ [.ref a] [.ref a] _ _ hr e0 (hbind s₁ (.ref a)) (.cons rfl .nil) (hsp H (hS H Ha) Ht)) fun r s' h=>?_
    cases r with
    | error e=>exact False.elim h
    | ok fl =>
      cases fl with
      | next=>exact False.elim h
      | brk=>exact False.elim h
      | cont=>exact False.elim h
      | ret u =>
        obtain ⟨v,H',os,bare,un,hok',r',q⟩:=h
        have q':v = .bl true:=q
        subst q'
        obtain rfl:u=Value.bool true:=r'
        refine ⟨rfl,⟨fun b o e=>?_,fun b o e=>un.there b o e (by simp)⟩,os,bare⟩
        by_cases hb2:b∈tabs.map (·.2)
        · obtain ⟨q,hq,rfl⟩:=List.mem_map.mp hb2
          obtain ⟨more,z⟩:=un.tbls q.2 _ (Ht q hq)
          have z2:s'.heap.get? q.2=some { cls:= .none,data:= .fields (#[]++more) }:=hok' q.2 _ z
          have e2:=(hT q hq).2
          rw [e] at e2
          cases e2
          exact .inr (.inl ⟨((hT q hq).1.tab (hT q hq).2).isCodeTable,rfl,#[],more,rfl,z2⟩)
        · by_cases hb:b=a
          · subst hb
            rcases hO with z | ⟨ob,xs,z⟩
            · exact .inl (un.keep b o e (by rw [Ha]; exact z) (by intro z; exact absurd (show b∈([]:List Addr) from z) (by simp)) (by simp))
            · have z1:H b=some (.frz ob (.lst xs)):=by rw [Ha]; exact z
              have z2:=un.frzs b ob _ z1
              obtain ⟨e1,_⟩:=hok b _ z1
              obtain ⟨e2,_⟩:=hok' b _ z2
              rw [e] at e1
              cases e1
              exact .inl e2
          · exact .inl (un.keep b o e (Hn b hb hb2) (by intro z; exact absurd (show b∈([]:List Addr) from z) (by simp)) (by simp))
  cases hk:K.lookup a with
  | some o =>
    have e:=KX a o hk
    rw [ha] at e
    cases e
    exact core none (.inl rfl) (fun H _=> .inr ⟨_,vs.toArray,_,hk,rfl,rfl,rfl,by rw [List.size_toArray,lenV]; exact hl,by simpa using rv⟩) (fun u z=>by cases z) fun z=>absurd rfl z
  | none =>
    exact core (some (.frz { cls:= .type "list",data:= .seq vs.toArray } (.lst (ns.map V.int)))) (.inr ⟨_,_,rfl⟩) (fun H e=> .inl (.inr ⟨_,e⟩)) (fun u z H=>by cases z; exact ⟨ha,by rw [List.length_map]; exact hl,vs,_,rv,ha⟩) fun _=>hk
theorem walk_ofT {l:PySem.W.OpenLaw} {n k:Nat} {q:Program} {loose:List Str} {XP:(Str→Option Value)→Heap→Prop} {YP:World→Heap→Prop} {d:DefRec} {K:Params→PySem.W.Frag} {ts:List Addr} {sp:PySem.W.Frag→List (Addr × Addr)→Sp} {x:Str}
  (hn:l.most=some n) (hn2:n≤sizeLine) (hdf:d.params.defaults=[]) (hr:zfy k callerA)
  (hY:∀ (w:World) (h:Heap),YP w h→(K w.params).In h) (hYT:∀ (w:World) (h:Heap),YP w h→∀ P∈ts,h.get? P=some (PySem.W.tabObj #[]))
  (F:∀ (w:World) (mg:Str→Option Value) (fa:Addr) (h:Heap),(K w.params).In h→h.Ns mainGlobals mg→mg d.name=some (.ref fa) →
   ∃ (fd:FuncData) (tabs:List (Addr × Addr)),(∀ q∈tabs,q.2∈ts∧PySem.W.codeHdIn (K w.params) q.1 q.2=true∧(K w.params).lookup q.2=none)∧(∀ (s:Shared) (u:Value),BindsTo s fd ⟨[u],[]⟩ [(x,u)]) ∧
    ∀ base:Heap,(K w.params).In base→base.Ns mainGlobals mg→(∀ q∈tabs,base.BuiltinsAt mg q.2)→zbe l.prog w (K w.params) mg base CX0 k fa fd [x] (sp (K w.params) tabs))
  (hsp:∀ (K:PySem.W.Frag) (tabs:List (Addr × Addr)) (H:Hp) (a:Addr) (ns:List Int),ns.length≤n→SqL K H a (ns.map V.int)→(∀ q∈tabs,H q.2=some (.tbl #[]))→sp K tabs [.ref a] H (fun v _=>v = .bl true) fun _ _ _=>False) :
  PySem.W.WalkO q loose XP YP l.row.toRowW d [] (fun f vs=>PySem.call f vs):=by
 refine Att.attach_call hn hdf fun w s₀ s₁ mg mb fa o pm cd doc a vs ns G Y ho hd hcd hmg hobj hints hlen hg=>?_
 have KX:=hY w _ Y
 obtain ⟨fd,tabs,hT,hb,hF⟩:=F w mg fa _ KX G.T.g hmg
 have hBm:∃ bm o,mg "__builtins__" = some (.ref bm)∧bm≠builtinsNs∧bm≠mainGlobals∧s₁.heap.get? bm=some o∧o.cls = .type "module" ∧o.dict=some builtinsNs∧o.data = .plain:=by
  obtain ⟨bm,ob,b1,b2,b3,b4,b5,b6⟩:=G.T.bmain
  refine ⟨bm,ob,b1,b2,fun z=>?_,b3,b4,b5,b6⟩
  obtain ⟨o,es,ep,e,hd,_⟩:=G.T.g
  rw [z,e] at b3
  cases b3
  rw [hd] at b6
  cases b6
 exact zrl tabs (fun q hq=>⟨PySem.W.codeHd_of_K KX (hT q hq).2.1,hYT w _ Y _ (hT q hq).1⟩) (fun q hq=>(hT q hq).2.2) hBm KX G.T.g G.T.b G.T.builtins G.T.nolimit hg hobj hints (Nat.le_trans hlen hn2) hr hF hb (fun H hS hTt=>hsp _ tabs H a ns hlen hS hTt)
end L2
namespace L2
open PySem PySem.Spec PyProof.Rows
def NAs (K:PySem.W.Frag) (C:Addr):List Str→Prop
 | []=>True
 | a :: r=>zjb K C a∧NAs K C r
structure DfC (K:PySem.W.Frag) (mg:Str→Option Value) (x:Str) (as:List Str) where
 C:Addr
 hm:mg x=some (.ref C)
 cl:Cls K C
 na:NAs K C as
 mks:PySem.W.makesIn K C=true
 kp:PySem.W.keepIn K (.ref C)=true
structure DfM (K:PySem.W.Frag) (C:Addr) (m qual:Str) (st:Stmt) (ps:List Str) where
 f:Addr
 fd:FuncData
 fn:Fun K m qual st f fd
 me:zwt K C m f
 b:zex K fd ps []
theorem DfM.mk' {K:PySem.W.Frag} {mg:Str→Option Value} {x q:Str} {as ps:List Str} {st:Stmt} (D:DfC K mg x as) (I:DfM K D.C "__init__" q st ps):Mk K D.C I.f:=⟨D.mks,I.me.at_,I.me.fn,D.kp⟩
structure DfF (K:PySem.W.Frag) (mg:Str→Option Value) (x:Str) (st:Stmt) (ps:List Str) where
 f:Addr
 c:Addr
 P:Addr
 fd:FuncData
 ex:∃ (oc:Value) (od:Option Addr) (kV doc pm:Value) (an:Option Addr) (ct:Value) (osl:Array (Option Value)),
  fd=PySem.W.fnOf x x (za4 st) (za0 st) (zai st) .none kV doc pm an (.ref c) ct∧K.lookup f=some ⟨oc,od,.func fd,osl⟩
 cd:PySem.W.codeIn K (.ref c) x=true
 ch:PySem.W.codeHdIn K c P=true
 nt:K.lookup P=none
 kp:PySem.W.keepIn K (.ref f)=true
 hm:mg x=some (.ref f)
 b:zex K fd ps []
section
variable {P:Program} {w:World} {K:PySem.W.Frag} {mg:Str→Option Value} {base:Heap}
theorem DfF.ok {x:Str} {st:Stmt} {N ps fz:List Str} {k:Nat} {sp:Sp} (D:DfF K mg x st ps) (hK:K.In base) (S:za3 N ps (zai st)) (hfz:∀ x∈fz,(zai st).names.lookup x=some .cell) (len:∀ vs H Q E,sp vs H Q E→vs.length=ps.length)
  (hbody:∀ (A:Around) (outer:List Env) (s:Shared) (H:Hp) (vs:List V) (Q:VK) (E:XK),zfy k (A.deeper (envOfC x (zai st) s.heap.objs.size D.f (.ref D.c)))→sp vs H Q E →
   ∀ H1:Hp,zbf H H1→(∀ (i:Nat) y v,y∈fz→ps[i]? = some y→vs[i]? = some v→∃ c,(envOfC x (zai st) s.heap.objs.size D.f (.ref D.c)).cells.lookup y=some c∧zh0 H1 c v)→PySem.W.CodeHd base D.c D.P →
   ∃ t,PSs (zkz CX0 P w K mg base N x (zai st) D.f (.ref D.c) A outer s H E (fun y=> !fz.contains y)).nox (za0 st) t∧t { nx:=fun _ H'=>Q .non H',rt:=Q } (start N vs) H1) :
  zbe P w K mg base CX0 (k+1) D.f D.fd ps sp:=by
 have hC:=PySem.W.codeHd_of_K hK D.ch
 obtain ⟨f,c,T,fd,⟨oc,od,kV,doc,pm,an,ct,osl,rfl,lk⟩,cd,ch,nt,kp,hm,b⟩:=D
 exact zuw lk cd S hfz len fun A outer s H vs Q E hr hsp H1 sm hc=>hbody A outer s H vs Q E hr hsp H1 sm hc hC
end
def zxp (outer inner:Scope):Bool:=inner.names.all fun y=>y.2 != .free || (outer.names.lookup y.1 == some .cell || outer.names.lookup y.1 == some .free)
theorem zqp {X:Cx} {scope:Scope} (h:zxp X.env.scope scope=true):∀ y∈scope.names,y.2 = .free→X.env.kindOf y.1=some .cell∨X.env.kindOf y.1=some .free:=fun y hy hf=>by
 have q:=List.all_eq_true.mp h y hy
 rw [hf] at q
 simp at q
 exact q
theorem zpg {n:Int}:∀ {ns:List Int},n∈ns→ns.erase n=ns.eraseIdx (ns.idxOf n)
  | [],h=>nomatch h
  | a :: r,h=>by
    by_cases e:a=n
    · subst e
      simp
    · have h':n∈r:=by
        rcases List.mem_cons.mp h with z | z
        · exact absurd z.symm e
        · exact z
      have e':(a == n)=false:=by simpa using e
      rw [List.erase_cons,if_neg (by simpa using e),List.idxOf_cons,e',cond_false,List.eraseIdx_cons_succ,zpg h']
theorem zm9 {n:Int}:∀ {ns:List Int} {i:Nat} (h:i<ns.length),i<ns.idxOf n→ns[i]≠n
  | [],_,h,_=>nomatch h
  | a :: r,i,h,hi=>by
    rw [List.idxOf_cons] at hi
    by_cases e:a=n
    · subst e
      simp at hi
    · rw [show (a == n)=false by simpa using e,cond_false] at hi
      cases i with
      | zero=>exact e
      | succ i=>exact zm9 (ns:=r) (i:=i) (by simpa using h) (by omega)
theorem zik {α β:Type} (f:α→β):∀ (l:List α) (i:Nat),(l.map f).eraseIdx i=(l.eraseIdx i).map f
 | [],_=>rfl
 | _ :: _,0=>rfl
 | a :: r,i+1=>by simp [zik f r i]
def zv1:V→List V→Hp→VK→Prop:=fun x vs H Q=>∃ (l:Addr) (ns:List Int) (n:Int),x = .ref l∧vs=[.int n]∧H l=some (.lst (ns.map V.int))∧n∈ns∧Q .non (upd H l (.lst ((ns.erase n).map V.int)))
theorem zsb {X:Cx}:MtM X "list.remove" zv1:=by
 intro pins s σ H x vs v us Q I rx rv h
 obtain ⟨l,ns,n,rfl,rfl,hH,hn,q⟩:=h
 cases rx
 obtain ⟨u,rfl,t,rfl⟩:=rv.one
 obtain ⟨z,its,m,r,hl,e⟩:=I.lstM hH
 rw [List.length_map] at hl
 have at_:∀ i (hi:i<its.length),∃ t,its[i]=Value.int (ns[i]'(by omega)) t:=fun i hi=>by
  have hi':i<ns.length:=by omega
  obtain ⟨u,e1,e2⟩:=r.get (i:=i) (x:=V.int ns[i]) (by simp [hi'])
  obtain ⟨t,rfl⟩:=e2
  rw [List.getElem?_eq_getElem hi] at e1
  exact ⟨t,Option.some.inj e1⟩
 have hj:ns.idxOf n<ns.length:=List.idxOf_lt_length_of_mem hn
 refine call_meets F.slot_list_remove ⟨_,e,rfl⟩ F.entry_list_remove (F.args_list_remove_2 _ _)
  (MeetsSeq.list_remove l its.toArray m (.int n t) (fun y=>match y with | .int a _=>a == n | _=>false) (fun y hy=>?_) (ns.idxOf n) (by rw [List.size_toArray]; omega) ?_ (fun i hi hlt=>?_) (by rw [List.size_toArray,← hl]; simpa using z)) ⟨e,?_⟩
 ·have hy':y∈its:=by simpa using hy
  obtain ⟨i,hi,rfl⟩:=List.getElem_of_mem hy'
  obtain ⟨t',e'⟩:=at_ i hi
  rw [e']
  exact MeetsSeq.EqGives.int _ n t' t
 ·have hi:ns.idxOf n<its.length:=by omega
  obtain ⟨t',e'⟩:=at_ _ hi
  rw [List.getElem_toArray,e',List.getElem_idxOf]
  simp
 ·have hi':i<its.length:=by simpa using hi
  obtain ⟨t',e'⟩:=at_ i hi'
  rw [List.getElem_toArray,e']
  have:=zm9 (by omega) hlt
  simpa using this
 ·refine ⟨.non,_,I.lset (its':=its.eraseIdx (ns.idxOf n)) hH e ?_ ?_ ?_,rfl,q⟩
  ·show its.toArray.eraseIdxIfInBounds (ns.idxOf n)=_
   rw [List.eraseIdxIfInBounds_toArray]
  ·rw [zpg hn,← zik]
   exact r.eraseIdx _
  ·rw [List.length_map]
   have:=List.length_erase_of_mem hn
   rw [List.length_map] at z
   omega
theorem zkv {ns:List Int} {i:Nat} {y:V} (hi:(ns.map V.int)[i]? = some y):∃ n,n∈ns∧y=V.int n:=by
 obtain ⟨h1,h2⟩:=List.getElem?_eq_some_iff.mp hi
 rw [List.getElem_map] at h2
 exact ⟨_,List.getElem_mem _,h2.symm⟩
theorem zua {ns:List Int} {y:Int} {p:Int→Prop} (h:∀ x∈ns,p x) (hy:p y):∀ x∈ns++[y],p x:=fun x hx=>by
 rcases List.mem_append.mp hx with z | z
 ·exact h x z
 ·rw [List.mem_singleton.mp z]
  exact hy
theorem zbf.put {H H2:Hp} {p:Addr} {o:HO} (h:zbf H H2) (hp:H p=none):zbf H (upd H2 p o):=fun b u e=>by
 rw [zal (zap e hp)]
 exact h b u e
theorem zot {n:Int} {ns:List Int}:inV (V.int n) (ns.map V.int)=decide (n∈ns):=by
  unfold inV
  induction ns with
  | nil=>rfl
  | cons a r ih =>
    rw [List.map_cons,List.any_cons,ih]
    by_cases h:a=n
    · subst h
      simp [eqV]
    · simp [eqV,h,Ne.symm h]
theorem zjp:∀ ns:List Int,(ns.map V.int).all zlk=true
  | []=>rfl
  | a :: r=>by
    rw [List.map_cons,List.all_cons,zjp r]
    rfl
theorem ztk (ss:List Int) (lo hi:Option Int):∃ ts:List Int,zjv (ss.map V.int) lo hi=ts.map V.int∧ts.length≤ss.length:=by
 unfold zjv
 refine ⟨(ss.drop _).take _,by rw [← List.map_drop,← List.map_take],?_⟩
 rw [List.length_take,List.length_drop]
 omega
theorem zy1 (x:Int) (ns:List Int):zjv ((x :: ns).map V.int) (some 1) none=ns.map V.int:=by
 unfold zjv
 have e1:HT.sIx ((x :: ns).map V.int).length 0 (some 1)=1:=by
  have:=HT.sIx_nat ((x :: ns).map V.int).length 0 1
  rw [show ((1:Nat):Int)=1 from rfl] at this
  rw [this]
  simp
 rw [e1,HT.sIx_none,List.map_cons,List.drop_succ_cons,List.drop_zero]
 exact List.take_of_length_le (by simp)
def ztp (p:Addr) (H H':Hp):Prop:=∀ c o,H c=some o→c≠p→H' c=some o
structure zj2 (p:Prop):Prop where
 out:p
@[irreducible] def zyy (t u:TS):TS:=zz1 t u
theorem zsd {X:Cx} {st:Stmt} {zn5:List Stmt} {t u:TS} (h1:PS X st t) (h2:PSs X zn5 u):PSs X (st :: zn5) (zyy t u):=by
 unfold zyy
 exact zaq h1 h2
theorem mid {t u:TS} {D:ztr} {σ:St} {H:Hp} (Mid:St→Hp→Prop) (hu:∀ σ H,Mid σ H→u D σ H) (ht:∀ U:St→Hp→Prop,(∀ σ H,Mid σ H→U σ H)→t { D with nx:=U } σ H):zyy t u D σ H:=by
 unfold zyy
 exact ht (u D) hu
theorem SqL.keep {K:PySem.W.Frag} {H H':Hp} {a:Addr} {xs:List V} (h:SqL K H a xs) (hk:∀ o,(∀ ps,o≠ .tbl ps)→H a=some o→H' a=some o):SqL K H' a xs:=by
 rcases h with (h | ⟨o,h⟩) | h
 ·exact .inl (.inl (hk _ (fun _ z=>nomatch z) h))
 ·exact .inl (.inr ⟨o,hk _ (fun _ z=>nomatch z) h⟩)
 ·exact .inr h
theorem zpr {α:Type} (v:α) (vs:List α):atI (v :: vs) 0=some v:=zlf (xs:=v :: vs) (j:=0) rfl
end L2
namespace L2
open PySem PySem.Spec PyProof.Rows
section
variable {X:Cx}
end
theorem zel {K:PySem.W.Frag} {a D:Addr} {ns:List Int} {tc:TT} {Q:VK} {σr:St} {H:Hp} (p:Int→Bool) (hD:H D=none) (ha:SqL K H a (ns.map V.int)) (hlen:ns.length≤1000)
  (ht:∀ x∈ns,∀ H' (Qt:Bool→Hp→Prop),zbf H H'→(∀ H'',zbf H' H''→Qt (p x) H'')→tc (some (.int x) :: σr) H' Qt)
  (hq:∀ H',zbf H H'→H' D=some (.lst ((ns.filter p).map V.int))→Q (.ref D) H') :
  ztd (Itl K a) (zl8 0) tc (zy2 0) Q D (none :: σr) (upd H D (.lst [])):=by
 refine zst (xs:=ns.map V.int) (fun i σ H'=>∃ v,σ=v :: σr∧zbf H H'∧H' D=some (.lst (((ns.take i).filter p).map V.int))) ⟨none,rfl,zbf.new H hD,zam⟩ (fun i σ H' _ ⟨v,_,s,_⟩=>s.seq ha) ?_ ?_
 ·rintro i x σ H' hi ⟨v,rfl,s,hd⟩
  obtain ⟨h1,h2⟩:=List.getElem?_eq_some_iff.mp hi
  rw [List.getElem_map] at h2
  subst h2
  rw [List.length_map] at h1
  have et:ns.take (i+1)=ns.take i++[ns[i]]:=by rw [List.take_succ_eq_append_getElem h1]
  refine ht ns[i] (List.getElem_mem h1) H' _ s fun H'' s2=>?_
  have hd2:=s2 _ _ hd
  by_cases hp:p ns[i]=true
  ·rw [if_pos hp]
   refine ⟨_,rfl,_,hd2,?_,⟨_,rfl,(s.trans s2).put hD,?_⟩⟩
   ·rw [List.length_map]
    have:=List.length_filter_le p (ns.take i)
    rw [List.length_take] at this
    exact zbu (by omega)
   ·rw [zam,et,List.filter_append,List.map_append]
    simp [hp]
  ·rw [if_neg hp]
   refine ⟨_,rfl,s.trans s2,?_⟩
   rw [hd2,et,List.filter_append]
   simp [hp]
 ·rintro σ H' ⟨v,rfl,s,hd⟩
  rw [List.length_map,List.take_length] at hd
  exact hq H' s hd
section
variable {X:Cx} {K:PySem.W.Frag}
end
end L2
namespace L2
open PySem PySem.Spec PyProof.Rows
def Ris (xs:Array Nat):Prop:=∀ (i k:Nat) (hk:k<xs.size) (hi:i<k),xs[i]<xs[k]
theorem Ris.list {xs:Array Nat} (h:Ris xs):xs.toList.Pairwise (· < ·):=List.pairwise_iff_getElem.mpr fun i k hi hk hik=>by
 have:=h i k (by simpa using hk) hik
 simpa using this
structure zzi (led:Bool) (t:SetTable):Prop where
 ris:Ris t.place
 led:t.led=led
end L2
namespace L2
open PySem PySem.Spec PyProof.Rows
def zy0 (w:World):Bool:= !w.params.followText "set-order"
def zy6 (P:Program) (w:World) (h:Heap) (a:Addr) (ks:List Int):Prop :=
 ∃ o es ep t,h.get? a=some o∧o.ExactSet∧o.data = .set es ep t∧ElemsOf (intKind P w) es.toList∧(∀ k,k∈ks↔∃ e∈es.toList,(intKind P w).is k e.2=true)∧es.size<scanBound∧t.fits es.size=true∧es.size=ks.length∧zzi (zy0 w) t
section
variable {P:Program} {w:World} {A:Around} {E:Value→Shared→Prop} {s:Shared}
theorem zy6.keep {h h':Heap} {a:Addr} {ks:List Int} (x:zy6 P w h a ks) (k:∀ o,h.get? a=some o→h'.get? a=some o):zy6 P w h' a ks:=by
 obtain ⟨o,es,ep,t,ho,r⟩:=x
 exact ⟨o,es,ep,t,k o ho,r⟩
set_option maxHeartbeats 4000000 in
end
end L2
namespace L2
open PySem PySem.Spec PyProof.Rows
namespace SF
end SF
def zz_ (h:Heap) (it a:Addr) (first:Value) (i n ep:Nat):Prop:=∃ o,h.get? it=some o∧o.cls = .type "set_iterator" ∧o.data = .fields #[first,.int i 0,.ref a,.int n 0,.int ep 0]
section
variable {P:Program} {w:World} {A:Around} {E:Value→Shared→Prop} {s:Shared}
theorem zz_.typeIs {it a:Addr} {f:Value} {i n ep:Nat} (x:zz_ s.heap it a f i n ep):s.TypeIs (.ref it) "set_iterator" :=let ⟨o,ho,hc,_⟩:=x; ⟨o,ho,hc⟩
end
end L2
namespace L2
open PySem PySem.Spec PyProof.Rows
section
variable {P:Program} {w:World} {A:Around} {E:Value→Shared→Prop}
end
end L2
namespace L2
open PySem PySem.Spec PyProof.Rows
section
variable {P:Program} {w:World} {A:Around} {E:Value→Shared→Prop}
end
end L2
namespace L2
open PySem PySem.Spec PyProof.Rows
section
variable {P:Program} {w:World} {A:Around} {E:Value→Shared→Prop}
end
def zb_ (ns:List Int):List Int:=ns.mergeSort (fun a b=>decide (a≤b))
theorem zdu (ns:List Int):(zb_ ns).Perm ns:=List.mergeSort_perm _ _
theorem zil (ns:List Int):(zb_ ns).Pairwise (· ≤ ·):=by
 have h:=List.pairwise_mergeSort (le:=fun a b:Int=>decide (a≤b)) (by intro a b c h1 h2; simp at *; omega) (by intro a b; simp; omega) ns
 exact h.imp fun h=>by simpa using h
theorem zmm:∀ {a b:List Int},a.Perm b→a.Pairwise (· ≤ ·)→b.Pairwise (· ≤ ·)→a=b
  | [],b,p,_,_=>(List.nil_perm.mp p).symm
  | x :: r,[],p,_,_=>absurd p.symm (by intro z; exact absurd (List.nil_perm.mp z) (by simp))
  | x :: r,y :: q,p,h1,h2=>by
    obtain ⟨hx,hr⟩:=List.pairwise_cons.mp h1
    obtain ⟨hy,hq⟩:=List.pairwise_cons.mp h2
    have e:x=y:=by
      have m1:x∈y :: q:=p.subset (.head _)
      have m2:y∈x :: r:=p.symm.subset (.head _)
      rcases List.mem_cons.mp m1 with e | m1
      · exact e
      · rcases List.mem_cons.mp m2 with e | m2
        · exact e.symm
        · have:=hx y m2
          have:=hy x m1
          omega
    subst e
    rw [zmm (List.Perm.cons_inv p) hr hq]
theorem zlh {a b:List Int} (p:a.Perm b) (h:a.Pairwise (· ≤ ·)):a=zb_ b:=zmm (p.trans (zdu b).symm) h (zil b)
theorem zd2 (ns:List Int):(zb_ ns).length=ns.length:=(zdu ns).length_eq
section
variable {X:Cx}
theorem zg8:zgy X (.builtin "sorted") (fun xs H Q=>∃ (p:Addr) (ns:List Int),xs=[.ref p]∧SqL X.K H p (ns.map V.int)∧ns.length<64∧∀ l,H l=none→Q (.ref l) (upd H l (.lst ((zb_ ns).map V.int)))):=by
 intro pins s σ H xs us Q I r h
 obtain ⟨p,ns,rfl,hq,hl,q⟩:=h
 obtain ⟨u,rfl,ru⟩:=zn3 r
 cases (show u=Value.ref p from ru)
 obtain ⟨its,rv,pl,hz⟩:=I.list hq
 have hi:IntsAre its ns:=zkq rv
 have hlen:=hi.length
 refine sorted_ints (vs:=its) pl.isList hi (by omega) fun out ns' a1 a2 a3=>?_
 obtain ⟨e,he⟩:=sortedAll_at s.heap its out
 have e2:=zlh a2 a3
 subst e2
 refine ⟨.ref (s.heap.objs.size+1),_,I.laid (a:=s.heap.objs.size+1) (o:= .lst ((zb_ ns).map V.int)) (t':=s.toks) (fun b o e=>sortedAll_old e) (Nat.le_succ _) ?_,rfl,q _ (I.hok.fresh (Nat.le_succ _))⟩
 exact ⟨by rw [List.length_map,zd2]; exact Nat.le_trans (Nat.le_of_lt hl) (by decide),out.toList,e,zgb a1,he⟩
end
end L2
namespace L2
open PySem PySem.Spec PyProof.Rows
section
variable {X:Cx}
def FnV (K:PySem.W.Frag) (H:Hp) (f:Addr) (fd:FuncData):Prop:=(∃ fo k0,H f=some (.frz fo k0)∧fo.data = .func fd)∨∃ oc od osl,K.lookup f=some ⟨oc,od,.func fd,osl⟩
theorem FnV.same {K:PySem.W.Frag} {H H':Hp} {f:Addr} {fd:FuncData} (h:FnV K H f fd) (s:zbf H H'):FnV K H' f fd:=by
 rcases h with ⟨fo,k0,h1,h2⟩ | h
 ·exact .inl ⟨fo,k0,s _ _ h1,h2⟩
 ·exact .inr h
theorem FnV.at {pins:List (Addr × Obj)} {σ:St} {H:Hp} {s:Shared} {f:Addr} {fd:FuncData} (I:Inv X pins σ H s) (h:FnV X.K H f fd):PySem.W.FnAt f s.heap:=by
 rcases h with ⟨fo,k0,h1,h2⟩ | ⟨oc,od,osl,h⟩
 ·obtain ⟨z,_⟩:=I.hok f _ h1
  obtain ⟨oc,od,dt,sl⟩:=fo
  cases (show dt=Data.func fd from h2)
  exact ⟨oc,od,fd,sl,z⟩
 ·exact ⟨oc,od,fd,osl,I.kIn _ _ h⟩
def zxo (K:PySem.W.Frag) (R:Addr→FuncData→Prop) (sp:Addr→FuncData→Sp) (tf:TE) (t:TA):TE:=fun σ H Q=>tf σ H fun v H1=>∃ f fd,v = .ref f∧FnV K H1 f fd∧R f fd∧t σ H1 fun vs H2=>FnV K H2 f fd∧sp f fd vs H2 Q E0
theorem zs1 {x:Str} {p pos:Pos} {e:Expr} {es:List Expr} {tf:TE} {t:TA} {k:Nat} {ps:List Str} {R:Addr→FuncData→Prop} {sp:Addr→FuncData→Sp} (hfe:PE X (.Name x p) tf)
  (G:∀ f fd,R f fd→zbe X.prog X.w X.K X.mg X.base CX0 k f fd ps (sp f fd)) (hb:∀ f fd,R f fd→zex X.K fd ps []) (hr:zfy k X.A) (ha:PA X (e :: es) t)
  (he:starEach (e :: es) X.env=(false,eval e X.env) :: starEach es X.env:=by rfl) (hpl:(backTo pos (starEach es X.env)).any (·.1)=false:=by rfl) :
  PE X (.Call (.Name x p) (e :: es) [] pos) (zxo X.K R sp tf t):=by
 intro pins s σ H Q I h
 refine wpAny_Call_Name_kw (thn (hfe pins s σ H _ I h) fun u s1 ⟨v,H1,I1,r,f,fd,ev,hz,hR,q⟩=>?_)
 subst ev
 cases (show u=Value.ref f from r)
 refine PySem.W.callWith_F (hz.at I1) (thn (ha pos pins s1 σ H1 _ I1 q) fun us s2 ⟨vs,H2,I2,r2,hz2,q2⟩=>⟨hz2.at I2,?_⟩) he hpl
 exact zow (dvs:=[]) (ds:=[]) (G f fd hR) hr (hb f fd hR) .nil zbm I2 r2 (by rw [List.append_nil]; exact q2)
end
structure ztg (K:PySem.W.Frag) (C:Addr) (m qual:Str) (st:Stmt) (ps:List Str) (ds:List Value) where
 f:Addr
 fd:FuncData
 ex:∃ (oc:Value) (od:Option Addr) (dV kV doc pm:Value) (an:Option Addr) (cdv ct:Value) (osl:Array (Option Value)),
  fd=PySem.W.fnOf m qual (za4 st) (za0 st) (zai st) dV kV doc pm an cdv ct∧K.lookup f=some ⟨oc,od,.func fd,osl⟩∧PySem.W.codeIn K cdv qual=true
 me:zwt K C m f
 b:zex K fd ps []
 bd:zex K fd ps ds
theorem ztg.ok {P:Program} {w:World} {K:PySem.W.Frag} {mg:Str→Option Value} {base:Heap} {C:Addr} {x qual:Str} {st:Stmt} {N ps:List Str} {ds:List Value} {k:Nat} {sp:Sp} (D:ztg K C x qual st ps ds) (S:za3 N ps (zai st)) (len:∀ vs H Q E,sp vs H Q E→vs.length=ps.length)
  (hbody:∀ (cdv:Value) (A:Around) (outer:List Env) (s:Shared) (H:Hp) (vs:List V) (Q:VK) (E:XK),zfy k (A.deeper (envOfC qual (zai st) s.heap.objs.size D.f cdv))→sp vs H Q E →
   ∃ t,PSs (zkz CX0 P w K mg base N qual (zai st) D.f cdv A outer s H E).nox (za0 st) t∧t { nx:=fun _ H'=>Q .non H',rt:=Q } (start N vs) H):zbe P w K mg base CX0 (k+1) D.f D.fd ps sp:=by
 obtain ⟨f,fd,⟨oc,od,dV,kV,doc,pm,an,cdv,ct,osl,rfl,lk,hcd⟩,me,b,bd⟩:=D
 refine zs4 lk hcd S len fun A outer s H vs Q E hr hsp=>?_
 obtain ⟨t,h,q⟩:=hbody cdv A outer s H vs Q E hr hsp
 exact ⟨t,h.nox,q⟩
theorem zvk {us:List Value} {v:Value} (h:(us++[v]).length=3):∃ a b,us=[a,b]:=by
 rw [List.length_append] at h
 match us,h with
 | [a,b],_=>exact ⟨a,b,rfl⟩
end L2
namespace L2
open PySem PySem.Spec PyProof.Rows
section
variable {X:Cx}
end
end L2
namespace L2
open PySem PySem.Spec PyProof.Rows
structure zh1 (name qual:Str) (params:Arguments) (body:Expr) (scope:Scope) (cells:List (Str × Addr)) (fo:Obj) (clos:List (Str × Addr)) (c':Addr):Prop where
 ob:∃ pm ctv,fo=PySem.W.kla_obj name qual params body scope clos pm c' ctv
 sub:∀ x c,clos.lookup x=some c→cells.lookup x=some c
 free:∀ x c,clos.lookup x=some c→(x,NameKind.free)∈scope.names
 all:∀ y∈scope.names,y.2 = .free→∃ c,clos.lookup y.1=some c
 inj:∀ x y c,clos.lookup x=some c→clos.lookup y=some c→x=y
structure zw2 (H:Hp) (f:Addr) (name qual:Str) (params:Arguments) (body:Expr) (scope:Scope) (fr:List Str) (cv:List V) (fd:FuncData):Prop where
 ex:∃ fo cells clos c' oc k k',H f=some (.frz fo k)∧zh1 name qual params body scope cells fo clos c'∧fo.data = .func fd∧fd.closure=clos∧fd.code = .ref c'∧H c'=some (.frz oc k')∧ze3 oc qual ∧
  ∀ (i:Nat) x v,fr[i]? = some x→cv[i]? = some v→∃ c,clos.lookup x=some c∧zh0 H c v
theorem zw2.same {H H':Hp} {f:Addr} {name qual:Str} {params:Arguments} {body:Expr} {scope:Scope} {fr:List Str} {cv:List V} {fd:FuncData} (x:zw2 H f name qual params body scope fr cv fd) (h:∀ a o k,H a=some (.frz o k)→H' a=some (.frz o k)) :
  zw2 H' f name qual params body scope fr cv fd:=by
 obtain ⟨fo,cells,clos,c',oc,k,k',e1,s,e2,e3,e4,e5,cs,hv⟩:=x.ex
 exact ⟨fo,cells,clos,c',oc,k,k',h _ _ _ e1,s,e2,e3,e4,h _ _ _ e5,cs,fun i y v a b=>let ⟨c,q,z⟩:=hv i y v a b; ⟨c,q,z.same fun o k=>h c o k⟩⟩
def zz2 (cells:List (Str × Addr)) (P:Addr) (name qual:Str) (params:Arguments) (body:Expr) (scope:Scope) (pos:Pos):TE:=fun σ H Q=>∃ ps,H P=some (.tbl ps)∧TriplesOk ps.toList ∧
  ((codeAmong pos ps.toList=none∧∀ f c' fo oc clos,H f=none→H c'=none→f≠c'→f≠P→c'≠P→zh1 name qual params body scope cells fo clos c'→ze3 oc qual →
      Q (.ref f) (upd (upd (upd H P (.tbl (ps ++ #[rawInt pos.line,rawInt pos.col,.ref c']))) c' (.frz oc (.own c'))) f (.frz fo (.own f)))) ∨
   (∃ c' oc k,codeAmong pos ps.toList=some (.ref c')∧H c'=some (.frz oc k)∧ze3 oc qual∧∀ f fo clos,H f=none→zh1 name qual params body scope cells fo clos c'→Q (.ref f) (upd H f (.frz fo (.own f)))))
section
variable {X:Cx}
theorem zxt {params:Arguments} {body:Expr} {scope:Scope} {pos:Pos} {c P:Addr} (hcode:X.env.code = .ref c) (hC:PySem.W.CodeHd X.base c P) (hB:X.base.BuiltinsAt X.mg P)
  (hfr:∀ y∈scope.names,y.2 = .free→X.env.kindOf y.1=some .cell∨X.env.kindOf y.1=some .free) (hdef:defaultsOf params X.env=([],[]):=by rfl) :
  PE X (.Lambda params body scope pos) (zz2 X.env.cells P "<lambda>" (X.env.qual ++ "<lambda>") params body scope pos):=by
 intro pins s σ H Q I h
 obtain ⟨ps,hP,ht,h⟩:=h
 obtain ⟨cl,hclos,hcl,hcl2,hcl3⟩:=zj9 (scope:=scope) (env:=X.env) (fun y hy hf=>I.ok.has y.1 (hfr y hy hf))
 have hPo:s.heap.get? P=some (PySem.W.tabObj ps):=I.hok P _ hP
 have hg:s.heap.Ns mainGlobals X.mg:=I.ok.mod.glob.keeps I.bk
 have hgP:mainGlobals≠P:=fun q=>by
  obtain ⟨o,es,ep,e,hd,_⟩:=hg
  rw [q,hPo] at e
  cases e
  cases hd
 have hBs:s.heap.BuiltinsAt X.mg P:=by
  obtain ⟨bm,o,a1,a2,a3,a4,a5,a6⟩:=hB
  exact ⟨bm,o,a1,a2,a3,a4,I.bk _ _ a5,a6⟩
 have hsh:∀ {ctv:Value} {c':Addr},zh1 "<lambda>" (X.env.qual ++ "<lambda>") params body scope X.env.cells (PySem.W.kla_obj "<lambda>" (X.env.qual ++ "<lambda>") params body scope cl ((X.mg "__name__").getD .none) c' ctv) cl c' :=
  fun {ctv c'}=>⟨⟨_,ctv,rfl⟩,hcl,hcl3,hcl2,fun x y d h1 h2=>I.ok.inj x y d (hcl x d h1) (hcl y d h2)⟩
 refine PySem.W.kla_eval hdef ?_
 rcases h with ⟨hnone,h⟩ | ⟨c',oc,k,hsome,hc',hcs,h⟩
 ·refine PySem.W.kla_makeFunction hclos I.ok.glob hg hcode (hC.keeps I.bk) hPo ht hnone hgP hBs fun c' ctv h' tk hx' hge hlt hrec htb=>?_
  obtain ⟨c2,oc,vs,t,e2,hoc,hdc,hvc⟩:=hrec
  cases e2
  have fr1:H c'=none:=I.hok.fresh hge
  have fr2:H h'.objs.size=none:=I.hok.fresh (Nat.le_trans hge (Nat.le_of_lt hlt))
  have n1:h'.objs.size≠c':=Nat.ne_of_gt hlt
  have n2:h'.objs.size≠P:=fun z=>by rw [z,hP] at fr2; cases fr2
  have n3:c'≠P:=fun z=>by rw [z,hP] at fr1; cases fr1
  have q:=h h'.objs.size c' _ oc cl fr2 fr1 n1 n2 n3 (hsh (ctv:=ctv)) ⟨vs,t,hdc,hvc⟩
  have neP:∀ b,H b=none→b≠P:=fun b e z=>by rw [z,hP] at e; cases e
  have kp:∀ b o,b≠P→s.heap.get? b=some o→(h'.push (PySem.W.kla_obj "<lambda>" (X.env.qual ++ "<lambda>") params body scope cl ((X.mg "__name__").getD .none) c' ctv)).get? b=some o:=fun b o hb e=>Heap.get?_push_of_some _ (hx' b o hb e)
  have other:∀ b u,H b=some u→b≠P→(upd (upd (upd H P (.tbl (ps ++ #[rawInt pos.line,rawInt pos.col,.ref c']))) c' (.frz oc (.own c'))) h'.objs.size (.frz (PySem.W.kla_obj "<lambda>" (X.env.qual ++ "<lambda>") params body scope cl ((X.mg "__name__").getD .none) c' ctv) (.own h'.objs.size))) b=some u:=fun b u e hb=>by
   rw [zal (zap e fr2),zal (zap e fr1),zal hb]
   exact e
  have I2:Inv X pins σ (upd (upd (upd H P (.tbl (ps ++ #[rawInt pos.line,rawInt pos.col,.ref c']))) c' (.frz oc (.own c'))) h'.objs.size (.frz (PySem.W.kla_obj "<lambda>" (X.env.qual ++ "<lambda>") params body scope cl ((X.mg "__name__").getD .none) c' ctv) (.own h'.objs.size)))
    { s with heap:=h'.push (PySem.W.kla_obj "<lambda>" (X.env.qual ++ "<lambda>") params body scope cl ((X.mg "__name__").getD .none) c' ctv),toks:=tk }:=by
   refine I.step (g':=s.gens) (d':=s.drawn) (ch:=[]) (fun _ z=>nomatch z) (fun b o _ _ _ e n=>kp b o (neP b n) e) (fun b o _ _ _ e n=>⟨o.slots,kp b o (neP b n) e⟩) (fun b o _ e n=>?_) (fun b o _ e=>?_)
    (fun b xs e=>other b _ e (fun z=>by rw [z,hP] at e; cases e)) (fun b o u e=>other b _ e (fun z=>by rw [z,hP] at e; cases e)) (fun b qs e=>?_) (fun m hm=>?_) (fun b u e=>?_) I.bare
   ·have lt:=Heap.lt_size e
    rw [zal (Nat.ne_of_lt (Nat.lt_of_lt_of_le lt (Nat.le_trans hge (Nat.le_of_lt hlt)))),zal (Nat.ne_of_lt (Nat.lt_of_lt_of_le lt hge)),zal (neP b n)]
    exact n
   ·by_cases hb:b=P
    ·exact ⟨_,by rw [hb]; exact Heap.get?_push_of_some _ htb⟩
    ·exact ⟨o,kp b o hb e⟩
   ·by_cases hb:b=P
    ·subst hb
     rw [hP] at e
     cases e
     exact ⟨_,by rw [zal n2.symm,zal n3.symm,zam]⟩
    ·exact ⟨#[],by rw [other b _ e hb]; simp⟩
   ·obtain ⟨o,es,ep,ho,r⟩:=hm
    exact ⟨o,es,ep,kp _ o (neP _ I.free) ho,r⟩
   ·by_cases hb1:b=h'.objs.size
    ·subst hb1
     rw [zam] at e
     cases e
     exact ⟨Heap.get?_push_size _ rfl,_,Heap.get?_push_size _ rfl⟩
    ·rw [zal hb1] at e
     by_cases hb2:b=c'
     ·subst hb2
      rw [zam] at e
      cases e
      exact ⟨Heap.get?_push_of_some _ hoc,_,Heap.get?_push_of_some _ hoc⟩
     ·rw [zal hb2] at e
      by_cases hb3:b=P
      ·subst hb3
       rw [zam] at e
       cases e
       exact Heap.get?_push_of_some _ htb
      ·rw [zal hb3] at e
       refine (I.hok b u e).stay (fun d v hd qd=>kp d v ?_ qd) (fun d qd=>other d _ qd (fun z=>by rw [z,hP] at qd; cases qd)) fun d xs qd=>other d _ qd (fun z=>by rw [z,hP] at qd; cases qd)
       rcases hd with z | z
       ·rw [z]
        exact hb3
       ·exact fun y=>by rw [y,hP] at z; cases z
  exact ⟨.ref h'.objs.size,_,I2,rfl,q⟩
 ·refine PySem.W.kla_makeFunctionHit hclos I.ok.glob hg hcode (hC.keeps I.bk) hPo ht hsome hBs fun ctv h' tk hk hsz=>?_
  have q:=h h'.objs.size _ cl (I.hok.fresh hsz) (hsh (ctv:=ctv))
  have I2:=I.laid (a:=h'.objs.size) (o:= .frz (PySem.W.kla_obj "<lambda>" (X.env.qual ++ "<lambda>") params body scope cl ((X.mg "__name__").getD .none) c' ctv) (.own h'.objs.size)) (t':=tk)
   (h':=h'.push (PySem.W.kla_obj "<lambda>" (X.env.qual ++ "<lambda>") params body scope cl ((X.mg "__name__").getD .none) c' ctv)) (fun b u e=>Heap.get?_push_of_some _ (hk b u e)) hsz ⟨Heap.get?_push_size _ rfl,_,Heap.get?_push_size _ rfl⟩
  exact ⟨.ref h'.objs.size,_,I2,rfl,q⟩
end
theorem zvq {cells:List (Str × Addr)} {P:Addr} {name qual:Str} {params:Arguments} {body:Expr} {scope:Scope} {pos:Pos} {Q:VK} {σ:St} {H:Hp} (T:Tab H P pos qual)
  (k:∀ f H' fo clos c' oc k1 k2,(∀ b o,b≠P→H b=some o→H' b=some o)→Tab H' P pos qual→H f=none→H' f=some (.frz fo k1)→zh1 name qual params body scope cells fo clos c'→H' c'=some (.frz oc k2)→ze3 oc qual →
   Q (.ref f) H'):zz2 cells P name qual params body scope pos σ H Q:=by
 obtain ⟨ps,hP,ht,z⟩:=T
 refine ⟨ps,hP,ht,?_⟩
 rcases z with z | ⟨c',oc,k0,z1,z2,z3⟩
 ·refine .inl ⟨z,fun f c' fo oc clos hf hc n1 n2 n3 sh cs=>?_⟩
  refine k f _ fo clos c' oc _ _ (fun b o hb e=>?_) ⟨_,by rw [zal n2.symm,zal n3.symm,zam],?_,.inr ⟨c',oc,_,?_,by rw [zal n1.symm,zam],cs⟩⟩ hf zam sh (by rw [zal n1.symm,zam]) cs
  ·rw [zal (zap e hf),zal (zap e hc),zal hb]
   exact e
  ·rw [Array.toList_append]
   exact zim rfl rfl ht
  ·rw [Array.toList_append]
   exact codeAmong_snoc _ ht z
 ·refine .inr ⟨c',oc,k0,z1,z2,z3,fun f fo clos hf sh=>?_⟩
  refine k f _ fo clos c' oc _ _ (fun b o _ e=>by rw [zal (zap e hf)]; exact e) ⟨ps,by rw [zal (zap hP hf)]; exact hP,ht,.inr ⟨c',oc,k0,z1,by rw [zal (zap z2 hf)]; exact z2,z3⟩⟩ hf zam sh (by rw [zal (zap z2 hf)]; exact z2) z3
def RLm (name qual:Str) (params:Arguments) (body:Expr) (scope:Scope) (_:Addr) (fd:FuncData):Prop:=∃ clos pm c' ct,fd=PySem.W.kla_fn name qual params body scope clos pm (.ref c') ct
theorem zwy {name qual:Str} {params:Arguments} {body:Expr} {scope:Scope} {cells clos:List (Str × Addr)} {fo oc:Obj} {c' f:Addr} {k1 k2:HO} {H':Hp} {fr:List Str} {cv:List V} (sh:zh1 name qual params body scope cells fo clos c')
  (hf:H' f=some (.frz fo k1)) (hc':H' c'=some (.frz oc k2)) (cs:ze3 oc qual) (hfr:∀ (i:Nat) x v,fr[i]? = some x→cv[i]? = some v→(x,NameKind.free)∈scope.names∧∃ c,cells.lookup x=some c∧zh0 H' c v) :
  ∃ fd,fo.data = .func fd∧RLm name qual params body scope f fd∧zw2 H' f name qual params body scope fr cv fd:=by
 obtain ⟨pm,ctv,hfo⟩:=id sh.ob
 have hd:fo.data = .func (PySem.W.kla_fn name qual params body scope clos pm (.ref c') ctv):=by rw [hfo]
 refine ⟨_,hd,⟨clos,pm,c',ctv,rfl⟩,⟨fo,cells,clos,c',oc,k1,k2,hf,sh,hd,rfl,rfl,hc',cs,fun i x v h1 h2=>?_⟩⟩
 obtain ⟨hx,c,hc,hv⟩:=hfr i x v h1 h2
 obtain ⟨c2,e2⟩:=sh.all (x,.free) hx rfl
 have e3:=sh.sub x c2 e2
 rw [hc] at e3
 cases e3
 exact ⟨c,e2,hv⟩
section
variable {P:Program} {w:World} {K:PySem.W.Frag} {mg:Str→Option Value} {base:Heap}
theorem zxy {k:Nat} {f:Addr} {name qual:Str} {params:Arguments} {body:Expr} {scope:Scope} {fd:FuncData} {N ps fr:List Str} {sp:List V→Sp} (S:zpn N ps fr scope)
  (len:∀ cv vs H Q E,sp cv vs H Q E→vs.length=ps.length)
  (hbody:∀ (clos:List (Str × Addr)) (cdv:Value) (A:Around) (outer:List Env) (s:Shared) (H:Hp) (cv vs:List V) (Q:VK) (E:XK),zfy k (A.deeper (zo1 qual scope clos s.heap.objs.size f cdv))→cv.length=fr.length→sp cv vs H Q E →
   ∃ t,PE (zwa P w K mg base N qual scope clos f cdv A outer s H) body t∧t ((vs++cv).map some++List.replicate (N.length - (ps++fr).length) none) H Q) :
  zbe P w K mg base CX0 (k+1) f fd ps (fun vs H Q E=>∃ cv,cv.length=fr.length∧zw2 H f name qual params body scope fr cv fd∧sp cv vs H Q E):=by
 refine ⟨fun vs H Q E h=>let ⟨cv,_,_,q⟩:=h; len cv vs H Q E q,fun A outer s H args us vs Q E hr e0 hb r hsp=>?_⟩
 obtain ⟨cv,hcl,FV,hsp⟩:=hsp
 obtain ⟨fo,cells,clos,c',oc,k1,k2,e1,SH,e2,e3,e4,e5,cs,hv⟩:=FV.ex
 obtain ⟨pm,ctv,hfo⟩:=SH.ob
 have hl:=len _ _ _ _ _ hsp
 have hlu:us.length=ps.length:=by rw [← hl]; exact r.length.symm
 have lim:s.heap.NoLimit:=e0.mod.nolimit.keeps fun b o e=>(e0.bs b o e).1
 obtain ⟨hf,_⟩:=e0.hok f _ e1
 obtain ⟨hc,_⟩:=e0.hok c' _ e5
 have hfd:fd=PySem.W.kla_fn name qual params body scope clos pm (.ref c') ctv:=by
  have z:Data.func fd=Data.func (PySem.W.kla_fn name qual params body scope clos pm (.ref c') ctv):=by rw [← e2,hfo]
  exact Data.func.inj z
 obtain ⟨vs1,t1,q1,q2⟩:=cs
 subst hfd
 have ndP:ps.Nodup:=by
  have z:(ps++fr).Nodup:=by rw [← S.pre]; exact S.nd.sublist (List.take_sublist _ _)
  exact (List.nodup_append.mp z).1
 have hlen:(ps++fr).length≤N.length:=by have:=congrArg List.length S.pre; rw [List.length_take] at this; omega
 refine PySem.W.kla_callFunE hr.depth hf e2 S.co S.gen rfl ⟨c',oc,vs1,t1,rfl,hc,q1,q2⟩ (hb _ _ _ _ ?_)
 refine wpAny_newFunctionEnv S.nocell (fun y hy=>S.par y.1 (List.of_mem_zip hy).1) (fun h1 hns hsb=>?_) S.kind
 have kp:∀ b o,s.heap.get? b=some o→h1.get? b=some o:=fun b o e=>(hsb.2 b (Nat.ne_of_lt (Heap.lt_size e))).trans (Heap.get?_push_of_some _ e)
 refine ⟨lim.keeps kp,PySem.W.kla_codeExpr ?_⟩
 obtain ⟨t,ht,hq⟩:=hbody clos (.ref c') A outer s H cv vs Q E (hr.deeper _) hcl hsp
 have noA:∀ b:Addr,b∉(zwa P w K mg base N qual scope clos f (.ref c') A outer s H).ex:=fun b z=>absurd (show b∈([]:List Addr) from z) (by simp)
 have kcell:∀ x c,clos.lookup x=some c→∃ v,zh0 H c v:=fun x c e=>by
  have hx:=S.allfr _ (SH.free x c e) rfl
  obtain ⟨i,hi⟩:=List.getElem?_of_mem hx
  have:i<cv.length:=by rw [hcl]; exact (List.getElem?_eq_some_iff.mp hi).1
  obtain ⟨c2,z1,z2⟩:=hv i x cv[i] hi (by simp [this])
  rw [e] at z1
  cases z1
  exact ⟨_,z2⟩
 have I:Inv (zwa P w K mg base N qual scope clos f (.ref c') A outer s H) [] ((vs++cv).map some++List.replicate (N.length - (ps++fr).length) none) H { s with heap:=h1,toks:=s.toks+(ps.zip us).length }:=by
  refine ⟨⟨e0.mod,S.kind,rfl,rfl,Nat.le_refl _,SH.inj,fun y hy=>?_,fun y c z=>absurd z Bool.false_ne_true,fun _=>hr.hd,Around.frames_deeper e0.frames,.inr ⟨rfl,rfl⟩,fun b z=>absurd z (noA b),e0.bs,e0.bsz,fun b _ _=>noA b,fun b z=>absurd z (noA b),e0.funs,e0.frf⟩,
   rfl,e0.bare,Un.kept kp,⟨_,hns,fun i y v g1 g2 g3=>?_⟩,fun y c e=>?_,e0.hok.fresh (Nat.le_refl _),fun y c e=>?_,fun p hp=>absurd (show p∈([]:List (Addr × Obj)) from hp) (by simp),e0.hok.kept kp,?_⟩
  ·have hy:scope.names.lookup y=some .cell∨scope.names.lookup y=some .free:=hy
   rcases hy with z | z
   ·exact absurd rfl (S.nocell _ (PySem.mem_of_lookup z))
   ·exact SH.all _ (PySem.mem_of_lookup z) rfl
  ·have g1:N[i]? = some y:=g1
   have hi:i<(vs++cv).length:=by
    by_cases hi:i<(vs++cv).length
    ·exact hi
    ·rw [List.getElem?_append_right (by simpa using hi),List.getElem?_replicate] at g2
     split at g2 <;> cases g2
   rw [List.getElem?_append_left (by simpa using hi),List.getElem?_map] at g2
   have g2':(vs++cv)[i]? = some v:=by
    cases q:(vs++cv)[i]? with
    | none=>rw [q] at g2; cases g2
    | some z=>rw [q] at g2; cases g2; rfl
   have hpf:(ps++fr)[i]? = some y:=by
    rw [← S.pre,List.getElem?_take_of_lt (by rw [List.length_append] at hi ⊢; omega)]
    exact g1
   by_cases hp:i<ps.length
   ·rw [List.getElem?_append_left hp] at hpf
    rw [List.getElem?_append_left (by omega)] at g2'
    obtain ⟨u,hu,ru⟩:=r.get g2'
    exact ⟨u,ru,.inl ⟨S.par y (List.mem_of_getElem? hpf),zj5 (us:=us) ndP hpf hu⟩⟩
   ·rw [List.getElem?_append_right (by omega)] at hpf
    rw [List.getElem?_append_right (by omega)] at g2'
    obtain ⟨c,z1,o,u,k,z2,z3,z4⟩:=hv (i - ps.length) y v hpf (by rw [← hl]; exact g2')
    obtain ⟨z5,_⟩:=e0.hok c _ z2
    exact ⟨u,z4,.inr ⟨.inr (S.fre y (List.mem_of_getElem? hpf)),c,z1,o,kp _ _ z5,z3⟩⟩
  ·obtain ⟨v,o,u,k,z2,z3,z4⟩:=kcell y c e
   obtain ⟨z5,_⟩:=e0.hok c _ z2
   exact ⟨_,o,kp _ _ z5,z3⟩
  ·obtain ⟨v,o,u,k,z2,_⟩:=kcell y c e
   exact ⟨fun z=>absurd z Bool.false_ne_true,.inr ⟨o,k,z2⟩⟩
  ·show _=N.length
   have z1:(ps++fr).length=ps.length+fr.length:=List.length_append
   rw [List.length_append,List.length_map,List.length_replicate,List.length_append]
   omega
 exact wpAny_mono (ht [] _ _ H _ I hq) (fun u s' ⟨v,H',J,rv,q⟩=>⟨v,H',J.os,J.bare,J.base,J.hok,rv,q⟩) fun e s' hs=>hs.elim
end
end L2
namespace L2
open PySem PySem.Spec PyProof.Rows
end L2
namespace L2
open PySem PySem.Spec PyProof.Rows
section
variable {X:Cx}
end
end L2
namespace L2
open PySem PySem.Spec PyProof.Rows
def CXR (P:Program) (w:World):CXT:=fun outer H s E ev s'=>∃ (e t:Addr) (C:Value) (B:Heap) (vs:List Value) (H':Hp),ev = .ref e∧s'.os=s.os∧AllBare s'.gens∧Un (frs outer) [] H H' s.heap s'.heap∧HOk P w H' s'.heap ∧
 Heap.FlyingW B outer e C (.ref t) s'.heap∧s'.heap.TupAt t vs∧B.get? t=none∧(∀ b o,s'.heap.get? b=some o→(∃ o0,s.heap.get? b=some o0)∨H' b≠none→b∉frs outer→B.get? b=some o)∧H' e=none∧E C none H'
theorem zll {P:Program} {w:World} {H:Hp} {h:Heap}:∀ {o:HO} {a:Addr},zdy P w H h a o→∃ ob,h.get? a=some ob
  | .lst _,_,x=>let ⟨_,_,_,_,z⟩:=x; ⟨_,z⟩
  | .tup _,_,x=>let ⟨_,_,_,o,z,_⟩:=x; ⟨o,z⟩
  | .dK _,_,x=>by
    obtain ⟨_,_,_,_,o,es,ep,z,_⟩:=x
    exact ⟨o,z⟩
  | .dT _,_,x=>by
    obtain ⟨_,_,_,_,o,es,ep,z,_⟩:=x
    exact ⟨o,z⟩
  | .set _ _,_,x=>by
    obtain ⟨o,_,_,_,z,_⟩:=x
    exact ⟨o,z⟩
  | .ins _ _ _,_,x=>let ⟨_,_,_,z,_⟩:=x; ⟨_,z⟩
  | .own _,_,x=>x
  | .xd _,_,x=>by
    obtain ⟨_,⟨o,es,ep,z,_⟩,_⟩:=x
    exact ⟨o,z⟩
  | .rng _ _,_,x=>let ⟨_,_,_,z⟩:=x; ⟨_,z⟩
  | .frz o u,_,x=>⟨o,x.1⟩
  | .tbl _,_,x=>⟨_,x⟩
  | .met _ _,_,x=>⟨_,x⟩
  | .ext _,_,x=>x.2.1
section
variable {P:Program} {w:World} {K:PySem.W.Frag} {mg:Str→Option Value} {base:Heap} {N:List Str} {qual:Str} {scope:Scope} {f:Addr} {cd:Value} {A:Around} {outer:List Env} {s0:Shared} {H0:Hp} {E:XK} {fn:Str→Bool}
theorem zes {pins:List (Addr × Obj)} {σ:St} {H:Hp} {s:Shared} {h':Heap} {e:Addr} {C:Value} {vs:List Value} (I:Inv (zkz (CXR P w) P w K mg base N qual scope f cd A outer s0 H0 E fn) pins σ H s) (hx:Heap.MadeExcOf s.heap h' e C vs) (q:E C none H) :
    (zkz (CXR P w) P w K mg base N qual scope f cd A outer s0 H0 E fn).xe (.ref e) { s with heap:=h' }:=by
  have ffs:s.heap.FunFrames base (envOfC qual scope s0.heap.objs.size f cd :: outer):=I.stack
  have hin:∀ env∈(envOfC qual scope s0.heap.objs.size f cd :: outer),∀ b,env.frame=some b→b∈frs (envOfC qual scope s0.heap.objs.size f cd :: outer):=fun env he b hb=>List.mem_filterMap.mpr ⟨env,he,hb⟩
  have fr0:∀ b,b∈frs outer→b∈frs (envOfC qual scope s0.heap.objs.size f cd :: outer):=fun b hb=>by
    obtain ⟨env,he,hf⟩:=List.mem_filterMap.mp hb
    exact List.mem_filterMap.mpr ⟨env,.tail _ he,hf⟩
  have frI:∀ b,b∈frs (envOfC qual scope s0.heap.objs.size f cd :: outer)→b∉frs outer→b=s0.heap.objs.size:=fun b hb hn=>by
    obtain ⟨env,he,hf⟩:=List.mem_filterMap.mp hb
    rcases List.mem_cons.mp he with rfl | he
    · exact (Option.some.inj hf).symm
    · exact absurd (List.mem_filterMap.mpr ⟨env,he,hf⟩) hn
  have free:∀ b∈frs (envOfC qual scope s0.heap.objs.size f cd :: outer),H b=none:=I.stkFree
  show wpAny (model P w) _ (leaving _ (.ref e)) (fun _ s''=>CXR P w outer H0 s0 E (.ref e) s'') _ { s with heap:=h' }
  refine wpAny_leaves_madeW (base:=PySem.W.hideAll s.heap (frs (envOfC qual scope s0.heap.objs.size f cd :: outer))) (h:=s.heap) I.ok.frames rfl (fun b o z=>PySem.W.of_hideAll _ z) (PySem.W.funFrames_hide ffs hin) hx fun h2 t fl tp bt up=>?_
  have toB:∀ b o,s.heap.get? b=some o→b∉frs (envOfC qual scope s0.heap.objs.size f cd :: outer)→(PySem.W.hideAll s.heap (frs (envOfC qual scope s0.heap.objs.size f cd :: outer))).get? b=some o:=fun b o z hn=>PySem.W.hideAll_get _ z hn
  have kp:∀ b o,s.heap.get? b=some o→b∉frs (envOfC qual scope s0.heap.objs.size f cd :: outer)→h2.get? b=some o:=fun b o z hn=>fl.1 b o (toB b o z hn)
  have old:∀ b o,s0.heap.get? b=some o→b≠s0.heap.objs.size:=fun b o z=>Nat.ne_of_lt (Heap.lt_size z)
  have ub:=I.base
  have en:H e=none:=by
    cases z:H e with
    | none=>rfl
    | some u =>
      obtain ⟨ob,y⟩:=zll (I.hok e u z)
      rw [hx.new] at y
      cases y
  refine ⟨e,t,C,_,vs,H,rfl,I.os,I.bare,?_,?_,fl,tp,bt,fun b o z hb hn=>?_,en,q⟩
  · have sl1:∀ b o,s.heap.get? b=some o→b∈frs (envOfC qual scope s0.heap.objs.size f cd :: outer)→∃ sl,h2.get? b=some { o with slots:=sl }:=fun b o z hb=>by
      obtain ⟨_,o1,z1,hd⟩:=ffs.mem hb
      rw [z] at z1
      cases z1
      exact up b o (hx.keeps b o z) hd
    refine ⟨fun b o z n hb _=>?_,fun b o z n hb _=>?_,fun b o z n hx=>ub.free b o z n hx,fun b o z hx'=>?_,ub.tups,ub.frzs,ub.tbls⟩
    · exact kp b o (ub.keep b o z n hb (show b∉([]:List Addr) from List.not_mem_nil)) fun y=>old b o z (frI b y hb)
    · obtain ⟨sl,z1⟩:=ub.slot b o z n hb (show b∉([]:List Addr) from List.not_mem_nil)
      obtain ⟨sl2,z2⟩:=sl1 b _ z1 (fr0 b hb)
      exact ⟨sl2,z2⟩
    · obtain ⟨o1,z1⟩:=ub.there b o z hx'
      by_cases hb:b∈frs (envOfC qual scope s0.heap.objs.size f cd :: outer)
      · obtain ⟨sl,z2⟩:=sl1 b o1 z1 hb
        exact ⟨_,z2⟩
      · exact ⟨o1,kp b o1 z1 hb⟩
  · exact fun b u z=>(I.hok b u z).stay (fun d v hd y=>kp d v y (fun y2=>by
      have n:=free d y2
      rcases hd with hd | hd
      · rw [hd,z] at n; cases n
      · rw [hd] at n; cases n)) (fun _ y=>y) fun _ _ y=>y
  · have fin:∀ o1,s.heap.get? b=some o1→b∉frs (envOfC qual scope s0.heap.objs.size f cd :: outer)→(PySem.W.hideAll s.heap (frs (envOfC qual scope s0.heap.objs.size f cd :: outer))).get? b=some o:=fun o1 z1 hb=>by
      have z2:=kp b o1 z1 hb
      rw [z] at z2
      cases z2
      exact toB b o z1 hb
    rcases hb with ⟨o0,hb⟩ | hb
    · obtain ⟨o1,z1⟩:=ub.there b o0 hb (show b∉([]:List Addr) from List.not_mem_nil)
      exact fin o1 z1 fun y=>old b o0 hb (frI b y hn)
    · cases z1:H b with
      | none=>exact absurd z1 hb
      | some u =>
        obtain ⟨o1,z2⟩:=zll (I.hok b u z1)
        exact fin o1 z2 fun y=>by
          have n:=free b y
          rw [z1] at n
          cases n
end
abbrev bmV:List Value:=[.type "ValueError",.type "Exception",.type "BaseException",.type "object"]
structure DfE (K:PySem.W.Frag) (mg:Str→Option Value) (x:Str) where
 C:Addr
 hm:mg x=some (.ref C)
 ex:PySem.W.excIn K C bmV "ValueError.__new__" = true
theorem zn9 {K:PySem.W.Frag} {h:Heap} {C:Addr} {bmB:List Value} {newId:String} (X:K.In h) (q:PySem.W.excIn K C bmB newId=true) :
  ∃ bm N nm qn bs hdct sn sub ab col dd k0 k1 k2 k3 k5 mN,h.get? C=some (excClassObj nm qn C N bs bm hdct sn sub ab col dd k0 k1 k2 k3 k5 newId)∧h.Ns N mN∧mN "__init__" = none∧OwnTail h bmB bm:=by
 unfold PySem.W.excIn at q
 split at q
 ·rename_i dd cd sl ho
  split at q
  ·rename_i C1 bm k0 k1 k2 k3 n k5 hm hs
   simp only [Bool.and_eq_true,beq_iff_eq,Bool.not_eq_true'] at q
   obtain ⟨⟨⟨⟨⟨e1,e2⟩,hdel⟩,ht⟩,hok⟩,hni⟩:=q
   subst e1 e2
   obtain ⟨nm,bs,mro,ns,qn,hd,sn,sub,ab,col,del⟩:=cd
   dsimp only at hm hdel hok hni
   subst hm hdel
   obtain ⟨l⟩:=sl
   simp only at hs
   subst hs
   exact ⟨bm,ns,nm,qn,bs,hd,sn,sub,ab,col,dd,k0,k1,k2,k3,k5,_,X _ _ ho,.of_isNs (PySem.W.isNs_of_in X hok),PySem.W.nsMap_none_of_in X hok hni,PySem.W.tail_of_in X ht⟩
  ·cases q
 ·cases q
def zx6 (W:Hp→Prop) (t:TA):TS:=fun D σ H=>t σ H fun vs H1=>vs.length≤sizeLine∧W H1
theorem zed {X:Cx} {x:Str} {np cpos pos:Pos} {e:Expr} {es:List Expr} {t:TA} {W:Hp→Prop} (D:DfE X.K X.mg x) (hg:Gl X x) (hc:X.calm=true) (ha:PA X (e :: es) t)
  (hxe:∀ (pins:List (Addr × Obj)) (σ:St) (H:Hp) (s:Shared) (h':Heap) (ea:Addr) (vs:List Value),Inv X pins σ H s→Heap.MadeExcOf s.heap h' ea (.ref D.C) vs→W H→X.xe (.ref ea) { s with heap:=h' })
  (hs:starEach (e :: es) X.env=(false,eval e X.env) :: starEach es X.env:=by rfl) (hpl:(backTo cpos (starEach es X.env)).any (·.1)=false:=by rfl) (hdb:(x == ("__debug__" : Str))=false:=by decide) :
  PS X (.Raise (some (.Call (.Name x np) (e :: es) [] cpos)) none pos) (zx6 W t):=by
 intro pins s σ H D' I h
 obtain ⟨bm,N,nm,q,bs,hdct,sn,sub,ab,col,dd,k0,k1,k2,k3,k5,mN,hC,hN,hni,T⟩:=zn9 I.ok.mod.kin D.ex
 refine wpAny_Raise_call_subU (C:=D.C) (nm:=nm) (q:=q) (N:=N) (bs:=bs) (bm:=bm) (hdct:=hdct) (sn:=sn) (sub:=sub) (ab:=ab) (col:=col) (dd:=dd) (k0:=k0) (k1:=k1) (k2:=k2) (k3:=k3) (k5:=k5)
  PySem.F.excBase_ValueError (bmB:=bmV) (by decide +kernel) PySem.F.excBase_ValueError (mN:=mN) (T.hasType PySem.F.excBase_ValueError.hasBase) (I.ok.hd hc) (by rw [hs]; show (false || (backTo cpos (starEach es X.env)).any (·.1))=false; rw [hpl]; rfl) hni (zic I hg D.hm ⟨rfl,?_⟩ hdb)
 have A1:=ha cpos pins s σ H _ I h
 rw [hs] at A1 ⊢
 refine Calls.evalArgs_plain (wpAny_mono A1 (fun us s2 h2=>?_) fun _ _ y=>y)
 obtain ⟨vs,H1,I1,r,hz,hw⟩:=h2
 exact ⟨rfl,by rw [← r.length]; exact hz,I1.bk _ _ hC,hN.keeps I1.bk,T.keeps I1.bk,fun h' ea hm=>hxe pins σ H1 s2 h' ea us I1 hm hw⟩
section
variable {P:Program} {w:World} {K:PySem.W.Frag} {mg:Str→Option Value} {base:Heap} {N:List Str} {qual:Str} {scope:Scope} {f:Addr} {cd:Value} {A:Around} {outer:List Env} {s0:Shared} {H0:Hp} {E:XK} {fn:Str→Bool}
theorem zcx {pins:List (Addr × Obj)} {σ:St} {H:Hp} {s:Shared} {ev:Value} {s':Shared} (I:Inv (zkz (CXR P w) P w K mg base N qual scope f cd A outer s0 H0 E fn) pins σ H s) (R:CXR P w (envOfC qual scope s0.heap.objs.size f cd :: outer) H s E ev s') :
    (zkz (CXR P w) P w K mg base N qual scope f cd A outer s0 H0 E fn).xe ev s':=by
  obtain ⟨e,t,C,B,vs,H',rfl,os,bare,un,hok,fl,tp,bt,toB,en,q⟩:=R
  have ffs:s.heap.FunFrames base (envOfC qual scope s0.heap.objs.size f cd :: outer):=I.stack
  have fr0:∀ b,b∈frs outer→b∈frs (envOfC qual scope s0.heap.objs.size f cd :: outer):=fun b hb=>by
    obtain ⟨env,he,hf⟩:=List.mem_filterMap.mp hb
    exact List.mem_filterMap.mpr ⟨env,.tail _ he,hf⟩
  have frI:∀ b,b∈frs (envOfC qual scope s0.heap.objs.size f cd :: outer)→b∉frs outer→b=s0.heap.objs.size:=fun b hb hn=>by
    obtain ⟨env,he,hf⟩:=List.mem_filterMap.mp hb
    rcases List.mem_cons.mp he with rfl | he
    · exact (Option.some.inj hf).symm
    · exact absurd (List.mem_filterMap.mpr ⟨env,he,hf⟩) hn
  have free:∀ b∈frs (envOfC qual scope s0.heap.objs.size f cd :: outer),H' b=none:=fun b hb=>by
    obtain ⟨_,o,ho,_⟩:=ffs.mem hb
    exact un.free b o ho (I.stkFree b hb) List.not_mem_nil
  have old:∀ b o,s0.heap.get? b=some o→b≠s0.heap.objs.size:=fun b o z=>Nat.ne_of_lt (Heap.lt_size z)
  have ub:Un (frs outer) [] H0 H s0.heap s.heap:=I.base
  have ff2:=fl.2.2.1
  show wpAny (model P w) _ (leaving _ (.ref e)) (fun _ s''=>CXR P w outer H0 s0 E (.ref e) s'') _ s'
  refine wpAny_leaves_onW I.ok.frames rfl fl fun h2 fl2 up=>?_
  have sl2:∀ b o,s'.heap.get? b=some o→b∈frs (envOfC qual scope s0.heap.objs.size f cd :: outer)→∃ sl,h2.get? b=some { o with slots:=sl }:=fun b o z hb=>by
    obtain ⟨_,o1,z1,hd⟩:=ff2.mem hb
    rw [z] at z1
    cases z1
    exact up b o z hd
  have kp:∀ b o,s'.heap.get? b=some o→(∃ o0,s.heap.get? b=some o0)∨H' b≠none→b∉frs (envOfC qual scope s0.heap.objs.size f cd :: outer)→h2.get? b=some o:=fun b o z h hn=>fl2.1 b o (toB b o z h hn)
  refine ⟨e,t,C,B,vs,H',rfl,os.trans I.os,bare,?_,?_,fl2,tp.of_slots up,bt,fun b o z hb hn=>?_,en,q⟩
  · refine ⟨fun b o z n hb _=>?_,fun b o z n hb _=>?_,fun b o z n hx=>?_,fun b o z hx'=>?_,fun b xs z=>un.tups b xs (ub.tups b xs z),fun b o u z=>un.frzs b o u (ub.frzs b o u z),fun b ps z=>?_⟩
    · have z1:=ub.keep b o z n hb List.not_mem_nil
      have hn:b∉frs (envOfC qual scope s0.heap.objs.size f cd :: outer):=fun y=>old b o z (frI b y hb)
      exact kp b o (un.keep b o z1 (ub.free b o z n List.not_mem_nil) hn List.not_mem_nil) (.inl ⟨o,z1⟩) hn
    · obtain ⟨sl,z1⟩:=ub.slot b o z n hb List.not_mem_nil
      obtain ⟨sl3,z2⟩:=un.slot b _ z1 (ub.free b o z n List.not_mem_nil) (fr0 b hb) List.not_mem_nil
      obtain ⟨sl4,z3⟩:=sl2 b _ z2 (fr0 b hb)
      exact ⟨sl4,z3⟩
    · obtain ⟨o1,z1⟩:=ub.there b o z hx
      exact un.free b o1 z1 (ub.free b o z n hx) hx
    · obtain ⟨o1,z1⟩:=ub.there b o z hx'
      obtain ⟨o2,z2⟩:=un.there b o1 z1 hx'
      by_cases hb:b∈frs (envOfC qual scope s0.heap.objs.size f cd :: outer)
      · obtain ⟨sl,z3⟩:=sl2 b o2 z2 hb
        exact ⟨_,z3⟩
      · exact ⟨o2,kp b o2 z2 (.inl ⟨o1,z1⟩) hb⟩
    · obtain ⟨m1,e1⟩:=ub.tbls b ps z
      obtain ⟨m2,e2⟩:=un.tbls b _ e1
      exact ⟨m1++m2,by rw [e2,Array.append_assoc]⟩
  · exact fun b u z=>(hok b u z).stay (fun d v hd y=>by
      have nn:H' d≠none:=by
        rcases hd with hd | hd
        · rw [hd,z]; simp
        · rw [hd]; simp
      exact kp d v y (.inr nn) fun y2=>nn (free d y2)) (fun _ y=>y) fun _ _ y=>y
  · have fin:∀ o1,s'.heap.get? b=some o1→(∃ o0,s.heap.get? b=some o0)∨H' b≠none→b∉frs (envOfC qual scope s0.heap.objs.size f cd :: outer)→B.get? b=some o:=fun o1 z1 h hb=>by
      have z2:=kp b o1 z1 h hb
      rw [z] at z2
      cases z2
      exact toB b o z1 h hb
    rcases hb with ⟨o0,hb⟩ | hb
    · obtain ⟨o1,z1⟩:=ub.there b o0 hb List.not_mem_nil
      obtain ⟨o2,z2⟩:=un.there b o1 z1 List.not_mem_nil
      exact fin o2 z2 (.inl ⟨o1,z1⟩) fun y=>old b o0 hb (frI b y hn)
    · cases z1:H' b with
      | none=>exact absurd z1 hb
      | some u =>
        obtain ⟨o1,z2⟩:=zll (hok b u z1)
        exact fin o1 z2 (.inr hb) fun y=>hb (free b y)
end
end L2
namespace L2
open PySem PySem.Spec PyProof.Rows
section
variable {M:Model} {A:Around} {E:Value→Shared→Prop}
variable {nm q:Str} {C N:Addr} {bs bm:List Value} {hdct:Bool} {sn:List Str} {sub:List Value} {ab:Bool} {col:Option Bool} {dd:Option Addr} {k0 k1 k2 k3 k5:Option Value} {newId:String}
variable {nm' q':Str} {C' N':Addr} {bs' bm':List Value} {hdct':Bool} {sn':List Str} {sub':List Value} {ab':Bool} {col':Option Bool} {dd':Option Addr} {j0 j1 j2 j3 j5:Option Value} {newId':String}
theorem zoh {h:Heap} {g:Array GenState} {d:Drawn} {t:Nat} {os:OsState} {e:Addr} {oe:Obj} {Q:Bool→Shared→Prop}
  (hC:h.get? C=some (excClassObj nm q C N bs bm hdct sn sub ab col dd k0 k1 k2 k3 k5 newId)) (hT:h.get? C'=some (excClassObj nm' q' C' N' bs' bm' hdct' sn' sub' ab' col' dd' j0 j1 j2 j3 j5 newId')) (he:h.get? e=some oe) (hcls:oe.cls = .ref C) (hbase:bm'.contains (.type "BaseException")=true)
  (hq:Q ((Value.ref C :: bm).contains (.ref C')) ⟨h,g,d,t,os⟩):wpAny M A (excMatches (.ref e) (.ref C')) Q E ⟨h,g,d,t,os⟩:=by
 have hcB:(Value.ref C' :: bm').contains (.type "BaseException")=true:=by rw [List.contains_cons,hbase,Bool.or_true]
 have ft:=tc_notTuple
 unfold excMatches
 cases hb:(Value.ref C :: bm).contains (.ref C')
 ·rw [hb] at hq
  repeat (first | (with_reducible refine wpAny_loadPart_at he ?_; rw [hcls]) | with_reducible refine wpAny_loadPart_at hT ?_ | (with_reducible refine wpAny_isSubtype_exc hT ?_; rw [hcB]) | (with_reducible refine wpAny_isSubtype_exc hC ?_; rw [hb]) | wp_step)
  exact hq
 ·rw [hb] at hq
  repeat (first | (with_reducible refine wpAny_loadPart_at he ?_; rw [hcls]) | with_reducible refine wpAny_loadPart_at hT ?_ | (with_reducible refine wpAny_isSubtype_exc hT ?_; rw [hcB]) | (with_reducible refine wpAny_isSubtype_exc hC ?_; rw [hb]) | wp_step)
  exact hq
end
section
variable {X:Cx} {pins:List (Addr × Obj)} {σ:St} {H H':Hp} {s s':Shared} {e t:Addr} {C:Value} {B h6:Heap}
theorem zur (I:Inv X pins σ H s) (os:s'.os=s.os) (bare:AllBare s'.gens) (un:Un (frs X.stack) [] H H' s.heap s'.heap) (hok:HOk X.prog X.w H' s'.heap) (fl:Heap.FlyingW B X.stack e C (.ref t) s'.heap)
    (toB:∀ b o,s'.heap.get? b=some o→(∃ o0,s.heap.get? b=some o0)∨H' b≠none→b∉frs X.stack→B.get? b=some o) (fl6:Heap.FlyingW B X.stack e C (.ref t) h6) (up:s'.heap.UpToSlots h6) :
    Inv X pins σ H' { s' with heap:=h6 }∧s.heap.get? e=none:=by
  have ffs:s.heap.FunFrames X.base X.stack:=I.stack
  have ff2:=fl.2.2.1
  have free:∀ b∈frs X.stack,H' b=none:=fun b hb=>by
    obtain ⟨_,o,ho,_⟩:=ffs.mem hb
    exact un.free b o ho (I.stkFree b hb) List.not_mem_nil
  have sl2:∀ b o,s'.heap.get? b=some o→b∈frs X.stack→∃ sl,h6.get? b=some { o with slots:=sl }:=fun b o z hb=>by
    obtain ⟨_,o1,z1,hd⟩:=ff2.mem hb
    rw [z] at z1
    cases z1
    exact up b o z hd
  have kp:∀ b o,s'.heap.get? b=some o→(∃ o0,s.heap.get? b=some o0)∨H' b≠none→b∉frs X.stack→h6.get? b=some o:=fun b o z h hn=>fl6.1 b o (toB b o z h hn)
  constructor
  · refine I.call' (s':={ s' with heap:=h6 }) (ch:=[]) os ?_ ?_ bare (fun b hb=>absurd hb List.not_mem_nil)
    · refine ⟨fun b o z n hb _=>?_,fun b o z n hb _=>?_,fun b o z n hx=>un.free b o z n hx,fun b o z hx'=>?_,un.tups,un.frzs,un.tbls⟩
      · exact kp b o (un.keep b o z n hb List.not_mem_nil) (.inl ⟨o,z⟩) hb
      · obtain ⟨sl,z1⟩:=un.slot b o z n hb List.not_mem_nil
        obtain ⟨sl4,z3⟩:=sl2 b _ z1 hb
        exact ⟨sl4,z3⟩
      · obtain ⟨o2,z2⟩:=un.there b o z hx'
        by_cases hb:b∈frs X.stack
        · obtain ⟨sl,z3⟩:=sl2 b o2 z2 hb
          exact ⟨_,z3⟩
        · exact ⟨o2,kp b o2 z2 (.inl ⟨o,z⟩) hb⟩
    · exact fun b u z=>(hok b u z).stay (fun d v hd y=>by
        have nn:H' d≠none:=by
          rcases hd with hd | hd
          · rw [hd,z]; simp
          · rw [hd]; simp
        exact kp d v y (.inr nn) fun y2=>nn (free d y2)) (fun _ y=>y) fun _ _ y=>y
  · cases z:s.heap.get? e with
    | none=>rfl
    | some o =>
      by_cases hb:e∈frs X.stack
      · obtain ⟨_,o1,z1,hd⟩:=ff2.mem hb
        obtain ⟨_,_,_,oe,ws,T,oT,ts,he,hc,hde,_⟩:=fl
        rw [z1] at he
        cases he
        exact absurd hde (hd _)
      · obtain ⟨o2,z2⟩:=un.there e o z List.not_mem_nil
        have:=toB e o2 z2 (.inl ⟨o,z⟩) hb
        rw [fl.2.1] at this
        cases this
theorem zzw {o:HO} (I:Inv X pins σ H s) (hn:H e=none) (h0:X.s₀.heap.get? e=none) (hL:e≠X.env.locals) (hc:∀ x c,X.env.cells.lookup x=some c→c≠e) (hp:∀ p∈X.pn++pins,p.1≠e) (ho:zdy X.prog X.w (upd H e o) s.heap e o):Inv X pins σ (upd H e o) s:=by
 have up:∀ b u,H b=some u→upd H e o b=some u:=fun b u z=>by
  rw [zal (zap z hn)]
  exact z
 refine ⟨I.ok,I.os,I.bare,⟨I.base.keep,I.base.slot,fun b ob z n hx=>?_,I.base.there,fun b xs z=>up _ _ (I.base.tups b xs z),fun b ob u z=>up _ _ (I.base.frzs b ob u z),fun b ps z=>?_⟩,I.loc,I.cell,?_,fun x c z=>?_,fun p hpp=>?_,fun b u z=>?_,I.len⟩
 ·rw [zal (fun y=>by rw [y,h0] at z; cases z)]
  exact I.base.free b ob z n hx
 ·obtain ⟨m,z1⟩:=I.base.tbls b ps z
  exact ⟨m,up _ _ z1⟩
 ·rw [zal hL.symm]
  exact I.free
 ·obtain ⟨a1,a2⟩:=I.freeC x c z
  refine ⟨fun y=>by rw [zal (hc x c z)]; exact a1 y,?_⟩
  rcases a2 with y | ⟨ob,u,y⟩
  ·exact .inl (by rw [zal (hc x c z)]; exact y)
  ·exact .inr ⟨ob,u,up _ _ y⟩
 ·obtain ⟨a1,a2,a3⟩:=I.pin p hpp
  exact ⟨a1,by rw [zal (hp p hpp)]; exact a2,a3⟩
 ·by_cases hb:b=e
  ·subst hb
   rw [zam] at z
   cases z
   exact ho
  ·rw [zal hb] at z
   exact (I.hok b u z).stay (fun _ _ _ y=>y) (fun d y=>up _ _ y) fun d xs y=>up _ _ y
theorem zk7 {M:Model} {A:Around} {E:Value→Shared→Prop} {i:Nat} {n:Str} {pos:Pos} {Q:Unit→Shared→Prop} (I:Inv X pins σ H s) (hN:X.N.Nodup) (hi:X.N[i]? = some n) (hx:X.env.scope.names.lookup n=some .local)
  (q:∀ s',Inv X pins (σ.set i none) H s'→Q () s'):wpAny M A (do bindName X.env n .none; unbindBehindTheSuite X.env n pos) Q E s:=by
 refine wpAny_bind (wpAny_bindName (zhf I hN hi (.inl hx) (v:= .non) rfl (fun s1 I1=>?_) (.inr hx)))
 have hiσ:i<σ.length:=by rw [I.len]; exact (List.getElem?_eq_some_iff.mp hi).1
 obtain ⟨m,hn,hl⟩:=id I1.loc
 have hcls:(X.env.scope.kind == .class || (X.env.scope.kind == .module && X.env.locals != X.env.globals))=false:=by rw [I.ok.kind]; rfl
 obtain ⟨u,_,lk⟩:=hl i n .non hi (List.getElem?_set_self hiσ) (.inl hx)
 have hv:m n=some u:=by
  rcases lk with ⟨_,z⟩ | ⟨k,_⟩
  ·exact z
  ·rcases k with k | k <;> (have k:X.env.scope.names.lookup n=_:=k; rw [hx] at k; cases k)
 have cne:=I1.cne
 unfold unbindBehindTheSuite
 refine wpAny_onRaise (wpAny_unbindName_local hx hn hv hcls fun h' u' hn' hs=>q _ ?_)
 obtain ⟨oL,_,_,hoL,_⟩:=id hn
 refine ⟨I1.ok,I1.os,I1.bare,⟨fun b o e n hb hx=>?_,fun b o e n hb hx=>?_,I1.base.free,fun b o e hx=>?_,I1.base.tups,I1.base.frzs,I1.base.tbls⟩,⟨_,hn',fun j y v' e1 e2 e3=>?_⟩,fun y c e=>?_,I1.free,I1.freeC,fun p hp=>?_,fun b ob e=>?_,by simpa using I.len⟩
 ·exact (hs.2 b (Nat.ne_of_lt (Nat.lt_of_lt_of_le (Heap.lt_size e) I.ok.above))).trans (I1.base.keep b o e n hb hx)
 ·obtain ⟨sl,z1⟩:=I1.base.slot b o e n hb hx
  exact ⟨sl,(hs.2 b (Nat.ne_of_lt (Nat.lt_of_lt_of_le (Heap.lt_size e) I.ok.above))).trans z1⟩
 ·obtain ⟨o',z1⟩:=I1.base.there b o e hx
  exact ⟨o',(hs.2 b (Nat.ne_of_lt (Nat.lt_of_lt_of_le (Heap.lt_size e) I.ok.above))).trans z1⟩
 ·by_cases hj:j=i
  ·subst hj
   rw [List.getElem?_set_self hiσ] at e2
   cases e2
  ·rw [List.getElem?_set_ne (Ne.symm hj)] at e2
   obtain ⟨u2,r2,lk2⟩:=hl j y v' e1 (by rw [List.getElem?_set_ne (Ne.symm hj)]; exact e2) e3
   refine ⟨u2,r2,?_⟩
   rcases lk2 with ⟨k,z⟩ | ⟨k,c,z,z2⟩
   ·refine .inl ⟨k,?_⟩
    have:y≠n:=fun y2=>hj (zi4 hN e1 (y2 ▸ hi))
    simp [this,z]
   ·exact .inr ⟨k,c,z,z2.sameBut hs (cne y c z)⟩
 ·obtain ⟨w',z⟩:=I1.cell y c e
  exact ⟨w',z.sameBut hs (cne y c e)⟩
 ·obtain ⟨a1,a2,a3,a4,a5⟩:=I1.pin p hp
  exact ⟨(hs.2 p.1 a3).trans a1,a2,a3,a4,a5⟩
 ·refine (I1.hok b ob e).stay (fun c w' hc z=>(hs.2 c ?_).trans z) (fun _ z=>z) fun _ _ z=>z
  rintro rfl
  rcases hc with rfl | hc
  ·rw [I1.free] at e; cases e
  ·rw [I1.free] at hc; cases hc
end
end L2
namespace L2
open PySem PySem.Spec PyProof.Rows
def Cx.tryC (X:Cx) (pins:List (Addr × Obj)) (E:Value→Shared→Prop):Cx:={ X with pn:=X.pn++pins,xe:=E }
def Cx.suiteC (X:Cx) (e:Addr):Cx:={ X with A:=X.A.mark (some (.ref e)),calm:=false,xe:=fun _ _=>False }
section
variable {X:Cx} {pins pl:List (Addr × Obj)} {σ:St} {H:Hp} {s:Shared} {E:Value→Shared→Prop} {e:Addr}
theorem Cx.Ok.tryC (o:X.Ok):(X.tryC pins E).Ok:=⟨o.mod,o.kind,o.glob,o.blt,o.above,o.inj,o.has,o.cab,o.hd,o.frames,o.stk,o.exf,o.bs,o.bsz,o.noex,o.exfs,o.funs,o.frf⟩
theorem Cx.Ok.suiteC (o:X.Ok):(X.suiteC e).Ok:=⟨o.mod,o.kind,o.glob,o.blt,o.above,o.inj,o.has,o.cab,fun z=>absurd z Bool.false_ne_true,o.frames,o.stk,o.exf,o.bs,o.bsz,o.noex,o.exfs,o.funs,o.frf⟩
theorem Inv.tryC (I:Inv X pins σ H s):Inv (X.tryC pins E) [] σ H s:=⟨I.ok.tryC,I.os,I.bare,I.base,I.loc,I.cell,I.free,I.freeC,fun p hp=>I.pin p (by
 have hp:p∈(X.pn++pins)++[]:=hp
 rw [List.append_nil] at hp
 exact hp),I.hok,I.len⟩
theorem Inv.ofTry (ok:X.Ok) (I:Inv (X.tryC pins E) pl σ H s):Inv X pins σ H s:=⟨ok,I.os,I.bare,I.base,I.loc,I.cell,I.free,I.freeC,fun p hp=>I.pin p (List.mem_append_left _ hp),I.hok,I.len⟩
theorem Inv.suiteC (I:Inv X pins σ H s):Inv (X.suiteC e) pins σ H s:=⟨I.ok.suiteC,I.os,I.bare,I.base,I.loc,I.cell,I.free,I.freeC,I.pin,I.hok,I.len⟩
theorem Inv.ofSuite (ok:X.Ok) (I:Inv (X.suiteC e) pins σ H s):Inv X pins σ H s:=⟨ok,I.os,I.bare,I.base,I.loc,I.cell,I.free,I.freeC,I.pin,I.hok,I.len⟩
end
def zje (K:PySem.W.Frag) (C T:Addr):Bool:=match K.lookup C with
 | some ⟨_,_,.cls cd,_⟩=>cd.mro.contains (.ref T)
 | _=>false
def zyx (e:Addr) (C:Value):HO:= .ext fun h=>∃ o,h.get? e=some o∧o.cls=C
def z0q (K:PySem.W.Frag) (T:Addr) (i:Nat) (Th:St→Value→Hp→Prop) (tb tsu:TS):TS:=fun D σ H=>tb D σ H∧∀ σ' C H',Th σ' C H'→∃ Ca,C = .ref Ca∧PySem.W.excIn K Ca bmV "ValueError.__new__" = true∧zje K Ca T=true ∧
 ∀ e,H' e=none→tsu { nx:=fun σ2 H2=>D.nx (σ2.set i none) H2,rt:=D.rt,bk:=fun σ2 H2=>D.bk (σ2.set i none) H2,ct:=fun σ2 H2=>D.ct (σ2.set i none) H2 } (σ'.set i (some (.ref e))) (upd H' e (zyx e C))
theorem zyl {X:Cx} {body suite:List Stmt} {b₀:Stmt} {x n:Str} {np hpos pos:Pos} {i:Nat} {Th:St→Value→Hp→Prop} {tb tsu:TS} (D:DfE X.K X.mg x) (hg:Gl X x) (hst:X.stack=X.env :: X.outer) (hfr:X.env.frame=some X.env.locals)
    (hexx:X.ex=[]) (hN:X.N.Nodup) (hi:X.N[i]? = some n) (hx:X.env.scope.names.lookup n=some .local)
    (hb:∀ (pins:List (Addr × Obj)) (E:Value→Shared→Prop),(∀ (pl:List (Addr × Obj)) (σ:St) (H:Hp) (s:Shared) (ev:Value) (s':Shared),Inv (X.tryC pins E) pl σ H s→CXR X.prog X.w X.stack H s (fun C _ H'=>Th σ C H') ev s'→E ev s')→PSs (X.tryC pins E) body tb)
    (hsu:∀ e,PSs (X.suiteC e) (b₀ :: suite) tsu) (hdb:(x == ("__debug__" : Str))=false:=by decide) :
    PS X (.Try body [.ExceptHandler (some (.Name x np)) (some n) (b₀ :: suite) hpos] [] [] pos) (z0q X.K D.C i Th tb tsu):=by
  intro pins s σ H Dd I h
  obtain ⟨h1,h2⟩:=h
  rw [arm_exec_Try]
  refine wpAny_bind (wpAny_standAt (wpAny_tryStmt_except ?_))
  refine wpAny_mono (hb pins _ ?_ [] s σ H Dd I.tryC h1) (fun f s1 hs=>?_) fun _ _ z=>z
  rotate_left
  · cases f with
    | next =>
      obtain ⟨σ',H',J,q⟩:=hs
      exact wpAny_execs_nil ⟨σ',H',J.ofTry I.ok,q⟩
    | brk =>
      obtain ⟨σ',H',J,q⟩:=hs
      exact ⟨σ',H',J.ofTry I.ok,q⟩
    | cont =>
      obtain ⟨σ',H',J,q⟩:=hs
      exact ⟨σ',H',J.ofTry I.ok,q⟩
    | ret u =>
      obtain ⟨v,σ',H',J,r,q⟩:=hs
      exact ⟨v,σ',H',J.ofTry I.ok,r,q⟩
  · intro pl σ1 H1 s1 ev s' J R
    have J1:Inv X pins σ1 H1 s1:=J.ofTry I.ok
    obtain ⟨e,t,C,B,vs,H',rfl,os,bare,un,hok,fl,tp,bt,toB,en,q⟩:=R
    obtain ⟨Ca,rfl,hex,hmr,k⟩:=h2 σ1 C H' q
    have fl':Heap.FlyingW B (X.env :: X.outer) e (.ref Ca) (.ref t) s'.heap:=by rw [← hst]; exact fl
    show wpAny (model X.prog X.w) X.A (noteFrame (.ref e) X.env) _ _ s'
    refine wpAny_looks_onW (outer:=X.outer) (by rw [← hst]; exact I.ok.frames) hfr fl' fun h4 held4 up4=>?_
    refine wpAny_landsW held4 fun h5 fl5 up5=>?_
    have up45:=up4.trans up5
    obtain ⟨I5,en0⟩:=zur J1 os bare un hok fl toB (by rw [hst]; exact fl5) up45
    refine wpAny_handleBy_cons (codeAny_handlers_test (zic (X:=X.suiteC e) I5.suiteC hg D.hm ?_ hdb)) (by intro z; cases z)
    obtain ⟨bm,N,nm,qn,bs,hdct,sn,sub,ab,col,dd,k0,k1,k2,k3,k5,mN,hC,hNs,hni,TL⟩:=zn9 I5.kIn hex
    obtain ⟨bm',N',nm',qn',bs',hdct',sn',sub',ab',col',dd',j0,j1,j2,j3,j5,mN',hC',hNs',hni',TL'⟩:=zn9 I5.kIn D.ex
    obtain ⟨o5,ho5,hc5⟩:=fl5.there
    have has:(Value.ref Ca :: bm).contains (.ref D.C)=true:=by
      unfold zje at hmr
      split at hmr
      · rename_i ho
        have z:=I5.kIn _ _ ho
        rw [hC] at z
        cases z
        exact hmr
      · cases hmr
    refine zoh (h:=h5) hC hC' ho5 hc5 (TL'.hasType PySem.F.excBase_ValueError.hasBase) ?_
    rw [has]
    refine codeAny_handlers_suite_as ?_
    refine lands_againW fl5 fun h6 fl6 up6=>?_
    obtain ⟨I6,_⟩:=zur J1 os bare un hok fl toB (by rw [hst]; exact fl6) (up45.trans up6)
    obtain ⟨oe,hoe,hce⟩:=fl6.there
    have ne:∀ b o,s1.heap.get? b=some o→b≠e:=fun b o z y=>by rw [y,en0] at z; cases z
    have h00:X.s₀.heap.get? e=none:=by
      cases z:X.s₀.heap.get? e with
      | none=>rfl
      | some o =>
        obtain ⟨o',z1⟩:=J1.base.there e o z (by rw [hexx]; exact List.not_mem_nil)
        rw [en0] at z1
        cases z1
    have hL:e≠X.env.locals:=by
      obtain ⟨m,⟨o,_,_,z,_⟩,_⟩:=J1.loc
      exact (ne _ o z).symm
    have I7:Inv X pins σ1 (upd H' e (zyx e (.ref Ca))) { s' with heap:=h6 }:=zzw I6 en h00 hL (fun y c z=>by
      obtain ⟨v,o,z1,_⟩:=J1.cell y c z
      exact ne c o z1) (fun p hp=>ne _ _ (J1.pin p hp).1) ⟨⟨oe,hoe,hce⟩,⟨oe,hoe⟩,fun a1 a2 ⟨o,z1,z2⟩ kk=>⟨o,kk o z1,z2⟩⟩
    refine zhf I7 hN hi (.inl hx) (v:= .ref e) rfl (fun s7 I8=>?_) (.inr hx)
    refine wpAny_mono (hsu e pins s7 _ _ _ I8.suiteC (k e en)) (fun f s8 hs=>?_) fun _ _ z=>z.elim
    cases f with
    | next =>
      obtain ⟨σ',H2,J',z⟩:=hs
      exact zk7 (J'.ofSuite I.ok) hN hi hx fun s9 J9=>⟨_,H2,J9,z⟩
    | brk =>
      obtain ⟨σ',H2,J',z⟩:=hs
      exact zk7 (J'.ofSuite I.ok) hN hi hx fun s9 J9=>⟨_,H2,J9,z⟩
    | cont =>
      obtain ⟨σ',H2,J',z⟩:=hs
      exact zk7 (J'.ofSuite I.ok) hN hi hx fun s9 J9=>⟨_,H2,J9,z⟩
    | ret u =>
      obtain ⟨v,σ',H2,J',r,z⟩:=hs
      exact zk7 (J'.ofSuite I.ok) hN hi hx fun s9 J9=>⟨v,_,H2,J9,r,z⟩
end L2
namespace L2
open PySem PySem.Spec PyProof.Rows
section
open PySem.W PySem.Builtin PySem.Builtin.ObjectAttr PySem.Builtin.Getset_descriptor
variable {K:Frag} {D x:Addr} {prog:Program} {w:World} {A:Around} {E:Value→Shared→Prop} {s:Shared}
def OfC (h:Heap) (x D:Addr):Prop:=∃ o,h.get? x=some o∧o.cls = .ref D
theorem OfC.ty {M:Model} {h:Heap} (T:OfC h x D):Looks M h (typeOf (.ref x)) (.ref D):=by
 obtain ⟨o,ho,hc⟩:=T
 exact hc ▸ (Looks.ld ho).andThen .now
theorem zus {M:Model} {h:Heap} {name:Str} {a g:Value} (X:K.In h) (ha:findIn K (.ref D) name=some (some a)) (hg:specialIn K a "__get__" = some (some g)) (ht:takesIn K a=some true):Looks M h (find (.ref x) (.ref D) name) (.bind g a):=by
 have L1:=looks_findIn (M:=M) X ha
 have L2:Looks M h (getOf (some a)) (some g):=looks_specialIn X hg
 have L3:=looks_takesIn (M:=M) X ht
 refine L1.andThen (L2.andThen ?_)
 have L4:Looks M h (dataDescriptor? (some a) (some g)) (some (g,a)):=L3.andThen .now
 exact L4.andThen (Looks.tag .now)
theorem zwb (hg:plainGet K D "__class__" = true) (ha:findIn K (.ref D) "__class__" = some (some (.builtin "object.__class__"))) (hn:specialIn K (.builtin "object.__class__") "__get__" = some (some (.builtin "getset_descriptor.__get__")))
  (htk:takesIn K (.builtin "object.__class__")=some true) (hm:mroIn K D (.type "object")=some true) {Q:Option Value→Shared→Prop} (X:K.In s.heap) (T:OfC s.heap x D) (q:Q (some (.ref D)) { s with toks:=s.toks+1 }):wpAny (model prog w) A (getAttr? (.ref x) "__class__") Q E s:=by
 obtain ⟨hh,gg,dr,tk,oo⟩:=s
 have T0:=T.ty (M:=model prog w)
 have T1:=looks_findIn (M:=model prog w) X (plainGet_of hg).1
 have T2:=looks_findIn (M:=model prog w) X (plainGet_of hg).2
 have T3:=zus (M:=model prog w) (x:=x) X ha hn htk
 have T4:=looks_mroIn (M:=model prog w) X hm
 unfold getAttr? getAttrBy? getAttrBy
 refine wpAny_bind (wpAny_mkText (wpAny_bind (wpAny_attempt (wpAny_holding (wpAny_bind (T0.at (wpAny_bind (T1.at ?_))))))))
 show wpAny _ _ (getAttrEveryday _ _ _) _ _ _
 refine wpAny_bind (wpAny_onRaise (wpAny_runValue (codeAny_builtin F.plainObj_entry_getattr_hooked ?_)))
 refine wpAny_bind (wpAny_pure (wpAny_bind (T0.at (wpAny_bind (T3.at (wpAny_bind (T2.at ?_)))))))
 show wpAny _ _ (holding [Value.builtin "object.__class__"] (call (.builtin "getset_descriptor.__get__") [.builtin "object.__class__",.ref x,.ref D]) >>= ret) _ _ _
 refine wpAny_bind (wpAny_holding (wpAny_call (codeAny_call_builtin KF.slot_gs.plain KF.entry_gs (KF.slot_gs.check _ _ _ _ _ _ _ _ KF.type_class (KF.args_gs _ _ _) ?_))))
 unfold Builtin.«getset_descriptor.__get__»
 unfold descrGet
 rw [dga_obj]
 refine wpAny_bind (wpAny_pure ?_)
 unfold descrGetter descrCheckInstance
 unfold descrNameAndClass isInstance
 simp only [KF.owner_class]
 have L0:=T0
 have L1:=T4
 repeat lk
 refine ⟨Code.quiet_builtin _ (by decide +kernel),(codeAny_builtin KF.entry_class ?_)⟩
 unfold Builtin.«object.__class__»
 unfold shownTypeOf
 repeat lk
 exact q
structure z0a (K:Frag) (D:Addr):Prop where
 hg:plainGet K D "__class__" = true
 hd:hasDictIn K D=true
 ha:findIn K (.ref D) "__class__" = some (some (.builtin "object.__class__"))
 hn:specialIn K (.builtin "object.__class__") "__get__" = some (some (.builtin "getset_descriptor.__get__"))
 htk:takesIn K (.builtin "object.__class__")=some true
 hm:mroIn K D (.type "object")=some true
theorem z0a.kit (k:z0a K D):KitX K (.ref x) (.ref D) (fun h=>OfC h x D) where
 ty:=fun _ _ _ I=>I.ty
 it:=fun _ _ X _=>by
  obtain ⟨cdD,hcD,_⟩:=any_some k.hd
  unfold clsIn at hcD
  split at hcD
  ·rename_i c1 d1 cd1 sl1 ho
   intro A1 Q1 E1 s1 kk q
   unfold isType loadHead
   exact wpAny_bind (wpAny_loadPart (kk _ _ (X _ _ ho)) (wpAny_pure q))
  ·cases hcD
 ne:=fun h tp dd its n sl X htp=>by
  obtain ⟨cdD,hcD,_⟩:=any_some k.hd
  refine Bool.eq_false_iff.mpr fun q=>?_
  have e:D=tp:=Value.ref.inj (beq_iff_eq.mp q)
  subst e
  unfold clsIn at hcD
  split at hcD
  ·rename_i c1 d1 cd1 sl1 ho
   have z:=(X _ _ ho).symm.trans htp
   cases z
  ·cases hcD
 ca:=fun X I q=>zwb k.hg k.ha k.hn k.htk k.hm X I q
end
section
variable {X:Cx}
end
end L2
namespace L2
open PySem PySem.Spec PyProof.Rows
section
variable {X:Cx} {CX:CXT} {k:Nat} {f:Addr} {fd:FuncData} {ps:List Str} {sp:Sp} {dvs:List V} {ds:List Value} {Th:St→XK} {x:Str} {p pos:Pos} {e:Expr} {es:List Expr} {t:TA}
def zxn (sp:Sp) (dvs:List V) (Th:St→XK) (t:TA):TE:=fun σ H Q=>t σ H fun vs H1=>sp (vs++dvs) H1 Q (Th σ)
theorem zt9 (F:zbe X.prog X.w X.K X.mg X.base CX k f fd ps sp) (hr:zfy k X.A) (hg:Gl X x) (hm:X.mg x=some (.ref f)) (hk:PySem.W.keepIn X.K (.ref f)=true) (hb:zex X.K fd ps ds) (hd:zc2 dvs ds)
    (hx:∀ (pl:List (Addr × Obj)) (σ:St) (H:Hp) (s:Shared) (ev:Value) (s':Shared),Inv X pl σ H s→CX X.stack H s (Th σ) ev s'→X.xe ev s') (ha:PA X (e :: es) t)
    (hdb:(x == ("__debug__" : Str))=false:=by decide) (he:starEach (e :: es) X.env=(false,eval e X.env) :: starEach es X.env:=by rfl) (hpl:(backTo pos (starEach es X.env)).any (·.1)=false:=by rfl) :
    PE X (.Call (.Name x p) (e :: es) [] pos) (zxn sp dvs Th t):=by
  intro pins s σ H Q I h
  refine wpAny_Call_Name_kw (zic I hg hm ?_ hdb)
  refine PySem.W.callWith_K (h₀:=X.base) I.ok.mod.kin hk (thn (ha pos pins s σ H _ I h) fun us s1 ⟨vs,H1,I1,r,q⟩=>⟨I1.kIn,?_⟩) he hpl
  have r2:zc2 (vs++dvs) (us++ds):=r.append hd
  have hl:(us++ds).length=ps.length:=by rw [← r2.length]; exact F.len _ _ _ _ q
  refine wpAny_call (codeAny_mono (F.run X.A X.stack s1 H1 ⟨us,[]⟩ (us++ds) (vs++dvs) Q (Th σ) hr I1.env0 (hb s1 us I1.kIn hl) r2 q) fun r s' hq=>?_)
  cases r with
  | error ev=>exact hx pins σ H1 s1 ev s' I1 hq
  | ok fl =>
    cases fl with
    | ret u=>exact I1.after hq
    | next=>exact False.elim hq
    | brk=>exact False.elim hq
    | cont=>exact False.elim hq
end
end L2
namespace L2
open PySem PySem.Spec PyProof.Rows
end L2
namespace L2
open PySem PySem.Spec PyProof.Rows
section
variable (P:Program) (w:World)
end
section
variable {P:Program} {w:World} {H H':Hp} {h h':Heap} {a:Addr} {o:HO}
end
section
variable {P:Program} {w:World} {H:Hp} {h h':Heap} {x e:Addr} {o':HO}
end
section
variable {fs fs' ex ex':List Addr} {H H1 H2:Hp} {h h1 h2 h':Heap} {a x e:Addr} {o:HO}
end
end L2
namespace L2
open PySem PySem.Spec PyProof.Rows
section
variable {X:Cx} {pins:List (Addr × Obj)} {σ:List (Option V)} {H H':Hp} {s:Shared} {h':Heap}
end
end L2
namespace L2
open PySem PySem.Spec PyProof.Rows
section
variable {X:Cx}
variable {a b:Expr} {ta tb:TE} {pos:Pos}
variable {tA tB':TT} {zn5:List Expr}
end
end L2
namespace L2
open PySem PySem.Spec PyProof.Rows
section
variable {X:Cx} {pins:List (Addr × Obj)} {σ:St} {H:Hp} {s:Shared} {a:Addr} {xs ys:List V}
end
section
variable {X:Cx} {pins:List (Addr × Obj)} {σ:St} {H:Hp} {s:Shared} {E:Value→Shared→Prop}
end
section
variable {X:Cx} {st:Stmt} {zn5:List Stmt} {t u:TS} {e:Expr} {te:TE} {pos:Pos}
end
section
variable {X:Cx} {pos:Pos}
end
section
variable {X:Cx} {pos:Pos}
end
end L2
namespace L2
open PySem PySem.Spec PyProof.Rows
section
variable {X:Cx} {tg:Expr}
end
end L2
namespace L2
open PySem PySem.Spec PyProof.Rows
section
variable {X:Cx} {a b c:Expr} {ta tb tc:TE} {pos:Pos}
end
section
variable {X:Cx} {a b c:Expr} {ta tb tc:TE} {pos:Pos}
end
end L2
namespace L2
open PySem PySem.Spec PyProof.Rows
section
variable {prog:Program} {w:World} {A:Around} {E:Value→Shared→Prop} {s:Shared} {K:PySem.W.Frag} {x dx C f:Addr} {mA:Str→Option Value} {name:Str} {v:Value}
end
section
variable {P:Program} {w:World} {H H':Hp} {h h':Heap} {a C dx:Addr} {fs fs':List (Str × V)}
end
section
variable {X:Cx} {pins:List (Addr × Obj)} {σ:St} {H:Hp} {s:Shared} {a C dx:Addr} {fs:List (Str × V)} {f:Str} {v:V} {A:Around} {E:Value→Shared→Prop}
end
section
variable {X:Cx} {o e value:Expr} {f:Str} {pos pos' tpos:Pos} {ta tv:TE}
end
section
variable {X:Cx} {pins:List (Addr × Obj)} {σ:St} {H:Hp} {s:Shared} {A:Around} {E:Value→Shared→Prop} {Q:Value→Shared→Prop} {c:Value} {b:Bool}
end
end L2
namespace L2
open PySem PySem.Spec PyProof.Rows
section
variable {X:Cx} {e:Expr} {es:List Expr} {te:TE} {t:TA} {pos:Pos}
end
section
variable {X:Cx} {pins:List (Addr × Obj)} {σ:St} {H:Hp} {s s':Shared}
end
section
variable {X:Cx} {CX:CXT} {k:Nat} {f C:Addr} {fd:FuncData} {ps:List Str} {sp:Sp} {dvs:List V} {ds:List Value} {E:XK} {x m:Str} {p pos apos:Pos} {e o:Expr} {es:List Expr} {ta:TE} {t:TA}
end
section
variable {X:Cx} {CX:CXT} {k:Nat} {f C:Addr} {fd:FuncData} {ps ks:List Str} {sp:Sp} {E:XK} {x m:Str} {p pos apos kpos:Pos} {e o:Expr} {es:List Expr} {kws:List Keyword} {te ta:TE} {t tk:TA} {nm:Option Str}
variable {g:List Value→List Value→List Value} {gV:List V→List V→List V}
end
end L2
namespace L2
open PySem PySem.Spec PyProof.Rows
section
variable {X:Cx} {x:Str} {p pos:Pos} {e:Expr} {es:List Expr} {t:TA} {id T:String} {r:List V→Hp→VK→Prop}
end
end L2
namespace L2
open PySem PySem.Spec PyProof.Rows
section
variable {κ:Type} [DecidableEq κ]
def zg9 (kvs:List (κ × V)) (k:κ):Option V:=(kvs.find? fun kv=>decide (kv.1=k)).map (·.2)
def zfa (kvs:List (κ × V)) (k:κ) (v:V):List (κ × V) :=
 if (kvs.any fun kv=>decide (kv.1=k))=true then kvs.map (fun kv=>if kv.1=k then (kv.1,v) else kv) else kvs++[(k,v)]
def zyn (kvs:List (κ × V)) (k:κ):List (κ × V):=kvs.filter fun kv=>decide (kv.1≠k)
theorem zha {p:κ × V} {r:List (κ × V)} {k:κ} (e:p.1=k):zg9 (p :: r) k=some p.2:=by simp [zg9,List.find?_cons,e]
theorem zhb {p:κ × V} {r:List (κ × V)} {k:κ} (e:¬ p.1=k):zg9 (p :: r) k=zg9 r k:=by simp [zg9,List.find?_cons,e]
theorem zhx (k:κ):∀ kvs:List (κ × V),(kvs.any fun kv=>decide (kv.1=k))=(zg9 kvs k).isSome
  | []=>rfl
  | p :: r=>by
    rw [List.any_cons]
    by_cases e:p.1=k
    · simp only [zha e,decide_eq_true e,Bool.true_or,Option.isSome_some]
    · rw [zhb e,decide_eq_false e,Bool.false_or]; exact zhx k r
theorem zgz (kvs:List (κ × V)) (k:κ) (v:V):(zfa kvs k v).length≤kvs.length+1:=by
 unfold zfa
 split
 ·rw [List.length_map]; omega
 ·rw [List.length_append,List.length_cons,List.length_nil]; omega
theorem zi3 {kvs:List (κ × V)} {k:κ} (v:V) (h:zg9 kvs k=none):zfa kvs k v=kvs++[(k,v)]:=by
 unfold zfa
 rw [zhx,h]
 exact if_neg (by decide)
theorem zlw.isSome_eq {o:Option V} {u:Option Value} (r:zlw o u):o.isSome=u.isSome:=by
  cases o with
  | none=>cases u with
    | none=>rfl
    | some _=>exact (show False from r).elim
  | some _=>cases u with
    | none=>exact (show False from r).elim
    | some _=>rfl
theorem zlw.getD {o:Option V} {u:Option Value} {d:V} {d':Value} (r:zlw o u) (rd:zdk d d'):zdk (o.getD d) (u.getD d'):=by
  cases o with
  | none=>cases u with
    | none=>exact rd
    | some _=>exact (show False from r).elim
  | some _=>cases u with
    | none=>exact (show False from r).elim
    | some _=>exact r
theorem KV.val {kvs:List (κ × V)} {vs:List (κ × Value)} (r:KV kvs vs) (k:κ):zlw (zg9 kvs k) (valueAt vs k):=by
  unfold KV at r
  induction r with
  | nil=>exact True.intro
  | @cons p q ps qs h t ih =>
    obtain ⟨h1,h2⟩:=h
    by_cases e:p.1=k
    · have e':q.1=k:=h1.symm.trans e
      have b:valueAt (q :: qs) k=some q.2:=by simp [valueAt,List.find?_cons,e']
      rw [zha e,b]; exact h2
    · have e':¬ q.1=k:=fun z=>e (h1.trans z)
      have b:valueAt (q :: qs) k=valueAt qs k:=by simp [valueAt,List.find?_cons,e']
      rw [zhb e,b]; exact ih
theorem KV.any {kvs:List (κ × V)} {vs:List (κ × Value)} (r:KV kvs vs) (k:κ):(kvs.any fun kv=>decide (kv.1=k))=vs.any fun kv=>decide (kv.1=k):=by
 unfold KV at r
 induction r with
 | nil=>rfl
 | cons h t ih=>rw [List.any_cons,List.any_cons,ih,h.1]
theorem KV.repl {kvs:List (κ × V)} {vs:List (κ × Value)} (r:KV kvs vs) (k:κ) {y:V} {u:Value} (ry:zdk y u) :
    KV (kvs.map fun kv=>if kv.1=k then (kv.1,y) else kv) (vs.map fun kv=>if kv.1=k then (kv.1,u) else kv):=by
  unfold KV at r ⊢
  induction r with
  | nil=>exact .nil
  | @cons p q ps qs h t ih =>
    rw [List.map_cons,List.map_cons]
    refine .cons ?_ ih
    obtain ⟨h1,h2⟩:=h
    by_cases e:p.1=k
    · rw [if_pos e,if_pos (h1.symm.trans e)]; exact ⟨h1,ry⟩
    · rw [if_neg e,if_neg (fun z=>e (h1.trans z))]; exact ⟨h1,h2⟩
theorem KV.put {kvs:List (κ × V)} {vs:List (κ × Value)} (r:KV kvs vs) (k:κ) {y:V} {u:Value} (ry:zdk y u):KV (zfa kvs k y) (stored vs k u):=by
 unfold zfa stored
 rw [r.any k]
 by_cases e:(vs.any fun kv=>decide (kv.1=k))=true
 ·rw [if_pos e,if_pos e]; exact r.repl k ry
 ·rw [if_neg e,if_neg e]; exact Paired.snoc r ⟨rfl,ry⟩
theorem KV.drop {kvs:List (κ × V)} {vs:List (κ × Value)} (r:KV kvs vs) (k:κ):KV (zyn kvs k) (without vs k):=by
  unfold KV at r ⊢
  unfold zyn without
  induction r with
  | nil=>exact .nil
  | @cons p q ps qs h t ih =>
    obtain ⟨h1,h2⟩:=h
    rw [List.filter_cons,List.filter_cons]
    by_cases e:p.1=k
    · have a:¬ decide (p.1≠k)=true:=by simp [e]
      have b:¬ decide (q.1≠k)=true:=by simp [h1.symm.trans e]
      rw [if_neg a,if_neg b]; exact ih
    · have e':¬ q.1=k:=fun z=>e (h1.trans z)
      have a:decide (p.1≠k)=true:=by simp [e]
      have b:decide (q.1≠k)=true:=by simp [e']
      rw [if_pos a,if_pos b]; exact .cons ⟨h1,h2⟩ ih
theorem KV.keys {kvs:List (κ × V)} {vs:List (κ × Value)} (r:KV kvs vs):kvs.map (·.1)=vs.map (·.1):=by
 unfold KV at r
 induction r with
 | nil=>rfl
 | cons h t ih=>rw [List.map_cons,List.map_cons,ih,h.1]
theorem KV.length {kvs:List (κ × V)} {vs:List (κ × Value)} (r:KV kvs vs):kvs.length=vs.length:=Paired.length r
end
theorem znp {P:Program} {w:World} {k:Key} {u:Value} (r:zdk (kV k) u):(zcr P w).is k u=true:=by
 cases k with
 | inl i=>obtain ⟨t,e⟩:=(show ∃ t,u=Value.int i t from r); subst e; exact zn2 P w i t
 | inr x=>obtain ⟨t,e⟩:=(show ∃ t,u=Value.str x t from r); subst e; exact zn0 P w x t
theorem zly {P:Program} {w:World}:∀ {ks:List Key} {us:List Value},zc2 (ks.map kV) us→ItemsAre (zcr P w) ks us
  | [],_,r=>by rw [List.map_nil] at r; cases r; exact .nil
  | k :: ks,_,r=>by
    rw [List.map_cons] at r
    cases r with
    | cons h t=>exact .cons (znp h) (zly t)
abbrev KT (H:Hp):List (List Key × V)→List (List Key × Addr × Value)→Prop:=Paired fun p q=>p.1=q.1∧H q.2.1=some (.tup (p.1.map kV))∧zdk p.2 q.2.2
theorem KT.val {H:Hp} {kvs:List (List Key × V)} {xs:List (List Key × Addr × Value)} (r:KT H kvs xs) (k:List Key):zlw (zg9 kvs k) ((atKey xs k).map (·.2)):=by
  induction r with
  | nil=>exact True.intro
  | @cons p q ps qs h t ih =>
    obtain ⟨h1,_,h2⟩:=h
    by_cases e:p.1=k
    · have e':q.1=k:=h1.symm.trans e
      have b:atKey (q :: qs) k=some q.2:=by simp [atKey,List.find?_cons,e']
      rw [zha e,b]; exact h2
    · have e':¬ q.1=k:=fun z=>e (h1.trans z)
      have b:atKey (q :: qs) k=atKey qs k:=by simp [atKey,List.find?_cons,e']
      rw [zhb e,b]; exact ih
theorem KT.repl {H:Hp} {kvs:List (List Key × V)} {xs:List (List Key × Addr × Value)} (r:KT H kvs xs) (k:List Key) {y:V} {u:Value} (ry:zdk y u) :
    KT H (kvs.map fun kv=>if kv.1=k then (kv.1,y) else kv) (xs.map (putAt k u)):=by
  induction r with
  | nil=>exact .nil
  | @cons p q ps qs h t ih =>
    rw [List.map_cons,List.map_cons]
    refine .cons ?_ ih
    obtain ⟨h1,h2,h3⟩:=h
    unfold putAt
    by_cases e:p.1=k
    · rw [if_pos e,if_pos (h1.symm.trans e)]; exact ⟨h1,h2,ry⟩
    · rw [if_neg e,if_neg (fun z=>e (h1.trans z))]; exact ⟨h1,h2,h3⟩
theorem KT.put {H:Hp} {kvs:List (List Key × V)} {xs:List (List Key × Addr × Value)} (r:KT H kvs xs) (k:List Key) {b:Addr} {y:V} {u:Value} (hb:H b=some (.tup (k.map kV))) (ry:zdk y u) :
  KT H (zfa kvs k y) (storedH xs k b u):=by
 have e:(kvs.any fun kv=>decide (kv.1=k))=(atKey xs k).isSome:=by
  rw [zhx,(r.val k).isSome_eq,Option.isSome_map]
 unfold zfa storedH
 rw [e]
 by_cases q:(atKey xs k).isSome=true
 ·rw [if_pos q,if_pos q]; exact r.repl k ry
 ·rw [if_neg q,if_neg q]; exact Paired.snoc r ⟨rfl,hb,ry⟩
theorem KT.keeps {H H':Hp} {kvs:List (List Key × V)} {xs:List (List Key × Addr × Value)} (r:KT H kvs xs) (ht:∀ b ys,H b=some (.tup ys)→H' b=some (.tup ys)):KT H' kvs xs :=
 Paired.mapP r fun _ _ z=>⟨z.1,ht _ _ z.2.1,z.2.2⟩
section
variable {P:Program} {w:World} {H:Hp} {h:Heap} {a:Addr}
theorem zw_ {u:HO} (ok:HOk P w H h) (e:Rd H a u):zdy P w H h a u:=e.ok ok
theorem zma {kvs:List (Key × V)} (ok:HOk P w H h) (e:Rd H a (.dK kvs)):kvs.length≤sizeLine∧(a == sysModules)=false∧∃ vs,KV kvs vs∧h.DictOf (zcr P w) a vs :=
 show zdy P w H h a (.dK kvs) from zw_ ok e
theorem zrp {kvs:List (Key × V)} (ok:HOk P w H h) (e:H a=some (.dK kvs)):kvs.length≤sizeLine∧(a == sysModules)=false∧∃ vs,KV kvs vs∧h.DictOf (zcr P w) a vs:=zma ok (.inl e)
theorem zks {ks:List Key} (ok:HOk P w H h) (e:H a=some (.tup (ks.map kV))):(tupleKind (zcr P w)).is h ks a:=by
 obtain ⟨_,its,r,o,h1,h2,n,h3⟩:=(show zdy P w H h a (.tup (ks.map kV)) from ok a _ e)
 exact ⟨o,its.toArray,n,h1,h2,h3,by simpa using zly r⟩
theorem zon {kvs:List (List Key × V)} (ok:HOk P w H h) (e:Rd H a (.dT kvs)):kvs.length≤sizeLine∧(a == sysModules)=false ∧
    ∃ xs,KT H kvs xs∧h.DictOfH (tupleKind (zcr P w)) a xs:=by
  obtain ⟨z,y,xs,r,o,es,ep,h1,h2,h3,h4,h5⟩:=(show zdy P w H h a (.dT kvs) from zw_ ok e)
  refine ⟨z,y,xs,r,o,es,ep,h1,h2,h3,h4,fun x hx=>?_,h5⟩
  have all:∀ {l:List (List Key × V)} {m:List (List Key × Addr × Value)},KT H l m→∀ x∈m,(tupleKind (zcr P w)).is h x.1 x.2.1:=by
    intro l m q
    induction q with
    | nil=>intro x hx; exact nomatch hx
    | @cons p q ps qs hq t ih =>
      intro x hx
      rcases List.mem_cons.mp hx with e | hx
      · subst e
        exact zks ok (by rw [← hq.1]; exact hq.2.1)
      · exact ih x hx
  exact all r x hx
theorem zzg {kvs:List (List Key × V)} (ok:HOk P w H h) (e:H a=some (.dT kvs)):kvs.length≤sizeLine∧(a == sysModules)=false ∧
  ∃ xs,KT H kvs xs∧h.DictOfH (tupleKind (zcr P w)) a xs:=zon ok (.inl e)
end
def zew (H:Hp) (a:Addr) (y:V) (r:Option V):Prop :=
 (∃ kvs k,Rd H a (.dK kvs)∧y=kV k∧r=zg9 kvs k)∨∃ kvs k b,Rd H a (.dT kvs)∧y = .ref b∧H b=some (.tup (k.map kV))∧r=zg9 kvs k
def zkr (H:Hp) (a:Addr) (y v:V) (H':Hp):Prop :=
 (∃ kvs k,H a=some (.dK kvs)∧y=kV k∧kvs.length<sizeLine∧H'=upd H a (.dK (zfa kvs k v))) ∨
 ∃ kvs k b,H a=some (.dT kvs)∧y = .ref b∧H b=some (.tup (k.map kV))∧kvs.length<sizeLine∧H'=upd H a (.dT (zfa kvs k v))
theorem zew.k {H:Hp} {a:Addr} {kvs:List (Key × V)} {k:Key} (e:H a=some (.dK kvs)):zew H a (kV k) (zg9 kvs k):= .inl ⟨kvs,k,.inl e,rfl,rfl⟩
theorem zew.t {H:Hp} {a b:Addr} {kvs:List (List Key × V)} {k:List Key} (e:H a=some (.dT kvs)) (eb:H b=some (.tup (k.map kV))):zew H a (.ref b) (zg9 kvs k):= .inr ⟨kvs,k,b,.inl e,rfl,eb,rfl⟩
theorem zkr.k {H:Hp} {a:Addr} {kvs:List (Key × V)} {k:Key} {v:V} (e:H a=some (.dK kvs)) (hl:kvs.length<sizeLine):zkr H a (kV k) v (upd H a (.dK (zfa kvs k v))):= .inl ⟨kvs,k,e,rfl,hl,rfl⟩
theorem zkr.t {H:Hp} {a b:Addr} {kvs:List (List Key × V)} {k:List Key} {v:V} (e:H a=some (.dT kvs)) (eb:H b=some (.tup (k.map kV))) (hl:kvs.length<sizeLine) :
  zkr H a (.ref b) v (upd H a (.dT (zfa kvs k v))):= .inr ⟨kvs,k,b,e,rfl,eb,hl,rfl⟩
section
variable {X:Cx} {pins:List (Addr × Obj)} {σ:St} {H:Hp} {s:Shared} {a:Addr} {y v:V} {u r:Value} {o:Option V} {A:Around} {E:Value→Shared→Prop}
theorem Inv.big (I:Inv X pins σ H s):sysModules<s.heap.objs.size:=by
 have h:mainGlobals<s.heap.objs.size:=(I.mod.glob.keeps I.bk).lt
 exact Nat.lt_trans (by decide) h
theorem zru {Q:Value→Shared→Prop} (hu:A.units+1<cLine) (I:Inv X pins σ H s) (g:zew H a y (some v)) (ry:zdk y u) (h:∀ w' s',Inv X pins σ H s'→zdk v w'→Q w' s') :
  wpAny (model X.prog X.w) A (getItem (.ref a) u) Q E s:=by
 rcases g with ⟨kvs,k,e,ey,l⟩ | ⟨kvs,k,b,e,ey,eb,l⟩
 ·subst ey
  obtain ⟨z,hd,vs,rel,dd⟩:=zma I.hok e
  obtain ⟨w',hw,rw'⟩:=zlw.some_of (v:=v) (o:=valueAt vs k) (by rw [l]; exact rel.val k)
  exact wpAny_getItem_of (znp ry) dd.mapOf hw (h w' _ (I.tok _) rw')
 ·subst ey
  cases (show u=Value.ref b from ry)
  obtain ⟨z,hd,xs,rel,dd⟩:=zon I.hok e
  obtain ⟨w',hw,rw'⟩:=zlw.some_of (v:=v) (o:=(atKey xs k).map (·.2)) (by rw [l]; exact rel.val k)
  obtain ⟨p,hp,hp2⟩:=Option.map_eq_some_iff.mp hw
  refine wpAny_getItem_heap (tupleKind_room_in1 hu) (zks I.hok eb) dd hp ?_
  rw [hp2]
  exact h w' _ (I.tok _) rw'
theorem z0z {Q:Value→Shared→Prop} (hu:A.units+1<cLine) (I:Inv X pins σ H s) (g:zew H a y o) (ry:zdk y u) (h:∀ s',Inv X pins σ H s'→Q (.bool o.isSome) s') :
  wpAny (model X.prog X.w) A (compareOp .In u (.ref a)) Q E s:=by
 rcases g with ⟨kvs,k,e,ey,l⟩ | ⟨kvs,k,b,e,ey,eb,l⟩
 ·subst ey
  obtain ⟨z,hd,vs,rel,dd⟩:=zma I.hok e
  refine wpAny_in_of (znp ry) hd dd.mapOf ?_
  rw [← (rel.val k).isSome_eq,← l]
  exact h _ (I.tok _)
 ·subst ey
  cases (show u=Value.ref b from ry)
  obtain ⟨z,hd,xs,rel,dd⟩:=zon I.hok e
  refine wpAny_in_heap (tupleKind_room_in1 hu) (zks I.hok eb) hd dd ?_
  have q:=(rel.val k).isSome_eq
  rw [Option.isSome_map] at q
  rw [← q,← l]
  exact h _ (I.tok _)
theorem zvx {Q:Value→Shared→Prop} (hu:A.units+1<cLine) (I:Inv X pins σ H s) (g:zew H a y o) (ry:zdk y u) (h:∀ s',Inv X pins σ H s'→Q (.bool (!o.isSome)) s') :
  wpAny (model X.prog X.w) A (compareOp .NotIn u (.ref a)) Q E s:=by
 rcases g with ⟨kvs,k,e,ey,l⟩ | ⟨kvs,k,b,e,ey,eb,l⟩
 ·subst ey
  obtain ⟨z,hd,vs,rel,dd⟩:=zma I.hok e
  refine wpAny_notIn_of (znp ry) hd dd.mapOf ?_
  rw [← (rel.val k).isSome_eq,← l]
  exact h _ (I.tok _)
 ·subst ey
  cases (show u=Value.ref b from ry)
  obtain ⟨z,hd,xs,rel,dd⟩:=zon I.hok e
  refine wpAny_notIn_heap (tupleKind_room_in1 hu) (zks I.hok eb) hd dd ?_
  have q:=(rel.val k).isSome_eq
  rw [Option.isSome_map] at q
  rw [← q,← l]
  exact h _ (I.tok _)
theorem znr {h':Heap} {t':Nat} {ob:HO} (I:Inv X pins σ H s) (mu:Mut (H a)) (hs:Heap.SameBut a s.heap h') (he:∃ q,h'.get? a=some q) (new:zdy X.prog X.w (upd H a ob) h' a ob) :
  Inv X pins σ (upd H a ob) { s with heap:=h',toks:=t' } :=
 I.write (x:=a) (e:=a) mu (.inl rfl) (fun b q hb z=>(hs.2 b hb).trans z) he new
theorem zuq {P:Program} {w:World} {H':Hp} {h':Heap} {kvs:List (Key × V)} {vs:List (Key × Value)} (z:kvs.length≤sizeLine) (hd:(a == sysModules)=false) (rel:KV kvs vs) (dd:h'.DictOf (zcr P w) a vs) :
  zdy P w H' h' a (.dK kvs):=⟨z,hd,vs,rel,dd⟩
theorem zq0 {H':Hp} {Q:Unit→Shared→Prop} (hu:A.units+1<cLine) (I:Inv X pins σ H s) (g:zkr H a y v H') (ry:zdk y u) (rv:zdk v r) (h:∀ s',Inv X pins σ H' s'→Q () s') :
  wpAny (model X.prog X.w) A (setItem (.ref a) u r) Q E s:=by
 rcases g with ⟨kvs,k,e,ey,l,eH⟩ | ⟨kvs,k,b,e,ey,eb,l,eH⟩
 ·subst ey eH
  obtain ⟨z,hd,vs,rel,dd⟩:=zrp I.hok e
  have hz:vs.length≤sizeLine:=by rw [← rel.length]; exact z
  have hl:(zfa kvs k v).length≤sizeLine:=by have:=zgz kvs k v; omega
  refine wpAny_setItem_pairs (hsz:=hz) (znp ry) dd fun h' dd' hs=>h _ ?_
  have he:∃ q,h'.get? a=some q:=let ⟨q,_,_,hq,_⟩:=dd'; ⟨q,hq⟩
  exact znr I (by rw [e]; exact True.intro) hs he (zuq hl hd (rel.put k rv) dd')
 ·subst ey eH
  cases (show u=Value.ref b from ry)
  obtain ⟨z,hd,xs,rel,dd⟩:=zzg I.hok e
  have hz:xs.length≤sizeLine:=by rw [← Paired.length rel]; exact z
  have hl:(zfa kvs k v).length≤sizeLine:=by have:=zgz kvs k v; omega
  refine wpAny_setItem_heap (hsz:=hz) (tupleKind_room_in1 hu) (zks I.hok eb) dd fun h' dd' hs=>h _ ?_
  obtain ⟨q,es,ep,hq,h2,h3,h4,_,h5⟩:=dd'
  refine znr I (by rw [e]; exact True.intro) hs ⟨q,hq⟩ ⟨hl,hd,_,(rel.put k eb rv).keeps fun c ys ec=>?_,q,es,ep,hq,h2,h3,h4,h5⟩
  rw [zal (zd_ ec e (fun z=>nomatch z))]
  exact ec
end
section
variable {X:Cx} {pins:List (Addr × Obj)} {σ:St} {H:Hp} {s:Shared} {a:Addr} {kvs:List (Key × V)} {k:Key} {u:Value} {A:Around} {E:Value→Shared→Prop}
theorem zy3 {Q:Value→Shared→Prop} (I:Inv X pins σ H s) (e:Rd H a (.dK kvs)) (h:∀ t s',Inv X pins σ H s'→Q (.int kvs.length t) s'):wpAny (model X.prog X.w) A (call (.builtin "len") [.ref a]) Q E s:=by
 obtain ⟨z,hd,vs,rel,dd⟩:=zma I.hok e
 refine call_len_dict hd dd (by rw [← rel.length]; rw [sizeLine_eq] at z; omega) ?_
 rw [← rel.length]
 exact h _ _ (I.tok _)
end
def zz4 (i:Expr):Prop:=∀ ov iv,subscripted i false ov iv=operate [ov,iv] (getItem ov iv)
theorem zv6 {prog:Program} {w:World} {A:Around} {E:Value→Shared→Prop} {s:Shared} {env:Env} {value slice:Expr} {pos:Pos} {T id:String} {Q:Value→Shared→Prop}
  (hl:typeLookup (.type T) "__getitem__" = pure (some (.builtin id))) (hs:zz4 slice)
  (h:wpAny (model prog w) A (eval value env) (fun o s₁=>wpAny (model prog w) A (eval slice env) (fun i s₂=>s₂.TypeIs o T∧wpAny (model prog w) A (getItem o i) Q E s₂) E s₁) E s) :
  wpAny (model prog w) A (eval (.Subscript value slice pos) env) Q E s:=by
 refine Subscript_ (wpAny_mono h (fun o s₁ h₁=>wpAny_mono h₁ (fun i s₂ h₂=>?_) fun _ _ x=>x) fun _ _ x=>x)
 obtain ⟨hT,h₂⟩:=h₂
 unfold subscriptTail
 refine wpAny_bind ?_
 rw [getitemInPython_of_ne hT.not_modules]
 refine wpAny_bind (wpAny_specialOf hT hl ?_)
 have fin:wpAny (model prog w) A (subscripted slice false o i) (fun r s₃=>wpAny (model prog w) A (letTemporaryGo value o r >>= fun _=>pure r) Q E s₃) E s₂:=by
  rw [hs o i]
  exact wpAny_operating (wpAny_mono h₂ (fun r s₃ h₃=>wpAny_bind (wpAny_letTemporaryGo (wpAny_pure h₃))) fun _ _ x=>x)
 first
  | exact wpAny_pure (wpAny_bind fin)
  | exact wpAny_bind (wpAny_pure (wpAny_bind fin))
  | exact wpAny_bind fin
theorem zn1 {X:Cx} {pins:List (Addr × Obj)} {σ:St} {H:Hp} {s:Shared} {a:Addr} {y:V} {o:Option V} (I:Inv X pins σ H s) (g:zew H a y o):s.TypeIs (.ref a) "dict" :=by
 rcases g with ⟨kvs,k,e,_,_⟩ | ⟨kvs,k,b,e,_,_,_⟩
 ·obtain ⟨_,_,vs,_,dd⟩:=zma I.hok e
  exact dd.typeIs
 ·obtain ⟨_,_,xs,_,dd⟩:=zon I.hok e
  exact dd.typeIs
def zy7 (td ty:TE):TE:=fun σ H Q=>td σ H fun x H1=>ty σ H1 fun y H2=>∃ a v,x = .ref a∧zew H2 a y (some v)∧Q v H2
def z0u (ty td:TE):TE:=fun σ H Q=>ty σ H fun y H1=>td σ H1 fun x H2=>∃ a o,x = .ref a∧zew H2 a y o∧Q (.bl o.isSome) H2
def zwg (ty td:TE):TE:=fun σ H Q=>ty σ H fun y H1=>td σ H1 fun x H2=>∃ a o,x = .ref a∧zew H2 a y o∧Q (.bl (!o.isSome)) H2
def zy9 (td ty tv:TE):TS:=fun D σ H=>tv σ H fun v H1=>td σ H1 fun x H2=>ty σ H2 fun y H3=>∃ a H4,x = .ref a∧zkr H3 a y v H4∧D.nx σ H4
section
variable {X:Cx} {o i e value:Expr} {pos pos' tpos:Pos} {td ty tv:TE}
theorem zby (hu:X.A.units+1<cLine) (ho:PE X o td) (hi:PE X i ty) (hs:zz4 i):PE X (.Subscript o i pos) (zy7 td ty):=by
 intro pins s σ H Q I h
 refine zv6 PySem.F.slot_dict_getitem.lookup hs (thn (ho pins s σ H _ I h) fun u s1 ⟨x,H1,I1,rx,q1⟩=>thn (hi pins s1 σ H1 _ I1 q1) fun iv s2 ⟨y,H2,I2,ry,a,v,ex,g,q2⟩=>?_)
 subst ex
 obtain rfl:u=Value.ref a:=rx
 exact ⟨zn1 I2 g,zru hu I2 g ry fun w' s3 I3 rw'=>⟨v,H2,I3,rw',q2⟩⟩
theorem zpd (hu:X.A.units+1<cLine) (hi:PE X i ty) (ho:PE X o td):PC X .In i o (z0u ty td):=by
 intro pins s σ H Q I h
 refine thn (hi pins s σ H _ I h) fun iv s1 ⟨y,H1,I1,ry,q1⟩=>thn (ho pins s1 σ H1 _ I1 q1) fun u s2 ⟨x,H2,I2,rx,a,ov,ex,g,q2⟩=>?_
 subst ex
 obtain rfl:u=Value.ref a:=rx
 exact z0z hu I2 g ry fun s3 I3=>⟨.bl ov.isSome,H2,I3,rfl,q2⟩
theorem zeq (hu:X.A.units+1<cLine) (hi:PE X i ty) (ho:PE X o td):PC X .NotIn i o (zwg ty td):=by
 intro pins s σ H Q I h
 refine thn (hi pins s σ H _ I h) fun iv s1 ⟨y,H1,I1,ry,q1⟩=>thn (ho pins s1 σ H1 _ I1 q1) fun u s2 ⟨x,H2,I2,rx,a,ov,ex,g,q2⟩=>?_
 subst ex
 obtain rfl:u=Value.ref a:=rx
 exact zvx hu I2 g ry fun s3 I3=>⟨.bl (!ov.isSome),H2,I3,rfl,q2⟩
theorem zia (hu:X.A.units+1<cLine) (ho:PE X o td) (hi:PE X i ty) (hv:PE X value tv) (hs:swapsWith value (some (.Subscript o i pos')) pos.line X.env=pure false) :
  PS X (.Assign [.Subscript o i pos'] value pos) (zy9 td ty tv):=by
 intro pins s σ H D I h
 refine wpAny_Assign_Subscript (thn (hv pins s σ H _ I h) fun r s1 ⟨v,H1,I1,rv,q1⟩=>thn (ho pins s1 σ H1 _ I1 q1) fun u s2 ⟨x,H2,I2,rx,q2⟩=>thn (hi pins s2 σ H2 _ I2 q2) fun iv s3 ⟨y,H3,I3,ry,a,H4,ex,g,q3⟩=>?_) hs
 subst ex
 obtain rfl:u=Value.ref a:=rx
 exact zq0 hu I3 g ry rv fun s4 I4=>⟨σ,H4,I4,q3⟩
end
theorem zpa {P:Program} {w:World} {H:Hp} (h:Heap) (hb:sysModules<h.objs.size):zdy P w H (h.push { cls:= .type "dict",data:= .dict #[] }) h.objs.size (.dK []) :=
 ⟨Nat.zero_le _,beq_eq_false_iff_ne.mpr (Ne.symm (Nat.ne_of_lt hb)),[],.nil,Heap.DictOf.new h⟩
def zyf:TE:=fun _ H Q=>∀ p,H p=none→Q (.ref p) (upd H p (.dK []))
section
variable {X:Cx} {pos:Pos}
theorem zgo:PE X (.Dict [] [] pos) zyf:=fun pins s σ H Q I h =>
 wpAny_Dict_empty ⟨.ref s.heap.objs.size,_,I.laid (a:=s.heap.objs.size) (o:= .dK []) (t':=s.toks) (fun _ _ q=>Heap.get?_push_of_some _ q) (Nat.le_refl _) (zpa s.heap I.big),rfl,h _ (I.hok.fresh (Nat.le_refl _))⟩
end
def zse:List (TE × TE)→St→Hp→(List (V × V)→Hp→Prop)→Prop
 | [],_,H,Q=>Q [] H
 | (tk,tv) :: r,σ,H,Q=>tk σ H fun x H1=>tv σ H1 fun y H2=>zse r σ H2 fun ps H3=>Q ((x,y) :: ps) H3
abbrev VV:List (V × V)→List (Value × Value)→Prop:=Paired fun p q=>zdk p.1 q.1∧zdk p.2 q.2
def PPs (X:Cx) (pos:Pos) (keys:List (Option Expr)) (values:List Expr) (trs:List (TE × TE)):Prop :=
 ∀ (pins:List (Addr × Obj)) (s:Shared) (σ:St) (H:Hp) (Q:List (V × V)→Hp→Prop),Inv X pins σ H s→zse trs σ H Q →
  wpAny (model X.prog X.w) X.A (evalPairs (pairTrees keys values X.env pos)) (fun vs s'=>∃ ps H',Inv X pins σ H' s'∧VV ps vs∧Q ps H') X.xe s
theorem zri {X:Cx} {pos:Pos}:PPs X pos [] [] []:=fun pins s σ H Q I h=>pairTrees_nil_walk ⟨[],H,I,.nil,h⟩
theorem zi1 {X:Cx} {pos:Pos} {k v:Expr} {ks:List (Option Expr)} {vs:List Expr} {tk tv:TE} {trs:List (TE × TE)} (hk:PE X k tk) (hv:PE X v tv) (hr:PPs X pos ks vs trs) :
  PPs X pos (some k :: ks) (v :: vs) ((tk,tv) :: trs):=fun pins s σ H Q I h =>
 pairTrees_cons_walk (thn (hk pins s σ H _ I h) fun u s1 ⟨x,H1,I1,rx,q1⟩=>thn (hv pins s1 σ H1 _ I1 q1) fun w2 s2 ⟨y,H2,I2,ry,q2⟩ =>
  thn (hr pins s2 σ H2 _ I2 q2) fun ws s3 ⟨ps,H3,I3,rel,q3⟩=>⟨(x,y) :: ps,H3,I3,.cons ⟨rx,ry⟩ rel,q3⟩)
def zig (kvs more:List (Key × V)):List (Key × V):=more.foldl (fun acc kv=>zfa acc kv.1 kv.2) kvs
theorem KV.merge:∀ {more:List (Key × V)} {rs:List (Key × Value)} {kvs:List (Key × V)} {vs:List (Key × Value)},KV more rs→KV kvs vs→KV (zig kvs more) (merged vs rs):=by
  intro more rs kvs vs r
  unfold KV at r
  induction r generalizing kvs vs with
  | nil=>intro q; exact q
  | @cons p q ps qs h t ih =>
    intro r0
    have e:KV (zfa kvs p.1 p.2) (stored vs q.1 q.2):=by
      have:=r0.put p.1 h.2
      rw [← h.1]; exact this
    exact ih e
theorem zhg:∀ (more kvs:List (Key × V)),(zig kvs more).length≤kvs.length+more.length
  | [],kvs=>by show kvs.length≤kvs.length+0; omega
  | p :: r,kvs=>by
    have h1:=zhg r (zfa kvs p.1 p.2)
    have h2:=zgz kvs p.1 p.2
    show (zig (zfa kvs p.1 p.2) r).length≤_
    rw [List.length_cons]; omega
theorem zkw {P:Program} {w:World}:∀ {kvs:List (Key × V)} {ws:List (Value × Value)},VV (kvs.map fun kv=>(kV kv.1,kv.2)) ws→∃ rs,Carries (zcr P w) ws rs∧KV kvs rs
  | [],_,r=>by rw [List.map_nil] at r; cases r; exact ⟨[],True.intro,.nil⟩
  | p :: kvs,_,r=>by
    rw [List.map_cons] at r
    cases r with
    | @cons a b as bs h t =>
      obtain ⟨rs,c,q⟩:=zkw (P:=P) (w:=w) t
      obtain ⟨b1,b2⟩:=b
      exact ⟨(p.1,b2) :: rs,⟨znp h.1,rfl,c⟩,.cons ⟨rfl,h.2⟩ q⟩
def zzy (trs:List (TE × TE)):TE:=fun σ H Q=>∀ p,H p=none→zse trs σ (upd H p (.dK [])) fun ps H2=>H2 p=some (.dK [])∧∃ kvs:List (Key × V),ps=kvs.map (fun kv=>(kV kv.1,kv.2))∧kvs.length≤15∧Q (.ref p) (upd H2 p (.dK (zig [] kvs)))
theorem zrz {X:Cx} {pos:Pos} {keys:List (Option Expr)} {values:List Expr} {trs:List (TE × TE)} (h:PPs X pos keys values trs) (hall:keys.all (·.isSome)=true) (hl:keys.length=values.length) (h0:keys≠[])
  (h15:keys.length≤15):PE X (.Dict keys values pos) (zzy trs):=by
 intro pins s σ H Q I q
 have hn:=I.hok.fresh (Nat.le_refl s.heap.objs.size)
 have I1:=I.laid (a:=s.heap.objs.size) (o:= .dK []) (h':=s.heap.push { cls:= .type "dict",data:= .dict #[] }) (t':=s.toks) (fun _ _ q=>Heap.get?_push_of_some _ q) (Nat.le_refl _) (zpa s.heap I.big)
 refine wpAny_Dict_walk (knd:=zcr X.prog X.w) hall hl h0 h15 (thn (h pins _ σ _ _ I1 (q _ hn)) fun ws s2 ⟨ps,H2,I2,rel,e,kvs,ep,lk,q2⟩=>?_)
 subst ep
 obtain ⟨rs,c,rk⟩:=zkw (P:=X.prog) (w:=X.w) rel
 obtain ⟨z,hd,vs0,r0,dd⟩:=zrp I2.hok e
 cases r0
 refine ⟨rs,c,dd,fun h' dd' hs=>⟨.ref s.heap.objs.size,_,?_,rfl,q2⟩⟩
 have hz:(zig [] kvs).length≤sizeLine:=by
  have h1:=zhg kvs []
  rw [List.length_nil] at h1
  rw [sizeLine_eq]; omega
 have he:∃ q,h'.get? s.heap.objs.size=some q:=let ⟨q,_,_,hq,_⟩:=dd'; ⟨q,hq⟩
 exact znr I2 (by rw [e]; exact True.intro) hs he (zuq hz hd (rk.merge .nil) dd')
structure M1 (X:Cx) (o:Expr) (m:Str) (apos:Pos) (e:Expr) (cpos:Pos):Prop where
 base:attributeBase o m X.env (eval o X.env)=eval o X.env
 few:((backTo cpos (starEach [e] X.env)).all (fun x=> !x.1) && (backToKw cpos (keywordEach [] X.env)).all (fun x=>x.1.isSome)
  && decide (([e]:List Expr).length+([]:List Keyword).length+(if ([]:List Keyword).isEmpty then 0 else 1)<30))=true
 line:(apos.endLine == cpos.line)=true
 trees:backTo cpos (starEach [e] X.env)=[(false,eval e X.env)]
structure M2 (X:Cx) (o:Expr) (m:Str) (apos:Pos) (e f:Expr) (cpos:Pos):Prop where
 base:attributeBase o m X.env (eval o X.env)=eval o X.env
 few:((backTo cpos (starEach [e,f] X.env)).all (fun x=> !x.1) && (backToKw cpos (keywordEach [] X.env)).all (fun x=>x.1.isSome)
  && decide (([e,f]:List Expr).length+([]:List Keyword).length+(if ([]:List Keyword).isEmpty then 0 else 1)<30))=true
 line:(apos.endLine == cpos.line)=true
 trees:backTo cpos (starEach [e,f] X.env)=[(false,eval e X.env),(false,eval f X.env)]
def IsD (H:Hp) (a:Addr):Prop:=(∃ kvs,Rd H a (.dK kvs))∨∃ kvs,Rd H a (.dT kvs)
theorem zx9 {X:Cx} {pins:List (Addr × Obj)} {σ:St} {H:Hp} {s:Shared} {a:Addr} (I:Inv X pins σ H s) (d:IsD H a) :
  s.TypeIs (.ref a) "dict" ∧(∀ b,Value.ref a = .ref b→∃ ob,s.heap.get? b=some ob∧ob.dict=none)∧(a == sysModules)=false:=by
 rcases d with ⟨kvs,e⟩ | ⟨kvs,e⟩
 ·obtain ⟨_,hd,vs,_,dd⟩:=zma I.hok e
  refine ⟨dd.typeIs,fun b q=>?_,hd⟩
  cases q
  obtain ⟨ob,_,_,h1,h2,_⟩:=dd
  exact ⟨ob,h1,h2.2.1⟩
 ·obtain ⟨_,hd,xs,_,dd⟩:=zon I.hok e
  refine ⟨dd.typeIs,fun b q=>?_,hd⟩
  cases q
  obtain ⟨ob,_,_,h1,h2,_⟩:=dd
  exact ⟨ob,h1,h2.2.1⟩
section
variable {X:Cx} {pins:List (Addr × Obj)} {σ:St} {H:Hp} {s:Shared} {a:Addr} {y d:V} {u r:Value} {o:Option V} {A:Around} {E:Value→Shared→Prop}
theorem zx1 {Q:Value→Shared→Prop} (hu:A.units+1<cLine) (I:Inv X pins σ H s) (g:zew H a y o) (ry:zdk y u) (rd:zdk d r) (h:∀ w' s',Inv X pins σ H s'→zdk (o.getD d) w'→Q w' s') :
  wpAny (model X.prog X.w) A (call (.builtin "dict.get") [.ref a,u,r]) Q E s:=by
 rcases g with ⟨kvs,k,e,ey,l⟩ | ⟨kvs,k,b,e,ey,eb,l⟩
 ·subst ey
  obtain ⟨z,hd,vs,rel,dd⟩:=zma I.hok e
  refine call_meetsIn PySem.F.slot_dict_get dd.typeIs PySem.F.entry_dict_get (PySem.F.args_dict_get_3 _ _ _) (meets_dict_get_default (zcr X.prog X.w) a (znp ry) hd r) ⟨_,dd.mapOf,h _ _ (I.tok _) ?_⟩
  rw [l]
  exact (rel.val k).getD rd
 ·subst ey
  cases (show u=Value.ref b from ry)
  obtain ⟨z,hd,xs,rel,dd⟩:=zon I.hok e
  refine call_meetsIn PySem.F.slot_dict_get dd.typeIs PySem.F.entry_dict_get (PySem.F.args_dict_get_3 _ _ _) (meetsH_dict_get_default (tupleKind (zcr X.prog X.w)) a b hd r) ⟨tupleKind_room_in1 hu,k,xs,zks I.hok eb,dd,h _ _ (I.tok _) ?_⟩
  rw [l]
  exact (rel.val k).getD rd
end
def zyc (td ty tx:TE):TE:=fun σ H Q=>td σ H fun x H1=>∃ a,x = .ref a∧IsD H1 a∧ty σ H1 fun y H2=>tx σ H2 fun z H3=>∃ o,zew H3 a y o∧Q (o.getD z) H3
section
variable {X:Cx} {o e f:Expr} {apos cpos:Pos} {td ty tx:TE}
theorem zuj (hu:X.A.units+1<cLine) (ho:PE X o td) (he:PE X e ty) (hf:PE X f tx) (m:M2 X o "get" apos e f cpos):PE X (.Call (.Attribute o "get" apos) [e,f] [] cpos) (zyc td ty tx):=by
 intro pins s σ H Q I h
 refine wpAny_Call_method m.base m.few m.line PySem.F.plainAttrs_dict PySem.F.slot_dict_get PySem.F.type_dict_get (thn (ho pins s σ H _ I h) fun u s1 ⟨x,H1,I1,rx,a,ex,d,q1⟩=>?_)
 subst ex
 obtain rfl:u=Value.ref a:=rx
 obtain ⟨t1,t2,_⟩:=zx9 I1 d
 refine ⟨t1,t2,?_⟩
 rw [m.trees]
 refine Calls.callWith_builtin rfl (Calls.evalArgs_plain (Calls.spliced_cons (thn (he pins s1 σ H1 _ I1 q1) fun iv s2 ⟨y,H2,I2,ry,q2⟩ =>
  Calls.spliced_cons (thn (hf pins s2 σ H2 _ I2 q2) fun fv s3 ⟨z,H3,I3,rz,ov,g,q3⟩=>Calls.spliced_nil ?_))))
 exact zx1 hu I3 g ry rz fun w' s4 I4 rw'=>⟨_,H3,I4,rw',q3⟩
end
section
variable {X:Cx} {pins:List (Addr × Obj)} {σ:St} {H:Hp} {s:Shared} {a:Addr} {kvs:List (Key × V)} {A:Around} {E:Value→Shared→Prop}
end
section
variable {X:Cx} {pins:List (Addr × Obj)} {σ:St} {H:Hp} {s:Shared} {a:Addr} {y:V} {u:Value} {A:Around} {E:Value→Shared→Prop}
end
end L2
namespace Att
open PySem PySem.W PySem.Calls PyProof.Rows
section
variable {prog:Program} {w:World} {A:Around} {E:Value→Shared→Prop} {s:Shared} {K:Frag}
end
end Att
namespace L2
open PySem PySem.Spec PyProof.Rows
end L2
namespace L2
open PySem PySem.Spec PyProof.Rows
end L2
namespace L2
open PySem PySem.Spec PyProof.Rows
section
variable {P:Program} {w:World} {K:PySem.W.Frag} {mg:Str→Option Value} {base:Heap}
end
section
variable {X:Cx}
theorem znh:zgy X (.builtin "len") (fun xs H Q=>∃ a kvs,xs=[V.ref a]∧H a=some (.dK kvs)∧Q (.int kvs.length) H):=by
 intro pins s σ H xs us Q I r h
 obtain ⟨a,kvs,rfl,ha,q⟩:=h
 obtain ⟨u,rfl,ru⟩:=zn3 r
 cases ru
 exact zy3 I (.inl ha) fun t s' I'=>⟨.int kvs.length,H,I',⟨t,rfl⟩,q⟩
end
section
variable {κ:Type} [DecidableEq κ]
end
end L2
namespace L2
open PySem PySem.Spec PyProof.Rows
theorem zk8:bootBuiltins "ValueError" = some (.type "ValueError"):=by decide +kernel
section
variable {P:Program} {w:World} {K:PySem.W.Frag} {mg:Str→Option Value} {base:Heap}
theorem Fun.okX {x qual:Str} {st:Stmt} {f:Addr} {fd:FuncData} {N ps:List Str} {k:Nat} {sp:Sp} (F:Fun K x qual st f fd) (S:za3 N ps (zai st)) (len:∀ vs H Q E,sp vs H Q E→vs.length=ps.length)
  (hbody:∀ (cdv:Value) (A:Around) (outer:List Env) (s:Shared) (H:Hp) (vs:List V) (Q:VK) (E:XK),zfy k (A.deeper (envOfC qual (zai st) s.heap.objs.size f cdv))→sp vs H Q E →
   ∃ t,PSs (zkz (CXR P w) P w K mg base N qual (zai st) f cdv A outer s H E) (za0 st) t∧t { nx:=fun _ H'=>Q .non H',rt:=Q } (start N vs) H):zbe P w K mg base (CXR P w) (k+1) f fd ps sp:=by
 obtain ⟨oc,od,kV,doc,pm,an,cdv,ct,osl,rfl,lk,hcd⟩:=F.ex
 exact zs4 lk hcd S len fun A outer s H vs Q E hr hsp=>hbody cdv A outer s H vs Q E hr hsp
end
end L2
namespace L2
open PySem PySem.Spec PyProof.Rows
section
open PySem.W PySem.Builtin PySem.Builtin.ObjectAttr PySem.Builtin.Getset_descriptor
variable {K:Frag} {D x:Addr} {prog:Program} {w:World} {A:Around} {E:Value→Shared→Prop} {s:Shared}
theorem zwv (h1:findIn K (.ref D) "__getattribute__" = some (some (.builtin "BaseException.__getattribute__"))) (h2:findIn K (.ref D) "__getattr__" = some none) (ha:findIn K (.ref D) "__class__" = some (some (.builtin "object.__class__"))) (hn:specialIn K (.builtin "object.__class__") "__get__" = some (some (.builtin "getset_descriptor.__get__")))
  (htk:takesIn K (.builtin "object.__class__")=some true) (hm:mroIn K D (.type "object")=some true) (hb:mroIn K D (.type "BaseException")=some true) {Q:Option Value→Shared→Prop} (X:K.In s.heap) (T:OfC s.heap x D) (q:Q (some (.ref D)) { s with toks:=s.toks+1 }):wpAny (model prog w) A (getAttr? (.ref x) "__class__") Q E s:=by
 obtain ⟨hh,gg,dr,tk,oo⟩:=s
 have T0:=T.ty (M:=model prog w)
 have T1:=looks_findIn (M:=model prog w) X h1
 have T2:=looks_findIn (M:=model prog w) X h2
 have T3:=zus (M:=model prog w) (x:=x) X ha hn htk
 have T4:=looks_mroIn (M:=model prog w) X hm
 have T5:=looks_mroIn (M:=model prog w) X hb
 have hx2:(onTheHeap (Value.ref D) && Value.builtin "BaseException.__getattribute__" == Value.builtin "object.__getattribute__")=false:=by
  have:(Value.builtin "BaseException.__getattribute__" == Value.builtin "object.__getattribute__")=false:=by decide +kernel
  rw [this]
  exact Bool.and_false _
 have f3:=F.excAttr_ValueError.ga.bind (.ref x)
 unfold getAttr? getAttrBy? getAttrBy
 refine wpAny_bind (wpAny_mkText (wpAny_bind (wpAny_attempt (wpAny_holding (wpAny_bind (T0.at (wpAny_bind (T1.at ?_))))))))
 dsimp only
 rw [hx2]
 show wpAny _ _ (getAttrByItsOwn _ _ _ _ _ _) _ _ _
 unfold getAttrByItsOwn hookBefore
 refine wpAny_bind (T2.at (wpAny_bind (wpAny_attempt (wpAny_holding ?_))))
 show wpAny _ _ (boundAndCalled _ _ _) _ _ _
 unfold boundAndCalled
 rw [f3]
 refine wpAny_bind (wpAny_pure ?_)
 have chk:∀ (A':Around) (Q':Unit→Shared→Prop) (E':Value→Shared→Prop) (nv:Value),Q' () ⟨hh,gg,dr,tk+1,oo⟩→wpAny (model prog w) A' (checkBuiltinCall "BaseException.__getattribute__" ⟨[.ref x,nv],[]⟩) Q' E' ⟨hh,gg,dr,tk+1,oo⟩:=fun A' Q' E' nv hq=>by
  have hk:builtinKind "BaseException.__getattribute__" = some .slot:=by decide +kernel
  have hsplit:splitId "BaseException.__getattribute__" = some ("BaseException","__getattribute__"):=by decide +kernel
  have ha:=F.args_bexc_ga (.ref x) nv
  simp only [checkBuiltinCall,hk,hsplit]
  refine wpAny_bind ?_
  unfold isInstance
  have L0:=T0
  have L1:=T5
  repeat lk
  exact hq
 show wpAny _ _ (call (.builtin "BaseException.__getattribute__") [.ref x,.str "__class__" tk]) _ _ _
 refine wpAny_call (codeAny_call_builtin F.excAttr_ValueError.ga.plain F.entry_bexc_ga (chk _ _ _ _ ?_))
 unfold Builtin.«object.__getattribute__»
 iterate 18 lk
 show wpAny _ _ (holding [Value.builtin "object.__class__"] (call (.builtin "getset_descriptor.__get__") [.builtin "object.__class__",.ref x,.ref D]) >>= ret) _ _ _
 refine wpAny_bind (wpAny_holding (wpAny_call (codeAny_call_builtin KF.slot_gs.plain KF.entry_gs (KF.slot_gs.check _ _ _ _ _ _ _ _ KF.type_class (KF.args_gs _ _ _) ?_))))
 unfold Builtin.«getset_descriptor.__get__»
 unfold descrGet
 rw [dga_obj]
 refine wpAny_bind (wpAny_pure ?_)
 unfold descrGetter descrCheckInstance
 unfold descrNameAndClass isInstance
 simp only [KF.owner_class]
 have L0:=T0
 have L1:=T4
 repeat lk
 refine ⟨Code.quiet_builtin _ (by decide +kernel),(codeAny_builtin KF.entry_class ?_)⟩
 unfold Builtin.«object.__class__»
 unfold shownTypeOf
 repeat lk
 exact q
structure zyw (K:Frag) (D:Addr):Prop where
 h1:findIn K (.ref D) "__getattribute__" = some (some (.builtin "BaseException.__getattribute__"))
 h2:findIn K (.ref D) "__getattr__" = some none
 hd:hasDictIn K D=true
 ha:findIn K (.ref D) "__class__" = some (some (.builtin "object.__class__"))
 hn:specialIn K (.builtin "object.__class__") "__get__" = some (some (.builtin "getset_descriptor.__get__"))
 htk:takesIn K (.builtin "object.__class__")=some true
 hm:mroIn K D (.type "object")=some true
 hb:mroIn K D (.type "BaseException")=some true
theorem zyw.kit (k:zyw K D):KitX K (.ref x) (.ref D) (fun h=>OfC h x D) where
 ty:=fun _ _ _ I=>I.ty
 it:=fun _ _ X _=>by
  obtain ⟨cdD,hcD,_⟩:=any_some k.hd
  unfold clsIn at hcD
  split at hcD
  ·rename_i c1 d1 cd1 sl1 ho
   intro A1 Q1 E1 s1 kk q
   unfold isType loadHead
   exact wpAny_bind (wpAny_loadPart (kk _ _ (X _ _ ho)) (wpAny_pure q))
  ·cases hcD
 ne:=fun h tp dd its n sl X htp=>by
  obtain ⟨cdD,hcD,_⟩:=any_some k.hd
  refine Bool.eq_false_iff.mpr fun q=>?_
  have e:D=tp:=Value.ref.inj (beq_iff_eq.mp q)
  subst e
  unfold clsIn at hcD
  split at hcD
  ·rename_i c1 d1 cd1 sl1 ho
   have z:=(X _ _ ho).symm.trans htp
   cases z
  ·cases hcD
 ca:=fun X I q=>zwv k.h1 k.h2 k.ha k.hn k.htk k.hm k.hb X I q
end
theorem zen {X:Cx} {K:PySem.W.Frag} (h:X.K=K):zgy X (.builtin "isinstance") (fun xs H Q=>∃ (e Ca:Addr) (c:Value) (y:V) (b:Bool),xs=[.ref e,y]∧H e=some (zyx e (.ref Ca))∧(∀ u,zdk y u→u=c)∧zyw K Ca∧PySem.W.kitOne K (.ref Ca) c=some b∧Q (.bl b) H):=by
 subst h
 intro pins s σ H xs us Q I r h
 obtain ⟨e,Ca,c,y,b,rfl,he,hy,ek,hk,q⟩:=h
 obtain ⟨u,w',rfl,r1,r2⟩:=zxg r
 cases (show u=Value.ref e from r1)
 cases hy _ r2
 obtain ⟨⟨o,ho,hc⟩,_⟩:=I.hok e _ he
 exact PySem.W.kia_one ek.kit I.kIn ⟨o,ho,hc⟩ hk (fun z=>nomatch z) fun tk=>⟨.bl b,H,I.tok _,rfl,q⟩
end L2
namespace L2
open PySem PySem.Spec PyProof.Rows
theorem zqu {ks:List Int}:∀ {us:List Value},us.length=ks.length→(∀ (j:Nat) (k:Int),ks[j]? = some k→∀ v:Value,us[j]? = some v→∃ t,v=Value.int k t)→IntsAre us ks:=by
  induction ks with
  | nil =>
    intro us hl _
    cases us with
    | nil=>exact .nil
    | cons _ _=>cases hl
  | cons k t ih =>
    intro us hl h
    cases us with
    | nil=>cases hl
    | cons u r =>
      obtain ⟨tk,rfl⟩:=h 0 k rfl u rfl
      exact .cons k tk (ih (by simpa using hl) fun j k' hk v hv=>h (j+1) k' hk v hv)
section
variable {P:Program} {w:World} {A:Around} {E:Value→Shared→Prop}
theorem zrm {s:Shared} {a:Addr} {kvs:List (Key × Value)} {ks:List Int} {ep:Nat} {Q:List Value→Shared→Prop} (hh:A.handled=none) (lo:(a == sysModules)=false) (D:s.heap.DictAt (zcr P w) a kvs ep) (hk:kvs.map (·.1)=ks.map Sum.inl) (hn:ks.length≤1000)
    (q:∀ (h':Heap) (tk:Nat) (vs:List Value),(∀ b o,s.heap.get? b=some o→h'.get? b=some o)→s.heap.objs.size≤h'.objs.size→IntsAre vs ks→Q vs { s with heap:=h',toks:=tk }):wpAny (model P w) A (collect (.ref a)) Q E s:=by
  have hl:kvs.length=ks.length:=by
    have:=congrArg List.length hk
    simpa using this
  have la:a<s.heap.objs.size:=D.lt_size
  unfold collect
  refine wpAny_bind (wpAny_runValue (codeAny_builtin F.entry_proto_collect ?_))
  rw [Around.under_plainId F.plain_proto_collect _]
  refine wpAny_bind (m:=newList []) (wpAny_newObj_type (wpAny_pure ⟨plainId_quiet F.plain_list_iadd _,codeAny_builtin F.entry_list_iadd ?_⟩))
  rw [Around.under_plainId F.plain_list_iadd _]
  obtain ⟨H0,eH0⟩:∃ H0:Heap,H0=s.heap.push { cls:= .type "list",data:= .seq ([]:List Value).toArray }:=⟨_,rfl⟩
  have k0:∀ b o,s.heap.get? b=some o→H0.get? b=some o:=fun b o e=>by rw [eH0]; exact Heap.get?_push_of_some _ e
  have g0:H0.get? s.heap.objs.size=some { cls:= .type "list",data:= .seq #[] }:=by rw [eH0]; exact Heap.get?_push_size _ rfl
  show wpAny _ A.in1 (Builtin.List.listExtendWith (.ref s.heap.objs.size) (.ref a) (.ref s.heap.objs.size)) _ _ { s with heap:=s.heap.push _ }
  rw [← eH0]
  have Kd:=PySem.W.kdl_dict (prog:=P) (w:=w) (knd:=zcr P w) (kvs:=kvs) (ep:=ep) lo
  have D0:H0.DictAt (zcr P w) a kvs ep:=Kd.keep _ _ D fun b _ o e=>k0 b o e
  have fin:∀ (h':Heap) (tk:Nat) (acc:Array Value),(∀ b o,b≠s.heap.objs.size→H0.get? b=some o→h'.get? b=some o)→s.heap.objs.size<h'.objs.size→ItemsOf (fun i v=>∃ k x,kvs[i]? = some (k,x)∧(zcr P w).is k v=true) acc kvs.length→Q acc.toList { s with heap:=h',toks:=tk }:=fun h' tk acc k1 z it=>by
    refine q h' tk acc.toList (fun b o e=>k1 b o (Nat.ne_of_lt (Heap.lt_size e)) (k0 b o e)) (Nat.le_of_lt z) (zqu (by rw [Array.length_toList,it.1,hl]) fun j k hj v hv=>?_)
    obtain ⟨k',x,e1,e2⟩:=it.2 j v (by rw [← Array.getElem?_toList]; exact hv)
    have e3:(kvs.map (·.1))[j]? = some k':=by rw [List.getElem?_map,e1]; rfl
    rw [hk,List.getElem?_map,hj] at e3
    cases e3
    exact Value.isInt_shape e2
  have key:=PySem.W.kdl_extend (A:=A) (s:={ s with heap:=H0 }) (R:=fun r s'=>∃ h' tk acc c,r = .ok (.ret (.ref s.heap.objs.size))∧s'={ s with heap:=h',toks:=tk }∧h'.get? s.heap.objs.size=some { cls:= .type "list",data:= .seq acc c }∧Q acc.toList { s with heap:=h',toks:=tk })
    Kd hh D0 s.heap.objs.size (Nat.ne_of_gt la) (Nat.ne_of_gt la) (.ref s.heap.objs.size) 0 g0 (fun h' tk acc c k1 hS it=>⟨h',tk,acc,c,rfl,rfl,hS,fin h' tk acc k1 (Heap.lt_size hS) it⟩) (by rw [hl]; exact Nat.le_of_lt (zbu hn))
  refine wpAny_mono key (fun f s' y=>?_) fun e s' y=>?_
  · cases f with
    | done f =>
      obtain ⟨h',tk,acc,c,e,rfl,hS,z⟩:=y
      cases e
      exact wpAny_bind (wpAny_load hS (wpAny_pure z))
    | again c1 =>
      refine ⟨y.1,codeAny_mono y.2 fun r s2 y2=>?_⟩
      obtain ⟨h',tk,acc,c,rfl,rfl,hS,z⟩:=y2
      exact wpAny_bind (wpAny_load hS (wpAny_pure z))
  · obtain ⟨_,_,_,_,e',_⟩:=y
    cases e'
theorem zuc {s:Shared} {a:Addr} {kvs:List (Key × Value)} {ks:List Int} {Q:Value→Shared→Prop} (hh:A.handled=none) (lo:(a == sysModules)=false) (D:s.heap.DictOf (zcr P w) a kvs) (hk:kvs.map (·.1)=ks.map Sum.inl) (hn:ks.length<64)
  (q:∀ (s':Shared) (r:Addr) (vs:List Value) (ns:List Int),(∀ b o,s.heap.get? b=some o→s'.heap.get? b=some o)→s'.gens=s.gens→s'.os=s.os→s.heap.objs.size≤r →
   (∃ e,s'.heap.get? r=some (seqObj "list" vs.toArray e))→IntsAre vs ns→ns.Perm ks→ns.Pairwise (· ≤ ·)→Q (.ref r) s') :
  wpAny (model P w) A (call (.builtin "sorted") [.ref a]) Q E s:=by
 have hl:kvs.length=ks.length:=by
  have:=congrArg List.length hk
  simpa using this
 obtain ⟨ep,hat⟩:=D.dictAt
 refine Calls.call_function_entry kind_sorted plain_sorted entry_sorted (args_sorted1 _) ?_
 unfold Builtin.«sorted»
 refine wpAny_bind (m:=checkCount "sorted" 1 1 _) (wpAny_pure ?_)
 refine wpAny_bind (zrm (by exact hh) lo hat hk (by omega) fun h' tk acc k1 z0 hi=>?_)
 have h64:acc.length<64:=by
  have e1:=hi.length
  omega
 refine wpAny_bind (wpAny_newList (hsz:=Nat.le_trans (Nat.le_of_lt h64) (by decide)) ?_)
 have hoL:(h'.push (seqObj "list" acc.toArray 0)).get? h'.objs.size=some (seqObj "list" acc.toArray 0):=Heap.get?_push_size _ rfl
 show wpAny _ _ _ _ _ { s with heap:=h'.push (seqObj "list" acc.toArray 0),toks:=tk }
 refine wpAny_bind (wpAny_holding (wpAny_call_entry slot_list_sort ⟨_,hoL,rfl⟩ entry_list_sort (list_sort_tree hoL hi h64 fun out ns' a1 a2 a3=>⟨_,rfl,?_⟩) (args_list_sort _)))
 obtain ⟨H1,eH1⟩:∃ H1,H1=h'.push (seqObj "list" acc.toArray 0):=⟨_,rfl⟩
 have z2:H1.objs.size=h'.objs.size+1:=by rw [eH1]; exact size_push' _ _
 have kk:∀ b o,h'.get? b=some o→(sortedHeap H1 h'.objs.size acc out).get? b=some o:=fun b o e=>by
  rw [sortedHeap_old (Nat.ne_of_lt (Heap.lt_size e)) (by rw [z2]; exact Nat.lt_succ_of_lt (Heap.lt_size e)),eH1]
  exact Heap.get?_push_of_some _ e
 have ka:∃ e,(sortedHeap H1 h'.objs.size acc out).get? h'.objs.size=some (seqObj "list" out e):=sortedHeap_at (n:=0) (by rw [eH1]; exact hoL)
 rw [← eH1]
 generalize sortedHeap H1 h'.objs.size acc out=H2 at kk ka ⊢
 refine wpAny_pure ⟨_,rfl,q _ _ out.toList ns' (fun b o e=>?_) rfl rfl ?_ ?_ a1 a2 a3⟩
 ·exact kk _ _ (k1 _ _ e)
 ·exact z0
 ·exact ka
end
section
variable {X:Cx}
theorem zd4 (hc:X.calm=true):zgy X (.builtin "sorted") (fun xs H Q=>∃ (p:Addr) (kvs:List (Key × V)) (ks:List Int),xs=[.ref p]∧H p=some (.dK kvs)∧kvs.map (·.1)=ks.map Sum.inl∧ks.length<64∧∀ l,H l=none→Q (.ref l) (upd H l (.lst ((zb_ ks).map V.int)))):=by
 intro pins s σ H xs us Q I r h
 obtain ⟨p,kvs,ks,rfl,hq,hk,hl,q⟩:=h
 obtain ⟨u,rfl,ru⟩:=zn3 r
 cases (show u=Value.ref p from ru)
 obtain ⟨_,lo,vs,kv,dd⟩:=zrp I.hok hq
 refine zuc (I.ok.hd hc) lo dd (kv.keys.symm.trans hk) hl fun s' l us ns k1 g1 o1 z1 hl2 hi hp hs=>?_
 obtain ⟨e,he⟩:=hl2
 have e2:=zlh hp hs
 subst e2
 have fr:H l=none:=I.hok.fresh z1
 refine ⟨.ref l,upd H l (.lst ((zb_ ks).map V.int)),I.call' (ch:=[]) o1 (Un.laid k1 z1 fr) ?_ (by rw [g1]; exact I.bare) (fun b hb=>absurd hb (by simp)),rfl,q _ fr⟩
 refine I.hok.laid k1 z1 ⟨by rw [List.length_map,zd2]; exact Nat.le_trans (Nat.le_of_lt hl) (by decide),us,e,zgb hi,he⟩
end
section
variable {X:Cx} {CX:CXT} {k:Nat} {f C:Addr} {fd:FuncData} {ps:List Str} {sp:Sp} {dvs:List V} {ds:List Value} {Th:St→XK} {x m:Str} {p pos apos:Pos} {e o:Expr} {es:List Expr} {ta:TE} {t:TA}
def zym (CX:CXT) (X:Cx) (Th:St→XK):Prop:=∀ (pl:List (Addr × Obj)) (σ:St) (H:Hp) (s:Shared) (ev:Value) (s':Shared),Inv X pl σ H s→CX X.stack H s (Th σ) ev s'→X.xe ev s'
theorem zvt {pins:List (Addr × Obj)} {σ:St} {H:Hp} {s:Shared} {Q:VK} {us:List Value} {vs:List V} (F:zbe X.prog X.w X.K X.mg X.base CX k f fd ps sp) (hr:zfy k X.A) (hb:zex X.K fd ps ds) (hd:zc2 dvs ds) (hx:zym CX X Th) (I:Inv X pins σ H s) (r:zc2 vs us)
    (q:sp (vs++dvs) H Q (Th σ)):wpAny (model X.prog X.w) X.A (call (.ref f) us) (EP X pins σ Q) X.xe s:=by
  have r2:zc2 (vs++dvs) (us++ds):=r.append hd
  have hl:(us++ds).length=ps.length:=by rw [← r2.length]; exact F.len _ _ _ _ q
  refine wpAny_call (codeAny_mono (F.run X.A X.stack s H ⟨us,[]⟩ (us++ds) (vs++dvs) Q (Th σ) hr I.env0 (hb s us I.kIn hl) r2 q) fun z s' hq=>?_)
  cases z with
  | error ev=>exact hx pins σ H s ev s' I hq
  | ok fl =>
    cases fl with
    | ret u=>exact I.after hq
    | next=>exact hq.elim
    | brk=>exact hq.elim
    | cont=>exact hq.elim
def zxl (C:Addr) (m:Str) (sp:Sp) (dvs:List V) (Th:St→XK) (ta:TE) (t:TA):TE:=fun σ H Q=>ta σ H fun x H1=>∃ a dx fs,x = .ref a∧H1 a=some (.ins C dx fs)∧fs.lookup m=none ∧
 t σ H1 fun vs H2=>sp (x :: (vs++dvs)) H2 Q (Th σ)
theorem zce {pl:Sem Bool} (he:PE X o ta) (c:Cls X.K C) (hm:zwt X.K C m f) (F:zbe X.prog X.w X.K X.mg X.base CX k f fd ps sp) (hr:zfy k X.A) (hb:zex X.K fd ps ds) (hd:zc2 dvs ds) (hx:zym CX X Th) (ha:PA X (e :: es) t)
  (hst:starEach (e :: es) X.env=(false,eval e X.env) :: starEach es X.env:=by rfl) (hpl:(backTo pos (starEach es X.env)).any (·.1)=false:=by rfl)
  (ht:eval (.Call (.Attribute o m apos) (e :: es) [] pos) X.env=(do
   let ov ← eval o X.env
   standAt apos.atName
   let (f,first) ← holding [ov] (getMethod ov m pl)
   callWith pos f first (backTo pos (starEach (e :: es) X.env)) (backToKw pos (keywordEach [] X.env))):=by rfl) :
  PE X (.Call (.Attribute o m apos) (e :: es) [] pos) (zxl C m sp dvs Th ta t):=by
 intro pins s σ H Q I h
 refine PySem.W.methodCall_KW (pl:=pl) (thn (he pins s σ H _ I h) fun u s1 ⟨x,H1,I1,rx,a,dx,fs,ex,ea,l,q⟩=>?_) ht
 subst ex
 obtain rfl:u=Value.ref a:=rx
 refine zh4 I1 ea c hm l ?_
 refine PySem.W.callWith_K (first:=[.ref a]) (h₀:=X.base) I1.ok.mod.kin hm.kp (thn (ha pos pins s1 σ H1 _ I1 q) fun us s2 ⟨vs,H2,I2,r,q2⟩=>⟨I2.kIn,?_⟩) hst hpl
 exact zvt (us:= .ref a :: us) (vs:= .ref a :: vs) F hr hb hd hx I2 (.cons rfl r) q2
end
structure zu1 (K:PySem.W.Frag) (C:Addr) (m qual:Str) (st:Stmt) (ps:List Str) where
 f:Addr
 c:Addr
 P:Addr
 fd:FuncData
 ex:∃ (oc:Value) (od:Option Addr) (kV doc pm:Value) (an:Option Addr) (ct:Value) (osl:Array (Option Value)),
  fd=PySem.W.fnOf m qual (za4 st) (za0 st) (zai st) .none kV doc pm an (.ref c) ct∧K.lookup f=some ⟨oc,od,.func fd,osl⟩
 cd:PySem.W.codeIn K (.ref c) qual=true
 ch:PySem.W.codeHdIn K c P=true
 nt:K.lookup P=none
 me:zwt K C m f
 b:zex K fd ps []
section
variable {P:Program} {w:World} {K:PySem.W.Frag} {mg:Str→Option Value} {base:Heap}
theorem zu1.ok {C:Addr} {m qual:Str} {st:Stmt} {N ps fz:List Str} {k:Nat} {sp:Sp} (D:zu1 K C m qual st ps) (hK:K.In base) (S:za3 N ps (zai st)) (hfz:∀ x∈fz,(zai st).names.lookup x=some .cell) (len:∀ vs H Q E,sp vs H Q E→vs.length=ps.length)
  (hbody:∀ (A:Around) (outer:List Env) (s:Shared) (H:Hp) (vs:List V) (Q:VK) (E:XK),zfy k (A.deeper (envOfC qual (zai st) s.heap.objs.size D.f (.ref D.c)))→sp vs H Q E →
   ∀ H1:Hp,zbf H H1→(∀ (i:Nat) y v,y∈fz→ps[i]? = some y→vs[i]? = some v→∃ c,(envOfC qual (zai st) s.heap.objs.size D.f (.ref D.c)).cells.lookup y=some c∧zh0 H1 c v)→PySem.W.CodeHd base D.c D.P →
   ∃ t,PSs (zkz CX0 P w K mg base N qual (zai st) D.f (.ref D.c) A outer s H E (fun y=> !fz.contains y)).nox (za0 st) t∧t { nx:=fun _ H'=>Q .non H',rt:=Q } (start N vs) H1) :
  zbe P w K mg base CX0 (k+1) D.f D.fd ps sp:=by
 have hC:=PySem.W.codeHd_of_K hK D.ch
 obtain ⟨f,c,T,fd,⟨oc,od,kV,doc,pm,an,ct,osl,rfl,lk⟩,cd,ch,nt,me,b⟩:=D
 exact zuw lk cd S hfz len fun A outer s H vs Q E hr hsp H1 sm hc=>hbody A outer s H vs Q E hr hsp H1 sm hc hC
end
end L2
namespace L2
open PySem PySem.Spec PyProof.Rows
def Cx.unf (X:Cx) (x:Str):Cx:={ X with fn:=fun y=>y == x || X.fn y }
section
variable {X:Cx} {pins:List (Addr × Obj)} {σ:St} {H:Hp} {s:Shared}
theorem Inv.unf {x:Str} {c:Addr} (I:Inv X pins σ H s) (hc:X.env.cells.lookup x=some c) (hab:X.s₀.heap.objs.size≤c) (hn:H c=none):Inv (X.unf x) pins σ H s:=by
 have one:∀ y d,(X.unf x).fn y=true→X.env.cells.lookup y=some d→X.fn y=true∨d=c:=fun y d hy e=>by
  have hy:(y == x || X.fn y)=true:=hy
  rcases Bool.or_eq_true_iff.mp hy with z | z
  ·have z':y=x:=beq_iff_eq.mp z
   subst z'
   rw [hc] at e
   exact .inr (Option.some.inj e).symm
  ·exact .inl z
 refine ⟨⟨I.ok.mod,I.ok.kind,I.ok.glob,I.ok.blt,I.ok.above,I.ok.inj,I.ok.has,fun y d hy e=>?_,I.ok.hd,I.ok.frames,I.ok.stk,I.ok.exf,I.ok.bs,I.ok.bsz,I.ok.noex,I.ok.exfs,I.ok.funs,I.ok.frf⟩,
  I.os,I.bare,I.base,I.loc,I.cell,I.free,fun y d e=>⟨fun hy=>?_,(I.freeC y d e).2⟩,I.pin,I.hok,I.len⟩
 ·rcases one y d hy e with z | z
  ·exact I.ok.cab y d z e
  ·rw [z]
   exact hab
 ·rcases one y d hy e with z | z
  ·exact (I.freeC y d e).1 z
  ·rw [z]
   exact hn
end
section
variable {P:Program} {w:World} {K:PySem.W.Frag} {mg:Str→Option Value} {base:Heap}
end
def zx0 (a:Addr) (o:Obj) (kvs:List (Key × V)):It :=
 ⟨fun i H=>H a=some (.frz o (.dK kvs))∧i<kvs.length,fun i H x H'=>H'=H∧∃ kv,kvs[i]? = some kv∧x=kV kv.1,fun i H=>H a=some (.frz o (.dK kvs))∧kvs.length≤i⟩
theorem zrg {P:Program} {w:World} {K:PySem.W.Frag} {tg:Expr} {a it:Addr} {o:Obj} {kvs:List (Key × V)} {vs:List (Key × Value)} {ep:Nat} (rel:KV kvs vs) (hat:∀ h:Heap,h.get? a=some o→h.DictAt (zcr P w) a vs ep) :
  zyt P w K tg (zx0 a o kvs) [it] it (fun i h=>h.IsKeyIter it a i vs.length ep) where
 mem:=by simp
 obj:=fun i h st b hb=>by
  have e:b=it:=by simpa using hb
  subst e
  obtain ⟨o,e,c,d⟩:=st
  exact ⟨o,e,fun v z=>by rw [d] at z; cases z⟩
 keep:=fun i h h' st k=>by
  obtain ⟨o,e,c,d⟩:=st
  exact ⟨o,k it (by simp) o e,c,d⟩
 item:=by
  intro X hP hw hK hc i pins s σ H E I hf st hg
  subst hP hw hK
  obtain ⟨hz,hlt⟩:=hg
  obtain ⟨f0,f1,f2,f3,f4,f5⟩:=hf it (by simp)
  obtain ⟨ho,_⟩:=I.hok a _ hz
  have hlen:=rel.length
  obtain ⟨⟨k,x⟩,hx⟩:∃ p,vs[i]? = some p:=⟨vs[i],by simp⟩
  obtain ⟨⟨k',x'⟩,hx'⟩:∃ p,kvs[i]? = some p:=⟨kvs[i],by simp⟩
  have ek:k'=k:=by
   have e1:=congrArg (fun l=>l[i]?) rel.keys
   simp only [List.getElem?_map,hx,hx',Option.map_some] at e1
   exact Option.some.inj e1
  refine wpAny_pyNext_dict_item st (hat _ ho) hx fun key h' hkey st' sb=>?_
  have I1:Inv X pins σ H { s with heap:=h' }:=I.turned (t':=s.toks) (fun b o hb e=>(sb.2 b hb).trans e) f0 f1 f3 f4 f5
  obtain ⟨o',e,c,d⟩:=id st'
  have rk:zdk (kV k') key:=by
   rw [ek]
   rcases zc5 hkey with ⟨j,t,rfl,rfl⟩ | ⟨y,t,rfl,rfl⟩
   ·exact ⟨t,rfl⟩
   ·exact ⟨t,rfl⟩
  exact ⟨key,rfl,zvg (s:={ s with heap:=h' }) e c d (by decide) ⟨kV k',H,I1,rk,⟨rfl,_,hx',rfl⟩,st',fun b hb=>(hf b hb).1⟩⟩
 done:=by
  intro X hP hw hK hc i pins s σ H E I hf st hg
  subst hP hw hK
  obtain ⟨hz,hle⟩:=hg
  obtain ⟨f0,f1,f2,f3,f4,f5⟩:=hf it (by simp)
  obtain ⟨ho,_⟩:=I.hok a _ hz
  have hlen:=rel.length
  exact wpAny_pyNext_dict_end (I.ok.hd hc) st (hat _ ho) (by simp; omega) fun h' eb=>⟨rfl,I.turned (t':=s.toks) (fun b o hb e=>eb b o hb e) f0 f1 f3 f4 f5⟩
 self:=fun _ _ _ _ _ st h=>wpAny_pyIter_keyiter st h
theorem Inv.ice {X:Cx} {pins:List (Addr × Obj)} {σ:St} {H:Hp} {s:Shared} {a:Addr} {kvs:List (Key × V)} (I:Inv X pins σ H s) (e:H a=some (.dK kvs)):∃ o,s.heap.get? a=some o∧Inv X pins σ (upd H a (.frz o (.dK kvs))) s:=by
 obtain ⟨z1,z2,vs,rel,dd⟩:=zrp I.hok e
 obtain ⟨o,es,ep,ho,r⟩:=id dd
 refine ⟨o,ho,I.ok,I.os,I.bare,⟨I.base.keep,I.base.slot,fun b u q n hx=>?_,I.base.there,fun b xs q=>?_,fun b u k q=>?_,fun b ps q=>?_⟩,I.loc,I.cell,?_,fun y c q=>?_,fun p hp=>?_,fun b u q=>?_,I.len⟩
 ·have z:=I.base.free b u q n hx
  rw [zal (fun y=>by rw [y,e] at z; cases z)]
  exact z
 ·have z:=I.base.tups b xs q
  rw [zal (fun y=>by rw [y,e] at z; cases z)]
  exact z
 ·have z:=I.base.frzs b u k q
  rw [zal (fun y=>by rw [y,e] at z; cases z)]
  exact z
 ·obtain ⟨m,z⟩:=I.base.tbls b ps q
  exact ⟨m,by rw [zal (fun y=>by rw [y,e] at z; cases z)]; exact z⟩
 ·rw [zal (fun y=>by have z:=I.free; rw [y,e] at z; cases z)]
  exact I.free
 ·have z:=I.freeC y c q
  have hne:c≠a:=fun y=>by
   rcases z.2 with w | ⟨_,_,w⟩
   ·rw [y,e] at w; cases w
   ·rw [y,e] at w; cases w
  rw [zal hne]
  exact z
 ·obtain ⟨q,n,r⟩:=I.pin p hp
  refine ⟨q,?_,r⟩
  rw [zal (fun y=>by rw [y,e] at n; cases n)]
  exact n
 ·have own:∀ d x,H d=some (.own x)→upd H a (.frz o (.dK kvs)) d=some (.own x):=fun d x w=>by
   rw [zal (fun y=>by rw [y,e] at w; cases w)]
   exact w
  have tup:∀ d xs,H d=some (.tup xs)→upd H a (.frz o (.dK kvs)) d=some (.tup xs):=fun d x w=>by
   rw [zal (fun y=>by rw [y,e] at w; cases w)]
   exact w
  by_cases hb:b=a
  ·subst hb
   rw [zam] at q
   cases q
   exact ⟨ho,(I.hok b _ e).stay (fun _ _ _ q=>q) (fun d q=>own d _ q) fun d xs q=>tup d xs q⟩
  ·rw [zal hb] at q
   exact (I.hok b u q).stay (fun _ _ _ q=>q) (fun d q=>own d _ q) fun d xs q=>tup d xs q
def zzl (td:TE):TI:=fun σ H R=>td σ H fun x H1=>∃ a kvs,x = .ref a∧Rd H1 a (.dK kvs)∧∀ o H2,H2 a=some (.frz o (.dK kvs))→(∀ b,b≠a→H2 b=H1 b)→(∀ ob u,H1 a=some (.frz ob u)→H2 a=H1 a)→R (zx0 a o kvs) H2
theorem zoe {X:Cx} {tg l:Expr} {tl:TE} (hl:PE X l tl):PI X tg l (zzl tl):=by
 intro pins s σ H R I h
 refine thn (hl pins s σ H _ I h) fun v s1 ⟨x,H1,I1,r1,q1⟩=>?_
 obtain ⟨a,kvs,e,hr,q⟩:=q1
 subst e
 cases r1
 obtain ⟨o,H2,I2,hz,he,hi⟩:∃ o H2,Inv X pins σ H2 s1∧H2 a=some (.frz o (.dK kvs))∧(∀ b,b≠a→H2 b=H1 b)∧∀ ob u,H1 a=some (.frz ob u)→H2 a=H1 a:=by
  rcases hr with z | ⟨o,z⟩
  ·obtain ⟨o,ho,I2⟩:=I1.ice z
   exact ⟨o,_,I2,zam,fun b hb=>zal hb,fun ob u y=>by rw [z] at y; cases y⟩
  ·exact ⟨o,H1,I1,z,fun _ _=>rfl,fun _ _ _=>rfl⟩
 obtain ⟨ho,z1,z2,vs,rel,dd⟩:=(show zdy X.prog X.w H2 s1.heap a (.frz o (.dK kvs)) from I2.hok a _ hz)
 obtain ⟨ep,hat⟩:=dd.dictAt
 have hat':∀ h:Heap,h.get? a=some o→h.DictAt (zcr X.prog X.w) a vs ep:=fun h e=>by
  obtain ⟨o',es,e',r⟩:=id hat
  rw [ho] at e'
  cases e'
  exact ⟨o,es,e,r⟩
 refine wpAny_pyIter_dict z2 hat ?_
 refine ⟨s1.heap.objs.size,[s1.heap.objs.size],_,_,H2,rfl,I2.kept (t':=s1.toks) fun b o e=>Heap.get?_push_of_some _ e,zrg rel hat',⟨_,Heap.get?_push_size _ rfl,rfl,rfl⟩,fun b hb=>?_,q o H2 hz he hi⟩
 have e:b=s1.heap.objs.size:=by simpa using hb
 subst e
 exact I2.fpOk (Nat.le_refl _) (I2.hok.fresh (Nat.le_refl _))
theorem zls {a:Addr} {o:Obj} {kvs:List (Key × V)} {g:TG} {tb:TS} {D:ztr} {σ:St} {H:Hp} (Pv:Nat→St→Hp→Prop) (h0:Pv 0 σ H) (hl:∀ i σ H,i≤kvs.length→Pv i σ H→H a=some (.frz o (.dK kvs)))
  (hs:∀ i kv σ H,kvs[i]? = some kv→Pv i σ H→g (kV kv.1) σ H fun σ2 H2=>tb { D with nx:=Pv (i+1),ct:=Pv (i+1),bk:=D.nx } σ2 H2) (hd:∀ σ H,Pv kvs.length σ H→D.nx σ H) :
  ∃ W:Nat→Nat→St→Hp→Prop,(∃ m,W 0 m σ H)∧∀ i m σ H,W i m σ H →
   ((zx0 a o kvs).stop i H∧D.nx σ H)∨((zx0 a o kvs).go i H∧∃ N:St→Hp→Prop,(∀ σ' H',N σ' H'→∃ m',m'<m∧W (i+1) m' σ' H')∧∀ x H',(zx0 a o kvs).yld i H x H'→g x σ H' fun σ2 H2=>tb { D with nx:=N,ct:=N,bk:=D.nx } σ2 H2):=by
 refine ⟨fun i m σ H=>m=kvs.length - i∧i≤kvs.length∧Pv i σ H,⟨kvs.length,by simp,Nat.zero_le _,h0⟩,?_⟩
 rintro i m σ H ⟨rfl,hi,p⟩
 have q:=hl i σ H hi p
 by_cases hlt:i<kvs.length
 ·refine .inr ⟨⟨q,hlt⟩,Pv (i+1),fun σ' H' p'=>⟨kvs.length - (i+1),by omega,rfl,hlt,p'⟩,fun x H' y=>?_⟩
  obtain ⟨e,kv,y,rfl⟩:=y
  subst e
  exact hs i kv σ _ y p
 ·have e:i=kvs.length:=by omega
  subst e
  exact .inl ⟨⟨q,Nat.le_refl _⟩,hd σ H p⟩
theorem zpc {X:Cx} (hc:X.calm=true):zgy X (.builtin "sum") (fun xs H Q=>∃ (a:Addr) (ns:List Int),xs=[.ref a]∧SqL X.K H a (ns.map V.int)∧Q (.int ns.sum) H):=by
 intro pins s σ H xs us Q I r h
 obtain ⟨p,ns,rfl,hq,q⟩:=h
 obtain ⟨u,rfl,ru⟩:=zn3 r
 cases (show u=Value.ref p from ru)
 obtain ⟨its,rv,pl,hz⟩:=I.list hq
 have hi:IntsAre its ns:=zkq rv
 have e1:numsOf its.toArray.toList=ns:=hi.numsOf
 obtain ⟨xs,e⟩:=hi.allInts.items
 rw [e,nums_intItems] at e1
 refine sum_intListG (I.ok.hd hc) (by rw [← e]; exact pl.isList) fun h' tk t' hk=>⟨.int ns.sum,H,I.kept (t':=tk) hk,⟨t',?_⟩,q⟩
 rw [preSum_eq,List.take_of_length_le (by simp),e1]
end L2
namespace L2
open PySem PySem.Spec PyProof.Rows
theorem Inv.thaw {X:Cx} {pins:List (Addr × Obj)} {σ:St} {H:Hp} {s:Shared} {a:Addr} {o:Obj} {kvs:List (Key × V)} (I:Inv X pins σ H s) (e:H a=some (.frz o (.dK kvs))) (h0:∀ ob u,X.H₀ a≠some (.frz ob u)):Inv X pins σ (upd H a (.dK kvs)) s:=by
 obtain ⟨ho,hd⟩:=(show zdy X.prog X.w H s.heap a (.frz o (.dK kvs)) from I.hok a _ e)
 obtain ⟨z1,z2,vs,rel,dd⟩:=id hd
 obtain ⟨oo,es,ep,ho',_,hdat,_⟩:=id dd
 have ncell:∀ y c,X.env.cells.lookup y=some c→c≠a:=fun y c q z=>by
  obtain ⟨v,oc,hoc,hdc⟩:=I.cell y c q
  rw [z,ho'] at hoc
  cases hoc
  rw [hdat] at hdc
  cases hdc
 refine ⟨I.ok,I.os,I.bare,⟨I.base.keep,I.base.slot,fun b u q n hx=>?_,I.base.there,fun b xs q=>?_,fun b u k q=>?_,fun b ps q=>?_⟩,I.loc,I.cell,?_,fun y c q=>?_,fun p hp=>?_,fun b u q=>?_,I.len⟩
 ·have z:=I.base.free b u q n hx
  rw [zal (fun y=>by rw [y,e] at z; cases z)]
  exact z
 ·have z:=I.base.tups b xs q
  rw [zal (fun y=>by rw [y,e] at z; cases z)]
  exact z
 ·have z:=I.base.frzs b u k q
  rw [zal (fun y=>h0 _ _ (y ▸ q))]
  exact z
 ·obtain ⟨m,z⟩:=I.base.tbls b ps q
  exact ⟨m,by rw [zal (fun y=>by rw [y,e] at z; cases z)]; exact z⟩
 ·rw [zal (fun y=>by have z:=I.free; rw [y,e] at z; cases z)]
  exact I.free
 ·rw [zal (ncell y c q)]
  exact I.freeC y c q
 ·obtain ⟨q,n,r⟩:=I.pin p hp
  refine ⟨q,?_,r⟩
  rw [zal (fun y=>by rw [y,e] at n; cases n)]
  exact n
 ·have own:∀ d x,H d=some (.own x)→upd H a (.dK kvs) d=some (.own x):=fun d x w=>by
   rw [zal (fun y=>by rw [y,e] at w; cases w)]
   exact w
  have tup:∀ d xs,H d=some (.tup xs)→upd H a (.dK kvs) d=some (.tup xs):=fun d x w=>by
   rw [zal (fun y=>by rw [y,e] at w; cases w)]
   exact w
  by_cases hb:b=a
  ·subst hb
   rw [zam] at q
   cases q
   exact zdy.stay (H:=H) hd (fun _ _ _ q=>q) (fun d q=>own d _ q) fun d xs q=>tup d xs q
  ·rw [zal hb] at q
   exact (I.hok b u q).stay (fun _ _ _ q=>q) (fun d q=>own d _ q) fun d xs q=>tup d xs q
end L2
namespace L2
open PySem PySem.Spec PyProof.Rows
section
variable {M:Model} {A:Around} {E:Value→Shared→Prop} {s₀ s:Shared} {m cm:Str→Option Value} {env:Env} {own:List (Str × Addr)}
end
structure zxs (N ps fr:List Str) (sc:Scope):Prop where
 kind:sc.kind = .function
 co:sc.isCoroutine=false
 gen:sc.isGenerator=false
 nd:N.Nodup
 pre:N.take (ps++fr).length=ps++fr
 par:∀ x∈ps,sc.names.lookup x=some .local∨sc.names.lookup x=some .cell
 fre:∀ x∈fr,sc.names.lookup x=some .free
 allfr:∀ y∈sc.names,y.2 = .free→y.1∈fr
 look:∀ y∈sc.names,sc.names.lookup y.1=some y.2
section
variable {P:Program} {w:World} {K:PySem.W.Frag} {mg:Str→Option Value} {base:Heap}
end
end L2
namespace L2
open PySem PySem.Spec PyProof.Rows
section
variable {X:Cx}
theorem zqf (hc:X.calm=true):zgy X (.type "list") (fun xs H Q=>∃ (p:Addr) (kvs:List (Key × V)) (ks:List Int),xs=[.ref p]∧H p=some (.dK kvs)∧kvs.map (·.1)=ks.map Sum.inl∧ks.length≤1000∧∀ l,H l=none→Q (.ref l) (upd H l (.lst (ks.map V.int)))):=by
 intro pins s σ H xs us Q I r h
 obtain ⟨p,kvs,ks,rfl,hq,hk,hl,q⟩:=h
 obtain ⟨u,rfl,ru⟩:=zn3 r
 cases (show u=Value.ref p from ru)
 obtain ⟨_,lo,vs,kv,dd⟩:=zrp I.hok hq
 obtain ⟨ep,hat⟩:=dd.dictAt
 have hk2:vs.map (·.1)=ks.map Sum.inl:=kv.keys.symm.trans hk
 have hlv:vs.length=ks.length:=by
  have:=congrArg List.length hk2
  simpa using this
 refine PySem.W.kdl_call (PySem.W.kdl_dict lo) (I.ok.hd hc) hat (by rw [hlv]; exact Nat.le_of_lt (zbu hl)) fun h' tk acc c k1 hD it=>?_
 have hi:IntsAre acc.toList ks:=zqu (by rw [Array.length_toList,it.1,hlv]) fun j k hj v hv=>by
  obtain ⟨k',x,e1,e2⟩:=it.2 j v (by rw [← Array.getElem?_toList]; exact hv)
  have e3:(vs.map (·.1))[j]? = some k':=by rw [List.getElem?_map,e1]; rfl
  rw [hk2,List.getElem?_map,hj] at e3
  cases e3
  exact Value.isInt_shape e2
 refine ⟨.ref s.heap.objs.size,_,I.laid (t':=tk) k1 (Nat.le_refl _) (show zdy X.prog X.w _ h' _ (.lst (ks.map V.int)) from ⟨by rw [List.length_map]; exact Nat.le_of_lt (zbu hl),acc.toList,c,zgb hi,by simpa using hD⟩),rfl,q _ (I.hok.fresh (Nat.le_refl _))⟩
end
theorem zos {X:Cx} {st:Stmt} {t:TS} {H0:Hp} (hH:X.H₀=H0) (h:PS X st t):PS X st (fun D σ H=>t { D with nx:=fun σ1 H1=>∃ a kvs o,H1 a=some (.frz o (.dK kvs))∧(∀ ob u,H0 a≠some (.frz ob u))∧D.nx σ1 (upd H1 a (.dK kvs)) } σ H):=by
  intro pins s σ H D I hw
  refine thn (h pins s σ H _ I hw) fun f s1 q=>?_
  subst hH
  cases f with
  | next =>
    obtain ⟨σ1,H1,I1,a,kvs,o,e1,e2,q⟩:=q
    exact ⟨σ1,_,I1.thaw e1 e2,q⟩
  | brk=>exact q
  | cont=>exact q
  | ret u=>exact q
end L2
namespace L2
open PySem PySem.Spec PyProof.Rows
end L2
namespace NN
theorem znk:∀ (a b:Nat),(a ^^^ b)+2 * (a &&& b)=a+b:=by
  intro a
  induction a using Nat.strongRecOn with
  | ind a ih =>
    intro b
    by_cases h:a=0
    · subst h; simp
    · have i:=ih (a / 2) (by omega) (b / 2)
      have x1:=Nat.xor_div_two (a:=a) (b:=b)
      have x2:=Nat.and_div_two (a:=a) (b:=b)
      have y1:=Nat.xor_mod_two_eq_one (a:=a) (b:=b)
      have y2:=Nat.and_mod_two_eq_one (a:=a) (b:=b)
      omega
theorem zwc (a b:Nat):a ^^^ b=2 * (a / 2 ^^^ b / 2)+(if a % 2=b % 2 then 0 else 1):=by
 have x1:=Nat.xor_div_two (a:=a) (b:=b)
 have y1:=Nat.xor_mod_two_eq_one (a:=a) (b:=b)
 split <;> omega
theorem zg6 (a b:Nat):a ^^^ b=0↔a=b:=by
 constructor
 ·intro h
  have:(a ^^^ b) ^^^ b=0 ^^^ b:=by rw [h]
  rw [Nat.xor_assoc,Nat.xor_self,Nat.xor_zero,Nat.zero_xor] at this
  exact this
 ·rintro rfl; exact Nat.xor_self _
theorem zoz (a b:Nat):a ^^^ (a ^^^ b)=b:=by
 rw [← Nat.xor_assoc,Nat.xor_self,Nat.zero_xor]
end NN
namespace NN
def zfq (a b:Nat):Nat→Option Nat
 | 0=>none
 | i+1=>if a / 2 ^ i % 2=b / 2 ^ i % 2 then zfq a b i else some i
theorem zud {m k:Nat} (hm:m≠0):m.log2=k↔m / 2 ^ k=1:=by
 constructor
 ·intro h
  subst h
  have h1:=Nat.log2_self_le hm
  have h2:=@Nat.lt_log2_self m
  rw [Nat.pow_succ] at h2
  have hp:0<2 ^ m.log2:=Nat.pow_pos (by decide)
  refine (Nat.div_eq_iff hp).mpr ?_
  omega
 ·intro h
  have hp:0<2 ^ k:=Nat.pow_pos (by decide)
  have h':=(Nat.div_eq_iff hp).mp h
  refine (Nat.log2_eq_iff hm).mpr ⟨by omega,?_⟩
  rw [Nat.pow_succ]
  omega
theorem zwz (a b k:Nat):(a ^^^ b) / 2 ^ k=a / 2 ^ k ^^^ b / 2 ^ k:=Nat.xor_div_two_pow
theorem zko {a b:Nat}:a ^^^ b=1↔b=a ^^^ 1:=by
 constructor
 ·intro h
  have:a ^^^ (a ^^^ b)=a ^^^ 1:=by rw [h]
  rw [zoz] at this
  exact this
 ·rintro rfl
  exact zoz a 1
theorem zqi (a:Nat):a ^^^ 1≠a:=by
 intro h
 have:=(zko (a:=a) (b:=a)).mpr h.symm
 rw [Nat.xor_self] at this
 cases this
theorem zt4 {a b k:Nat} (h:a≠b):(a ^^^ b).log2=k↔b / 2 ^ k=a / 2 ^ k ^^^ 1:=by
 have hm:a ^^^ b≠0:=fun z=>h ((zg6 a b).mp z)
 rw [zud hm,zwz,zko]
theorem zv5 {a b k:Nat} (h:b / 2 ^ k=a / 2 ^ k ^^^ 1):a≠b:=fun e=>by
 subst e
 exact zqi _ h.symm
theorem zfc (a i:Nat):a / 2 ^ (i+1)=a / 2 ^ i / 2:=by
 rw [Nat.pow_succ,Nat.div_div_eq_div_mul]
theorem zne {a b:Nat}:∀ (w:Nat),a / 2 ^ w=b / 2 ^ w→zfq a b w=none→a=b
  | 0,h,_=>by simpa using h
  | i+1,h,e=>by
    unfold zfq at e
    split at e
    · rename_i hb
      rw [zfc,zfc] at h
      exact zne i (by omega) e
    · cases e
theorem zjz {a b:Nat}:∀ (w k:Nat),a / 2 ^ w=b / 2 ^ w→zfq a b w=some k→k<w∧b / 2 ^ k=a / 2 ^ k ^^^ 1
  | 0,k,_,e=>by cases e
  | i+1,k,h,e=>by
    unfold zfq at e
    rw [zfc,zfc] at h
    split at e
    · rename_i hb
      have:=zjz i k (by omega) e
      exact ⟨by omega,this.2⟩
    · rename_i hb
      cases e
      refine ⟨by omega,?_⟩
      have x:=zwc (a / 2 ^ i) 1
      simp at x
      split at x <;> omega
theorem zwl {a b w:Nat} (ha:a<2 ^ w) (hb:b<2 ^ w):zfq a b w=if a=b then none else some (a ^^^ b).log2:=by
  have h:a / 2 ^ w=b / 2 ^ w:=by rw [Nat.div_eq_of_lt ha,Nat.div_eq_of_lt hb]
  cases e:zfq a b w with
  | none=>rw [if_pos (zne w h e)]
  | some k =>
    have q:=(zjz w k h e).2
    have ne:=zv5 q
    rw [if_neg ne,(zt4 ne).mpr q]
theorem log2_lt {a b w:Nat} (ha:a<2 ^ w) (hb:b<2 ^ w) (h:a≠b):(a ^^^ b).log2<w:=by
 have e:=zwl ha hb
 rw [if_neg h] at e
 exact (zjz w _ (by rw [Nat.div_eq_of_lt ha,Nat.div_eq_of_lt hb]) e).1
end NN
set_option maxHeartbeats 4000000
open PySem L2
theorem eI1 {A:Type}{p q:A->Prop}(a:A)(y:p a)(z:q a):∃ a,p a/\q a:=⟨a,y,z⟩
theorem eI2 {A B:Type}{p q:A->B->Prop}(a:A)(b:B)(y:p a b)(z:q a b):∃ a b,p a b/\q a b:=⟨a,b,y,z⟩
theorem eI3 {A B C:Type}{p q:A->B->C->Prop}(a:A)(b:B)(c:C)(y:p a b c)(z:q a b c):∃ a b c,p a b c/\q a b c:=⟨a,b,c,y,z⟩
theorem eI4 {A B C D:Type}{p q:A->B->C->D->Prop}(a:A)(b:B)(c:C)(d:D)(y:p a b c d)(z:q a b c d):∃ a b c d,p a b c d/\q a b c d:=⟨a,b,c,d,y,z⟩
theorem eI5 {A B C D E:Type}{p q:A->B->C->D->E->Prop}(a:A)(b:B)(c:C)(d:D)(e:E)(y:p a b c d e)(z:q a b c d e):∃ a b c d e,p a b c d e/\q a b c d e:=⟨a,b,c,d,e,y,z⟩
theorem eI6 {A B C D E F:Type}{p q:A->B->C->D->E->F->Prop}(a:A)(b:B)(c:C)(d:D)(e:E)(f:F)(y:p a b c d e f)(z:q a b c d e f):∃ a b c d e f,p a b c d e f/\q a b c d e f:=⟨a,b,c,d,e,f,y,z⟩
theorem eI7 {A B C D E F G:Type}{p q:A->B->C->D->E->F->G->Prop}(a:A)(b:B)(c:C)(d:D)(e:E)(f:F)(g:G)(y:p a b c d e f g)(z:q a b c d e f g):∃ a b c d e f g,p a b c d e f g/\q a b c d e f g:=⟨a,b,c,d,e,f,g,y,z⟩
theorem eI8 {A B C D E F G H:Type}{p q:A->B->C->D->E->F->G->H->Prop}(a:A)(b:B)(c:C)(d:D)(e:E)(f:F)(g:G)(h:H)(y:p a b c d e f g h)(z:q a b c d e f g h):∃ a b c d e f g h,p a b c d e f g h/\q a b c d e f g h:=⟨a,b,c,d,e,f,g,h,y,z⟩
local macro_rules | `(tactic| walk_at "ne") => `(tactic| first | assumption | (apply Ne.symm; assumption) | (intro z; subst z; simp_all; done) | grind [upd, zbf])
local macro_rules | `(tactic| walk_at "hp") => `(tactic| first | assumption | exact zam | (refine (zal ?_).trans ?_; (focus (walk_at "ne")); walk_at "hp"))
local macro_rules | `(tactic| walk_at "fld") => `(tactic| fail)
local macro_rules | `(tactic| walk_at "ty") => `(tactic| first | exact zj3.int _ | exact zj3.bl _ | exact zj3.str _ | exact zj3.non | exact zj3.lst (by walk_at "hp") | exact zj3.tup (by walk_at "hp") | exact zn6 _ | exact zl0 _ | exact zk6 _ | exact zl4 _ | exact zln _ | exact zju _ | exact zoq _ | exact zjg _ | exact zij _ | exact zni _ | exact zod _ | exact zmh _ | exact zl_ _ | exact zis _ | exact zlg _ | exact zhm _ | exact zmc _ | exact zir _)
local macro_rules | `(tactic| walk_at "ar") => `(tactic| (try dsimp only); first | decide | omega | (refine ⟨?_, ?_⟩ <;> first | decide | omega) | (refine ⟨?_, ?_, ?_⟩ <;> first | decide | omega) | (refine Or.inl ⟨?_, ?_⟩ <;> first | decide | omega) | (refine Or.inr ⟨?_, ?_⟩ <;> first | decide | omega))
local macro_rules | `(tactic| walk_at "c") => `(tactic| first | exact rfl | assumption | (walk_at "hp") | exact SqL.of (by walk_at "hp") | exact Or.inl (SqL.of (by walk_at "hp")) | exact Or.inl (by assumption) | exact SqT.of (by walk_at "hp") | exact Or.inr (SqT.of (by walk_at "hp")) | exact Or.inl ⟨rfl, _, SqL.of (by walk_at "hp")⟩ | exact ⟨_, SqL.of (by walk_at "hp")⟩ | (walk_at "fld") | (walk_at "ty") | exact zpr _ _ | exact Nat.le_of_ble_eq_true rfl | (walk_at "ar"))
local macro_rules | `(tactic| walk_at "e") => `(tactic| first | (apply And.intro; focus (walk_at "c"; done)) | (apply eI1; focus (walk_at "c"; done)) | (apply eI2; focus (walk_at "c"; done)) | (apply eI3; focus (walk_at "c"; done)) | (apply eI4; focus (walk_at "c"; done)) | (apply eI5; focus (walk_at "c"; done)) | (apply eI6; focus (walk_at "c"; done)) | (apply eI7; focus (walk_at "c"; done)) | (apply eI8; focus (walk_at "c"; done)) | (apply Exists.intro; walk_at "e") | assumption)
local macro_rules | `(tactic| walk_at "w") => `(tactic| (repeat (walk_at "e")); (first | (with_reducible refine zxu ?_; walk_at "w") | (with_reducible refine zw4 ?_; walk_at "w") | skip))
namespace NN
def top (i:Nat):Stmt:=PySem.Challenge.pw_nearnames_k36_towns_refused.main.body.getD i (.Pass ⟨0,0,0,0⟩)
def bF (r:Int) (l:Addr):List (Str × V):=[(("room" : Str),V.int r),(("order" : Str),V.ref l)]
theorem zrc (r:Int) (l:Addr):(bF r l).lookup ("room" : Str)=some (V.int r):=by kernel_rfl
theorem zo8 (r:Int) (l:Addr):(bF r l).lookup ("order" : Str)=some (V.ref l):=by kernel_rfl
theorem zxm (r:Int) (l l':Addr):zf2 "order" (V.ref l') (bF r l)=bF r l':=by kernel_rfl
theorem zx8 (r:Int) (l:Addr):zf2 "order" (V.ref l) (zf2 "room" (V.int r) [])=bF r l:=by kernel_rfl
theorem zrs (r:Int) (l:Addr):(bF r l).lookup ("hears_when_full" : Str)=none:=by kernel_rfl
theorem zo3 (r:Int) (l:Addr):(bF r l).lookup ("hears" : Str)=none:=by kernel_rfl
theorem zo7 (r:Int) (l:Addr):(bF r l).lookup ("drops" : Str)=none:=by kernel_rfl
theorem zo9 (r:Int) (l:Addr):(bF r l).lookup ("names" : Str)=none:=by kernel_rfl
structure zeu (C:Addr) (H:Hp) (p l:Addr) (r:Int) (ns:List Int):Prop where
 ob:∃ dx,H p=some (.ins C dx (bF r l))
 li:H l=some (.lst (ns.map V.int))
theorem zeu.ne {C:Addr} {H:Hp} {p l:Addr} {r:Int} {ns:List Int} (h:zeu C H p l r ns):p≠l:=by
 obtain ⟨⟨dx,h1⟩,h2⟩:=h
 exact zd_ h1 h2 (by intro z; cases z)
def zvj (C:Addr):Sp:=fun vs H Q _=>∃ (p dx:Addr) (r:Int),vs=[.ref p,.int r]∧H p=some (.ins C dx [])∧∀ (l:Addr) (H':Hp),H l=none→zeu C H' p l r []→ztp p H H'→Q .non H'
@[irreducible] def zpp (K:PySem.W.Frag) (C:Addr) (R:Addr→FuncData→Prop) (spA:Addr→FuncData→Sp):Sp:=fun vs H Q _=>∃ (p l f:Addr) (r n x:Int) (ns:List Int) (fd:FuncData),vs=[.ref p,.int n,.ref f]∧zeu C H p l r (x :: ns)∧ns.length≤1000 ∧
 FnV K H f fd∧R f fd∧spA f fd [.int x] H (fun v H1=>∃ b,v = .bl b∧zeu C H1 p l r (x :: ns)∧∀ (l':Addr) (H2:Hp),H1 l'=none→zeu C H2 p l' r (ns++[if b then x else n])→ztp p H1 H2→Q (.str (if b then "full" else "instead")) H2) E0
@[irreducible] def zk2 (K:PySem.W.Frag) (C:Addr) (R:Addr→FuncData→Prop) (spA:Addr→FuncData→Sp):Sp:=fun vs H Q E=>∃ (p l f:Addr) (r n:Int) (ns:List Int),vs=[.ref p,.int n,.ref f]∧zeu C H p l r ns∧ns.length≤1000∧1≤r ∧
 (n∈ns→∀ H',zeu C H' p l r (ns.erase n++[n])→ztp l H H'→Q (.str "again") H') ∧
 (n∉ns→(ns.length:Int)<r→∀ H',zeu C H' p l r (ns++[n])→ztp l H H'→Q (.str "new") H') ∧
 (n∉ns→r≤(ns.length:Int)→zpp K C R spA vs H Q E0)
def zue (C:Addr):Sp:=fun vs H Q _=>∃ (p l:Addr) (r:Int) (ns:List Int),vs=[.ref p]∧zeu C H p l r ns ∧
 ∀ (m:Addr) (H':Hp),H m=none→H' m=some (.lst (ns.map V.int))→zbf H H'→Q (.ref m) H'
structure Txt (mg:Str→Option Value):Prop where
 n_len:mg "len" = none
 n_abs:mg "abs" = none
 n_isinstance:mg "isinstance" = none
 n_int:mg "int" = none
 n_bool:mg "bool" = none
 n_str:mg "str" = none
 n_list:mg "list" = none
 n_range:mg "range" = none
 n_min:mg "min" = none
 n_sorted:mg "sorted" = none
 n_sum:mg "sum" = none
 n_enumerate:mg "enumerate" = none
 n_ValueError:mg "ValueError" = none
section
variable {P:Program} {w:World} {K:PySem.W.Frag} {mg:Str→Option Value} {base:Heap}
local macro_rules | `(tactic| walk_at "fld") => `(tactic| first | exact zrc _ _ | exact zo8 _ _ | exact zrs _ _ | exact zo3 _ _ | exact zo7 _ _ | exact zo9 _ _ | exact zjp _)
theorem zhy:za3 ["self","room"] ["self","room"] (zai (zaa (top 26) 0)):=⟨rfl,rfl,rfl,by decide +kernel,rfl,by decide +kernel,by decide +kernel⟩
theorem zkc (zaj:DfC K mg "Bucket" ["room","order"]) (zbg:DfM K zaj.C "__init__" "Bucket.__init__" (zaa (top 26) 0) ["self","room"]):zbe P w K mg base CX0 1 zbg.f zbg.fd ["self","room"] (zvj zaj.C):=by
 have hcl:=zaj.cl
 obtain ⟨na1,na2,-⟩:=zaj.na
 refine zbg.fn.ok zhy (fun vs H Q E h=>?_) (fun cdv A outer s H vs Q E hr h=>?_)
 ·obtain ⟨p,dx,r,rfl,_⟩:=h
  rfl
 ·obtain ⟨p,dx,r,rfl,hp,k⟩:=h
  refine ⟨_,(zaq (zf3 (pv 0) (pv 1) rfl)
   (zas (zf3 (pv 0) (zc9 zar) rfl))),?_⟩
  walk_at "w"
  intro l hl
  have nl:l≠p:=(zap zam hl).symm
  have hl0:H l=none:=by rw [zal nl] at hl; exact hl
  walk_at "w"
  show Q .non (upd (upd (upd H p (.ins _ dx (zf2 "room" (V.int r) []))) l (.lst [])) p (.ins _ dx (zf2 "order" (V.ref l) (zf2 "room" (V.int r) []))))
  rw [zx8]
  refine k l _ hl0 ⟨⟨dx,zam⟩,?_⟩ fun c o e hc=>?_
  ·rw [zal nl,zam]
   rfl
  ·rw [zal hc,zal (zap e hl0),zal hc]
   exact e
theorem zjh:za3 ["self"] ["self"] (zai (zaa (top 26) 4)):=⟨rfl,rfl,rfl,by decide +kernel,rfl,by decide +kernel,by decide +kernel⟩
theorem zgc (T:Txt mg) (zaj:DfC K mg "Bucket" ["room","order"]) (zax:DfM K zaj.C "names" "Bucket.names" (zaa (top 26) 4) ["self"]):zbe P w K mg base CX0 1 zax.f zax.fd ["self"] (zue zaj.C):=by
 have hcl:=zaj.cl
 obtain ⟨na1,na2,-⟩:=zaj.na
 refine zax.fn.ok zjh (fun vs H Q E h=>?_) (fun cdv A outer s H vs Q E hr h=>?_)
 ·obtain ⟨p,l,r,ns,rfl,_⟩:=h
  rfl
 ·obtain ⟨p,l,r,ns,rfl,⟨⟨dx,hp⟩,hl⟩,k⟩:=h
  refine ⟨_,(zas (zbh (zi_ zih rfl T.n_list zof (zad (zc0 (pv 0) rfl) zar)))),?_⟩
  walk_at "w"
  intro m hm
  exact k m _ hm zam (zbf.new H hm)
def ztx (spA:Addr→FuncData→Sp):Prop:=∀ f fd vs H (Q Q':VK) E,(∀ v H',Q v H'→Q' v H')→spA f fd vs H Q E→spA f fd vs H Q' E
theorem zd0:za3 ["self","name","answers","first"] ["self","name","answers"] (zai (zaa (top 26) 2)):=⟨rfl,rfl,rfl,by decide +kernel,rfl,by decide +kernel,by decide +kernel⟩
theorem zki {psA:List Str} {R:Addr→FuncData→Prop} {spA:Addr→FuncData→Sp} (GA:∀ f fd,R f fd→zbe P w K mg base CX0 5 f fd psA (spA f fd)) (bA:∀ f fd,R f fd→zex K fd psA []) (mA:ztx spA)
    (zaj:DfC K mg "Bucket" ["room","order"]) (zav:DfM K zaj.C "hears_when_full" "Bucket.hears_when_full" (zaa (top 26) 2) ["self","name","answers"]):zbe P w K mg base CX0 6 zav.f zav.fd ["self","name","answers"] (zpp K zaj.C R spA):=by
  have hcl:=zaj.cl
  obtain ⟨na1,na2,-⟩:=zaj.na
  refine zav.fn.ok zd0 (fun vs H Q E h=>?_) (fun cdv A outer s H vs Q E hr h=>?_) <;> unfold zpp at h
  · obtain ⟨p,l,f,r,n,x,ns,fd,rfl,_⟩:=h
    rfl
  · obtain ⟨p,l,f,r,n,x,ns,fd,rfl,⟨⟨dx,hp⟩,hl⟩,hlen,hfn,hR,k⟩:=h
    refine ⟨_,(zaq (zcp (i:=3) zd0.nd rfl (Or.inl rfl) (zk4 zft (zc0 (pv 0) rfl) zaw (fun _ _=>rfl)))
      (zaq (zcq (zdv (zs1 (pv 2) GA bA (hr.mono (by decide)) (zad (pv 3) zar)))
       (zaq (zf3 (pv 0) (zbt zfj (zez zfn (zc0 (pv 0) rfl) (ze_ zaw) zg5) (zc9 (zad (pv 3) zar))) rfl)
        (zas (zbh zb6)))
       zbo)
      (zaq (zf3 (pv 0) (zbt zfj (zez zfn (zc0 (pv 0) rfl) (ze_ zaw) zg5) (zc9 (zad (pv 1) zar))) rfl)
      (zas (zbh zb6))))),?_⟩
    have hsz:ns.length+1≤sizeLine:=Nat.le_of_lt (zbu (by omega)) |> fun _=>Nat.le_trans (Nat.succ_le_succ hlen) (by decide)
    walk_at "w"
    refine mA _ _ _ _ _ _ _ (fun v H1 q=>?_) k
    obtain ⟨b,rfl,⟨⟨dx1,hp1⟩,hl1⟩,k2⟩:=q
    refine ⟨b,rfl,?_⟩
    have fin:∀ (y:Int) (p1 p2 p3:Addr),H1 p1=none→upd H1 p1 (.lst (zjv ((x :: ns).map V.int) (some 1) none)) p2=none →
        upd (upd H1 p1 (.lst (zjv ((x :: ns).map V.int) (some 1) none))) p2 (.lst [V.int y]) p3=none→y=(if b then x else n) →
        Q (.str (if b then "full" else "instead")) (upd (upd (upd (upd H1 p1 (.lst (zjv ((x :: ns).map V.int) (some 1) none))) p2 (.lst [V.int y])) p3 (.lst (zjv ((x :: ns).map V.int) (some 1) none++[V.int y]))) p (.ins zaj.C dx1 (zf2 "order" (V.ref p3) (bF r l)))):=fun y p1 p2 p3 h1 h2 h3 hy=>by
      have n2:p1≠p2:=zap zam h2
      have h2':H1 p2=none:=by rw [zal n2.symm] at h2; exact h2
      have n3:p2≠p3:=zap zam h3
      have n4:p1≠p3:=by rintro rfl; rw [zal n2,zam] at h3; cases h3
      have h3':H1 p3=none:=by rw [zal n3.symm,zal n4.symm] at h3; exact h3
      have np3:p≠p3:=zap hp1 h3'
      refine k2 p3 _ h3' ⟨⟨dx1,?_⟩,?_⟩ fun c o e hc=>?_
      · rw [zam,zxm]
      · rw [zal np3.symm,zam,zy1,hy]
        simp
      · rw [zal hc,zal (zap e h3'),zal (zap e h2'),zal (zap e h1)]
        exact e
    have hsz':(zjv ((x :: ns).map V.int) (some 1) none).length+1≤sizeLine:=by rw [zy1,List.length_map]; exact hsz
    cases b with
    | true =>
      walk_at "w"
      intro p1 h1
      walk_at "w"
      intro p2 h2
      walk_at "w"
      intro p3 h3
      have np1:p≠p1:=zap hp1 h1
      have np2:p≠p2:=by rintro rfl; rw [zal np1,hp1] at h2; cases h2
      have np3:p≠p3:=by rintro rfl; rw [zal np2,zal np1,hp1] at h3; cases h3
      walk_at "w"
      exact fin x p1 p2 p3 h1 h2 h3 rfl
    | false =>
      walk_at "w"
      intro p1 h1
      walk_at "w"
      intro p2 h2
      walk_at "w"
      intro p3 h3
      have np1:p≠p1:=zap hp1 h1
      have np2:p≠p2:=by rintro rfl; rw [zal np1,hp1] at h2; cases h2
      have np3:p≠p3:=by rintro rfl; rw [zal np2,zal np1,hp1] at h3; cases h3
      walk_at "w"
      exact fin n p1 p2 p3 h1 h2 h3 rfl
theorem zjy:za3 ["self","name","answers"] ["self","name","answers"] (zai (zaa (top 26) 1)):=⟨rfl,rfl,rfl,by decide +kernel,rfl,by decide +kernel,by decide +kernel⟩
theorem zjt (T:Txt mg) {psA:List Str} {R:Addr→FuncData→Prop} {spA:Addr→FuncData→Sp} (GA:∀ f fd,R f fd→zbe P w K mg base CX0 5 f fd psA (spA f fd)) (bA:∀ f fd,R f fd→zex K fd psA []) (mA:ztx spA)
    (zaj:DfC K mg "Bucket" ["room","order"]) (zav:DfM K zaj.C "hears_when_full" "Bucket.hears_when_full" (zaa (top 26) 2) ["self","name","answers"]) (za_:DfM K zaj.C "hears" "Bucket.hears" (zaa (top 26) 1) ["self","name","answers"]):zbe P w K mg base CX0 7 za_.f za_.fd ["self","name","answers"] (zk2 K zaj.C R spA):=by
  have hcl:=zaj.cl
  obtain ⟨na1,na2,-⟩:=zaj.na
  have zfk:zbe P w K mg base CX0 6 _ _ _ _:=zki GA bA mA zaj zav
  refine za_.fn.ok zjy (fun vs H Q E h=>?_) (fun cdv A outer s H vs Q E hr h=>?_) <;> unfold zk2 at h
  · obtain ⟨p,l,f,r,n,ns,rfl,_⟩:=h
    rfl
  · obtain ⟨p,l,f,r,n,ns,rfl,⟨⟨dx,hp⟩,hl⟩,hlen,hr1,kA,kN,kF⟩:=h
    have npl:p≠l:=zd_ hp hl (by intro z; cases z)
    refine ⟨_,(zaq (zcq (zbk zmq (pv 1) (zc0 (pv 0) rfl) (by with_unfolding_all rfl))
       (zaq (zbj (zqa PySem.F.plainAttrs_list PySem.F.slot_list_remove PySem.F.type_list_remove zsb (zc0 (pv 0) rfl) (zad (pv 1) zar)))
        (zaq (zbj (zqa PySem.F.plainAttrs_list PySem.F.slot_list_append PySem.F.type_list_append zf6 (zc0 (pv 0) rfl) (zad (pv 1) zar)))
        (zas (zbh zb6))))
       zbo)
      (zaq (zcq (zbk zte (zb1 zet rfl T.n_len zjs (zad (zc0 (pv 0) rfl) zar)) (zc0 (pv 0) rfl) (zb8 _))
       (zaq (zbj (zqa PySem.F.plainAttrs_list PySem.F.slot_list_append PySem.F.type_list_append zf6 (zc0 (pv 0) rfl) (zad (pv 1) zar)))
        (zas (zbh zb6)))
       zbo)
      (zas (zbh (zb7 (pv 0) zaj.cl zav.me zfk (hr.mono (by decide)) zav.b .nil zbm (zad (pv 1) (zad (pv 2) zar))))))),?_⟩
    walk_at "w"
    show if inV (V.int n) (ns.map V.int)=true then _ else _
    rw [zot]
    by_cases hn:n∈ns
    · refine zkn hn ?_
      have hle:=List.length_erase_of_mem hn
      have hsz:((ns.erase n).map V.int).length<sizeLine:=by rw [List.length_map]; exact zbu (by omega)
      walk_at "w"
      refine kA hn _ ⟨⟨dx,by rw [zal npl,zal npl]; exact hp⟩,by rw [zam]; simp⟩ fun c o e hc=>by rw [zal hc,zal hc]; exact e
    · refine zfv hn ?_
      walk_at "w"
      show if decide (((ns.map V.int).length:Int)<r)=true then _ else _
      rw [List.length_map]
      by_cases h2:(ns.length:Int)<r
      · refine zkn h2 ?_
        have hsz:(ns.map V.int).length<sizeLine:=by rw [List.length_map]; exact zbu (by omega)
        walk_at "w"
        exact kN hn h2 _ ⟨⟨dx,by rw [zal npl]; exact hp⟩,by rw [zam]; simp⟩ fun c o e hc=>by rw [zal hc]; exact e
      · refine zfv h2 ?_
        have hf:=kF hn (by omega)
        walk_at "w"
end
local macro_rules | `(tactic| walk_at "fld") => `(tactic| first | exact zrc _ _ | exact zo8 _ _ | exact zrs _ _ | exact zo3 _ _ | exact zo7 _ _ | exact zo9 _ _ | exact zjp _)
theorem bx {i j:Int} (hi:0≤i) (hj:0≤j):Builtin.bitXor i j=((i.toNat ^^^ j.toNat:Nat):Int):=by
 have e:=znk i.toNat j.toNat
 rw [PyProof.Rows.bitXor_and,PyProof.Rows.bitAnd_pp hi hj]
 omega
def zzj:Sp:=fun vs H Q _=>∃ i j:Int,vs=[.int i,.int j]∧Q (.int (Builtin.bitXor i j)) H
theorem zsz (k:Nat):((2 ^ k:Nat):Int)=2 ^ k:=by simp
theorem zti {i j:Int} (hi:0≤i) (hj:0≤j) (h:i≠j):((Builtin.Int.intBits (Builtin.bitXor i j):Nat):Int) - 1=((i.toNat ^^^ j.toNat).log2:Nat):=by
 have hm:i.toNat ^^^ j.toNat≠0:=fun z=>h (by
  have:=(zg6 _ _).mp z
  omega)
 rw [bx hi hj]
 unfold Builtin.Int.intBits
 rw [if_neg (by simpa using hm),Int.natAbs_natCast]
 omega
def ov:Option Nat→V
 | none=> .non
 | some k=> .int k
def zxk:Sp:=fun vs H Q _=>∃ i j:Int,vs=[.int i,.int j]∧Q (.int ((Builtin.Int.intBits (Builtin.bitXor i j):Nat) - 1)) H
section
variable {P:Program} {w:World} {K:PySem.W.Frag} {mg:Str→Option Value} {base:Heap}
theorem zxd:za3 ["one","other"] ["one","other"] (zai (top 13)):=⟨rfl,rfl,rfl,by decide +kernel,rfl,by decide +kernel,by decide +kernel⟩
theorem zw6 (D:Df K mg "far" (top 13) ["one","other"]):zbe P w K mg base CX0 1 D.f D.fd ["one","other"] zzj:=by
 refine D.fn.ok zxd (fun vs H Q E h=>?_) (fun cdv A outer s H vs Q E hr h=>?_)
 ·obtain ⟨i,j,rfl,_⟩:=h
  rfl
 ·obtain ⟨i,j,rfl,k⟩:=h
  refine ⟨_,(zas (zbh (zbt zsf (pv 0) (pv 1)))),?_⟩
  exact ⟨_,rfl,_,rfl,_,_,rfl,rfl,k⟩
theorem two_pow_pos (n:Nat):(0:Int)<2 ^ n:=by
 have h:=Nat.pow_pos (n:=n) (show 0<2 by decide)
 have e:((2 ^ n:Nat):Int)=2 ^ n:=by simp
 omega
theorem zua {ns:List Int} {y:Int} {p:Int→Prop} (h:∀ x∈ns,p x) (hy:p y):∀ x∈ns++[y],p x:=fun x hx=>by
 rcases List.mem_append.mp hx with z | z
 ·exact h x z
 ·rw [List.mem_singleton.mp z]
  exact hy
theorem zbf.put {H H2:Hp} {p:Addr} {o:HO} (h:zbf H H2) (hp:H p=none):zbf H (upd H2 p o):=fun b u e=>by
 rw [zal (zap e hp)]
 exact h b u e
theorem zvc:za3 ["one","other"] ["one","other"] (zai (top 16)):=⟨rfl,rfl,rfl,by decide +kernel,rfl,by decide +kernel,by decide +kernel⟩
theorem zww (zfm:Df K mg "far" (top 13) ["one","other"]) (D:Df K mg "step" (top 16) ["one","other"]):zbe P w K mg base CX0 2 D.f D.fd ["one","other"] zxk:=by
 have zze:zbe P w K mg base CX0 1 _ _ _ _:=zw6 zfm
 refine D.fn.ok zvc (fun vs H Q E h=>?_) (fun cdv A outer s H vs Q E hr h=>?_)
 ·obtain ⟨i,j,rfl,_⟩:=h
  rfl
 ·obtain ⟨i,j,rfl,k⟩:=h
  refine ⟨_,(zas (zbh (zbt zw5 (zlz (zbn zze (hr.mono (by decide)) rfl zfm.hm zfm.fn.kp zfm.b .nil zbm (zad (pv 0) (zad (pv 1) zar)))) zaw))),?_⟩
  exact ⟨_,rfl,_,rfl,_,_,rfl,rfl,_,rfl,rfl,_,_,rfl,rfl,k⟩
end
def zw7:Pos:=⟨0,0,0,0⟩
def zpm:Expr→Arguments | .Lambda a _ _ _=>a | _=>za4 (.Pass zw7)
def zpi:Expr→Expr | .Lambda _ b _ _=>b | e=>e
def zle:Expr→Scope | .Lambda _ _ s _=>s | _=>zai (.Pass zw7)
def zfo:Expr→Pos | .Lambda _ _ _ p=>p | _=>zw7
def zj4 {α:Type} (f:Nat→α) (i:Nat) (x:α):Nat→α:=fun j=>if j=i then x else f j
theorem zb5 {α:Type} {f:Nat→α} {i:Nat} {x:α}:zj4 f i x i=x:=if_pos rfl
theorem zca {α:Type} {f:Nat→α} {i j:Nat} {x:α} (h:j≠i):zj4 f i x j=f j:=if_neg h
abbrev zo5 (n:Nat) (f:Nat→Addr):List V:=(List.range n).map fun k=>V.ref (f k)
theorem zlj {n:Nat} {f:Nat→Addr}:(zo5 n f).length=n:=by simp
theorem zo2 {n:Nat} {f:Nat→Addr} {i:Nat} (h:i<n):(zo5 n f)[i]? = some (V.ref (f i)):=by
 unfold zo5
 rw [List.getElem?_map,List.getElem?_range h]
 rfl
theorem zwj {n:Nat} {f:Nat→Addr} {i:Nat} {v:V} (h:(zo5 n f)[i]? = some v):i<n∧v=V.ref (f i):=by
 obtain ⟨h1,_⟩:=List.getElem?_eq_some_iff.mp h
 rw [zlj] at h1
 rw [zo2 h1] at h
 exact ⟨h1,(Option.some.inj h).symm⟩
theorem zrf {n:Nat} {f:Nat→Addr} {i:Int} (h0:0≤i) (h:i.toNat<n):atI (zo5 n f) i=some (V.ref (f i.toNat)):=by
 have e:((i.toNat:Nat):Int)=i:=by omega
 have z:=zlf (xs:=zo5 n f) (j:=i.toNat) (v:=V.ref (f i.toNat)) (zo2 h)
 rwa [e] at z
theorem zr6 {n:Nat} {f:Nat→Addr} {b:Addr}:zo5 n f++[V.ref b]=zo5 (n+1) (zj4 f n b):=by
 unfold zo5
 rw [List.range_succ,List.map_append]
 congr 1
 ·refine List.map_congr_left fun k hk=>?_
  rw [zca (Nat.ne_of_lt (List.mem_range.mp hk))]
 ·simp [zb5]
def zf9 (ns:Nat→List Int) (k:Nat):List Int:=((List.range k).map ns).flatten
theorem zgi {ns:Nat→List Int} {k:Nat}:zf9 ns (k+1)=zf9 ns k++ns k:=by
 unfold zf9
 rw [List.range_succ]
 simp
theorem zra {ns:Nat→List Int}:∀ {j k:Nat},j≤k→(zf9 ns j).length≤(zf9 ns k).length
  | j,0,h=>by
    have:j=0:=by omega
    subst this
    exact Nat.le_refl _
  | j,k+1,h=>by
    by_cases e:j=k+1
    · subst e
      exact Nat.le_refl _
    · have:=zra (ns:=ns) (j:=j) (k:=k) (by omega)
      rw [zgi,List.length_append]
      omega
def tF (own z r:Int) (l:Addr):List (Str × V):=[(("own" : Str),V.int own),(("wide" : Str),V.int z),(("room" : Str),V.int r),(("buckets" : Str),V.ref l)]
theorem zyo (o z r:Int) (l:Addr):(tF o z r l).lookup ("own" : Str)=some (V.int o):=by kernel_rfl
theorem zvr (o z r:Int) (l:Addr):(tF o z r l).lookup ("wide" : Str)=some (V.int z):=by kernel_rfl
theorem zws (o z r:Int) (l:Addr):(tF o z r l).lookup ("room" : Str)=some (V.int r):=by kernel_rfl
theorem zpw (o z r:Int) (l:Addr):(tF o z r l).lookup ("buckets" : Str)=some (V.ref l):=by kernel_rfl
theorem zx7 (o z r:Int) (l:Addr):zf2 "buckets" (V.ref l) (zf2 "room" (V.int r) (zf2 "wide" (V.int z) (zf2 "own" (V.int o) [])))=tF o z r l:=by kernel_rfl
theorem zzr (o z r:Int) (l:Addr):(tF o z r l).lookup ("hears" : Str)=none:=by kernel_rfl
theorem zzs (o z r:Int) (l:Addr):(tF o z r l).lookup ("drops" : Str)=none:=by kernel_rfl
theorem zzx (o z r:Int) (l:Addr):(tF o z r l).lookup ("bucket_of" : Str)=none:=by kernel_rfl
theorem zy8 (o z r:Int) (l:Addr):(tF o z r l).lookup ("bucket" : Str)=none:=by kernel_rfl
theorem zzv (o z r:Int) (l:Addr):(tF o z r l).lookup ("keeps" : Str)=none:=by kernel_rfl
theorem zzk (o z r:Int) (l:Addr):(tF o z r l).lookup ("nearest" : Str)=none:=by kernel_rfl
structure zey (CB CT:Addr) (H:Hp) (t bl:Addr) (own z r:Int) (n:Nat) (bA lA:Nat→Addr) (ns:Nat→List Int):Prop where
 ob:∃ dx,H t=some (.ins CT dx (tF own z r bl))
 li:H bl=some (.lst (zo5 n bA))
 bk:∀ k,k<n→zeu CB H (bA k) (lA k) r (ns k)
 bi:∀ i j,i<n→j<n→i≠j→bA i≠bA j
 lj:∀ i j,i<n→j<n→i≠j→lA i≠lA j
 nl:∀ k,k<n→lA k≠bl
structure zys (n:Nat) (bl:Addr) (lA:Nat→Addr) (x:Addr):Prop where
 b:x≠bl
 l:∀ j,j<n→x≠lA j
section
variable {CB CT t bl:Addr} {own z r:Int} {n:Nat} {bA lA:Nat→Addr} {ns:Nat→List Int} {H H':Hp}
theorem zey.keep (T:zey CB CT H t bl own z r n bA lA ns) (s:∀ q o,(∀ ps,o≠ .tbl ps)→H q=some o→H' q=some o):zey CB CT H' t bl own z r n bA lA ns:=by
 obtain ⟨⟨dx,h1⟩,h2,h3,h4,h5,h6⟩:=T
 refine ⟨⟨dx,s _ _ (fun _ z=>nomatch z) h1⟩,s _ _ (fun _ z=>nomatch z) h2,fun k hk=>?_,h4,h5,h6⟩
 obtain ⟨⟨dx,b1⟩,b2⟩:=h3 k hk
 exact ⟨⟨dx,s _ _ (fun _ z=>nomatch z) b1⟩,s _ _ (fun _ z=>nomatch z) b2⟩
theorem zey.same (T:zey CB CT H t bl own z r n bA lA ns) (s:zbf H H'):zey CB CT H' t bl own z r n bA lA ns:=T.keep fun q o _ e=>s q o e
theorem zey.bne (T:zey CB CT H t bl own z r n bA lA ns) {k:Nat} (hk:k<n):bA k≠t:=fun e=>by
 obtain ⟨dx,h1⟩:=T.ob
 obtain ⟨dy,h2⟩:=(T.bk k hk).ob
 rw [e,h1] at h2
 have:=Option.some.inj h2
 injection this with _ _ h3
 exact absurd (congrArg List.length h3) (by simp [tF,bF])
theorem zey.turn (T:zey CB CT H t bl own z r n bA lA ns) {k:Nat} (hk:k<n) {l':Addr} {xs:List Int} (P:Addr→Prop) (hB:zeu CB H' (bA k) l' r xs) (hl:l'=lA k∨H l'=none)
  (fr:∀ q o,(∀ ps,o≠ .tbl ps)→H q=some o→q≠bA k→q≠lA k→¬ P q→H' q=some o) (hP:∀ q,P q→zys n bl lA q∧∃ ys,H q=some (.lst ys)):zey CB CT H' t bl own z r n bA (zj4 lA k l') (zj4 ns k xs):=by
 have nP:∀ q C dx fs,H q=some (.ins C dx fs)→¬ P q:=fun q C dx fs e hp=>by
  obtain ⟨_,ys,e2⟩:=hP q hp
  rw [e] at e2
  cases e2
 obtain ⟨dx,h1⟩:=T.ob
 obtain ⟨⟨dk,hk1⟩,hk2⟩:=T.bk k hk
 refine ⟨⟨dx,fr _ _ (fun _ z=>nomatch z) h1 (T.bne hk).symm (fun e=>by rw [e,hk2] at h1; cases h1) (nP _ _ _ _ h1)⟩,?_,fun j hj=>?_,T.bi,fun i j hi hj hne=>?_,fun j hj=>?_⟩
 ·exact fr _ _ (fun _ z=>nomatch z) T.li (fun e=>by have:=T.li; rw [e,hk1] at this; cases this) (T.nl k hk).symm (fun hp=>(hP _ hp).1.b rfl)
 ·by_cases e:j=k
  ·subst e
   rw [zb5,zb5]
   exact hB
  ·rw [zca e,zca e]
   obtain ⟨⟨dj,j1⟩,j2⟩:=T.bk j hj
   refine ⟨⟨dj,fr _ _ (fun _ z=>nomatch z) j1 (T.bi j k hj hk e) (fun z=>by rw [z,hk2] at j1; cases j1) (nP _ _ _ _ j1)⟩,fr _ _ (fun _ z=>nomatch z) j2 (fun z=>by rw [z,hk1] at j2; cases j2) (T.lj j k hj hk e) (fun hp=>(hP _ hp).1.l j hj rfl)⟩
 ·have new:∀ m,m<n→m≠k→l'≠lA m:=fun m hm e=>by
   rcases hl with z | z
   ·rw [z]
    exact T.lj k m hk hm e.symm
   ·intro y
    rw [y,(T.bk m hm).li] at z
    cases z
  by_cases e1:i=k
  ·subst e1
   rw [zb5,zca hne.symm]
   exact new j hj hne.symm
  ·by_cases e2:j=k
   ·subst e2
    rw [zb5,zca e1]
    exact (new i hi e1).symm
   ·rw [zca e1,zca e2]
    exact T.lj i j hi hj hne
 ·by_cases e:j=k
  ·subst e
   rw [zb5]
   rcases hl with z | z
   ·rw [z]
    exact T.nl j hj
   ·intro y
    rw [y,T.li] at z
    cases z
  ·rw [zca e]
   exact T.nl j hj
theorem zys.turn {x:Addr} (h:zys n bl lA x) {k:Nat} {l':Addr} (hl:l'=lA k∨H l'=none) (hk:k<n) {o:HO} (hx:H x=some o):zys n bl (zj4 lA k l') x :=
 ⟨h.b,fun j hj e=>by
  by_cases q:j=k
  ·subst q
   rw [zb5] at e
   rcases hl with z | z
   ·exact h.l j hj (e.trans z)
   ·rw [← e,hx] at z
    cases z
  ·rw [zca q] at e
   exact h.l j hj e⟩
end
local macro_rules | `(tactic| walk_at "fld") => `(tactic| first | exact zyo _ _ _ _ | exact zvr _ _ _ _ | exact zws _ _ _ _ | exact zpw _ _ _ _ | exact zzr _ _ _ _ | exact zzs _ _ _ _ | exact zzx _ _ _ _ | exact zy8 _ _ _ _ | exact zzv _ _ _ _ | exact zzk _ _ _ _)
def zcn (a b:Int):Nat:=(a.toNat ^^^ b.toNat).log2
theorem zhu {a b:Int} {n:Nat} (ha:0≤a) (hb:0≤b) (h1:a<2 ^ n) (h2:b<2 ^ n) (h:a≠b):zcn a b<n:=by
 have e:=zsz n
 exact log2_lt (by omega) (by omega) (by omega)
def zwq (CB CT:Addr):Sp:=fun vs H Q _=>∃ (t dx:Addr) (own z r:Int),vs=[.ref t,.int own,.int z,.int r]∧H t=some (.ins CT dx [])∧0≤z∧z≤60 ∧
 ∀ (bl:Addr) (bA lA:Nat→Addr) (H':Hp),zey CB CT H' t bl own z r z.toNat bA lA (fun _=>[])→H bl=none→(∀ k,k<z.toNat→H (bA k)=none∧H (lA k)=none)→ztp t H H'→Q .non H'
def zyd (CB CT:Addr):Sp:=fun vs H Q _=>∃ (t bl:Addr) (own z r m:Int) (n:Nat) (bA lA:Nat→Addr) (ns:Nat→List Int),vs=[.ref t,.int m]∧zey CB CT H t bl own z r n bA lA ns ∧
 own≠m∧0≤own∧0≤m∧own<2 ^ n∧m<2 ^ n∧Q (.ref (bA (zcn own m))) H
def zuk (K:PySem.W.Frag) (CB CT:Addr) (R:Addr→FuncData→Prop) (spA:Addr→FuncData→Sp):Sp:=fun vs H Q _=>∃ (t bl f:Addr) (own z r m:Int) (n:Nat) (bA lA:Nat→Addr) (ns:Nat→List Int),vs=[.ref t,.int m,.ref f]∧zey CB CT H t bl own z r n bA lA ns ∧
 0≤own∧0≤m∧own<2 ^ n∧m<2 ^ n∧(own=m→Q (.str "own") H)∧(own≠m→zk2 K CB R spA [.ref (bA (zcn own m)),.int m,.ref f] H Q E0)
def zsg (CB CT:Addr):Sp:=fun vs H Q _=>∃ (t bl:Addr) (own z r j:Int) (n:Nat) (bA lA:Nat→Addr) (ns:Nat→List Int),vs=[.ref t,.int j]∧zey CB CT H t bl own z r n bA lA ns∧0≤j∧j.toNat<n ∧
 ∀ (m:Addr) (H':Hp),H m=none→H' m=some (.lst ((ns j.toNat).map V.int))→zbf H H'→Q (.ref m) H'
def zs3 (CB CT:Addr):Sp:=fun vs H Q _=>∃ (t bl:Addr) (own z r:Int) (n:Nat) (bA lA:Nat→Addr) (ns:Nat→List Int),vs=[.ref t]∧zey CB CT H t bl own z r n bA lA ns∧(zf9 ns n).length<64 ∧
 ∀ (m:Addr) (H':Hp),H m=none→H' m=some (.lst ((zb_ (zf9 ns n)).map V.int))→zbf H H'→Q (.ref m) H'
section
variable {P:Program} {w:World} {K:PySem.W.Frag} {mg:Str→Option Value} {base:Heap}
theorem zh2:za3 ["self","own","wide","room"] ["self","own","wide","room"] (zai (zaa (top 28) 0)):=⟨rfl,rfl,rfl,by decide +kernel,rfl,by decide +kernel,by decide +kernel⟩
theorem zk3 (T:Txt mg) (zaj:DfC K mg "Bucket" ["room","order"]) (zbg:DfM K zaj.C "__init__" "Bucket.__init__" (zaa (top 26) 0) ["self","room"]) (zat:DfC K mg "Table" ["own","wide","room","buckets"]) (zb0:DfM K zat.C "__init__" "Table.__init__" (zaa (top 28) 0) ["self","own","wide","room"]):zbe P w K mg base CX0 3 zb0.f zb0.fd ["self","own","wide","room"] (zwq zaj.C zat.C):=by
 have hcl:=zat.cl
 obtain ⟨na1,na2,na3,na4,-⟩:=zat.na
 have zh_:zbe P w K mg base CX0 1 _ _ _ _:=zkc zaj zbg
 refine zb0.fn.ok zh2 (fun vs H Q E h=>?_) (fun cdv A outer s H vs Q E hr h=>?_)
 ·obtain ⟨t,dx,own,z,r,rfl,_⟩:=h
  rfl
 ·obtain ⟨t,dx,own,z,r,rfl,ht,hz,hz2,k⟩:=h
  refine ⟨_,(zaq (zf3 (pv 0) (pv 1) rfl)
   (zaq (zf3 (pv 0) (pv 2) rfl)
   (zaq (zf3 (pv 0) (pv 3) rfl)
   (zas (zf3 (pv 0) (zlq rfl (zdn (own:=["k"]) (caps:=[3]) (N':=["k","room"]) (by kernel_rfl)) (zjn rfl T.n_range (zad (pv 2) zar)) (fun _ _ _ _ _=>(zcw (i:=0) (show (["k","room"]:List Str).Nodup by decide +kernel) rfl (Or.inl rfl))) (fun _ _ _ _ _=>zq2) (fun _ _ _ _ _=>(zoo (DfM.mk' zaj zbg) zh_ (hr.mono (by decide)) rfl zaj.hm zbg.b .nil zbm (zad (pv 1) zar)))) rfl))))),?_⟩
  walk_at "w"
  generalize hH3:upd (upd (upd H t _) t _) t _=H3
  have ht3:H3 t=some (.ins zat.C dx (zf2 "room" (V.int r) (zf2 "wide" (V.int z) (zf2 "own" (V.int own) [])))):=by rw [← hH3]; exact zam
  have hb3:∀ c,c≠t→H3 c=H c:=fun c hc=>by rw [← hH3,zal hc,zal hc,zal hc]
  clear hH3
  intro D hD
  have nDt:D≠t:=(zap ht3 hD).symm
  refine zkt (lo:=0) (n:=z.toNat) (fun i σ H2=>zj2 (∃ (bA lA:Nat→Addr) (v0:Option V),σ=[v0,some (.int r)]∧H2 D=some (.lst (zo5 i bA))∧(∀ k,k<i→zeu zaj.C H2 (bA k) (lA k) r [])∧(∀ k,k<i→H3 (bA k)=none∧H3 (lA k)=none∧lA k≠D) ∧
    (∀ i' j',i'<i→j'<i→i'≠j'→bA i'≠bA j'∧lA i'≠lA j')∧zbf H3 H2)) ⟨⟨fun _=>0,fun _=>0,none,rfl,zam,fun _ h=>absurd h (by omega),fun _ h=>absurd h (by omega),fun _ _ h=>absurd h (by omega),zbf.new H3 hD⟩⟩ ?_ ?_
  ·rintro i σ H2 hi ⟨bA,lA,v0,rfl,hD2,hbk,hfr,hij,s2⟩
   walk_at "w"
   intro b dxb hb hdx hne
   have hnew:∀ {q:Addr} {o:HO},H2 q=some o→q≠b∧q≠dxb:=fun e=>⟨zap e hb,zap e hdx⟩
   refine ⟨b,dxb,r,rfl,zam,fun l H5 hl B5 hb5=>⟨rfl,zo5 i bA,?_,by rw [zlj]; exact zbu (by omega),?_⟩⟩
   ·exact hb5 _ _ (by rw [zal (hnew hD2).1,zal (hnew hD2).2]; exact hD2) (hnew hD2).1
   have s5:zbf H2 H5:=fun q o e=>hb5 _ _ (by rw [zal (hnew e).1,zal (hnew e).2]; exact e) (hnew e).1
   have hl2:H2 l=none:=by
    cases q:H2 l with
    | none=>rfl
    | some o=>rw [zal (hnew q).1,zal (hnew q).2,q] at hl; cases hl
   have nlD:l≠D:=(zap hD2 hl2).symm
   have nbD:b≠D:=(zap hD2 hb).symm
   obtain ⟨⟨dxb5,B51⟩,B52⟩:=B5
   refine ⟨⟨zj4 bA i b,zj4 lA i l,_,rfl,by rw [zam,zr6],fun k hk=>?_,fun k hk=>?_,fun i' j' hi' hj' hne'=>?_,(s2.trans s5).put hD⟩⟩
   ·by_cases e:k=i
    ·rw [e,zb5,zb5]
     exact ⟨⟨dxb5,by rw [zal nbD]; exact B51⟩,by rw [zal nlD]; exact B52⟩
    ·rw [zca e,zca e]
     obtain ⟨⟨dxk,b1⟩,b2⟩:=hbk k (by omega)
     have nbk:bA k≠D:=zd_ b1 hD2 (by intro z; cases z)
     exact ⟨⟨dxk,by rw [zal nbk]; exact s5 _ _ b1⟩,by rw [zal (hfr k (by omega)).2.2]; exact s5 _ _ b2⟩
   ·by_cases e:k=i
    ·rw [e,zb5,zb5]
     exact ⟨s2.free hb,s2.free hl2,nlD⟩
    ·rw [zca e,zca e]
     exact hfr k (by omega)
   ·have nb:∀ m,m<i→b≠bA m∧l≠lA m:=fun m hm=>by
     obtain ⟨⟨dxm,b1⟩,b2⟩:=hbk m hm
     exact ⟨(zap b1 hb).symm,(zap b2 hl2).symm⟩
    by_cases e1:i'=i
    ·subst e1
     rw [zb5,zb5,zca hne'.symm,zca hne'.symm]
     exact nb j' (by omega)
    ·by_cases e2:j'=i
     ·subst e2
      rw [zb5,zb5,zca e1,zca e1]
      have:=nb i' (by omega)
      exact ⟨this.1.symm,this.2.symm⟩
     ·rw [zca e1,zca e1,zca e2,zca e2]
      exact hij i' j' (by omega) (by omega) hne'
  ·rintro σ H2 ⟨bA,lA,v0,rfl,hD2,hbk,hfr,hij,s2⟩
   have ht2:=s2 _ _ ht3
   walk_at "w"
   show Q .non (upd H2 t (.ins zat.C dx (zf2 "buckets" (V.ref D) (zf2 "room" (V.int r) (zf2 "wide" (V.int z) (zf2 "own" (V.int own) []))))))
   rw [zx7]
   have n3:∀ {q:Addr},H3 q=none→q≠t:=fun h=>(zap ht3 h).symm
   have old:∀ {q:Addr},H3 q=none→H q=none:=fun h=>by rw [← hb3 _ (n3 h)]; exact h
   refine k D bA lA _ ⟨⟨dx,zam⟩,by rw [zal nDt]; exact hD2,fun k hk=>?_,fun i j hi hj h=>(hij i j hi hj h).1,fun i j hi hj h=>(hij i j hi hj h).2,fun k hk=>(hfr k hk).2.2⟩ (old hD) (fun k hk=>⟨old (hfr k hk).1,old (hfr k hk).2.1⟩) fun c o e hc=>?_
   ·obtain ⟨⟨dxk,b1⟩,b2⟩:=hbk k hk
    exact ⟨⟨dxk,by rw [zal (n3 (hfr k hk).1)]; exact b1⟩,by rw [zal (n3 (hfr k hk).2.1)]; exact b2⟩
   ·rw [zal hc]
    exact s2 _ _ (by rw [hb3 _ hc]; exact e)
theorem zhd:za3 ["self","name"] ["self","name"] (zai (zaa (top 28) 3)):=⟨rfl,rfl,rfl,by decide +kernel,rfl,by decide +kernel,by decide +kernel⟩
theorem znd (T:Txt mg) {CB:Addr} (zfm:Df K mg "far" (top 13) ["one","other"]) (zeg:Df K mg "step" (top 16) ["one","other"]) (zat:DfC K mg "Table" ["own","wide","room","buckets"]) (za1:DfM K zat.C "bucket_of" "Table.bucket_of" (zaa (top 28) 3) ["self","name"]):zbe P w K mg base CX0 3 za1.f za1.fd ["self","name"] (zyd CB zat.C):=by
 have hcl:=zat.cl
 obtain ⟨na1,na2,na3,na4,-⟩:=zat.na
 have zye:zbe P w K mg base CX0 2 _ _ _ _:=zww zfm zeg
 refine za1.fn.ok zhd (fun vs H Q E h=>?_) (fun cdv A outer s H vs Q E hr h=>?_)
 ·obtain ⟨t,bl,own,z,r,m,n,bA,lA,ns,rfl,_⟩:=h
  rfl
 ·obtain ⟨t,bl,own,z,r,m,n,bA,lA,ns,rfl,hT,hne,h1,h2,h3,h4,k⟩:=h
  obtain ⟨⟨dx,hob⟩,hli,-⟩:=id hT
  refine ⟨_,(zas (zbh (zk4 zft (zc0 (pv 0) rfl) (zbn zye (hr.mono (by decide)) rfl zeg.hm zeg.fn.kp zeg.b .nil zbm (zad (zc0 (pv 0) rfl) (zad (pv 1) zar))) (fun _ _=>rfl)))),?_⟩
  have e:=zti h1 h2 hne
  have hlt:=zhu h1 h2 h3 h4 hne
  have hat:atI (zo5 n bA) (((Builtin.Int.intBits (Builtin.bitXor own m):Nat):Int) - 1)=some (V.ref (bA (zcn own m))):=by
   rw [e]
   exact zrf (by omega) (by rw [Int.toNat_natCast]; exact hlt)
  walk_at "w"
theorem zkd:za3 ["self","name","answers"] ["self","name","answers"] (zai (zaa (top 28) 1)):=⟨rfl,rfl,rfl,by decide +kernel,rfl,by decide +kernel,by decide +kernel⟩
theorem zkh (T:Txt mg) {psA:List Str} {R:Addr→FuncData→Prop} {spA:Addr→FuncData→Sp} (GA:∀ f fd,R f fd→zbe P w K mg base CX0 5 f fd psA (spA f fd)) (bA':∀ f fd,R f fd→zex K fd psA []) (mA:ztx spA)
    (zfm:Df K mg "far" (top 13) ["one","other"]) (zeg:Df K mg "step" (top 16) ["one","other"]) (zaj:DfC K mg "Bucket" ["room","order"]) (zav:DfM K zaj.C "hears_when_full" "Bucket.hears_when_full" (zaa (top 26) 2) ["self","name","answers"]) (za_:DfM K zaj.C "hears" "Bucket.hears" (zaa (top 26) 1) ["self","name","answers"]) (zat:DfC K mg "Table" ["own","wide","room","buckets"]) (za1:DfM K zat.C "bucket_of" "Table.bucket_of" (zaa (top 28) 3) ["self","name"]) (zbl:DfM K zat.C "hears" "Table.hears" (zaa (top 28) 1) ["self","name","answers"]):zbe P w K mg base CX0 8 zbl.f zbl.fd ["self","name","answers"] (zuk K zaj.C zat.C R spA):=by
  have hcl:=zat.cl
  obtain ⟨na1,na2,na3,na4,-⟩:=zat.na
  have zh3:zbe P w K mg base CX0 3 _ _ _ _:=znd (CB:=zaj.C) T zfm zeg zat za1
  have zkb:zbe P w K mg base CX0 7 _ _ _ _:=zjt T GA bA' mA zaj zav za_
  refine zbl.fn.ok zkd (fun vs H Q E h=>?_) (fun cdv A outer s H vs Q E hr h=>?_)
  · obtain ⟨t,bl,f,own,z,r,m,n,bA,lA,ns,rfl,_⟩:=h
    rfl
  · obtain ⟨t,bl,f,own,z,r,m,n,bA,lA,ns,rfl,hT,h1,h2,h3,h4,k1,k2⟩:=h
    obtain ⟨⟨dx,hob⟩,hli,hbk,-⟩:=id hT
    refine ⟨_,(zaq (zcq (zbk zgf (pv 1) (zc0 (pv 0) rfl) (zb8 _))
       (zas (zbh zb6))
       zbo)
      (zas (zbh (zb7 (zb7 (pv 0) zat.cl za1.me zh3 (hr.mono (by decide)) za1.b .nil zbm (zad (pv 1) zar)) zaj.cl za_.me zkb (hr.mono (by decide)) za_.b .nil zbm (zad (pv 1) (zad (pv 2) zar)))))),?_⟩
    walk_at "w"
    by_cases hne:m=own
    · subst hne
      refine zkn rfl ?_
      exact k1 rfl
    · have hne':own≠m:=fun e=>hne e.symm
      refine zfv (fun e=>hne (by injection e)) ?_
      have hlt:=zhu h1 h2 h3 h4 hne'
      obtain ⟨⟨dk,hk1⟩,hk2⟩:=hbk _ hlt
      have hf:=k2 hne'
      walk_at "w"
theorem zjm:za3 ["self","k"] ["self","k"] (zai (zaa (top 28) 4)):=⟨rfl,rfl,rfl,by decide +kernel,rfl,by decide +kernel,by decide +kernel⟩
theorem zja (T:Txt mg) (zaj:DfC K mg "Bucket" ["room","order"]) (zax:DfM K zaj.C "names" "Bucket.names" (zaa (top 26) 4) ["self"]) (zat:DfC K mg "Table" ["own","wide","room","buckets"]) (zb3:DfM K zat.C "bucket" "Table.bucket" (zaa (top 28) 4) ["self","k"]):zbe P w K mg base CX0 2 zb3.f zb3.fd ["self","k"] (zsg zaj.C zat.C):=by
 have hcl:=zat.cl
 obtain ⟨na1,na2,na3,na4,-⟩:=zat.na
 have zfg:zbe P w K mg base CX0 1 _ _ _ _:=zgc T zaj zax
 refine zb3.fn.ok zjm (fun vs H Q E h=>?_) (fun cdv A outer s H vs Q E hr h=>?_)
 ·obtain ⟨t,bl,own,z,r,j,n,bA,lA,ns,rfl,_⟩:=h
  rfl
 ·obtain ⟨t,bl,own,z,r,j,n,bA,lA,ns,rfl,hT,h1,h2,k⟩:=h
  obtain ⟨⟨dx,hob⟩,hli,hbk,-⟩:=id hT
  have hB:=hbk _ h2
  obtain ⟨⟨dk,hk1⟩,hk2⟩:=id hB
  refine ⟨_,(zas (zbh (zfu (zk4 zft (zc0 (pv 0) rfl) (pv 1) (fun _ _=>rfl)) zaj.cl zax.me zfg (hr.mono (by decide)) zax.b .nil zbm))),?_⟩
  have hat:=zrf (f:=bA) h1 h2
  walk_at "w"
theorem zfh:za3 ["self","names","bucket"] ["self"] (zai (zaa (top 28) 5)):=⟨rfl,rfl,rfl,by decide +kernel,rfl,by decide +kernel,by decide +kernel⟩
theorem zgu (T:Txt mg) (zaj:DfC K mg "Bucket" ["room","order"]) (zax:DfM K zaj.C "names" "Bucket.names" (zaa (top 26) 4) ["self"]) (zat:DfC K mg "Table" ["own","wide","room","buckets"]) (za7:DfM K zat.C "keeps" "Table.keeps" (zaa (top 28) 5) ["self"]):zbe P w K mg base CX0 2 za7.f za7.fd ["self"] (zs3 zaj.C zat.C):=by
  have hcl:=zat.cl
  obtain ⟨na1,na2,na3,na4,-⟩:=zat.na
  have zfg:zbe P w K mg base CX0 1 _ _ _ _:=zgc T zaj zax
  refine za7.fn.ok zfh (fun vs H Q E h=>?_) (fun cdv A outer s H vs Q E hr h=>?_)
  · obtain ⟨t,bl,own,z,r,n,bA,lA,ns,rfl,_⟩:=h
    rfl
  · obtain ⟨t,bl,own,z,r,n,bA,lA,ns,rfl,hT,hlen,k⟩:=h
    obtain ⟨⟨dx,hob⟩,hli,hbk,-⟩:=id hT
    refine ⟨_,(zaq (zcp (i:=1) zfh.nd rfl (Or.inl rfl) (zc9 zar))
      (zaq (zf4 PassesOwn.never rfl (zee (zc0 (pv 0) rfl)) (zcw (i:=2) zfh.nd rfl (Or.inl rfl))
       (zas (zbj (zqa PySem.F.plainAttrs_list PySem.F.slot_list_extend PySem.F.type_list_extend zsi (pv 1) (zad (zfu (pv 2) zaj.cl zax.me zfg (hr.mono (by decide)) zax.b .nil zbm) zar)))))
      (zas (zbh (zb1 zg8 rfl T.n_sorted zd7 (zad (pv 1) zar)))))),?_⟩
    walk_at "w"
    intro p hp
    have s0:zbf H (upd H p (.lst [])):=zbf.new H hp
    have hob0:=s0 _ _ hob
    have hli0:=s0 _ _ hli
    walk_at "w"
    refine zfe (K:=K) (a:=bl) (xs:=zo5 n bA) (fun i σ H2=>zj2 (∃ v:Option V,σ=[some (.ref t),some (.ref p),v]∧zbf H H2∧H2 p=some (.lst ((zf9 ns i).map V.int))))
      ⟨⟨none,rfl,s0,zam⟩⟩ (fun i σ H2 _ ⟨_,_,s2,_⟩=>SqL.of (s2 _ _ hli)) ?_ ?_
    · rintro i y σ H2 hi ⟨v,rfl,s2,hp2⟩
      obtain ⟨hin,rfl⟩:=zwj hi
      obtain ⟨⟨dk,hk1⟩,hk2⟩:=hbk _ hin
      have hB:zeu zaj.C H2 (bA i) (lA i) r (ns i):=⟨⟨dk,s2 _ _ hk1⟩,s2 _ _ hk2⟩
      have hk1':=s2 _ _ hk1
      walk_at "w"
      intro m H3 hm hm3 s3
      have hp3:=s3 _ _ hp2
      have hsz:((zf9 ns i).map V.int).length+((ns i).map V.int).length≤sizeLine:=by
        have e1:=zra (ns:=ns) (j:=i+1) (k:=n) hin
        rw [zgi,List.length_append] at e1
        rw [List.length_map,List.length_map]
        exact Nat.le_of_lt (zbu (by omega))
      walk_at "w"
      refine ⟨⟨_,rfl,(s2.trans s3).put hp,?_⟩⟩
      rw [zam,zgi,List.map_append]
    · rintro σ H2 ⟨v,rfl,s2,hp2⟩
      rw [zlj] at hp2
      walk_at "w"
      intro m hm
      exact k m _ (s2.free hm) zam (s2.put (s2.free hm))
end
section
variable {P:Program} {w:World} {K:PySem.W.Frag} {mg:Str→Option Value} {base:Heap}
theorem zog:za3 ["thing"] ["thing"] (zai (top 11)):=⟨rfl,rfl,rfl,by decide +kernel,rfl,by decide +kernel,by decide +kernel⟩
def zhv (K:PySem.W.Frag) (H:Hp) (v:V):Prop:=(∃ b,v = .bl b)∨∃ t,zj3 K H v t∧PySem.W.kitOne K t (.type "int")=some false
def zs8 (K:PySem.W.Frag):Sp:=fun vs H Q _=>∃ v,vs=[v]∧((∃ i,v = .int i)∧Q (.bl true) H∨zhv K H v∧Q (.bl false) H)
theorem zjj (T:Txt mg) (D:Df K mg "is_whole" (top 11) ["thing"]):zbe P w K mg base CX0 1 D.f D.fd ["thing"] (zs8 K):=by
 refine D.fn.ok zog (fun vs H Q E h=>?_) (fun cdv A outer s H vs Q E hr h=>?_)
 ·obtain ⟨v,rfl,_⟩:=h
  rfl
 ·obtain ⟨v,rfl,h⟩:=h
  refine ⟨_,(zas (zbh (zhs (zb1 zi2 rfl T.n_isinstance zb9 (zad (pv 0) (zad (zsp rfl T.n_int zu7) zar))) (zjk (zq5 (zb1 zi2 rfl T.n_isinstance zb9 (zad (pv 0) (zad (zsp rfl T.n_bool zq3) zar)))))))),?_⟩
  rcases h with ⟨⟨i,rfl⟩,k⟩ | ⟨⟨b,rfl⟩ | ⟨t,ht,hk⟩,k⟩
  ·walk_at "w"
  ·walk_at "w"
  ·walk_at "w"
theorem zp5:za3 ["thing","wide"] ["thing","wide"] (zai (top 12)):=⟨rfl,rfl,rfl,by decide +kernel,rfl,by decide +kernel,by decide +kernel⟩
def ztz (K:PySem.W.Frag):Sp:=fun vs H Q _=>∃ (v:V) (z:Int),vs=[v,.int z]∧((∃ i,v = .int i∧Q (.bl (decide (0≤i) && decide (((Builtin.Int.intBits i:Nat):Int)≤z))) H)∨zhv K H v∧Q (.bl false) H)
theorem zh6 (T:Txt mg) (zah:Df K mg "is_whole" (top 11) ["thing"]) (D:Df K mg "is_name" (top 12) ["thing","wide"]):zbe P w K mg base CX0 2 D.f D.fd ["thing","wide"] (ztz K):=by
 have zh8:zbe P w K mg base CX0 1 _ _ _ _:=zjj T zah
 refine D.fn.ok zp5 (fun vs H Q E h=>?_) (fun cdv A outer s H vs Q E hr h=>?_)
 ·obtain ⟨v,z,rfl,_⟩:=h
  rfl
 ·obtain ⟨v,z,rfl,h⟩:=h
  refine ⟨_,(zas (zbh (zhs (zbn zh8 (hr.mono (by decide)) rfl zah.hm zah.fn.kp zah.b .nil zbm (zad (pv 0) zar)) (zhs (znz zyb (pv 0) zaw (zb8 _)) (zjk (znz znb (zlz (pv 0)) (pv 1) (zb8 _))))))),?_⟩
  rcases h with ⟨i,rfl,k⟩ | ⟨hw,k⟩
  ·refine ⟨_,rfl,_,rfl,.inl ⟨⟨i,rfl⟩,?_⟩⟩
   walk_at "w"
   by_cases hi:0≤i
   ·refine zkn hi ?_
    rw [decide_eq_true hi,Bool.true_and] at k
    walk_at "w"
   ·refine zfv hi ?_
    rw [decide_eq_false hi,Bool.false_and] at k
    exact k
  ·refine ⟨_,rfl,_,rfl,.inr ⟨hw,?_⟩⟩
   walk_at "w"
end
def wF (z r:Int) (td sd:Addr):List (Str × V):=[(("wide" : Str),V.int z),(("room" : Str),V.int r),(("tables" : Str),V.ref td),(("silent" : Str),V.ref sd)]
theorem zvn (z r:Int) (a b:Addr):(wF z r a b).lookup ("wide" : Str)=some (V.int z):=by kernel_rfl
theorem zv8 (z r:Int) (a b:Addr):(wF z r a b).lookup ("room" : Str)=some (V.int r):=by kernel_rfl
theorem zrh (z r:Int) (a b:Addr):(wF z r a b).lookup ("tables" : Str)=some (V.ref a):=by kernel_rfl
theorem zsc (z r:Int) (a b:Addr):(wF z r a b).lookup ("silent" : Str)=some (V.ref b):=by kernel_rfl
theorem zx5 (z r:Int) (a b:Addr):zf2 "silent" (V.ref b) (zf2 "tables" (V.ref a) (zf2 "room" (V.int r) (zf2 "wide" (V.int z) [])))=wF z r a b:=by kernel_rfl
theorem zz6 (m:Str) (h:m∉(["wide","room","tables","silent"]:List Str)) (z r:Int) (a b:Addr):(wF z r a b).lookup m=none:=by
 simp only [List.mem_cons,List.not_mem_nil,or_false,not_or] at h
 obtain ⟨h1,h2,h3,h4⟩:=h
 have e1:(m == "wide")=false:=beq_eq_false_iff_ne.mpr h1
 have e2:(m == "room")=false:=beq_eq_false_iff_ne.mpr h2
 have e3:(m == "tables")=false:=beq_eq_false_iff_ne.mpr h3
 have e4:(m == "silent")=false:=beq_eq_false_iff_ne.mpr h4
 unfold wF
 simp only [List.lookup,e1,e2,e3,e4]
structure zdz where
 t:Addr
 bl:Addr
 bA:Nat→Addr
 lA:Nat→Addr
 ns:Nat→List Int
def zdx (hs:List Int) (T:Int→zdz):List (Key × V):=hs.map fun h=>(Sum.inl h,V.ref (T h).t)
def zf5 (sil:List Int):List (Key × V):=sil.map fun h=>(Sum.inl h,V.bl true)
structure za9 (CB CT CW:Addr) (H:Hp) (w td sd:Addr) (z r:Int) (hs sil:List Int) (T:Int→zdz):Prop where
 ob:∃ dx,H w=some (.ins CW dx (wF z r td sd))
 tb:H td=some (.dK (zdx hs T))
 si:H sd=some (.dK (zf5 sil))
 ta:∀ h∈hs,zey CB CT H (T h).t (T h).bl h z r z.toNat (T h).bA (T h).lA (T h).ns
 nd:hs.Nodup
 hb:∀ h∈hs,0≤h∧h<2 ^ z.toNat
 z1:1≤z
 z2:z≤60
 r1:1≤r
 r2:r≤8
 ln:hs.length≤60
 ts:td≠sd
theorem za9.keep {CB CT CW:Addr} {H H':Hp} {w td sd:Addr} {z r:Int} {hs sil:List Int} {T:Int→zdz} (W:za9 CB CT CW H w td sd z r hs sil T) (s:∀ q o,(∀ ps,o≠ .tbl ps)→H q=some o→H' q=some o):za9 CB CT CW H' w td sd z r hs sil T:=by
 obtain ⟨⟨dx,h1⟩,h2,h3,h4,h5,h6,h7,h8,h9,h10,h11,h12⟩:=W
 exact ⟨⟨dx,s _ _ (fun _ z=>nomatch z) h1⟩,s _ _ (fun _ z=>nomatch z) h2,s _ _ (fun _ z=>nomatch z) h3,fun h hh=>(h4 h hh).keep s,h5,h6,h7,h8,h9,h10,h11,h12⟩
theorem zep {hs:List Int} {T:Int→zdz} {i:Int}:zg9 (zdx hs T) (Sum.inl i)=if i∈hs then some (V.ref (T i).t) else none:=by
  induction hs with
  | nil=>rfl
  | cons h t ih =>
    by_cases e:h=i
    · subst e
      rw [if_pos (List.mem_cons_self ..)]
      exact zha rfl
    · have z:zg9 (zdx (h :: t) T) (Sum.inl i)=zg9 (zdx t T) (Sum.inl i):=zhb (by simpa using e)
      rw [z,ih]
      by_cases m:i∈t
      · rw [if_pos m,if_pos (List.mem_cons_of_mem _ m)]
      · rw [if_neg m,if_neg (by simp [m,Ne.symm e])]
theorem zev {sil:List Int} {i:Int}:(zg9 (zf5 sil) (Sum.inl i)).isSome=decide (i∈sil):=by
  induction sil with
  | nil=>rfl
  | cons h t ih =>
    by_cases e:h=i
    · subst e
      have z:zg9 (zf5 (h :: t)) (Sum.inl h)=some (V.bl true):=zha rfl
      rw [z]
      simp
    · have z:zg9 (zf5 (h :: t)) (Sum.inl i)=zg9 (zf5 t) (Sum.inl i):=zhb (by simpa using e)
      rw [z,ih]
      simp [Ne.symm e]
theorem zrt {i z:Int} (hi:0≤i) (hz:0≤z):decide (((Builtin.Int.intBits i:Nat):Int)≤z)=decide (i<2 ^ z.toNat):=by
 have c:((2 ^ z.toNat:Nat):Int)=2 ^ z.toNat:=by simp
 have hp:=two_pow_pos z.toNat
 by_cases h0:i=0
 ·subst h0
  have e:Builtin.Int.intBits 0=0:=by decide +kernel
  rw [e,decide_eq_true (by omega),decide_eq_true hp]
 ·have e:Builtin.Int.intBits i=i.natAbs.log2+1:=by
   unfold Builtin.Int.intBits
   rw [if_neg (by simpa using h0)]
  rw [e]
  have l:=Nat.log2_lt (n:=i.natAbs) (k:=z.toNat) (by omega)
  refine decide_eq_decide.mpr ⟨fun h=>?_,fun h=>?_⟩
  ·have:=l.mp (by omega)
   omega
  ·have:=l.mpr (by omega)
   omega
def zdj (z i:Int):Bool:=decide (0≤i) && decide (((Builtin.Int.intBits i:Nat):Int)≤z)
theorem zgq {z i:Int} (h0:0≤i) (h1:i<2 ^ z.toNat) (hz:1≤z):zdj z i=true:=by
 unfold zdj
 rw [decide_eq_true h0,zrt h0 (by omega),decide_eq_true h1]
 rfl
local macro_rules | `(tactic| walk_at "fld") => `(tactic| first | exact zvn _ _ _ _ | exact zv8 _ _ _ _ | exact zrh _ _ _ _ | exact zsc _ _ _ _ | exact zz6 _ (by decide +kernel) _ _ _ _ | exact zew.k (k := Sum.inl _) (by walk_at "hp"))
def zq1 (K:PySem.W.Frag) (CB CT CW:Addr):Sp:=fun vs H Q _=>∃ (w td sd:Addr) (z r:Int) (hs sil:List Int) (T:Int→zdz) (v:V),vs=[.ref w,v]∧za9 CB CT CW H w td sd z r hs sil T∧((∃ i,v = .int i∧Q (.bl (zdj z i && decide (i∈hs))) H)∨zhv K H v∧Q (.bl false) H)
def zng (K:PySem.W.Frag) (CB CT CW:Addr):Sp:=fun vs H Q _=>∃ (w td sd:Addr) (z r:Int) (hs sil:List Int) (T:Int→zdz) (v:V),vs=[.ref w,v]∧za9 CB CT CW H w td sd z r hs sil T∧((∃ i,v = .int i∧Q (.bl (zdj z i && decide (i∈hs) && !decide (i∈sil))) H)∨zhv K H v∧Q (.bl false) H)
section
variable {P:Program} {w:World} {K:PySem.W.Frag} {mg:Str→Option Value} {base:Heap}
theorem ziu:za3 ["self","thing"] ["self","thing"] (zai (zaa (top 31) 4)):=⟨rfl,rfl,rfl,by decide +kernel,rfl,by decide +kernel,by decide +kernel⟩
theorem zde (T:Txt mg) {CB CT:Addr} (zah:Df K mg "is_whole" (top 11) ["thing"]) (zan:Df K mg "is_name" (top 12) ["thing","wide"]) (zab:DfC K mg "Town" ["wide","room","tables","silent"]) (zae:DfM K zab.C "is_house" "Town.is_house" (zaa (top 31) 4) ["self","thing"]):zbe P w K mg base CX0 3 zae.f zae.fd ["self","thing"] (zq1 K CB CT zab.C):=by
  have hcl:=zab.cl
  obtain ⟨na1,na2,na3,na4,-⟩:=zab.na
  have zga:zbe P w K mg base CX0 2 _ _ _ _:=zh6 T zah zan
  refine zae.fn.ok ziu (fun vs H Q E h=>?_) (fun cdv A outer s H vs Q E hr h=>?_)
  · obtain ⟨w,td,sd,z,r,hs,sil,TT,v,rfl,_⟩:=h
    rfl
  · obtain ⟨w,td,sd,z,r,hs,sil,TT,v,rfl,hW,h⟩:=h
    obtain ⟨⟨dx,hob⟩,htb,hsi,-⟩:=id hW
    refine ⟨_,(zas (zbh (zhs (zbn zga (hr.mono (by decide)) rfl zan.hm zan.fn.kp zan.b .nil zbm (zad (pv 1) (zad (zc0 (pv 0) rfl) zar))) (zjk (zpb (zpd (zcj hr) (pv 1) (zc0 (pv 0) rfl))))))),?_⟩
    walk_at "w"
    rcases h with ⟨i,rfl,k⟩ | ⟨hw,k⟩
    · refine .inl ⟨i,rfl,?_⟩
      refine ⟨_,rfl,?_⟩
      change if zdj z i=true then _ else _
      cases hn:zdj z i with
      | true =>
        rw [hn,Bool.true_and] at k
        walk_at "w"
        rw [zep]
        by_cases m:i∈hs
        · rw [if_pos m]
          rw [decide_eq_true m] at k
          exact k
        · rw [if_neg m]
          rw [decide_eq_false m] at k
          exact k
      | false =>
        rw [hn,Bool.false_and] at k
        walk_at "w"
    · refine .inr ⟨hw,?_⟩
      walk_at "w"
theorem zji:za3 ["self","name"] ["self","name"] (zai (zaa (top 31) 3)):=⟨rfl,rfl,rfl,by decide +kernel,rfl,by decide +kernel,by decide +kernel⟩
theorem zcy (T:Txt mg) {CB CT:Addr} (zah:Df K mg "is_whole" (top 11) ["thing"]) (zan:Df K mg "is_name" (top 12) ["thing","wide"]) (zab:DfC K mg "Town" ["wide","room","tables","silent"]) (zae:DfM K zab.C "is_house" "Town.is_house" (zaa (top 31) 4) ["self","thing"]) (zag:DfM K zab.C "answers" "Town.answers" (zaa (top 31) 3) ["self","name"]):zbe P w K mg base CX0 4 zag.f zag.fd ["self","name"] (zng K CB CT zab.C):=by
  have hcl:=zab.cl
  obtain ⟨na1,na2,na3,na4,-⟩:=zab.na
  have zch:zbe P w K mg base CX0 3 _ _ _ _:=zde (CB:=CB) (CT:=CT) T zah zan zab zae
  refine zag.fn.ok zji (fun vs H Q E h=>?_) (fun cdv A outer s H vs Q E hr h=>?_)
  · obtain ⟨w,td,sd,z,r,hs,sil,TT,v,rfl,_⟩:=h
    rfl
  · obtain ⟨w,td,sd,z,r,hs,sil,TT,v,rfl,hW,h⟩:=h
    obtain ⟨⟨dx,hob⟩,htb,hsi,-⟩:=id hW
    refine ⟨_,(zas (zbh (zhs (zb7 (pv 0) zab.cl zae.me zch (hr.mono (by decide)) zae.b .nil zbm (zad (pv 1) zar)) (zjk (zpb (zeq (zcj hr) (pv 1) (zc0 (pv 0) rfl))))))),?_⟩
    walk_at "w"
    rcases h with ⟨i,rfl,k⟩ | ⟨hw,k⟩
    · refine .inl ⟨i,rfl,?_⟩
      refine ⟨_,rfl,?_⟩
      cases hn:(zdj z i && decide (i∈hs)) with
      | true =>
        rw [hn,Bool.true_and] at k
        walk_at "w"
        rw [zev]
        exact k
      | false =>
        rw [hn,Bool.false_and] at k
        walk_at "w"
    · refine .inr ⟨hw,?_⟩
      walk_at "w"
theorem ze6:za3 ["self","thing"] ["self","thing"] (zai (zaa (top 31) 16)):=⟨rfl,rfl,rfl,by decide +kernel,rfl,by decide +kernel,by decide +kernel⟩
def zmj (CB CT CW:Addr):Sp:=fun vs H Q _=>∃ (w td sd:Addr) (z r:Int) (hs sil:List Int) (T:Int→zdz) (i:Int),vs=[.ref w,.int i]∧za9 CB CT CW H w td sd z r hs sil T∧i∈hs∧Q .non H
theorem zdd (T:Txt mg) {CB CT:Addr} (zao:DfE K mg "NoHouse") (zah:Df K mg "is_whole" (top 11) ["thing"]) (zan:Df K mg "is_name" (top 12) ["thing","wide"]) (zab:DfC K mg "Town" ["wide","room","tables","silent"]) (zae:DfM K zab.C "is_house" "Town.is_house" (zaa (top 31) 4) ["self","thing"]) (zac:DfM K zab.C "check_house" "Town.check_house" (zaa (top 31) 16) ["self","thing"]):zbe P w K mg base CX0 4 zac.f zac.fd ["self","thing"] (zmj CB CT zab.C):=by
  have hcl:=zab.cl
  have zch:zbe P w K mg base CX0 3 _ _ _ _:=zde (CB:=CB) (CT:=CT) T zah zan zab zae
  refine zac.fn.ok ze6 (fun vs H Q E h=>?_) (fun cdv A outer s H vs Q E hr h=>?_)
  · obtain ⟨w,td,sd,z,r,hs,sil,TT,i,rfl,_⟩:=h
    rfl
  · obtain ⟨w,td,sd,z,r,hs,sil,TT,i,rfl,hW,hi,k⟩:=h
    obtain ⟨⟨dx,hob⟩,htb,hsi,-⟩:=id hW
    have hn:zdj z i=true:=zgq (hW.hb i hi).1 (hW.hb i hi).2 hW.z1
    refine ⟨_,(zas (zcq (zf0 (zdv (zb7 (pv 0) zab.cl zae.me zch (hr.mono (by decide)) zae.b .nil zbm (zad (pv 1) zar))))
       (zas (zed (W:=fun _=>False) zao rfl rfl (zad zb6 zar) (fun _ _ _ _ _ _ _ _ _ hw=>hw.elim)))
       zbo)),?_⟩
    walk_at "w"
    refine .inl ⟨i,rfl,?_⟩
    rw [hn,decide_eq_true hi]
    walk_at "w"
theorem zfd:za3 ["self","thing"] ["self","thing"] (zai (zaa (top 31) 15)):=⟨rfl,rfl,rfl,by decide +kernel,rfl,by decide +kernel,by decide +kernel⟩
def zob (CB CT CW:Addr):Sp:=fun vs H Q _=>∃ (w td sd:Addr) (z r:Int) (hs sil:List Int) (T:Int→zdz) (i:Int),vs=[.ref w,.int i]∧za9 CB CT CW H w td sd z r hs sil T∧0≤i∧i<2 ^ z.toNat∧Q .non H
theorem zhh (T:Txt mg) {CB CT:Addr} (za5:DfE K mg "NoName") (zah:Df K mg "is_whole" (top 11) ["thing"]) (zan:Df K mg "is_name" (top 12) ["thing","wide"]) (zab:DfC K mg "Town" ["wide","room","tables","silent"]) (zau:DfM K zab.C "check_name" "Town.check_name" (zaa (top 31) 15) ["self","thing"]):zbe P w K mg base CX0 3 zau.f zau.fd ["self","thing"] (zob CB CT zab.C):=by
  have hcl:=zab.cl
  obtain ⟨na1,na2,na3,na4,-⟩:=zab.na
  have zga:zbe P w K mg base CX0 2 _ _ _ _:=zh6 T zah zan
  refine zau.fn.ok zfd (fun vs H Q E h=>?_) (fun cdv A outer s H vs Q E hr h=>?_)
  · obtain ⟨w,td,sd,z,r,hs,sil,TT,i,rfl,_⟩:=h
    rfl
  · obtain ⟨w,td,sd,z,r,hs,sil,TT,i,rfl,hW,h0,h1,k⟩:=h
    obtain ⟨⟨dx,hob⟩,htb,hsi,-⟩:=id hW
    have hn:zdj z i=true:=zgq h0 h1 hW.z1
    refine ⟨_,(zas (zcq (zf0 (zdv (zbn zga (hr.mono (by decide)) rfl zan.hm zan.fn.kp zan.b .nil zbm (zad (pv 1) (zad (zc0 (pv 0) rfl) zar)))))
       (zas (zed (W:=fun _=>False) za5 rfl rfl (zad zb6 zar) (fun _ _ _ _ _ _ _ _ _ hw=>hw.elim)))
       zbo)),?_⟩
    walk_at "w"
    refine .inl ⟨i,rfl,?_⟩
    unfold zdj at hn
    rw [hn]
    walk_at "w"
theorem zd9:za3 ["self","thing"] ["self","thing"] (zai (zaa (top 31) 17)):=⟨rfl,rfl,rfl,by decide +kernel,rfl,by decide +kernel,by decide +kernel⟩
def zqc (CB CT CW:Addr):Sp:=fun vs H Q _=>∃ (w td sd:Addr) (z r:Int) (hs sil:List Int) (T:Int→zdz) (i:Int),vs=[.ref w,.int i]∧za9 CB CT CW H w td sd z r hs sil T∧i∈hs∧i∉sil∧Q .non H
theorem zef (T:Txt mg) {CB CT:Addr} (zao:DfE K mg "NoHouse") (zaz:DfE K mg "Silent") (zah:Df K mg "is_whole" (top 11) ["thing"]) (zan:Df K mg "is_name" (top 12) ["thing","wide"]) (zab:DfC K mg "Town" ["wide","room","tables","silent"]) (zae:DfM K zab.C "is_house" "Town.is_house" (zaa (top 31) 4) ["self","thing"]) (zag:DfM K zab.C "answers" "Town.answers" (zaa (top 31) 3) ["self","name"]) (zac:DfM K zab.C "check_house" "Town.check_house" (zaa (top 31) 16) ["self","thing"]) (zaf:DfM K zab.C "check_answering" "Town.check_answering" (zaa (top 31) 17) ["self","thing"]):zbe P w K mg base CX0 5 zaf.f zaf.fd ["self","thing"] (zqc CB CT zab.C):=by
  have hcl:=zab.cl
  have zcg:zbe P w K mg base CX0 4 _ _ _ _:=zdd (CB:=CB) (CT:=CT) T zao zah zan zab zae zac
  have zb2:zbe P w K mg base CX0 4 _ _ _ _:=zcy (CB:=CB) (CT:=CT) T zah zan zab zae zag
  refine zaf.fn.ok zd9 (fun vs H Q E h=>?_) (fun cdv A outer s H vs Q E hr h=>?_)
  · obtain ⟨w,td,sd,z,r,hs,sil,TT,i,rfl,_⟩:=h
    rfl
  · obtain ⟨w,td,sd,z,r,hs,sil,TT,i,rfl,hW,hi,hns,k⟩:=h
    obtain ⟨⟨dx,hob⟩,htb,hsi,-⟩:=id hW
    have hn:zdj z i=true:=zgq (hW.hb i hi).1 (hW.hb i hi).2 hW.z1
    refine ⟨_,(zaq (zbj (zb7 (pv 0) zab.cl zac.me zcg (hr.mono (by decide)) zac.b .nil zbm (zad (pv 1) zar)))
      (zas (zcq (zf0 (zdv (zb7 (pv 0) zab.cl zag.me zb2 (hr.mono (by decide)) zag.b .nil zbm (zad (pv 1) zar))))
       (zas (zed (W:=fun _=>False) zaz rfl rfl (zad zb6 zar) (fun _ _ _ _ _ _ _ _ _ hw=>hw.elim)))
       zbo))),?_⟩
    walk_at "w"
    refine .inl ⟨i,rfl,?_⟩
    rw [hn,decide_eq_true hi,decide_eq_false hns]
    walk_at "w"
theorem zkl:za3 ["self"] ["self"] (zai (zaa (top 31) 1)):=⟨rfl,rfl,rfl,by decide +kernel,rfl,by decide +kernel,by decide +kernel⟩
def zts (CB CT CW:Addr):Sp:=fun vs H Q _=>∃ (w td sd:Addr) (z r:Int) (hs sil:List Int) (T:Int→zdz),vs=[.ref w]∧za9 CB CT CW H w td sd z r hs sil T∧∀ l,H l=none→Q (.ref l) (upd H l (.lst ((zb_ hs).map V.int)))
theorem zgv (T:Txt mg) {CB CT:Addr} (zab:DfC K mg "Town" ["wide","room","tables","silent"]) (zbr:DfM K zab.C "houses" "Town.houses" (zaa (top 31) 1) ["self"]):zbe P w K mg base CX0 1 zbr.f zbr.fd ["self"] (zts CB CT zab.C):=by
 have hcl:=zab.cl
 obtain ⟨na1,na2,na3,na4,-⟩:=zab.na
 refine zbr.fn.ok zkl (fun vs H Q E h=>?_) (fun cdv A outer s H vs Q E hr h=>?_)
 ·obtain ⟨w,td,sd,z,r,hs,sil,TT,rfl,_⟩:=h
  rfl
 ·obtain ⟨w,td,sd,z,r,hs,sil,TT,rfl,hW,k⟩:=h
  obtain ⟨⟨dx,hob⟩,htb,hsi,-⟩:=id hW
  have hln:=hW.ln
  have hkeys:(zdx hs TT).map (·.1)=hs.map Sum.inl:=by
   unfold zdx
   rw [List.map_map]
   rfl
  have h64:hs.length<64:=by omega
  refine ⟨_,(zas (zbh (zb1 (zd4 rfl) rfl T.n_sorted zd7 (zad (zc0 (pv 0) rfl) zar)))),?_⟩
  walk_at "w"
theorem zgw:za3 ["self","house","k"] ["self","house","k"] (zai (zaa (top 31) 5)):=⟨rfl,rfl,rfl,by decide +kernel,rfl,by decide +kernel,by decide +kernel⟩
def zms (CB CT CW:Addr):Sp:=fun vs H Q _=>∃ (w td sd:Addr) (z r:Int) (hs sil:List Int) (T:Int→zdz) (i j:Int),vs=[.ref w,.int i,.int j]∧za9 CB CT CW H w td sd z r hs sil T∧i∈hs∧0≤j∧j.toNat<z.toNat ∧
 ∀ (m:Addr) (H':Hp),H m=none→H' m=some (.lst (((T i).ns j.toNat).map V.int))→zbf H H'→Q (.ref m) H'
theorem zkf (T:Txt mg) (zao:DfE K mg "NoHouse") (zah:Df K mg "is_whole" (top 11) ["thing"]) (zan:Df K mg "is_name" (top 12) ["thing","wide"]) (zaj:DfC K mg "Bucket" ["room","order"]) (zax:DfM K zaj.C "names" "Bucket.names" (zaa (top 26) 4) ["self"]) (zat:DfC K mg "Table" ["own","wide","room","buckets"]) (zb3:DfM K zat.C "bucket" "Table.bucket" (zaa (top 28) 4) ["self","k"]) (zab:DfC K mg "Town" ["wide","room","tables","silent"]) (zae:DfM K zab.C "is_house" "Town.is_house" (zaa (top 31) 4) ["self","thing"]) (zac:DfM K zab.C "check_house" "Town.check_house" (zaa (top 31) 16) ["self","thing"]) (za8:DfM K zab.C "bucket" "Town.bucket" (zaa (top 31) 5) ["self","house","k"]):zbe P w K mg base CX0 5 za8.f za8.fd ["self","house","k"] (zms zaj.C zat.C zab.C):=by
 have hcl:=zab.cl
 obtain ⟨na1,na2,na3,na4,-⟩:=zab.na
 have zj7:zbe P w K mg base CX0 2 _ _ _ _:=zja T zaj zax zat zb3
 have zcg:zbe P w K mg base CX0 4 _ _ _ _:=zdd (CB:=zaj.C) (CT:=zat.C) T zao zah zan zab zae zac
 refine za8.fn.ok zgw (fun vs H Q E h=>?_) (fun cdv A outer s H vs Q E hr h=>?_)
 ·obtain ⟨w,td,sd,z,r,hs,sil,TT,i,j,rfl,_⟩:=h
  rfl
 ·obtain ⟨w,td,sd,z,r,hs,sil,TT,i,j,rfl,hW,hi,hj,hj2,k⟩:=h
  obtain ⟨⟨dx,hob⟩,htb,hsi,hta,-⟩:=id hW
  have hTi:=hta i hi
  obtain ⟨⟨dxi,hobi⟩,-⟩:=id hTi
  have hg:zew H td (V.int i) (some (V.ref (TT i).t)):=by
   have:=zew.k (k:=Sum.inl i) htb
   rw [zep,if_pos hi] at this
   exact this
  refine ⟨_,(zaq (zbj (zb7 (pv 0) zab.cl zac.me zcg (hr.mono (by decide)) zac.b .nil zbm (zad (pv 1) zar)))
   (zas (zbh (zb7 (zby (zcj hr) (zc0 (pv 0) rfl) (pv 1) (fun _ _=>rfl)) zat.cl zb3.me zj7 (hr.mono (by decide)) zb3.b .nil zbm (zad (pv 2) zar))))),?_⟩
  walk_at "w"
theorem zhc:za3 ["self","house"] ["self","house"] (zai (zaa (top 31) 6)):=⟨rfl,rfl,rfl,by decide +kernel,rfl,by decide +kernel,by decide +kernel⟩
def znn (CB CT CW:Addr):Sp:=fun vs H Q _=>∃ (w td sd:Addr) (z r:Int) (hs sil:List Int) (T:Int→zdz) (i:Int),vs=[.ref w,.int i]∧za9 CB CT CW H w td sd z r hs sil T∧i∈hs∧(zf9 (T i).ns z.toNat).length<64 ∧
 ∀ (m:Addr) (H':Hp),H m=none→H' m=some (.lst ((zb_ (zf9 (T i).ns z.toNat)).map V.int))→zbf H H'→Q (.ref m) H'
theorem zlb (T:Txt mg) (zao:DfE K mg "NoHouse") (zah:Df K mg "is_whole" (top 11) ["thing"]) (zan:Df K mg "is_name" (top 12) ["thing","wide"]) (zaj:DfC K mg "Bucket" ["room","order"]) (zax:DfM K zaj.C "names" "Bucket.names" (zaa (top 26) 4) ["self"]) (zat:DfC K mg "Table" ["own","wide","room","buckets"]) (za7:DfM K zat.C "keeps" "Table.keeps" (zaa (top 28) 5) ["self"]) (zab:DfC K mg "Town" ["wide","room","tables","silent"]) (zae:DfM K zab.C "is_house" "Town.is_house" (zaa (top 31) 4) ["self","thing"]) (zac:DfM K zab.C "check_house" "Town.check_house" (zaa (top 31) 16) ["self","thing"]) (zbc:DfM K zab.C "keeps" "Town.keeps" (zaa (top 31) 6) ["self","house"]):zbe P w K mg base CX0 5 zbc.f zbc.fd ["self","house"] (znn zaj.C zat.C zab.C):=by
 have hcl:=zab.cl
 obtain ⟨na1,na2,na3,na4,-⟩:=zab.na
 have zfx:zbe P w K mg base CX0 2 _ _ _ _:=zgu T zaj zax zat za7
 have zcg:zbe P w K mg base CX0 4 _ _ _ _:=zdd (CB:=zaj.C) (CT:=zat.C) T zao zah zan zab zae zac
 refine zbc.fn.ok zhc (fun vs H Q E h=>?_) (fun cdv A outer s H vs Q E hr h=>?_)
 ·obtain ⟨w,td,sd,z,r,hs,sil,TT,i,rfl,_⟩:=h
  rfl
 ·obtain ⟨w,td,sd,z,r,hs,sil,TT,i,rfl,hW,hi,hlen,k⟩:=h
  obtain ⟨⟨dx,hob⟩,htb,hsi,hta,-⟩:=id hW
  have hTi:=hta i hi
  obtain ⟨⟨dxi,hobi⟩,-⟩:=id hTi
  have hg:zew H td (V.int i) (some (V.ref (TT i).t)):=by
   have:=zew.k (k:=Sum.inl i) htb
   rw [zep,if_pos hi] at this
   exact this
  refine ⟨_,(zaq (zbj (zb7 (pv 0) zab.cl zac.me zcg (hr.mono (by decide)) zac.b .nil zbm (zad (pv 1) zar)))
   (zas (zbh (zfu (zby (zcj hr) (zc0 (pv 0) rfl) (pv 1) (fun _ _=>rfl)) zat.cl za7.me zfx (hr.mono (by decide)) za7.b .nil zbm)))),?_⟩
  walk_at "w"
end
def ztw (v:V) (most:Int):Bool:=match v with | .int i=>decide (1≤i) && decide (i≤most) | _=>false
def zd5 (K:PySem.W.Frag) (H:Hp) (v:V):Prop:=(∃ i,v = .int i)∨zhv K H v∧∀ i,v≠ .int i
def zs6 (K:PySem.W.Frag):Sp:=fun vs H Q _=>∃ (v:V) (m:Int),vs=[v,.int m]∧zd5 K H v∧Q (.bl (ztw v m)) H
section
variable {P:Program} {w:World} {K:PySem.W.Frag} {mg:Str→Option Value} {base:Heap}
theorem zqk:za3 ["thing","most"] ["thing","most"] (zai (top 30)):=⟨rfl,rfl,rfl,by decide +kernel,rfl,by decide +kernel,by decide +kernel⟩
theorem zp4 (T:Txt mg) (zah:Df K mg "is_whole" (top 11) ["thing"]) (D:Df K mg "is_size" (top 30) ["thing","most"]):zbe P w K mg base CX0 2 D.f D.fd ["thing","most"] (zs6 K):=by
 have zh8:zbe P w K mg base CX0 1 _ _ _ _:=zjj T zah
 refine D.fn.ok zqk (fun vs H Q E h=>?_) (fun cdv A outer s H vs Q E hr h=>?_)
 ·obtain ⟨v,m,rfl,_⟩:=h
  rfl
 ·obtain ⟨v,m,rfl,hk,k⟩:=h
  refine ⟨_,(zas (zbh (zhs (zbn zh8 (hr.mono (by decide)) rfl zah.hm zah.fn.kp zah.b .nil zbm (zad (pv 0) zar)) (zjk (zla znb znb zaw (pv 0) (pv 1)))))),?_⟩
  rcases hk with ⟨i,rfl⟩ | ⟨hw,hni⟩
  ·refine ⟨_,rfl,_,rfl,.inl ⟨⟨i,rfl⟩,?_⟩⟩
   walk_at "w"
   have k:Q (.bl (decide (1≤i) && decide (i≤m))) H:=k
   by_cases h1:1≤i
   ·rw [decide_eq_true h1,Bool.true_and] at k
    refine zkn h1 ?_
    walk_at "w"
   ·rw [decide_eq_false h1,Bool.false_and] at k
    refine zfv h1 ?_
    exact k
  ·have e:ztw v m=false:=by
    cases v <;> first | rfl | exact absurd rfl (hni _)
   rw [e] at k
   refine ⟨_,rfl,_,rfl,.inr ⟨hw,?_⟩⟩
   walk_at "w"
theorem ziy:za3 ["self","wide","room"] ["self","wide","room"] (zai (zaa (top 31) 0)):=⟨rfl,rfl,rfl,by decide +kernel,rfl,by decide +kernel,by decide +kernel⟩
def zwd (CB CT CW:Addr):Sp:=fun vs H Q _=>∃ (w dx:Addr) (z r:Int),vs=[.ref w,.int z,.int r]∧H w=some (.ins CW dx [])∧1≤z∧z≤60∧1≤r∧r≤8 ∧
 ∀ (td sd:Addr) (H':Hp) (T:Int→zdz),za9 CB CT CW H' w td sd z r [] [] T→H td=none→H sd=none→td≠sd→ztp w H H'→Q .non H'
theorem zmo (T:Txt mg) {CB CT:Addr} (zdc:DfE K mg "NoSize") (zah:Df K mg "is_whole" (top 11) ["thing"]) (zdr:Df K mg "is_size" (top 30) ["thing","most"]) (zab:DfC K mg "Town" ["wide","room","tables","silent"]) (zcd:DfM K zab.C "__init__" "Town.__init__" (zaa (top 31) 0) ["self","wide","room"]):zbe P w K mg base CX0 3 zcd.f zcd.fd ["self","wide","room"] (zwd CB CT zab.C):=by
  have hcl:=zab.cl
  obtain ⟨na1,na2,na3,na4,-⟩:=zab.na
  have zm0:zbe P w K mg base CX0 2 _ _ _ _:=zp4 T zah zdr
  refine zcd.fn.ok ziy (fun vs H Q E h=>?_) (fun cdv A outer s H vs Q E hr h=>?_)
  · obtain ⟨w,dx,z,r,rfl,_⟩:=h
    rfl
  · obtain ⟨w,dx,z,r,rfl,hw,hz1,hz2,hr1,hr2,k⟩:=h
    have e1:ztw (.int z) 60=true:=by
      show (decide (1≤z) && decide (z≤60))=true
      rw [decide_eq_true hz1,decide_eq_true hz2]
      rfl
    have e2:ztw (.int r) 8=true:=by
      show (decide (1≤r) && decide (r≤8))=true
      rw [decide_eq_true hr1,decide_eq_true hr2]
      rfl
    have kd1:zd5 K H (.int z):= .inl ⟨z,rfl⟩
    have kd2:zd5 K H (.int r):= .inl ⟨r,rfl⟩
    refine ⟨_,(zaq (zcq (zf0 (zdv (zbn zm0 (hr.mono (by decide)) rfl zdr.hm zdr.fn.kp zdr.b .nil zbm (zad (pv 1) (zad zaw zar)))))
       (zas (zed (W:=fun _=>False) zdc rfl rfl (zad zb6 zar) (fun _ _ _ _ _ _ _ _ _ hw=>hw.elim)))
       zbo)
      (zaq (zcq (zf0 (zdv (zbn zm0 (hr.mono (by decide)) rfl zdr.hm zdr.fn.kp zdr.b .nil zbm (zad (pv 2) (zad zaw zar)))))
       (zas (zed (W:=fun _=>False) zdc rfl rfl (zad zb6 zar) (fun _ _ _ _ _ _ _ _ _ hw=>hw.elim)))
       zbo)
      (zaq (zf3 (pv 0) (pv 1) rfl)
      (zaq (zf3 (pv 0) (pv 2) rfl)
      (zaq (zf3 (pv 0) zgo rfl)
      (zas (zf3 (pv 0) zgo rfl))))))),?_⟩
    walk_at "w"
    rw [e1]
    walk_at "w"
    rw [e2]
    walk_at "w"
    intro td htd
    have ntw:td≠w:=(zap zam htd).symm
    have htd0:H td=none:=by rw [zal ntw,zal ntw] at htd; exact htd
    walk_at "w"
    intro sd hsd
    have nsw:sd≠w:=fun e=>by rw [e,zam] at hsd; cases hsd
    have nst:td≠sd:=fun e=>by rw [← e,zal ntw,zam] at hsd; cases hsd
    have hsd0:H sd=none:=by rw [zal nsw,zal nst.symm,zal nsw,zal nsw] at hsd; exact hsd
    walk_at "w"
    refine k td sd _ (fun _=>⟨0,0,fun _=>0,fun _=>0,fun _=>[]⟩) ⟨⟨dx,?_⟩,?_,?_,fun h hh=>(nomatch hh),List.nodup_nil,fun h hh=>(nomatch hh),hz1,hz2,hr1,hr2,by decide,nst⟩ htd0 hsd0 nst fun c o e hc=>?_
    · rw [zam,zx5]
    · rw [zal ntw,zal nst,zal ntw,zam]
      rfl
    · rw [zal nsw,zam]
      rfl
    · rw [zal hc,zal (zap e hsd0),zal hc,zal (zap e htd0),zal hc,zal hc]
      exact e
end
theorem zey.keepD {CB CT t bl:Addr} {own z r:Int} {n:Nat} {bA lA:Nat→Addr} {ns:Nat→List Int} {H H':Hp} (T:zey CB CT H t bl own z r n bA lA ns) (s:∀ q o,(∀ ps,o≠ .tbl ps)→(∀ d,o≠ .dK d)→H q=some o→H' q=some o):zey CB CT H' t bl own z r n bA lA ns:=by
 obtain ⟨⟨dx,h1⟩,h2,h3,h4,h5,h6⟩:=T
 refine ⟨⟨dx,s _ _ (fun _ z=>nomatch z) (fun _ z=>nomatch z) h1⟩,s _ _ (fun _ z=>nomatch z) (fun _ z=>nomatch z) h2,fun k hk=>?_,h4,h5,h6⟩
 obtain ⟨⟨dx,b1⟩,b2⟩:=h3 k hk
 exact ⟨⟨dx,s _ _ (fun _ z=>nomatch z) (fun _ z=>nomatch z) b1⟩,s _ _ (fun _ z=>nomatch z) (fun _ z=>nomatch z) b2⟩
section
variable {P:Program} {w:World} {K:PySem.W.Frag} {mg:Str→Option Value} {base:Heap}
def zsk:Sp:=fun vs H Q _=>∃ a b c:V,vs=[a,b,c]∧Q .non H
theorem zjo:za3 ["self","house","visited"] ["self","house","visited"] (zai (zaa (top 31) 19)):=⟨rfl,rfl,rfl,by decide +kernel,rfl,by decide +kernel,by decide +kernel⟩
theorem zj0 {CW:Addr} (D:DfM K CW "settles" "Town.settles" (zaa (top 31) 19) ["self","house","visited"]):zbe P w K mg base CX0 1 D.f D.fd ["self","house","visited"] zsk:=by
 refine D.fn.ok zjo (fun vs H Q E h=>?_) (fun cdv A outer s H vs Q E hr h=>?_)
 ·obtain ⟨a,b,c,rfl,_⟩:=h
  rfl
 ·obtain ⟨a,b,c,rfl,k⟩:=h
  exact ⟨_,(zas zvw),k⟩
theorem zh7:za3 ["self"] ["self"] (zai (zaa (top 31) 2)):=⟨rfl,rfl,rfl,by decide +kernel,rfl,by decide +kernel,by decide +kernel⟩
def zoc (CB CT CW:Addr):Sp:=fun vs H Q _=>∃ (w td sd:Addr) (z r:Int) (hs sil:List Int) (T:Int→zdz),vs=[.ref w]∧za9 CB CT CW H w td sd z r hs sil T∧∀ (l:Addr) (H':Hp),zbf H H'→H l=none→H' l=some (.lst (((zb_ hs).filter fun h=> !decide (h∈sil)).map V.int))→Q (.ref l) H'
theorem zib (T:Txt mg) {CB CT:Addr} (zah:Df K mg "is_whole" (top 11) ["thing"]) (zan:Df K mg "is_name" (top 12) ["thing","wide"]) (zab:DfC K mg "Town" ["wide","room","tables","silent"]) (zae:DfM K zab.C "is_house" "Town.is_house" (zaa (top 31) 4) ["self","thing"]) (zag:DfM K zab.C "answers" "Town.answers" (zaa (top 31) 3) ["self","name"]) (zbr:DfM K zab.C "houses" "Town.houses" (zaa (top 31) 1) ["self"]) (zbz:DfM K zab.C "answering" "Town.answering" (zaa (top 31) 2) ["self"]):zbe P w K mg base CX0 5 zbz.f zbz.fd ["self"] (zoc CB CT zab.C):=by
 have hcl:=zab.cl
 have zfz:zbe P w K mg base CX0 1 _ _ _ _:=zgv (CB:=CB) (CT:=CT) T zab zbr
 have zb2:zbe P w K mg base CX0 4 _ _ _ _:=zcy (CB:=CB) (CT:=CT) T zah zan zab zae zag
 refine zbz.fn.ok zh7 (fun vs H Q E h=>?_) (fun cdv A outer s H vs Q E hr h=>?_)
 ·obtain ⟨w,td,sd,z,r,hs,sil,TT,rfl,_⟩:=h
  rfl
 ·obtain ⟨w,td,sd,z,r,hs,sil,TT,rfl,hW,k⟩:=h
  obtain ⟨⟨dx,hob⟩,htb,hsi,-⟩:=id hW
  have hln:=hW.ln
  refine ⟨_,(zas (zbh (zlq rfl (zdn (own:=["house"]) (caps:=[0]) (N':=["house","self"]) (by kernel_rfl)) (zee (zfu (pv 0) zab.cl zbr.me zfz (hr.mono (by decide)) zbr.b .nil zbm)) (fun _ _ _ _ _=>(zcw (i:=0) (show (["house","self"]:List Str).Nodup by decide +kernel) rfl (Or.inl rfl))) (fun _ _ _ _ _=>(zh9 (zdv (zb7 (pv 1) zab.cl zag.me zb2 (hr.mono (by decide)) zag.b .nil zbm (zad (pv 0) zar))))) (fun _ _ _ _ _=>(pv 0))))),?_⟩
  walk_at "w"
  intro l hl
  walk_at "w"
  intro D hD
  have s1:zbf H (upd H l (.lst ((zb_ hs).map V.int))):=zbf.new H hl
  have hl1:upd H l (.lst ((zb_ hs).map V.int)) l=some (.lst ((zb_ hs).map V.int)):=zam
  generalize upd H l (.lst ((zb_ hs).map V.int))=H1 at s1 hl1 hD ⊢
  refine zel (fun h=> !decide (h∈sil)) hD (SqL.of hl1) (by rw [zd2]; omega) (fun x hx H2 Qt s2 q=>?_) fun H2 s2 hD2=>?_
  ·have hx':x∈hs:=(zdu hs).subset hx
   have hW2:za9 CB CT zab.C H2 w td sd z r hs sil TT:=hW.keep fun q o _ e=>s2 _ _ (s1 _ _ e)
   obtain ⟨⟨dx2,hob2⟩,-⟩:=id hW2
   have hn:zdj z x=true:=zgq (hW.hb x hx').1 (hW.hb x hx').2 hW.z1
   walk_at "w"
   refine .inl ⟨x,rfl,?_⟩
   rw [hn,decide_eq_true hx',Bool.true_and,Bool.true_and]
   walk_at "w"
   exact q H2 (zbf.refl H2)
  ·exact k D H2 (s1.trans s2) (s1.free hD) hD2
end
theorem Tab.hold {T1:Addr} {po:Pos} {qu:Str} {H H':Hp} (t:Tab H T1 po qu) (s:∀ q o,((∃ x k,o = .frz x k)∨q=T1)→H q=some o→H' q=some o):Tab H' T1 po qu:=by
 obtain ⟨ps,h1,h2,z⟩:=t
 refine ⟨ps,s _ _ (.inr rfl) h1,h2,?_⟩
 rcases z with z | ⟨c',oc,k,z1,z2,z3⟩
 ·exact .inl z
 ·exact .inr ⟨c',oc,k,z1,s _ _ (.inl ⟨_,_,rfl⟩) z2,z3⟩
def zgt (r:Int) (aw:Int→Bool) (ns:List Int) (n:Int):List Int :=
 if n∈ns then ns.erase n++[n] else if (ns.length:Int)<r then ns++[n] else match ns with | []=>[] | x :: t=>t++[if aw x then x else n]
def zqs {α:Type} (N:Int→α) (h:Int) (x:α):Int→α:=fun g=>if g=h then x else N g
theorem zb4 {α:Type} {N:Int→α} {h:Int} {x:α}:zqs N h x h=x:=if_pos rfl
theorem zco {α:Type} {N:Int→α} {h g:Int} {x:α} (e:g≠h):zqs N h x g=N g:=if_neg e
def zke (r:Int) (aw:Int→Bool) (N:Int→Nat→List Int) (h n:Int):Int→Nat→List Int:=zqs N h (zj4 (N h) (zcn h n) (zgt r aw (N h (zcn h n)) n))
def zp8 (r:Int) (aw:Int→Bool) (N:Int→Nat→List Int) (a b:Int):Int→Nat→List Int:=zke r aw (zke r aw N a b) b a
def zdb (r:Int) (aw:Int→Bool) (N:Int→Nat→List Int) (a:Int):List Int→Int→Nat→List Int
 | []=>N
 | b :: t=>zdb r aw (zp8 r aw N a b) a t
theorem zgk {r:Int} {aw:Int→Bool} {a b:Int}:∀ {l:List Int} {N:Int→Nat→List Int},zdb r aw N a (l++[b])=zp8 r aw (zdb r aw N a l) a b
 | [],_=>rfl
 | _ :: t,_=>zgk (l:=t)
theorem zrk {r:Int} {aw:Int→Bool} {ns:List Int} {n m:Int} (h:m∈zgt r aw ns n):m∈ns∨m=n:=by
 unfold zgt at h
 split at h
 ·rcases List.mem_append.mp h with h | h
  ·exact .inl (List.mem_of_mem_erase h)
  ·exact .inr (List.mem_singleton.mp h)
 ·split at h
  ·rcases List.mem_append.mp h with h | h
   ·exact .inl h
   ·exact .inr (List.mem_singleton.mp h)
  ·split at h
   ·cases h
   ·rename_i x t _ _
    rcases List.mem_append.mp h with h | h
    ·exact .inl (List.mem_cons_of_mem _ h)
    ·have e:=List.mem_singleton.mp h
     split at e
     ·exact .inl (e ▸ List.mem_cons_self ..)
     ·exact .inr e
theorem zdg {l:List Int} {x:Int} (h:l.Nodup) (hx:x∉l):(l++[x]).Nodup:=List.nodup_append.mpr ⟨h,by simp,fun a ha b hb e=>hx (by rw [← List.mem_singleton.mp hb,← e]; exact ha)⟩
theorem zor {r:Int} {aw:Int→Bool} {ns:List Int} {n:Int} (h:ns.Nodup):(zgt r aw ns n).Nodup:=by
 unfold zgt
 split
 ·exact zdg (h.erase n) (List.Nodup.not_mem_erase h)
 ·rename_i hn
  split
  ·exact zdg h hn
  ·split
   ·exact List.nodup_nil
   ·obtain ⟨h1,h2⟩:=List.nodup_cons.mp h
    split
    ·exact zdg h2 h1
    ·exact zdg h2 fun z=>hn (List.mem_cons_of_mem _ z)
theorem zq6 {r:Int} {aw:Int→Bool} {ns:List Int} {n:Int} (hr:1≤r) (h:(ns.length:Int)≤r):((zgt r aw ns n).length:Int)≤r:=by
 unfold zgt
 split
 ·rename_i hn
  have:=List.length_erase_of_mem hn
  have:=List.length_pos_of_mem hn
  rw [List.length_append,List.length_singleton]
  omega
 ·split
  ·rw [List.length_append,List.length_singleton]
   omega
  ·split
   ·simp only [List.length_nil]
    omega
   ·rw [List.length_append,List.length_singleton]
    rw [List.length_cons] at h
    exact h
structure NOk (pool:List Int) (z:Nat) (r:Int) (hs:List Int) (N:Int→Nat→List Int):Prop where
 nd:∀ h∈hs,∀ k,(N h k).Nodup
 le:∀ h∈hs,∀ k,((N h k).length:Int)≤r
 st:∀ h∈hs,∀ k,∀ m∈N h k,m∈pool∧m≠h∧zcn h m=k
theorem NOk.hear {pool:List Int} {z:Nat} {r:Int} {hs:List Int} {N:Int→Nat→List Int} (O:NOk pool z r hs N) (hr:1≤r) {aw:Int→Bool} {a b:Int} (hb:b∈pool) (hne:b≠a):NOk pool z r hs (zke r aw N a b):=by
 unfold zke
 refine ⟨fun h hh k=>?_,fun h hh k=>?_,fun h hh k m hm=>?_⟩
 ·by_cases e:h=a
  ·subst e
   rw [zb4]
   by_cases e2:k=zcn h b
   ·subst e2
    rw [zb5]
    exact zor (O.nd h hh _)
   ·rw [zca e2]
    exact O.nd h hh _
  ·rw [zco e]
   exact O.nd h hh _
 ·by_cases e:h=a
  ·subst e
   rw [zb4]
   by_cases e2:k=zcn h b
   ·subst e2
    rw [zb5]
    exact zq6 hr (O.le h hh _)
   ·rw [zca e2]
    exact O.le h hh _
  ·rw [zco e]
   exact O.le h hh _
 ·by_cases e:h=a
  ·subst e
   rw [zb4] at hm
   by_cases e2:k=zcn h b
   ·subst e2
    rw [zb5] at hm
    rcases zrk hm with y | rfl
    ·exact O.st h hh _ m y
    ·exact ⟨hb,hne,rfl⟩
   ·rw [zca e2] at hm
    exact O.st h hh _ m hm
  ·rw [zco e] at hm
   exact O.st h hh _ m hm
theorem NOk.meet {pool:List Int} {z:Nat} {r:Int} {hs:List Int} {N:Int→Nat→List Int} (O:NOk pool z r hs N) (hr:1≤r) {aw:Int→Bool} {a b:Int} (ha:a∈pool) (hb:b∈pool) (hne:b≠a):NOk pool z r hs (zp8 r aw N a b):=(O.hear hr hb hne).hear hr ha hne.symm
theorem zi0 {ns:Nat→List Int} {m:Int}:∀ {n:Nat},m∈zf9 ns n↔∃ k,k<n∧m∈ns k
  | 0=>⟨fun h=>(nomatch h),fun ⟨k,h,_⟩=>absurd h (Nat.not_lt_zero k)⟩
  | n+1=>by
    rw [zgi,List.mem_append,zi0 (n:=n)]
    constructor
    · rintro (⟨k,h1,h2⟩ | h)
      · exact ⟨k,Nat.lt_succ_of_lt h1,h2⟩
      · exact ⟨n,Nat.lt_succ_self n,h⟩
    · rintro ⟨k,h1,h2⟩
      by_cases e:k=n
      · subst e
        exact .inr h2
      · exact .inl ⟨k,by omega,h2⟩
theorem zkp {ns:Nat→List Int} {st:Int→Nat} (h1:∀ k,(ns k).Nodup) (h2:∀ k,∀ m∈ns k,st m=k):∀ {n:Nat},(zf9 ns n).Nodup
  | 0=>List.nodup_nil
  | n+1=>by
    rw [zgi]
    refine List.nodup_append.mpr ⟨zkp h1 h2,h1 n,fun a ha b hb e=>?_⟩
    subst e
    obtain ⟨k,hk,hm⟩:=zi0.mp ha
    have:=h2 k a hm
    have:=h2 n a hb
    omega
theorem NOk.cat {pool:List Int} {z:Nat} {r:Int} {hs:List Int} {N:Int→Nat→List Int} (O:NOk pool z r hs N) {h:Int} (hh:h∈hs) (n:Nat):(zf9 (N h) n).Nodup:=zkp (st:=zcn h) (O.nd h hh) fun k m hm=>(O.st h hh k m hm).2.2
theorem zct:∀ {a b:List Int},a.Nodup→(∀ x∈a,x∈b)→a.length≤b.length
  | [],_,_,_=>Nat.zero_le _
  | x :: a,b,h,s=>by
    obtain ⟨h1,h2⟩:=List.nodup_cons.mp h
    have hx:=s x (List.mem_cons_self ..)
    have:=zct (b:=b.erase x) h2 fun y hy=>(List.mem_erase_of_ne (fun (e:y=x)=>h1 (by rw [← e]; exact hy))).mpr (s y (List.mem_cons_of_mem _ hy))
    have e:=List.length_erase_of_mem hx
    have:=List.length_pos_of_mem hx
    rw [List.length_cons]
    omega
theorem NOk.len {pool:List Int} {z:Nat} {r:Int} {hs:List Int} {N:Int→Nat→List Int} (O:NOk pool z r hs N) {h:Int} (hh:h∈hs) (n:Nat):(zf9 (N h) n).length≤pool.length :=
 zct (O.cat hh n) fun x hx=>by
  obtain ⟨k,_,hm⟩:=zi0.mp hx
  exact (O.st h hh k x hm).1
theorem zpk {a b:List Int} (p:a.Perm b):zb_ a=zb_ b:=zlh ((zdu a).trans p) (zil a)
theorem zr1 {a b:List Int} (ha:a.Nodup) (hb:b.Nodup) (h:∀ x,x∈a↔x∈b):a.Perm b:=(List.perm_ext_iff_of_nodup ha hb).mpr h
inductive Rch (E:Int→Int→Prop) (d:Int):Int→Prop where
 | own:Rch E d d
 | go {a b:Int}:Rch E d a→E a b→Rch E d b
theorem Rch.of_closed {E:Int→Int→Prop} {d:Int} {ks:List Int} (hd:d∈ks) (hc:∀ a∈ks,∀ b,E a b→b∈ks) {x:Int} (h:Rch E d x):x∈ks:=by
 induction h with
 | own=>exact hd
 | go _ e ih=>exact hc _ ih _ e
def zop (z:Nat) (aw:Int→Bool) (N:Int→Nat→List Int) (a b:Int):Prop:=b∈zf9 (N a) z∧aw b=true
def zfs (aw:Int→Bool) (f:List Int) (xs:List Int):List Int:=xs.foldl (fun f o=>if aw o && !decide (o∈f) then f++[o] else f) f
theorem zp7 {aw:Int→Bool} {f xs:List Int} {o:Int}:zfs aw f (xs++[o])=if aw o && !decide (o∈zfs aw f xs) then zfs aw f xs++[o] else zfs aw f xs:=by
 unfold zfs
 rw [List.foldl_append]
 rfl
structure zf7 (R:Int→Prop) (f g:List Int):Prop where
 sub:∀ x∈f,x∈g
 nd:g.Nodup
 re:∀ x∈g,R x
 le:f=g∨f.length<g.length
theorem zf7.refl {R:Int→Prop} {f:List Int} (h1:f.Nodup) (h2:∀ x∈f,R x):zf7 R f f:=⟨fun _ h=>h,h1,h2,.inl rfl⟩
theorem zf7.trans {R:Int→Prop} {f g h:List Int} (a:zf7 R f g) (b:zf7 R g h):zf7 R f h :=
 ⟨fun x hx=>b.sub x (a.sub x hx),b.nd,b.re,by
  rcases a.le with rfl | a1
  ·exact b.le
  ·rcases b.le with rfl | b1
   ·exact .inr a1
   ·exact .inr (Nat.lt_trans a1 b1)⟩
theorem zf7.snoc {R:Int→Prop} {f:List Int} {o:Int} (h1:f.Nodup) (h2:∀ x∈f,R x) (ho:o∉f) (hR:R o):zf7 R f (f++[o]) :=
 ⟨fun x hx=>List.mem_append_left _ hx,zdg h1 ho,fun x hx=>(List.mem_append.mp hx).elim (h2 x) fun z=>List.mem_singleton.mp z ▸ hR,.inr (by rw [List.length_append,List.length_singleton]; omega)⟩
theorem zg1 {R:Int→Prop} {aw:Int→Bool}:∀ {xs f:List Int},f.Nodup→(∀ x∈f,R x)→(∀ x∈xs,aw x=true→R x)→zf7 R f (zfs aw f xs)∧∀ x∈xs,aw x=true→x∈zfs aw f xs
  | [],f,h1,h2,_=>⟨zf7.refl h1 h2,fun x hx=>(nomatch hx)⟩
  | o :: xs,f,h1,h2,h3=>by
    show zf7 R f (zfs aw (if aw o && !decide (o∈f) then f++[o] else f) xs)∧∀ x∈o :: xs,aw x=true→x∈zfs aw (if aw o && !decide (o∈f) then f++[o] else f) xs
    have g1:zf7 R f (if aw o && !decide (o∈f) then f++[o] else f):=by
      split
      · rename_i e
        simp only [Bool.and_eq_true,Bool.not_eq_true',decide_eq_false_iff_not] at e
        exact zf7.snoc h1 h2 e.2 (h3 o (List.mem_cons_self ..) e.1)
      · exact zf7.refl h1 h2
    have ho:aw o=true→o∈(if aw o && !decide (o∈f) then f++[o] else f):=fun e=>by
      by_cases m:o∈f
      · exact g1.sub o m
      · rw [if_pos (by simp [e,m])]
        exact List.mem_append_right _ (List.mem_singleton.mpr rfl)
    obtain ⟨g2,i2⟩:=zg1 g1.nd g1.re fun x hx=>h3 x (List.mem_cons_of_mem _ hx)
    refine ⟨g1.trans g2,fun x hx hax=>?_⟩
    rcases List.mem_cons.mp hx with rfl | hx
    · exact g2.sub _ (ho hax)
    · exact i2 x hx hax
def zf8 (aw:Int→Bool) (kp:Int→List Int) (f:List Int) (xs:List Int):List Int:=xs.foldl (fun f h=>zfs aw f (kp h)) f
theorem zqh {aw:Int→Bool} {kp:Int→List Int} {f xs:List Int} {o:Int}:zf8 aw kp f (xs++[o])=zfs aw (zf8 aw kp f xs) (kp o):=by
 unfold zf8
 rw [List.foldl_append]
 rfl
theorem ze9 {R:Int→Prop} {aw:Int→Bool} {kp:Int→List Int} (hR:∀ a,R a→∀ x∈kp a,aw x=true→R x):∀ {xs f:List Int},f.Nodup→(∀ x∈f,R x)→(∀ x∈xs,R x)→zf7 R f (zf8 aw kp f xs)∧∀ a∈xs,∀ x∈kp a,aw x=true→x∈zf8 aw kp f xs
  | [],f,h1,h2,_=>⟨zf7.refl h1 h2,fun x hx=>(nomatch hx)⟩
  | o :: xs,f,h1,h2,h3=>by
    show zf7 R f (zf8 aw kp (zfs aw f (kp o)) xs)∧∀ a∈o :: xs,∀ x∈kp a,aw x=true→x∈zf8 aw kp (zfs aw f (kp o)) xs
    obtain ⟨g1,i1⟩:=zg1 h1 h2 (hR o (h3 o (List.mem_cons_self ..)))
    obtain ⟨g2,i2⟩:=ze9 hR g1.nd g1.re fun x hx=>h3 x (List.mem_cons_of_mem _ hx)
    refine ⟨g1.trans g2,fun a ha x hx hax=>?_⟩
    rcases List.mem_cons.mp ha with rfl | ha
    · exact g2.sub _ (i1 x hx hax)
    · exact i2 a ha x hx hax
def zbx (aw:Int→Bool) (kp:Int→List Int) (d:Int):Nat→List Int
 | 0=>[d]
 | n+1=>zf8 aw kp (zbx aw kp d n) (zbx aw kp d n)
theorem zhq {R:Int→Prop} {aw:Int→Bool} {kp:Int→List Int} {d:Int} (hd:R d) (hR:∀ a,R a→∀ x∈kp a,aw x=true→R x):∀ n,(zbx aw kp d n).Nodup∧(∀ x∈zbx aw kp d n,R x)∧d∈zbx aw kp d n
  | 0=>⟨by simp [zbx],fun x hx=>List.mem_singleton.mp hx ▸ hd,List.mem_singleton.mpr rfl⟩
  | n+1=>by
    obtain ⟨h1,h2,h3⟩:=zhq hd hR n
    obtain ⟨g,_⟩:=ze9 hR h1 h2 h2
    exact ⟨g.nd,g.re,g.sub _ h3⟩
theorem zmd {R:Int→Prop} {aw:Int→Bool} {kp:Int→List Int} {d:Int} (hd:R d) (hR:∀ a,R a→∀ x∈kp a,aw x=true→R x):∀ n,(∀ a∈zbx aw kp d n,∀ x∈kp a,aw x=true→x∈zbx aw kp d n)∨n+1≤(zbx aw kp d n).length
  | 0=> .inr (Nat.le_refl _)
  | n+1=>by
    obtain ⟨h1,h2,_⟩:=zhq hd hR n
    obtain ⟨g,i⟩:=ze9 hR h1 h2 h2
    rcases g.le with e | e
    · exact .inl fun a ha x hx hax=>by
        rw [show zbx aw kp d (n+1)=zbx aw kp d n from e.symm] at ha
        exact i a ha x hx hax
    · rcases zmd hd hR n with c | c
      · have h:∀ x∈zf8 aw kp (zbx aw kp d n) (zbx aw kp d n),x∈zbx aw kp d n:=by
          have hR':∀ a,a∈zbx aw kp d n→∀ x∈kp a,aw x=true→x∈zbx aw kp d n:=c
          exact (ze9 (R:=fun x=>x∈zbx aw kp d n) hR' h1 (fun _ h=>h) (fun _ h=>h)).1.re
        have:=zct g.nd h
        omega
      · exact .inr (Nat.lt_of_le_of_lt c e)
theorem zry {z:Nat} {aw:Int→Bool} {N:Int→Nat→List Int} {kp:Int→List Int} {hs:List Int} {d:Int} (hk:∀ a∈hs,(kp a).Perm (zf9 (N a) z)) (haw:∀ x,aw x=true→x∈hs) (hd:d∈hs) :
  (zbx aw kp d hs.length).Nodup∧∀ x,x∈zbx aw kp d hs.length↔Rch (zop z aw N) d x:=by
 have hRs:∀ x,Rch (zop z aw N) d x→x∈hs:=fun x h=>by
  cases h with
  | own=>exact hd
  | go _ e=>exact haw _ e.2
 have hR:∀ a,Rch (zop z aw N) d a→∀ x∈kp a,aw x=true→Rch (zop z aw N) d x:=fun a ha x hx hax=> .go ha ⟨(hk a (hRs a ha)).subset hx,hax⟩
 obtain ⟨h1,h2,h3⟩:=zhq (R:=Rch (zop z aw N) d) (aw:=aw) (kp:=kp) .own hR hs.length
 refine ⟨h1,fun x=>⟨h2 x,fun h=>?_⟩⟩
 have hc:∀ a∈zbx aw kp d hs.length,∀ x∈kp a,aw x=true→x∈zbx aw kp d hs.length:=by
  rcases zmd (R:=Rch (zop z aw N) d) (aw:=aw) (kp:=kp) .own hR hs.length with c | c
  ·exact c
  ·have:=zct h1 fun x hx=>hRs x (h2 x hx)
   omega
 exact Rch.of_closed h3 (fun a ha b e=>hc a ha b ((hk a (hRs a (h2 a ha))).symm.subset e.1) e.2) h
theorem zge {l:List Int} {j:Nat} {x:Int} (h:l[j]? = some x):l.take (j+1)=l.take j++[x]:=by
 obtain ⟨h1,h2⟩:=List.getElem?_eq_some_iff.mp h
 rw [List.take_succ_eq_append_getElem h1,h2]
theorem zna {m k:Nat} (hm:m≠0):(1:Int)<((m:Nat):Int) / 2 ^ k↔k<m.log2:=by
 have e:((m:Nat):Int) / 2 ^ k=((m / 2 ^ k:Nat):Int):=by simp
 have h2:0<2 ^ k:=Nat.two_pow_pos k
 rw [e]
 have a:(1:Int)<((m / 2 ^ k:Nat):Int)↔2≤m / 2 ^ k:=by omega
 rw [a,Nat.le_div_iff_mul_le h2,show k<m.log2↔k+1≤m.log2 from Iff.rfl,Nat.le_log2 hm,Nat.pow_succ,Nat.mul_comm]
theorem zmn {l:List Int} {n:Int} (h:l.Nodup):l.filter (fun y=> !decide (y=n))=l.erase n:=by
 rw [h.erase_eq_filter]
 exact List.filter_congr fun x _=>by
  by_cases e:x=n <;> simp [e]
def zho (ns:Nat→List Int) (ks:List Nat):List Int:=(ks.map ns).flatten
theorem zkm {ns:Nat→List Int} {ks:List Nat} {k:Nat}:zho ns (ks++[k])=zho ns ks++ns k:=by
 unfold zho
 rw [List.map_append,List.flatten_append]
 simp
theorem zi5 {ns:Nat→List Int} {ks:List Nat} {m:Int}:m∈zho ns ks↔∃ k∈ks,m∈ns k:=by
 unfold zho
 rw [List.mem_flatten]
 constructor
 ·rintro ⟨l,hl,hm⟩
  obtain ⟨k,hk,rfl⟩:=List.mem_map.mp hl
  exact ⟨k,hk,hm⟩
 ·rintro ⟨k,hk,hm⟩
  exact ⟨_,List.mem_map.mpr ⟨k,hk,rfl⟩,hm⟩
theorem zg4 {ns:Nat→List Int} {st:Int→Nat} (h1:∀ k,(ns k).Nodup) (h2:∀ k,∀ m∈ns k,st m=k):∀ {ks:List Nat},ks.Nodup→(zho ns ks).Nodup
  | [],_=>List.nodup_nil
  | k :: ks,h=>by
    obtain ⟨a,b⟩:=List.nodup_cons.mp h
    show (ns k++zho ns ks).Nodup
    refine List.nodup_append.mpr ⟨h1 k,zg4 h1 h2 b,fun x hx y hy e=>?_⟩
    subst e
    obtain ⟨j,hj,hm⟩:=zi5.mp hy
    have e1:=h2 k x hx
    have e2:=h2 j x hm
    exact a (e1.symm.trans e2 ▸ hj)
theorem zpu {pool:List Int} {z:Nat} {r:Int} {hs:List Int} {N:Int→Nat→List Int} (O:NOk pool z r hs N) {h:Int} (hh:h∈hs) {ks:List Nat} (hk:ks.Nodup) (kl:∀ k∈ks,k<z) (no:∀ k,k∉ks→N h k=[]):(zho (N h) ks).Perm (zf9 (N h) z):=by
 refine zr1 (zg4 (st:=zcn h) (O.nd h hh) (fun k m hm=>(O.st h hh k m hm).2.2) hk) (O.cat hh z) fun x=>?_
 rw [zi5,zi0]
 constructor
 ·rintro ⟨k,a,b⟩
  exact ⟨k,kl k a,b⟩
 ·rintro ⟨k,a,b⟩
  by_cases e:k∈ks
  ·exact ⟨k,e,b⟩
  ·rw [no k e] at b
   cases b
theorem zp3 {l:List Nat} {j:Nat} {x:Nat} (h:l[j]? = some x):l.take (j+1)=l.take j++[x]:=by
 obtain ⟨h1,h2⟩:=List.getElem?_eq_some_iff.mp h
 rw [List.take_succ_eq_append_getElem h1,h2]
structure zfr (z:Nat) (hs:List Int) (T:Int→zdz):Prop where
 b:∀ h∈hs,∀ g∈hs,h≠g→∀ i j,i<z→j<z→(T h).bA i≠(T g).bA j
 l:∀ h∈hs,∀ g∈hs,h≠g→∀ i j,i<z→j<z→(T h).lA i≠(T g).lA j
 n:∀ h∈hs,∀ g∈hs,h≠g→∀ j,j<z→(T h).bl≠(T g).lA j
def zm5 (T:Int→zdz) (h:Int) (k:Nat) (l':Addr) (xs:List Int):Int→zdz:=zqs T h ⟨(T h).t,(T h).bl,(T h).bA,zj4 (T h).lA k l',zj4 (T h).ns k xs⟩
def Own (td sd:Addr) (z:Nat) (hs:List Int) (T:Int→zdz) (q:Addr):Prop:=q=td∨q=sd∨∃ h∈hs,q=(T h).bl∨∃ k,k<z∧(q=(T h).bA k∨q=(T h).lA k)
structure zgx (T1:Addr) (H H':Hp) (O O':Addr→Prop):Prop where
 k:∀ q o,(∀ ps,o≠ .tbl ps)→H q=some o→¬ O q→H' q=some o
 o:∀ q,O' q→O q∨H q=none
 e:∀ q,H' q=none→H q=none
 t:∀ q ps,H q=some (.tbl ps)→q≠T1→H' q=some (.tbl ps)
theorem zgx.refl {T1:Addr} (H:Hp) (O:Addr→Prop):zgx T1 H H O O:=⟨fun _ _ _ e _=>e,fun _ h=> .inl h,fun _ h=>h,fun _ _ e _=>e⟩
theorem zgx.same {T1:Addr} {H H':Hp} {O:Addr→Prop} (s:zbf H H'):zgx T1 H H' O O:=⟨fun _ _ _ e _=>s _ _ e,fun _ h=> .inl h,fun q h=>s.free h,fun _ _ e _=>s _ _ e⟩
theorem zgx.trans {T1:Addr} {H H1 H2:Hp} {O O1 O2:Addr→Prop} (a:zgx T1 H H1 O O1) (b:zgx T1 H1 H2 O1 O2):zgx T1 H H2 O O2:=by
 refine ⟨fun q o ho e hn=>b.k q o ho (a.k q o ho e hn) fun z=>?_,fun q z=>?_,fun q h=>a.e q (b.e q h),fun q ps e hq=>b.t q ps (a.t q ps e hq) hq⟩
 ·rcases a.o q z with y | y
  ·exact hn y
  ·rw [e] at y
   cases y
 ·rcases b.o q z with y | y
  ·exact a.o q y
  ·exact .inr (a.e q y)
theorem zey.only {CB CT t bl:Addr} {own z r:Int} {n:Nat} {bA lA:Nat→Addr} {ns:Nat→List Int} {H H':Hp} (T:zey CB CT H t bl own z r n bA lA ns) (s1:∀ o,H t=some o→H' t=some o) (s2:∀ o,H bl=some o→H' bl=some o)
  (s3:∀ k,k<n→∀ o,H (bA k)=some o→H' (bA k)=some o) (s4:∀ k,k<n→∀ o,H (lA k)=some o→H' (lA k)=some o):zey CB CT H' t bl own z r n bA lA ns:=by
 obtain ⟨⟨dx,h1⟩,h2,h3,h4,h5,h6⟩:=T
 refine ⟨⟨dx,s1 _ h1⟩,s2 _ h2,fun k hk=>?_,h4,h5,h6⟩
 obtain ⟨⟨dx,b1⟩,b2⟩:=h3 k hk
 exact ⟨⟨dx,s3 k hk _ b1⟩,s4 k hk _ b2⟩
theorem zu2 {C C' dx dx':Addr} {f g:List (Str × V)} {H:Hp} {p q:Addr} (h1:H p=some (.ins C dx f)) (h2:H q=some (.ins C' dx' g)) (hl:f.length≠g.length):p≠q:=fun e=>by
 rw [e,h2] at h1
 have:=Option.some.inj h1
 injection this with _ _ h3
 exact hl (congrArg List.length h3.symm)
theorem zvs {T:Int→zdz} {h:Int} {k:Nat} {l':Addr} {xs:List Int}:(fun g=>(zm5 T h k l' xs g).ns)=zqs (fun g=>(T g).ns) h (zj4 (T h).ns k xs):=by
 funext g
 unfold zm5
 by_cases e:g=h
 ·subst e
  rw [zb4,zb4]
 ·rw [zco e,zco e]
theorem zxb {T:Int→zdz} {h g:Int} {k:Nat} {l':Addr} {xs:List Int}:(zm5 T h k l' xs g).t=(T g).t:=by
 unfold zm5
 by_cases e:g=h
 ·subst e
  rw [zb4]
 ·rw [zco e]
theorem zq8 {T:Int→zdz} {h g:Int} {k:Nat} {l':Addr} {xs:List Int}:(zm5 T h k l' xs g).bl=(T g).bl:=by
 unfold zm5
 by_cases e:g=h
 ·subst e
  rw [zb4]
 ·rw [zco e]
theorem zok {T:Int→zdz} {h g:Int} {k:Nat} {l':Addr} {xs:List Int}:(zm5 T h k l' xs g).bA=(T g).bA:=by
 unfold zm5
 by_cases e:g=h
 ·subst e
  rw [zb4]
 ·rw [zco e]
theorem zk_ {T:Int→zdz} {h g:Int} {k j:Nat} {l':Addr} {xs:List Int}:(g=h∧j=k∧(zm5 T h k l' xs g).lA j=l')∨(¬ (g=h∧j=k)∧(zm5 T h k l' xs g).lA j=(T g).lA j):=by
 unfold zm5
 by_cases e:g=h
 ·subst e
  rw [zb4]
  by_cases e2:j=k
  ·subst e2
   exact .inl ⟨rfl,rfl,zb5⟩
  ·exact .inr ⟨fun z=>e2 z.2,zca e2⟩
 ·rw [zco e]
  exact .inr ⟨fun z=>e z.1,rfl⟩
theorem zqe {hs:List Int} {T:Int→zdz} {h:Int} {k:Nat} {l':Addr} {xs:List Int}:zdx hs (zm5 T h k l' xs)=zdx hs T:=by
 unfold zdx
 exact List.map_congr_left fun g _=>by rw [zxb]
section
variable {CB CT CW w td sd:Addr} {H H':Hp} {z r:Int} {hs sil:List Int} {T:Int→zdz}
theorem za9.turn {T1:Addr} (W:za9 CB CT CW H w td sd z r hs sil T) (A:zfr z.toNat hs T) {h:Int} (hh:h∈hs) {k:Nat} (hk:k<z.toNat) {l':Addr} {xs:List Int} (hB:zeu CB H' ((T h).bA k) l' r xs) (hl:l'=(T h).lA k∨H l'=none)
  (fr:∀ q o,(∀ ps,o≠ .tbl ps)→H q=some o→q≠(T h).bA k→q≠(T h).lA k→H' q=some o) (he:∀ q,H' q=none→H q=none) (ft:∀ q ps,H q=some (.tbl ps)→q≠T1→H' q=some (.tbl ps)) :
  za9 CB CT CW H' w td sd z r hs sil (zm5 T h k l' xs)∧zfr z.toNat hs (zm5 T h k l' xs)∧zgx T1 H H' (Own td sd z.toNat hs T) (Own td sd z.toNat hs (zm5 T h k l' xs)):=by
 obtain ⟨⟨dx,hob⟩,htb,hsi,hta,hnd,hhb,hz1,hz2,hr1,hr2,hln,hts⟩:=id W
 have hTh:=hta h hh
 obtain ⟨⟨dk,hk1⟩,hk2⟩:=hTh.bk k hk
 have exl:∀ g∈hs,∀ j,j<z.toNat→∃ ys,H ((T g).lA j)=some (.lst ys):=fun g hg j hj=>⟨_,((hta g hg).bk j hj).li⟩
 refine ⟨⟨⟨dx,?_⟩,?_,?_,fun g hg=>?_,hnd,hhb,hz1,hz2,hr1,hr2,hln,hts⟩,⟨?_,?_,?_⟩,⟨fun q o ho e hn=>?_,fun q hq=>?_,fun q hq=>?_,ft⟩⟩
 ·exact fr _ _ (fun _ z=>nomatch z) hob (zu2 hob hk1 (by simp [wF,bF])) (zd_ hob hk2 (by intro z; cases z))
 ·rw [zqe]
  exact fr _ _ (fun _ z=>nomatch z) htb (zd_ htb hk1 (by intro z; cases z)) (zd_ htb hk2 (by intro z; cases z))
 ·exact fr _ _ (fun _ z=>nomatch z) hsi (zd_ hsi hk1 (by intro z; cases z)) (zd_ hsi hk2 (by intro z; cases z))
 ·by_cases e:g=h
  ·subst e
   have:=hTh.turn hk (fun _=>False) hB hl (fun q o ho e a b _=>fr q o ho e a b) (fun _ z=>z.elim)
   unfold zm5
   rw [zb4]
   exact this
  ·unfold zm5
   rw [zco e]
   have hTg:=hta g hg
   obtain ⟨dg,hg1⟩:=hTg.ob
   refine hTg.only (fun o eo=>?_) (fun o eo=>?_) (fun j hj o eo=>?_) (fun j hj o eo=>?_)
   ·have e1:=hg1.symm.trans eo
    cases e1
    exact fr _ _ (fun _ z=>nomatch z) eo (zu2 eo hk1 (by simp [tF,bF])) (zd_ eo hk2 (by intro z; cases z))
   ·have e1:=hTg.li.symm.trans eo
    cases e1
    exact fr _ _ (fun _ z=>nomatch z) eo (zd_ eo hk1 (by intro z; cases z)) (A.n g hg h hh e k hk)
   ·obtain ⟨⟨dj,hj1⟩,hj2⟩:=hTg.bk j hj
    have e1:=hj1.symm.trans eo
    cases e1
    exact fr _ _ (fun _ z=>nomatch z) eo (A.b g hg h hh e j k hj hk) (zd_ eo hk2 (by intro z; cases z))
   ·obtain ⟨⟨dj,hj1⟩,hj2⟩:=hTg.bk j hj
    have e1:=hj2.symm.trans eo
    cases e1
    exact fr _ _ (fun _ z=>nomatch z) eo (zd_ eo hk1 (by intro z; cases z)) (A.l g hg h hh e j k hj hk)
 ·intro g hg g' hg' hne i j hi hj
  rw [zok,zok]
  exact A.b g hg g' hg' hne i j hi hj
 ·intro g hg g' hg' hne i j hi hj
  have fresh:∀ g''∈hs,g''≠h→∀ m,m<z.toNat→l'≠(T g'').lA m:=fun g'' hg'' hn m hm=>by
   rcases hl with y | y
   ·rw [y]
    exact A.l h hh g'' hg'' (Ne.symm hn) k m hk hm
   ·obtain ⟨ys,hy⟩:=exl g'' hg'' m hm
    exact (zap hy y).symm
  rcases zk_ (T:=T) (h:=h) (g:=g) (k:=k) (j:=i) (l':=l') (xs:=xs) with ⟨a1,a2,a3⟩ | ⟨a1,a3⟩ <;> rcases zk_ (T:=T) (h:=h) (g:=g') (k:=k) (j:=j) (l':=l') (xs:=xs) with ⟨b1,b2,b3⟩ | ⟨b1,b3⟩
  ·exact absurd (a1.trans b1.symm) hne
  ·rw [a3,b3]
   exact fresh g' hg' (fun y=>hne (a1.trans y.symm)) j hj
  ·rw [a3,b3]
   exact (fresh g hg (fun y=>hne (y.trans b1.symm)) i hi).symm
  ·rw [a3,b3]
   exact A.l g hg g' hg' hne i j hi hj
 ·intro g hg g' hg' hne j hj
  rw [zq8]
  rcases zk_ (T:=T) (h:=h) (g:=g') (k:=k) (j:=j) (l':=l') (xs:=xs) with ⟨b1,b2,b3⟩ | ⟨b1,b3⟩
  ·rw [b3]
   rcases hl with y | y
   ·rw [y]
    exact A.n g hg h hh (fun y=>hne (y.trans b1.symm)) k hk
   ·exact zap (hta g hg).li y
  ·rw [b3]
   exact A.n g hg g' hg' hne j hj
 ·exact fr q o ho e (fun y=>hn (.inr (.inr ⟨h,hh,.inr ⟨k,hk,.inl y⟩⟩))) (fun y=>hn (.inr (.inr ⟨h,hh,.inr ⟨k,hk,.inr y⟩⟩)))
 ·rcases hq with y | y | ⟨g,hg,y | ⟨j,hj,y⟩⟩
  ·exact .inl (.inl y)
  ·exact .inl (.inr (.inl y))
  ·rw [zq8] at y
   exact .inl (.inr (.inr ⟨g,hg,.inl y⟩))
  ·rw [zok] at y
   rcases y with y | y
   ·exact .inl (.inr (.inr ⟨g,hg,.inr ⟨j,hj,.inl y⟩⟩))
   ·rcases zk_ (T:=T) (h:=h) (g:=g) (k:=k) (j:=j) (l':=l') (xs:=xs) with ⟨b1,b2,b3⟩ | ⟨b1,b3⟩
    ·rw [b3] at y
     subst y
     rcases hl with y | y
     ·exact .inl (.inr (.inr ⟨h,hh,.inr ⟨k,hk,.inr y⟩⟩))
     ·exact .inr y
    ·rw [b3] at y
     exact .inl (.inr (.inr ⟨g,hg,.inr ⟨j,hj,.inr y⟩⟩))
 ·exact he q hq
end
def zg7:Expr:=match (za0 (zaa (top 31) 25)).getD 0 (.Pass zw7) with | .Expr (.Call _ (_ :: e :: _) _ _) _=>e | _=> .Constant .none 0 zw7
def quH:Str:=(("Town.hears_of" : Str) ++ ".<locals>.") ++ "<lambda>"
abbrev RH:Addr→FuncData→Prop:=RLm "<lambda>" quH (zpm zg7) (zpi zg7) (zle zg7)
abbrev z0l (H:Hp) (f:Addr) (cv:List V) (fd:FuncData):Prop:=zw2 H f "<lambda>" quH (zpm zg7) (zpi zg7) (zle zg7) ["self"] cv fd
def zz5 (K:PySem.W.Frag) (CB CT CW:Addr) (cv:List V):Sp:=fun vs H Q E=>∃ (w:Addr) (i:V),vs=[i]∧cv=[.ref w]∧(∃ dx fs,H w=some (.ins CW dx fs)∧fs.lookup ("answers" : Str)=none)∧zng K CB CT CW [.ref w,i] H Q E
def spH (K:PySem.W.Frag) (CB CT CW:Addr) (f:Addr) (fd:FuncData):Sp:=fun vs H Q E=>∃ cv,cv.length=(["self"]:List Str).length∧z0l H f cv fd∧zz5 K CB CT CW cv vs H Q E
theorem zt3 {K:PySem.W.Frag} {CB CT CW:Addr}:ztx (spH K CB CT CW):=fun f fd vs H Q Q' E hq h=>by
 obtain ⟨cv,h1,h2,w,i,e1,e2,h3,w',td,sd,z,r,hs,sil,T,v,e3,hW,k⟩:=h
 refine ⟨cv,h1,h2,w,i,e1,e2,h3,w',td,sd,z,r,hs,sil,T,v,e3,hW,?_⟩
 rcases k with ⟨j,e,k⟩ | ⟨a,k⟩
 ·exact .inl ⟨j,e,hq _ _ k⟩
 ·exact .inr ⟨a,hq _ _ k⟩
def awB (hs sil:List Int) (x:Int):Bool:=decide (x∈hs) && !decide (x∈sil)
theorem zrx {z:Int} {hs sil:List Int} (hb:∀ h∈hs,0≤h∧h<2 ^ z.toNat) (z1:1≤z) (x:Int):(zdj z x && decide (x∈hs) && !decide (x∈sil))=awB hs sil x:=by
 unfold awB
 by_cases e:x∈hs
 ·rw [zgq (hb x e).1 (hb x e).2 z1,Bool.true_and]
 ·rw [decide_eq_false e,Bool.and_false,Bool.false_and]
section
variable {P:Program} {w:World} {K:PySem.W.Frag} {mg:Str→Option Value} {base:Heap}
theorem zv7 {f:Addr} {fd:FuncData} (h:RH f fd):zex K fd ["first"] []:=by
 obtain ⟨clos,pm,c',ct,rfl⟩:=h
 exact .all fun us hl=>match us,hl with | [_],_=>rfl
theorem zwm:zpn ["first","self"] ["first"] ["self"] (zle zg7):=⟨rfl,rfl,rfl,by decide +kernel,by decide +kernel,by decide +kernel,by decide +kernel,by decide +kernel,by decide +kernel,by decide +kernel⟩
theorem zvl (T:Txt mg) {CB CT:Addr} (zah:Df K mg "is_whole" (top 11) ["thing"]) (zan:Df K mg "is_name" (top 12) ["thing","wide"]) (zab:DfC K mg "Town" ["wide","room","tables","silent"]) (zae:DfM K zab.C "is_house" "Town.is_house" (zaa (top 31) 4) ["self","thing"]) (zag:DfM K zab.C "answers" "Town.answers" (zaa (top 31) 3) ["self","name"]) {f:Addr} {fd:FuncData}:zbe P w K mg base CX0 5 f fd ["first"] (spH K CB CT zab.C f fd):=by
 have zb2:zbe P w K mg base CX0 4 _ _ _ _:=zcy (CB:=CB) (CT:=CT) T zah zan zab zae zag
 refine zxy (name:= "<lambda>") (qual:=quH) (params:=zpm zg7) (body:=zpi zg7) (sp:=zz5 K CB CT zab.C) zwm (fun cv vs H Q E h=>?_) (fun clos cdv A outer s H cv vs Q E hr hcl h=>?_)
 ·obtain ⟨w,i,rfl,_⟩:=h
  rfl
 ·obtain ⟨w,i,rfl,rfl,⟨dx,fs,hw,hfs⟩,k⟩:=h
  refine ⟨_,(zb7 (pv 1) zab.cl zag.me zb2 (hr.mono (by decide)) zag.b .nil zbm (zad (pv 0) zar)),?_⟩
  exact ⟨_,rfl,w,dx,fs,rfl,hw,hfs,_,rfl,k⟩
def zsn (K:PySem.W.Frag) (CB CT CW T1:Addr):Sp:=fun vs H Q _=>∃ (w td sd:Addr) (z r:Int) (hs sil:List Int) (T:Int→zdz) (h n:Int),vs=[.ref w,.int h,.int n]∧za9 CB CT CW H w td sd z r hs sil T∧zfr z.toNat hs T∧h∈hs∧0≤n∧n<2 ^ z.toNat∧n≠h∧(∀ k,((T h).ns k).length≤1000)∧Tab H T1 (zfo zg7) quH ∧
 ∀ (H':Hp) (T':Int→zdz),za9 CB CT CW H' w td sd z r hs sil T'→zfr z.toNat hs T'→(fun g=>(T' g).ns)=zke r (awB hs sil) (fun g=>(T g).ns) h n→zgx T1 H H' (Own td sd z.toNat hs T) (Own td sd z.toNat hs T')→Tab H' T1 (zfo zg7) quH→Q .non H'
theorem ziw:za3 ["self","house","name"] ["self","house","name"] (zai (zaa (top 31) 25)):=⟨rfl,rfl,rfl,by decide +kernel,rfl,by decide +kernel,by decide +kernel⟩
theorem ziz (T:Txt mg) (hK:K.In base) (zfm:Df K mg "far" (top 13) ["one","other"]) (zeg:Df K mg "step" (top 16) ["one","other"]) (zah:Df K mg "is_whole" (top 11) ["thing"]) (zan:Df K mg "is_name" (top 12) ["thing","wide"]) (zaj:DfC K mg "Bucket" ["room","order"]) (zav:DfM K zaj.C "hears_when_full" "Bucket.hears_when_full" (zaa (top 26) 2) ["self","name","answers"]) (za_:DfM K zaj.C "hears" "Bucket.hears" (zaa (top 26) 1) ["self","name","answers"]) (zat:DfC K mg "Table" ["own","wide","room","buckets"]) (za1:DfM K zat.C "bucket_of" "Table.bucket_of" (zaa (top 28) 3) ["self","name"]) (zbl:DfM K zat.C "hears" "Table.hears" (zaa (top 28) 1) ["self","name","answers"])
    (zab:DfC K mg "Town" ["wide","room","tables","silent"]) (zae:DfM K zab.C "is_house" "Town.is_house" (zaa (top 31) 4) ["self","thing"]) (zag:DfM K zab.C "answers" "Town.answers" (zaa (top 31) 3) ["self","name"]) (zak:zu1 K zab.C "hears_of" "Town.hears_of" (zaa (top 31) 25) ["self","house","name"]) (hB:base.BuiltinsAt mg zak.P):zbe P w K mg base CX0 9 zak.f zak.fd ["self","house","name"] (zsn K zaj.C zat.C zab.C zak.P):=by
  have hcl:=zab.cl
  obtain ⟨na1,na2,na3,na4,-⟩:=zab.na
  have GA:∀ f fd,RH f fd→zbe P w K mg base CX0 5 f fd ["first"] (spH K zaj.C zat.C zab.C f fd):=fun f fd _=>zvl T zah zan zab zae zag
  have bA:∀ f fd,RH f fd→zex K fd ["first"] []:=fun f fd h=>zv7 h
  have zk5:zbe P w K mg base CX0 8 _ _ _ _:=zkh T GA bA zt3 zfm zeg zaj zav za_ zat za1 zbl
  refine zak.ok hK ziw (fz:=["self"]) (by decide +kernel) (fun vs H Q E h=>?_) (fun A outer s H vs Q E hr h H1 sm hcv hC=>?_)
  · obtain ⟨w,td,sd,z,r,hs,sil,TT,h,n,rfl,_⟩:=h
    rfl
  · obtain ⟨w,td,sd,z,r,hs,sil,TT,h,n,rfl,hW0,hA,hh,hn0,hn1,hne,hlen,hT,k0⟩:=h
    have hW:za9 zaj.C zat.C zab.C H1 w td sd z r hs sil TT:=hW0.keep fun q o _ e=>sm _ _ e
    have k:∀ (H':Hp) (T':Int→zdz),za9 zaj.C zat.C zab.C H' w td sd z r hs sil T'→zfr z.toNat hs T'→(fun g=>(T' g).ns)=zke r (awB hs sil) (fun g=>(TT g).ns) h n→zgx zak.P H1 H' (Own td sd z.toNat hs TT) (Own td sd z.toNat hs T')→Tab H' zak.P (zfo zg7) quH→Q .non H':=fun H' T' a b c d e=>k0 H' T' a b c ((zgx.same sm).trans d) e
    have hT1:Tab H1 zak.P (zfo zg7) quH:=(sm.but _).2 _ _ hT
    clear k0 hW0
    obtain ⟨⟨dx,hob⟩,htb,hsi,hta,hnd,hhb,hz1,hz2,hr1,hr2,hln,hts⟩:=id hW
    have hTh:=hta h hh
    obtain ⟨⟨dxh,hobh⟩,-⟩:=id hTh
    have hg:zew H1 td (V.int h) (some (V.ref (TT h).t)):=by
      have:=zew.k (k:=Sum.inl h) htb
      rw [zep,if_pos hh] at this
      exact this
    obtain ⟨c1,hc1,v1⟩:=hcv 0 "self" (.ref w) (by decide +kernel) rfl rfl
    refine ⟨_,(zas (zbj (zb7 (zby (zcj hr) (zc0 (pv 0) rfl) (pv 1) (fun _ _=>rfl)) zat.cl zbl.me zk5 (hr.mono (by decide)) zbl.b .nil zbm (zad (pv 2) (zad (zxt rfl hC hB (zqp (by kernel_rfl))) zar))))),?_⟩
    walk_at "w"
    refine zvq hT1 fun f H2 fo clos c' oc k1 k2 hb hT2 hf hf' sh hc' cs=>?_
    have nP:∀ {b:Addr} {o:HO},(∀ ps,o≠ .tbl ps)→H1 b=some o→H2 b=some o:=fun {b o} ho e=>hb b o (fun y=>by
      obtain ⟨ps,hP,_⟩:=hT1
      rw [y,hP] at e
      cases e
      exact ho _ rfl) e
    have keep:∀ c v,zh0 H1 c v→zh0 H2 c v:=fun c v hv=>hv.same fun o k e=>nP (fun _ z=>nomatch z) e
    obtain ⟨fd,hd,hR,hF⟩:=zwy (qual:=quH) (params:=zpm zg7) (body:=zpi zg7) (scope:=zle zg7) (fr:=["self"]) (cv:=[.ref w]) sh hf' hc' cs (fun i x v h1 h2=>by
      match i,h1,h2 with
      | 0,h1,h2 =>
        cases h1
        cases h2
        exact ⟨by decide +kernel,c1,hc1,keep _ _ v1⟩)
    have hW2:za9 zaj.C zat.C zab.C H2 w td sd z r hs sil TT:=hW.keep fun q o ho e=>nP ho e
    have d2:zgx zak.P H1 H2 (Own td sd z.toNat hs TT) (Own td sd z.toNat hs TT):=⟨fun q o ho e _=>nP ho e,fun _ y=> .inl y,(fun q e=>by
      by_cases y:q=zak.P
      · obtain ⟨ps,hP,_⟩:=hT2
        rw [y,hP] at e
        cases e
      · cases eq:H1 q with
        | none=>rfl
        | some o =>
          rw [hb q o y eq] at e
          cases e),fun q ps e y=>hb q _ y e⟩
    obtain ⟨⟨dx2,hob2⟩,htb2,hsi2,hta2,-⟩:=id hW2
    have hTh2:=hta2 h hh
    obtain ⟨⟨dxh2,hobh2⟩,-⟩:=id hTh2
    have hst:zcn h n<z.toNat:=zhu (hhb h hh).1 hn0 (hhb h hh).2 hn1 (Ne.symm hne)
    have hBk:=hTh2.bk _ hst
    have fin:∀ (H3:Hp) (l':Addr) (xs:List Int),xs=zgt r (awB hs sil) ((TT h).ns (zcn h n)) n→zeu zaj.C H3 ((TT h).bA (zcn h n)) l' r xs→(l'=(TT h).lA (zcn h n)∨H2 l'=none)→(ztp ((TT h).lA (zcn h n)) H2 H3∧l'=(TT h).lA (zcn h n)∨ztp ((TT h).bA (zcn h n)) H2 H3)→Q .non H3:=fun H3 l' xs hxs B3 hl3 hbut=>by
      have fr:∀ q o,H2 q=some o→q≠(TT h).bA (zcn h n)→q≠(TT h).lA (zcn h n)→H3 q=some o:=fun q o e a b=>by
        rcases hbut with ⟨y,_⟩ | y
        · exact y q o e b
        · exact y q o e a
      have he:∀ q,H3 q=none→H2 q=none:=fun q e=>by
        cases eq:H2 q with
        | none=>rfl
        | some o =>
          exfalso
          obtain ⟨⟨db,y1⟩,y2⟩:=B3
          rcases hbut with ⟨y,rfl⟩ | y
          · by_cases e2:q=(TT h).lA (zcn h n)
            · rw [e2,y2] at e
              cases e
            · rw [y q o eq e2] at e
              cases e
          · by_cases e2:q=(TT h).bA (zcn h n)
            · rw [e2,y1] at e
              cases e
            · rw [y q o eq e2] at e
              cases e
      obtain ⟨W3,A3,d3⟩:=hW2.turn hA hh hst B3 hl3 (fun q o _ e a b=>fr q o e a b) he (fun q ps e _=>fr q _ e (fun y=>by
        obtain ⟨⟨db,y1⟩,_⟩:=id hBk
        rw [y,y1] at e
        cases e) (fun y=>by
        rw [y,hBk.li] at e
        cases e))
      refine k H3 _ W3 A3 ?_ (d2.trans d3) (Tab.hold hT2 fun q o ho e=>?_)
      · rw [zvs,hxs]
        rfl
      · obtain ⟨⟨db,y1⟩,y2⟩:=id hBk
        refine fr q o e (fun y=>?_) (fun y=>?_)
        · subst y
          rcases ho with ⟨x,kk,rfl⟩ | y
          · rw [y1] at e
            cases e
          · obtain ⟨ps,hP,_⟩:=hT2
            rw [← y,y1] at hP
            cases hP
        · subst y
          rcases ho with ⟨x,kk,rfl⟩ | y
          · rw [y2] at e
            cases e
          · obtain ⟨ps,hP,_⟩:=hT2
            rw [← y,y2] at hP
            cases hP
    refine ⟨(TT h).t,(TT h).bl,f,h,z,r,n,z.toNat,(TT h).bA,(TT h).lA,(TT h).ns,rfl,hTh2,(hhb h hh).1,hn0,(hhb h hh).2,hn1,fun y=>absurd y.symm hne,fun _=>?_⟩
    unfold zk2
    refine ⟨_,_,f,r,n,_,rfl,hBk,hlen _,hr1,fun hm H3 B3 b3=>?_,fun hm hl H3 B3 b3=>?_,fun hm hl=>?_⟩
    · exact fin H3 _ _ (by unfold zgt; rw [if_pos hm]) B3 (.inl rfl) (.inl ⟨b3,rfl⟩)
    · exact fin H3 _ _ (by unfold zgt; rw [if_neg hm,if_pos hl]) B3 (.inl rfl) (.inl ⟨b3,rfl⟩)
    · have hxs0:∃ x xs,(TT h).ns (zcn h n)=x :: xs:=by
        cases e:(TT h).ns (zcn h n) with
        | nil =>
          rw [e] at hl
          exact absurd hl (by simp only [List.length_nil]; omega)
        | cons x xs=>exact ⟨x,xs,rfl⟩
      obtain ⟨x,xs,hxs⟩:=hxs0
      have hln1:xs.length≤1000:=by
        have:=hlen (zcn h n)
        rw [hxs,List.length_cons] at this
        omega
      rw [hxs] at hBk
      unfold zpp
      refine ⟨_,_,f,r,n,x,xs,fd,rfl,hBk,hln1,.inl ⟨fo,k1,hf',hd⟩,hR,[.ref w],rfl,hF,w,.int x,rfl,rfl,⟨dx2,_,hob2,zz6 _ (by decide +kernel) _ _ _ _⟩,w,td,sd,z,r,hs,sil,TT,.int x,rfl,hW2,.inl ⟨x,rfl,_,rfl,hBk,fun l' H3 hl3 B3 b3=>?_⟩⟩
      rw [zrx hhb hz1 x] at B3
      refine fin H3 l' _ ?_ B3 (.inr hl3) (.inr b3)
      unfold zgt
      rw [if_neg hm,if_neg (show ¬ (((TT h).ns (zcn h n)).length:Int)<r by omega),hxs]
def zyi (K:PySem.W.Frag) (CB CT CW T1:Addr):Sp:=fun vs H Q _=>∃ (w td sd:Addr) (z r:Int) (hs sil:List Int) (T:Int→zdz) (h n:Int),vs=[.ref w,.int h,.int n]∧za9 CB CT CW H w td sd z r hs sil T∧zfr z.toNat hs T∧h∈hs∧n∈hs∧n≠h∧(∀ g∈hs,∀ k,((T g).ns k).length≤1000)∧Tab H T1 (zfo zg7) quH ∧
 ∀ (H':Hp) (T':Int→zdz),za9 CB CT CW H' w td sd z r hs sil T'→zfr z.toNat hs T'→(fun g=>(T' g).ns)=zp8 r (awB hs sil) (fun g=>(T g).ns) h n→zgx T1 H H' (Own td sd z.toNat hs T) (Own td sd z.toNat hs T')→Tab H' T1 (zfo zg7) quH→Q .non H'
theorem zmf:za3 ["self","one","other"] ["self","one","other"] (zai (zaa (top 31) 24)):=⟨rfl,rfl,rfl,by decide +kernel,rfl,by decide +kernel,by decide +kernel⟩
theorem zmy (T:Txt mg) (hK:K.In base) (zfm:Df K mg "far" (top 13) ["one","other"]) (zeg:Df K mg "step" (top 16) ["one","other"]) (zah:Df K mg "is_whole" (top 11) ["thing"]) (zan:Df K mg "is_name" (top 12) ["thing","wide"]) (zaj:DfC K mg "Bucket" ["room","order"]) (zav:DfM K zaj.C "hears_when_full" "Bucket.hears_when_full" (zaa (top 26) 2) ["self","name","answers"]) (za_:DfM K zaj.C "hears" "Bucket.hears" (zaa (top 26) 1) ["self","name","answers"]) (zat:DfC K mg "Table" ["own","wide","room","buckets"]) (za1:DfM K zat.C "bucket_of" "Table.bucket_of" (zaa (top 28) 3) ["self","name"]) (zbl:DfM K zat.C "hears" "Table.hears" (zaa (top 28) 1) ["self","name","answers"])
  (zab:DfC K mg "Town" ["wide","room","tables","silent"]) (zae:DfM K zab.C "is_house" "Town.is_house" (zaa (top 31) 4) ["self","thing"]) (zag:DfM K zab.C "answers" "Town.answers" (zaa (top 31) 3) ["self","name"]) (zak:zu1 K zab.C "hears_of" "Town.hears_of" (zaa (top 31) 25) ["self","house","name"]) (hB:base.BuiltinsAt mg zak.P) (zcm:DfM K zab.C "meet" "Town.meet" (zaa (top 31) 24) ["self","one","other"]):zbe P w K mg base CX0 10 zcm.f zcm.fd ["self","one","other"] (zyi K zaj.C zat.C zab.C zak.P):=by
 have hcl:=zab.cl
 have zgl:zbe P w K mg base CX0 9 _ _ _ _:=ziz T hK zfm zeg zah zan zaj zav za_ zat za1 zbl zab zae zag zak hB
 refine zcm.fn.ok zmf (fun vs H Q E h=>?_) (fun cdv A outer s H vs Q E hr h=>?_)
 ·obtain ⟨w,td,sd,z,r,hs,sil,TT,h,n,rfl,_⟩:=h
  rfl
 ·obtain ⟨w,td,sd,z,r,hs,sil,TT,h,n,rfl,hW,hA,hh,hn,hne,hlen,hT,k⟩:=h
  obtain ⟨⟨dx,hob⟩,-⟩:=id hW
  have hnb:=hW.hb n hn
  have hn0:=hnb.1
  have hn1:=hnb.2
  have hlh:=hlen h hh
  refine ⟨_,(zaq (zbj (zb7 (pv 0) zab.cl zak.me zgl (hr.mono (by decide)) zak.b .nil zbm (zad (pv 1) (zad (pv 2) zar))))
   (zas (zbj (zb7 (pv 0) zab.cl zak.me zgl (hr.mono (by decide)) zak.b .nil zbm (zad (pv 2) (zad (pv 1) zar)))))),?_⟩
  walk_at "w"
  intro H1 T1 W1 A1 e1 d1 hT1
  obtain ⟨⟨dx1,hob1⟩,-⟩:=id W1
  have hhb:=W1.hb h hh
  have hh0:=hhb.1
  have hh1:=hhb.2
  have hne':h≠n:=Ne.symm hne
  have hln:∀ k,((T1 n).ns k).length≤1000:=fun k=>by
   have e2:=congrFun (congrFun e1 n) k
   have e2:(T1 n).ns k=zke r (awB hs sil) (fun g=>(TT g).ns) h n n k:=e2
   unfold zke at e2
   rw [zco hne] at e2
   rw [e2]
   exact hlen n hn k
  walk_at "w"
  intro H2 T2 W2 A2 e2 d2 hT2
  refine k H2 T2 W2 A2 ?_ (d1.trans d2) hT2
  unfold zp8
  rw [e2,e1]
end
structure CT (E:Int→Int→Prop) (d:Int) (ks ws:List Int):Prop where
 nd:ks.Nodup
 dm:d∈ks
 re:∀ x∈ks,Rch E d x
 ws:∀ x∈ws,x∈ks
theorem zpq {ks:List Int} {x:Int} (h:x∉ks):zfa (zf5 ks) (Sum.inl x) (V.bl true)=zf5 (ks++[x]):=by
 have e:zg9 (zf5 ks) (Sum.inl x)=none:=by
  have:=zev (sil:=ks) (i:=x)
  rw [decide_eq_false h] at this
  exact Option.isSome_eq_false_iff.mp this |> fun z=>by simpa using z
 rw [zi3 _ e]
 unfold zf5
 rw [List.map_append]
 rfl
theorem zqj (l:List Int):l=[]∨∃ t a,l=t++[a]:=by
 rcases List.eq_nil_or_concat l with h | ⟨t,a,h⟩
 ·exact .inl h
 ·exact .inr ⟨t,a,by rw [h,List.concat_eq_append]⟩
theorem zky {l:List Int} {a:Int}:(l++[a]).map V.int=l.map V.int++[V.int a]:=by simp
theorem zqw {l:List Int} {a:Int}:((l++[a]).map V.int).dropLast=l.map V.int:=by
 rw [zky,List.dropLast_concat]
section
variable {P:Program} {w:World} {K:PySem.W.Frag} {mg:Str→Option Value} {base:Heap}
theorem zc7:za3 ["self","house","reached","waiting","here","name"] ["self","house"] (zai (zaa (top 31) 8)):=⟨rfl,rfl,rfl,by decide +kernel,rfl,by decide +kernel,by decide +kernel⟩
def zug (CB CT CW:Addr):Sp:=fun vs H Q _=>∃ (w td sd:Addr) (z r:Int) (hs sil:List Int) (T:Int→zdz) (i:Int),vs=[.ref w,.int i]∧za9 CB CT CW H w td sd z r hs sil T∧i∈hs∧i∉sil∧(∀ g∈hs,(zf9 (T g).ns z.toNat).length<64) ∧
 ∀ (l:Addr) (ks:List Int) (H':Hp),zbf H H'→H l=none→H' l=some (.lst ((zb_ ks).map V.int))→ks.Nodup→(∀ x,x∈ks↔Rch (zop z.toNat (awB hs sil) (fun g=>(T g).ns)) i x)→Q (.ref l) H'
theorem zi7 (T:Txt mg) (zao:DfE K mg "NoHouse") (zaz:DfE K mg "Silent") (zah:Df K mg "is_whole" (top 11) ["thing"]) (zan:Df K mg "is_name" (top 12) ["thing","wide"]) (zaj:DfC K mg "Bucket" ["room","order"]) (zax:DfM K zaj.C "names" "Bucket.names" (zaa (top 26) 4) ["self"]) (zat:DfC K mg "Table" ["own","wide","room","buckets"]) (za7:DfM K zat.C "keeps" "Table.keeps" (zaa (top 28) 5) ["self"])
    (zab:DfC K mg "Town" ["wide","room","tables","silent"]) (zae:DfM K zab.C "is_house" "Town.is_house" (zaa (top 31) 4) ["self","thing"]) (zag:DfM K zab.C "answers" "Town.answers" (zaa (top 31) 3) ["self","name"]) (zac:DfM K zab.C "check_house" "Town.check_house" (zaa (top 31) 16) ["self","thing"]) (zaf:DfM K zab.C "check_answering" "Town.check_answering" (zaa (top 31) 17) ["self","thing"]) (za2:DfM K zab.C "come_to" "Town.come_to" (zaa (top 31) 8) ["self","house"]):zbe P w K mg base CX0 6 za2.f za2.fd ["self","house"] (zug zaj.C zat.C zab.C):=by
  have hcl:=zab.cl
  obtain ⟨na1,na2,na3,na4,-⟩:=zab.na
  have zfx:zbe P w K mg base CX0 2 _ _ _ _:=zgu T zaj zax zat za7
  have zb2:zbe P w K mg base CX0 4 _ _ _ _:=zcy (CB:=zaj.C) (CT:=zat.C) T zah zan zab zae zag
  have zdi:zbe P w K mg base CX0 5 _ _ _ _:=zef (CB:=zaj.C) (CT:=zat.C) T zao zaz zah zan zab zae zag zac zaf
  refine za2.fn.ok zc7 (fun vs H Q E h=>?_) (fun cdv A outer s H vs Q E hr h=>?_)
  · obtain ⟨w,td,sd,z,r,hs,sil,TT,i,rfl,_⟩:=h
    rfl
  · obtain ⟨w,td,sd,z,r,hs,sil,TT,i,rfl,hW,hi,hns,hcl64,k⟩:=h
    obtain ⟨⟨dx,hob⟩,htb,hsi,hta,-⟩:=id hW
    have hln:=hW.ln
    generalize hE:zop z.toNat (awB hs sil) (fun g=>(TT g).ns)=E at k
    have inHs:∀ x,Rch E i x→x∈hs:=fun x hx=>by
      subst hE
      cases hx with
      | own=>exact hi
      | go _ e =>
        have e2:=e.2
        unfold awB at e2
        simp only [Bool.and_eq_true,decide_eq_true_eq] at e2
        exact e2.1
    have cntK:∀ {ks ws:List Int},CT E i ks ws→ks.length≤hs.length:=fun c=>zct c.nd fun x hx=>inHs x (c.re x hx)
    refine ⟨_,(zaq (zbj (zb7 (pv 0) zab.cl zaf.me zdi (hr.mono (by decide)) zaf.b .nil zbm (zad (pv 1) zar)))
      (zaq (zcp (i:=2) zc7.nd rfl (Or.inl rfl) (zrz (zi1 (pv 1) zgd zri) rfl rfl (fun z=>nomatch z) (Nat.le_of_ble_eq_true rfl)))
      (zaq (zcp (i:=3) zc7.nd rfl (Or.inl rfl) (zc9 (zad (pv 1) zar)))
      (zaq (zps PassesOwn.never (zbk zty (zb1 zet rfl T.n_len zjs (zad (pv 3) zar)) zaw (zb8 _))
       (zaq (zcp (i:=4) zc7.nd rfl (Or.inl rfl) (zuv PySem.F.plainAttrs_list PySem.F.slot_list_pop PySem.F.type_list_pop zxx (pv 3)))
        (zas (zf4 PassesOwn.never rfl (zee (zfu (zby (zcj hr) (zc0 (pv 0) rfl) (pv 4) (fun _ _=>rfl)) zat.cl za7.me zfx (hr.mono (by decide)) za7.b .nil zbm)) (zcw (i:=5) zc7.nd rfl (Or.inl rfl))
         (zas (zcq (PW.pt (zif (zie (zeq (zcj hr) (pv 5) (pv 2))) (zg0 (zdv (zb7 (pv 0) zab.cl zag.me zb2 (hr.mono (by decide)) zag.b .nil zbm (zad (pv 5) zar))))))
           (zaq (zia (zcj hr) (pv 2) (pv 5) zgd rfl)
            (zas (zbj (zqa PySem.F.plainAttrs_list PySem.F.slot_list_append PySem.F.type_list_append zf6 (pv 3) (zad (pv 5) zar)))))
           zbo))))))
      (zas (zbh (zb1 (zd4 rfl) rfl T.n_sorted zd7 (zad (pv 2) zar)))))))),?_⟩
    walk_at "w"
    intro rc hrc
    refine ⟨_,rfl,?_⟩
    refine ⟨zam,[(Sum.inl i,V.bl true)],rfl,(show 1≤15 by decide),?_⟩
    have s1:zbf H (upd (upd H rc (.dK [])) rc (.dK (zig [] [(Sum.inl i,V.bl true)]))):=((zbf.refl H).lay hrc).put hrc
    have hrc1:upd (upd H rc (.dK [])) rc (.dK (zig [] [(Sum.inl i,V.bl true)])) rc=some (.dK (zf5 [i])):=zam
    generalize upd (upd H rc (.dK [])) rc (.dK (zig [] [(Sum.inl i,V.bl true)]))=H1 at s1 hrc1 ⊢
    walk_at "w"
    intro wt hwt
    have s2:zbf H (upd H1 wt (.lst [V.int i])):=s1.put (s1.free hwt)
    have hwt2:upd H1 wt (.lst [V.int i]) wt=some (.lst [V.int i]):=zam
    have hrc2:upd H1 wt (.lst [V.int i]) rc=some (.dK (zf5 [i])):=by rw [zal (zap hrc1 hwt)]; exact hrc1
    have hwt0:H wt=none:=s1.free hwt
    generalize upd H1 wt (.lst [V.int i])=H2 at s2 hwt2 hrc2 ⊢
    have c0:CT E i [i] [i]:=⟨by simp,List.mem_singleton.mpr rfl,fun x hx=>List.mem_singleton.mp hx ▸ Rch.own,fun x hx=>hx⟩
    walk_at "w"
    refine ⟨fun m σ H3=>zj2 (∃ (v4 v5:Option V) (ks ws:List Int),σ=[some (.ref w),some (.int i),some (.ref rc),some (.ref wt),v4,v5]∧zbf H H3∧H3 rc=some (.dK (zf5 ks))∧H3 wt=some (.lst (ws.map V.int))∧CT E i ks ws∧(∀ a∈ks,a∉ws→∀ b,E a b→b∈ks)∧m=2 * (hs.length - ks.length)+ws.length∧ws.length≤2 * ks.length),⟨_,⟨none,none,[i],[i],rfl,s2,hrc2,hwt2,c0,fun a ha hn=>absurd ha hn,rfl,by simp⟩⟩,?_⟩
    rintro m σ H3 ⟨v4,v5,ks,ws,rfl,s3,hrc3,hwt3,c3,cl3,hm,hwl⟩
    have hkl:=cntK c3
    rcases zqj ws with rfl | ⟨ws',a,rfl⟩
    · have hkeys:List.map (fun x:Key × V=>x.fst) (zf5 ks)=List.map Sum.inl ks:=by
        unfold zf5
        rw [List.map_map]
        rfl
      have h64:ks.length<64:=by omega
      walk_at "w"
      intro l hl
      refine k l ks _ (s3.put (s3.free hl)) (s3.free hl) zam c3.nd fun x=>⟨c3.re x,fun h=>Rch.of_closed c3.dm (fun a ha b e=>cl3 a ha (fun z=>nomatch z) b e) h⟩
    · have hwt3:H3 wt=some (.lst ((ws'++[a]).map V.int)):=hwt3
      have ha:a∈ks:=c3.ws a (List.mem_append_right _ (List.mem_singleton.mpr rfl))
      have hah:=inHs a (c3.re a ha)
      have s4:zbf H (upd H3 wt (.lst (((ws'++[a]).map V.int).dropLast))):=s3.put hwt0
      have hob4:=s4 _ _ hob
      have hTa4:=(hta a hah).same s4
      obtain ⟨⟨dxa,hoba⟩,-⟩:=id hTa4
      have hg4:zew (upd H3 wt (.lst (((ws'++[a]).map V.int).dropLast))) td (V.int a) (some (V.ref (TT a).t)):=by
        have:=zew.k (k:=Sum.inl a) (s4 _ _ htb)
        rw [zep,if_pos hah] at this
        exact this
      have hrc4:upd H3 wt (.lst (((ws'++[a]).map V.int).dropLast)) rc=some (.dK (zf5 ks)):=by rw [zal (zd_ hrc3 hwt3 (by intro z; cases z))]; exact hrc3
      have hwt4:upd H3 wt (.lst (((ws'++[a]).map V.int).dropLast)) wt=some (.lst (ws'.map V.int)):=by rw [zam,zqw]
      have hl0:=hcl64 a hah
      have hlw:((ws'++[a]).map V.int).length=ws'.length+1:=by simp
      have hlast:((ws'++[a]).map V.int)[((ws'++[a]).map V.int).length - 1]? = some (V.int a):=by rw [zky]; simp
      have hpos:(0:Int)<((((ws'++[a]).map V.int).length:Nat):Int):=by rw [hlw]; omega
      walk_at "w"
      refine zkn hpos ?_
      refine ⟨fun σ' H'=>zj2 (∃ (v4 v5:Option V) (ks ws:List Int),σ'=[some (.ref w),some (.int i),some (.ref rc),some (.ref wt),v4,v5]∧zbf H H'∧H' rc=some (.dK (zf5 ks))∧H' wt=some (.lst (ws.map V.int))∧CT E i ks ws∧(∀ a∈ks,a∉ws→∀ b,E a b→b∈ks)∧2 * (hs.length - ks.length)+ws.length<m∧ws.length≤2 * ks.length),fun σ' H' ⟨v4,v5,ks,ws,e,a,b,c,d,f,g,h⟩=>⟨_,g,⟨v4,v5,ks,ws,e,a,b,c,d,f,rfl,h⟩⟩,?_⟩
      walk_at "w"
      intro kl H5 hkl0 hkl5 s5
      have nkw:kl≠wt:=fun e=>by rw [e,zam] at hkl0; cases hkl0
      have nkr:kl≠rc:=(zap hrc4 hkl0).symm
      have hrc5:=s5 _ _ hrc4
      have hwt5:=s5 _ _ hwt4
      walk_at "w"
      refine zfe (K:=K) (a:=kl) (xs:=(zb_ (zf9 (TT a).ns z.toNat)).map V.int) (fun j σ H6=>zj2 (∃ (v5:Option V) (ks6 ws6:List Int),σ=[some (.ref w),some (.int i),some (.ref rc),some (.ref wt),some (.int a),v5]∧zbf H H6∧H6 kl=some (.lst ((zb_ (zf9 (TT a).ns z.toNat)).map V.int))∧H6 rc=some (.dK (zf5 ks6))∧H6 wt=some (.lst (ws6.map V.int))∧CT E i ks6 ws6∧a∈ks6 ∧
          (∀ g∈ks6,g∉ws6→g=a∨∀ b,E g b→b∈ks6)∧(∀ x∈(zb_ (zf9 (TT a).ns z.toNat)).take j,awB hs sil x=true→x∈ks6)∧2 * (hs.length - ks6.length)+ws6.length<m∧ws6.length≤2 * ks6.length)) ?_ (fun j σ H6 _ ⟨_,_,_,_,_,e,_⟩=>SqL.of e) ?_ ?_
      · refine ⟨⟨_,ks,ws',rfl,s4.trans s5,hkl5,hrc5,hwt5,⟨c3.nd,c3.dm,c3.re,fun x hx=>c3.ws x (List.mem_append_left _ hx)⟩,ha,fun g hg hn=>?_,fun x hx=>absurd hx (by simp),?_,?_⟩⟩
        · by_cases e:g=a
          · exact .inl e
          · exact .inr fun b=>cl3 g hg (fun y=>by
              rcases List.mem_append.mp y with y | y
              · exact hn y
              · exact e (List.mem_singleton.mp y)) b
        · rw [hm,List.length_append,List.length_singleton]
          omega
        · rw [List.length_append,List.length_singleton] at hwl
          omega
      · rintro j y σ H6 hj ⟨v5,ks6,ws6,rfl,s6,hkl6,hrc6,hwt6,c6,ha6,cl6,dn6,hm6,hwl6⟩
        obtain ⟨x,hx,rfl⟩:∃ x,(zb_ (zf9 (TT a).ns z.toNat))[j]? = some x∧y=V.int x:=by
          rw [List.getElem?_map] at hj
          cases e:(zb_ (zf9 (TT a).ns z.toNat))[j]? with
          | none=>rw [e] at hj; cases hj
          | some x=>rw [e] at hj; exact ⟨x,rfl,(Option.some.inj hj).symm⟩
        have hxm:x∈zf9 (TT a).ns z.toNat:=(zdu _).subset (List.mem_of_getElem? hx)
        have htk:(zb_ (zf9 (TT a).ns z.toNat)).take (j+1)=(zb_ (zf9 (TT a).ns z.toNat)).take j++[x]:=zge hx
        have hW6:za9 zaj.C zat.C zab.C H6 w td sd z r hs sil TT:=hW.keep fun q o _ e=>s6 _ _ e
        obtain ⟨⟨dx6,hob6⟩,-⟩:=id hW6
        have hkl6':=cntK c6
        have hvs:=zev (sil:=ks6) (i:=x)
        walk_at "w"
        rw [hvs]
        by_cases hxk:x∈ks6
        · rw [decide_eq_true hxk]
          refine ⟨⟨_,ks6,ws6,rfl,s6,hkl6,hrc6,hwt6,c6,ha6,cl6,fun y hy hay=>?_,hm6,hwl6⟩⟩
          rw [htk] at hy
          rcases List.mem_append.mp hy with hy | hy
          · exact dn6 y hy hay
          · exact List.mem_singleton.mp hy ▸ hxk
        · rw [decide_eq_false hxk]
          walk_at "w"
          refine .inl ⟨x,rfl,?_⟩
          rw [zrx hW.hb hW.z1 x]
          cases hax:awB hs sil x with
          | false =>
            walk_at "w"
            refine ⟨⟨_,ks6,ws6,rfl,s6,hkl6,hrc6,hwt6,c6,ha6,cl6,fun y hy hay=>?_,hm6,hwl6⟩⟩
            rw [htk] at hy
            rcases List.mem_append.mp hy with hy | hy
            · exact dn6 y hy hay
            · rw [List.mem_singleton.mp hy,hax] at hay
              cases hay
          | true =>
            have hszd:(zf5 ks6).length<sizeLine:=by
              unfold zf5
              rw [List.length_map]
              exact zbu (by omega)
            have hput:zkr H6 rc (V.int x) (V.bl true) (upd H6 rc (.dK (zfa (zf5 ks6) (Sum.inl x) (V.bl true)))):=zkr.k (k:=Sum.inl x) hrc6 hszd
            have nrw:wt≠rc:=zd_ hwt6 hrc6 (by intro z; cases z)
            have hwt7:upd H6 rc (.dK (zfa (zf5 ks6) (Sum.inl x) (V.bl true))) wt=some (.lst (ws6.map V.int)):=by rw [zal nrw]; exact hwt6
            have hszw:(ws6.map V.int).length<sizeLine:=by
              rw [List.length_map]
              exact zbu (by omega)
            walk_at "w"
            have hRx:Rch E i x:=by
              subst hE
              exact .go (c6.re a ha6) ⟨hxm,hax⟩
            refine ⟨⟨_,ks6++[x],ws6++[x],rfl,(s6.put hrc).put hwt0,?_,?_,?_,⟨zdg c6.nd hxk,List.mem_append_left _ c6.dm,fun y hy=>?_,fun y hy=>?_⟩,List.mem_append_left _ ha6,fun g hg hn=>?_,fun y hy hay=>?_,?_,?_⟩⟩
            · rw [zal nkw,zal nkr]
              exact hkl6
            · rw [zal nrw.symm,zam,zpq hxk]
            · rw [zam,zky]
            · rcases List.mem_append.mp hy with y1 | y1
              · exact c6.re y y1
              · exact List.mem_singleton.mp y1 ▸ hRx
            · rcases List.mem_append.mp hy with y1 | y1
              · exact List.mem_append_left _ (c6.ws y y1)
              · exact List.mem_append_right _ y1
            · rcases List.mem_append.mp hg with y1 | y1
              · rcases cl6 g y1 (fun z=>hn (List.mem_append_left _ z)) with e | e
                · exact .inl e
                · exact .inr fun b hb=>List.mem_append_left _ (e b hb)
              · exact absurd (List.mem_append_right _ y1) hn
            · rw [htk] at hy
              rcases List.mem_append.mp hy with hy | hy
              · exact List.mem_append_left _ (dn6 y hy hay)
              · exact List.mem_append_right _ hy
            · have:=zct (zdg c6.nd hxk) (b:=hs) fun y hy=>(List.mem_append.mp hy).elim (fun z=>inHs y (c6.re y z)) fun z=>inHs y (List.mem_singleton.mp z ▸ hRx)
              rw [List.length_append,List.length_singleton] at this ⊢
              rw [List.length_append,List.length_singleton]
              omega
            · rw [List.length_append,List.length_singleton,List.length_append,List.length_singleton]
              omega
      · rintro σ H6 ⟨v5,ks6,ws6,rfl,s6,hkl6,hrc6,hwt6,c6,ha6,cl6,dn6,hm6,hwl6⟩
        refine ⟨⟨_,_,ks6,ws6,rfl,s6,hrc6,hwt6,c6,fun g hg hn b hb=>?_,hm6,hwl6⟩⟩
        rcases cl6 g hg hn with rfl | e
        · subst hE
          refine dn6 b ?_ hb.2
          rw [List.take_of_length_le (by rw [List.length_map]; exact Nat.le_refl _)]
          exact (zdu _).symm.subset hb.1
        · exact e b hb
theorem za9.ex {CB CT CW w td sd:Addr} {H:Hp} {z r:Int} {hs sil:List Int} {T:Int→zdz} (W:za9 CB CT CW H w td sd z r hs sil T) {q:Addr} (h:Own td sd z.toNat hs T q):∃ o,H q=some o:=by
 rcases h with rfl | rfl | ⟨g,hg,rfl | ⟨k,hk,rfl | rfl⟩⟩
 ·exact ⟨_,W.tb⟩
 ·exact ⟨_,W.si⟩
 ·exact ⟨_,(W.ta g hg).li⟩
 ·obtain ⟨⟨d,e⟩,_⟩:=(W.ta g hg).bk k hk
  exact ⟨_,e⟩
 ·exact ⟨_,((W.ta g hg).bk k hk).li⟩
theorem za9.notOwn {CB CT CW w td sd:Addr} {H:Hp} {z r:Int} {hs sil:List Int} {T:Int→zdz} (W:za9 CB CT CW H w td sd z r hs sil T) {q:Addr} (h:H q=none):¬ Own td sd z.toNat hs T q:=fun y=>by
 obtain ⟨o,e⟩:=W.ex y
 rw [h] at e
 cases e
def zs_ (h:Int) (y:Int):Bool:= !decide (V.int y=V.int h)
theorem zvd {h y:Int}:zs_ h y = !decide (y=h):=by
 unfold zs_
 by_cases e:y=h
 ·rw [e,decide_eq_true rfl,decide_eq_true rfl]
 ·rw [decide_eq_false e,decide_eq_false (fun z=>e (by injection z))]
theorem zvb {h y:Int} (e:zs_ h y=true):y≠h:=fun z=>by
 subst z
 unfold zs_ at e
 rw [decide_eq_true rfl] at e
 cases e
def zhz (h:Int) (ks:List Int):List Int:=(zb_ ks).filter (zs_ h)
theorem zhi {h x:Int} {ks:List Int} (hx:x∈zhz h ks):x∈ks∧x≠h:=by
 obtain ⟨a,b⟩:=List.mem_filter.mp hx
 exact ⟨(zdu _).subset a,zvb b⟩
theorem NOk.meets {pool:List Int} {z:Nat} {r:Int} {hs:List Int} (hr:1≤r) {aw:Int→Bool} {a:Int} (ha:a∈pool):∀ {l:List Int} {N:Int→Nat→List Int},(∀ x∈l,x∈pool∧x≠a)→NOk pool z r hs N→NOk pool z r hs (zdb r aw N a l)
 | [],_,_,O=>O
 | b :: t,N,h,O=>NOk.meets (l:=t) hr ha (fun x hx=>h x (List.mem_cons_of_mem _ hx)) (O.meet hr ha (h b (List.mem_cons_self ..)).1 (h b (List.mem_cons_self ..)).2)
theorem zfi:za3 ["self","house","door","visited","name"] ["self","house","door"] (zai (zaa (top 31) 23)):=⟨rfl,rfl,rfl,by decide +kernel,rfl,by decide +kernel,by decide +kernel⟩
def zuh (CB CT CW T1:Addr):Sp:=fun vs H Q _=>∃ (w td sd:Addr) (z r:Int) (hs sil pool:List Int) (T:Int→zdz) (h d:Int),vs=[.ref w,.int h,.int d]∧za9 CB CT CW H w td sd z r hs sil T∧zfr z.toNat hs T∧h∈hs∧d∈hs∧d∉sil∧NOk pool z.toNat r hs (fun g=>(T g).ns)∧pool.length<64∧(∀ x∈hs,x∈pool)∧Tab H T1 (zfo zg7) quH ∧
 ∀ (l:Addr) (ks:List Int) (H':Hp) (T':Int→zdz),ks.Nodup→(∀ x,x∈ks↔Rch (zop z.toNat (awB hs sil) (fun g=>(T g).ns)) d x)→za9 CB CT CW H' w td sd z r hs sil T'→zfr z.toNat hs T'→(fun g=>(T' g).ns)=zdb r (awB hs sil) (fun g=>(T g).ns) h (zhz h ks) →
  zgx T1 H H' (Own td sd z.toNat hs T) (Own td sd z.toNat hs T')→Tab H' T1 (zfo zg7) quH→H l=none→¬ Own td sd z.toNat hs T' l→H' l=some (.lst ((zhz h ks).map V.int))→Q (.ref l) H'
theorem zka (T:Txt mg) (hK:K.In base) (zao:DfE K mg "NoHouse") (zaz:DfE K mg "Silent") (zfm:Df K mg "far" (top 13) ["one","other"]) (zeg:Df K mg "step" (top 16) ["one","other"]) (zah:Df K mg "is_whole" (top 11) ["thing"]) (zan:Df K mg "is_name" (top 12) ["thing","wide"]) (zaj:DfC K mg "Bucket" ["room","order"]) (zax:DfM K zaj.C "names" "Bucket.names" (zaa (top 26) 4) ["self"]) (zav:DfM K zaj.C "hears_when_full" "Bucket.hears_when_full" (zaa (top 26) 2) ["self","name","answers"]) (za_:DfM K zaj.C "hears" "Bucket.hears" (zaa (top 26) 1) ["self","name","answers"]) (zat:DfC K mg "Table" ["own","wide","room","buckets"]) (za7:DfM K zat.C "keeps" "Table.keeps" (zaa (top 28) 5) ["self"]) (za1:DfM K zat.C "bucket_of" "Table.bucket_of" (zaa (top 28) 3) ["self","name"]) (zbl:DfM K zat.C "hears" "Table.hears" (zaa (top 28) 1) ["self","name","answers"])
    (zab:DfC K mg "Town" ["wide","room","tables","silent"]) (zae:DfM K zab.C "is_house" "Town.is_house" (zaa (top 31) 4) ["self","thing"]) (zag:DfM K zab.C "answers" "Town.answers" (zaa (top 31) 3) ["self","name"]) (zac:DfM K zab.C "check_house" "Town.check_house" (zaa (top 31) 16) ["self","thing"]) (zaf:DfM K zab.C "check_answering" "Town.check_answering" (zaa (top 31) 17) ["self","thing"]) (za2:DfM K zab.C "come_to" "Town.come_to" (zaa (top 31) 8) ["self","house"]) (zak:zu1 K zab.C "hears_of" "Town.hears_of" (zaa (top 31) 25) ["self","house","name"]) (hB:base.BuiltinsAt mg zak.P) (zcm:DfM K zab.C "meet" "Town.meet" (zaa (top 31) 24) ["self","one","other"]) (zcf:DfM K zab.C "visits" "Town.visits" (zaa (top 31) 23) ["self","house","door"]):zbe P w K mg base CX0 11 zcf.f zcf.fd ["self","house","door"] (zuh zaj.C zat.C zab.C zak.P):=by
  have hcl:=zab.cl
  have zkj:zbe P w K mg base CX0 6 _ _ _ _:=zi7 T zao zaz zah zan zaj zax zat za7 zab zae zag zac zaf za2
  have zov:zbe P w K mg base CX0 10 _ _ _ _:=zmy T hK zfm zeg zah zan zaj zav za_ zat za1 zbl zab zae zag zak hB zcm
  refine zcf.fn.ok zfi (fun vs H Q E h=>?_) (fun cdv A outer s H vs Q E hr h=>?_)
  · obtain ⟨w,td,sd,z,r,hs,sil,pool,TT,h,d,rfl,_⟩:=h
    rfl
  · obtain ⟨w,td,sd,z,r,hs,sil,pool,TT,h,d,rfl,hW,hA,hh,hd,hds,hO,hpl,hps,hT,k⟩:=h
    obtain ⟨⟨dx,hob⟩,-⟩:=id hW
    have hln:=hW.ln
    have hr1:=hW.r1
    have hr2:=hW.r2
    have hc64:∀ g∈hs,(zf9 (TT g).ns z.toNat).length<64:=fun g hg=>Nat.lt_of_le_of_lt (hO.len hg z.toNat) hpl
    refine ⟨_,(zaq (zkx (i:=3) zfi.nd rfl (Or.inl rfl) rfl (zdn (own:=["name"]) (caps:=[1]) (N':=["name","house"]) (by kernel_rfl)) (zee (zb7 (pv 0) zab.cl za2.me zkj (hr.mono (by decide)) za2.b .nil zbm (zad (pv 2) zar))) (fun _ _ _ _ _=>(zcw (i:=0) (show (["name","house"]:List Str).Nodup by decide +kernel) rfl (Or.inl rfl))) (fun _ _ _ _ _=>(zh9 (zbk zum (pv 0) (pv 1) (zb8 _)))) (fun _ _ _ _ _=>(pv 0)))
      (zaq (zf4 PassesOwn.never rfl (zee (pv 3)) (zcw (i:=4) zfi.nd rfl (Or.inl rfl))
       (zas (zbj (zb7 (pv 0) zab.cl zcm.me zov (hr.mono (by decide)) zcm.b .nil zbm (zad (pv 1) (zad (pv 4) zar))))))
      (zas (zbh (pv 3))))),?_⟩
    walk_at "w"
    intro l ks H1 s1 hl hl1 hnd hmem
    have hW1:za9 zaj.C zat.C zab.C H1 w td sd z r hs sil TT:=hW.keep fun q o _ e=>s1 _ _ e
    have inHs:∀ x∈ks,x∈hs:=fun x hx=>by
      have hx:=(hmem x).mp hx
      cases hx with
      | own=>exact hd
      | go _ e =>
        have e2:=e.2
        unfold awB at e2
        simp only [Bool.and_eq_true,decide_eq_true_eq] at e2
        exact e2.1
    have hkl:ks.length≤hs.length:=zct hnd inHs
    walk_at "w"
    intro D hD
    refine zel (zs_ h) hD (SqL.of hl1) (by rw [zd2]; omega) (fun x hx H2 Qt s2 q=>?_) fun H2 s2 hD2=>?_
    · walk_at "w"
      exact q H2 (zbf.refl H2)
    · have hD2:H2 D=some (.lst ((zhz h ks).map V.int)):=hD2
      have s12:zbf H H2:=s1.trans s2
      have hW2:za9 zaj.C zat.C zab.C H2 w td sd z r hs sil TT:=hW.keep fun q o _ e=>s12 _ _ e
      have hT2:Tab H2 zak.P (zfo zg7) quH:=(s12.but _).2 _ _ hT
      have hD0:H D=none:=s1.free hD
      have nD:=hW.notOwn hD0
      walk_at "w"
      refine zfe (K:=K) (a:=D) (xs:=(zhz h ks).map V.int) (fun j σ H6=>zj2 (∃ (v:Option V) (T6:Int→zdz),σ=[some (.ref w),some (.int h),some (.int d),some (.ref D),v]∧za9 zaj.C zat.C zab.C H6 w td sd z r hs sil T6∧zfr z.toNat hs T6∧(fun g=>(T6 g).ns)=zdb r (awB hs sil) (fun g=>(TT g).ns) h ((zhz h ks).take j)∧zgx zak.P H2 H6 (Own td sd z.toNat hs TT) (Own td sd z.toNat hs T6)∧Tab H6 zak.P (zfo zg7) quH)) ?_ (fun j σ H6 _ ⟨_,_,_,_,_,_,e,_⟩=>SqL.of (e.k _ _ (fun _ z=>nomatch z) hD2 nD)) ?_ ?_
      · exact ⟨⟨_,TT,rfl,hW2,hA,rfl,zgx.refl _ _,hT2⟩⟩
      · rintro j y σ H6 hj ⟨v,T6,rfl,W6,A6,e6,d6,hT6⟩
        obtain ⟨x,hx,rfl⟩:∃ x,(zhz h ks)[j]? = some x∧y=V.int x:=by
          rw [List.getElem?_map] at hj
          cases e:(zhz h ks)[j]? with
          | none=>rw [e] at hj; cases hj
          | some x=>rw [e] at hj; exact ⟨x,rfl,(Option.some.inj hj).symm⟩
        have hxm:=zhi (List.mem_of_getElem? hx)
        have hxh:=inHs x hxm.1
        have hxn:=hxm.2
        have O6:NOk pool z.toNat r hs (fun g=>(T6 g).ns):=by
          rw [e6]
          exact NOk.meets hr1 (hps h hh) (fun y hy=>by
            have:=zhi (List.mem_of_mem_take hy)
            exact ⟨hps y (inHs y this.1),this.2⟩) hO
        have hle6:∀ g∈hs,∀ k,((T6 g).ns k).length≤1000:=fun g hg k=>by
          have:(((T6 g).ns k).length:Int)≤r:=O6.le g hg k
          omega
        obtain ⟨⟨dx6,hob6⟩,-⟩:=id W6
        walk_at "w"
        intro H7 T7 W7 A7 e7 d7 hT7
        refine ⟨⟨_,T7,rfl,W7,A7,?_,d6.trans d7,hT7⟩⟩
        rw [e7,e6,zge hx,zgk]
      · rintro σ H6 ⟨v,T6,rfl,W6,A6,e6,d6,hT6⟩
        rw [List.length_map,List.take_length] at e6
        walk_at "w"
        refine k D ks H6 T6 hnd hmem W6 A6 e6 ((zgx.same s12).trans d6) hT6 hD0 (fun y=>?_) (d6.k _ _ (fun _ z=>nomatch z) hD2 nD)
        rcases d6.o D y with y | y
        · exact nD y
        · rw [hD2] at y
          cases y
theorem zgn:za3 ["self","name","door","visited"] ["self","name","door"] (zai (zaa (top 31) 11)):=⟨rfl,rfl,rfl,by decide +kernel,rfl,by decide +kernel,by decide +kernel⟩
def zlx (N:Int→Nat→List Int) (i:Int):Int→Nat→List Int:=zqs N i (fun _=>[])
def zu_ (CB CT CW T1:Addr):Sp:=fun vs H Q _=>∃ (w td sd:Addr) (z r:Int) (hs sil pool:List Int) (T:Int→zdz) (i:Int) (dv:V),vs=[.ref w,.int i,dv]∧za9 CB CT CW H w td sd z r hs sil T∧zfr z.toNat hs T∧0≤i∧i<2 ^ z.toNat∧i∉hs∧hs.length<60∧NOk pool z.toNat r hs (fun g=>(T g).ns)∧pool.length<64∧(∀ x∈hs,x∈pool)∧i∈pool∧(dv = .non∨∃ d,dv = .int d∧d∈hs∧d∉sil)∧Tab H T1 (zfo zg7) quH ∧
 ∀ (l:Addr) (vis:List Int) (H':Hp) (T':Int→zdz),(dv = .non→vis=[])→(∀ d,dv = .int d→∃ ks:List Int,ks.Nodup∧(∀ x,x∈ks↔Rch (zop z.toNat (awB (hs++[i]) sil) (zlx (fun g=>(T g).ns) i)) d x)∧vis=zhz i ks) →
  za9 CB CT CW H' w td sd z r (hs++[i]) sil T'→zfr z.toNat (hs++[i]) T'→(fun g=>(T' g).ns)=zdb r (awB (hs++[i]) sil) (zlx (fun g=>(T g).ns) i) i vis →
  zgx T1 H H' (Own td sd z.toNat hs T) (Own td sd z.toNat (hs++[i]) T')→Tab H' T1 (zfo zg7) quH→H l=none→¬ Own td sd z.toNat (hs++[i]) T' l→H' l=some (.lst (vis.map V.int))→Q (.ref l) H'
theorem zml (T:Txt mg) (hK:K.In base) (za5:DfE K mg "NoName") (zao:DfE K mg "NoHouse") (zaz:DfE K mg "Silent") (zbw:DfE K mg "Taken") (zfm:Df K mg "far" (top 13) ["one","other"]) (zeg:Df K mg "step" (top 16) ["one","other"]) (zah:Df K mg "is_whole" (top 11) ["thing"]) (zan:Df K mg "is_name" (top 12) ["thing","wide"]) (zaj:DfC K mg "Bucket" ["room","order"]) (zbg:DfM K zaj.C "__init__" "Bucket.__init__" (zaa (top 26) 0) ["self","room"]) (zax:DfM K zaj.C "names" "Bucket.names" (zaa (top 26) 4) ["self"]) (zav:DfM K zaj.C "hears_when_full" "Bucket.hears_when_full" (zaa (top 26) 2) ["self","name","answers"]) (za_:DfM K zaj.C "hears" "Bucket.hears" (zaa (top 26) 1) ["self","name","answers"]) (zat:DfC K mg "Table" ["own","wide","room","buckets"]) (zb0:DfM K zat.C "__init__" "Table.__init__" (zaa (top 28) 0) ["self","own","wide","room"]) (za7:DfM K zat.C "keeps" "Table.keeps" (zaa (top 28) 5) ["self"]) (za1:DfM K zat.C "bucket_of" "Table.bucket_of" (zaa (top 28) 3) ["self","name"]) (zbl:DfM K zat.C "hears" "Table.hears" (zaa (top 28) 1) ["self","name","answers"])
    (zab:DfC K mg "Town" ["wide","room","tables","silent"]) (zae:DfM K zab.C "is_house" "Town.is_house" (zaa (top 31) 4) ["self","thing"]) (zag:DfM K zab.C "answers" "Town.answers" (zaa (top 31) 3) ["self","name"]) (zau:DfM K zab.C "check_name" "Town.check_name" (zaa (top 31) 15) ["self","thing"]) (zac:DfM K zab.C "check_house" "Town.check_house" (zaa (top 31) 16) ["self","thing"]) (zaf:DfM K zab.C "check_answering" "Town.check_answering" (zaa (top 31) 17) ["self","thing"]) (za2:DfM K zab.C "come_to" "Town.come_to" (zaa (top 31) 8) ["self","house"]) (zak:zu1 K zab.C "hears_of" "Town.hears_of" (zaa (top 31) 25) ["self","house","name"]) (hB:base.BuiltinsAt mg zak.P) (zcm:DfM K zab.C "meet" "Town.meet" (zaa (top 31) 24) ["self","one","other"]) (zc4:DfM K zab.C "settles" "Town.settles" (zaa (top 31) 19) ["self","house","visited"]) (zcf:DfM K zab.C "visits" "Town.visits" (zaa (top 31) 23) ["self","house","door"]) (zbs:ztg K zab.C "come" "Town.come" (zaa (top 31) 11) ["self","name","door"] [Value.none]):zbe P w K mg base CX0 12 zbs.f zbs.fd ["self","name","door"] (zu_ zaj.C zat.C zab.C zak.P):=by
  have hcl:=zab.cl
  obtain ⟨na1,na2,na3,na4,-⟩:=zab.na
  have zix:zbe P w K mg base CX0 3 _ _ _ _:=zk3 T zaj zbg zat zb0
  have zh5:zbe P w K mg base CX0 3 _ _ _ _:=zhh (CB:=zaj.C) (CT:=zat.C) T za5 zah zan zab zau
  have zch:zbe P w K mg base CX0 3 _ _ _ _:=zde (CB:=zaj.C) (CT:=zat.C) T zah zan zab zae
  have zdi:zbe P w K mg base CX0 5 _ _ _ _:=zef (CB:=zaj.C) (CT:=zat.C) T zao zaz zah zan zab zae zag zac zaf
  have zld:zbe P w K mg base CX0 11 _ _ _ _:=zka T hK zao zaz zfm zeg zah zan zaj zax zav za_ zat za7 za1 zbl zab zae zag zac zaf za2 zak hB zcm zcf
  have zkg:zbe P w K mg base CX0 1 _ _ _ _:=zj0 zc4
  refine zbs.ok zgn (fun vs H Q E h=>?_) (fun cdv A outer s H vs Q E hr h=>?_)
  · obtain ⟨w,td,sd,z,r,hs,sil,pool,TT,i,dv,rfl,_⟩:=h
    rfl
  · obtain ⟨w,td,sd,z,r,hs,sil,pool,TT,i,dv,rfl,hW,hA,h0,h1,hni,hlen,hO,hpl,hps,hip,hdv,hTb,k⟩:=h
    obtain ⟨⟨dx,hob⟩,htb,hsi,hta,hnd,hhb,hz1,hz2,hr1,hr2,hln,hts⟩:=id hW
    have hn:zdj z i=true:=zgq h0 h1 hz1
    have fin:∀ (t dxt:Addr),H t=none→H dxt=none→dxt≠t→∀ (bl:Addr) (bA lA:Nat→Addr) (H1:Hp),zey zaj.C zat.C H1 t bl i z r z.toNat bA lA (fun _=>[])→upd (upd H dxt (.own t)) t (.ins zat.C dxt []) bl=none →
        (∀ k,k<z.toNat→upd (upd H dxt (.own t)) t (.ins zat.C dxt []) (bA k)=none∧upd (upd H dxt (.own t)) t (.ins zat.C dxt []) (lA k)=none)→ztp t (upd (upd H dxt (.own t)) t (.ins zat.C dxt [])) H1 →
        ∃ (H2:Hp) (T2:Int→zdz),H2=upd H1 td (.dK (zfa (zdx hs TT) (Sum.inl i) (V.ref t)))∧H1 td=some (.dK (zdx hs TT))∧H1 w=some (.ins zab.C dx (wF z r td sd))∧za9 zaj.C zat.C zab.C H2 w td sd z r (hs++[i]) sil T2∧zfr z.toNat (hs++[i]) T2∧(fun g=>(T2 g).ns)=zlx (fun g=>(TT g).ns) i∧zgx zak.P H H2 (Own td sd z.toNat hs TT) (Own td sd z.toNat (hs++[i]) T2)∧Tab H2 zak.P (zfo zg7) quH:=fun t dxt ht hdx hne bl bA lA H1 hTab hbl hnew hb1=>by
      have s1:zbf H H1:=fun q o e=>hb1 q o (by rw [zal (zap e ht),zal (zap e hdx)]; exact e) (zap e ht)
      have old:∀ {q:Addr},upd (upd H dxt (.own t)) t (.ins zat.C dxt []) q=none→H q=none:=fun {q} e=>by
        cases eq:H q with
        | none=>rfl
        | some o =>
          rw [zal (zap eq ht),zal (zap eq hdx),eq] at e
          cases e
      have htb1:=s1 _ _ htb
      have hob1:=s1 _ _ hob
      have ntw:w≠td:=zd_ hob1 htb1 (by intro z; cases z)
      let T2:Int→zdz:=zqs TT i ⟨t,bl,bA,lA,fun _=>[]⟩
      have eT:∀ h∈hs,T2 h=TT h:=fun h hh=>zco (fun e=>hni (by rw [← e]; exact hh))
      have eTi:T2 i=⟨t,bl,bA,lA,fun _=>[]⟩:=zb4
      have fr:∀ q o,(∀ ps,o≠ .tbl ps)→(∀ d,o≠ .dK d)→H1 q=some o→upd H1 td (.dK (zfa (zdx hs TT) (Sum.inl i) (V.ref t))) q=some o:=fun q o _ hd e=>by
        rw [zal (fun y=>by rw [y,htb1] at e; exact hd _ (Option.some.inj e).symm)]
        exact e
      have mem:∀ {h:Int},h∈hs++[i]→h∈hs∧T2 h=TT h∨h=i:=fun {h} hh=>by
        rcases List.mem_append.mp hh with m | m
        · exact .inl ⟨m,eT h m⟩
        · exact .inr (List.mem_singleton.mp m)
      have exb:∀ h∈hs,∀ j,j<z.toNat→(∃ o,H ((TT h).bA j)=some o)∧(∃ o,H ((TT h).lA j)=some o):=fun h hh j hj=>⟨hW.ex (.inr (.inr ⟨h,hh,.inr ⟨j,hj,.inl rfl⟩⟩)),hW.ex (.inr (.inr ⟨h,hh,.inr ⟨j,hj,.inr rfl⟩⟩))⟩
      have nb:∀ k,k<z.toNat→H (bA k)=none∧H (lA k)=none:=fun k hk=>⟨old (hnew k hk).1,old (hnew k hk).2⟩
      refine ⟨_,T2,rfl,htb1,hob1,⟨⟨dx,?_⟩,?_,?_,fun h hh=>?_,zdg hnd hni,fun h hh=>?_,hz1,hz2,hr1,hr2,?_,hts⟩,⟨?_,?_,?_⟩,?_,⟨?_,?_,?_,fun q ps e _=>by
        rw [zal (fun y=>by rw [y,htb] at e; cases e)]
        exact s1 _ _ e⟩,?_⟩
      · exact fr _ _ (fun _ z=>nomatch z) (fun _ z=>nomatch z) hob1
      · rw [zam,zi3 _ (by rw [zep,if_neg hni])]
        unfold zdx
        rw [List.map_append]
        congr 2
        congr 1
        · exact List.map_congr_left fun h hh=>by rw [eT h hh]
        · show [(Sum.inl i,V.ref t)]=[(Sum.inl i,V.ref (T2 i).t)]
          rw [eTi]
      · rw [zal hts.symm]
        exact s1 _ _ hsi
      · rcases mem hh with ⟨m,e⟩ | rfl
        · rw [e]
          exact (((hta h m).same s1).keepD fr)
        · rw [eTi]
          exact hTab.keepD fr
      · rcases List.mem_append.mp hh with m | m
        · exact hhb h m
        · rw [List.mem_singleton.mp m]
          exact ⟨h0,h1⟩
      · rw [List.length_append,List.length_singleton]
        omega
      · intro h hh g hg hne' a b ha hb
        rcases mem hh with ⟨m1,e1⟩ | rfl <;> rcases mem hg with ⟨m2,e2⟩ | rfl
        · rw [e1,e2]
          exact hA.b h m1 g m2 hne' a b ha hb
        · rw [e1,eTi]
          obtain ⟨o,eo⟩:=(exb h m1 a ha).1
          exact zap eo (nb b hb).1
        · rw [e2,eTi]
          obtain ⟨o,eo⟩:=(exb g m2 b hb).1
          exact (zap eo (nb a ha).1).symm
        · exact absurd rfl hne'
      · intro h hh g hg hne' a b ha hb
        rcases mem hh with ⟨m1,e1⟩ | rfl <;> rcases mem hg with ⟨m2,e2⟩ | rfl
        · rw [e1,e2]
          exact hA.l h m1 g m2 hne' a b ha hb
        · rw [e1,eTi]
          obtain ⟨o,eo⟩:=(exb h m1 a ha).2
          exact zap eo (nb b hb).2
        · rw [e2,eTi]
          obtain ⟨o,eo⟩:=(exb g m2 b hb).2
          exact (zap eo (nb a ha).2).symm
        · exact absurd rfl hne'
      · intro h hh g hg hne' b hb
        rcases mem hh with ⟨m1,e1⟩ | rfl <;> rcases mem hg with ⟨m2,e2⟩ | rfl
        · rw [e1,e2]
          exact hA.n h m1 g m2 hne' b hb
        · rw [e1,eTi]
          exact zap (hta h m1).li (nb b hb).2
        · rw [e2,eTi]
          obtain ⟨o,eo⟩:=(exb g m2 b hb).2
          exact (zap eo (old hbl)).symm
        · exact absurd rfl hne'
      · funext g
        show (zqs TT i ⟨t,bl,bA,lA,fun _=>[]⟩ g).ns=zqs (fun g=>(TT g).ns) i (fun _=>[]) g
        by_cases e:g=i
        · subst e
          rw [zb4,zb4]
        · rw [zco e,zco e]
      · intro q o ho e hno
        rw [zal (fun y=>hno (.inl y))]
        exact s1 _ _ e
      · intro q hq
        rcases hq with y | y | ⟨h,hh,y⟩
        · exact .inl (.inl y)
        · exact .inl (.inr (.inl y))
        · rcases mem hh with ⟨m,e⟩ | rfl
          · rw [e] at y
            exact .inl (.inr (.inr ⟨h,m,y⟩))
          · rw [eTi] at y
            rcases y with rfl | ⟨j,hj,rfl | rfl⟩
            · exact .inr (old hbl)
            · exact .inr (nb j hj).1
            · exact .inr (nb j hj).2
      · intro q hq
        by_cases e:q=td
        · rw [e,zam] at hq
          cases hq
        · rw [zal e] at hq
          exact s1.free hq
      · have hT1:Tab H1 zak.P (zfo zg7) quH:=(s1.but _).2 _ _ hTb
        refine Tab.hold hT1 fun q o ho e=>?_
        rw [zal (fun y=>?_)]
        · exact e
        · rw [y,htb1] at e
          cases e
          rcases ho with ⟨x,kk,e2⟩ | e2
          · cases e2
          · obtain ⟨ps,hP,_⟩:=hT1
            rw [← e2,y,htb1] at hP
            cases hP
    have hszd:(zdx hs TT).length<sizeLine:=by
      unfold zdx
      rw [List.length_map]
      exact zbu (by omega)
    refine ⟨_,(zaq (zbj (zb7 (pv 0) zab.cl zau.me zh5 (hr.mono (by decide)) zau.b .nil zbm (zad (pv 1) zar)))
      (zaq (zcq (zdv (zb7 (pv 0) zab.cl zae.me zch (hr.mono (by decide)) zae.b .nil zbm (zad (pv 1) zar)))
       (zas (zed (W:=fun _=>False) zbw rfl rfl (zad zb6 zar) (fun _ _ _ _ _ _ _ _ _ hw=>hw.elim)))
       zbo)
      (zaq (zcq (zbk zno (pv 2) zht (zb8 _))
       (zas (zbj (zb7 (pv 0) zab.cl zaf.me zdi (hr.mono (by decide)) zaf.b .nil zbm (zad (pv 2) zar))))
       zbo)
      (zaq (zia (zcj hr) (zc0 (pv 0) rfl) (pv 1) (zoo (DfM.mk' zat zb0) zix (hr.mono (by decide)) rfl zat.hm zb0.b .nil zbm (zad (pv 1) (zad (zc0 (pv 0) rfl) (zad (zc0 (pv 0) rfl) zar)))) rfl)
      (zaq (zcp (i:=3) zgn.nd rfl (Or.inl rfl) (zub (zbk zr0 (pv 2) zht (zb8 _)) (zc9 zar) (zb7 (pv 0) zab.cl zcf.me zld (hr.mono (by decide)) zcf.b .nil zbm (zad (pv 1) (zad (pv 2) zar)))))
      (zaq (zbj (zb7 (pv 0) zab.cl zc4.me zkg (hr.mono (by decide)) zc4.b .nil zbm (zad (pv 1) (zad (pv 3) zar))))
      (zas (zbh (pv 3))))))))),?_⟩
    walk_at "w"
    refine .inl ⟨i,rfl,?_⟩
    rw [hn,decide_eq_false hni]
    rcases hdv with rfl | ⟨d,rfl,hd,hds⟩
    · walk_at "w"
      intro t dxt ht hdx hne
      walk_at "w"
      intro bl bA lA H1 hTab hbl hnew hb1
      obtain ⟨H2,T2,rfl,htb1,hob1,W2,A2,e2,d2,hT2⟩:=fin t dxt ht hdx hne bl bA lA H1 hTab hbl hnew hb1
      have hput:zkr H1 td (V.int i) (V.ref t) (upd H1 td (.dK (zfa (zdx hs TT) (Sum.inl i) (V.ref t)))):=zkr.k (k:=Sum.inl i) htb1 hszd
      generalize upd H1 td (.dK (zfa (zdx hs TT) (Sum.inl i) (V.ref t)))=H2 at hput W2 d2 hT2 ⊢
      walk_at "w"
      intro l hl
      have s3:zbf H2 (upd H2 l (.lst [])):=zbf.new H2 hl
      have hl3:upd H2 l (.lst []) l=some (.lst []):=zam
      generalize upd H2 l (.lst [])=H3 at s3 hl3 ⊢
      have W3:za9 zaj.C zat.C zab.C H3 w td sd z r (hs++[i]) sil T2:=W2.keep fun q o _ e=>s3 _ _ e
      obtain ⟨⟨dx3,hob3⟩,-⟩:=id W3
      walk_at "w"
      exact k l [] H3 T2 (fun _=>rfl) (fun d y=>(nomatch y)) W3 A2 e2 (d2.trans (zgx.same s3)) ((s3.but _).2 _ _ hT2) (d2.e _ hl) (W2.notOwn hl) hl3
    · walk_at "w"
      intro t dxt ht hdx hne
      walk_at "w"
      intro bl bA lA H1 hTab hbl hnew hb1
      obtain ⟨H2,T2,rfl,htb1,hob1,W2,A2,e2,d2,hT2⟩:=fin t dxt ht hdx hne bl bA lA H1 hTab hbl hnew hb1
      have hput:zkr H1 td (V.int i) (V.ref t) (upd H1 td (.dK (zfa (zdx hs TT) (Sum.inl i) (V.ref t)))):=zkr.k (k:=Sum.inl i) htb1 hszd
      generalize upd H1 td (.dK (zfa (zdx hs TT) (Sum.inl i) (V.ref t)))=H2 at hput W2 d2 hT2 ⊢
      have O2:NOk pool z.toNat r (hs++[i]) (fun g=>(T2 g).ns):=by
        rw [e2]
        unfold zlx
        refine ⟨fun h hh k=>?_,fun h hh k=>?_,fun h hh k m hm=>?_⟩
        · by_cases e:h=i
          · rw [e,zb4]
            exact List.nodup_nil
          · rw [zco e]
            exact hO.nd h ((List.mem_append.mp hh).elim id fun y=>absurd (List.mem_singleton.mp y) e) k
        · by_cases e:h=i
          · rw [e,zb4]
            simp only [List.length_nil]
            omega
          · rw [zco e]
            exact hO.le h ((List.mem_append.mp hh).elim id fun y=>absurd (List.mem_singleton.mp y) e) k
        · by_cases e:h=i
          · rw [e,zb4] at hm
            cases hm
          · rw [zco e] at hm
            exact hO.st h ((List.mem_append.mp hh).elim id fun y=>absurd (List.mem_singleton.mp y) e) k m hm
      have hps2:∀ x∈hs++[i],x∈pool:=fun x hx=>(List.mem_append.mp hx).elim (hps x) fun y=>List.mem_singleton.mp y ▸ hip
      have him:i∈hs++[i]:=List.mem_append_right _ (List.mem_singleton.mpr rfl)
      have hdm:d∈hs++[i]:=List.mem_append_left _ hd
      obtain ⟨⟨dx2,hob2⟩,-⟩:=id W2
      walk_at "w"
      intro l ks H3 T3 hnd3 hmem W3 A3 e3 d3 hT3 hl hnl hl3
      obtain ⟨⟨dx3,hob3⟩,-⟩:=id W3
      rw [e2] at hmem e3
      walk_at "w"
      exact k l (zhz i ks) H3 T3 (fun y=>(nomatch y)) (fun d' y=>⟨ks,hnd3,by cases y; exact hmem,rfl⟩) W3 A3 e3 (d2.trans d3) hT3 (d2.e _ hl) hnl hl3
end
def zta (h:Int) (l:List Int):List Int:=if h∈l then l else l++[h]
theorem zss {h:Int} {sil:List Int}:zfa (zf5 sil) (Sum.inl h) (V.bl true)=zf5 (zta h sil):=by
 unfold zta
 by_cases e:h∈sil
 ·rw [if_pos e]
  unfold zfa
  rw [if_pos (by rw [zhx,zev,decide_eq_true e])]
  unfold zf5
  rw [List.map_map]
  refine List.map_congr_left fun x _=>?_
  show (if (Sum.inl x:Key)=Sum.inl h then ((Sum.inl x:Key),V.bl true) else ((Sum.inl x:Key),V.bl true))=_
  split <;> rfl
 ·rw [if_neg e]
  exact zpq e
section
variable {CB CT CW w td sd:Addr} {H H':Hp} {z r:Int} {hs sil:List Int} {T:Int→zdz}
theorem za9.dicts (W:za9 CB CT CW H w td sd z r hs sil T) {hs' sil':List Int} (k:∀ q o,H q=some o→q≠td→q≠sd→H' q=some o) (e1:H' td=some (.dK (zdx hs' T))) (e2:H' sd=some (.dK (zf5 sil'))) (hn:hs'.Nodup) (hm:∀ x∈hs',x∈hs) (hl:hs'.length≤60):za9 CB CT CW H' w td sd z r hs' sil' T:=by
 obtain ⟨⟨dx,h1⟩,h2,h3,h4,h5,h6,h7,h8,h9,h10,h11,h12⟩:=W
 have up:∀ q o,(∀ d,o≠ .dK d)→H q=some o→H' q=some o:=fun q o hd e=>k q o e (fun y=>by rw [y,h2] at e; exact hd _ (Option.some.inj e).symm) (fun y=>by rw [y,h3] at e; exact hd _ (Option.some.inj e).symm)
 exact ⟨⟨dx,up _ _ (fun _ z=>nomatch z) h1⟩,e1,e2,fun h hh=>(h4 h (hm h hh)).keepD fun q o _ hd e=>up q o hd e,hn,fun h hh=>h6 h (hm h hh),h7,h8,h9,h10,hl,h12⟩
theorem zfr.sub {n:Nat} {hs':List Int} (A:zfr n hs T) (hm:∀ x∈hs',x∈hs):zfr n hs' T:=⟨fun h hh g hg=>A.b h (hm h hh) g (hm g hg),fun h hh g hg=>A.l h (hm h hh) g (hm g hg),fun h hh g hg=>A.n h (hm h hh) g (hm g hg)⟩
theorem NOk.sub {pool:List Int} {n:Nat} {hs':List Int} {N:Int→Nat→List Int} (O:NOk pool n r hs N) (hm:∀ x∈hs',x∈hs):NOk pool n r hs' N:=⟨fun h hh=>O.nd h (hm h hh),fun h hh=>O.le h (hm h hh),fun h hh=>O.st h (hm h hh)⟩
theorem zgx.dicts {T1:Addr} (W:za9 CB CT CW H w td sd z r hs sil T) {hs':List Int} (k:∀ q o,H q=some o→q≠td→q≠sd→H' q=some o) (x1:∃ o,H' td=some o) (x2:∃ o,H' sd=some o) (hm:∀ x∈hs',x∈hs):zgx T1 H H' (Own td sd z.toNat hs T) (Own td sd z.toNat hs' T):=by
  refine ⟨fun q o _ e hn=>k q o e (fun y=>hn (.inl y)) (fun y=>hn (.inr (.inl y))),fun q hq=>?_,fun q hq=>?_,fun q ps e _=>k q _ e (fun y=>by rw [y,W.tb] at e; cases e) (fun y=>by rw [y,W.si] at e; cases e)⟩
  · rcases hq with y | y | ⟨g,hg,y⟩
    · exact .inl (.inl y)
    · exact .inl (.inr (.inl y))
    · exact .inl (.inr (.inr ⟨g,hm g hg,y⟩))
  · cases e:H q with
    | none=>rfl
    | some o =>
      exfalso
      by_cases y1:q=td
      · obtain ⟨o1,e1⟩:=x1
        rw [y1,e1] at hq
        cases hq
      · by_cases y2:q=sd
        · obtain ⟨o1,e1⟩:=x2
          rw [y2,e1] at hq
          cases hq
        · rw [k q o e y1 y2] at hq
          cases hq
theorem Tab.dicts {T1:Addr} {po:Pos} {qu:Str} (W:za9 CB CT CW H w td sd z r hs sil T) (t:Tab H T1 po qu) (k:∀ q o,H q=some o→q≠td→q≠sd→H' q=some o):Tab H' T1 po qu:=Tab.hold t fun q o ho e=>by
 have key:∀ d,o≠ .dK d:=fun d y=>by
  subst y
  rcases ho with ⟨x,kk,e2⟩ | e2
  ·cases e2
  ·obtain ⟨ps,hP,_⟩:=t
   rw [← e2,e] at hP
   cases hP
 exact k q o e (fun y=>by rw [y,W.tb] at e; exact key _ (Option.some.inj e).symm) (fun y=>by rw [y,W.si] at e; exact key _ (Option.some.inj e).symm)
end
section
variable {P:Program} {w:World} {K:PySem.W.Frag} {mg:Str→Option Value} {base:Heap}
theorem zio:za3 ["self","house"] ["self","house"] (zai (zaa (top 31) 13)):=⟨rfl,rfl,rfl,by decide +kernel,rfl,by decide +kernel,by decide +kernel⟩
def zw9 (CB CT CW:Addr):Sp:=fun vs H Q _=>∃ (w td sd:Addr) (z r:Int) (hs sil:List Int) (T:Int→zdz) (i:Int),vs=[.ref w,.int i]∧za9 CB CT CW H w td sd z r hs sil T∧i∈hs∧sil.length≤900 ∧
 ∀ (H':Hp),za9 CB CT CW H' w td sd z r hs (zta i sil) T→(∀ q o,H q=some o→q≠td→q≠sd→H' q=some o)→Q .non H'
theorem zm3 (T:Txt mg) {CB CT:Addr} (zao:DfE K mg "NoHouse") (zah:Df K mg "is_whole" (top 11) ["thing"]) (zan:Df K mg "is_name" (top 12) ["thing","wide"]) (zab:DfC K mg "Town" ["wide","room","tables","silent"]) (zae:DfM K zab.C "is_house" "Town.is_house" (zaa (top 31) 4) ["self","thing"]) (zac:DfM K zab.C "check_house" "Town.check_house" (zaa (top 31) 16) ["self","thing"]) (zbv:DfM K zab.C "hush" "Town.hush" (zaa (top 31) 13) ["self","house"]):zbe P w K mg base CX0 5 zbv.f zbv.fd ["self","house"] (zw9 CB CT zab.C):=by
 have hcl:=zab.cl
 obtain ⟨na1,na2,na3,na4,-⟩:=zab.na
 have zcg:zbe P w K mg base CX0 4 _ _ _ _:=zdd (CB:=CB) (CT:=CT) T zao zah zan zab zae zac
 refine zbv.fn.ok zio (fun vs H Q E h=>?_) (fun cdv A outer s H vs Q E hr h=>?_)
 ·obtain ⟨w,td,sd,z,r,hs,sil,TT,i,rfl,_⟩:=h
  rfl
 ·obtain ⟨w,td,sd,z,r,hs,sil,TT,i,rfl,hW,hi,hls,k⟩:=h
  obtain ⟨⟨dx,hob⟩,htb,hsi,-⟩:=id hW
  have hszd:(zf5 sil).length<sizeLine:=by
   unfold zf5
   rw [List.length_map]
   exact zbu (by omega)
  have hput:zkr H sd (V.int i) (V.bl true) (upd H sd (.dK (zfa (zf5 sil) (Sum.inl i) (V.bl true)))):=zkr.k (k:=Sum.inl i) hsi hszd
  have kk:∀ q o,H q=some o→q≠td→q≠sd→upd H sd (.dK (zfa (zf5 sil) (Sum.inl i) (V.bl true))) q=some o:=fun q o e _ y=>by rw [zal y]; exact e
  have hk:=k _ (hW.dicts kk (by rw [zal hW.ts]; exact htb) (by rw [zam,zss]) hW.nd (fun x hx=>hx) hW.ln) kk
  refine ⟨_,(zaq (zbj (zb7 (pv 0) zab.cl zac.me zcg (hr.mono (by decide)) zac.b .nil zbm (zad (pv 1) zar)))
   (zas (zia (zcj hr) (zc0 (pv 0) rfl) (pv 1) zgd rfl))),?_⟩
  walk_at "w"
theorem zpy:za3 ["self","house"] ["self","house"] (zai (zaa (top 31) 12)):=⟨rfl,rfl,rfl,by decide +kernel,rfl,by decide +kernel,by decide +kernel⟩
theorem zl2:za3 ["self","house","door","visited"] ["self","house","door"] (zai (zaa (top 31) 14)):=⟨rfl,rfl,rfl,by decide +kernel,rfl,by decide +kernel,by decide +kernel⟩
end
theorem zv0 (ns:List Int) (lo hi:Option Int):∃ ts:List Int,zjv (ns.map V.int) lo hi=ts.map V.int∧ts.length≤ns.length∧∀ x∈ts,x∈ns:=by
 unfold zjv
 refine ⟨(ns.drop _).take _,by rw [← List.map_drop,← List.map_take],?_,fun x hx=>List.mem_of_mem_drop (List.mem_of_mem_take hx)⟩
 rw [List.length_take,List.length_drop]
 omega
theorem zul (ns:List Int) {m:Int} (hm:0≤m):zjv (ns.map V.int) none (some m)=(ns.take m.toNat).map V.int:=by
 obtain ⟨k,rfl⟩:∃ k:Nat,m=k:=⟨m.toNat,by omega⟩
 unfold zjv
 rw [HT.sIx_none,HT.sIx_nat,List.drop_zero,Nat.sub_zero,List.length_map,← List.map_take,Int.toNat_natCast]
 congr 1
 rcases Nat.le_total k ns.length with h | h
 ·rw [Nat.min_eq_left h]
 ·rw [Nat.min_eq_right h,List.take_length,List.take_of_length_le h]
structure ze1 where
 d:Addr
 ks:List Nat
 l:Nat→Addr
abbrev zlp (ks:List Nat):List Int:=ks.map fun (k:Nat)=>(k:Int)
theorem zm1 {ks:List Nat} {k:Nat}:((k:Nat):Int)∈zlp ks↔k∈ks:=by
 constructor
 ·intro h
  obtain ⟨j,hj,e⟩:=List.mem_map.mp h
  have:j=k:=by omega
  exact this ▸ hj
 ·intro h
  exact List.mem_map.mpr ⟨k,h,rfl⟩
abbrev zzo (f:Int→Addr):Int→zdz:=fun h=>⟨f h,0,fun _=>0,fun _=>0,fun _=>[]⟩
def mtD (hs:List Int) (M:Int→ze1):List (Key × V):=zdx hs (zzo fun h=>(M h).d)
def mhD (R:ze1):List (Key × V):=zdx (zlp R.ks) (zzo fun i=>R.l i.toNat)
theorem zlo {hs:List Int} {M:Int→ze1} {i:Int}:zg9 (mtD hs M) (Sum.inl i)=if i∈hs then some (V.ref (M i).d) else none:=zep
theorem zjw {R:ze1} {k:Nat}:zg9 (mhD R) (Sum.inl (k:Int))=if k∈R.ks then some (V.ref (R.l k)) else none:=by
 unfold mhD
 rw [zep]
 by_cases h:k∈R.ks
 ·rw [if_pos h,if_pos (zm1.mpr h)]
  rfl
 ·rw [if_neg h,if_neg (fun z=>h (zm1.mp z))]
theorem zlr {hs:List Int} {M:Int→ze1}:(mtD hs M).map (·.1)=hs.map Sum.inl:=by
 unfold mtD zdx
 rw [List.map_map]
 rfl
theorem zuy {hs:List Int} {M:Int→ze1}:(mtD hs M).length=hs.length:=by
 unfold mtD zdx
 rw [List.length_map]
theorem zu5 {R:ze1}:(mhD R).length=R.ks.length:=by
 unfold mhD zdx
 rw [List.length_map,List.length_map]
structure zck (H:Hp) (md mt mq:Addr) (r:Int) (z:Nat) (hs sil:List Int) (N:Int→Nat→List Int) (M:Int→ze1):Prop where
 d:∃ kv,H md=some (.dK kv)∧zg9 kv (Sum.inr ("tables" : Str))=some (V.ref mt)∧zg9 kv (Sum.inr ("quiet" : Str))=some (V.ref mq)∧zg9 kv (Sum.inr ("room" : Str))=some (V.int r)
 t:Rd H mt (.dK (mtD hs M))
 q:H mq=some (.dK (zf5 sil))
 h:∀ h∈hs,H (M h).d=some (.dK (mhD (M h)))
 l:∀ h∈hs,∀ k∈(M h).ks,H ((M h).l k)=some (.lst ((N h k).map V.int))
 nd:∀ h∈hs,(M h).ks.Nodup
 no:∀ h∈hs,∀ k,k∉(M h).ks→N h k=[]
 dj:∀ h∈hs,∀ g∈hs,h≠g→(M h).d≠(M g).d
 n1:∀ h∈hs,(M h).d≠md∧(M h).d≠mt∧(M h).d≠mq
 n2:mt≠md∧mt≠mq∧md≠mq
 hn:hs.Nodup
 ln:hs.length≤60
 kl:∀ h∈hs,∀ k∈(M h).ks,k<z
 zl:z≤60
def zc6 (md mt mq:Addr) (hs:List Int) (M:Int→ze1) (q:Addr):Prop:=q=md∨q=mt∨q=mq∨∃ h∈hs,q=(M h).d∨∃ k∈(M h).ks,q=(M h).l k
structure zec (md:Addr) (H H':Hp) (F F':Addr→Prop):Prop where
 k:∀ q o,H q=some o→(∀ d,o≠ .dK d)→H' q=some o
 n:∀ q o,H q=some o→¬ F q→H' q=some o
 o:∀ q,F' q→F q∨H q=none
 e:∀ q,H' q=none→H q=none
 c:∀ o,H md=some o→H' md=some o
theorem zec.same {md:Addr} {H H':Hp} {F:Addr→Prop} (s:zbf H H'):zec md H H' F F:=⟨fun _ _ e _=>s _ _ e,fun _ _ e _=>s _ _ e,fun _ h=> .inl h,fun q h=>s.free h,fun _ e=>s _ _ e⟩
theorem zec.trans {md:Addr} {H H1 H2:Hp} {F F1 F2:Addr→Prop} (a:zec md H H1 F F1) (b:zec md H1 H2 F1 F2):zec md H H2 F F2:=by
 refine ⟨fun q o e ho=>b.k q o (a.k q o e ho) ho,fun q o e hn=>b.n q o (a.n q o e hn) fun z=>?_,fun q z=>?_,fun q h=>a.e q (b.e q h),fun o e=>b.c o (a.c o e)⟩
 ·rcases a.o q z with y | y
  ·exact hn y
  ·rw [e] at y
   cases y
 ·rcases b.o q z with y | y
  ·exact a.o q y
  ·exact .inr (a.e q y)
section
variable {H H':Hp} {md mt mq:Addr} {r:Int} {z:Nat} {hs sil:List Int} {N:Int→Nat→List Int} {M:Int→ze1}
theorem zck.len (W:zck H md mt mq r z hs sil N M) {h:Int} (hh:h∈hs):(M h).ks.length≤60:=by
 have:=zct (a:=zlp (M h).ks) (b:=zlp (List.range 60)) (List.Pairwise.map (fun (k:Nat)=>(k:Int)) (fun a b (hab:a≠b) (e:(a:Int)=(b:Int))=>hab (by omega)) (W.nd h hh)) (fun x hx=>by
  obtain ⟨k,hk,rfl⟩:=List.mem_map.mp hx
  exact List.mem_map.mpr ⟨k,List.mem_range.mpr (Nat.lt_of_lt_of_le (W.kl h hh k hk) W.zl),rfl⟩)
 simpa using this
theorem zck.ex (W:zck H md mt mq r z hs sil N M) {q:Addr} (h:zc6 md mt mq hs M q):∃ o,H q=some o:=by
 rcases h with rfl | rfl | rfl | ⟨h,hh,rfl | ⟨k,hk,rfl⟩⟩
 ·obtain ⟨kv,e,_⟩:=W.d
  exact ⟨_,e⟩
 ·rcases W.t with e | ⟨o,e⟩
  ·exact ⟨_,e⟩
  ·exact ⟨_,e⟩
 ·exact ⟨_,W.q⟩
 ·exact ⟨_,W.h h hh⟩
 ·exact ⟨_,W.l h hh k hk⟩
theorem zck.keep (W:zck H md mt mq r z hs sil N M) (s:∀ q,zc6 md mt mq hs M q→∀ o,(∀ ps,o≠ .tbl ps)→H q=some o→H' q=some o):zck H' md mt mq r z hs sil N M:=by
 obtain ⟨kv,e,a,b,c⟩:=W.d
 refine ⟨⟨kv,s _ (.inl rfl) _ (fun _ z=>nomatch z) e,a,b,c⟩,?_,s _ (.inr (.inr (.inl rfl))) _ (fun _ z=>nomatch z) W.q,fun h hh=>s _ (.inr (.inr (.inr ⟨h,hh,.inl rfl⟩))) _ (fun _ z=>nomatch z) (W.h h hh),fun h hh k hk=>s _ (.inr (.inr (.inr ⟨h,hh,.inr ⟨k,hk,rfl⟩⟩))) _ (fun _ z=>nomatch z) (W.l h hh k hk),W.nd,W.no,W.dj,W.n1,W.n2,W.hn,W.ln,W.kl,W.zl⟩
 rcases W.t with e | ⟨o,e⟩
 ·exact .inl (s _ (.inr (.inl rfl)) _ (fun _ z=>nomatch z) e)
 ·exact .inr ⟨o,s _ (.inr (.inl rfl)) _ (fun _ z=>nomatch z) e⟩
theorem zck.same (W:zck H md mt mq r z hs sil N M) (s:zbf H H'):zck H' md mt mq r z hs sil N M:=W.keep fun q _ o _ e=>s q o e
theorem zck.gT (W:zck H md mt mq r z hs sil N M):zew H md (V.str "tables") (some (V.ref mt)):=by
 obtain ⟨kv,e,a,_⟩:=W.d
 exact .inl ⟨kv,Sum.inr "tables",.inl e,rfl,a.symm⟩
theorem zck.gQ (W:zck H md mt mq r z hs sil N M):zew H md (V.str "quiet") (some (V.ref mq)):=by
 obtain ⟨kv,e,_,a,_⟩:=W.d
 exact .inl ⟨kv,Sum.inr "quiet",.inl e,rfl,a.symm⟩
theorem zck.gR (W:zck H md mt mq r z hs sil N M):zew H md (V.str "room") (some (V.int r)):=by
 obtain ⟨kv,e,_,_,a⟩:=W.d
 exact .inl ⟨kv,Sum.inr "room",.inl e,rfl,a.symm⟩
theorem zck.gO (W:zck H md mt mq r z hs sil N M) (i:Int):zew H mt (V.int i) (if i∈hs then some (V.ref (M i).d) else none):= .inl ⟨_,Sum.inl i,W.t,rfl,zlo.symm⟩
theorem zck.gH (W:zck H md mt mq r z hs sil N M) {i:Int} (h:i∈hs):zew H mt (V.int i) (some (V.ref (M i).d)):=by
 have:=W.gO i
 rwa [if_pos h] at this
end
def zt8:Sp:=fun vs H Q _=>∃ (md mt mq:Addr) (r:Int) (z:Nat) (hs sil:List Int) (N:Int→Nat→List Int) (M:Int→ze1) (x:Int),vs=[.ref md,.int x]∧zck H md mt mq r z hs sil N M∧Q (.bl (awB hs sil x)) H
section
variable {P:Program} {w:World} {K:PySem.W.Frag} {mg:Str→Option Value} {base:Heap}
theorem zre:za3 ["_law_model","_law_name_here"] ["_law_model","_law_name_here"] (zai (top 36)):=⟨rfl,rfl,rfl,by decide +kernel,rfl,by decide +kernel,by decide +kernel⟩
theorem zjq (D:Df K mg "_law_awake" (top 36) ["_law_model","_law_name_here"]):zbe P w K mg base CX0 1 D.f D.fd ["_law_model","_law_name_here"] zt8:=by
 refine D.fn.ok zre (fun vs H Q E h=>?_) (fun cdv A outer s H vs Q E hr h=>?_)
 ·obtain ⟨md,mt,mq,r,z,hs,sil,N,M,x,rfl,_⟩:=h
  rfl
 ·obtain ⟨md,mt,mq,r,z,hs,sil,N,M,x,rfl,W,k⟩:=h
  have gT:=W.gT
  have gQ:=W.gQ
  have gO:=W.gO x
  have hq:=W.q
  have hv:=zev (sil:=sil) (i:=x)
  refine ⟨_,(zas (zbh (zhs (zpb (zpd (zcj hr) (pv 1) (zby (zcj hr) (pv 0) zb6 (fun _ _=>rfl)))) (zjk (zpb (zeq (zcj hr) (pv 1) (zby (zcj hr) (pv 0) zb6 (fun _ _=>rfl)))))))),?_⟩
  unfold awB at k
  walk_at "w"
  by_cases hx:x∈hs
  ·rw [decide_eq_true hx,Bool.true_and] at k
   rw [if_pos hx]
   walk_at "w"
   rw [hv]
   exact k
  ·rw [decide_eq_false hx,Bool.false_and] at k
   rw [if_neg hx]
   walk_at "w"
def zt0:Sp:=fun vs H Q _=>∃ (md mt mq:Addr) (r:Int) (z:Nat) (hs sil:List Int) (N:Int→Nat→List Int) (M:Int→ze1) (h n:Int),vs=[.ref md,.int h,.int n]∧zck H md mt mq r z hs sil N M∧h∈hs∧n≠h∧0≤h∧0≤n∧zcn h n<z∧1≤r∧(N h (zcn h n)).Nodup∧(N h (zcn h n)).length≤900 ∧
 ∀ (H':Hp) (M':Int→ze1),zck H' md mt mq r z hs sil (zke r (awB hs sil) N h n) M'→zec md H H' (zc6 md mt mq hs M) (zc6 md mt mq hs M')→H' mt=H mt→Q .non H'
theorem zck.put {H H1:Hp} {md mt mq:Addr} {r:Int} {z:Nat} {hs sil:List Int} {N:Int→Nat→List Int} {M:Int→ze1} (W:zck H md mt mq r z hs sil N M) {h:Int} (hh:h∈hs) {k:Nat} (hk:k<z) (s1:zbf H H1) {l:Addr} (hl0:H l=none∨(k∈(M h).ks∧l=(M h).l k)) {xs:List Int} (hl:H1 l=some (.lst (xs.map V.int))) :
  ∃ M',zck (upd H1 (M h).d (.dK (zfa (mhD (M h)) (Sum.inl (k:Int)) (V.ref l)))) md mt mq r z hs sil (zqs N h (zj4 (N h) k xs)) M'∧zec md H (upd H1 (M h).d (.dK (zfa (mhD (M h)) (Sum.inl (k:Int)) (V.ref l)))) (zc6 md mt mq hs M) (zc6 md mt mq hs M'):=by
 have hd:=W.h h hh
 obtain ⟨a1,a2,a3⟩:=W.n1 h hh
 have nl:l≠(M h).d:=fun e=>by
  rcases hl0 with y | ⟨y,z⟩
  ·rw [e,hd] at y
   cases y
  ·have:=W.l h hh k y
   rw [← z,e,hd] at this
   cases this
 let ks':List Nat:=if k∈(M h).ks then (M h).ks else (M h).ks++[k]
 let M':Int→ze1:=zqs M h ⟨(M h).d,ks',zj4 (M h).l k l⟩
 have eM:M' h=⟨(M h).d,ks',zj4 (M h).l k l⟩:=zb4
 have eN:∀ g,g≠h→M' g=M g:=fun g e=>zco e
 have eD:∀ g,(M' g).d=(M g).d:=fun g=>by
  by_cases e:g=h
  ·rw [e,eM]
  ·rw [eN g e]
 have mem':∀ j,j∈ks'↔j∈(M h).ks∨j=k:=fun j=>by
  show j∈(if k∈(M h).ks then (M h).ks else (M h).ks++[k])↔_
  by_cases e:k∈(M h).ks
  ·rw [if_pos e]
   exact ⟨.inl,fun z=>z.elim id fun y=>y ▸ e⟩
  ·rw [if_neg e,List.mem_append,List.mem_singleton]
 have eput:zfa (mhD (M h)) (Sum.inl (k:Int)) (V.ref l)=mhD (M' h):=by
  rw [eM]
  show _=zdx (zlp ks') (zzo fun i=>zj4 (M h).l k l i.toNat)
  by_cases e:k∈(M h).ks
  ·have e1:ks'=(M h).ks:=if_pos e
   rw [e1]
   unfold zfa
   rw [if_pos (by rw [zhx,zjw,if_pos e]; rfl)]
   unfold mhD zdx zlp
   rw [List.map_map,List.map_map,List.map_map]
   refine List.map_congr_left fun j hj=>?_
   show (if (Sum.inl (j:Int):Key)=Sum.inl (k:Int) then ((Sum.inl (j:Int):Key),V.ref l) else ((Sum.inl (j:Int):Key),V.ref ((M h).l ((j:Int)).toNat)))=((Sum.inl (j:Int):Key),V.ref (zj4 (M h).l k l ((j:Int)).toNat))
   rw [Int.toNat_natCast]
   by_cases e2:j=k
   ·rw [e2,if_pos rfl,zb5]
   ·rw [if_neg (fun z=>e2 (by injection z with z; omega)),zca e2]
  ·have e1:ks'=(M h).ks++[k]:=if_neg e
   rw [e1,zi3 _ (by rw [zjw,if_neg e])]
   unfold mhD zdx zlp
   rw [List.map_append,List.map_append]
   congr 1
   ·refine List.map_congr_left fun i hi=>?_
    obtain ⟨j,hj,rfl⟩:=List.mem_map.mp hi
    show ((Sum.inl (j:Int):Key),V.ref ((M h).l ((j:Int)).toNat))=((Sum.inl (j:Int):Key),V.ref (zj4 (M h).l k l ((j:Int)).toNat))
    rw [Int.toNat_natCast,zca (fun (z:j=k)=>e (by rw [← z]; exact hj))]
   ·show [((Sum.inl (k:Int):Key),V.ref l)]=[((Sum.inl (k:Int):Key),V.ref (zj4 (M h).l k l ((k:Int)).toNat))]
    rw [Int.toNat_natCast,zb5]
 have up:∀ q o,q≠(M h).d→H q=some o→upd H1 (M h).d (.dK (zfa (mhD (M h)) (Sum.inl (k:Int)) (V.ref l))) q=some o:=fun q o hq e=>by
  rw [zal hq]
  exact s1 _ _ e
 have emt:mtD hs M'=mtD hs M:=by
  unfold mtD zdx
  exact List.map_congr_left fun g _=>by
   show ((Sum.inl g:Key),V.ref (M' g).d)=((Sum.inl g:Key),V.ref (M g).d)
   rw [eD]
 obtain ⟨kv,ekv,b1,b2,b3⟩:=W.d
 refine ⟨M',⟨⟨kv,up _ _ a1.symm ekv,b1,b2,b3⟩,?_,up _ _ a3.symm W.q,fun g hg=>?_,fun g hg j hj=>?_,fun g hg=>?_,fun g hg j hj=>?_,fun g hg g' hg' hne=>?_,fun g hg=>?_,W.n2,W.hn,W.ln,fun g hg j hj=>?_,W.zl⟩,⟨fun q o e hd'=>?_,fun q o e hn=>?_,fun q hq=>?_,fun q hq=>?_,fun o e=>up _ _ a1.symm e⟩⟩
 ·rw [emt]
  rcases W.t with e | ⟨o,e⟩
  ·exact .inl (up _ _ a2.symm e)
  ·exact .inr ⟨o,up _ _ a2.symm e⟩
 ·by_cases e:g=h
  ·subst e
   rw [eD,zam,eput]
  ·rw [eN g e]
   exact up _ _ (W.dj g hg h hh e) (W.h g hg)
 ·by_cases e:g=h
  ·subst e
   rw [eM] at hj
   have hj:j∈ks':=hj
   rw [eM,zb4]
   show upd _ _ _ (zj4 (M g).l k l j)=some (.lst ((zj4 (N g) k xs j).map V.int))
   by_cases e2:j=k
   ·subst e2
    rw [zb5,zb5,zal nl]
    exact hl
   ·rw [zca e2,zca e2]
    have:=W.l g hg j (((mem' j).mp hj).elim id fun y=>absurd y e2)
    exact up _ _ (zd_ this hd (by intro z; cases z)) this
  ·rw [eN g e] at hj ⊢
   rw [zco e]
   have:=W.l g hg j hj
   exact up _ _ (zd_ this hd (by intro z; cases z)) this
 ·by_cases e:g=h
  ·subst e
   rw [eM]
   show ks'.Nodup
   by_cases e2:k∈(M g).ks
   ·have e1:ks'=(M g).ks:=if_pos e2
    rw [e1]
    exact W.nd g hg
   ·have e1:ks'=(M g).ks++[k]:=if_neg e2
    rw [e1]
    exact List.nodup_append.mpr ⟨W.nd g hg,by simp,fun a ha b hb e=>e2 (by rw [← List.mem_singleton.mp hb,← e]; exact ha)⟩
  ·rw [eN g e]
   exact W.nd g hg
 ·by_cases e:g=h
  ·subst e
   rw [eM] at hj
   have hj:j∉ks':=hj
   have hj2:=fun y=>hj ((mem' j).mpr y)
   rw [zb4,zca (fun y=>hj2 (.inr y))]
   exact W.no g hg j fun y=>hj2 (.inl y)
  ·rw [eN g e] at hj
   rw [zco e]
   exact W.no g hg j hj
 ·rw [eD,eD]
  exact W.dj g hg g' hg' hne
 ·rw [eD]
  exact W.n1 g hg
 ·by_cases e:g=h
  ·subst e
   rw [eM] at hj
   rcases (mem' j).mp hj with y | y
   ·exact W.kl g hg j y
   ·exact y ▸ hk
  ·rw [eN g e] at hj
   exact W.kl g hg j hj
 ·exact up _ _ (fun y=>by rw [y,hd] at e; exact hd' _ (Option.some.inj e).symm) e
 ·exact up _ _ (fun y=>hn (.inr (.inr (.inr ⟨h,hh,.inl y⟩)))) e
 ·rcases hq with y | y | y | ⟨g,hg,y⟩
  ·exact .inl (.inl y)
  ·exact .inl (.inr (.inl y))
  ·exact .inl (.inr (.inr (.inl y)))
  ·rw [eD] at y
   rcases y with y | ⟨j,hj,y⟩
   ·exact .inl (.inr (.inr (.inr ⟨g,hg,.inl y⟩)))
   ·by_cases e:g=h
    ·subst e
     rw [eM] at hj y
     have y:q=zj4 (M g).l k l j:=y
     by_cases e2:j=k
     ·subst e2
      rw [zb5] at y
      subst y
      rcases hl0 with z | ⟨z1,z2⟩
      ·exact .inr z
      ·exact .inl (.inr (.inr (.inr ⟨g,hg,.inr ⟨j,z1,z2⟩⟩)))
     ·rw [zca e2] at y
      exact .inl (.inr (.inr (.inr ⟨g,hg,.inr ⟨j,((mem' j).mp hj).elim id fun y=>absurd y e2,y⟩⟩)))
    ·rw [eN g e] at hj y
     exact .inl (.inr (.inr (.inr ⟨g,hg,.inr ⟨j,hj,y⟩⟩)))
 ·by_cases e:q=(M h).d
  ·rw [e,zam] at hq
   cases hq
  ·rw [zal e] at hq
   exact s1.free hq
theorem zeo:za3 ["_law_model","_law_house","_law_name_here","_law_k","_law_line"] ["_law_model","_law_house","_law_name_here"] (zai (top 37)):=⟨rfl,rfl,rfl,by decide +kernel,rfl,by decide +kernel,by decide +kernel⟩
theorem zrv (T:Txt mg) (zbb:Df K mg "_law_awake" (top 36) ["_law_model","_law_name_here"]) (D:Df K mg "_law_hears" (top 37) ["_law_model","_law_house","_law_name_here"]):zbe P w K mg base CX0 2 D.f D.fd ["_law_model","_law_house","_law_name_here"] zt0:=by
  have zem:zbe P w K mg base CX0 1 _ _ _ _:=zjq zbb
  refine D.fn.ok zeo (fun vs H Q E h=>?_) (fun cdv A outer s H vs Q E hr h=>?_)
  · obtain ⟨md,mt,mq,r,z,hs,sil,N,M,h,n,rfl,_⟩:=h
    rfl
  · obtain ⟨md,mt,mq,r,z,hs,sil,N,M,h,n,rfl,W,hh,hne,h0,hn0,hst,hr1,hnd,hlen,k⟩:=h
    have gT:=W.gT
    have gR:=W.gR
    have gH:=W.gH hh
    have hm:h.toNat ^^^ n.toNat≠0:=fun z=>hne (by
      have:=(zg6 _ _).mp z
      omega)
    have hx:Builtin.bitXor h n=((h.toNat ^^^ n.toNat:Nat):Int):=bx h0 hn0
    refine ⟨_,(zaq (zcp (i:=3) zeo.nd rfl (Or.inl rfl) zaw)
      (zaq (zps PassesOwn.never (zbk zty (zbt zxi (zbt zsf (pv 1) (pv 2)) (pv 3)) zaw (zb8 _))
       (zas (zcp (i:=3) zeo.nd rfl (Or.inl rfl) (zbt zf1 (pv 3) zaw))))
      (zaq (zcp (i:=4) zeo.nd rfl (Or.inl rfl) (zuj (zcj hr) (zby (zcj hr) (zby (zcj hr) (pv 0) zb6 (fun _ _=>rfl)) (pv 1) (fun _ _=>rfl)) (pv 3) (zc9 zar) ⟨rfl,rfl,rfl,rfl⟩))
      (zaq (zcq (zbk zmq (pv 2) (pv 4) (by with_unfolding_all rfl))
       (zas (zcp (i:=4) zeo.nd rfl (Or.inl rfl) (zbt zfj (zlq rfl (zdn (own:=["_law_other"]) (caps:=[2]) (N':=["_law_other","_law_name_here"]) (by kernel_rfl)) (zee (pv 4)) (fun _ _ _ _ _=>(zcw (i:=0) (show (["_law_other","_law_name_here"]:List Str).Nodup by decide +kernel) rfl (Or.inl rfl))) (fun _ _ _ _ _=>(zh9 (zbk zum (pv 0) (pv 1) (zb8 _)))) (fun _ _ _ _ _=>(pv 0))) (zc9 (zad (pv 2) zar)))))
       (zas (zcq (zbk zte (zb1 zet rfl T.n_len zjs (zad (pv 4) zar)) (zby (zcj hr) (pv 0) zb6 (fun _ _=>rfl)) (zb8 _))
         (zas (zcp (i:=4) zeo.nd rfl (Or.inl rfl) (zbt zfj (pv 4) (zc9 (zad (pv 2) zar)))))
         (zas (zcq (zdv (zbn zem (hr.mono (by decide)) rfl zbb.hm zbb.fn.kp zbb.b .nil zbm (zad (pv 0) (zad (zk4 zft (pv 4) zaw (fun _ _=>rfl)) zar))))
           (zas (zcp (i:=4) zeo.nd rfl (Or.inl rfl) (zbt zfj (zez zfn (pv 4) (ze_ zaw) zg5) (zez zfn (pv 4) zg5 (ze_ zaw)))))
           (zas (zcp (i:=4) zeo.nd rfl (Or.inl rfl) (zbt zfj (zez zfn (pv 4) (ze_ zaw) zg5) (zc9 (zad (pv 2) zar))))))))))
      (zas (zia (zcj hr) (zby (zcj hr) (zby (zcj hr) (pv 0) zb6 (fun _ _=>rfl)) (pv 1) (fun _ _=>rfl)) (pv 3) (pv 4) rfl)))))),?_⟩
    walk_at "w"
    refine ⟨fun m σ H3=>zj2 (∃ (j:Nat),σ=[some (.ref md),some (.int h),some (.int n),some (.int (j:Int)),none]∧H3=H∧j≤zcn h n∧m=zcn h n - j),⟨zcn h n,⟨0,rfl,rfl,Nat.zero_le _,rfl⟩⟩,?_⟩
    rintro m σ H3 ⟨j,rfl,rfl,hj,hmj⟩
    walk_at "w"
    rw [hx,Int.toNat_natCast]
    by_cases hlt:j<zcn h n
    · refine zkn ((zna hm).mpr hlt) ?_
      refine ⟨fun σ' H'=>zj2 (∃ (j':Nat),σ'=[some (.ref md),some (.int h),some (.int n),some (.int (j':Int)),none]∧H'=H3∧j'≤zcn h n∧zcn h n - j'<m),fun σ' H' ⟨j',e,a,b,c⟩=>⟨_,c,⟨j',e,a,b,rfl⟩⟩,?_⟩
      walk_at "w"
      exact ⟨⟨j+1,rfl,rfl,by omega,by omega⟩⟩
    · have ej:j=zcn h n:=by omega
      subst ej
      refine zfv (fun z=>hlt ((zna hm).mp z)) ?_
      clear hj hmj hlt
      have ed:=W.h h hh
      have gK:∀ H',zbf H3 H'→zew H' (M h).d (V.int ((zcn h n:Nat):Int)) (zg9 (mhD (M h)) (Sum.inl ((zcn h n:Nat):Int))):=fun H' s=>zew.k (k:=Sum.inl _) (s _ _ ed)
      have hszd:(mhD (M h)).length<sizeLine:=by
        rw [zu5]
        exact zbu (by have:=W.len hh; omega)
      have fin:∀ (H':Hp) (l:Addr) (xs:List Int),zbf H3 H'→(H3 l=none∨(zcn h n∈(M h).ks∧l=(M h).l (zcn h n)))→H' l=some (.lst (xs.map V.int))→xs=zgt r (awB hs sil) (N h (zcn h n)) n →
          zew H' md (V.str "tables") (some (V.ref mt))∧zew H' mt (V.int h) (some (V.ref (M h).d))∧∃ H2,zkr H' (M h).d (V.int ((zcn h n:Nat):Int)) (V.ref l) H2∧Q .non H2:=fun H' l xs s hl0 hl hxs=>by
        have W':=W.same s
        refine ⟨W'.gT,W'.gH hh,_,zkr.k (k:=Sum.inl _) (s _ _ ed) hszd,?_⟩
        obtain ⟨M',W2,d2⟩:=W.put hh hst s hl0 hl
        subst hxs
        refine k _ M' W2 d2 ?_
        rw [zal (W.n1 h hh).2.1.symm]
        rcases W.t with e | ⟨o,e⟩
        · rw [e,s _ _ e]
        · rw [e,s _ _ e]
      have hisD:IsD H3 (M h).d:= .inl ⟨_,.inl ed⟩
      walk_at "w"
      intro l0 hl0
      have s1:zbf H3 (upd H3 l0 (.lst [])):=zbf.new H3 hl0
      have hl01:upd H3 l0 (.lst []) l0=some (.lst []):=zam
      generalize upd H3 l0 (.lst [])=H1 at s1 hl01 ⊢
      have gK1:=gK H1 s1
      walk_at "w"
      obtain ⟨lp,elp,hlp,hlp0⟩:∃ lp,(zg9 (mhD (M h)) (Sum.inl ((zcn h n:Nat):Int))).getD (V.ref l0)=V.ref lp∧H1 lp=some (.lst ((N h (zcn h n)).map V.int))∧(H3 lp=none∨(zcn h n∈(M h).ks∧lp=(M h).l (zcn h n))):=by
        rw [zjw]
        by_cases e:zcn h n∈(M h).ks
        · exact ⟨(M h).l (zcn h n),by rw [if_pos e]; rfl,s1 _ _ (W.l h hh _ e),.inr ⟨e,rfl⟩⟩
        · exact ⟨l0,by rw [if_neg e]; rfl,by rw [W.no h hh _ e]; exact hl01,.inl hl0⟩
      rw [elp]
      have W1:=W.same s1
      have gR1:=W1.gR
      walk_at "w"
      rw [zot]
      generalize hns:N h (zcn h n)=ns at hlp hnd hlen fin
      have fr:∀ {H'':Hp} {q:Addr},zbf H3 H''→H'' q=none→H3 q=none:=fun s e=>s.free e
      by_cases hm2:n∈ns
      · refine zkn hm2 ?_
        walk_at "w"
        intro D hD
        refine zel (zs_ n) hD (SqL.of hlp) (by omega) (fun x hx H2 Qt s2 q=>?_) fun H2 s2 hD2=>?_
        · walk_at "w"
          exact q H2 (zbf.refl H2)
        · have e1:ns.filter (zs_ n)=ns.erase n:=by
            rw [← zmn hnd]
            exact List.filter_congr fun x _=>zvd
          rw [e1] at hD2
          have hle:=List.length_erase_of_mem hm2
          have hsz:((ns.erase n).map V.int).length+[V.int n].length≤sizeLine:=by
            rw [List.length_map]
            exact Nat.le_of_lt (zbu (show (ns.erase n).length+1≤1000 by omega))
          walk_at "w"
          intro p2 hp2
          walk_at "w"
          intro p3 hp3
          have s3:zbf H2 (upd (upd H2 p2 (.lst [V.int n])) p3 (.lst ((ns.erase n).map V.int++[V.int n]))):=((zbf.refl H2).lay hp2).lay hp3
          have sA:=(s1.trans s2).trans s3
          obtain ⟨f1,f2,H5,f3,f4⟩:=fin _ p3 (ns.erase n++[n]) sA (.inl ((s1.trans s2).free ((zbf.new H2 hp2).free hp3))) (by rw [zam,List.map_append]; rfl) (by unfold zgt; rw [if_pos hm2])
          walk_at "w"
      · refine zfv hm2 ?_
        walk_at "w"
        rw [List.length_map]
        by_cases hl2:(ns.length:Int)<r
        · refine zkn hl2 ?_
          have hsz:(ns.map V.int).length+[V.int n].length≤sizeLine:=by
            rw [List.length_map]
            exact Nat.le_of_lt (zbu (show ns.length+1≤1000 by omega))
          walk_at "w"
          intro p2 hp2
          walk_at "w"
          intro p3 hp3
          have s3:zbf H1 (upd (upd H1 p2 (.lst [V.int n])) p3 (.lst (ns.map V.int++[V.int n]))):=((zbf.refl H1).lay hp2).lay hp3
          obtain ⟨f1,f2,H5,f3,f4⟩:=fin _ p3 (ns++[n]) (s1.trans s3) (.inl (s1.free ((zbf.new H1 hp2).free hp3))) (by rw [zam,List.map_append]; rfl) (by unfold zgt; rw [if_neg hm2,if_pos hl2])
          walk_at "w"
        · refine zfv hl2 ?_
          cases ns with
          | nil=>exact absurd (show (([]:List Int).length:Int)<r by simp only [List.length_nil]; omega) hl2
          | cons x t =>
            have hx0:atI ((x :: t).map V.int) 0=some (V.int x):=zpr _ _
            have hlt:t.length≤900:=by
              rw [List.length_cons] at hlen
              omega
            have hfull:∀ (b:Bool),zgt r (awB hs sil) (x :: t) n=t++[if awB hs sil x then x else n]:=fun _=>by
              unfold zgt
              rw [if_neg hm2,if_neg hl2]
            have ec:zjv ((x :: t).map V.int) (some 1) none=t.map V.int:=zy1 x t
            have ec2:zjv ((x :: t).map V.int) none (some 1)=[V.int x]:=by
              have:=zul (x :: t) (m:=1) (by decide)
              exact this
            walk_at "w"
            cases hax:awB hs sil x with
            | true =>
              walk_at "w"
              rw [ec]
              intro p1 hp1
              walk_at "w"
              rw [ec2]
              intro p2 hp2
              have hsz:(t.map V.int).length+[V.int x].length≤sizeLine:=by
                rw [List.length_map]
                exact Nat.le_of_lt (zbu (show t.length+1≤1000 by omega))
              have n12:p1≠p2:=zap zam hp2
              walk_at "w"
              intro p3 hp3
              have s3:zbf H1 (upd (upd (upd H1 p1 (.lst (t.map V.int))) p2 (.lst [V.int x])) p3 (.lst (t.map V.int++[V.int x]))):=(((zbf.refl H1).lay hp1).lay hp2).lay hp3
              obtain ⟨f1,f2,H5,f3,f4⟩:=fin _ p3 (t++[x]) (s1.trans s3) (.inl (s1.free ((zbf.new H1 hp1).free ((zbf.new _ hp2).free hp3)))) (by rw [zam,List.map_append]; rfl) (by rw [hfull true,hax]; rfl)
              walk_at "w"
            | false =>
              walk_at "w"
              rw [ec]
              intro p1 hp1
              walk_at "w"
              intro p2 hp2
              have hsz:(t.map V.int).length+[V.int n].length≤sizeLine:=by
                rw [List.length_map]
                exact Nat.le_of_lt (zbu (show t.length+1≤1000 by omega))
              have n12:p1≠p2:=zap zam hp2
              walk_at "w"
              intro p3 hp3
              have s3:zbf H1 (upd (upd (upd H1 p1 (.lst (t.map V.int))) p2 (.lst [V.int n])) p3 (.lst (t.map V.int++[V.int n]))):=(((zbf.refl H1).lay hp1).lay hp2).lay hp3
              obtain ⟨f1,f2,H5,f3,f4⟩:=fin _ p3 (t++[n]) (s1.trans s3) (.inl (s1.free ((zbf.new H1 hp1).free ((zbf.new _ hp2).free hp3)))) (by rw [zam,List.map_append]; rfl) (by rw [hfull true,hax]; rfl)
              walk_at "w"
end
theorem zew.rd {H:Hp} {a:Addr} {kvs:List (Key × V)} {k:Key} (e:Rd H a (.dK kvs)):zew H a (kV k) (zg9 kvs k):= .inl ⟨kvs,k,e,rfl,rfl⟩
def zs9:Sp:=fun vs H Q _=>∃ (md mt mq:Addr) (r:Int) (z:Nat) (hs sil pool:List Int) (N:Int→Nat→List Int) (M:Int→ze1) (h:Int),vs=[.ref md,.int h]∧zck H md mt mq r z hs sil N M∧NOk pool z r hs N∧pool.length<64∧h∈hs ∧
 ∀ (l:Addr) (H':Hp),zbf H H'→H l=none→H' l=some (.lst ((zb_ (zf9 (N h) z)).map V.int))→Q (.ref l) H'
section
variable {P:Program} {w:World} {K:PySem.W.Frag} {mg:Str→Option Value} {base:Heap}
theorem zhw:za3 ["_law_model","_law_house","_law_found","_law_k"] ["_law_model","_law_house"] (zai (top 38)):=⟨rfl,rfl,rfl,by decide +kernel,rfl,by decide +kernel,by decide +kernel⟩
theorem zl6 (T:Txt mg) (D:Df K mg "_law_keeps" (top 38) ["_law_model","_law_house"]):zbe P w K mg base CX0 1 D.f D.fd ["_law_model","_law_house"] zs9:=by
  refine D.fn.ok zhw (fun vs H Q E h=>?_) (fun cdv A outer s H vs Q E hr h=>?_)
  · obtain ⟨md,mt,mq,r,z,hs,sil,pool,N,M,h,rfl,_⟩:=h
    rfl
  · obtain ⟨md,mt,mq,r,z,hs,sil,pool,N,M,h,rfl,W,O,hpl,hh,k⟩:=h
    have hd:=W.h h hh
    have hperm:=zpu O hh (W.nd h hh) (W.kl h hh) (W.no h hh)
    have hcl:=O.len hh z
    refine ⟨_,(zaq (zcp (i:=2) zhw.nd rfl (Or.inl rfl) (zc9 zar))
      (zaq (zos (H0:=H) rfl (zf4 PassesOwn.never rfl (zoe (zby (zcj hr) (zby (zcj hr) (pv 0) zb6 (fun _ _=>rfl)) (pv 1) (fun _ _=>rfl))) (zcw (i:=3) zhw.nd rfl (Or.inl rfl))
       (zas (zcp (i:=2) zhw.nd rfl (Or.inl rfl) (zbt zfj (pv 2) (zby (zcj hr) (zby (zcj hr) (zby (zcj hr) (pv 0) zb6 (fun _ _=>rfl)) (pv 1) (fun _ _=>rfl)) (pv 3) (fun _ _=>rfl)))))))
      (zas (zbh (zb1 zg8 rfl T.n_sorted zd7 (zad (pv 2) zar)))))),?_⟩
    walk_at "w"
    intro p hp
    have s1:zbf H (upd H p (.lst [])):=zbf.new H hp
    have hp1:upd H p (.lst []) p=some (.lst ((zho (N h) []).map V.int)):=zam
    generalize upd H p (.lst [])=H1 at s1 hp1 ⊢
    have W1:=W.same s1
    have gT:=W1.gT
    have gH:=W1.gH hh
    have hd1:Rd H1 (M h).d (.dK (mhD (M h))):= .inl (s1 _ _ hd)
    walk_at "w"
    intro o H2 hz hoth _
    have hfz:∀ ob u,H (M h).d≠some (.frz ob u):=fun ob u e=>by
      rw [hd] at e
      cases e
    have np:p≠(M h).d:=(zap hd hp).symm
    refine zls (a:=(M h).d) (o:=o) (kvs:=mhD (M h)) (fun i σ H6=>zj2 (∃ (v3:Option V) (p6:Addr),σ=[some (.ref md),some (.int h),some (.ref p6),v3]∧H6 (M h).d=some (.frz o (.dK (mhD (M h))))∧(∀ q o,q≠(M h).d→H q=some o→H6 q=some o)∧H p6=none∧H6 p6=some (.lst ((zho (N h) ((M h).ks.take i)).map V.int)))) ?_ (fun i σ H6 _ ⟨_,_,_,e,_⟩=>e) ?_ ?_
    · refine ⟨⟨none,p,rfl,hz,fun q o hq e=>?_,hp,?_⟩⟩
      · rw [hoth q hq]
        exact s1 _ _ e
      · rw [hoth p np]
        exact hp1
    · rintro i kv σ H6 hi ⟨v3,p6,rfl,hz6,k6,hp60,hp6⟩
      obtain ⟨j,hj,rfl⟩:∃ j,(M h).ks[i]? = some j∧kv=((Sum.inl (j:Int):Key),V.ref ((M h).l j)):=by
        unfold mhD zdx zlp at hi
        rw [List.getElem?_map,List.getElem?_map] at hi
        cases e:(M h).ks[i]? with
        | none=>rw [e] at hi; cases hi
        | some j =>
          rw [e] at hi
          refine ⟨j,rfl,(Option.some.inj hi).symm.trans ?_⟩
          show ((Sum.inl (j:Int):Key),V.ref ((M h).l ((j:Int)).toNat))=_
          rw [Int.toNat_natCast]
      have hjm:j∈(M h).ks:=List.mem_of_getElem? hj
      have W6t:Rd H6 mt (.dK (mtD hs M)):=by
        have n1:=(W.n1 h hh).2.1.symm
        rcases W.t with e | ⟨ot,e⟩
        · exact .inl (k6 _ _ n1 e)
        · exact .inr ⟨ot,k6 _ _ n1 e⟩
      have gT6:zew H6 md (V.str "tables") (some (V.ref mt)):=by
        obtain ⟨kv,e,a,_⟩:=W.d
        exact .inl ⟨kv,Sum.inr "tables",.inl (k6 _ _ (W.n1 h hh).1.symm e),rfl,a.symm⟩
      have gH6:zew H6 mt (V.int h) (some (V.ref (M h).d)):= .inl ⟨_,Sum.inl h,W6t,rfl,by rw [zlo,if_pos hh]⟩
      have gK6:zew H6 (M h).d (V.int (j:Int)) (some (V.ref ((M h).l j))):= .inl ⟨_,Sum.inl (j:Int),.inr ⟨o,hz6⟩,rfl,by rw [zjw,if_pos hjm]⟩
      have hlj:=W.l h hh j hjm
      have hlj6:=k6 _ _ (zd_ hlj hd (by intro z; cases z)) hlj
      have hlen6:(zho (N h) ((M h).ks.take (i+1))).length≤pool.length:=by
        refine zct (zg4 (st:=zcn h) (O.nd h hh) (fun k m hm=>(O.st h hh k m hm).2.2) ((W.nd h hh).sublist (List.take_sublist _ _))) fun x hx=>?_
        obtain ⟨k',_,hm⟩:=zi5.mp hx
        exact (O.st h hh k' x hm).1
      have etk:=zp3 hj
      have hsz:((zho (N h) ((M h).ks.take i)).map V.int).length+((N h j).map V.int).length≤sizeLine:=by
        rw [etk,zkm,List.length_append] at hlen6
        rw [List.length_map,List.length_map]
        exact Nat.le_of_lt (zbu (by omega))
      show zl8 3 (V.int (j:Int)) _ _ _
      walk_at "w"
      intro p7 hp7
      have np7:(M h).d≠p7:=zap hz6 hp7
      refine ⟨⟨_,p7,rfl,?_,fun q o hq e=>?_,?_,?_⟩⟩
      · rw [zal np7]
        exact hz6
      · have:=k6 q o hq e
        rw [zal (zap this hp7)]
        exact this
      · cases e:H p7 with
        | none=>rfl
        | some o7 =>
          rw [k6 _ _ np7.symm e] at hp7
          cases hp7
      · rw [zam,etk,zkm,List.map_append]
    · rintro σ H6 ⟨v3,p6,rfl,hz6,k6,hp60,hp6⟩
      rw [zu5,List.take_length] at hp6
      refine ⟨(M h).d,mhD (M h),o,hz6,hfz,?_⟩
      have np6:p6≠(M h).d:=(zap hd hp60).symm
      have s7:zbf H (upd H6 (M h).d (.dK (mhD (M h)))):=fun q o e=>by
        by_cases eq:q=(M h).d
        · rw [eq,hd] at e
          rw [eq,zam]
          exact e
        · rw [zal eq]
          exact k6 q o eq e
      have hp7:upd H6 (M h).d (.dK (mhD (M h))) p6=some (.lst ((zho (N h) (M h).ks).map V.int)):=by rw [zal np6]; exact hp6
      generalize upd H6 (M h).d (.dK (mhD (M h)))=H7 at s7 hp7 ⊢
      have hfl:(zho (N h) (M h).ks).length<64:=by rw [hperm.length_eq]; omega
      walk_at "w"
      intro l hl
      refine k l _ (s7.put (s7.free hl)) (s7.free hl) ?_
      rw [zam,zpk hperm]
def zro:Sp:=fun vs H Q _=>∃ (md mt mq:Addr) (r:Int) (z:Nat) (hs sil pool:List Int) (N:Int→Nat→List Int) (M:Int→ze1) (d:Int),vs=[.ref md,.int d]∧zck H md mt mq r z hs sil N M∧H mt=some (.dK (mtD hs M))∧NOk pool z r hs N∧pool.length<64∧d∈hs ∧
 ∀ (l:Addr) (ks:List Int) (H':Hp),zbf H H'→H l=none→H' l=some (.lst ((zb_ ks).map V.int))→ks.Nodup→(∀ x,x∈ks↔Rch (zop z (awB hs sil) N) d x)→Q (.ref l) H'
theorem ze4:za3 ["_law_model","_law_house","_law_found","_law_turn","_law_here","_law_other"] ["_law_model","_law_house"] (zai (top 39)):=⟨rfl,rfl,rfl,by decide +kernel,rfl,by decide +kernel,by decide +kernel⟩
theorem znx (T:Txt mg) (zbb:Df K mg "_law_awake" (top 36) ["_law_model","_law_name_here"]) (zbq:Df K mg "_law_keeps" (top 38) ["_law_model","_law_house"]) (D:Df K mg "_law_come_to" (top 39) ["_law_model","_law_house"]):zbe P w K mg base CX0 2 D.f D.fd ["_law_model","_law_house"] zro:=by
  have zem:zbe P w K mg base CX0 1 _ _ _ _:=zjq zbb
  have zgh:zbe P w K mg base CX0 1 _ _ _ _:=zl6 T zbq
  refine D.fn.ok ze4 (fun vs H Q E h=>?_) (fun cdv A outer s H vs Q E hr h=>?_)
  · obtain ⟨md,mt,mq,r,z,hs,sil,pool,N,M,d,rfl,_⟩:=h
    rfl
  · obtain ⟨md,mt,mq,r,z,hs,sil,pool,N,M,d,rfl,W,hmt,O,hpl,hd,k⟩:=h
    have hln:=W.ln
    let aw:Int→Bool:=awB hs sil
    let kp:Int→List Int:=fun a=>zb_ (zf9 (N a) z)
    have haw:∀ x,aw x=true→x∈hs:=fun x e=>by
      have e:awB hs sil x=true:=e
      unfold awB at e
      simp only [Bool.and_eq_true,decide_eq_true_eq] at e
      exact e.1
    let R:Int→Prop:=fun x=>x∈hs
    have hR:∀ a,R a→∀ x∈kp a,aw x=true→R x:=fun a _ x _ e=>haw x e
    have hcl:∀ {f:List Int},f.Nodup→(∀ x∈f,x∈hs)→f.length≤hs.length:=fun a b=>zct a b
    refine ⟨_,(zaq (zcp (i:=2) ze4.nd rfl (Or.inl rfl) (zc9 (zad (pv 1) zar)))
      (zaq (zf4 PassesOwn.never rfl (zjn rfl T.n_range (zad (zb1 znh rfl T.n_len zjs (zad (zby (zcj hr) (pv 0) zb6 (fun _ _=>rfl)) zar)) zar)) (zcw (i:=3) ze4.nd rfl (Or.inl rfl))
       (zas (zf4 PassesOwn.never rfl (zee (zi_ zih rfl T.n_list zof (zad (pv 2) zar))) (zcw (i:=4) ze4.nd rfl (Or.inl rfl))
         (zas (zf4 PassesOwn.never rfl (zee (zbn zgh (hr.mono (by decide)) rfl zbq.hm zbq.fn.kp zbq.b .nil zbm (zad (pv 0) (zad (pv 4) zar)))) (zcw (i:=5) ze4.nd rfl (Or.inl rfl))
           (zas (zcq (PW.pt (zif (zdv (zbn zem (hr.mono (by decide)) rfl zbb.hm zbb.fn.kp zbb.b .nil zbm (zad (pv 0) (zad (pv 5) zar)))) (zg0 (zbk zm7 (pv 5) (pv 2) (by with_unfolding_all rfl)))))
             (zas (zbj (zqa PySem.F.plainAttrs_list PySem.F.slot_list_append PySem.F.type_list_append zf6 (pv 2) (zad (pv 5) zar))))
             zbo)))))))
      (zas (zbh (zb1 zg8 rfl T.n_sorted zd7 (zad (pv 2) zar)))))),?_⟩
    walk_at "w"
    intro p hp
    have s1:zbf H (upd H p (.lst [V.int d])):=zbf.new H hp
    have hp1:upd H p (.lst [V.int d]) p=some (.lst ((zbx aw kp d 0).map V.int)):=zam
    generalize upd H p (.lst [V.int d])=H1 at s1 hp1 ⊢
    have W1:=W.same s1
    have gT:=W1.gT
    have hmt1:=s1 _ _ hmt
    walk_at "w"
    rw [zuy]
    refine ⟨by omega,?_⟩
    refine zr2 (lo:=0) (n:=hs.length) (fun i σ H6=>zj2 (∃ (v3 v4 v5:Option V),σ=[some (.ref md),some (.int d),some (.ref p),v3,v4,v5]∧zbf H H6∧H6 p=some (.lst ((zbx aw kp d i).map V.int)))) ⟨⟨_,_,_,rfl,s1,hp1⟩⟩ ?_ ?_
    · rintro i σ H6 hi ⟨v3,v4,v5,rfl,s6,hp6⟩
      obtain ⟨t1,t2,t3⟩:=zhq (R:=R) (aw:=aw) (kp:=kp) hd hR i
      walk_at "w"
      intro c hc
      have s7:zbf H (upd H6 c (.lst ((zbx aw kp d i).map V.int))):=s6.put (s6.free hc)
      have hc7:upd H6 c (.lst ((zbx aw kp d i).map V.int)) c=some (.lst ((zbx aw kp d i).map V.int)):=zam
      have ncp:p≠c:=zap hp6 hc
      have hp7:upd H6 c (.lst ((zbx aw kp d i).map V.int)) p=some (.lst ((zf8 aw kp (zbx aw kp d i) []).map V.int)):=by rw [zal ncp]; exact hp6
      have hc0:H c=none:=s6.free hc
      generalize upd H6 c (.lst ((zbx aw kp d i).map V.int))=H7 at s7 hc7 hp7 ⊢
      walk_at "w"
      refine zfe (K:=K) (a:=c) (xs:=(zbx aw kp d i).map V.int) (fun j σ H8=>zj2 (∃ (v3 v4 v5:Option V),σ=[some (.ref md),some (.int d),some (.ref p),v3,v4,v5]∧zbf H H8∧H8 c=some (.lst ((zbx aw kp d i).map V.int))∧H8 p=some (.lst ((zf8 aw kp (zbx aw kp d i) ((zbx aw kp d i).take j)).map V.int)))) ⟨⟨_,_,_,rfl,s7,hc7,by rw [List.take_zero]; exact hp7⟩⟩ (fun j σ H8 _ ⟨_,_,_,_,_,e,_⟩=>SqL.of e) ?_ ?_
      · rintro j y σ H8 hj ⟨v3,v4,v5,rfl,s8,hc8,hp8⟩
        obtain ⟨a,ha,rfl⟩:∃ a,(zbx aw kp d i)[j]? = some a∧y=V.int a:=by
          rw [List.getElem?_map] at hj
          cases e:(zbx aw kp d i)[j]? with
          | none=>rw [e] at hj; cases hj
          | some x=>rw [e] at hj; exact ⟨x,rfl,(Option.some.inj hj).symm⟩
        have hah:a∈hs:=t2 a (List.mem_of_getElem? ha)
        have W8:=W.same s8
        obtain ⟨g8,_⟩:=ze9 (R:=R) (aw:=aw) (kp:=kp) hR t1 t2 (xs:=(zbx aw kp d i).take j) (fun x hx=>t2 x (List.mem_of_mem_take hx))
        walk_at "w"
        intro kl H9 s9 hkl hkl9
        have npk:p≠kl:=zap hp8 hkl
        have nck:c≠kl:=zap hc8 hkl
        walk_at "w"
        refine zfe (K:=K) (a:=kl) (xs:=(zb_ (zf9 (N a) z)).map V.int) (fun u σ HA=>zj2 (∃ (v3 v5:Option V),σ=[some (.ref md),some (.int d),some (.ref p),v3,some (.int a),v5]∧zbf H HA∧HA c=some (.lst ((zbx aw kp d i).map V.int))∧HA kl=some (.lst ((zb_ (zf9 (N a) z)).map V.int))∧HA p=some (.lst ((zfs aw (zf8 aw kp (zbx aw kp d i) ((zbx aw kp d i).take j)) ((kp a).take u)).map V.int)))) ⟨⟨_,_,rfl,s8.trans s9,s9 _ _ hc8,hkl9,by rw [List.take_zero]; exact s9 _ _ hp8⟩⟩ (fun u σ HA _ ⟨_,_,_,_,_,e,_⟩=>SqL.of e) ?_ ?_
        · rintro u y σ HA hu ⟨v3,v5,rfl,sA,hcA,hklA,hpA⟩
          obtain ⟨x,hx,rfl⟩:∃ x,(kp a)[u]? = some x∧y=V.int x:=by
            rw [List.getElem?_map] at hu
            cases e:(zb_ (zf9 (N a) z))[u]? with
            | none=>rw [e] at hu; cases hu
            | some x=>rw [e] at hu; exact ⟨x,rfl,(Option.some.inj hu).symm⟩
          have WA:=W.same sA
          obtain ⟨gA,_⟩:=zg1 (R:=R) (aw:=aw) g8.nd g8.re (xs:=(kp a).take u) (fun x _ e=>haw x e)
          have hlA:=hcl gA.nd gA.re
          have etk:zfs aw (zf8 aw kp (zbx aw kp d i) ((zbx aw kp d i).take j)) ((kp a).take (u+1))=if aw x && !decide (x∈zfs aw (zf8 aw kp (zbx aw kp d i) ((zbx aw kp d i).take j)) ((kp a).take u)) then zfs aw (zf8 aw kp (zbx aw kp d i) ((zbx aw kp d i).take j)) ((kp a).take u)++[x] else zfs aw (zf8 aw kp (zbx aw kp d i) ((zbx aw kp d i).take j)) ((kp a).take u):=by rw [zge hx,zp7]
          generalize zfs aw (zf8 aw kp (zbx aw kp d i) ((zbx aw kp d i).take j)) ((kp a).take u)=f at hpA hlA etk gA
          have hszf:(f.map V.int).length<sizeLine:=by
            rw [List.length_map]
            exact zbu (by omega)
          walk_at "w"
          cases hax:awB hs sil x with
          | false =>
            walk_at "w"
            refine ⟨⟨_,_,rfl,sA,hcA,hklA,?_⟩⟩
            rw [etk,show aw x=false from hax,Bool.false_and,if_neg Bool.false_ne_true]
            exact hpA
          | true =>
            walk_at "w"
            rw [zot]
            by_cases hxf:x∈f
            · rw [decide_eq_true hxf]
              walk_at "w"
              refine ⟨⟨_,_,rfl,sA,hcA,hklA,?_⟩⟩
              rw [etk,show aw x=true from hax,decide_eq_true hxf,Bool.true_and,if_neg (by decide)]
              exact hpA
            · rw [decide_eq_false hxf]
              walk_at "w"
              refine ⟨⟨_,_,rfl,sA.put hp,?_,?_,?_⟩⟩
              · rw [zal ncp.symm]
                exact hcA
              · rw [zal npk.symm]
                exact hklA
              · rw [zam,etk,show aw x=true from hax,decide_eq_false hxf,Bool.true_and,if_pos (by decide),List.map_append]
                rfl
        · rintro σ HA ⟨v3,v5,rfl,sA,hcA,hklA,hpA⟩
          refine ⟨⟨_,_,_,rfl,sA,hcA,?_⟩⟩
          rw [List.length_map,show (zb_ (zf9 (N a) z)).length=(kp a).length from rfl,List.take_length] at hpA
          rw [zge ha,zqh]
          exact hpA
      · rintro σ H8 ⟨v3,v4,v5,rfl,s8,hc8,hp8⟩
        rw [List.length_map,List.take_length] at hp8
        exact ⟨⟨_,_,_,rfl,s8,hp8⟩⟩
    · rintro σ H6 ⟨v3,v4,v5,rfl,s6,hp6⟩
      obtain ⟨c1,c2⟩:=zry (z:=z) (aw:=aw) (N:=N) (kp:=kp) (hs:=hs) (d:=d) (fun a _=>zdu _) haw hd
      have hl6:(zbx aw kp d hs.length).length<64:=by
        have:=hcl c1 (zhq (R:=R) (aw:=aw) (kp:=kp) hd hR hs.length).2.1
        omega
      generalize zbx aw kp d hs.length=ks at hp6 c1 c2 hl6
      walk_at "w"
      intro l hl
      exact k l ks _ (s6.put (s6.free hl)) (s6.free hl) zam c1 c2
def ztf:Sp:=fun vs H Q _=>∃ (md mt mq:Addr) (r:Int) (z:Nat) (hs sil pool:List Int) (N:Int→Nat→List Int) (M:Int→ze1) (h d:Int),vs=[.ref md,.int h,.int d]∧zck H md mt mq r z hs sil N M∧H mt=some (.dK (mtD hs M))∧NOk pool z r hs N∧pool.length<64∧(∀ x∈hs,x∈pool)∧(∀ x∈hs,0≤x∧x<2 ^ z)∧1≤r∧r≤8∧h∈hs∧d∈hs ∧
 ∀ (l:Addr) (ks:List Int) (H':Hp) (M':Int→ze1),ks.Nodup→(∀ x,x∈ks↔Rch (zop z (awB hs sil) N) d x)→zck H' md mt mq r z hs sil (zdb r (awB hs sil) N h (zhz h ks)) M'→H' mt=some (.dK (mtD hs M'))→zec md H H' (zc6 md mt mq hs M) (zc6 md mt mq hs M')→H l=none→¬ zc6 md mt mq hs M' l→H' l=some (.lst ((zhz h ks).map V.int))→Q (.ref l) H'
theorem zck.notFoot {H:Hp} {md mt mq:Addr} {r:Int} {z:Nat} {hs sil:List Int} {N:Int→Nat→List Int} {M:Int→ze1} (W:zck H md mt mq r z hs sil N M) {q:Addr} (h:H q=none):¬ zc6 md mt mq hs M q:=fun y=>by
 obtain ⟨o,e⟩:=W.ex y
 rw [h] at e
 cases e
theorem zck.mtEq {H H':Hp} {md mt mq:Addr} {r:Int} {z:Nat} {hs sil:List Int} {N':Int→Nat→List Int} {M M':Int→ze1} (W':zck H' md mt mq r z hs sil N' M') (hmt:H mt=some (.dK (mtD hs M))) (e:H' mt=H mt):H' mt=some (.dK (mtD hs M')):=by
 rcases W'.t with y | ⟨o,y⟩
 ·exact y
 ·rw [e,hmt] at y
  cases y
theorem zjr:za3 ["_law_model","_law_house","_law_door","_law_others","_law_other"] ["_law_model","_law_house","_law_door"] (zai (top 40)):=⟨rfl,rfl,rfl,by decide +kernel,rfl,by decide +kernel,by decide +kernel⟩
theorem zso (T:Txt mg) (zbb:Df K mg "_law_awake" (top 36) ["_law_model","_law_name_here"]) (zbq:Df K mg "_law_keeps" (top 38) ["_law_model","_law_house"]) (zcb:Df K mg "_law_hears" (top 37) ["_law_model","_law_house","_law_name_here"]) (zcc:Df K mg "_law_come_to" (top 39) ["_law_model","_law_house"]) (D:Df K mg "_law_visit" (top 40) ["_law_model","_law_house","_law_door"]):zbe P w K mg base CX0 3 D.f D.fd ["_law_model","_law_house","_law_door"] ztf:=by
  have zit:zbe P w K mg base CX0 2 _ _ _ _:=zrv T zbb zcb
  have zj6:zbe P w K mg base CX0 2 _ _ _ _:=znx T zbb zbq zcc
  refine D.fn.ok zjr (fun vs H Q E h=>?_) (fun cdv A outer s H vs Q E hr h=>?_)
  · obtain ⟨md,mt,mq,r,z,hs,sil,pool,N,M,h,d,rfl,_⟩:=h
    rfl
  · obtain ⟨md,mt,mq,r,z,hs,sil,pool,N,M,h,d,rfl,W,hmt,O,hpl,hps,hb,hr1,hr2,hh,hd,k⟩:=h
    have hln:=W.ln
    refine ⟨_,(zaq (zkx (i:=3) zjr.nd rfl (Or.inl rfl) rfl (zdn (own:=["_law_other"]) (caps:=[1]) (N':=["_law_other","_law_house"]) (by kernel_rfl)) (zee (zbn zj6 (hr.mono (by decide)) rfl zcc.hm zcc.fn.kp zcc.b .nil zbm (zad (pv 0) (zad (pv 2) zar)))) (fun _ _ _ _ _=>(zcw (i:=0) (show (["_law_other","_law_house"]:List Str).Nodup by decide +kernel) rfl (Or.inl rfl))) (fun _ _ _ _ _=>(zh9 (zbk zum (pv 0) (pv 1) (zb8 _)))) (fun _ _ _ _ _=>(pv 0)))
      (zaq (zf4 PassesOwn.never rfl (zee (pv 3)) (zcw (i:=4) zjr.nd rfl (Or.inl rfl))
       (zaq (zbj (zbn zit (hr.mono (by decide)) rfl zcb.hm zcb.fn.kp zcb.b .nil zbm (zad (pv 0) (zad (pv 1) (zad (pv 4) zar)))))
        (zas (zbj (zbn zit (hr.mono (by decide)) rfl zcb.hm zcb.fn.kp zcb.b .nil zbm (zad (pv 0) (zad (pv 4) (zad (pv 1) zar))))))))
      (zas (zbh (pv 3))))),?_⟩
    walk_at "w"
    intro l ks H1 s1 hl hl1 hnd hmem
    have inHs:∀ x∈ks,x∈hs:=fun x hx=>by
      have hx:=(hmem x).mp hx
      cases hx with
      | own=>exact hd
      | go _ e =>
        have e2:=e.2
        unfold awB at e2
        simp only [Bool.and_eq_true,decide_eq_true_eq] at e2
        exact e2.1
    have hkl:ks.length≤hs.length:=zct hnd inHs
    walk_at "w"
    intro D hD
    refine zel (zs_ h) hD (SqL.of hl1) (by rw [zd2]; omega) (fun x hx H2 Qt s2 q=>?_) fun H2 s2 hD2=>?_
    · walk_at "w"
      exact q H2 (zbf.refl H2)
    · have hD2:H2 D=some (.lst ((zhz h ks).map V.int)):=hD2
      have s12:zbf H H2:=s1.trans s2
      have W2:=W.same s12
      have hmt2:=s12 _ _ hmt
      have hD0:H D=none:=s1.free hD
      have nD:=W.notFoot hD0
      walk_at "w"
      refine zfe (K:=K) (a:=D) (xs:=(zhz h ks).map V.int) (fun j σ H6=>zj2 (∃ (v:Option V) (M6:Int→ze1),σ=[some (.ref md),some (.int h),some (.int d),some (.ref D),v]∧zck H6 md mt mq r z hs sil (zdb r (awB hs sil) N h ((zhz h ks).take j)) M6∧H6 mt=some (.dK (mtD hs M6))∧zec md H2 H6 (zc6 md mt mq hs M) (zc6 md mt mq hs M6))) ?_ (fun j σ H6 _ ⟨_,_,_,_,_,e⟩=>SqL.of (e.n _ _ hD2 nD)) ?_ ?_
      · exact ⟨⟨_,M,rfl,W2,hmt2,zec.same (zbf.refl _)⟩⟩
      · rintro j y σ H6 hj ⟨v,M6,rfl,W6,hmt6,d6⟩
        obtain ⟨x,hx,rfl⟩:∃ x,(zhz h ks)[j]? = some x∧y=V.int x:=by
          rw [List.getElem?_map] at hj
          cases e:(zhz h ks)[j]? with
          | none=>rw [e] at hj; cases hj
          | some x=>rw [e] at hj; exact ⟨x,rfl,(Option.some.inj hj).symm⟩
        have hxm:=zhi (List.mem_of_getElem? hx)
        have hxh:=inHs x hxm.1
        have hxn:=hxm.2
        have hxb:=hb x hxh
        have hhb:=hb h hh
        have O6:NOk pool z r hs (zdb r (awB hs sil) N h ((zhz h ks).take j)):=NOk.meets hr1 (hps h hh) (fun y hy=>by
            have:=zhi (List.mem_of_mem_take hy)
            exact ⟨hps y (inHs y this.1),this.2⟩) O
        have etk:zdb r (awB hs sil) N h ((zhz h ks).take (j+1))=zp8 r (awB hs sil) (zdb r (awB hs sil) N h ((zhz h ks).take j)) h x:=by rw [zge hx,zgk]
        generalize zdb r (awB hs sil) N h ((zhz h ks).take j)=N6 at W6 O6 etk
        have O7:NOk pool z r hs (zke r (awB hs sil) N6 h x):=O6.hear hr1 (hps x hxh) hxn
        have le8:∀ {N':Int→Nat→List Int},NOk pool z r hs N'→∀ g∈hs,∀ k,(N' g k).length≤900:=fun {N'} O' g hg k=>by
          have:((N' g k).length:Int)≤r:=O'.le g hg k
          omega
        have a1:=hhb.1
        have a2:=hxb.1
        have a3:=zhu hhb.1 hxb.1 hhb.2 hxb.2 (Ne.symm hxn)
        have a4:=O6.nd h hh (zcn h x)
        have a5:=le8 O6 h hh (zcn h x)
        have b1:=zhu hxb.1 hhb.1 hxb.2 hhb.2 hxn
        have b2:=O7.nd x hxh (zcn x h)
        have b3:=le8 O7 x hxh (zcn x h)
        have b4:h≠x:=Ne.symm hxn
        show zl8 4 (V.int x) _ _ _
        walk_at "w"
        intro H7 M7 W7 d7 e7
        have hmt7:=W7.mtEq hmt6 e7
        walk_at "w"
        intro H8 M8 W8 d8 e8
        refine ⟨⟨_,M8,rfl,?_,W8.mtEq hmt7 e8,(d6.trans d7).trans d8⟩⟩
        rw [etk]
        exact W8
      · rintro σ H6 ⟨v,M6,rfl,W6,hmt6,d6⟩
        rw [List.length_map,List.take_length] at W6
        walk_at "w"
        refine k D ks H6 M6 hnd hmem W6 hmt6 ((zec.same s12).trans d6) hD0 (fun y=>?_) (d6.n _ _ hD2 nD)
        rcases d6.o D y with y | y
        · exact nD y
        · rw [hD2] at y
          cases y
def zu9:Sp:=fun vs H Q _=>∃ (md mt mq:Addr) (r:Int) (z:Nat) (hs sil pool:List Int) (N:Int→Nat→List Int) (M:Int→ze1) (i:Int) (dv:V),vs=[.ref md,.int i,dv]∧zck H md mt mq r z hs sil N M∧H mt=some (.dK (mtD hs M))∧NOk pool z r hs N∧pool.length<64∧(∀ x∈hs,x∈pool)∧i∈pool∧(∀ x∈hs,0≤x∧x<2 ^ z)∧0≤i∧i<2 ^ z∧i∉hs∧hs.length<60∧1≤r∧r≤8∧(dv = .non∨∃ d,dv = .int d∧d∈hs) ∧
 ∀ (l:Addr) (vis:List Int) (H':Hp) (M':Int→ze1),(dv = .non→vis=[])→(∀ d,dv = .int d→∃ ks:List Int,ks.Nodup∧(∀ x,x∈ks↔Rch (zop z (awB (hs++[i]) sil) (zlx N i)) d x)∧vis=zhz i ks)→zck H' md mt mq r z (hs++[i]) sil (zdb r (awB (hs++[i]) sil) (zlx N i) i vis) M'→H' mt=some (.dK (mtD (hs++[i]) M')) →
  zec md H H' (zc6 md mt mq hs M) (zc6 md mt mq (hs++[i]) M')→H l=none→¬ zc6 md mt mq (hs++[i]) M' l→H' l=some (.lst (vis.map V.int))→Q (.ref l) H'
theorem NOk.comer {pool:List Int} {z:Nat} {r:Int} {hs:List Int} {N:Int→Nat→List Int} (O:NOk pool z r hs N) (hr:1≤r) (i:Int):NOk pool z r (hs++[i]) (zlx N i):=by
 unfold zlx
 refine ⟨fun h hh k=>?_,fun h hh k=>?_,fun h hh k m hm=>?_⟩
 ·by_cases e:h=i
  ·rw [e,zb4]
   exact List.nodup_nil
  ·rw [zco e]
   exact O.nd h ((List.mem_append.mp hh).elim id fun y=>absurd (List.mem_singleton.mp y) e) k
 ·by_cases e:h=i
  ·rw [e,zb4]
   simp only [List.length_nil]
   omega
  ·rw [zco e]
   exact O.le h ((List.mem_append.mp hh).elim id fun y=>absurd (List.mem_singleton.mp y) e) k
 ·by_cases e:h=i
  ·rw [e,zb4] at hm
   cases hm
  ·rw [zco e] at hm
   exact O.st h ((List.mem_append.mp hh).elim id fun y=>absurd (List.mem_singleton.mp y) e) k m hm
theorem zck.comes {H H1:Hp} {md mt mq:Addr} {r:Int} {z:Nat} {hs sil:List Int} {N:Int→Nat→List Int} {M:Int→ze1} (W:zck H md mt mq r z hs sil N M) (hmt:H mt=some (.dK (mtD hs M))) {i:Int} (hni:i∉hs) (hlen:hs.length<60) (s1:zbf H H1) {c:Addr} (hc0:H c=none) (hc:H1 c=some (.dK [])) :
  ∃ M',zck (upd H1 mt (.dK (zfa (mtD hs M) (Sum.inl i) (V.ref c)))) md mt mq r z (hs++[i]) sil (zlx N i) M'∧upd H1 mt (.dK (zfa (mtD hs M) (Sum.inl i) (V.ref c))) mt=some (.dK (mtD (hs++[i]) M'))∧zec md H (upd H1 mt (.dK (zfa (mtD hs M) (Sum.inl i) (V.ref c)))) (zc6 md mt mq hs M) (zc6 md mt mq (hs++[i]) M'):=by
 let M':Int→ze1:=zqs M i ⟨c,[],fun _=>0⟩
 have eM:M' i=⟨c,[],fun _=>0⟩:=zb4
 have eN:∀ g∈hs,M' g=M g:=fun g hg=>zco fun e=>hni (e ▸ hg)
 have mem:∀ {g:Int},g∈hs++[i]→(g∈hs∧g≠i∧M' g=M g)∨g=i:=fun {g} hg=>by
  rcases List.mem_append.mp hg with y | y
  ·exact .inl ⟨y,fun e=>hni (e ▸ y),eN g y⟩
  ·exact .inr (List.mem_singleton.mp y)
 have eput:zfa (mtD hs M) (Sum.inl i) (V.ref c)=mtD (hs++[i]) M':=by
  rw [zi3 _ (by rw [zlo,if_neg hni])]
  unfold mtD zdx
  rw [List.map_append]
  congr 1
  ·exact List.map_congr_left fun g hg=>by
    show ((Sum.inl g:Key),V.ref (M g).d)=((Sum.inl g:Key),V.ref (M' g).d)
    rw [eN g hg]
  ·show [((Sum.inl i:Key),V.ref c)]=[((Sum.inl i:Key),V.ref (M' i).d)]
   rw [eM]
 have up:∀ q o,q≠mt→H q=some o→upd H1 mt (.dK (zfa (mtD hs M) (Sum.inl i) (V.ref c))) q=some o:=fun q o hq e=>by
  rw [zal hq]
  exact s1 _ _ e
 obtain ⟨kv,ekv,b1,b2,b3⟩:=W.d
 have nc:c≠mt:=(zap hmt hc0).symm
 have nF:∀ {q},zc6 md mt mq hs M q→q≠c:=fun {q} y=>by
  obtain ⟨o,e⟩:=W.ex y
  exact zap e hc0
 refine ⟨M',⟨⟨kv,up _ _ W.n2.1.symm ekv,b1,b2,b3⟩,.inl (by rw [zam,eput]),up _ _ W.n2.2.1.symm W.q,fun g hg=>?_,fun g hg j hj=>?_,fun g hg=>?_,fun g hg j hj=>?_,fun g hg g' hg' hne=>?_,fun g hg=>?_,W.n2,zdg W.hn hni,?_,fun g hg j hj=>?_,W.zl⟩,by rw [zam,eput],⟨fun q o e hd'=>?_,fun q o e hn=>?_,fun q hq=>?_,fun q hq=>?_,fun o e=>up _ _ W.n2.1.symm e⟩⟩
 ·rcases mem hg with ⟨y,ye,e⟩ | rfl
  ·rw [e]
   exact up _ _ (W.n1 g y).2.1 (W.h g y)
  ·rw [eM,zal nc]
   exact hc
 ·rcases mem hg with ⟨y,ye,e⟩ | rfl
  ·rw [e] at hj ⊢
   unfold zlx
   rw [zco ye]
   have:=W.l g y j hj
   exact up _ _ (zd_ this hmt (by intro z; cases z)) this
  ·rw [eM] at hj
   cases hj
 ·rcases mem hg with ⟨y,ye,e⟩ | rfl
  ·rw [e]
   exact W.nd g y
  ·rw [eM]
   exact List.nodup_nil
 ·unfold zlx
  rcases mem hg with ⟨y,ye,e⟩ | rfl
  ·rw [e] at hj
   rw [zco ye]
   exact W.no g y j hj
  ·rw [zb4]
 ·rcases mem hg with ⟨y,ye,e⟩ | rfl <;> rcases mem hg' with ⟨y',ye',e'⟩ | rfl
  ·rw [e,e']
   exact W.dj g y g' y' hne
  ·rw [e,eM]
   exact nF (.inr (.inr (.inr ⟨g,y,.inl rfl⟩)))
  ·rw [e',eM]
   exact (nF (.inr (.inr (.inr ⟨g',y',.inl rfl⟩)))).symm
  ·exact absurd rfl hne
 ·rcases mem hg with ⟨y,ye,e⟩ | rfl
  ·rw [e]
   exact W.n1 g y
  ·rw [eM]
   exact ⟨(nF (.inl rfl)).symm,nc,(nF (.inr (.inr (.inl rfl)))).symm⟩
 ·rw [List.length_append,List.length_singleton]
  omega
 ·rcases mem hg with ⟨y,ye,e⟩ | rfl
  ·rw [e] at hj
   exact W.kl g y j hj
  ·rw [eM] at hj
   cases hj
 ·exact up _ _ (fun y=>by rw [y,hmt] at e; exact hd' _ (Option.some.inj e).symm) e
 ·exact up _ _ (fun y=>hn (.inr (.inl y))) e
 ·rcases hq with y | y | y | ⟨g,hg,y⟩
  ·exact .inl (.inl y)
  ·exact .inl (.inr (.inl y))
  ·exact .inl (.inr (.inr (.inl y)))
  ·rcases mem hg with ⟨y2,ye,e⟩ | rfl
   ·rw [e] at y
    exact .inl (.inr (.inr (.inr ⟨g,y2,y⟩)))
   ·rw [eM] at y
    rcases y with rfl | ⟨j,hj,_⟩
    ·exact .inr hc0
    ·cases hj
 ·by_cases e:q=mt
  ·rw [e,zam] at hq
   cases hq
  ·rw [zal e] at hq
   exact s1.free hq
theorem ztu:za3 ["_law_model","_law_name_here","_law_door"] ["_law_model","_law_name_here","_law_door"] (zai (top 41)):=⟨rfl,rfl,rfl,by decide +kernel,rfl,by decide +kernel,by decide +kernel⟩
theorem zt5 (T:Txt mg) (zbb:Df K mg "_law_awake" (top 36) ["_law_model","_law_name_here"]) (zbq:Df K mg "_law_keeps" (top 38) ["_law_model","_law_house"]) (zcb:Df K mg "_law_hears" (top 37) ["_law_model","_law_house","_law_name_here"]) (zcc:Df K mg "_law_come_to" (top 39) ["_law_model","_law_house"]) (zc_:Df K mg "_law_visit" (top 40) ["_law_model","_law_house","_law_door"]) (D:Df K mg "_law_come" (top 41) ["_law_model","_law_name_here","_law_door"]):zbe P w K mg base CX0 4 D.f D.fd ["_law_model","_law_name_here","_law_door"] zu9:=by
  have znc:zbe P w K mg base CX0 3 _ _ _ _:=zso T zbb zbq zcb zcc zc_
  refine D.fn.ok ztu (fun vs H Q E h=>?_) (fun cdv A outer s H vs Q E hr h=>?_)
  · obtain ⟨md,mt,mq,r,z,hs,sil,pool,N,M,i,dv,rfl,_⟩:=h
    rfl
  · obtain ⟨md,mt,mq,r,z,hs,sil,pool,N,M,i,dv,rfl,W,hmt,O,hpl,hps,hip,hb,hi0,hi1,hni,hlen,hr1,hr2,hdv,k⟩:=h
    have hszd:(mtD hs M).length<sizeLine:=by
      rw [zuy]
      exact zbu (by omega)
    refine ⟨_,(zaq (zia (zcj hr) (zby (zcj hr) (pv 0) zb6 (fun _ _=>rfl)) (pv 1) zgo rfl)
      (zaq (zcq (zbk zr0 (pv 2) zht (zb8 _))
       (zas (zbh (zc9 zar)))
       zbo)
      (zas (zbh (zbn znc (hr.mono (by decide)) rfl zc_.hm zc_.fn.kp zc_.b .nil zbm (zad (pv 0) (zad (pv 1) (zad (pv 2) zar)))))))),?_⟩
    walk_at "w"
    intro c hc
    have s1:zbf H (upd H c (.dK [])):=zbf.new H hc
    have hc1:upd H c (.dK []) c=some (.dK []):=zam
    generalize upd H c (.dK [])=H1 at s1 hc1 ⊢
    have W1:=W.same s1
    have gT:=W1.gT
    have hmt1:=s1 _ _ hmt
    have hput:zkr H1 mt (V.int i) (V.ref c) (upd H1 mt (.dK (zfa (mtD hs M) (Sum.inl i) (V.ref c)))):=zkr.k (k:=Sum.inl i) hmt1 hszd
    obtain ⟨M2,W2,hmt2,d2⟩:=W.comes hmt hni hlen s1 hc hc1
    generalize upd H1 mt (.dK (zfa (mtD hs M) (Sum.inl i) (V.ref c)))=H2 at hput W2 hmt2 d2
    rcases hdv with rfl | ⟨d,rfl,hd⟩
    · walk_at "w"
      intro l hl
      have s3:zbf H2 (upd H2 l (.lst [])):=zbf.new H2 hl
      have hnl:=W2.notFoot hl
      exact k l [] _ M2 (fun _=>rfl) (fun d y=>(nomatch y)) (W2.same s3) (s3 _ _ hmt2) (d2.trans (zec.same s3)) (d2.e _ hl) hnl zam
    · have O2:=O.comer hr1 i
      have hps2:∀ x∈hs++[i],x∈pool:=fun x hx=>(List.mem_append.mp hx).elim (hps x) fun y=>List.mem_singleton.mp y ▸ hip
      have hb2:∀ x∈hs++[i],0≤x∧x<2 ^ z:=fun x hx=>(List.mem_append.mp hx).elim (hb x) fun y=>List.mem_singleton.mp y ▸ ⟨hi0,hi1⟩
      have him:i∈hs++[i]:=List.mem_append_right _ (List.mem_singleton.mpr rfl)
      have hdm:d∈hs++[i]:=List.mem_append_left _ hd
      walk_at "w"
      intro l ks H3 M3 hnd3 hmem W3 hmt3 d3 hl hnl hl3
      exact k l (zhz i ks) H3 M3 (fun y=>(nomatch y)) (fun d' y=>⟨ks,hnd3,by cases y; exact hmem,rfl⟩) W3 hmt3 (d2.trans d3) (d2.e _ hl) hnl hl3
end
theorem za9.keepM {CB CT CW w td sd:Addr} {H H':Hp} {z r:Int} {hs sil:List Int} {T:Int→zdz} (W:za9 CB CT CW H w td sd z r hs sil T) (s:∀ q o,H q=some o→(∀ d,o≠ .dK d)→H' q=some o) (s1:∀ o,H td=some o→H' td=some o) (s2:∀ o,H sd=some o→H' sd=some o):za9 CB CT CW H' w td sd z r hs sil T:=by
 obtain ⟨⟨dx,h1⟩,h2,h3,h4,h5,h6,h7,h8,h9,h10,h11,h12⟩:=W
 exact ⟨⟨dx,s _ _ h1 (fun _ z=>nomatch z)⟩,s1 _ h2,s2 _ h3,fun h hh=>(h4 h hh).keepD fun q o _ hd e=>s q o e hd,h5,h6,h7,h8,h9,h10,h11,h12⟩
theorem za9.lay {CB CT CW w td sd:Addr} {H:Hp} {z r:Int} {hs sil:List Int} {T:Int→zdz} (W:za9 CB CT CW H w td sd z r hs sil T) {l:Addr} {xs ys:List V} (hl:H l=some (.lst xs)) (hn:¬ Own td sd z.toNat hs T l):za9 CB CT CW (upd H l (.lst ys)) w td sd z r hs sil T:=by
 obtain ⟨⟨dx,h1⟩,h2,h3,h4,h5,h6,h7,h8,h9,h10,h11,h12⟩:=W
 have up:∀ q o,H q=some o→q≠l→upd H l (.lst ys) q=some o:=fun q o e hq=>by rw [zal hq]; exact e
 refine ⟨⟨dx,up _ _ h1 (zd_ h1 hl (by intro z; cases z))⟩,up _ _ h2 (zd_ h2 hl (by intro z; cases z)),up _ _ h3 (zd_ h3 hl (by intro z; cases z)),fun h hh=>(h4 h hh).only (fun o e=>?_) (fun o e=>up _ _ e fun y=>hn (.inr (.inr ⟨h,hh,.inl y.symm⟩))) (fun k hk o e=>up _ _ e fun y=>hn (.inr (.inr ⟨h,hh,.inr ⟨k,hk,.inl y.symm⟩⟩))) (fun k hk o e=>up _ _ e fun y=>hn (.inr (.inr ⟨h,hh,.inr ⟨k,hk,.inr y.symm⟩⟩))),h5,h6,h7,h8,h9,h10,h11,h12⟩
 obtain ⟨dt,e1⟩:=(h4 h hh).ob
 exact up _ _ e (zd_ e1 hl (by intro z; cases z))
structure zqr (CB CT CW:Addr) (H:Hp) (w td sd:Addr) (z r:Int) (hs sil pool:List Int) (T:Int→zdz) (md mt mq:Addr) (M:Int→ze1):Prop where
 W:za9 CB CT CW H w td sd z r hs sil T
 A:zfr z.toNat hs T
 B:zck H md mt mq r z.toNat hs sil (fun g=>(T g).ns) M
 m:H mt=some (.dK (mtD hs M))
 O:NOk pool z.toNat r hs (fun g=>(T g).ns)
 p:pool.length<64
 q:∀ x∈hs,x∈pool
 S:∀ q,zc6 md mt mq hs M q→¬ Own td sd z.toNat hs T q
theorem zqr.same {CB CT CW:Addr} {H H':Hp} {w td sd:Addr} {z r:Int} {hs sil pool:List Int} {T:Int→zdz} {md mt mq:Addr} {M:Int→ze1} (X:zqr CB CT CW H w td sd z r hs sil pool T md mt mq M) (s:zbf H H'):zqr CB CT CW H' w td sd z r hs sil pool T md mt mq M:=⟨X.W.keep fun q o _ e=>s _ _ e,X.A,X.B.same s,s _ _ X.m,X.O,X.p,X.q,X.S⟩
theorem zew.same {H H':Hp} {a:Addr} {y:V} {r:Option V} (g:zew H a y r) (s:zbf H H'):zew H' a y r:=by
 rcases g with ⟨kvs,k,e,a1,a2⟩ | ⟨kvs,k,b,e,a1,a2,a3⟩
 ·refine .inl ⟨kvs,k,?_,a1,a2⟩
  rcases e with e | ⟨o,e⟩
  ·exact .inl (s _ _ e)
  ·exact .inr ⟨o,s _ _ e⟩
 ·refine .inr ⟨kvs,k,b,?_,a1,s _ _ a2,a3⟩
  rcases e with e | ⟨o,e⟩
  ·exact .inl (s _ _ e)
  ·exact .inr ⟨o,s _ _ e⟩
theorem zgj {K:PySem.W.Frag} {H:Hp} {Q:VK} {a b:Addr} (ns:List Int) (h1:H a=some (.lst (ns.map V.int))) (h2:H b=some (.lst (ns.map V.int))) (q:Q (.bl false) H):zyu K true (.ref a) (.ref b) H Q:=⟨a,b,ns,ns,rfl,rfl,SqL.of h1,SqL.of h2,by
 show Q (.bl (!decide (ns=ns))) H
 rw [decide_eq_true rfl]
 exact q⟩
def zvh (CB CT CW:Addr):Sp:=fun vs H Q _=>∃ (w td sd:Addr) (z r:Int) (hs sil pool:List Int) (T:Int→zdz) (md mt mq:Addr) (M:Int→ze1),vs=[.ref w,.ref md]∧zqr CB CT CW H w td sd z r hs sil pool T md mt mq M∧∀ H',zbf H H'→Q (.bl true) H'
section
variable {P:Program} {w:World} {K:PySem.W.Frag} {mg:Str→Option Value} {base:Heap}
theorem zhn:za3 ["_law_town","_law_model","_law_awake_here","_law_house","_law_k"] ["_law_town","_law_model"] (zai (top 42)):=⟨rfl,rfl,rfl,by decide +kernel,rfl,by decide +kernel,by decide +kernel⟩
theorem zr4 (T:Txt mg) (zao:DfE K mg "NoHouse") (zah:Df K mg "is_whole" (top 11) ["thing"]) (zan:Df K mg "is_name" (top 12) ["thing","wide"]) (zaj:DfC K mg "Bucket" ["room","order"]) (zax:DfM K zaj.C "names" "Bucket.names" (zaa (top 26) 4) ["self"]) (zat:DfC K mg "Table" ["own","wide","room","buckets"]) (zb3:DfM K zat.C "bucket" "Table.bucket" (zaa (top 28) 4) ["self","k"]) (za7:DfM K zat.C "keeps" "Table.keeps" (zaa (top 28) 5) ["self"])
    (zab:DfC K mg "Town" ["wide","room","tables","silent"]) (zae:DfM K zab.C "is_house" "Town.is_house" (zaa (top 31) 4) ["self","thing"]) (zag:DfM K zab.C "answers" "Town.answers" (zaa (top 31) 3) ["self","name"]) (zac:DfM K zab.C "check_house" "Town.check_house" (zaa (top 31) 16) ["self","thing"]) (zbr:DfM K zab.C "houses" "Town.houses" (zaa (top 31) 1) ["self"]) (zbz:DfM K zab.C "answering" "Town.answering" (zaa (top 31) 2) ["self"]) (za8:DfM K zab.C "bucket" "Town.bucket" (zaa (top 31) 5) ["self","house","k"]) (zbc:DfM K zab.C "keeps" "Town.keeps" (zaa (top 31) 6) ["self","house"]) (zbq:Df K mg "_law_keeps" (top 38) ["_law_model","_law_house"]) (D:Df K mg "_law_alike" (top 42) ["_law_town","_law_model"]):zbe P w K mg base CX0 6 D.f D.fd ["_law_town","_law_model"] (zvh zaj.C zat.C zab.C):=by
  have hcl:=zab.cl
  have zfz:zbe P w K mg base CX0 1 _ _ _ _:=zgv (CB:=zaj.C) (CT:=zat.C) T zab zbr
  have ziv:zbe P w K mg base CX0 5 _ _ _ _:=zib (CB:=zaj.C) (CT:=zat.C) T zah zan zab zae zag zbr zbz
  have zli:zbe P w K mg base CX0 5 _ _ _ _:=zkf T zao zah zan zaj zax zat zb3 zab zae zac za8
  have zm_:zbe P w K mg base CX0 5 _ _ _ _:=zlb T zao zah zan zaj zax zat za7 zab zae zac zbc
  have zgh:zbe P w K mg base CX0 1 _ _ _ _:=zl6 T zbq
  refine D.fn.ok zhn (fun vs H Q E h=>?_) (fun cdv A outer s H vs Q E hr h=>?_)
  · obtain ⟨w,td,sd,z,r,hs,sil,pool,TT,md,mt,mq,M,rfl,_⟩:=h
    rfl
  · obtain ⟨w,td,sd,z,r,hs,sil,pool,TT,md,mt,mq,M,rfl,X,k⟩:=h
    have hln:=X.B.ln
    have gT:=X.B.gT
    have hmt:=X.m
    have hkeys:=zlr (hs:=hs) (M:=M)
    have h64:hs.length<64:=by omega
    refine ⟨_,(zaq (zkx (i:=2) zhn.nd rfl (Or.inl rfl) rfl (zdn (own:=["_law_house"]) (caps:=[1]) (N':=["_law_house","_law_model"]) (by kernel_rfl)) (zee (zb1 (zd4 rfl) rfl T.n_sorted zd7 (zad (zby (zcj hr) (pv 1) zb6 (fun _ _=>rfl)) zar))) (fun _ _ _ _ _=>(zcw (i:=0) (show (["_law_house","_law_model"]:List Str).Nodup by decide +kernel) rfl (Or.inl rfl))) (fun _ _ _ _ _=>(zh9 (zie (zeq (zcj hr) (pv 0) (zby (zcj hr) (pv 1) zb6 (fun _ _=>rfl)))))) (fun _ _ _ _ _=>(pv 0)))
      (zaq (zcq (PW.pt (zsl (zbk (zm6 hr.units) (zfu (pv 0) zab.cl zbr.me zfz (hr.mono (by decide)) zbr.b .nil zbm) (zb1 (zd4 rfl) rfl T.n_sorted zd7 (zad (zby (zcj hr) (pv 1) zb6 (fun _ _=>rfl)) zar)) (zb8 _)) (zq4 (zbk (zm6 hr.units) (zfu (pv 0) zab.cl zbz.me ziv (hr.mono (by decide)) zbz.b .nil zbm) (pv 2) (zb8 _)))))
       (zas (zbh zgd))
       zbo)
      (zaq (zos (H0:=H) rfl (zf4 PassesOwn.never rfl (zoe (zby (zcj hr) (pv 1) zb6 (fun _ _=>rfl))) (zcw (i:=3) zhn.nd rfl (Or.inl rfl))
       (zaq (zcq (zbk (zm6 hr.units) (zb7 (pv 0) zab.cl zbc.me zm_ (hr.mono (by decide)) zbc.b .nil zbm (zad (pv 3) zar)) (zbn zgh (hr.mono (by decide)) rfl zbq.hm zbq.fn.kp zbq.b .nil zbm (zad (pv 1) (zad (pv 3) zar))) (zb8 _))
         (zas (zbh zgd))
         zbo)
        (zas (zos (H0:=H) rfl (zf4 PassesOwn.never rfl (zoe (zby (zcj hr) (zby (zcj hr) (pv 1) zb6 (fun _ _=>rfl)) (pv 3) (fun _ _=>rfl))) (zcw (i:=4) zhn.nd rfl (Or.inl rfl))
         (zas (zcq (zbk (zm6 hr.units) (zb7 (pv 0) zab.cl za8.me zli (hr.mono (by decide)) za8.b .nil zbm (zad (pv 3) (zad (pv 4) zar))) (zby (zcj hr) (zby (zcj hr) (zby (zcj hr) (pv 1) zb6 (fun _ _=>rfl)) (pv 3) (fun _ _=>rfl)) (pv 4) (fun _ _=>rfl)) (zb8 _))
           (zas (zbh zgd))
           zbo))))))))
      (zas (zbh zgd))))),?_⟩
    walk_at "w"
    intro l1 hl1
    have s1:zbf H (upd H l1 (.lst ((zb_ hs).map V.int))):=zbf.new H hl1
    have hl11:upd H l1 (.lst ((zb_ hs).map V.int)) l1=some (.lst ((zb_ hs).map V.int)):=zam
    generalize upd H l1 (.lst ((zb_ hs).map V.int))=H1 at s1 hl11 ⊢
    walk_at "w"
    intro D hD
    refine zel (fun h=> !decide (h∈sil)) hD (SqL.of hl11) (by rw [zd2]; omega) (fun x hx H2 Qt s2 q=>?_) fun H2 s2 hD2=>?_
    · have W2:=(X.B.same s1).same s2
      have gQ:=W2.gQ
      have hq:=W2.q
      have hv:=zev (sil:=sil) (i:=x)
      walk_at "w"
      rw [hv]
      exact q H2 (zbf.refl H2)
    · have s12:=s1.trans s2
      have X2:=X.same s12
      have hW2:=X2.W
      obtain ⟨⟨dx2,hob2⟩,-⟩:=id X2.W
      walk_at "w"
      intro l2 hl2
      have s3:zbf H2 (upd H2 l2 (.lst ((zb_ hs).map V.int))):=zbf.new H2 hl2
      have hl23:upd H2 l2 (.lst ((zb_ hs).map V.int)) l2=some (.lst ((zb_ hs).map V.int)):=zam
      generalize upd H2 l2 (.lst ((zb_ hs).map V.int))=H3 at s3 hl23 ⊢
      have X3:=X2.same s3
      have gT3:=X3.B.gT
      have hmt3:=X3.m
      walk_at "w"
      intro l3 hl3
      have s4:zbf H3 (upd H3 l3 (.lst ((zb_ hs).map V.int))):=zbf.new H3 hl3
      have hl34:upd H3 l3 (.lst ((zb_ hs).map V.int)) l3=some (.lst ((zb_ hs).map V.int)):=zam
      generalize upd H3 l3 (.lst ((zb_ hs).map V.int))=H4 at s4 hl34 ⊢
      refine zgj (zb_ hs) (s4 _ _ hl23) hl34 ?_
      have X4:=X3.same s4
      have hW4:=X4.W
      obtain ⟨⟨dx4,hob4⟩,-⟩:=id X4.W
      walk_at "w"
      intro l5 H5 s5 hl5 hl55
      refine ⟨_,rfl,?_⟩
      refine zgj _ hl55 (s5 _ _ (s4 _ _ (s3 _ _ hD2))) ?_
      walk_at "w"
      have X5:=X4.same s5
      have s05:zbf H H5:=((s12.trans s3).trans s4).trans s5
      have gT5:=X5.B.gT
      have rmt5:Rd H5 mt (.dK (mtD hs M)):= .inl X5.m
      have hfz:∀ ob u,H mt≠some (.frz ob u):=fun ob u e=>by
        rw [hmt] at e
        cases e
      walk_at "w"
      intro o H6 hz6 hoth6 _
      have own_ne:∀ {q},zc6 md mt mq hs M q→td≠q∧sd≠q:=fun {q} y=>⟨fun e=>X.S q y (.inl e.symm),fun e=>X.S q y (.inr (.inl e.symm))⟩
      refine zls (a:=mt) (o:=o) (kvs:=mtD hs M) (fun i σ H7=>zj2 (∃ (v3 v4:Option V),σ=[some (.ref w),some (.ref md),some (.ref D),v3,v4]∧H7 mt=some (.frz o (.dK (mtD hs M)))∧∀ q o,q≠mt→H q=some o→H7 q=some o)) ?_ (fun i σ H7 _ ⟨_,_,_,e,_⟩=>e) ?_ ?_
      · exact ⟨⟨_,_,rfl,hz6,fun q o hq e=>by
          rw [hoth6 q hq]
          exact s05 _ _ e⟩⟩
      · rintro i kv σ H7 hi ⟨v3,v4,rfl,hz7,k7⟩
        obtain ⟨h,hh,rfl⟩:∃ h,h∈hs∧kv=((Sum.inl h:Key),V.ref (M h).d):=by
          unfold mtD zdx at hi
          rw [List.getElem?_map] at hi
          cases e:hs[i]? with
          | none=>rw [e] at hi; cases hi
          | some j =>
            rw [e] at hi
            exact ⟨j,List.mem_of_getElem? e,(Option.some.inj hi).symm⟩
        have hW7:za9 zaj.C zat.C zab.C H7 w td sd z r hs sil TT:=X.W.keepM (fun q o e hd=>k7 q o (fun y=>by rw [y,hmt] at e; exact hd _ (Option.some.inj e).symm) e) (fun o e=>k7 _ _ (own_ne (.inr (.inl rfl))).1 e) (fun o e=>k7 _ _ (own_ne (.inr (.inl rfl))).2 e)
        have B7:zck H7 md mt mq r z.toNat hs sil (fun g=>(TT g).ns) M:=by
          have B:=X.B
          obtain ⟨kv,e,a,b,c⟩:=B.d
          exact ⟨⟨kv,k7 _ _ B.n2.1.symm e,a,b,c⟩,.inr ⟨o,hz7⟩,k7 _ _ B.n2.2.1.symm B.q,fun g hg=>k7 _ _ (B.n1 g hg).2.1 (B.h g hg),fun g hg j hj=>k7 _ _ (zd_ (B.l g hg j hj) hmt (by intro z; cases z)) (B.l g hg j hj),B.nd,B.no,B.dj,B.n1,B.n2,B.hn,B.ln,B.kl,B.zl⟩
        obtain ⟨⟨dx7,hob7⟩,-⟩:=id hW7
        have hc64:(zf9 (TT h).ns z.toNat).length<64:=Nat.lt_of_le_of_lt (X.O.len hh z.toNat) X.p
        have hO:=X.O
        have hp64:=X.p
        show zl8 3 (V.int h) _ _ _
        walk_at "w"
        intro m8 H8 hm8 hm88 s8
        have B8:=B7.same s8
        walk_at "w"
        intro m9 H9 s9 hm9 hm99
        refine zgj _ (s9 _ _ hm88) hm99 ?_
        walk_at "w"
        have s79:=s8.trans s9
        have hW9:za9 zaj.C zat.C zab.C H9 w td sd z r hs sil TT:=hW7.keep fun q o _ e=>s79 _ _ e
        have B9:=B7.same s79
        have hz9:=s79 _ _ hz7
        have k9:∀ q o,q≠mt→H q=some o→H9 q=some o:=fun q o hq e=>s79 _ _ (k7 q o hq e)
        have gT9:=B9.gT
        have gH9:=B9.gH hh
        have hd9:Rd H9 (M h).d (.dK (mhD (M h))):= .inl (B9.h h hh)
        have hfd:∀ ob u,H (M h).d≠some (.frz ob u):=fun ob u e=>by
          rw [X.B.h h hh] at e
          cases e
        walk_at "w"
        intro o2 HA hzA hothA _
        have ndm:mt≠(M h).d:=(X.B.n1 h hh).2.1.symm
        refine zls (a:=(M h).d) (o:=o2) (kvs:=mhD (M h)) (fun i σ HB=>zj2 (∃ (v4:Option V),σ=[some (.ref w),some (.ref md),some (.ref D),some (.int h),v4]∧HB mt=some (.frz o (.dK (mtD hs M)))∧HB (M h).d=some (.frz o2 (.dK (mhD (M h))))∧∀ q o,q≠mt→q≠(M h).d→H q=some o→HB q=some o)) ?_ (fun i σ HB _ ⟨_,_,_,e,_⟩=>e) ?_ ?_
        · exact ⟨⟨_,rfl,by rw [hothA _ ndm]; exact hz9,hzA,fun q o hq hq2 e=>by
            rw [hothA q hq2]
            exact k9 q o hq e⟩⟩
        · rintro i2 kv2 σ HB hi2 ⟨v4,rfl,hzB,hzB2,kB⟩
          obtain ⟨j,hj,rfl⟩:∃ j,j∈(M h).ks∧kv2=((Sum.inl (j:Int):Key),V.ref ((M h).l j)):=by
            unfold mhD zdx zlp at hi2
            rw [List.getElem?_map,List.getElem?_map] at hi2
            cases e:(M h).ks[i2]? with
            | none=>rw [e] at hi2; cases hi2
            | some j =>
              rw [e] at hi2
              refine ⟨j,List.mem_of_getElem? e,(Option.some.inj hi2).symm.trans ?_⟩
              show ((Sum.inl (j:Int):Key),V.ref ((M h).l ((j:Int)).toNat))=_
              rw [Int.toNat_natCast]
          have fh:zc6 md mt mq hs M (M h).d:= .inr (.inr (.inr ⟨h,hh,.inl rfl⟩))
          have hWB:za9 zaj.C zat.C zab.C HB w td sd z r hs sil TT:=X.W.keepM (fun q o e hd=>kB q o (fun y=>by rw [y,hmt] at e; exact hd _ (Option.some.inj e).symm) (fun y=>by rw [y,X.B.h h hh] at e; exact hd _ (Option.some.inj e).symm) e) (fun o e=>kB _ _ (own_ne (.inr (.inl rfl))).1 (own_ne fh).1 e) (fun o e=>kB _ _ (own_ne (.inr (.inl rfl))).2 (own_ne fh).2 e)
          obtain ⟨⟨dxB,hobB⟩,-⟩:=id hWB
          have hjz:(j:Int).toNat<z.toNat:=by rw [Int.toNat_natCast]; exact X.B.kl h hh j hj
          have hj0:(0:Int)≤(j:Int):=Int.natCast_nonneg j
          have gTB:zew HB md (V.str "tables") (some (V.ref mt)):=by
            obtain ⟨kv,e,a,_⟩:=X.B.d
            exact .inl ⟨kv,Sum.inr "tables",.inl (kB _ _ X.B.n2.1.symm (X.B.n1 h hh).1.symm e),rfl,a.symm⟩
          have gHB:zew HB mt (V.int h) (some (V.ref (M h).d)):= .inl ⟨_,Sum.inl h,.inr ⟨o,hzB⟩,rfl,by rw [zlo,if_pos hh]⟩
          have gKB:zew HB (M h).d (V.int (j:Int)) (some (V.ref ((M h).l j))):= .inl ⟨_,Sum.inl (j:Int),.inr ⟨o2,hzB2⟩,rfl,by rw [zjw,if_pos hj]⟩
          have hlj:=X.B.l h hh j hj
          have hljB:=kB _ _ (zd_ hlj hmt (by intro z; cases z)) (zd_ hlj (X.B.h h hh) (by intro z; cases z)) hlj
          show zl8 4 (V.int (j:Int)) _ _ _
          walk_at "w"
          intro mC HC hmC hmCC sC
          have gTC:zew HC md (V.str "tables") (some (V.ref mt)):=zew.same gTB sC
          have gHC:zew HC mt (V.int h) (some (V.ref (M h).d)):=zew.same gHB sC
          have gKC:zew HC (M h).d (V.int (j:Int)) (some (V.ref ((M h).l j))):=zew.same gKB sC
          rw [Int.toNat_natCast] at hmCC
          have hljC:HC ((M h).l j)=some (.lst (((TT h).ns j).map V.int)):=sC _ _ hljB
          walk_at "w"
          change if (!decide ((TT h).ns j=(TT h).ns j))=true then _ else _
          rw [decide_eq_true rfl]
          walk_at "w"
          exact ⟨⟨_,rfl,sC _ _ hzB,sC _ _ hzB2,fun q o hq hq2 e=>sC _ _ (kB q o hq hq2 e)⟩⟩
        · rintro σ HB ⟨v4,rfl,hzB,hzB2,kB⟩
          refine ⟨(M h).d,mhD (M h),o2,hzB2,hfd,?_⟩
          refine ⟨⟨_,_,rfl,by rw [zal ndm]; exact hzB,fun q o hq e=>?_⟩⟩
          by_cases e2:q=(M h).d
          · rw [e2,X.B.h h hh] at e
            rw [e2,zam]
            exact e
          · rw [zal e2]
            exact kB q o hq e2 e
      · rintro σ H7 ⟨v3,v4,rfl,hz7,k7⟩
        refine ⟨mt,mtD hs M,o,hz7,hfz,?_⟩
        walk_at "w"
        refine k _ fun q o e=>?_
        by_cases e2:q=mt
        · rw [e2,hmt] at e
          rw [e2,zam]
          exact e
        · rw [zal e2]
          exact k7 q o e2 e
end
section
variable {P:Program} {w:World} {K:PySem.W.Frag} {mg:Str→Option Value} {base:Heap}
def ztv:Sp:=fun vs H Q _=>∃ c k:Int,vs=[.int c,.int k]∧0≤k∧k≤1000∧∀ m:Int,0≤m→m<2147483647→Q (.int m) H
def zvi:Sp:=fun vs H Q _=>∃ c:Int,vs=[.int c]∧0≤c∧∀ (z:Int) (H':Hp),1≤z→z≤60→zbf H H'→Q (.int z) H'
def zvz:Sp:=fun vs H Q _=>∃ s z f:Int,vs=[.int s,.int z,.int f]∧0≤s∧0≤f∧1≤z∧z≤60∧∀ m:Int,0≤m→m<2 ^ z.toNat→Q (.int m) H
theorem zqx:za3 ["_law_cell","_law_k"] ["_law_cell","_law_k"] (zai (top 33)):=⟨rfl,rfl,rfl,by decide +kernel,rfl,by decide +kernel,by decide +kernel⟩
theorem zmz (D:Df K mg "_law_mixed" (top 33) ["_law_cell","_law_k"]):zbe P w K mg base CX0 1 D.f D.fd ["_law_cell","_law_k"] ztv:=by
 refine D.fn.ok zqx (fun vs H Q E h=>?_) (fun cdv A outer s H vs Q E hr h=>?_)
 ·obtain ⟨c,i,rfl,_⟩:=h
  rfl
 ·obtain ⟨c,i,rfl,hi0,hi1,k⟩:=h
  refine ⟨_,(zas (zbh (zbt zd3 (zbt zdp (zbt zf1 (zbt zf1 (zbt zf1 (zbt zmt (zbt zdp (pv 0) zaw) zaw) (zbt zmt (zbt zmt zaw (pv 1)) (pv 1))) (zbt zmt zaw (pv 1))) zaw) zaw) zaw))),?_⟩
  walk_at "w"
  refine k _ ?_ ?_
  ·omega
  ·omega
theorem zt1:za3 ["_law_cell"] ["_law_cell"] (zai (top 34)):=⟨rfl,rfl,rfl,by decide +kernel,rfl,by decide +kernel,by decide +kernel⟩
theorem ztq (D:Df K mg "_law_wide" (top 34) ["_law_cell"]):zbe P w K mg base CX0 1 D.f D.fd ["_law_cell"] zvi:=by
 refine D.fn.ok zt1 (fun vs H Q E h=>?_) (fun cdv A outer s H vs Q E hr h=>?_)
 ·obtain ⟨c,rfl,_⟩:=h
  rfl
 ·obtain ⟨c,rfl,hc,k⟩:=h
  refine ⟨_,(zas (zbh (zk4 zft (zc9 (zad (zbt zf1 zaw (zbt zdp (zbt zd3 (pv 0) zaw) zaw)) (zad (zbt zf1 zaw (zbt zdp (zbt zd3 (pv 0) zaw) zaw)) (zad zaw (zad (zbt zf1 zaw (zbt zdp (zbt zd3 (pv 0) zaw) zaw)) zar))))) (zbt zdp (pv 0) zaw) (fun _ _=>rfl)))),?_⟩
  obtain ⟨z,hz1,hz2,hat⟩:∃ z,1≤z∧z≤60∧atI [V.int (1+c / 4 % 60),V.int (3+c / 4 % 4),V.int 4,V.int (1+c / 4 % 8)] (c % 4)=some (V.int z):=by
   have h4:c % 4=0∨c % 4=1∨c % 4=2∨c % 4=3:=by omega
   rcases h4 with h | h | h | h
   ·exact ⟨1+c / 4 % 60,by omega,by omega,by rw [h]; rfl⟩
   ·exact ⟨3+c / 4 % 4,by omega,by omega,by rw [h]; rfl⟩
   ·exact ⟨4,by omega,by omega,by rw [h]; rfl⟩
   ·exact ⟨1+c / 4 % 8,by omega,by omega,by rw [h]; rfl⟩
  walk_at "w"
  intro p hp
  walk_at "w"
  exact k z _ hz1 hz2 (zbf.new H hp)
theorem ztm:za3 ["_law_signs","_law_wide_here","_law_first"] ["_law_signs","_law_wide_here","_law_first"] (zai (top 35)):=⟨rfl,rfl,rfl,by decide +kernel,rfl,by decide +kernel,by decide +kernel⟩
theorem zsy (D:Df K mg "_law_near" (top 35) ["_law_signs","_law_wide_here","_law_first"]):zbe P w K mg base CX0 1 D.f D.fd ["_law_signs","_law_wide_here","_law_first"] zvz:=by
  refine D.fn.ok ztm (fun vs H Q E h=>?_) (fun cdv A outer s H vs Q E hr h=>?_)
  · obtain ⟨s,z,f,rfl,_⟩:=h
    rfl
  · obtain ⟨c,z,f,rfl,hc,hf,hz1,hz2,k⟩:=h
    refine ⟨_,(zaq (zcq (zbk zgf (zbt zdp (pv 0) zaw) zaw (zb8 _))
       (zas (zbh (zbt zdp (zbt zd3 (pv 0) zaw) (zbt zku zaw (pv 1)))))
       zbo)
      (zas (zbh (zbt zdp (zbt zsf (pv 2) (zbt zdp (zbt zd3 (pv 0) zaw) zaw)) (zbt zku zaw (pv 1)))))),?_⟩
    have hp:(0:Int)<1 * 2 ^ z.toNat:=by rw [Int.one_mul]; exact two_pow_pos _
    have hnn:∀ x:Int,0≤x % (1 * 2 ^ z.toNat):=fun x=>Int.emod_nonneg _ (Int.ne_of_gt hp)
    have hlt:∀ x:Int,x % (1 * 2 ^ z.toNat)<2 ^ z.toNat:=fun x=>by
      have:=Int.emod_lt_of_pos x hp
      rw [Int.one_mul] at this ⊢
      exact this
    walk_at "w"
    refine zzb (fun _=>?_) (fun _=>?_)
    · walk_at "w"
      exact k _ (hnn _) (hlt _)
    · walk_at "w"
      exact k _ (hnn _) (hlt _)
theorem zuo:∀ {l:List Int},(∀ x∈l,0≤x)→0≤l.sum
  | [],_=>Int.le_refl 0
  | x :: t,h=>by
    have:=zuo (l:=t) fun y hy=>h y (List.mem_cons_of_mem _ hy)
    have:=h x (List.mem_cons_self ..)
    rw [List.sum_cons]
    omega
def zwx:Sp:=fun vs H Q _=>∃ (md mt mq:Addr) (r:Int) (z':Nat) (hs sil:List Int) (N:Int→Nat→List Int) (M:Int→ze1) (z c:Int),vs=[.ref md,.int z,.int c]∧zck H md mt mq r z' hs sil N M∧H mt=some (.dK (mtD hs M))∧(∀ x∈hs,0≤x)∧0≤c∧1≤z∧z≤60 ∧
 ∀ (i:Int) (H':Hp),zbf H H'→0≤i→i<2 ^ z.toNat→Q (.int i) H'
theorem zpl:za3 ["_law_model","_law_wide_here","_law_cell","_law_signs"] ["_law_model","_law_wide_here","_law_cell"] (zai (top 45)):=⟨rfl,rfl,rfl,by decide +kernel,rfl,by decide +kernel,by decide +kernel⟩
theorem zt_ (T:Txt mg) (zbp:Df K mg "_law_mixed" (top 33) ["_law_cell","_law_k"]) (zdo:Df K mg "_law_near" (top 35) ["_law_signs","_law_wide_here","_law_first"]) (D:Df K mg "_law_name" (top 45) ["_law_model","_law_wide_here","_law_cell"]):zbe P w K mg base CX0 2 D.f D.fd ["_law_model","_law_wide_here","_law_cell"] zwx:=by
 have zer:zbe P w K mg base CX0 1 _ _ _ _:=zmz zbp
 have zom:zbe P w K mg base CX0 1 _ _ _ _:=zsy zdo
 refine D.fn.ok zpl (fun vs H Q E h=>?_) (fun cdv A outer s H vs Q E hr h=>?_)
 ·obtain ⟨md,mt,mq,r,z',hs,sil,N,M,z,c,rfl,_⟩:=h
  rfl
 ·obtain ⟨md,mt,mq,r,z',hs,sil,N,M,z,c,rfl,W,hmt,hnn,hc,hz1,hz2,k⟩:=h
  have hln:=W.ln
  have hkeys:=zlr (hs:=hs) (M:=M)
  have h1000:hs.length≤1000:=by omega
  refine ⟨_,(zaq (zcp (i:=3) zpl.nd rfl (Or.inl rfl) (zk4 zft (zc9 (zad (zbt zd3 (pv 2) zaw) (zad (zbt zmt (zbn zer (hr.mono (by decide)) rfl zbp.hm zbp.fn.kp zbp.b .nil zbm (zad (pv 2) (zad zaw zar))) (zbn zer (hr.mono (by decide)) rfl zbp.hm zbp.fn.kp zbp.b .nil zbm (zad (pv 2) (zad zaw zar)))) zar))) (zbt zdp (pv 2) zaw) (fun _ _=>rfl)))
   (zas (zbh (zbn zom (hr.mono (by decide)) rfl zdo.hm zdo.fn.kp zdo.b .nil zbm (zad (pv 3) (zad (pv 1) (zad (zb1 (zpc rfl) rfl T.n_sum zu0 (zad (zez zfn (zi_ (zqf rfl) rfl T.n_list zof (zad (zby (zcj hr) (pv 0) zb6 (fun _ _=>rfl)) zar)) zg5 (ze_ zaw)) zar)) zar))))))),?_⟩
  walk_at "w"
  intro m1 hm1 hm1'
  walk_at "w"
  intro m2 hm2 hm2'
  walk_at "w"
  intro p hp
  have hmm:0≤m1 * m2:=Int.mul_nonneg hm1 hm2
  obtain ⟨sg,hsg,hat⟩:∃ sg,0≤sg∧atI [V.int (c / 2),V.int (m1 * m2)] (c % 2)=some (V.int sg):=by
   have h2:c % 2=0∨c % 2=1:=by omega
   rcases h2 with h | h
   ·exact ⟨c / 2,by omega,by rw [h]; rfl⟩
   ·exact ⟨m1 * m2,hmm,by rw [h]; rfl⟩
  have s1:zbf H (upd H p (.lst [V.int (c / 2),V.int (m1 * m2)])):=zbf.new H hp
  have hp1:upd H p (.lst [V.int (c / 2),V.int (m1 * m2)]) p=some (.lst [V.int (c / 2),V.int (m1 * m2)]):=zam
  generalize upd H p (.lst [V.int (c / 2),V.int (m1 * m2)])=H1 at s1 hp1 ⊢
  have W1:=W.same s1
  have gT:=W1.gT
  have hmt1:=s1 _ _ hmt
  walk_at "w"
  intro l1 hl1
  have s2:zbf H1 (upd H1 l1 (.lst (hs.map V.int))):=zbf.new H1 hl1
  have hl12:upd H1 l1 (.lst (hs.map V.int)) l1=some (.lst (hs.map V.int)):=zam
  generalize upd H1 l1 (.lst (hs.map V.int))=H2 at s2 hl12 ⊢
  obtain ⟨ts,ets,_,hts⟩:=zv0 hs none (some 1)
  walk_at "w"
  rw [ets]
  intro l2 hl2
  have hsum:0≤ts.sum:=zuo fun x hx=>hnn x (hts x hx)
  have s3:zbf H2 (upd H2 l2 (.lst (ts.map V.int))):=zbf.new H2 hl2
  walk_at "w"
  intro i hi0 hi1
  exact k i _ ((s1.trans s2).trans s3) hi0 hi1
end
def zv9:Sp:=fun vs H Q _=>∃ (md mt mq:Addr) (r:Int) (z:Nat) (hs sil:List Int) (N:Int→Nat→List Int) (M:Int→ze1) (c:Int),vs=[.ref md,.int c]∧zck H md mt mq r z hs sil N M∧H mt=some (.dK (mtD hs M)) ∧
 ∀ (v:V) (H':Hp),zbf H H'→(v = .non∨∃ d,v = .int d∧d∈hs∧d∉sil)→Q v H'
section
variable {P:Program} {w:World} {K:PySem.W.Frag} {mg:Str→Option Value} {base:Heap}
theorem zo_:za3 ["_law_model","_law_cell","_law_awake_here"] ["_law_model","_law_cell"] (zai (top 44)):=⟨rfl,rfl,rfl,by decide +kernel,rfl,by decide +kernel,by decide +kernel⟩
theorem zt7 (T:Txt mg) (D:Df K mg "_law_some" (top 44) ["_law_model","_law_cell"]):zbe P w K mg base CX0 1 D.f D.fd ["_law_model","_law_cell"] zv9:=by
  refine D.fn.ok zo_ (fun vs H Q E h=>?_) (fun cdv A outer s H vs Q E hr h=>?_)
  · obtain ⟨md,mt,mq,r,z,hs,sil,N,M,c,rfl,_⟩:=h
    rfl
  · obtain ⟨md,mt,mq,r,z,hs,sil,N,M,c,rfl,W,hmt,k⟩:=h
    have hln:=W.ln
    have gT:=W.gT
    have hkeys:=zlr (hs:=hs) (M:=M)
    have h64:hs.length<64:=by omega
    refine ⟨_,(zaq (zkx (i:=2) zo_.nd rfl (Or.inl rfl) rfl (zdn (own:=["_law_house"]) (caps:=[0]) (N':=["_law_house","_law_model"]) (by kernel_rfl)) (zee (zb1 (zd4 rfl) rfl T.n_sorted zd7 (zad (zby (zcj hr) (pv 0) zb6 (fun _ _=>rfl)) zar))) (fun _ _ _ _ _=>(zcw (i:=0) (show (["_law_house","_law_model"]:List Str).Nodup by decide +kernel) rfl (Or.inl rfl))) (fun _ _ _ _ _=>(zh9 (zie (zeq (zcj hr) (pv 0) (zby (zcj hr) (pv 1) zb6 (fun _ _=>rfl)))))) (fun _ _ _ _ _=>(pv 0)))
      (zaq (zcq (zbk (zyj hr.units) (pv 2) (zc9 zar) (zb8 _))
       (zas (zbh zht))
       zbo)
      (zas (zbh (zk4 zft (pv 2) (zbt zdp (pv 1) (zb1 zet rfl T.n_len zjs (zad (pv 2) zar))) (fun _ _=>rfl)))))),?_⟩
    walk_at "w"
    intro l hl
    have s1:zbf H (upd H l (.lst ((zb_ hs).map V.int))):=zbf.new H hl
    have hl1:upd H l (.lst ((zb_ hs).map V.int)) l=some (.lst ((zb_ hs).map V.int)):=zam
    generalize upd H l (.lst ((zb_ hs).map V.int))=H1 at s1 hl1 ⊢
    walk_at "w"
    intro D hD
    refine zel (fun h=> !decide (h∈sil)) hD (SqL.of hl1) (by rw [zd2]; omega) (fun x hx H2 Qt s2 q=>?_) fun H2 s2 hD2=>?_
    · have W2:=(W.same s1).same s2
      have gQ:=W2.gQ
      have hq:=W2.q
      have hv:=zev (sil:=sil) (i:=x)
      walk_at "w"
      rw [hv]
      exact q H2 (zbf.refl H2)
    · generalize hf:(zb_ hs).filter (fun h=> !decide (h∈sil))=f at hD2
      have hfm:∀ x∈f,x∈hs∧x∉sil:=fun x hx=>by
        rw [← hf] at hx
        obtain ⟨a,b⟩:=List.mem_filter.mp hx
        exact ⟨(zdu _).subset a,by simpa using b⟩
      have hfl:f.length≤60:=by
        rw [← hf]
        have:=List.length_filter_le (fun h=> !decide (h∈sil)) (zb_ hs)
        rw [zd2] at this
        omega
      have s12:=s1.trans s2
      walk_at "w"
      intro e0 he0
      have s3:zbf H2 (upd H2 e0 (.lst [])):=zbf.new H2 he0
      have he01:upd H2 e0 (.lst []) e0=some (.lst (([]:List Int).map V.int)):=zam
      have hD3:=s3 _ _ hD2
      generalize upd H2 e0 (.lst [])=H3 at s3 he01 hD3 ⊢
      have s13:=s12.trans s3
      walk_at "w"
      by_cases hne:f=[]
      · refine zkn hne ?_
        walk_at "w"
        exact k .non H3 s13 (.inl rfl)
      · refine zfv hne ?_
        have hlm:(f.map V.int).length=f.length:=List.length_map ..
        have hpos:(0:Int)<(((f.map V.int).length:Nat):Int):=by
          have:=List.length_pos_iff.mpr hne
          omega
        obtain ⟨y,hy,hat⟩:∃ y,y∈f∧atI (f.map V.int) (c % (((f.map V.int).length:Nat):Int))=some (V.int y):=by
          have a1:=Int.emod_nonneg c (Int.ne_of_gt hpos)
          have a2:=Int.emod_lt_of_pos c hpos
          have hlt:(c % (((f.map V.int).length:Nat):Int)).toNat<f.length:=by omega
          refine ⟨f[(c % (((f.map V.int).length:Nat):Int)).toNat],List.getElem_mem hlt,?_⟩
          have e:(((c % (((f.map V.int).length:Nat):Int)).toNat:Nat):Int)=c % (((f.map V.int).length:Nat):Int):=by omega
          have z:=zlf (xs:=f.map V.int) (j:=(c % (((f.map V.int).length:Nat):Int)).toNat) (v:=V.int f[(c % (((f.map V.int).length:Nat):Int)).toNat]) (by simp [hlt])
          rwa [e] at z
        walk_at "w"
        exact k (.int y) H3 s13 (.inr ⟨y,rfl,hfm y hy⟩)
theorem zrb {c:Int} (c0:0≤c):∃ r,1≤r∧r≤8∧atI [V.int (1+c / 256 % 3),V.int (1+c / 256 % 8)] (c / 2048 % 2)=some (V.int r):=by
 have h2:c / 2048 % 2=0∨c / 2048 % 2=1:=by omega
 rcases h2 with h | h
 ·exact ⟨1+c / 256 % 3,by omega,by omega,by rw [h]; rfl⟩
 ·exact ⟨1+c / 256 % 8,by omega,by omega,by rw [h]; rfl⟩
def zyh (K:PySem.W.Frag):Sp:=fun vs H Q _=>∃ (a:Addr) (ss:List Int),vs=[.ref a]∧SqL K H a (ss.map V.int) ∧
 ∀ (tp md mt mq:Addr) (z r:Int) (H':Hp) (N:Int→Nat→List Int) (M:Int→ze1),1≤z→z≤60→1≤r→r≤8→zbf H H'→H' tp=some (.tup [.int z,.int r,.ref md])→zck H' md mt mq r z.toNat [] [] N M→H' mt=some (.dK (mtD [] M))→H md=none→H mt=none→H mq=none→H' md=some (.dK [(Sum.inr "tables",V.ref mt),(Sum.inr "quiet",V.ref mq),(Sum.inr "room",V.int r)])→Q (.ref tp) H'
theorem zlc:za3 ["_law_script","_law_head","_law_wide_here","_law_room"] ["_law_script"] (zai (top 43)):=⟨rfl,rfl,rfl,by decide +kernel,rfl,by decide +kernel,by decide +kernel⟩
theorem zvu (T:Txt mg) (zdm:Df K mg "_law_wide" (top 34) ["_law_cell"]) (D:Df K mg "_law_set" (top 43) ["_law_script"]):zbe P w K mg base CX0 2 D.f D.fd ["_law_script"] (zyh K):=by
 have zn8:zbe P w K mg base CX0 1 _ _ _ _:=ztq zdm
 refine D.fn.ok zlc (fun vs H Q E h=>?_) (fun cdv A outer s H vs Q E hr h=>?_)
 ·obtain ⟨a,ss,rfl,_⟩:=h
  rfl
 ·obtain ⟨a,ss,rfl,hS,k⟩:=h
  obtain ⟨ts,ets,_⟩:=ztk ss none (some 1)
  refine ⟨_,(zaq (zcp (i:=1) zlc.nd rfl (Or.inl rfl) (zbt zdp (zb1 (zpc rfl) rfl T.n_sum zu0 (zad (zez zfn (pv 0) zg5 (ze_ zaw)) zar)) (zbt zo0 zaw zaw)))
   (zaq (zcp (i:=2) zlc.nd rfl (Or.inl rfl) (zbn zn8 (hr.mono (by decide)) rfl zdm.hm zdm.fn.kp zdm.b .nil zbm (zad (pv 1) zar)))
   (zaq (zcp (i:=3) zlc.nd rfl (Or.inl rfl) (zk4 zft (zc9 (zad (zbt zf1 zaw (zbt zdp (zbt zd3 (pv 1) zaw) zaw)) (zad (zbt zf1 zaw (zbt zdp (zbt zd3 (pv 1) zaw) zaw)) zar))) (zbt zdp (zbt zd3 (pv 1) zaw) zaw) (fun _ _=>rfl)))
   (zas (zbh (zuu (zad (pv 2) (zad (pv 3) (zad (zrz (zi1 zb6 zgo (zi1 zb6 zgo (zi1 zb6 (pv 3) zri))) rfl rfl (fun z=>nomatch z) (Nat.le_of_ble_eq_true rfl)) zar))))))))),?_⟩
  walk_at "w"
  rw [ets]
  intro p1 hp1
  have s1:zbf H (upd H p1 (.lst (ts.map V.int))):=zbf.new H hp1
  have hp11:upd H p1 (.lst (ts.map V.int)) p1=some (.lst (ts.map V.int)):=zam
  generalize upd H p1 (.lst (ts.map V.int))=H1 at s1 hp11 ⊢
  have c0:0≤ts.sum % 10 ^ (60:Int).toNat:=Int.emod_nonneg _ (by decide)
  walk_at "w"
  intro z H2 hz1 hz2 s2
  walk_at "w"
  intro p2 hp2
  obtain ⟨r,hr1,hr2,hat⟩:=zrb c0
  have s3:zbf H2 (upd H2 p2 (.lst [V.int (1+ts.sum % 10 ^ (60:Int).toNat / 256 % 3),V.int (1+ts.sum % 10 ^ (60:Int).toNat / 256 % 8)])):=zbf.new H2 hp2
  have s03:=(s1.trans s2).trans s3
  walk_at "w"
  change (zx3 _ _:TA) _ (upd H2 p2 (.lst [V.int (1+ts.sum % 10 ^ (60:Int).toNat / 256 % 3),V.int (1+ts.sum % 10 ^ (60:Int).toNat / 256 % 8)])) _
  generalize upd H2 p2 (.lst [V.int (1+ts.sum % 10 ^ (60:Int).toNat / 256 % 3),V.int (1+ts.sum % 10 ^ (60:Int).toNat / 256 % 8)])=H3 at s3 s03 ⊢
  intro md hmd
  intro mt hmt
  intro mq hmq
  refine ⟨_,rfl,?_⟩
  have nmt:mt≠md:=(zap zam hmt).symm
  have nqt:mq≠mt:=(zap zam hmq).symm
  have nqd:mq≠md:=fun e=>by
   rw [e,zal nmt.symm,zam] at hmq
   cases hmq
  refine ⟨by rw [zal nqd.symm,zal nmt.symm,zam],[(Sum.inr "tables",V.ref mt),(Sum.inr "quiet",V.ref mq),(Sum.inr "room",V.int r)],rfl,(show 3≤15 by decide),?_⟩
  have hmt3:H3 mt=none:=by rw [zal nmt] at hmt; exact hmt
  have hmq3:H3 mq=none:=by rw [zal nqt,zal nqd] at hmq; exact hmq
  generalize hH4:upd (upd (upd (upd H3 md _) mt _) mq _) md _=H4
  have s4:zbf H3 H4:=fun q o e=>by
   rw [← hH4,zal (zap e hmd),zal (zap e hmq3),zal (zap e hmt3),zal (zap e hmd)]
   exact e
  have e1:H4 md=some (.dK [(Sum.inr "tables",V.ref mt),(Sum.inr "quiet",V.ref mq),(Sum.inr "room",V.int r)]):=by rw [← hH4,zam]; rfl
  have e2:H4 mt=some (.dK []):=by rw [← hH4,zal nmt,zal nqt.symm,zam]
  have e3:H4 mq=some (.dK []):=by rw [← hH4,zal nqd,zam]
  clear hH4
  walk_at "w"
  intro tp htp
  have s5:zbf H4 (upd H4 tp (.tup [V.int z,V.int r,V.ref md])):=zbf.new H4 htp
  refine k tp md mt mq z r _ (fun _ _=>[]) (fun _=>⟨0,[],fun _=>0⟩) hz1 hz2 hr1 hr2 ((s03.trans s4).trans s5) zam ⟨⟨_,s5 _ _ e1,rfl,rfl,rfl⟩,.inl (s5 _ _ e2),s5 _ _ e3,fun h hh=>(nomatch hh),fun h hh=>(nomatch hh),fun h hh=>(nomatch hh),fun h hh=>(nomatch hh),fun h hh=>(nomatch hh),fun h hh=>(nomatch hh),⟨nmt,nqt.symm,nqd.symm⟩,List.nodup_nil,by decide,fun h hh=>(nomatch hh),by omega⟩ (s5 _ _ e2) (s03.free hmd) (s03.free hmt3) (s03.free hmq3) (s5 _ _ e1)
end
theorem NOk.pool {pool pool':List Int} {z:Nat} {r:Int} {hs:List Int} {N:Int→Nat→List Int} (O:NOk pool z r hs N) (h:∀ x∈pool,x∈pool'):NOk pool' z r hs N:=⟨O.nd,O.le,fun g hg k m hm=>⟨h m (O.st g hg k m hm).1,(O.st g hg k m hm).2⟩⟩
theorem zxr {E:Int→Int→Prop} {d i:Int} {k1 k2:List Int} (a1:k1.Nodup) (a2:∀ x,x∈k1↔Rch E d x) (b1:k2.Nodup) (b2:∀ x,x∈k2↔Rch E d x):zhz i k1=zhz i k2:=by
 unfold zhz
 rw [zpk (zr1 a1 b1 fun x=>(a2 x).trans (b2 x).symm)]
theorem zxa {z:Nat} {hs sil:List Int} {N:Int→Nat→List Int} {d i:Int} {ks:List Int} (hm:∀ x,x∈ks↔Rch (zop z (awB hs sil) N) d x) (hd:d∈hs):∀ x∈zhz i ks,x∈hs∧x≠i:=fun x hx=>by
  have a:=zhi hx
  refine ⟨?_,a.2⟩
  have b:=(hm x).mp a.1
  cases b with
  | own=>exact hd
  | go _ e =>
    have e2:=e.2
    unfold awB at e2
    simp only [Bool.and_eq_true,decide_eq_true_eq] at e2
    exact e2.1
section
variable {CB CT CW:Addr} {H H5 H6:Hp} {w td sd:Addr} {z r:Int} {hs hs' sil pool:List Int} {T T6:Int→zdz} {md mt mq:Addr} {M M5:Int→ze1}
theorem zqr.notFoot (X:zqr CB CT CW H w td sd z r hs sil pool T md mt mq M) {q:Addr} (h:Own td sd z.toNat hs T q):¬ zc6 md mt mq hs M q:=fun y=>X.S q y h
theorem zqr.mdl (X:zqr CB CT CW H w td sd z r hs sil pool T md mt mq M) (d:zec md H H5 (zc6 md mt mq hs M) (zc6 md mt mq hs' M5)):za9 CB CT CW H5 w td sd z r hs sil T∧∀ q,zc6 md mt mq hs' M5 q→¬ Own td sd z.toNat hs T q:=by
 refine ⟨X.W.keepM d.k (fun o e=>d.n _ _ e (X.notFoot (.inl rfl))) (fun o e=>d.n _ _ e (X.notFoot (.inr (.inl rfl)))),fun q hq ho=>?_⟩
 rcases d.o q hq with y | y
 ·exact X.S q y ho
 ·exact X.W.notOwn y ho
theorem zqr.lay (X:zqr CB CT CW H w td sd z r hs sil pool T md mt mq M) {l:Addr} {xs ys:List V} (hl:H l=some (.lst xs)) (hn:¬ Own td sd z.toNat hs T l) (hf:¬ zc6 md mt mq hs M l):zqr CB CT CW (upd H l (.lst ys)) w td sd z r hs sil pool T md mt mq M :=
 ⟨X.W.lay hl hn,X.A,X.B.keep fun q hF o _ e=>by rw [zal (fun (y:q=l)=>hf (by rw [← y]; exact hF))]; exact e,by rw [zal (fun (y:mt=l)=>hf (by rw [← y]; exact .inr (.inl rfl)))]; exact X.m,X.O,X.p,X.q,X.S⟩
end
def zff (H H':Hp) (O O':Addr→Prop):Prop:=∀ q xs,H q=some (.lst xs)→¬ O q→H' q=some (.lst xs)∧¬ O' q
theorem zff.trans {H H1 H2:Hp} {O O1 O2:Addr→Prop} (a:zff H H1 O O1) (b:zff H1 H2 O1 O2):zff H H2 O O2:=fun q xs e hn=>by
 obtain ⟨e1,n1⟩:=a q xs e hn
 exact b q xs e1 n1
theorem zff.same {H H':Hp} {O:Addr→Prop} (s:zbf H H'):zff H H' O O:=fun q xs e hn=>⟨s _ _ e,hn⟩
theorem zff.deed {T1:Addr} {H H':Hp} {O O':Addr→Prop} (d:zgx T1 H H' O O'):zff H H' O O':=fun q xs e hn=>⟨d.k _ _ (fun _ z=>nomatch z) e hn,fun y=>by
 rcases d.o q y with y | y
 ·exact hn y
 ·rw [e] at y
  cases y⟩
theorem zff.mdl {md:Addr} {H H':Hp} {O F F':Addr→Prop} (d:zec md H H' F F'):zff H H' O O:=fun q xs e hn=>⟨d.k _ _ e (fun _ z=>nomatch z),hn⟩
theorem zme {T1:Addr} {H H':Hp} {md mt mq:Addr} {r:Int} {z:Nat} {hs sil:List Int} {N:Int→Nat→List Int} {M:Int→ze1} {O O':Addr→Prop} (B:zck H md mt mq r z hs sil N M) (hmt:H mt=some (.dK (mtD hs M))) (S:∀ q,zc6 md mt mq hs M q→¬ O q) (d:zgx T1 H H' O O') :
  zck H' md mt mq r z hs sil N M∧H' mt=some (.dK (mtD hs M))∧∀ q,zc6 md mt mq hs M q→¬ O' q:=by
 refine ⟨B.keep fun q hF o ho e=>d.k q o ho e (S q hF),d.k _ _ (fun _ z=>nomatch z) hmt (S _ (.inr (.inl rfl))),fun q hF ho=>?_⟩
 rcases d.o q ho with y | y
 ·exact S q hF y
 ·obtain ⟨o,e⟩:=B.ex hF
  rw [y] at e
  cases e
theorem zpj {CB CT CW w td sd md:Addr} {H H':Hp} {z r:Int} {hs sil:List Int} {T:Int→zdz} {F F':Addr→Prop} (W:za9 CB CT CW H w td sd z r hs sil T) (S:∀ q,F q→¬ Own td sd z.toNat hs T q) (d:zec md H H' F F') :
  za9 CB CT CW H' w td sd z r hs sil T∧∀ q,F' q→¬ Own td sd z.toNat hs T q:=by
 refine ⟨W.keepM d.k (fun o e=>d.n _ _ e fun y=>S _ y (.inl rfl)) (fun o e=>d.n _ _ e fun y=>S _ y (.inr (.inl rfl))),fun q hq ho=>?_⟩
 rcases d.o q hq with y | y
 ·exact S q y ho
 ·exact W.notOwn y ho
theorem Tab.mdl {md:Addr} {H H':Hp} {F F':Addr→Prop} {T1:Addr} {po:Pos} {qu:Str} (t:Tab H T1 po qu) (d:zec md H H' F F'):Tab H' T1 po qu:=Tab.hold t fun q o ho e=>d.k q o e fun dd y=>by
 subst y
 rcases ho with ⟨x,kk,e2⟩ | e2
 ·cases e2
 ·obtain ⟨ps,hP,_⟩:=t
  rw [← e2,e] at hP
  cases hP
section
variable {H H':Hp} {md mt mq:Addr} {r:Int} {z:Nat} {hs sil:List Int} {N:Int→Nat→List Int} {M:Int→ze1}
theorem zck.dicts (W:zck H md mt mq r z hs sil N M) {hs' sil':List Int} (k:∀ q o,H q=some o→q≠mt→q≠mq→H' q=some o) (e1:H' mt=some (.dK (mtD hs' M))) (e2:H' mq=some (.dK (zf5 sil'))) (hn:hs'.Nodup) (hm:∀ x∈hs',x∈hs) (hl:hs'.length≤60):zck H' md mt mq r z hs' sil' N M:=by
 obtain ⟨kv,e,a,b,c⟩:=W.d
 exact ⟨⟨kv,k _ _ e W.n2.1.symm W.n2.2.2,a,b,c⟩,.inl e1,e2,fun g hg=>k _ _ (W.h g (hm g hg)) (W.n1 g (hm g hg)).2.1 (W.n1 g (hm g hg)).2.2,fun g hg j hj=>k _ _ (W.l g (hm g hg) j hj) (fun y=>by
   have:=W.l g (hm g hg) j hj
   rcases W.t with t | ⟨o,t⟩
   ·rw [y,t] at this
    cases this
   ·rw [y,t] at this
    cases this) (zd_ (W.l g (hm g hg) j hj) W.q (by intro z; cases z)),fun g hg=>W.nd g (hm g hg),fun g hg=>W.no g (hm g hg),fun g hg g' hg'=>W.dj g (hm g hg) g' (hm g' hg'),fun g hg=>W.n1 g (hm g hg),W.n2,hn,hl,fun g hg=>W.kl g (hm g hg),W.zl⟩
theorem zec.dicts (W:zck H md mt mq r z hs sil N M) (hmt:H mt=some (.dK (mtD hs M))) {hs':List Int} (k:∀ q o,H q=some o→q≠mt→q≠mq→H' q=some o) (x1:∃ o,H' mt=some o) (x2:∃ o,H' mq=some o) (hm:∀ x∈hs',x∈hs):zec md H H' (zc6 md mt mq hs M) (zc6 md mt mq hs' M):=by
  refine ⟨fun q o e hd=>k q o e (fun y=>by rw [y,hmt] at e; exact hd _ (Option.some.inj e).symm) (fun y=>by rw [y,W.q] at e; exact hd _ (Option.some.inj e).symm),fun q o e hn=>k q o e (fun y=>hn (.inr (.inl y))) (fun y=>hn (.inr (.inr (.inl y)))),fun q hq=>?_,fun q hq=>?_,fun o e=>k _ _ e W.n2.1.symm W.n2.2.2⟩
  · rcases hq with y | y | y | ⟨g,hg,y⟩
    · exact .inl (.inl y)
    · exact .inl (.inr (.inl y))
    · exact .inl (.inr (.inr (.inl y)))
    · exact .inl (.inr (.inr (.inr ⟨g,hm g hg,y⟩)))
  · cases e:H q with
    | none=>rfl
    | some o =>
      exfalso
      by_cases y1:q=mt
      · obtain ⟨o1,e1⟩:=x1
        rw [y1,e1] at hq
        cases hq
      · by_cases y2:q=mq
        · obtain ⟨o1,e1⟩:=x2
          rw [y2,e1] at hq
          cases hq
        · rw [k q o e y1 y2] at hq
          cases hq
end
structure zgs (CB CT CW T1:Addr) (H:Hp) (w td sd:Addr) (z r:Int) (hs sil pool:List Int) (T:Int→zdz) (md mt mq:Addr) (M:Int→ze1):Prop where
 X:zqr CB CT CW H w td sd z r hs sil pool T md mt mq M
 t:Tab H T1 (zfo zg7) quH
 sm:∀ x∈sil,x∈hs
 sn:sil.Nodup
 n12:hs.length≤12
theorem zgs.same {CB CT CW T1:Addr} {H H':Hp} {w td sd:Addr} {z r:Int} {hs sil pool:List Int} {T:Int→zdz} {md mt mq:Addr} {M:Int→ze1} (X:zgs CB CT CW T1 H w td sd z r hs sil pool T md mt mq M) (s:zbf H H'):zgs CB CT CW T1 H' w td sd z r hs sil pool T md mt mq M:=⟨X.X.same s,(s.but _).2 _ _ X.t,X.sm,X.sn,X.n12⟩
theorem zgs.sl {CB CT CW T1:Addr} {H:Hp} {w td sd:Addr} {z r:Int} {hs sil pool:List Int} {T:Int→zdz} {md mt mq:Addr} {M:Int→ze1} (X:zgs CB CT CW T1 H w td sd z r hs sil pool T md mt mq M):sil.length≤12:=Nat.le_trans (zct X.sn X.sm) X.n12
def zl9 (z:Nat) (hs sil:List Int) (N:Int→Nat→List Int) (i:Int) (dv:V) (vis:List Int):Prop:=(dv = .non→vis=[])∧∀ d,dv = .int d→∃ ks:List Int,ks.Nodup∧(∀ x,x∈ks↔Rch (zop z (awB hs sil) N) d x)∧vis=zhz i ks
theorem zl9.eq {z:Nat} {hs sil:List Int} {N:Int→Nat→List Int} {i:Int} {dv:V} {v1 v2:List Int} (a:zl9 z hs sil N i dv v1) (b:zl9 z hs sil N i dv v2) (h:dv = .non∨∃ d,dv = .int d):v1=v2:=by
 rcases h with h | ⟨d,h⟩
 ·rw [a.1 h,b.1 h]
 ·obtain ⟨k1,a1,a2,rfl⟩:=a.2 d h
  obtain ⟨k2,b1,b2,rfl⟩:=b.2 d h
  exact zxr a1 a2 b1 b2
theorem zl9.ok {z:Nat} {hs sil:List Int} {N:Int→Nat→List Int} {i:Int} {dv:V} {vis:List Int} (a:zl9 z hs sil N i dv vis) (h:dv = .non∨∃ d,dv = .int d∧d∈hs):∀ x∈vis,x∈hs∧x≠i:=by
 rcases h with h | ⟨d,h,hd⟩
 ·rw [a.1 h]
  exact fun x hx=>(nomatch hx)
 ·obtain ⟨k1,a1,a2,rfl⟩:=a.2 d h
  exact zxa a2 hd
section
variable {CB CT CW T1:Addr} {H H3 H4:Hp} {w td sd:Addr} {z r:Int} {hs sil pool:List Int} {T T3:Int→zdz} {md mt mq:Addr} {M M4:Int→ze1}
theorem zgs.come (X:zgs CB CT CW T1 H w td sd z r hs sil pool T md mt mq M) {i:Int} {vis:List Int} (h12:hs.length<12) (hp:pool.length<60) (hv:∀ x∈vis,x∈hs++[i]∧x≠i) (W3:za9 CB CT CW H3 w td sd z r (hs++[i]) sil T3) (A3:zfr z.toNat (hs++[i]) T3)
  (e3:(fun g=>(T3 g).ns)=zdb r (awB (hs++[i]) sil) (zlx (fun g=>(T g).ns) i) i vis) (t3:Tab H3 T1 (zfo zg7) quH) (S3:∀ q,zc6 md mt mq hs M q→¬ Own td sd z.toNat (hs++[i]) T3 q)
  (B4:zck H4 md mt mq r z.toNat (hs++[i]) sil (zdb r (awB (hs++[i]) sil) (zlx (fun g=>(T g).ns) i) i vis) M4) (m4:H4 mt=some (.dK (mtD (hs++[i]) M4))) (d4:zec md H3 H4 (zc6 md mt mq hs M) (zc6 md mt mq (hs++[i]) M4)) :
  zgs CB CT CW T1 H4 w td sd z r (hs++[i]) sil (pool++[i]) T3 md mt mq M4:=by
 obtain ⟨W4,S4⟩:=zpj W3 S3 d4
 have hr1:=W3.r1
 have hps:∀ x∈hs++[i],x∈pool++[i]:=fun x hx=>(List.mem_append.mp hx).elim (fun y=>List.mem_append_left _ (X.X.q x y)) fun y=>List.mem_append_right _ y
 have hip:i∈pool++[i]:=List.mem_append_right _ (List.mem_singleton.mpr rfl)
 have O4:NOk (pool++[i]) z.toNat r (hs++[i]) (zdb r (awB (hs++[i]) sil) (zlx (fun g=>(T g).ns) i) i vis):=NOk.meets hr1 hip (fun x hx=>⟨hps x (hv x hx).1,(hv x hx).2⟩) ((X.X.O.pool fun x hx=>List.mem_append_left _ hx).comer hr1 i)
 refine ⟨⟨W4,A3,?_,m4,?_,by rw [List.length_append,List.length_singleton]; omega,hps,S4⟩,Tab.mdl t3 d4,fun x hx=>List.mem_append_left _ (X.sm x hx),X.sn,by rw [List.length_append,List.length_singleton]; omega⟩
 ·rw [e3]
  exact B4
 ·rw [e3]
  exact O4
theorem zgs.dicts (X:zgs CB CT CW T1 H w td sd z r hs sil pool T md mt mq M) {hs' sil':List Int} (k3:∀ q o,H q=some o→q≠mt→q≠mq→H3 q=some o) (a1:H3 mt=some (.dK (mtD hs' M))) (a2:H3 mq=some (.dK (zf5 sil'))) (hn:hs'.Nodup) (hm:∀ x∈hs',x∈hs) (sm:∀ x∈sil',x∈hs') (sn:sil'.Nodup) :
  za9 CB CT CW H3 w td sd z r hs sil T∧Tab H3 T1 (zfo zg7) quH∧zec md H H3 (zc6 md mt mq hs M) (zc6 md mt mq hs' M)∧∀ H4,za9 CB CT CW H4 w td sd z r hs' sil' T→(∀ q o,H3 q=some o→q≠td→q≠sd→H4 q=some o)→zgs CB CT CW T1 H4 w td sd z r hs' sil' pool T md mt mq M∧zff H H4 (Own td sd z.toNat hs T) (Own td sd z.toNat hs' T)∧zgx T1 H3 H4 (Own td sd z.toNat hs T) (Own td sd z.toNat hs' T):=by
 have hl:hs'.length≤hs.length:=zct hn hm
 have h60:hs'.length≤60:=Nat.le_trans hl X.X.W.ln
 have B3:=X.X.B.dicts k3 a1 a2 hn hm h60
 have d3:zec md H H3 (zc6 md mt mq hs M) (zc6 md mt mq hs' M):=zec.dicts X.X.B X.X.m k3 ⟨_,a1⟩ ⟨_,a2⟩ hm
 obtain ⟨W3,S3⟩:=zpj X.X.W X.X.S d3
 have t3:=Tab.mdl X.t d3
 refine ⟨W3,t3,d3,fun H4 W4 k4=>?_⟩
 have d4:zgx T1 H3 H4 (Own td sd z.toNat hs T) (Own td sd z.toNat hs' T):=zgx.dicts W3 k4 ⟨_,W4.tb⟩ ⟨_,W4.si⟩ hm
 obtain ⟨B4,m4,S4⟩:=zme B3 a1 S3 d4
 exact ⟨⟨⟨W4,X.X.A.sub hm,B4,m4,X.X.O.sub hm,X.X.p,fun x hx=>X.X.q x (hm x hx),S4⟩,Tab.dicts W3 t3 k4,sm,sn,Nat.le_trans hl X.n12⟩,(zff.mdl d3).trans (zff.deed d4),d4⟩
end
def zj_ (T3:Addr) (H H':Hp):Prop:=∀ (Ti:Addr) (po:Pos) (qu:Str),Ti≠T3→Tab H Ti po qu→Tab H' Ti po qu
theorem zj_.trans {T3:Addr} {H H1 H2:Hp} (a:zj_ T3 H H1) (b:zj_ T3 H1 H2):zj_ T3 H H2:=fun Ti po qu hn t=>b Ti po qu hn (a Ti po qu hn t)
theorem zj_.same {T3:Addr} {H H':Hp} (s:zbf H H'):zj_ T3 H H':=fun Ti po qu _ t=>(s.but Ti).2 _ _ t
theorem zj_.mdl {T3 md:Addr} {H H':Hp} {F F':Addr→Prop} (d:zec md H H' F F'):zj_ T3 H H':=fun Ti po qu _ t=>Tab.mdl t d
theorem za9.kind {CB CT CW w td sd:Addr} {H:Hp} {z r:Int} {hs sil:List Int} {T:Int→zdz} (W:za9 CB CT CW H w td sd z r hs sil T) {q:Addr} {x:Obj} {k:HO} (e:H q=some (.frz x k)):¬ Own td sd z.toNat hs T q:=fun y=>by
 rcases y with rfl | rfl | ⟨g,hg,rfl | ⟨j,hj,rfl | rfl⟩⟩
 ·rw [W.tb] at e
  cases e
 ·rw [W.si] at e
  cases e
 ·rw [(W.ta g hg).li] at e
  cases e
 ·obtain ⟨⟨d,e1⟩,_⟩:=(W.ta g hg).bk j hj
  rw [e1] at e
  cases e
 ·rw [((W.ta g hg).bk j hj).li] at e
  cases e
theorem zj_.deed {CB CT CW w td sd T3:Addr} {H H':Hp} {z r:Int} {hs sil:List Int} {T:Int→zdz} {O':Addr→Prop} (W:za9 CB CT CW H w td sd z r hs sil T) (d:zgx T3 H H' (Own td sd z.toNat hs T) O'):zj_ T3 H H':=fun Ti po qu hn t=>Tab.hold t fun q o ho e=>by
 rcases ho with ⟨x,k,rfl⟩ | rfl
 ·exact d.k q _ (fun _ z=>nomatch z) e (W.kind e)
 ·obtain ⟨ps,hP,_⟩:=t
  rw [hP] at e
  cases e
  exact d.t _ _ hP hn
structure zfb (H:Hp) (md mt mq:Addr) (hs:List Int) (M:Int→ze1) (O:Addr→Prop) (z:Nat) (gn:Addr) (gone:List Int):Prop where
 d:∃ kv,H md=some (.dK kv)∧zg9 kv (Sum.inr ("gone" : Str))=some (V.ref gn)
 l:H gn=some (.lst (gone.map V.int))
 o:¬ O gn
 f:¬ zc6 md mt mq hs M gn
 v:∀ x∈gone,0≤x∧x<2 ^ z
section
variable {H H':Hp} {md mt mq gn:Addr} {hs hs' gone:List Int} {M M':Int→ze1} {O O':Addr→Prop} {z:Nat}
theorem zfb.g (G:zfb H md mt mq hs M O z gn gone):zew H md (V.str "gone") (some (V.ref gn)):=by
 obtain ⟨kv,e,a⟩:=G.d
 exact .inl ⟨kv,Sum.inr "gone",.inl e,rfl,a.symm⟩
theorem zfb.same (G:zfb H md mt mq hs M O z gn gone) (s:zbf H H'):zfb H' md mt mq hs M O z gn gone:=by
 obtain ⟨kv,e,a⟩:=G.d
 exact ⟨⟨kv,s _ _ e,a⟩,s _ _ G.l,G.o,G.f,G.v⟩
theorem zfb.deed {T3:Addr} (G:zfb H md mt mq hs M O z gn gone) (hm:¬ O md) (d:zgx T3 H H' O O'):zfb H' md mt mq hs M O' z gn gone:=by
 obtain ⟨kv,e,a⟩:=G.d
 refine ⟨⟨kv,d.k _ _ (fun _ z=>nomatch z) e hm,a⟩,d.k _ _ (fun _ z=>nomatch z) G.l G.o,fun y=>?_,G.f,G.v⟩
 rcases d.o gn y with y | y
 ·exact G.o y
 ·rw [G.l] at y
  cases y
theorem zfb.mdl (G:zfb H md mt mq hs M O z gn gone) (d:zec md H H' (zc6 md mt mq hs M) (zc6 md mt mq hs' M')):zfb H' md mt mq hs' M' O z gn gone:=by
 obtain ⟨kv,e,a⟩:=G.d
 refine ⟨⟨kv,d.c _ e,a⟩,d.k _ _ G.l (fun _ z=>nomatch z),G.o,fun y=>?_,G.v⟩
 rcases d.o gn y with y | y
 ·exact G.f y
 ·rw [G.l] at y
  cases y
theorem zfb.more (G:zfb H md mt mq hs M O z gn gone) {h:Int} (hv:0≤h∧h<2 ^ z):zfb (upd H gn (.lst (gone.map V.int++[V.int h]))) md mt mq hs M O z gn (gone++[h]):=by
 obtain ⟨kv,e,a⟩:=G.d
 refine ⟨⟨kv,by rw [zal (zd_ e G.l (by intro z; cases z))]; exact e,a⟩,by rw [zam,List.map_append]; rfl,G.o,G.f,fun x hx=>?_⟩
 rcases List.mem_append.mp hx with y | y
 ·exact G.v x y
 ·rw [List.mem_singleton.mp y]
  exact hv
end
def zqo (gn:Addr) (H H':Hp) (O O':Addr→Prop):Prop:=∀ q xs,q≠gn→H q=some (.lst xs)→¬ O q→H' q=some (.lst xs)∧¬ O' q
theorem zqo.of {gn:Addr} {H H':Hp} {O O':Addr→Prop} (a:zff H H' O O'):zqo gn H H' O O':=fun q xs _ e hn=>a q xs e hn
theorem zqo.trans {gn:Addr} {H H1 H2:Hp} {O O1 O2:Addr→Prop} (a:zqo gn H H1 O O1) (b:zqo gn H1 H2 O1 O2):zqo gn H H2 O O2:=fun q xs hq e hn=>by
 obtain ⟨e1,n1⟩:=a q xs hq e hn
 exact b q xs hq e1 n1
theorem Tab.lay {H:Hp} {l Ti:Addr} {xs ys:List V} {po:Pos} {qu:Str} (hl:H l=some (.lst xs)) (t:Tab H Ti po qu):Tab (upd H l (.lst ys)) Ti po qu:=Tab.hold t fun q o ho e=>by
 rw [zal (fun y=>?_)]
 ·exact e
 ·rw [y,hl] at e
  cases e
  rcases ho with ⟨x,kk,e2⟩ | e2
  ·cases e2
  ·obtain ⟨ps,hP,_⟩:=t
   rw [← e2,y,hl] at hP
   cases hP
theorem zd1 {X:Cx} {st:List Stmt}:PSs X st (fun _ _ _=>False):=fun _ _ _ _ _ _ h=>h.elim
def zek (z:Int) (v:V):Bool:=match v with | .int i=>zdj z i | _=>false
def zci (z:Int) (hs:List Int) (v:V):Bool:=match v with | .int i=>zdj z i && decide (i∈hs) | _=>false
def znw (sil:List Int) (v:V):Bool:=match v with | .int i=>decide (i∈sil) | _=>false
def zw3 (z:Int) (hs sil:List Int) (v:V):Bool:=zci z hs v && !znw sil v
theorem zhk {z:Int} {v:V} (h:∀ i,v≠ .int i):zek z v=false:=by cases v <;> first | rfl | exact absurd rfl (h _)
theorem zgm {z:Int} {hs:List Int} {v:V} (h:∀ i,v≠ .int i):zci z hs v=false:=by cases v <;> first | rfl | exact absurd rfl (h _)
theorem zsh {z:Int} {hs sil:List Int} {v:V} (h:∀ i,v≠ .int i):zw3 z hs sil v=false:=by
 unfold zw3
 rw [zgm h]
 rfl
theorem zq_ {K:PySem.W.Frag} {H H':Hp} {v:V} {t:Value} (h:zj3 K H v t) (s:zbf H H'):zj3 K H' v t:=by
 cases h with
 | non=>exact .non
 | bl x=>exact .bl x
 | int i=>exact .int i
 | str x=>exact .str x
 | flt x=>exact .flt x
 | lst e=>exact .lst (s _ _ e)
 | frz e=>exact .frz (s _ _ e)
 | tup e=>exact .tup (s _ _ e)
 | dK e=>exact .dK (s _ _ e)
 | dT e=>exact .dT (s _ _ e)
 | ins e cl ha hn htk hm=>exact .ins (s _ _ e) cl ha hn htk hm
theorem zd5.same {K:PySem.W.Frag} {H H':Hp} {v:V} (h:zd5 K H v) (s:zbf H H'):zd5 K H' v:=by
 rcases h with h | ⟨h,n⟩
 ·exact .inl h
 ·refine .inr ⟨?_,n⟩
  rcases h with h | ⟨t,ht,hk⟩
  ·exact .inl h
  ·exact .inr ⟨t,zq_ ht s,hk⟩
def ofH (z:Int) (hs sil:List Int) (v:V) (aw:Bool):Int:=if zci z hs v=true then (if (aw && znw sil v)=true then 4 else -1) else 2
def zdt (z:Int) (hs sil:List Int) (kind:Int) (v1 v2:V):Int :=
 if kind=0 then (if zek z v1=true then (if zci z hs v1=true then 3 else ofH z hs sil v2 true) else 1)
 else if kind=3 then (if zci z hs v1=true then (if znw sil v1=true then ofH z hs sil v2 true else 3) else 2)
 else if ofH z hs sil v1 (decide (4≤kind) && decide (kind≤6)) = -1∧5≤kind∧kind≤6∧zek z v2=false then 1 else ofH z hs sil v1 (decide (4≤kind) && decide (kind≤6))
def zpe (a b c d:Addr) (n:Int):Addr:=if n=1 then a else if n=2 then b else if n=3 then c else d
theorem znf {z:Int} {hs sil:List Int} {v:V} {aw:Bool} (h:0≤ofH z hs sil v aw):(zci z hs v=false∧ofH z hs sil v aw=2)∨(zci z hs v=true∧aw=true∧znw sil v=true∧ofH z hs sil v aw=4):=by
  unfold ofH at h ⊢
  cases e:zci z hs v with
  | false=>exact .inl ⟨rfl,rfl⟩
  | true =>
    rw [e,if_pos rfl] at h
    rw [if_pos rfl]
    cases e1:aw with
    | false =>
      rw [e1,Bool.false_and,if_neg (by decide)] at h
      exact absurd h (by decide)
    | true =>
      cases e2:znw sil v with
      | false =>
        rw [e1,e2] at h
        exact absurd h (by decide)
      | true=>exact .inr ⟨rfl,rfl,rfl,rfl⟩
theorem zf_ {z:Int} {hs sil:List Int} {kind:Int} {v1 v2:V} (hk:kind=1∨kind=2∨kind=7∨kind=8) (h:0≤zdt z hs sil kind v1 v2):zci z hs v1=false∧zdt z hs sil kind v1 v2=2:=by
 have e:zdt z hs sil kind v1 v2=ofH z hs sil v1 false:=by
  unfold zdt
  rw [if_neg (by omega),if_neg (by omega),if_neg (by omega)]
  have:(decide (4≤kind) && decide (kind≤6))=false:=by
   rcases hk with rfl | rfl | rfl | rfl <;> rfl
  rw [this]
 rw [e] at h ⊢
 rcases znf h with ⟨a,b⟩ | ⟨_,b,_⟩
 ·exact ⟨a,b⟩
 ·cases b
theorem zlt {z:Int} {hs sil:List Int} {kind:Int} {v1 v2:V} (hk:kind=4∨kind=5∨kind=6) (h:0≤zdt z hs sil kind v1 v2):(zci z hs v1=false∧zdt z hs sil kind v1 v2=2)∨(zci z hs v1=true∧znw sil v1=true∧zdt z hs sil kind v1 v2=4)∨(kind≠4∧zci z hs v1=true∧znw sil v1=false∧zek z v2=false∧zdt z hs sil kind v1 v2=1):=by
  have e0:(decide (4≤kind) && decide (kind≤6))=true:=by
    rcases hk with rfl | rfl | rfl <;> rfl
  unfold zdt at h ⊢
  rw [if_neg (by omega),if_neg (by omega),e0] at h ⊢
  by_cases c:ofH z hs sil v1 true = -1∧5≤kind∧kind≤6∧zek z v2=false
  · rw [if_pos c]
    obtain ⟨c1,c2,c3,c4⟩:=c
    refine .inr (.inr ⟨by omega,?_,?_,c4,rfl⟩)
    · cases e:zci z hs v1 with
      | true=>rfl
      | false =>
        unfold ofH at c1
        rw [e,if_neg (by decide)] at c1
        exact absurd c1 (by decide)
    · cases e:znw sil v1 with
      | false=>rfl
      | true =>
        unfold ofH at c1
        rw [e] at c1
        exfalso
        revert c1
        cases zci z hs v1 <;> decide
  · rw [if_neg c] at h ⊢
    rcases znf h with ⟨a,b⟩ | ⟨a,_,c,b⟩
    · exact .inl ⟨a,b⟩
    · exact .inr (.inl ⟨a,c,b⟩)
theorem ztc {z:Int} {hs sil:List Int} {v1 v2:V} (h:0≤zdt z hs sil 0 v1 v2) (hg:v2≠ .non∨zdt z hs sil 0 v1 v2<2∨zdt z hs sil 0 v1 v2=3):(zek z v1=false∧zdt z hs sil 0 v1 v2=1)∨(zek z v1=true∧zci z hs v1=true∧zdt z hs sil 0 v1 v2=3)∨(zek z v1=true∧zci z hs v1=false∧v2≠ .non∧(zci z hs v2=false∧zdt z hs sil 0 v1 v2=2∨zci z hs v2=true∧znw sil v2=true∧zdt z hs sil 0 v1 v2=4)):=by
  unfold zdt at h hg ⊢
  rw [if_pos rfl] at h hg ⊢
  cases e1:zek z v1 with
  | false=>exact .inl ⟨rfl,rfl⟩
  | true =>
    rw [e1,if_pos rfl] at h hg
    rw [if_pos rfl]
    cases e2:zci z hs v1 with
    | true=>exact .inr (.inl ⟨rfl,rfl,rfl⟩)
    | false =>
      rw [e2,if_neg (by decide)] at h hg
      rw [if_neg (by decide)]
      have o:=znf h
      refine .inr (.inr ⟨rfl,rfl,?_,?_⟩)
      · rcases hg with y | y | y
        · exact y
        · rcases o with ⟨_,b⟩ | ⟨_,_,_,b⟩ <;> omega
        · rcases o with ⟨_,b⟩ | ⟨_,_,_,b⟩ <;> omega
      · rcases o with ⟨a,b⟩ | ⟨a,_,c,b⟩
        · exact .inl ⟨a,b⟩
        · exact .inr ⟨a,c,b⟩
theorem zph {z:Int} {hs sil:List Int} {v1 v2:V} (h:0≤zdt z hs sil 3 v1 v2):(zci z hs v1=false∧zdt z hs sil 3 v1 v2=2)∨(zci z hs v1=true∧znw sil v1=false∧zdt z hs sil 3 v1 v2=3)∨(zci z hs v1=true∧znw sil v1=true∧(zci z hs v2=false∧zdt z hs sil 3 v1 v2=2∨zci z hs v2=true∧znw sil v2=true∧zdt z hs sil 3 v1 v2=4)):=by
  unfold zdt at h ⊢
  rw [if_neg (by decide),if_pos rfl] at h ⊢
  cases e1:zci z hs v1 with
  | false=>exact .inl ⟨rfl,rfl⟩
  | true =>
    rw [e1,if_pos rfl] at h
    rw [if_pos rfl]
    cases e2:znw sil v1 with
    | false=>exact .inr (.inl ⟨rfl,rfl,rfl⟩)
    | true =>
      rw [e2,if_pos rfl] at h
      rw [if_pos rfl]
      rcases znf h with ⟨a,b⟩ | ⟨a,_,c,b⟩
      · exact .inr (.inr ⟨rfl,rfl,.inl ⟨a,b⟩⟩)
      · exact .inr (.inr ⟨rfl,rfl,.inr ⟨a,c,b⟩⟩)
theorem zfl {z:Int} {hs sil:List Int} {v:V} {a b:Bool} (h1:zci z hs v=a) (h2:znw sil v=b):zw3 z hs sil v=(a && !b):=by
 unfold zw3
 rw [h1,h2]
def zqb (K:PySem.W.Frag) (CB CT CW CN:Addr):Sp:=fun vs H Q E=>∃ (w td sd:Addr) (z r:Int) (hs sil:List Int) (T:Int→zdz) (v:V),vs=[.ref w,v]∧za9 CB CT CW H w td sd z r hs sil T∧zd5 K H v∧if zek z v=true then Q .non H else E (.ref CN) none H
def zn_ (K:PySem.W.Frag) (CB CT CW CN:Addr):Sp:=fun vs H Q E=>∃ (w td sd:Addr) (z r:Int) (hs sil:List Int) (T:Int→zdz) (v:V),vs=[.ref w,v]∧za9 CB CT CW H w td sd z r hs sil T∧zd5 K H v∧if zci z hs v=true then Q .non H else E (.ref CN) none H
def zq9 (K:PySem.W.Frag) (CB CT CW CN CS:Addr):Sp:=fun vs H Q E=>∃ (w td sd:Addr) (z r:Int) (hs sil:List Int) (T:Int→zdz) (v:V),vs=[.ref w,v]∧za9 CB CT CW H w td sd z r hs sil T∧zd5 K H v∧if zci z hs v=true then (if zw3 z hs sil v=true then Q .non H else E (.ref CS) none H) else E (.ref CN) none H
def z0f (kind:Int) (w:Addr) (v1 v2:V):List V:=if kind=7 then [.ref w,v1,.int 0] else if kind=1∨kind=2∨kind=4∨kind=8 then [.ref w,v1] else [.ref w,v1,v2]
def zk1 (K:PySem.W.Frag) (CB CT CW:Addr) (cl:Int→Addr) (kind:Int):Sp:=fun vs H _ E=>∃ (w td sd:Addr) (z r:Int) (hs sil:List Int) (T:Int→zdz) (v1 v2:V),vs=z0f kind w v1 v2∧za9 CB CT CW H w td sd z r hs sil T∧zd5 K H v1∧zd5 K H v2∧0≤zdt z hs sil kind v1 v2∧(0<kind∨v2≠ .non∨zdt z hs sil kind v1 v2<2∨zdt z hs sil kind v1 v2=3)∧E (.ref (cl (zdt z hs sil kind v1 v2))) none H
section
variable {P:Program} {w:World} {K:PySem.W.Frag} {mg:Str→Option Value} {base:Heap}
open PySem.Spec PyProof.Rows in
theorem z0g {C:Addr} {x qual:Str} {st:Stmt} {N ps:List Str} {ds:List Value} {k:Nat} {sp:Sp} (D:ztg K C x qual st ps ds) (S:za3 N ps (zai st)) (len:∀ vs H Q E,sp vs H Q E→vs.length=ps.length)
  (hbody:∀ (cdv:Value) (A:Around) (outer:List Env) (s:Shared) (H:Hp) (vs:List V) (Q:VK) (E:XK),zfy k (A.deeper (envOfC qual (zai st) s.heap.objs.size D.f cdv))→sp vs H Q E →
   ∃ t,PSs (zkz (CXR P w) P w K mg base N qual (zai st) D.f cdv A outer s H E) (za0 st) t∧t { nx:=fun _ H'=>Q .non H',rt:=Q } (start N vs) H):zbe P w K mg base (CXR P w) (k+1) D.f D.fd ps sp:=by
 obtain ⟨f,fd,⟨oc,od,dV,kV,doc,pm,an,cdv,ct,osl,rfl,lk,hcd⟩,me,b,bd⟩:=D
 exact zs4 lk hcd S len fun A outer s H vs Q E hr hsp=>hbody cdv A outer s H vs Q E hr hsp
theorem zgg (T:Txt mg) {CB CT:Addr} (za5:DfE K mg "NoName") (zah:Df K mg "is_whole" (top 11) ["thing"]) (zan:Df K mg "is_name" (top 12) ["thing","wide"]) (zab:DfC K mg "Town" ["wide","room","tables","silent"]) (zau:DfM K zab.C "check_name" "Town.check_name" (zaa (top 31) 15) ["self","thing"]):zbe P w K mg base (CXR P w) 3 zau.f zau.fd ["self","thing"] (zqb K CB CT zab.C za5.C):=by
  have hcl:=zab.cl
  obtain ⟨na1,na2,na3,na4,-⟩:=zab.na
  have zga:zbe P w K mg base CX0 2 _ _ _ _:=zh6 T zah zan
  refine zau.fn.okX zfd (fun vs H Q E h=>?_) (fun cdv A outer s H vs Q E hr h=>?_)
  · obtain ⟨w,td,sd,z,r,hs,sil,TT,v,rfl,_⟩:=h
    rfl
  · obtain ⟨w,td,sd,z,r,hs,sil,TT,v,rfl,hW,hk,k⟩:=h
    obtain ⟨⟨dx,hob⟩,htb,hsi,-⟩:=id hW
    refine ⟨_,(zas (zcq (zf0 (zdv (zbn zga (hr.mono (by decide)) rfl zan.hm zan.fn.kp zan.b .nil zbm (zad (pv 1) (zad (zc0 (pv 0) rfl) zar)))))
       (zas (zed (W:=fun H=>E (.ref za5.C) none H) za5 rfl rfl (zad zb6 zar) (fun _ _ _ _ _ _ _ I hm hw=>zes I hm hw)))
       zbo)),?_⟩
    walk_at "w"
    cases hn:zek z v with
    | true =>
      rw [hn,if_pos rfl] at k
      rcases id hk with ⟨i,rfl⟩ | ⟨hw,hni⟩
      · refine .inl ⟨i,rfl,?_⟩
        have hn':(decide (0≤i) && decide (((Builtin.Int.intBits i:Nat):Int)≤z))=true:=hn
        rw [hn']
        walk_at "w"
      · exact absurd ((zhk hni).symm.trans (hn)) (by decide)
    | false =>
      rw [hn,if_neg (by decide)] at k
      rcases id hk with ⟨i,rfl⟩ | ⟨hw,hni⟩
      · refine .inl ⟨i,rfl,?_⟩
        have hn':(decide (0≤i) && decide (((Builtin.Int.intBits i:Nat):Int)≤z))=false:=hn
        rw [hn']
        walk_at "w"
      · refine .inr ⟨hw,?_⟩
        walk_at "w"
theorem zds (T:Txt mg) {CB CT:Addr} (zao:DfE K mg "NoHouse") (zah:Df K mg "is_whole" (top 11) ["thing"]) (zan:Df K mg "is_name" (top 12) ["thing","wide"]) (zab:DfC K mg "Town" ["wide","room","tables","silent"]) (zae:DfM K zab.C "is_house" "Town.is_house" (zaa (top 31) 4) ["self","thing"]) (zac:DfM K zab.C "check_house" "Town.check_house" (zaa (top 31) 16) ["self","thing"]):zbe P w K mg base (CXR P w) 4 zac.f zac.fd ["self","thing"] (zn_ K CB CT zab.C zao.C):=by
  have hcl:=zab.cl
  have zch:zbe P w K mg base CX0 3 _ _ _ _:=zde (CB:=CB) (CT:=CT) T zah zan zab zae
  refine zac.fn.okX ze6 (fun vs H Q E h=>?_) (fun cdv A outer s H vs Q E hr h=>?_)
  · obtain ⟨w,td,sd,z,r,hs,sil,TT,v,rfl,_⟩:=h
    rfl
  · obtain ⟨w,td,sd,z,r,hs,sil,TT,v,rfl,hW,hk,k⟩:=h
    obtain ⟨⟨dx,hob⟩,htb,hsi,-⟩:=id hW
    refine ⟨_,(zas (zcq (zf0 (zdv (zb7 (pv 0) zab.cl zae.me zch (hr.mono (by decide)) zae.b .nil zbm (zad (pv 1) zar))))
       (zas (zed (W:=fun H=>E (.ref zao.C) none H) zao rfl rfl (zad zb6 zar) (fun _ _ _ _ _ _ _ I hm hw=>zes I hm hw)))
       zbo)),?_⟩
    walk_at "w"
    cases hn:zci z hs v with
    | true =>
      rw [hn,if_pos rfl] at k
      rcases id hk with ⟨i,rfl⟩ | ⟨hw,hni⟩
      · refine .inl ⟨i,rfl,?_⟩
        have hn':(zdj z i && decide (i∈hs))=true:=hn
        rw [hn']
        walk_at "w"
      · exact absurd ((zgm hni).symm.trans (hn)) (by decide)
    | false =>
      rw [hn,if_neg (by decide)] at k
      rcases id hk with ⟨i,rfl⟩ | ⟨hw,hni⟩
      · refine .inl ⟨i,rfl,?_⟩
        have hn':(zdj z i && decide (i∈hs))=false:=hn
        rw [hn']
        walk_at "w"
      · refine .inr ⟨hw,?_⟩
        walk_at "w"
theorem ze7 (T:Txt mg) {CB CT:Addr} (zao:DfE K mg "NoHouse") (zaz:DfE K mg "Silent") (zah:Df K mg "is_whole" (top 11) ["thing"]) (zan:Df K mg "is_name" (top 12) ["thing","wide"]) (zab:DfC K mg "Town" ["wide","room","tables","silent"]) (zae:DfM K zab.C "is_house" "Town.is_house" (zaa (top 31) 4) ["self","thing"]) (zag:DfM K zab.C "answers" "Town.answers" (zaa (top 31) 3) ["self","name"]) (zac:DfM K zab.C "check_house" "Town.check_house" (zaa (top 31) 16) ["self","thing"]) (zaf:DfM K zab.C "check_answering" "Town.check_answering" (zaa (top 31) 17) ["self","thing"]):zbe P w K mg base (CXR P w) 5 zaf.f zaf.fd ["self","thing"] (zq9 K CB CT zab.C zao.C zaz.C):=by
  have hcl:=zab.cl
  have zbi:zbe P w K mg base (CXR P w) 4 _ _ _ _:=zds (CB:=CB) (CT:=CT) T zao zah zan zab zae zac
  have zb2:zbe P w K mg base CX0 4 _ _ _ _:=zcy (CB:=CB) (CT:=CT) T zah zan zab zae zag
  refine zaf.fn.okX zd9 (fun vs H Q E h=>?_) (fun cdv A outer s H vs Q E hr h=>?_)
  · obtain ⟨w,td,sd,z,r,hs,sil,TT,v,rfl,_⟩:=h
    rfl
  · obtain ⟨w,td,sd,z,r,hs,sil,TT,v,rfl,hW,hk,k⟩:=h
    obtain ⟨⟨dx,hob⟩,htb,hsi,-⟩:=id hW
    refine ⟨_,(zaq (zbj (zce (Th:=fun _=>E) (pv 0) zab.cl zac.me zbi (hr.mono (by decide)) zac.b .nil (fun _ _ _ _ _ _ I R=>zcx I R) (zad (pv 1) zar)))
      (zas (zcq (zf0 (zdv (zb7 (pv 0) zab.cl zag.me zb2 (hr.mono (by decide)) zag.b .nil zbm (zad (pv 1) zar))))
       (zas (zed (W:=fun H=>E (.ref zaz.C) none H) zaz rfl rfl (zad zb6 zar) (fun _ _ _ _ _ _ _ I hm hw=>zes I hm hw)))
       zbo))),?_⟩
    walk_at "w"
    cases hn:zci z hs v with
    | false =>
      rw [hn,if_neg (by decide)] at k
      walk_at "w"
    | true =>
      rw [hn,if_pos rfl] at k
      walk_at "w"
      cases ha:zw3 z hs sil v with
      | true =>
        rw [ha,if_pos rfl] at k
        rcases id hk with ⟨i,rfl⟩ | ⟨hw,hni⟩
        · refine .inl ⟨i,rfl,?_⟩
          have hn':(zdj z i && decide (i∈hs) && !decide (i∈sil))=true:=ha
          rw [hn']
          walk_at "w"
        · exact absurd ((zsh hni).symm.trans (ha)) (by decide)
      | false =>
        rw [ha,if_neg (by decide)] at k
        rcases id hk with ⟨i,rfl⟩ | ⟨hw,hni⟩
        · refine .inl ⟨i,rfl,?_⟩
          have hn':(zdj z i && decide (i∈hs) && !decide (i∈sil))=false:=ha
          rw [hn']
          walk_at "w"
        · refine .inr ⟨hw,?_⟩
          walk_at "w"
theorem zyr (T:Txt mg) {CB CT a c d:Addr} (zao:DfE K mg "NoHouse") (zah:Df K mg "is_whole" (top 11) ["thing"]) (zan:Df K mg "is_name" (top 12) ["thing","wide"]) (zab:DfC K mg "Town" ["wide","room","tables","silent"]) (zae:DfM K zab.C "is_house" "Town.is_house" (zaa (top 31) 4) ["self","thing"]) (zac:DfM K zab.C "check_house" "Town.check_house" (zaa (top 31) 16) ["self","thing"]) (zc8:DfM K zab.C "go" "Town.go" (zaa (top 31) 12) ["self","house"]):zbe P w K mg base (CXR P w) 5 zc8.f zc8.fd ["self","house"] (zk1 K CB CT zab.C (zpe a zao.C c d) 1):=by
 have hcl:=zab.cl
 have zbi:zbe P w K mg base (CXR P w) 4 _ _ _ _:=zds (CB:=CB) (CT:=CT) T zao zah zan zab zae zac
 refine zc8.fn.okX zpy (fun vs H Q E h=>?_) (fun cdv A outer s H vs Q E hr h=>?_)
 ·obtain ⟨w,td,sd,z,r,hs,sil,TT,v1,v2,rfl,_⟩:=h
  rfl
 ·obtain ⟨w,td,sd,z,r,hs,sil,TT,v1,v2,rfl,hW,hk1,hk2,hd,hg,k⟩:=h
  obtain ⟨⟨dx,hob⟩,htb,hsi,-⟩:=id hW
  obtain ⟨hn,e⟩:=zf_ (by decide) hd
  rw [e] at k
  have k:E (.ref zao.C) none H:=k
  refine ⟨_,(zaq (zbj (zce (Th:=fun _=>E) (pv 0) zab.cl zac.me zbi (hr.mono (by decide)) zac.b .nil (fun _ _ _ _ _ _ I R=>zcx I R) (zad (pv 1) zar)))
   zd1),?_⟩
  walk_at "w"
  rw [hn]
  walk_at "w"
theorem ztj (T:Txt mg) {CB CT a c d:Addr} (zao:DfE K mg "NoHouse") (zah:Df K mg "is_whole" (top 11) ["thing"]) (zan:Df K mg "is_name" (top 12) ["thing","wide"]) (zab:DfC K mg "Town" ["wide","room","tables","silent"]) (zae:DfM K zab.C "is_house" "Town.is_house" (zaa (top 31) 4) ["self","thing"]) (zac:DfM K zab.C "check_house" "Town.check_house" (zaa (top 31) 16) ["self","thing"]) (zbv:DfM K zab.C "hush" "Town.hush" (zaa (top 31) 13) ["self","house"]):zbe P w K mg base (CXR P w) 5 zbv.f zbv.fd ["self","house"] (zk1 K CB CT zab.C (zpe a zao.C c d) 2):=by
 have hcl:=zab.cl
 have zbi:zbe P w K mg base (CXR P w) 4 _ _ _ _:=zds (CB:=CB) (CT:=CT) T zao zah zan zab zae zac
 refine zbv.fn.okX zio (fun vs H Q E h=>?_) (fun cdv A outer s H vs Q E hr h=>?_)
 ·obtain ⟨w,td,sd,z,r,hs,sil,TT,v1,v2,rfl,_⟩:=h
  rfl
 ·obtain ⟨w,td,sd,z,r,hs,sil,TT,v1,v2,rfl,hW,hk1,hk2,hd,hg,k⟩:=h
  obtain ⟨⟨dx,hob⟩,htb,hsi,-⟩:=id hW
  obtain ⟨hn,e⟩:=zf_ (by decide) hd
  rw [e] at k
  have k:E (.ref zao.C) none H:=k
  refine ⟨_,(zaq (zbj (zce (Th:=fun _=>E) (pv 0) zab.cl zac.me zbi (hr.mono (by decide)) zac.b .nil (fun _ _ _ _ _ _ I R=>zcx I R) (zad (pv 1) zar)))
   zd1),?_⟩
  walk_at "w"
  rw [hn]
  walk_at "w"
theorem zp1 (T:Txt mg) {CB CT a c d:Addr} (zao:DfE K mg "NoHouse") (zah:Df K mg "is_whole" (top 11) ["thing"]) (zan:Df K mg "is_name" (top 12) ["thing","wide"]) (zab:DfC K mg "Town" ["wide","room","tables","silent"]) (zae:DfM K zab.C "is_house" "Town.is_house" (zaa (top 31) 4) ["self","thing"]) (zac:DfM K zab.C "check_house" "Town.check_house" (zaa (top 31) 16) ["self","thing"]) (za8:DfM K zab.C "bucket" "Town.bucket" (zaa (top 31) 5) ["self","house","k"]):zbe P w K mg base (CXR P w) 5 za8.f za8.fd ["self","house","k"] (zk1 K CB CT zab.C (zpe a zao.C c d) 7):=by
 have hcl:=zab.cl
 have zbi:zbe P w K mg base (CXR P w) 4 _ _ _ _:=zds (CB:=CB) (CT:=CT) T zao zah zan zab zae zac
 refine za8.fn.okX zgw (fun vs H Q E h=>?_) (fun cdv A outer s H vs Q E hr h=>?_)
 ·obtain ⟨w,td,sd,z,r,hs,sil,TT,v1,v2,rfl,_⟩:=h
  rfl
 ·obtain ⟨w,td,sd,z,r,hs,sil,TT,v1,v2,rfl,hW,hk1,hk2,hd,hg,k⟩:=h
  obtain ⟨⟨dx,hob⟩,htb,hsi,-⟩:=id hW
  obtain ⟨hn,e⟩:=zf_ (by decide) hd
  rw [e] at k
  have k:E (.ref zao.C) none H:=k
  refine ⟨_,(zaq (zbj (zce (Th:=fun _=>E) (pv 0) zab.cl zac.me zbi (hr.mono (by decide)) zac.b .nil (fun _ _ _ _ _ _ I R=>zcx I R) (zad (pv 1) zar)))
   zd1),?_⟩
  walk_at "w"
  rw [hn]
  walk_at "w"
theorem zr5 (T:Txt mg) {CB CT a c d:Addr} (zao:DfE K mg "NoHouse") (zah:Df K mg "is_whole" (top 11) ["thing"]) (zan:Df K mg "is_name" (top 12) ["thing","wide"]) (zab:DfC K mg "Town" ["wide","room","tables","silent"]) (zae:DfM K zab.C "is_house" "Town.is_house" (zaa (top 31) 4) ["self","thing"]) (zac:DfM K zab.C "check_house" "Town.check_house" (zaa (top 31) 16) ["self","thing"]) (zbc:DfM K zab.C "keeps" "Town.keeps" (zaa (top 31) 6) ["self","house"]):zbe P w K mg base (CXR P w) 5 zbc.f zbc.fd ["self","house"] (zk1 K CB CT zab.C (zpe a zao.C c d) 8):=by
 have hcl:=zab.cl
 have zbi:zbe P w K mg base (CXR P w) 4 _ _ _ _:=zds (CB:=CB) (CT:=CT) T zao zah zan zab zae zac
 refine zbc.fn.okX zhc (fun vs H Q E h=>?_) (fun cdv A outer s H vs Q E hr h=>?_)
 ·obtain ⟨w,td,sd,z,r,hs,sil,TT,v1,v2,rfl,_⟩:=h
  rfl
 ·obtain ⟨w,td,sd,z,r,hs,sil,TT,v1,v2,rfl,hW,hk1,hk2,hd,hg,k⟩:=h
  obtain ⟨⟨dx,hob⟩,htb,hsi,-⟩:=id hW
  obtain ⟨hn,e⟩:=zf_ (by decide) hd
  rw [e] at k
  have k:E (.ref zao.C) none H:=k
  refine ⟨_,(zaq (zbj (zce (Th:=fun _=>E) (pv 0) zab.cl zac.me zbi (hr.mono (by decide)) zac.b .nil (fun _ _ _ _ _ _ I R=>zcx I R) (zad (pv 1) zar)))
   zd1),?_⟩
  walk_at "w"
  rw [hn]
  walk_at "w"
theorem zoj (T:Txt mg) {CB CT a c:Addr} (zao:DfE K mg "NoHouse") (zaz:DfE K mg "Silent") (zah:Df K mg "is_whole" (top 11) ["thing"]) (zan:Df K mg "is_name" (top 12) ["thing","wide"]) (zab:DfC K mg "Town" ["wide","room","tables","silent"]) (zae:DfM K zab.C "is_house" "Town.is_house" (zaa (top 31) 4) ["self","thing"]) (zag:DfM K zab.C "answers" "Town.answers" (zaa (top 31) 3) ["self","name"]) (zac:DfM K zab.C "check_house" "Town.check_house" (zaa (top 31) 16) ["self","thing"]) (zaf:DfM K zab.C "check_answering" "Town.check_answering" (zaa (top 31) 17) ["self","thing"]) (za2:DfM K zab.C "come_to" "Town.come_to" (zaa (top 31) 8) ["self","house"]):zbe P w K mg base (CXR P w) 6 za2.f za2.fd ["self","house"] (zk1 K CB CT zab.C (zpe a zao.C c zaz.C) 4):=by
 have hcl:=zab.cl
 have zbd:zbe P w K mg base (CXR P w) 5 _ _ _ _:=ze7 (CB:=CB) (CT:=CT) T zao zaz zah zan zab zae zag zac zaf
 refine za2.fn.okX zc7 (fun vs H Q E h=>?_) (fun cdv A outer s H vs Q E hr h=>?_)
 ·obtain ⟨w,td,sd,z,r,hs,sil,TT,v1,v2,rfl,_⟩:=h
  rfl
 ·obtain ⟨w,td,sd,z,r,hs,sil,TT,v1,v2,rfl,hW,hk1,hk2,hd,hg,k⟩:=h
  obtain ⟨⟨dx,hob⟩,htb,hsi,-⟩:=id hW
  refine ⟨_,(zaq (zbj (zce (Th:=fun _=>E) (pv 0) zab.cl zaf.me zbd (hr.mono (by decide)) zaf.b .nil (fun _ _ _ _ _ _ I R=>zcx I R) (zad (pv 1) zar)))
   zd1),?_⟩
  rcases zlt (by decide) hd with ⟨hn,e⟩ | ⟨hn,hs1,e⟩ | ⟨ne,hn,hs1,hv2,e⟩
  ·rw [e] at k
   have k:E (.ref zao.C) none H:=k
   walk_at "w"
   rw [hn]
   walk_at "w"
  ·rw [e] at k
   have k:E (.ref zaz.C) none H:=k
   walk_at "w"
   rw [hn,zfl hn hs1]
   walk_at "w"
  ·exact absurd rfl ne
theorem zol:za3 ["self","start","goal","answer"] ["self","start","goal"] (zai (zaa (top 31) 9)):=⟨rfl,rfl,rfl,by decide +kernel,rfl,by decide +kernel,by decide +kernel⟩
theorem zvv (T:Txt mg) {CB CT c:Addr} (za5:DfE K mg "NoName") (zao:DfE K mg "NoHouse") (zaz:DfE K mg "Silent") (zah:Df K mg "is_whole" (top 11) ["thing"]) (zan:Df K mg "is_name" (top 12) ["thing","wide"]) (zab:DfC K mg "Town" ["wide","room","tables","silent"]) (zae:DfM K zab.C "is_house" "Town.is_house" (zaa (top 31) 4) ["self","thing"]) (zag:DfM K zab.C "answers" "Town.answers" (zaa (top 31) 3) ["self","name"]) (zau:DfM K zab.C "check_name" "Town.check_name" (zaa (top 31) 15) ["self","thing"]) (zac:DfM K zab.C "check_house" "Town.check_house" (zaa (top 31) 16) ["self","thing"]) (zaf:DfM K zab.C "check_answering" "Town.check_answering" (zaa (top 31) 17) ["self","thing"]) (zcu:DfM K zab.C "ask" "Town.ask" (zaa (top 31) 9) ["self","start","goal"]):zbe P w K mg base (CXR P w) 6 zcu.f zcu.fd ["self","start","goal"] (zk1 K CB CT zab.C (zpe za5.C zao.C c zaz.C) 5):=by
 have hcl:=zab.cl
 have zbd:zbe P w K mg base (CXR P w) 5 _ _ _ _:=ze7 (CB:=CB) (CT:=CT) T zao zaz zah zan zab zae zag zac zaf
 have zc3:zbe P w K mg base (CXR P w) 3 _ _ _ _:=zgg (CB:=CB) (CT:=CT) T za5 zah zan zab zau
 refine zcu.fn.okX zol (fun vs H Q E h=>?_) (fun cdv A outer s H vs Q E hr h=>?_)
 ·obtain ⟨w,td,sd,z,r,hs,sil,TT,v1,v2,rfl,_⟩:=h
  rfl
 ·obtain ⟨w,td,sd,z,r,hs,sil,TT,v1,v2,rfl,hW,hk1,hk2,hd,hg,k⟩:=h
  obtain ⟨⟨dx,hob⟩,htb,hsi,-⟩:=id hW
  refine ⟨_,(zaq (zbj (zce (Th:=fun _=>E) (pv 0) zab.cl zaf.me zbd (hr.mono (by decide)) zaf.b .nil (fun _ _ _ _ _ _ I R=>zcx I R) (zad (pv 1) zar)))
   (zaq (zbj (zce (Th:=fun _=>E) (pv 0) zab.cl zau.me zc3 (hr.mono (by decide)) zau.b .nil (fun _ _ _ _ _ _ I R=>zcx I R) (zad (pv 2) zar)))
   zd1)),?_⟩
  rcases zlt (by decide) hd with ⟨hn,e⟩ | ⟨hn,hs1,e⟩ | ⟨ne,hn,hs1,hv2,e⟩
  ·rw [e] at k
   have k:E (.ref zao.C) none H:=k
   walk_at "w"
   rw [hn]
   walk_at "w"
  ·rw [e] at k
   have k:E (.ref zaz.C) none H:=k
   walk_at "w"
   rw [hn,zfl hn hs1]
   walk_at "w"
  ·rw [e] at k
   have k:E (.ref za5.C) none H:=k
   walk_at "w"
   rw [hn,zfl hn hs1]
   walk_at "w"
   rw [hv2]
   walk_at "w"
theorem znt:za3 ["self","start","goal"] ["self","start","goal"] (zai (zaa (top 31) 10)):=⟨rfl,rfl,rfl,by decide +kernel,rfl,by decide +kernel,by decide +kernel⟩
theorem zvf (T:Txt mg) {CB CT c:Addr} (za5:DfE K mg "NoName") (zao:DfE K mg "NoHouse") (zaz:DfE K mg "Silent") (zah:Df K mg "is_whole" (top 11) ["thing"]) (zan:Df K mg "is_name" (top 12) ["thing","wide"]) (zab:DfC K mg "Town" ["wide","room","tables","silent"]) (zae:DfM K zab.C "is_house" "Town.is_house" (zaa (top 31) 4) ["self","thing"]) (zag:DfM K zab.C "answers" "Town.answers" (zaa (top 31) 3) ["self","name"]) (zau:DfM K zab.C "check_name" "Town.check_name" (zaa (top 31) 15) ["self","thing"]) (zac:DfM K zab.C "check_house" "Town.check_house" (zaa (top 31) 16) ["self","thing"]) (zaf:DfM K zab.C "check_answering" "Town.check_answering" (zaa (top 31) 17) ["self","thing"]) (zcv:DfM K zab.C "way" "Town.way" (zaa (top 31) 10) ["self","start","goal"]):zbe P w K mg base (CXR P w) 6 zcv.f zcv.fd ["self","start","goal"] (zk1 K CB CT zab.C (zpe za5.C zao.C c zaz.C) 6):=by
 have hcl:=zab.cl
 have zbd:zbe P w K mg base (CXR P w) 5 _ _ _ _:=ze7 (CB:=CB) (CT:=CT) T zao zaz zah zan zab zae zag zac zaf
 have zc3:zbe P w K mg base (CXR P w) 3 _ _ _ _:=zgg (CB:=CB) (CT:=CT) T za5 zah zan zab zau
 refine zcv.fn.okX znt (fun vs H Q E h=>?_) (fun cdv A outer s H vs Q E hr h=>?_)
 ·obtain ⟨w,td,sd,z,r,hs,sil,TT,v1,v2,rfl,_⟩:=h
  rfl
 ·obtain ⟨w,td,sd,z,r,hs,sil,TT,v1,v2,rfl,hW,hk1,hk2,hd,hg,k⟩:=h
  obtain ⟨⟨dx,hob⟩,htb,hsi,-⟩:=id hW
  refine ⟨_,(zaq (zbj (zce (Th:=fun _=>E) (pv 0) zab.cl zaf.me zbd (hr.mono (by decide)) zaf.b .nil (fun _ _ _ _ _ _ I R=>zcx I R) (zad (pv 1) zar)))
   (zaq (zbj (zce (Th:=fun _=>E) (pv 0) zab.cl zau.me zc3 (hr.mono (by decide)) zau.b .nil (fun _ _ _ _ _ _ I R=>zcx I R) (zad (pv 2) zar)))
   zd1)),?_⟩
  rcases zlt (by decide) hd with ⟨hn,e⟩ | ⟨hn,hs1,e⟩ | ⟨ne,hn,hs1,hv2,e⟩
  ·rw [e] at k
   have k:E (.ref zao.C) none H:=k
   walk_at "w"
   rw [hn]
   walk_at "w"
  ·rw [e] at k
   have k:E (.ref zaz.C) none H:=k
   walk_at "w"
   rw [hn,zfl hn hs1]
   walk_at "w"
  ·rw [e] at k
   have k:E (.ref za5.C) none H:=k
   walk_at "w"
   rw [hn,zfl hn hs1]
   walk_at "w"
   rw [hv2]
   walk_at "w"
theorem zui (T:Txt mg) {CB CT:Addr} (za5:DfE K mg "NoName") (zao:DfE K mg "NoHouse") (zaz:DfE K mg "Silent") (zbw:DfE K mg "Taken") (zah:Df K mg "is_whole" (top 11) ["thing"]) (zan:Df K mg "is_name" (top 12) ["thing","wide"]) (zab:DfC K mg "Town" ["wide","room","tables","silent"]) (zae:DfM K zab.C "is_house" "Town.is_house" (zaa (top 31) 4) ["self","thing"]) (zag:DfM K zab.C "answers" "Town.answers" (zaa (top 31) 3) ["self","name"]) (zau:DfM K zab.C "check_name" "Town.check_name" (zaa (top 31) 15) ["self","thing"]) (zac:DfM K zab.C "check_house" "Town.check_house" (zaa (top 31) 16) ["self","thing"]) (zaf:DfM K zab.C "check_answering" "Town.check_answering" (zaa (top 31) 17) ["self","thing"]) (zbs:ztg K zab.C "come" "Town.come" (zaa (top 31) 11) ["self","name","door"] [Value.none]):zbe P w K mg base (CXR P w) 6 zbs.f zbs.fd ["self","name","door"] (zk1 K CB CT zab.C (zpe za5.C zao.C zbw.C zaz.C) 0):=by
  have hcl:=zab.cl
  have zbd:zbe P w K mg base (CXR P w) 5 _ _ _ _:=ze7 (CB:=CB) (CT:=CT) T zao zaz zah zan zab zae zag zac zaf
  have zc3:zbe P w K mg base (CXR P w) 3 _ _ _ _:=zgg (CB:=CB) (CT:=CT) T za5 zah zan zab zau
  have zch:zbe P w K mg base CX0 3 _ _ _ _:=zde (CB:=CB) (CT:=CT) T zah zan zab zae
  refine z0g zbs zgn (fun vs H Q E h=>?_) (fun cdv A outer s H vs Q E hr h=>?_)
  · obtain ⟨w,td,sd,z,r,hs,sil,TT,v1,v2,rfl,_⟩:=h
    rfl
  · obtain ⟨w,td,sd,z,r,hs,sil,TT,v1,v2,rfl,hW,hk1,hk2,hd,hg,k⟩:=h
    obtain ⟨⟨dx,hob⟩,htb,hsi,-⟩:=id hW
    refine ⟨_,(zaq (zbj (zce (Th:=fun _=>E) (pv 0) zab.cl zau.me zc3 (hr.mono (by decide)) zau.b .nil (fun _ _ _ _ _ _ I R=>zcx I R) (zad (pv 1) zar)))
      (zaq (zcq (zdv (zb7 (pv 0) zab.cl zae.me zch (hr.mono (by decide)) zae.b .nil zbm (zad (pv 1) zar)))
       (zas (zed (W:=fun H=>E (.ref zbw.C) none H) zbw rfl rfl (zad zb6 zar) (fun _ _ _ _ _ _ _ I hm hw=>zes I hm hw)))
       zbo)
      (zaq (zcq (zbk zno (pv 2) zht (zb8 _))
       (zas (zbj (zce (Th:=fun _=>E) (pv 0) zab.cl zaf.me zbd (hr.mono (by decide)) zaf.b .nil (fun _ _ _ _ _ _ I R=>zcx I R) (zad (pv 2) zar))))
       zbo)
      zd1))),?_⟩
    rcases ztc hd (hg.elim (fun y=>absurd y (by decide)) id) with ⟨hn,e⟩ | ⟨hn,hh,e⟩ | ⟨hn,hh,hv,⟨hh2,e⟩ | ⟨hh2,hs2,e⟩⟩
    · rw [e] at k
      have k:E (.ref za5.C) none H:=k
      walk_at "w"
      rw [hn]
      walk_at "w"
    · rw [e] at k
      have k:E (.ref zbw.C) none H:=k
      walk_at "w"
      rw [hn]
      walk_at "w"
      rcases id hk1 with ⟨i,rfl⟩ | ⟨hw,hni⟩
      · refine .inl ⟨i,rfl,?_⟩
        have hn':(zdj z i && decide (i∈hs))=true:=hh
        rw [hn']
        walk_at "w"
      · exact absurd ((zgm hni).symm.trans (hh)) (by decide)
    · rw [e] at k
      have k:E (.ref zao.C) none H:=k
      walk_at "w"
      rw [hn]
      walk_at "w"
      rcases id hk1 with ⟨i,rfl⟩ | ⟨hw,hni⟩
      · refine .inl ⟨i,rfl,?_⟩
        have hn':(zdj z i && decide (i∈hs))=false:=hh
        rw [hn']
        walk_at "w"
        cases v2 with
        | non=>exact absurd rfl hv
        | int j =>
          walk_at "w"
          rw [hh2]
          walk_at "w"
        | _=>walk_at "w"
      · refine .inr ⟨hw,?_⟩
        walk_at "w"
        cases v2 with
        | non=>exact absurd rfl hv
        | int j =>
          walk_at "w"
          rw [hh2]
          walk_at "w"
        | _=>walk_at "w"
    · rw [e] at k
      have k:E (.ref zaz.C) none H:=k
      walk_at "w"
      rw [hn]
      walk_at "w"
      rcases id hk1 with ⟨i,rfl⟩ | ⟨hw,hni⟩
      · refine .inl ⟨i,rfl,?_⟩
        have hn':(zdj z i && decide (i∈hs))=false:=hh
        rw [hn']
        walk_at "w"
        cases v2 with
        | non=>exact absurd rfl hv
        | int j =>
          walk_at "w"
          rw [hh2,zfl hh2 hs2]
          walk_at "w"
        | _=>exact absurd hh2 Bool.false_ne_true
      · refine .inr ⟨hw,?_⟩
        walk_at "w"
        cases v2 with
        | non=>exact absurd rfl hv
        | int j =>
          walk_at "w"
          rw [hh2,zfl hh2 hs2]
          walk_at "w"
        | _=>exact absurd hh2 Bool.false_ne_true
theorem zuf (T:Txt mg) {CB CT a:Addr} (zao:DfE K mg "NoHouse") (zaz:DfE K mg "Silent") (zbw:DfE K mg "Taken") (zah:Df K mg "is_whole" (top 11) ["thing"]) (zan:Df K mg "is_name" (top 12) ["thing","wide"]) (zab:DfC K mg "Town" ["wide","room","tables","silent"]) (zae:DfM K zab.C "is_house" "Town.is_house" (zaa (top 31) 4) ["self","thing"]) (zag:DfM K zab.C "answers" "Town.answers" (zaa (top 31) 3) ["self","name"]) (zac:DfM K zab.C "check_house" "Town.check_house" (zaa (top 31) 16) ["self","thing"]) (zaf:DfM K zab.C "check_answering" "Town.check_answering" (zaa (top 31) 17) ["self","thing"]) (zcl:DfM K zab.C "wake" "Town.wake" (zaa (top 31) 14) ["self","house","door"]):zbe P w K mg base (CXR P w) 6 zcl.f zcl.fd ["self","house","door"] (zk1 K CB CT zab.C (zpe a zao.C zbw.C zaz.C) 3):=by
  have hcl:=zab.cl
  have zbd:zbe P w K mg base (CXR P w) 5 _ _ _ _:=ze7 (CB:=CB) (CT:=CT) T zao zaz zah zan zab zae zag zac zaf
  have zbi:zbe P w K mg base (CXR P w) 4 _ _ _ _:=zds (CB:=CB) (CT:=CT) T zao zah zan zab zae zac
  have zb2:zbe P w K mg base CX0 4 _ _ _ _:=zcy (CB:=CB) (CT:=CT) T zah zan zab zae zag
  refine zcl.fn.okX zl2 (fun vs H Q E h=>?_) (fun cdv A outer s H vs Q E hr h=>?_)
  · obtain ⟨w,td,sd,z,r,hs,sil,TT,v1,v2,rfl,_⟩:=h
    rfl
  · obtain ⟨w,td,sd,z,r,hs,sil,TT,v1,v2,rfl,hW,hk1,hk2,hd,hg,k⟩:=h
    obtain ⟨⟨dx,hob⟩,htb,hsi,-⟩:=id hW
    refine ⟨_,(zaq (zbj (zce (Th:=fun _=>E) (pv 0) zab.cl zac.me zbi (hr.mono (by decide)) zac.b .nil (fun _ _ _ _ _ _ I R=>zcx I R) (zad (pv 1) zar)))
      (zaq (zcq (zdv (zb7 (pv 0) zab.cl zag.me zb2 (hr.mono (by decide)) zag.b .nil zbm (zad (pv 1) zar)))
       (zas (zed (W:=fun H=>E (.ref zbw.C) none H) zbw rfl rfl (zad zb6 zar) (fun _ _ _ _ _ _ _ I hm hw=>zes I hm hw)))
       zbo)
      (zaq (zbj (zce (Th:=fun _=>E) (pv 0) zab.cl zaf.me zbd (hr.mono (by decide)) zaf.b .nil (fun _ _ _ _ _ _ I R=>zcx I R) (zad (pv 2) zar)))
      zd1))),?_⟩
    rcases zph hd with ⟨hn,e⟩ | ⟨hn,hs1,e⟩ | ⟨hn,hs1,⟨hh2,e⟩ | ⟨hh2,hs2,e⟩⟩
    · rw [e] at k
      have k:E (.ref zao.C) none H:=k
      walk_at "w"
      rw [hn]
      walk_at "w"
    · rw [e] at k
      have k:E (.ref zbw.C) none H:=k
      walk_at "w"
      rw [hn]
      walk_at "w"
      rcases id hk1 with ⟨i,rfl⟩ | ⟨hw,hni⟩
      · refine .inl ⟨i,rfl,?_⟩
        have hn':(zdj z i && decide (i∈hs) && !decide (i∈sil))=true:=zfl hn hs1
        rw [hn']
        walk_at "w"
      · exact absurd ((zsh hni).symm.trans (zfl hn hs1)) (by decide)
    · rw [e] at k
      have k:E (.ref zao.C) none H:=k
      walk_at "w"
      rw [hn]
      walk_at "w"
      rcases id hk1 with ⟨i,rfl⟩ | ⟨hw,hni⟩
      · refine .inl ⟨i,rfl,?_⟩
        have hn':(zdj z i && decide (i∈hs) && !decide (i∈sil))=false:=zfl hn hs1
        rw [hn']
        walk_at "w"
        rw [hh2]
        walk_at "w"
      · refine .inr ⟨hw,?_⟩
        walk_at "w"
        rw [hh2]
        walk_at "w"
    · rw [e] at k
      have k:E (.ref zaz.C) none H:=k
      walk_at "w"
      rw [hn]
      walk_at "w"
      rcases id hk1 with ⟨i,rfl⟩ | ⟨hw,hni⟩
      · refine .inl ⟨i,rfl,?_⟩
        have hn':(zdj z i && decide (i∈hs) && !decide (i∈sil))=false:=zfl hn hs1
        rw [hn']
        walk_at "w"
        rw [hh2,zfl hh2 hs2]
        walk_at "w"
      · refine .inr ⟨hw,?_⟩
        walk_at "w"
        rw [hh2,zfl hh2 hs2]
        walk_at "w"
end
theorem zv_ {i z:Int} (hz:1≤z):zdj z i=(decide (0≤i) && decide (i<1 * 2 ^ z.toNat)):=by
 unfold zdj
 by_cases h:0≤i
 ·rw [zrt h (by omega),Int.one_mul]
 ·rw [decide_eq_false h,Bool.false_and,Bool.false_and]
def zv4 (K:PySem.W.Frag):Sp:=fun vs H Q _=>∃ (v:V) (z:Int),vs=[v,.int z]∧zd5 K H v∧1≤z∧z≤60∧Q (.bl (zek z v)) H
def zto (K:PySem.W.Frag):Sp:=fun vs H Q _=>∃ (md mt mq:Addr) (r:Int) (z':Nat) (hs sil:List Int) (N:Int→Nat→List Int) (M:Int→ze1) (z:Int) (v:V) (aw:Bool),vs=[.ref md,.int z,v,.bl aw]∧zck H md mt mq r z' hs sil N M∧zd5 K H v∧1≤z∧z≤60∧Q (.int (ofH z hs sil v aw)) H
def zxf (K:PySem.W.Frag):Sp:=fun vs H Q _=>∃ (md mt mq:Addr) (r:Int) (z':Nat) (hs sil:List Int) (N:Int→Nat→List Int) (M:Int→ze1) (z kind:Int) (v1 v2:V),vs=[.ref md,.int z,.int kind,v1,v2]∧zck H md mt mq r z' hs sil N M∧zd5 K H v1∧zd5 K H v2∧1≤z∧z≤60∧0≤kind∧kind≤8∧Q (.int (zdt z hs sil kind v1 v2)) H
section
variable {P:Program} {w:World} {K:PySem.W.Frag} {mg:Str→Option Value} {base:Heap}
theorem znl:za3 ["_law_thing_here","_law_wide_here"] ["_law_thing_here","_law_wide_here"] (zai (top 49)):=⟨rfl,rfl,rfl,by decide +kernel,rfl,by decide +kernel,by decide +kernel⟩
theorem zg3 (T:Txt mg) (D:Df K mg "_law_is_name" (top 49) ["_law_thing_here","_law_wide_here"]):zbe P w K mg base CX0 1 D.f D.fd ["_law_thing_here","_law_wide_here"] (zv4 K):=by
 refine D.fn.ok znl (fun vs H Q E h=>?_) (fun cdv A outer s H vs Q E hr h=>?_)
 ·obtain ⟨v,z,rfl,_⟩:=h
  rfl
 ·obtain ⟨v,z,rfl,hk,hz1,hz2,k⟩:=h
  refine ⟨_,(zas (zbh (zhs (zb1 zi2 rfl T.n_isinstance zb9 (zad (pv 0) (zad (zsp rfl T.n_int zu7) zar))) (zhs (zq5 (zb1 zi2 rfl T.n_isinstance zb9 (zad (pv 0) (zad (zsp rfl T.n_bool zq3) zar)))) (zjk (zla znb zte zaw (pv 0) (zbt zku zaw (pv 1)))))))),?_⟩
  rcases hk with ⟨i,rfl⟩ | ⟨⟨b,rfl⟩ | ⟨t,ht,hkt⟩,hni⟩
  ·have k:Q (.bl (zdj z i)) H:=k
   rw [zv_ hz1] at k
   walk_at "w"
   by_cases hi:0≤i
   ·refine zkn hi ?_
    rw [decide_eq_true hi,Bool.true_and] at k
    walk_at "w"
   ·refine zfv hi ?_
    rw [decide_eq_false hi,Bool.false_and] at k
    exact k
  ·walk_at "w"
  ·rw [zhk hni] at k
   walk_at "w"
theorem zmk:za3 ["_law_model","_law_wide_here","_law_house","_law_awake_here"] ["_law_model","_law_wide_here","_law_house","_law_awake_here"] (zai (top 50)):=⟨rfl,rfl,rfl,by decide +kernel,rfl,by decide +kernel,by decide +kernel⟩
theorem zmv (T:Txt mg) (za6:Df K mg "_law_is_name" (top 49) ["_law_thing_here","_law_wide_here"]) (D:Df K mg "_law_of_house" (top 50) ["_law_model","_law_wide_here","_law_house","_law_awake_here"]):zbe P w K mg base CX0 2 D.f D.fd ["_law_model","_law_wide_here","_law_house","_law_awake_here"] (zto K):=by
  have zdf:zbe P w K mg base CX0 1 _ _ _ _:=zg3 T za6
  refine D.fn.ok zmk (fun vs H Q E h=>?_) (fun cdv A outer s H vs Q E hr h=>?_)
  · obtain ⟨md,mt,mq,r,z',hs,sil,N,M,z,v,aw,rfl,_⟩:=h
    rfl
  · obtain ⟨md,mt,mq,r,z',hs,sil,N,M,z,v,aw,rfl,W,hk,hz1,hz2,k⟩:=h
    have gT:=W.gT
    have gQ:=W.gQ
    have hq:=W.q
    refine ⟨_,(zaq (zcq (PW.pt (zsl (zf0 (zdv (zbn zdf (hr.mono (by decide)) rfl za6.hm za6.fn.kp za6.b .nil zbm (zad (pv 2) (zad (pv 1) zar))))) (zq4 (zie (zeq (zcj hr) (pv 2) (zby (zcj hr) (pv 0) zb6 (fun _ _=>rfl)))))))
       (zas (zbh zaw))
       zbo)
      (zaq (zcq (PW.pt (zif (zdv (pv 3)) (zg0 (zie (zpd (zcj hr) (pv 2) (zby (zcj hr) (pv 0) zb6 (fun _ _=>rfl)))))))
       (zas (zbh zaw))
       zbo)
      (zas (zbh (zw1 zr_ zaw))))),?_⟩
    unfold ofH at k
    walk_at "w"
    rcases id hk with ⟨i,rfl⟩ | ⟨_,hni⟩
    · have gO:=W.gO i
      have hv:=zev (sil:=sil) (i:=i)
      cases hn:zdj z i with
      | false =>
        have e:zci z hs (.int i)=false:=by
          show (zdj z i && decide (i∈hs))=false
          rw [hn,Bool.false_and]
        rw [e,if_neg (by decide)] at k
        have e2:zek z (.int i)=false:=hn
        rw [e2]
        walk_at "w"
      | true =>
        have e2:zek z (.int i)=true:=hn
        rw [e2]
        walk_at "w"
        by_cases hi:i∈hs
        · have e:zci z hs (.int i)=true:=by
            show (zdj z i && decide (i∈hs))=true
            rw [hn,decide_eq_true hi]
            rfl
          rw [e,if_pos rfl] at k
          rw [if_pos hi]
          walk_at "w"
          cases aw with
          | false =>
            have k:Q (.int (-1)) H:=k
            walk_at "w"
          | true =>
            have k:Q (.int (if (decide (i∈sil))=true then 4 else -1)) H:=k
            walk_at "w"
            rw [hv]
            by_cases hsi:i∈sil
            · rw [if_pos (decide_eq_true hsi)] at k
              refine zkn hsi ?_
              walk_at "w"
            · rw [if_neg (by simpa using hsi)] at k
              refine zfv hsi ?_
              walk_at "w"
        · have e:zci z hs (.int i)=false:=by
            show (zdj z i && decide (i∈hs))=false
            rw [decide_eq_false hi,Bool.and_false]
          rw [e,if_neg (by decide)] at k
          rw [if_neg hi]
          walk_at "w"
    · rw [zgm hni,if_neg (by decide)] at k
      rw [zhk hni]
      walk_at "w"
theorem zsu:za3 ["_law_model","_law_wide_here","_law_kind","_law_house","_law_other","_law_due_here"] ["_law_model","_law_wide_here","_law_kind","_law_house","_law_other"] (zai (top 51)):=⟨rfl,rfl,rfl,by decide +kernel,rfl,by decide +kernel,by decide +kernel⟩
theorem zwu (T:Txt mg) (za6:Df K mg "_law_is_name" (top 49) ["_law_thing_here","_law_wide_here"]) (zba:Df K mg "_law_of_house" (top 50) ["_law_model","_law_wide_here","_law_house","_law_awake_here"]) (D:Df K mg "_law_due" (top 51) ["_law_model","_law_wide_here","_law_kind","_law_house","_law_other"]):zbe P w K mg base CX0 3 D.f D.fd ["_law_model","_law_wide_here","_law_kind","_law_house","_law_other"] (zxf K):=by
  have zdf:zbe P w K mg base CX0 1 _ _ _ _:=zg3 T za6
  have zd8:zbe P w K mg base CX0 2 _ _ _ _:=zmv T za6 zba
  refine D.fn.ok zsu (fun vs H Q E h=>?_) (fun cdv A outer s H vs Q E hr h=>?_)
  · obtain ⟨md,mt,mq,r,z',hs,sil,N,M,z,kind,v1,v2,rfl,_⟩:=h
    rfl
  · obtain ⟨md,mt,mq,r,z',hs,sil,N,M,z,kind,v1,v2,rfl,W,hk1,hk2,hz1,hz2,h0,h8,k⟩:=h
    have gT:=W.gT
    have gQ:=W.gQ
    have hq:=W.q
    refine ⟨_,(zaq (zcq (zbk zgf (pv 2) zaw (zb8 _))
       (zaq (zcq (zf0 (zdv (zbn zdf (hr.mono (by decide)) rfl za6.hm za6.fn.kp za6.b .nil zbm (zad (pv 3) (zad (pv 1) zar)))))
         (zas (zbh zaw))
         zbo)
        (zaq (zcq (zie (zpd (zcj hr) (pv 3) (zby (zcj hr) (pv 0) zb6 (fun _ _=>rfl))))
         (zas (zbh zaw))
         zbo)
        (zas (zbh (zbn zd8 (hr.mono (by decide)) rfl zba.hm zba.fn.kp zba.b .nil zbm (zad (pv 0) (zad (pv 1) (zad (pv 4) (zad zgd zar)))))))))
       zbo)
      (zaq (zcq (zbk zgf (pv 2) zaw (zb8 _))
       (zaq (zcq (zbk zgf (zbn zd8 (hr.mono (by decide)) rfl zba.hm zba.fn.kp zba.b .nil zbm (zad (pv 0) (zad (pv 1) (zad (pv 3) (zad zgd zar))))) zaw (zb8 _))
         (zas (zbh zaw))
         zbo)
        (zaq (zcq (zie (zeq (zcj hr) (pv 3) (zby (zcj hr) (pv 0) zb6 (fun _ _=>rfl))))
         (zas (zbh zaw))
         zbo)
        (zas (zbh (zbn zd8 (hr.mono (by decide)) rfl zba.hm zba.fn.kp zba.b .nil zbm (zad (pv 0) (zad (pv 1) (zad (pv 4) (zad zgd zar)))))))))
       zbo)
      (zaq (zcp (i:=5) zsu.nd rfl (Or.inl rfl) (zbn zd8 (hr.mono (by decide)) rfl zba.hm zba.fn.kp zba.b .nil zbm (zad (pv 0) (zad (pv 1) (zad (pv 3) (zad (zla znb znb zaw (pv 2) zaw) zar))))))
      (zaq (zcq (PW.pt (zif (zbk zgf (pv 5) (zw1 zr_ zaw) (zb8 _)) (zif (zth znb znb zaw (pv 2) zaw) (zg0 (zf0 (zdv (zbn zdf (hr.mono (by decide)) rfl za6.hm za6.fn.kp za6.b .nil zbm (zad (pv 4) (zad (pv 1) zar)))))))))
       (zas (zbh zaw))
       zbo)
      (zas (zbh (pv 5))))))),?_⟩
    by_cases c0:kind=0
    · subst c0
      have e0:zdt z hs sil 0 v1 v2=(if zek z v1=true then (if zci z hs v1=true then 3 else ofH z hs sil v2 true) else 1):=rfl
      rw [e0] at k
      walk_at "w"
      cases hn:zek z v1 with
      | false =>
        rw [hn,if_neg (by decide)] at k
        walk_at "w"
      | true =>
        rw [hn,if_pos rfl] at k
        rcases id hk1 with ⟨i,rfl⟩ | ⟨_,hni⟩
        · have gO:=W.gO i
          have hn':zdj z i=true:=hn
          walk_at "w"
          by_cases hi:i∈hs
          · have e:zci z hs (.int i)=true:=by
              show (zdj z i && decide (i∈hs))=true
              rw [hn',decide_eq_true hi]
              rfl
            rw [e,if_pos rfl] at k
            rw [if_pos hi]
            walk_at "w"
          · have e:zci z hs (.int i)=false:=by
              show (zdj z i && decide (i∈hs))=false
              rw [decide_eq_false hi,Bool.and_false]
            rw [e,if_neg (by decide)] at k
            rw [if_neg hi]
            walk_at "w"
        · rw [zhk hni] at hn
          cases hn
    · by_cases c3:kind=3
      · subst c3
        have e0:zdt z hs sil 3 v1 v2=(if zci z hs v1=true then (if znw sil v1=true then ofH z hs sil v2 true else 3) else 2):=rfl
        rw [e0] at k
        walk_at "w"
        cases hn:zci z hs v1 with
        | false =>
          rw [hn,if_neg (by decide)] at k
          have e1:ofH z hs sil v1 false=2:=by
            unfold ofH
            rw [hn]
            rfl
          rw [e1]
          walk_at "w"
        | true =>
          rw [hn,if_pos rfl] at k
          have e1:ofH z hs sil v1 false = -1:=by
            unfold ofH
            rw [hn]
            rfl
          rw [e1]
          rcases id hk1 with ⟨i,rfl⟩ | ⟨_,hni⟩
          · have hv:=zev (sil:=sil) (i:=i)
            walk_at "w"
            rw [hv]
            have k:Q (.int (if decide (i∈sil)=true then ofH z hs sil v2 true else 3)) H:=k
            by_cases hsi:i∈sil
            · rw [if_pos (decide_eq_true hsi)] at k
              rw [decide_eq_true hsi]
              walk_at "w"
            · rw [if_neg (by simpa using hsi)] at k
              rw [decide_eq_false hsi]
              walk_at "w"
          · rw [zgm hni] at hn
            cases hn
      · have e0:zdt z hs sil kind v1 v2=if ofH z hs sil v1 (decide (4≤kind) && decide (kind≤6)) = -1∧5≤kind∧kind≤6∧zek z v2=false then 1 else ofH z hs sil v1 (decide (4≤kind) && decide (kind≤6)):=by
          unfold zdt
          rw [if_neg c0,if_neg c3]
        rw [e0] at k
        have ck:kind=1∨kind=2∨kind=4∨kind=5∨kind=6∨kind=7∨kind=8:=by omega
        clear e0 c0 c3 h0 h8
        rcases ck with rfl | rfl | rfl | rfl | rfl | rfl | rfl
        · walk_at "w"
          generalize hx:ofH z hs sil v1 false=x
          have k:Q (.int (if x = -1∧(5:Int)≤1∧(1:Int)≤6∧zek z v2=false then 1 else x)) H:=by rw [← hx]; exact k
          by_cases h1:x = -1
          · subst h1
            refine zkn (show V.int (-1)=(fun i:Int=>V.int (-i)) 1 from rfl) ?_
            rw [if_neg (by omega)] at k
            walk_at "w"
          · refine zfv (fun e=>h1 (V.int.inj e)) ?_
            rw [if_neg (fun y=>h1 y.1)] at k
            walk_at "w"
        · walk_at "w"
          generalize hx:ofH z hs sil v1 false=x
          have k:Q (.int (if x = -1∧(5:Int)≤2∧(2:Int)≤6∧zek z v2=false then 1 else x)) H:=by rw [← hx]; exact k
          by_cases h1:x = -1
          · subst h1
            refine zkn (show V.int (-1)=(fun i:Int=>V.int (-i)) 1 from rfl) ?_
            rw [if_neg (by omega)] at k
            walk_at "w"
          · refine zfv (fun e=>h1 (V.int.inj e)) ?_
            rw [if_neg (fun y=>h1 y.1)] at k
            walk_at "w"
        · walk_at "w"
          generalize hx:ofH z hs sil v1 (decide ((4:Int)≤6))=x
          have k:Q (.int (if x = -1∧(5:Int)≤4∧(4:Int)≤6∧zek z v2=false then 1 else x)) H:=by rw [← hx]; exact k
          by_cases h1:x = -1
          · subst h1
            refine zkn (show V.int (-1)=(fun i:Int=>V.int (-i)) 1 from rfl) ?_
            rw [if_neg (by omega)] at k
            walk_at "w"
          · refine zfv (fun e=>h1 (V.int.inj e)) ?_
            rw [if_neg (fun y=>h1 y.1)] at k
            walk_at "w"
        · walk_at "w"
          generalize hx:ofH z hs sil v1 (decide ((5:Int)≤6))=x
          have k:Q (.int (if x = -1∧(5:Int)≤5∧(5:Int)≤6∧zek z v2=false then 1 else x)) H:=by rw [← hx]; exact k
          by_cases h1:x = -1
          · subst h1
            refine zkn (show V.int (-1)=(fun i:Int=>V.int (-i)) 1 from rfl) ?_
            walk_at "w"
            cases hn:zek z v2 with
            | false =>
              rw [if_pos ⟨rfl,by decide,by decide,hn⟩] at k
              walk_at "w"
            | true =>
              rw [if_neg (fun y=>by rw [hn] at y; exact absurd y.2.2.2 (by decide))] at k
              walk_at "w"
          · refine zfv (fun e=>h1 (V.int.inj e)) ?_
            rw [if_neg (fun y=>h1 y.1)] at k
            walk_at "w"
        · walk_at "w"
          generalize hx:ofH z hs sil v1 (decide ((6:Int)≤6))=x
          have k:Q (.int (if x = -1∧(5:Int)≤6∧(6:Int)≤6∧zek z v2=false then 1 else x)) H:=by rw [← hx]; exact k
          by_cases h1:x = -1
          · subst h1
            refine zkn (show V.int (-1)=(fun i:Int=>V.int (-i)) 1 from rfl) ?_
            walk_at "w"
            cases hn:zek z v2 with
            | false =>
              rw [if_pos ⟨rfl,by decide,by decide,hn⟩] at k
              walk_at "w"
            | true =>
              rw [if_neg (fun y=>by rw [hn] at y; exact absurd y.2.2.2 (by decide))] at k
              walk_at "w"
          · refine zfv (fun e=>h1 (V.int.inj e)) ?_
            rw [if_neg (fun y=>h1 y.1)] at k
            walk_at "w"
        · walk_at "w"
          generalize hx:ofH z hs sil v1 (decide ((7:Int)≤6))=x
          have k:Q (.int (if x = -1∧(5:Int)≤7∧(7:Int)≤6∧zek z v2=false then 1 else x)) H:=by rw [← hx]; exact k
          by_cases h1:x = -1
          · subst h1
            refine zkn (show V.int (-1)=(fun i:Int=>V.int (-i)) 1 from rfl) ?_
            rw [if_neg (by omega)] at k
            walk_at "w"
          · refine zfv (fun e=>h1 (V.int.inj e)) ?_
            rw [if_neg (fun y=>h1 y.1)] at k
            walk_at "w"
        · walk_at "w"
          generalize hx:ofH z hs sil v1 (decide ((8:Int)≤6))=x
          have k:Q (.int (if x = -1∧(5:Int)≤8∧(8:Int)≤6∧zek z v2=false then 1 else x)) H:=by rw [← hx]; exact k
          by_cases h1:x = -1
          · subst h1
            refine zkn (show V.int (-1)=(fun i:Int=>V.int (-i)) 1 from rfl) ?_
            rw [if_neg (by omega)] at k
            walk_at "w"
          · refine zfv (fun e=>h1 (V.int.inj e)) ?_
            rw [if_neg (fun y=>h1 y.1)] at k
            walk_at "w"
end
theorem ztt {xs:List V} {c n:Int} (hn:n=((xs.length:Nat):Int)) (h0:0<xs.length):∃ v,v∈xs∧atI xs (c % n)=some v:=by
 subst hn
 have hpos:(0:Int)<((xs.length:Nat):Int):=by omega
 have a1:=Int.emod_nonneg c (Int.ne_of_gt hpos)
 have a2:=Int.emod_lt_of_pos c hpos
 have hlt:(c % ((xs.length:Nat):Int)).toNat<xs.length:=by omega
 refine ⟨xs[(c % ((xs.length:Nat):Int)).toNat],List.getElem_mem hlt,?_⟩
 have e:(((c % ((xs.length:Nat):Int)).toNat:Nat):Int)=c % ((xs.length:Nat):Int):=by omega
 have z:=zlf (xs:=xs) (j:=(c % ((xs.length:Nat):Int)).toNat) (v:=xs[(c % ((xs.length:Nat):Int)).toNat]) (by simp [hlt])
 rwa [e] at z
def zwi (K:PySem.W.Frag):Sp:=fun vs H Q _=>∃ (md mt mq:Addr) (r:Int) (z':Nat) (hs sil:List Int) (N:Int→Nat→List Int) (M:Int→ze1) (z c:Int),vs=[.ref md,.int z,.int c]∧zck H md mt mq r z' hs sil N M∧H mt=some (.dK (mtD hs M))∧0≤c∧1≤z∧z≤60∧∀ (v:V) (H':Hp),zbf H H'→zd5 K H' v→Q v H'
section
variable {P:Program} {w:World} {K:PySem.W.Frag} {mg:Str→Option Value} {base:Heap}
theorem znj:za3 ["_law_model","_law_wide_here","_law_cell","_law_some_here"] ["_law_model","_law_wide_here","_law_cell"] (zai (top 52)):=⟨rfl,rfl,rfl,by decide +kernel,rfl,by decide +kernel,by decide +kernel⟩
theorem zq7 (T:Txt mg) (D:Df K mg "_law_thing" (top 52) ["_law_model","_law_wide_here","_law_cell"]):zbe P w K mg base CX0 1 D.f D.fd ["_law_model","_law_wide_here","_law_cell"] (zwi K):=by
 refine D.fn.ok znj (fun vs H Q E h=>?_) (fun cdv A outer s H vs Q E hr h=>?_)
 ·obtain ⟨md,mt,mq,r,z',hs,sil,N,M,z,c,rfl,_⟩:=h
  rfl
 ·obtain ⟨md,mt,mq,r,z',hs,sil,N,M,z,c,rfl,W,hmt,hc,hz1,hz2,k⟩:=h
  have gT:=W.gT
  have hkeys:=zlr (hs:=hs) (M:=M)
  have h60:=W.ln
  have h64:hs.length<64:=by omega
  have q2:=two_pow_pos z.toNat
  have q1:(1 * 2 ^ z.toNat:Int)≠0:=by omega
  refine ⟨_,(zaq (zcp (i:=3) znj.nd rfl (Or.inl rfl) (zbt zfj (zb1 (zd4 rfl) rfl T.n_sorted zd7 (zad (zby (zcj hr) (pv 0) zb6 (fun _ _=>rfl)) zar)) (zc9 (zad (zbt zdp (zbt zd3 (pv 2) zaw) (zbt zku zaw (pv 1))) (zad (zbt zku zaw (pv 1)) (zad (zw1 zr_ zaw) (zad zgd (zad zgd (zad zb6 (zad (zc9 (zad zaw zar)) (zad (zuu (zad zaw zar)) (zad zgo zar))))))))))))
   (zas (zbh (zk4 zft (zbt zfj (pv 3) (zc9 (zad zht (zad (zbt zf1 (zbt zku zaw (pv 1)) (zbt zdp (zbt zd3 (pv 2) zaw) (zbt zo0 zaw zaw))) zar)))) (zbt zdp (pv 2) (zbt zf1 (zb1 zet rfl T.n_len zjs (zad (pv 3) zar)) zaw)) (fun _ _=>rfl))))),?_⟩
  walk_at "w"
  intro l hl
  have s1:zbf H (upd H l (.lst ((zb_ hs).map V.int))):=zbf.new H hl
  have e1:upd H l (.lst ((zb_ hs).map V.int)) l=some (.lst ((zb_ hs).map V.int)):=zam
  generalize upd H l (.lst ((zb_ hs).map V.int))=H1 at s1 e1 ⊢
  walk_at "w"
  intro p hp
  generalize hH2:upd H1 p _=H2
  have s2:zbf H1 H2:=by rw [← hH2]; exact zbf.new H1 hp
  have e2:H2 p=some (.lst [V.int 0]):=by rw [← hH2,zam]
  clear hH2
  walk_at "w"
  intro pt hpt
  generalize hH3:upd H2 pt _=H3
  have s3:zbf H2 H3:=by rw [← hH3]; exact zbf.new H2 hpt
  have e3:H3 pt=some (.tup [V.int 0]):=by rw [← hH3,zam]
  clear hH3
  walk_at "w"
  intro pd hpd
  generalize hH4:upd H3 pd _=H4
  have s4:zbf H3 H4:=by rw [← hH4]; exact zbf.new H3 hpd
  have e4:H4 pd=some (.dK []):=by rw [← hH4,zam]
  clear hH4
  have e14:=s4 _ _ (s3 _ _ (s2 _ _ e1))
  have e24:=s4 _ _ (s3 _ _ e2)
  have e34:=s4 _ _ e3
  have s04:=(s1.trans s2).trans (s3.trans s4)
  walk_at "w"
  intro q hq
  generalize hH5:upd H4 q _=H5
  have s5:zbf H4 H5:=by rw [← hH5]; exact zbf.new H4 hq
  have e5:H5 q=some (.lst [V.int (c / 30 % (1 * 2 ^ z.toNat)),V.int (1 * 2 ^ z.toNat),V.int (-1),V.bl true,V.bl false,V.str "0",V.ref p,V.ref pt,V.ref pd]):=by rw [← hH5,zam]
  clear hH5
  have e15:=s5 _ _ e14
  have hsz1:((zb_ hs).map V.int).length+[V.int (c / 30 % (1 * 2 ^ z.toNat)),V.int (1 * 2 ^ z.toNat),V.int (-1),V.bl true,V.bl false,V.str "0",V.ref p,V.ref pt,V.ref pd].length≤sizeLine:=by
   rw [List.length_map,zd2]
   exact Nat.le_of_lt (zbu (show hs.length+9≤1000 by omega))
  walk_at "w"
  intro q2 hq2
  generalize hH6:upd H5 q2 _=H6
  have s6:zbf H5 H6:=by rw [← hH6]; exact zbf.new H5 hq2
  have e6:H6 q2=some (.lst ((zb_ hs).map V.int++[V.int (c / 30 % (1 * 2 ^ z.toNat)),V.int (1 * 2 ^ z.toNat),V.int (-1),V.bl true,V.bl false,V.str "0",V.ref p,V.ref pt,V.ref pd])):=by rw [← hH6,zam]
  clear hH6
  walk_at "w"
  intro q3 hq3
  generalize hH7:upd H6 q3 _=H7
  have s7:zbf H6 H7:=by rw [← hH7]; exact zbf.new H6 hq3
  have e7:H7 q3=some (.lst [V.non,V.int (1 * 2 ^ z.toNat+c / 30 % 10 ^ (50:Int).toNat)]):=by rw [← hH7,zam]
  clear hH7
  have e67:=s7 _ _ e6
  have hsz2:((zb_ hs).map V.int++[V.int (c / 30 % (1 * 2 ^ z.toNat)),V.int (1 * 2 ^ z.toNat),V.int (-1),V.bl true,V.bl false,V.str "0",V.ref p,V.ref pt,V.ref pd]).length+[V.non,V.int (1 * 2 ^ z.toNat+c / 30 % 10 ^ (50:Int).toNat)].length≤sizeLine:=by
   rw [List.length_append,List.length_map,zd2]
   exact Nat.le_of_lt (zbu (show hs.length+9+2≤1000 by omega))
  walk_at "w"
  intro q4 hq4
  generalize hH8:upd H7 q4 _=H8
  have s8:zbf H7 H8:=by rw [← hH8]; exact zbf.new H7 hq4
  have e8:H8 q4=some (.lst ((zb_ hs).map V.int++[V.int (c / 30 % (1 * 2 ^ z.toNat)),V.int (1 * 2 ^ z.toNat),V.int (-1),V.bl true,V.bl false,V.str "0",V.ref p,V.ref pt,V.ref pd]++[V.non,V.int (1 * 2 ^ z.toNat+c / 30 % 10 ^ (50:Int).toNat)])):=by rw [← hH8,zam]
  clear hH8
  have e68:=s8 _ _ e67
  have s08:=s04.trans ((s5.trans s6).trans (s7.trans s8))
  have s48:=(s5.trans s6).trans (s7.trans s8)
  have hpos:(0:Int)<((((zb_ hs).map V.int++[V.int (c / 30 % (1 * 2 ^ z.toNat)),V.int (1 * 2 ^ z.toNat),V.int (-1),V.bl true,V.bl false,V.str "0",V.ref p,V.ref pt,V.ref pd]).length:Nat):Int)+2:=by omega
  obtain ⟨v,hv,hat⟩:=ztt (c:=c) (n:=((((zb_ hs).map V.int++[V.int (c / 30 % (1 * 2 ^ z.toNat)),V.int (1 * 2 ^ z.toNat),V.int (-1),V.bl true,V.bl false,V.str "0",V.ref p,V.ref pt,V.ref pd]).length:Nat):Int)+2) (xs:=(zb_ hs).map V.int++[V.int (c / 30 % (1 * 2 ^ z.toNat)),V.int (1 * 2 ^ z.toNat),V.int (-1),V.bl true,V.bl false,V.str "0",V.ref p,V.ref pt,V.ref pd]++[V.non,V.int (1 * 2 ^ z.toNat+c / 30 % 10 ^ (50:Int).toNat)]) (by rw [List.length_append (bs:=[V.non,V.int (1 * 2 ^ z.toNat+c / 30 % 10 ^ (50:Int).toNat)])]; rfl) (by rw [List.length_append]; exact Nat.lt_of_lt_of_le (by decide) (Nat.le_add_left 2 _))
  walk_at "w"
  refine k v H8 s08 ?_
  rcases List.mem_append.mp hv with hv | hv
  ·rcases List.mem_append.mp hv with hv | hv
   ·obtain ⟨x,_,rfl⟩:=List.mem_map.mp hv
    exact .inl ⟨x,rfl⟩
   ·simp only [List.mem_cons,List.not_mem_nil,or_false] at hv
    rcases hv with rfl | rfl | rfl | rfl | rfl | rfl | rfl | rfl | rfl
    ·exact .inl ⟨_,rfl⟩
    ·exact .inl ⟨_,rfl⟩
    ·exact .inl ⟨_,rfl⟩
    ·exact .inr ⟨.inl ⟨_,rfl⟩,fun _ z=>nomatch z⟩
    ·exact .inr ⟨.inl ⟨_,rfl⟩,fun _ z=>nomatch z⟩
    ·exact .inr ⟨.inr ⟨_,.str _,zjg _⟩,fun _ z=>nomatch z⟩
    ·exact .inr ⟨.inr ⟨_,.lst (s48 _ _ e24),zis _⟩,fun _ z=>nomatch z⟩
    ·exact .inr ⟨.inr ⟨_,.tup (s48 _ _ e34),zhm _⟩,fun _ z=>nomatch z⟩
    ·exact .inr ⟨.inr ⟨_,.dK (s48 _ _ e4),zir _⟩,fun _ z=>nomatch z⟩
  ·simp only [List.mem_cons,List.not_mem_nil,or_false] at hv
   rcases hv with rfl | rfl
   ·exact .inr ⟨.inr ⟨_,.non,zij _⟩,fun _ z=>nomatch z⟩
   ·exact .inl ⟨_,rfl⟩
end
local macro_rules | `(tactic| walk_at "fld") => `(tactic| exact fun _ h => h)
structure zl3 (K:PySem.W.Frag) (NE CA c0 c1 c2 c3 c4 c5 c6:Addr) (d:Int):Prop where
 ek:zyw K CA
 ex:PySem.W.excIn K CA bmV "ValueError.__new__" = true
 mr:zje K CA NE=true
 m0:PySem.W.kitOne K (.ref CA) (.ref c0)=some (decide ((0:Int)=d))
 m1:PySem.W.kitOne K (.ref CA) (.ref c1)=some (decide ((1:Int)=d))
 m2:PySem.W.kitOne K (.ref CA) (.ref c2)=some (decide ((2:Int)=d))
 m3:PySem.W.kitOne K (.ref CA) (.ref c3)=some (decide ((3:Int)=d))
 m4:PySem.W.kitOne K (.ref CA) (.ref c4)=some (decide ((4:Int)=d))
 m5:PySem.W.kitOne K (.ref CA) (.ref c5)=some (decide ((5:Int)=d))
 m6:PySem.W.kitOne K (.ref CA) (.ref c6)=some (decide ((6:Int)=d))
 mv:PySem.W.kitOne K (.ref CA) (.type "ValueError")=some true
def zdw (d:Int):List Bool:=[decide ((0:Int)=d),decide ((1:Int)=d),decide ((2:Int)=d),decide ((3:Int)=d),decide ((4:Int)=d),decide ((5:Int)=d),decide ((6:Int)=d),false]
def zwk (K:PySem.W.Frag) (NE c0 c1 c2 c3 c4 c5 c6:Addr):Sp:=fun vs H Q _=>∃ (e CA:Addr) (d:Int),vs=[.ref e]∧H e=some (zyx e (.ref CA))∧zl3 K NE CA c0 c1 c2 c3 c4 c5 c6 d∧∀ (l:Addr) (H':Hp),zbf H H'→H' l=some (.lst ((zdw d).map V.bl))→Q (.ref l) H'
section
variable {P:Program} {w:World} {K:PySem.W.Frag} {mg:Str→Option Value} {base:Heap}
theorem zi6:za3 ["_law_e","_law_some_here"] ["_law_e"] (zai (top 46)):=⟨rfl,rfl,rfl,by decide +kernel,rfl,by decide +kernel,by decide +kernel⟩
theorem zsr (T:Txt mg) {NE:Addr} (zdc:DfE K mg "NoSize") (za5:DfE K mg "NoName") (zao:DfE K mg "NoHouse") (zbw:DfE K mg "Taken") (zaz:DfE K mg "Silent") (zd6:DfE K mg "NoTown") (zeb:DfE K mg "NoLine") (D:Df K mg "_law_marks" (top 46) ["_law_e"]):zbe P w K mg base CX0 1 D.f D.fd ["_law_e"] (zwk K NE zdc.C za5.C zao.C zbw.C zaz.C zd6.C zeb.C):=by
 refine D.fn.ok zi6 (fun vs H Q E h=>?_) (fun cdv A outer s H vs Q E hr h=>?_)
 ·obtain ⟨e,CA,d,rfl,_⟩:=h
  rfl
 ·obtain ⟨e,CA,d,rfl,he,MK,k⟩:=h
  obtain ⟨ek,ex,mr,m0,m1,m2,m3,m4,m5,m6,mv⟩:=MK
  refine ⟨_,(zaq (zcp (i:=1) zi6.nd rfl (Or.inl rfl) (zc9 (zad (zb1 (zen (K:=K) rfl) rfl T.n_isinstance zb9 (zad (pv 0) (zad (zg2 (v:= .ref zdc.C) rfl zdc.hm rfl) zar))) (zad (zb1 (zen (K:=K) rfl) rfl T.n_isinstance zb9 (zad (pv 0) (zad (zg2 (v:= .ref za5.C) rfl za5.hm rfl) zar))) (zad (zb1 (zen (K:=K) rfl) rfl T.n_isinstance zb9 (zad (pv 0) (zad (zg2 (v:= .ref zao.C) rfl zao.hm rfl) zar))) (zad (zb1 (zen (K:=K) rfl) rfl T.n_isinstance zb9 (zad (pv 0) (zad (zg2 (v:= .ref zbw.C) rfl zbw.hm rfl) zar))) zar))))))
   (zaq (zcp (i:=1) zi6.nd rfl (Or.inl rfl) (zbt zfj (pv 1) (zc9 (zad (zb1 (zen (K:=K) rfl) rfl T.n_isinstance zb9 (zad (pv 0) (zad (zg2 (v:= .ref zaz.C) rfl zaz.hm rfl) zar))) (zad (zb1 (zen (K:=K) rfl) rfl T.n_isinstance zb9 (zad (pv 0) (zad (zg2 (v:= .ref zd6.C) rfl zd6.hm rfl) zar))) (zad (zb1 (zen (K:=K) rfl) rfl T.n_isinstance zb9 (zad (pv 0) (zad (zg2 (v:= .ref zeb.C) rfl zeb.hm rfl) zar))) zar))))))
   (zas (zbh (zbt zfj (pv 1) (zc9 (zad (zq5 (zb1 (zen (K:=K) rfl) rfl T.n_isinstance zb9 (zad (pv 0) (zad (zsp rfl T.n_ValueError zk8) zar)))) zar))))))),?_⟩
  walk_at "w"
  intro p1 hp1
  generalize hH1:upd H p1 _=H1
  have s1:zbf H H1:=by rw [← hH1]; exact zbf.new H hp1
  have e1:H1 p1=some (.lst [V.bl (decide ((0:Int)=d)),V.bl (decide ((1:Int)=d)),V.bl (decide ((2:Int)=d)),V.bl (decide ((3:Int)=d))]):=by rw [← hH1,zam]
  have he1:=s1 _ _ he
  clear hH1
  walk_at "w"
  intro p2 hp2
  generalize hH2:upd H1 p2 _=H2
  have s2:zbf H1 H2:=by rw [← hH2]; exact zbf.new H1 hp2
  have e2:H2 p2=some (.lst [V.bl (decide ((4:Int)=d)),V.bl (decide ((5:Int)=d)),V.bl (decide ((6:Int)=d))]):=by rw [← hH2,zam]
  have he2:=s2 _ _ he1
  have e12:=s2 _ _ e1
  clear hH2
  walk_at "w"
  intro p3 hp3
  generalize hH3:upd H2 p3 _=H3
  have s3:zbf H2 H3:=by rw [← hH3]; exact zbf.new H2 hp3
  have e3:H3 p3=some (.lst [V.bl (decide ((0:Int)=d)),V.bl (decide ((1:Int)=d)),V.bl (decide ((2:Int)=d)),V.bl (decide ((3:Int)=d)),V.bl (decide ((4:Int)=d)),V.bl (decide ((5:Int)=d)),V.bl (decide ((6:Int)=d))]):=by rw [← hH3,zam]; rfl
  have he3:=s3 _ _ he2
  clear hH3
  walk_at "w"
  intro p4 hp4
  generalize hH4:upd H3 p4 _=H4
  have s4:zbf H3 H4:=by rw [← hH4]; exact zbf.new H3 hp4
  have e4:H4 p4=some (.lst [V.bl false]):=by rw [← hH4,zam]; rfl
  have e34:=s4 _ _ e3
  clear hH4
  walk_at "w"
  intro p5 hp5
  exact k p5 _ (((s1.trans s2).trans (s3.trans s4)).lay hp5) zam
end
def zyq (K:PySem.W.Frag) (CB CT CW:Addr) (cl:Int→Addr):Sp:=fun vs H _ E=>∃ (w td sd:Addr) (z r:Int) (hs sil:List Int) (T:Int→zdz) (kind:Int) (v1 v2:V),vs=[.ref w,.int kind,v1,v2]∧za9 CB CT CW H w td sd z r hs sil T∧zd5 K H v1∧zd5 K H v2∧0≤kind∧kind≤8∧0≤zdt z hs sil kind v1 v2∧(0<kind∨v2≠ .non∨zdt z hs sil kind v1 v2<2∨zdt z hs sil kind v1 v2=3)∧E (.ref (cl (zdt z hs sil kind v1 v2))) none H
def zqd (K:PySem.W.Frag) (CB CT CW:Addr):Sp:=fun vs H Q _=>∃ (w td sd:Addr) (z r:Int) (hs sil:List Int) (T:Int→zdz) (kind:Int) (v1 v2:V),vs=[.ref w,.int kind,v1,v2]∧za9 CB CT CW H w td sd z r hs sil T∧zd5 K H v1∧zd5 K H v2∧0≤kind∧kind≤8∧0≤zdt z hs sil kind v1 v2∧(0<kind∨v2≠ .non∨zdt z hs sil kind v1 v2<2∨zdt z hs sil kind v1 v2=3) ∧
 ∀ (l:Addr) (H':Hp),zbf H H'→H' l=some (.lst ((zdw (zdt z hs sil kind v1 v2)).map V.bl))→Q (.ref l) H'
theorem zun {z:Int} {hs sil:List Int} {kind:Int} {v1 v2:V} (h0:0≤kind) (h8:kind≤8) (h:0≤zdt z hs sil kind v1 v2):zdt z hs sil kind v1 v2=1∨zdt z hs sil kind v1 v2=2∨zdt z hs sil kind v1 v2=3∨zdt z hs sil kind v1 v2=4:=by
 have c:kind=0∨kind=3∨(kind=4∨kind=5∨kind=6)∨(kind=1∨kind=2∨kind=7∨kind=8):=by omega
 rcases c with rfl | rfl | c | c
 ·unfold zdt at h ⊢
  rw [if_pos rfl] at h ⊢
  split at h
  ·rename_i e1
   rw [if_pos e1]
   split at h
   ·rename_i e2
    rw [if_pos e2]
    exact .inr (.inr (.inl rfl))
   ·rename_i e2
    rw [if_neg e2]
    rcases znf h with ⟨_,b⟩ | ⟨_,_,_,b⟩
    ·exact .inr (.inl b)
    ·exact .inr (.inr (.inr b))
  ·rename_i e1
   rw [if_neg e1]
   exact .inl rfl
 ·rcases zph h with ⟨_,e⟩ | ⟨_,_,e⟩ | ⟨_,_,⟨_,e⟩ | ⟨_,_,e⟩⟩
  ·exact .inr (.inl e)
  ·exact .inr (.inr (.inl e))
  ·exact .inr (.inl e)
  ·exact .inr (.inr (.inr e))
 ·rcases zlt c h with ⟨_,e⟩ | ⟨_,_,e⟩ | ⟨_,_,_,_,e⟩
  ·exact .inr (.inl e)
  ·exact .inr (.inr (.inr e))
  ·exact .inl e
 ·exact .inr (.inl (zf_ c h).2)
section
variable {P:Program} {w:World} {K:PySem.W.Frag} {mg:Str→Option Value} {base:Heap}
theorem zsx:za3 ["_law_town","_law_kind","_law_house","_law_other"] ["_law_town","_law_kind","_law_house","_law_other"] (zai (top 47)):=⟨rfl,rfl,rfl,by decide +kernel,rfl,by decide +kernel,by decide +kernel⟩
theorem zt2 (T:Txt mg) {CB CT:Addr} (za5:DfE K mg "NoName") (zao:DfE K mg "NoHouse") (zaz:DfE K mg "Silent") (zbw:DfE K mg "Taken") (zah:Df K mg "is_whole" (top 11) ["thing"]) (zan:Df K mg "is_name" (top 12) ["thing","wide"]) (zab:DfC K mg "Town" ["wide","room","tables","silent"]) (zag:DfM K zab.C "answers" "Town.answers" (zaa (top 31) 3) ["self","name"]) (zae:DfM K zab.C "is_house" "Town.is_house" (zaa (top 31) 4) ["self","thing"]) (za8:DfM K zab.C "bucket" "Town.bucket" (zaa (top 31) 5) ["self","house","k"]) (zbc:DfM K zab.C "keeps" "Town.keeps" (zaa (top 31) 6) ["self","house"]) (za2:DfM K zab.C "come_to" "Town.come_to" (zaa (top 31) 8) ["self","house"]) (zcu:DfM K zab.C "ask" "Town.ask" (zaa (top 31) 9) ["self","start","goal"]) (zcv:DfM K zab.C "way" "Town.way" (zaa (top 31) 10) ["self","start","goal"]) (zbs:ztg K zab.C "come" "Town.come" (zaa (top 31) 11) ["self","name","door"] [Value.none]) (zc8:DfM K zab.C "go" "Town.go" (zaa (top 31) 12) ["self","house"]) (zbv:DfM K zab.C "hush" "Town.hush" (zaa (top 31) 13) ["self","house"]) (zcl:DfM K zab.C "wake" "Town.wake" (zaa (top 31) 14) ["self","house","door"]) (zau:DfM K zab.C "check_name" "Town.check_name" (zaa (top 31) 15) ["self","thing"]) (zac:DfM K zab.C "check_house" "Town.check_house" (zaa (top 31) 16) ["self","thing"]) (zaf:DfM K zab.C "check_answering" "Town.check_answering" (zaa (top 31) 17) ["self","thing"]) (D:Df K mg "_law_done" (top 47) ["_law_town","_law_kind","_law_house","_law_other"]) :
    zbe P w K mg base (CXR P w) 7 D.f D.fd ["_law_town","_law_kind","_law_house","_law_other"] (zyq K CB CT zab.C (zpe za5.C zao.C zbw.C zaz.C)):=by
  have hcl:=zab.cl
  have zmu:zbe P w K mg base (CXR P w) 6 _ _ _ _:=zui (CB:=CB) (CT:=CT) T za5 zao zaz zbw zah zan zab zae zag zau zac zaf zbs
  have zmg:zbe P w K mg base (CXR P w) 6 _ _ _ _:=zuf (CB:=CB) (CT:=CT) (a:=za5.C) T zao zaz zbw zah zan zab zae zag zac zaf zcl
  have zql:zbe P w K mg base (CXR P w) 5 _ _ _ _:=zyr (CB:=CB) (CT:=CT) (a:=za5.C) (c:=zbw.C) (d:=zaz.C) T zao zah zan zab zae zac zc8
  have zl7:zbe P w K mg base (CXR P w) 5 _ _ _ _:=ztj (CB:=CB) (CT:=CT) (a:=za5.C) (c:=zbw.C) (d:=zaz.C) T zao zah zan zab zae zac zbv
  have zj8:zbe P w K mg base (CXR P w) 5 _ _ _ _:=zp1 (CB:=CB) (CT:=CT) (a:=za5.C) (c:=zbw.C) (d:=zaz.C) T zao zah zan zab zae zac za8
  have zk0:zbe P w K mg base (CXR P w) 5 _ _ _ _:=zr5 (CB:=CB) (CT:=CT) (a:=za5.C) (c:=zbw.C) (d:=zaz.C) T zao zah zan zab zae zac zbc
  have zjx:zbe P w K mg base (CXR P w) 6 _ _ _ _:=zoj (CB:=CB) (CT:=CT) (a:=za5.C) (c:=zbw.C) T zao zaz zah zan zab zae zag zac zaf za2
  have zoa:zbe P w K mg base (CXR P w) 6 _ _ _ _:=zvv (CB:=CB) (CT:=CT) (c:=zbw.C) T za5 zao zaz zah zan zab zae zag zau zac zaf zcu
  have znq:zbe P w K mg base (CXR P w) 6 _ _ _ _:=zvf (CB:=CB) (CT:=CT) (c:=zbw.C) T za5 zao zaz zah zan zab zae zag zau zac zaf zcv
  refine D.fn.okX zsx (fun vs H Q E h=>?_) (fun cdv A outer s H vs Q E hr h=>?_)
  · obtain ⟨w,td,sd,z,r,hs,sil,TT,kind,v1,v2,rfl,_⟩:=h
    rfl
  · obtain ⟨w,td,sd,z,r,hs,sil,TT,kind,v1,v2,rfl,hW,hk1,hk2,h0,h8,hd,hg,k⟩:=h
    obtain ⟨⟨dx,hob⟩,htb,hsi,-⟩:=id hW
    refine ⟨_,(zas (zcq (zbk zgf (pv 1) zaw (zb8 _))
       (zas (zbj (zce (Th:=fun _=>E) (pv 0) zab.cl zbs.me zmu (hr.mono (by decide)) zbs.b .nil (fun _ _ _ _ _ _ I R=>zcx I R) (zad (pv 2) (zad (pv 3) zar)))))
       (zas (zcq (zbk zgf (pv 1) zaw (zb8 _))
         (zas (zbj (zce (Th:=fun _=>E) (pv 0) zab.cl zc8.me zql (hr.mono (by decide)) zc8.b .nil (fun _ _ _ _ _ _ I R=>zcx I R) (zad (pv 2) zar))))
         (zas (zcq (zbk zgf (pv 1) zaw (zb8 _))
           (zas (zbj (zce (Th:=fun _=>E) (pv 0) zab.cl zbv.me zl7 (hr.mono (by decide)) zbv.b .nil (fun _ _ _ _ _ _ I R=>zcx I R) (zad (pv 2) zar))))
           (zas (zcq (zbk zgf (pv 1) zaw (zb8 _))
             (zas (zbj (zce (Th:=fun _=>E) (pv 0) zab.cl zcl.me zmg (hr.mono (by decide)) zcl.b .nil (fun _ _ _ _ _ _ I R=>zcx I R) (zad (pv 2) (zad (pv 3) zar)))))
             (zas (zcq (zbk zgf (pv 1) zaw (zb8 _))
               (zas (zbj (zce (Th:=fun _=>E) (pv 0) zab.cl za2.me zjx (hr.mono (by decide)) za2.b .nil (fun _ _ _ _ _ _ I R=>zcx I R) (zad (pv 2) zar))))
               (zas (zcq (zbk zgf (pv 1) zaw (zb8 _))
                 (zas (zbj (zce (Th:=fun _=>E) (pv 0) zab.cl zcu.me zoa (hr.mono (by decide)) zcu.b .nil (fun _ _ _ _ _ _ I R=>zcx I R) (zad (pv 2) (zad (pv 3) zar)))))
                 (zas (zcq (zbk zgf (pv 1) zaw (zb8 _))
                   (zas (zbj (zce (Th:=fun _=>E) (pv 0) zab.cl zcv.me znq (hr.mono (by decide)) zcv.b .nil (fun _ _ _ _ _ _ I R=>zcx I R) (zad (pv 2) (zad (pv 3) zar)))))
                   (zas (zcq (zbk zgf (pv 1) zaw (zb8 _))
                     (zas (zbj (zce (Th:=fun _=>E) (pv 0) zab.cl za8.me zj8 (hr.mono (by decide)) za8.b .nil (fun _ _ _ _ _ _ I R=>zcx I R) (zad (pv 2) (zad zaw zar)))))
                     (zas (zbj (zce (Th:=fun _=>E) (pv 0) zab.cl zbc.me zk0 (hr.mono (by decide)) zbc.b .nil (fun _ _ _ _ _ _ I R=>zcx I R) (zad (pv 2) zar)))))))))))))))))))),?_⟩
    have c:kind=0∨kind=1∨kind=2∨kind=3∨kind=4∨kind=5∨kind=6∨kind=7∨kind=8:=by omega
    rcases c with rfl | rfl | rfl | rfl | rfl | rfl | rfl | rfl | rfl
    all_goals walk_at "w"
theorem zfp:za3 ["_law_town","_law_kind","_law_house","_law_other","_law_caught","_law_e"] ["_law_town","_law_kind","_law_house","_law_other"] (zai (top 48)):=⟨rfl,rfl,rfl,by decide +kernel,rfl,by decide +kernel,by decide +kernel⟩
theorem zn7 (T:Txt mg) {CB CT:Addr} (zdq:DfE K mg "NearError") (zdc:DfE K mg "NoSize") (za5:DfE K mg "NoName") (zao:DfE K mg "NoHouse") (zaz:DfE K mg "Silent") (zbw:DfE K mg "Taken") (zd6:DfE K mg "NoTown") (zeb:DfE K mg "NoLine")
    (MK:∀ d:Int,(d=1∨d=2∨d=3∨d=4)→zl3 K zdq.C (zpe za5.C zao.C zbw.C zaz.C d) zdc.C za5.C zao.C zbw.C zaz.C zd6.C zeb.C d) (zah:Df K mg "is_whole" (top 11) ["thing"]) (zan:Df K mg "is_name" (top 12) ["thing","wide"]) (zab:DfC K mg "Town" ["wide","room","tables","silent"]) (zag:DfM K zab.C "answers" "Town.answers" (zaa (top 31) 3) ["self","name"]) (zae:DfM K zab.C "is_house" "Town.is_house" (zaa (top 31) 4) ["self","thing"]) (za8:DfM K zab.C "bucket" "Town.bucket" (zaa (top 31) 5) ["self","house","k"]) (zbc:DfM K zab.C "keeps" "Town.keeps" (zaa (top 31) 6) ["self","house"]) (za2:DfM K zab.C "come_to" "Town.come_to" (zaa (top 31) 8) ["self","house"]) (zcu:DfM K zab.C "ask" "Town.ask" (zaa (top 31) 9) ["self","start","goal"]) (zcv:DfM K zab.C "way" "Town.way" (zaa (top 31) 10) ["self","start","goal"]) (zbs:ztg K zab.C "come" "Town.come" (zaa (top 31) 11) ["self","name","door"] [Value.none]) (zc8:DfM K zab.C "go" "Town.go" (zaa (top 31) 12) ["self","house"]) (zbv:DfM K zab.C "hush" "Town.hush" (zaa (top 31) 13) ["self","house"]) (zcl:DfM K zab.C "wake" "Town.wake" (zaa (top 31) 14) ["self","house","door"]) (zau:DfM K zab.C "check_name" "Town.check_name" (zaa (top 31) 15) ["self","thing"]) (zac:DfM K zab.C "check_house" "Town.check_house" (zaa (top 31) 16) ["self","thing"]) (zaf:DfM K zab.C "check_answering" "Town.check_answering" (zaa (top 31) 17) ["self","thing"]) (zda:Df K mg "_law_marks" (top 46) ["_law_e"]) (zdl:Df K mg "_law_done" (top 47) ["_law_town","_law_kind","_law_house","_law_other"]) (D:Df K mg "_law_refused" (top 48) ["_law_town","_law_kind","_law_house","_law_other"]) :
    zbe P w K mg base CX0 8 D.f D.fd ["_law_town","_law_kind","_law_house","_law_other"] (zqd K CB CT zab.C):=by
  have zmi:zbe P w K mg base CX0 1 _ _ _ _:=zsr (NE:=zdq.C) T zdc za5 zao zbw zaz zd6 zeb zda
  have zou:zbe P w K mg base (CXR P w) 7 _ _ _ _:=zt2 (CB:=CB) (CT:=CT) T za5 zao zaz zbw zah zan zab zag zae za8 zbc za2 zcu zcv zbs zc8 zbv zcl zau zac zaf zdl
  refine D.fn.ok zfp (fun vs H Q E h=>?_) (fun cdv A outer s H vs Q E hr h=>?_)
  · obtain ⟨w,td,sd,z,r,hs,sil,TT,kind,v1,v2,rfl,_⟩:=h
    rfl
  · obtain ⟨w,td,sd,z,r,hs,sil,TT,kind,v1,v2,rfl,hW,hk1,hk2,h0,h8,hd,hg,k⟩:=h
    have MK1:=MK _ (zun h0 h8 hd)
    generalize hC:zpe za5.C zao.C zbw.C zaz.C (zdt z hs sil kind v1 v2)=CA at MK1
    let Th:St→Value→Hp→Prop:=fun σ C H'=>C = .ref CA∧H'=H∧σ=[some (.ref w),some (.int kind),some v1,some v2,some .non,none]
    refine ⟨_,(zaq (zcp (i:=4) zfp.nd rfl (Or.inl rfl) zht)
      (zaq (zyl (Th:=Th) (i:=5) zdq rfl rfl rfl rfl zfp.nd rfl rfl
       (fun pins E' hE=>(zas (zbj (zt9 (Th:=fun σ C _ H'=>Th σ C H') zou (hr.mono (by decide)) rfl zdl.hm zdl.fn.kp zdl.b .nil hE (zad (pv 0) (zad (pv 1) (zad (pv 2) (zad (pv 3) zar))))))))
       (fun _=>(zas (zcp (i:=4) zfp.nd rfl (Or.inl rfl) (pv 5)))))
      (zaq (zcq (zbk zr0 (pv 4) zht (zb8 _))
       (zas (zbh (zc9 zar)))
       zbo)
      (zas (zbh (zbn zmi (hr.mono (by decide)) rfl zda.hm zda.fn.kp zda.b .nil zbm (zad (pv 4) zar))))))),?_⟩
    walk_at "w"
    refine And.intro ?_ (fun σ' C H' hTh=>?_)
    · walk_at "w"
      exact ⟨by rw [hC],rfl,rfl⟩
    · obtain ⟨rfl,rfl,rfl⟩:=hTh
      refine ⟨CA,rfl,MK1.ex,MK1.mr,fun e he=>?_⟩
      walk_at "w"
      exact fun l H2 s2 hl=>k l H2 ((zbf.new _ he).trans s2) hl
end
theorem zo6 (ss:List Int) (a b:Nat):∃ ts:List Int,zjv (ss.map V.int) (some (a:Int)) (some (b:Int))=ts.map V.int∧ts.length≤b - a:=by
 unfold zjv
 rw [HT.sIx_nat,HT.sIx_nat]
 refine ⟨(ss.drop _).take _,by rw [← List.map_drop,← List.map_take],?_⟩
 rw [List.length_take]
 omega
theorem zs5 {h x:Int} {l:List Int} (hx:x∈zta h l):x∈l∨x=h:=by
 unfold zta at hx
 split at hx
 ·exact .inl hx
 ·exact (List.mem_append.mp hx).elim .inl fun y=> .inr (List.mem_singleton.mp y)
theorem zp9 {h:Int} {l:List Int} (hn:l.Nodup):(zta h l).Nodup:=by
 unfold zta
 split
 ·exact hn
 ·rename_i e
  exact zdg hn e
def zhp (K:PySem.W.Frag) (H:Hp) (O:Addr→Prop) (a:Addr) (xs:List V):Prop:=(H a=some (.lst xs)∧¬ O a)∨(∃ o,H a=some (.frz o (.lst xs)))∨(∃ (o:Obj) (its:Array Value) (n:Nat),K.lookup a=some o∧o.cls = .type "list" ∧o.dict=none∧o.data = .seq its n∧its.size≤sizeLine∧zc2 xs its.toList)
def zfw (H H':Hp):Prop:=∀ q x k,H q=some (.frz x k)→H' q=some (.frz x k)
theorem zhp.seq {K:PySem.W.Frag} {H:Hp} {O:Addr→Prop} {a:Addr} {xs:List V} (h:zhp K H O a xs):SqL K H a xs:=by
 rcases h with ⟨h,_⟩ | h | h
 ·exact .inl (.inl h)
 ·exact .inl (.inr h)
 ·exact .inr h
theorem zhp.of {K:PySem.W.Frag} {H:Hp} {O:Addr→Prop} {a:Addr} {xs:List V} (h:SqL K H a xs) (n:∀ o,H a=some o→¬ O a):zhp K H O a xs:=by
 rcases h with (h | h) | h
 ·exact .inl ⟨h,n _ h⟩
 ·exact .inr (.inl h)
 ·exact .inr (.inr h)
theorem zhp.step {K:PySem.W.Frag} {H H':Hp} {O O':Addr→Prop} {a:Addr} {xs:List V} (h:zhp K H O a xs) (l:zff H H' O O') (f:zfw H H'):zhp K H' O' a xs:=by
 rcases h with ⟨h,n⟩ | ⟨o,h⟩ | h
 ·exact .inl (l _ _ h n)
 ·exact .inr (.inl ⟨o,f _ _ _ h⟩)
 ·exact .inr (.inr h)
theorem zfw.same {H H':Hp} (s:zbf H H'):zfw H H':=fun q x k e=>s _ _ e
theorem zfw.trans {H H1 H2:Hp} (a:zfw H H1) (b:zfw H1 H2):zfw H H2:=fun q x k e=>b _ _ _ (a _ _ _ e)
theorem zfw.mdl {md:Addr} {H H':Hp} {F F':Addr→Prop} (d:zec md H H' F F'):zfw H H':=fun q x k e=>d.k _ _ e (fun _ z=>nomatch z)
theorem zfw.deed {CB CT CW w td sd T3:Addr} {H H':Hp} {z r:Int} {hs sil:List Int} {T:Int→zdz} {O':Addr→Prop} (W:za9 CB CT CW H w td sd z r hs sil T) (d:zgx T3 H H' (Own td sd z.toNat hs T) O'):zfw H H':=fun q x k e=>d.k q _ (fun _ z=>nomatch z) e (W.kind e)
theorem zqy {K:PySem.W.Frag} {H:Hp}:∀ bs:List Bool,DVs K H (bs.map PyData.bool) (bs.map V.bl)
  | []=>by unfold DVs; rfl
  | n :: r=>by
    unfold DVs
    exact ⟨_,_,rfl,by unfold DV; rfl,zqy r⟩
theorem zsa {K:PySem.W.Frag} {H:Hp} {Q:VK} {a b:Addr} (d:Int) (hd:d=1∨d=2∨d=3∨d=4) (h1:H a=some (.lst ((zdw d).map V.bl))) (h2:H b=some (.lst ((zdw d).map V.bl))) (q:Q (.bl false) H):zyv K true (.ref a) (.ref b) H Q:=by
 have dv:∀ {c:Addr},H c=some (.lst ((zdw d).map V.bl))→DV K H (.list ((zdw d).map PyData.bool)) (.ref c):=fun {c} h=>by
  unfold DV
  exact ⟨c,_,rfl,SqL.of h,zqy _⟩
 refine ⟨_,_,dv h1,dv h2,?_⟩
 have e1:PyData.eqv (.list ((zdw 1).map PyData.bool)) (.list ((zdw 1).map PyData.bool))=true:=by decide +kernel
 have e2:PyData.eqv (.list ((zdw 2).map PyData.bool)) (.list ((zdw 2).map PyData.bool))=true:=by decide +kernel
 have e3:PyData.eqv (.list ((zdw 3).map PyData.bool)) (.list ((zdw 3).map PyData.bool))=true:=by decide +kernel
 have e4:PyData.eqv (.list ((zdw 4).map PyData.bool)) (.list ((zdw 4).map PyData.bool))=true:=by decide +kernel
 rcases hd with rfl | rfl | rfl | rfl
 all_goals
  refine ⟨by decide +kernel,by decide +kernel,by decide +kernel,?_⟩
  first | rw [e1] | rw [e2] | rw [e3] | rw [e4]
  exact q
theorem or4 {t1 t2 t3 t4:TT} {σ:St} {H:Hp} {Kc:Bool→Hp→Prop} (b1 b2 b3 b4:Bool) (h1:∀ Q:Bool→Hp→Prop,Q b1 H→t1 σ H Q) (h2:∀ Q:Bool→Hp→Prop,Q b2 H→t2 σ H Q) (h3:∀ Q:Bool→Hp→Prop,Q b3 H→t3 σ H Q) (h4:∀ Q:Bool→Hp→Prop,Q b4 H→t4 σ H Q) (h:Kc (b1 || b2 || b3 || b4) H):tOr t1 (tOr t2 (tOr t3 t4)) σ H Kc:=by
  cases b1 with
  | true=>exact h1 _ (zxu h)
  | false =>
    refine h1 _ (zw4 ?_)
    cases b2 with
    | true=>exact h2 _ (zxu h)
    | false =>
      refine h2 _ (zw4 ?_)
      cases b3 with
      | true=>exact h3 _ (zxu h)
      | false=>exact h3 _ (zw4 (h4 _ h))
theorem zp0 {d:Int} (hd:d=1∨d=2∨d=3∨d=4) {j:Nat} (hj:j<8):(zdw d).take (j+1)=(zdw d).take j++[decide (V.int (0+(j:Int))=V.int d)]:=by
 have c:j=0∨j=1∨j=2∨j=3∨j=4∨j=5∨j=6∨j=7:=by omega
 rcases hd with rfl | rfl | rfl | rfl <;> rcases c with rfl | rfl | rfl | rfl | rfl | rfl | rfl | rfl <;> decide +kernel
def zoy (K:PySem.W.Frag) (tabs:List (Addr × Addr)):Sp:=fun vs H Q _=>∃ (a:Addr) (ns:List Int),vs=[.ref a]∧SqL K H a (ns.map V.int)∧ns.length≤63∧(∀ q∈tabs,H q.2=some (.tbl #[]))∧∀ H',Q (.bl true) H'
section
variable {P:Program} {w:World} {K:PySem.W.Frag} {mg:Str→Option Value} {base:Heap}
theorem ze5:za3 ["_law_script","_law_wide_here","_law_room","_law_model","_law_town","_law_cell","_law_name_here","_law_door","_law_kind","_law_house","_law_other","_law_due_here"] ["_law_script"] (zai (top 53)):=⟨rfl,rfl,rfl,by decide +kernel,rfl,by decide +kernel,by decide +kernel⟩
theorem zxc (T:Txt mg) (hK:K.In base) (zdq:DfE K mg "NearError") (zdc:DfE K mg "NoSize") (za5:DfE K mg "NoName") (zao:DfE K mg "NoHouse") (zaz:DfE K mg "Silent") (zbw:DfE K mg "Taken") (zd6:DfE K mg "NoTown") (zeb:DfE K mg "NoLine")
    (MK:∀ d:Int,(d=1∨d=2∨d=3∨d=4)→zl3 K zdq.C (zpe za5.C zao.C zbw.C zaz.C d) zdc.C za5.C zao.C zbw.C zaz.C zd6.C zeb.C d)
    (zah:Df K mg "is_whole" (top 11) ["thing"]) (zan:Df K mg "is_name" (top 12) ["thing","wide"]) (zfm:Df K mg "far" (top 13) ["one","other"]) (zeg:Df K mg "step" (top 16) ["one","other"]) (zaj:DfC K mg "Bucket" ["room","order"]) (zbg:DfM K zaj.C "__init__" "Bucket.__init__" (zaa (top 26) 0) ["self","room"]) (zax:DfM K zaj.C "names" "Bucket.names" (zaa (top 26) 4) ["self"]) (zav:DfM K zaj.C "hears_when_full" "Bucket.hears_when_full" (zaa (top 26) 2) ["self","name","answers"]) (za_:DfM K zaj.C "hears" "Bucket.hears" (zaa (top 26) 1) ["self","name","answers"]) (zat:DfC K mg "Table" ["own","wide","room","buckets"]) (zb0:DfM K zat.C "__init__" "Table.__init__" (zaa (top 28) 0) ["self","own","wide","room"]) (zb3:DfM K zat.C "bucket" "Table.bucket" (zaa (top 28) 4) ["self","k"]) (za7:DfM K zat.C "keeps" "Table.keeps" (zaa (top 28) 5) ["self"]) (za1:DfM K zat.C "bucket_of" "Table.bucket_of" (zaa (top 28) 3) ["self","name"]) (zbl:DfM K zat.C "hears" "Table.hears" (zaa (top 28) 1) ["self","name","answers"]) (zdr:Df K mg "is_size" (top 30) ["thing","most"])
    (zab:DfC K mg "Town" ["wide","room","tables","silent"]) (zcd:DfM K zab.C "__init__" "Town.__init__" (zaa (top 31) 0) ["self","wide","room"]) (zbr:DfM K zab.C "houses" "Town.houses" (zaa (top 31) 1) ["self"]) (zbz:DfM K zab.C "answering" "Town.answering" (zaa (top 31) 2) ["self"]) (zag:DfM K zab.C "answers" "Town.answers" (zaa (top 31) 3) ["self","name"]) (zae:DfM K zab.C "is_house" "Town.is_house" (zaa (top 31) 4) ["self","thing"]) (za8:DfM K zab.C "bucket" "Town.bucket" (zaa (top 31) 5) ["self","house","k"]) (zbc:DfM K zab.C "keeps" "Town.keeps" (zaa (top 31) 6) ["self","house"]) (za2:DfM K zab.C "come_to" "Town.come_to" (zaa (top 31) 8) ["self","house"]) (zcu:DfM K zab.C "ask" "Town.ask" (zaa (top 31) 9) ["self","start","goal"]) (zcv:DfM K zab.C "way" "Town.way" (zaa (top 31) 10) ["self","start","goal"]) (zbs:ztg K zab.C "come" "Town.come" (zaa (top 31) 11) ["self","name","door"] [Value.none]) (zc8:DfM K zab.C "go" "Town.go" (zaa (top 31) 12) ["self","house"]) (zbv:DfM K zab.C "hush" "Town.hush" (zaa (top 31) 13) ["self","house"]) (zcl:DfM K zab.C "wake" "Town.wake" (zaa (top 31) 14) ["self","house","door"]) (zau:DfM K zab.C "check_name" "Town.check_name" (zaa (top 31) 15) ["self","thing"]) (zac:DfM K zab.C "check_house" "Town.check_house" (zaa (top 31) 16) ["self","thing"]) (zaf:DfM K zab.C "check_answering" "Town.check_answering" (zaa (top 31) 17) ["self","thing"]) (zc4:DfM K zab.C "settles" "Town.settles" (zaa (top 31) 19) ["self","house","visited"]) (zcf:DfM K zab.C "visits" "Town.visits" (zaa (top 31) 23) ["self","house","door"]) (zcm:DfM K zab.C "meet" "Town.meet" (zaa (top 31) 24) ["self","one","other"]) (zak:zu1 K zab.C "hears_of" "Town.hears_of" (zaa (top 31) 25) ["self","house","name"]) (hB:base.BuiltinsAt mg zak.P)
    (zbp:Df K mg "_law_mixed" (top 33) ["_law_cell","_law_k"]) (zdm:Df K mg "_law_wide" (top 34) ["_law_cell"]) (zdo:Df K mg "_law_near" (top 35) ["_law_signs","_law_wide_here","_law_first"]) (zbb:Df K mg "_law_awake" (top 36) ["_law_model","_law_name_here"]) (zcb:Df K mg "_law_hears" (top 37) ["_law_model","_law_house","_law_name_here"]) (zbq:Df K mg "_law_keeps" (top 38) ["_law_model","_law_house"]) (zcc:Df K mg "_law_come_to" (top 39) ["_law_model","_law_house"]) (zc_:Df K mg "_law_visit" (top 40) ["_law_model","_law_house","_law_door"]) (zeh:Df K mg "_law_come" (top 41) ["_law_model","_law_name_here","_law_door"]) (zcz:Df K mg "_law_alike" (top 42) ["_law_town","_law_model"]) (ze2:Df K mg "_law_set" (top 43) ["_law_script"]) (zej:Df K mg "_law_some" (top 44) ["_law_model","_law_cell"]) (zei:Df K mg "_law_name" (top 45) ["_law_model","_law_wide_here","_law_cell"]) (zda:Df K mg "_law_marks" (top 46) ["_law_e"]) (zdl:Df K mg "_law_done" (top 47) ["_law_town","_law_kind","_law_house","_law_other"]) (zdh:Df K mg "_law_refused" (top 48) ["_law_town","_law_kind","_law_house","_law_other"]) (za6:Df K mg "_law_is_name" (top 49) ["_law_thing_here","_law_wide_here"]) (zba:Df K mg "_law_of_house" (top 50) ["_law_model","_law_wide_here","_law_house","_law_awake_here"]) (ze0:Df K mg "_law_due" (top 51) ["_law_model","_law_wide_here","_law_kind","_law_house","_law_other"]) (zc1:Df K mg "_law_thing" (top 52) ["_law_model","_law_wide_here","_law_cell"]) (D:Df K mg "law" (top 53) ["_law_script"])
    {tabs:List (Addr × Addr)} (ht0:(zak.c,zak.P)∈tabs) :
    zbe P w K mg base CX0 13 D.f D.fd ["_law_script"] (zoy K tabs):=by
  have hcl:=zab.cl
  have zi8:zbe P w K mg base CX0 3 _ _ _ _:=zmo (CB:=zaj.C) (CT:=zat.C) T zdc zah zdr zab zcd
  have zny:zbe P w K mg base CX0 12 _ _ _ _:=zml T hK za5 zao zaz zbw zfm zeg zah zan zaj zbg zax zav za_ zat zb0 za7 za1 zbl zab zae zag zau zac zaf za2 zak hB zcm zc4 zcf zbs
  have zoi:zbe P w K mg base CX0 5 _ _ _ _:=zm3 (CB:=zaj.C) (CT:=zat.C) T zao zah zan zab zae zac zbv
  have zb2:zbe P w K mg base CX0 4 _ _ _ _:=zcy (CB:=zaj.C) (CT:=zat.C) T zah zan zab zae zag
  have zer:zbe P w K mg base CX0 1 _ _ _ _:=zmz zbp
  have zem:zbe P w K mg base CX0 1 _ _ _ _:=zjq zbb
  have zn4:zbe P w K mg base CX0 4 _ _ _ _:=zt5 T zbb zbq zcb zcc zc_ zeh
  have znv:zbe P w K mg base CX0 1 _ _ _ _:=zt7 T zej
  have znu:zbe P w K mg base CX0 2 _ _ _ _:=zt_ T zbp zdo zei
  have zin:zbe P w K mg base CX0 6 _ _ _ _:=zr4 T zao zah zan zaj zax zat zb3 za7 zab zae zag zac zbr zbz za8 zbc zbq zcz
  have zqn:zbe P w K mg base CX0 2 _ _ _ _:=zvu T zdm ze2
  have zdf:zbe P w K mg base CX0 1 _ _ _ _:=zg3 T za6
  have zp2:zbe P w K mg base CX0 3 _ _ _ _:=zwu T za6 zba ze0
  have zid:zbe P w K mg base CX0 1 _ _ _ _:=zq7 T zc1
  have zkk:zbe P w K mg base CX0 8 _ _ _ _:=zn7 (CB:=zaj.C) (CT:=zat.C) T zdq zdc za5 zao zaz zbw zd6 zeb MK zah zan zab zag zae za8 zbc za2 zcu zcv zbs zc8 zbv zcl zau zac zaf zda zdl zdh
  refine D.fn.ok ze5 (fun vs H Q E h=>?_) (fun cdv A outer s H vs Q E hr h=>?_)
  · obtain ⟨a,ns,rfl,_⟩:=h
    rfl
  · obtain ⟨a,ss,rfl,hS,hlen,hT,k⟩:=h
    refine ⟨_,(zaq (zxz (zbn zqn (hr.mono (by decide)) rfl ze2.hm ze2.fn.kp ze2.b .nil zbm (zad (pv 0) zar)) (zxw (n:=3) rfl (zlu (zcw (i:=1) ze5.nd rfl (Or.inl rfl)) (zlu (zcw (i:=2) ze5.nd rfl (Or.inl rfl)) (zlu (zcw (i:=3) ze5.nd rfl (Or.inl rfl)) zvp)))))
      (zaq (zcp (i:=4) ze5.nd rfl (Or.inl rfl) (zoo (DfM.mk' zab zcd) zi8 (hr.mono (by decide)) rfl zab.hm zcd.b .nil zbm (zad (pv 1) (zad (pv 2) zar))))
      (zaq (zf4 PassesOwn.never rfl (zee (zbt zfj (zc9 (zad zaw (zad zaw (zad zaw zar)))) (zez zfn (pv 0) (ze_ zaw) (ze_ zaw)))) (zcw (i:=5) ze5.nd rfl (Or.inl rfl))
       (zaq (zcp (i:=5) ze5.nd rfl (Or.inl rfl) (zbt zdp (pv 5) (zbt zo0 zaw zaw)))
        (zaq (zcp (i:=6) ze5.nd rfl (Or.inl rfl) (zbn znu (hr.mono (by decide)) rfl zei.hm zei.fn.kp zei.b .nil zbm (zad (pv 3) (zad (pv 1) (zad (zbt zd3 (pv 5) zaw) zar)))))
        (zas (zcq (zie (zeq (zcj hr) (pv 6) (zby (zcj hr) (pv 3) zb6 (fun _ _=>rfl))))
         (zaq (zcp (i:=7) ze5.nd rfl (Or.inl rfl) (zbn znv (hr.mono (by decide)) rfl zej.hm zej.fn.kp zej.b .nil zbm (zad (pv 3) (zad (zbt zd3 (pv 5) zaw) zar))))
          (zsd (zcq (zbk (zm6 hr.units) (zb7 (pv 4) zab.cl zbs.me zny (hr.mono (by decide)) zbs.b .nil zbm (zad (pv 6) (zad (pv 7) zar))) (zbn zn4 (hr.mono (by decide)) rfl zeh.hm zeh.fn.kp zeh.b .nil zbm (zad (pv 3) (zad (pv 6) (zad (pv 7) zar)))) (zb8 _))
           (zas (zbh zgd))
           zbo)
          (zas (zcq (PW.pt (zif (zbk zgf (zbt zdp (pv 5) zaw) zaw (zb8 _)) (zg0 (zbk zty (zb1 znh rfl T.n_len zjs (zad (zby (zcj hr) (pv 3) zb6 (fun _ _=>rfl)) zar)) zaw (zb8 _)))))
           (zaq (zia (zcj hr) (zby (zcj hr) (pv 3) zb6 (fun _ _=>rfl)) (pv 6) zgd rfl)
            (zas (zbj (zb7 (pv 4) zab.cl zbv.me zoi (hr.mono (by decide)) zbv.b .nil zbm (zad (pv 6) zar)))))
           zbo))))
         zbo)))))
      (zaq (zf4 PassesOwn.never rfl (zee (zbt zfj (zc9 (zad zaw (zad zaw (zad zaw zar)))) (zez zfn (pv 0) (ze_ zaw) (ze_ zaw)))) (zcw (i:=5) ze5.nd rfl (Or.inl rfl))
       (zaq (zcp (i:=5) ze5.nd rfl (Or.inl rfl) (zbt zdp (pv 5) (zbt zo0 zaw zaw)))
        (zaq (zcp (i:=8) ze5.nd rfl (Or.inl rfl) (zbt zdp (pv 5) zaw))
        (zaq (zcp (i:=9) ze5.nd rfl (Or.inl rfl) (zbn zid (hr.mono (by decide)) rfl zc1.hm zc1.fn.kp zc1.b .nil zbm (zad (pv 3) (zad (pv 1) (zad (zbn zer (hr.mono (by decide)) rfl zbp.hm zbp.fn.kp zbp.b .nil zbm (zad (pv 5) (zad zaw zar))) zar)))))
        (zaq (zcp (i:=10) ze5.nd rfl (Or.inl rfl) (zbn zid (hr.mono (by decide)) rfl zc1.hm zc1.fn.kp zc1.b .nil zbm (zad (pv 3) (zad (pv 1) (zad (zbt zf1 (zbn zer (hr.mono (by decide)) rfl zbp.hm zbp.fn.kp zbp.b .nil zbm (zad (pv 5) (zad zaw zar))) (zbt zd3 (pv 5) zaw)) zar)))))
        (zaq (zcp (i:=11) ze5.nd rfl (Or.inr rfl) (zbn zp2 (hr.mono (by decide)) rfl ze0.hm ze0.fn.kp ze0.b .nil zbm (zad (pv 3) (zad (pv 1) (zad (pv 8) (zad (pv 9) (zad (pv 10) zar)))))))
        (zas (zcq (PW.pt (zif (zbk zyb (pv 11) zaw (zb8 _)) (zg0 (PW.pt (zsl (zbk zty (pv 8) zaw (zb8 _)) (zsl (zbk zno (pv 10) zht (zb8 _)) (zsl (zbk zte (pv 11) zaw (zb8 _)) (zq4 (zbk zgf (pv 11) zaw (zb8 _))))))))))
         (zaq (zcq (zbk (zu8 hr.units) (zbn zkk (hr.mono (by decide)) rfl zdh.hm zdh.fn.kp zdh.b .nil zbm (zad (pv 4) (zad (pv 8) (zad (pv 9) (zad (pv 10) zar))))) (zlq rfl (zdn (own:=["_law_k"]) (caps:=[11]) (N':=["_law_k","_law_due_here"]) (by kernel_rfl)) (zjn rfl T.n_range (zad zaw zar)) (fun _ _ _ _ _=>(zcw (i:=0) (show (["_law_k","_law_due_here"]:List Str).Nodup by decide +kernel) rfl (Or.inl rfl))) (fun _ _ _ _ _=>zq2) (fun _ _ _ _ _=>(znz zgf (pv 0) (pv 1) (zb8 _)))) (zb8 _))
           (zas (zbh zgd))
           zbo)
          (zaq (zcq (zf0 (zdv (zbn zin (hr.mono (by decide)) rfl zcz.hm zcz.fn.kp zcz.b .nil zbm (zad (pv 4) (zad (pv 3) zar)))))
           (zas (zbh zgd))
           zbo)
          (zas (zcq (PW.pt (zif (zdv (zbn zdf (hr.mono (by decide)) rfl za6.hm za6.fn.kp za6.b .nil zbm (zad (pv 9) (zad (pv 1) zar)))) (zg0 (zbk zum (zb7 (pv 4) zab.cl zag.me zb2 (hr.mono (by decide)) zag.b .nil zbm (zad (pv 9) zar)) (zbn zem (hr.mono (by decide)) rfl zbb.hm zbb.fn.kp zbb.b .nil zbm (zad (pv 3) (zad (pv 9) zar))) (zb8 _)))))
           (zas (zbh zgd))
           zbo))))
         zbo))))))))
      (zas (zbh (zbn zin (hr.mono (by decide)) rfl zcz.hm zcz.fn.kp zcz.b .nil zbm (zad (pv 4) (zad (pv 3) zar))))))))),?_⟩
    have hT0:Tab H zak.P (zfo zg7) quH:=Tab.new (hT _ ht0)
    walk_at "w"
    intro tp md mt mq z r H1 N0 M0 hz1 hz2 hr1 hr2 s1 htp B1 hmt1 hmd hmt hmq _
    walk_at "w"
    intro w dx hw hdx hne
    walk_at "w"
    intro td sd H2 T0 W2 htd hsd nts hb2
    have s12:zbf H1 H2:=fun q o e=>hb2 q o (by rw [zal (zap e hw),zal (zap e hdx)]; exact e) (zap e hw)
    have old:∀ {q:Addr},upd (upd H1 dx (.own w)) w (.ins zab.C dx []) q=none→H1 q=none:=fun {q} e=>by
      cases eq:H1 q with
      | none=>rfl
      | some o =>
        rw [zal (zap eq hw),zal (zap eq hdx),eq] at e
        cases e
    have s02:=s1.trans s12
    have hS2:=s02.seq hS
    have nown:∀ q o,H1 q=some o→¬ Own td sd z.toNat [] T0 q:=fun q o e ho=>by
      rcases ho with rfl | rfl | ⟨h,hh,_⟩
      · rw [old htd] at e
        cases e
      · rw [old hsd] at e
        cases e
      · cases hh
    have X2:zgs zaj.C zat.C zab.C zak.P H2 w td sd z r [] [] [] T0 md mt mq M0:=by
      refine ⟨⟨W2,⟨fun h hh=>(nomatch hh),fun h hh=>(nomatch hh),fun h hh=>(nomatch hh)⟩,?_,s12 _ _ hmt1,⟨fun h hh=>(nomatch hh),fun h hh=>(nomatch hh),fun h hh=>(nomatch hh)⟩,by decide,fun x hx=>hx,fun q hq=>?_⟩,(s02.but _).2 _ _ hT0,fun x hx=>(nomatch hx),List.nodup_nil,by decide⟩
      · have B2:=B1.same s12
        exact ⟨B2.d,B2.t,B2.q,fun h hh=>(nomatch hh),fun h hh=>(nomatch hh),fun h hh=>(nomatch hh),fun h hh=>(nomatch hh),fun h hh=>(nomatch hh),fun h hh=>(nomatch hh),B2.n2,B2.hn,B2.ln,fun h hh=>(nomatch hh),B2.zl⟩
      · obtain ⟨o,e⟩:=B1.ex hq
        exact nown q o e
    have hSc2:zhp K H2 (Own td sd z.toNat [] T0) a (ss.map V.int):=by
      refine zhp.step (H:=H1) (O:=Own td sd z.toNat [] T0) (zhp.of (s1.seq hS) (nown a)) (zff.same s12) (zfw.same s12)
    clear s1 B1 hmt1 hmd hmt hmq hw hdx hne htd hsd nts hb2 s12 old htp nown
    obtain ⟨ts,ets,hts⟩:∃ ts:List Int,zjv (ss.map V.int) (some 1) (some 9)=ts.map V.int∧ts.length≤8:=zo6 ss 1 9
    have hszc:[V.int 0,V.int 3,V.int 9].length+(ts.map V.int).length≤sizeLine:=by
      rw [List.length_map]
      exact Nat.le_of_lt (zbu (show 3+ts.length≤1000 by omega))
    walk_at "w"
    intro p1 hp1
    have hSp:SqL K (upd H2 p1 (.lst [V.int 0,V.int 3,V.int 9])) a (ss.map V.int):=(zbf.new H2 hp1).seq hS2
    walk_at "w"
    rw [ets]
    intro p2 hp2
    have np:=zap zam hp2
    walk_at "w"
    intro L hL
    generalize hH3:upd (upd (upd H2 p1 _) p2 _) L _=H3
    have s3:zbf H2 H3:=by rw [← hH3]; exact (((zbf.refl H2).lay hp1).lay hp2).lay hL
    have hL3:H3 L=some (.lst (([0,3,9]++ts).map V.int)):=by rw [← hH3,zam,List.map_append]; rfl
    have hL0:H2 L=none:=(zbf.new H2 hp1).free ((zbf.new _ hp2).free hL)
    have X3:=X2.same s3
    have nL:¬ Own td sd z.toNat [] T0 L:=X2.X.W.notOwn hL0
    have hSc3:=hSc2.step (zff.same s3) (zfw.same s3)
    clear hH3 hp1 hp2 hL hSp np X2 s3 hS2 s02 hSc2
    walk_at "w"
    refine zfe (K:=K) (a:=L) (xs:=([0,3,9]++ts).map V.int) (fun i σ H4=>zj2 (∃ (v5 v6 v7:Option V) (hs sil pool:List Int) (TT:Int→zdz) (M:Int→ze1),σ=[some (.ref a),some (.int z),some (.int r),some (.ref md),some (.ref w),v5,v6,v7,none,none,none,none]∧zgs zaj.C zat.C zab.C zak.P H4 w td sd z r hs sil pool TT md mt mq M∧zhp K H4 (Own td sd z.toNat hs TT) a (ss.map V.int)∧H4 L=some (.lst (([0,3,9]++ts).map V.int))∧¬ Own td sd z.toNat hs TT L∧hs.length≤i∧pool.length≤i)) ⟨⟨_,_,_,[],[],[],T0,M0,rfl,X3,hSc3,hL3,nL,Nat.le_refl _,Nat.le_refl _⟩⟩ (fun i σ H4 _ ⟨_,_,_,_,_,_,_,_,_,_,_,e,_⟩=>SqL.of e) ?_ ?_
    · rintro i y σ H4 hi ⟨v5,v6,v7,hs,sil,pool,TT,M,rfl,X4,hSc4,hL4,nL4,hhi,hpi⟩
      obtain ⟨cell,hcell,rfl⟩:=zkv hi
      have hi11:i<11:=by
        obtain ⟨h1,_⟩:=List.getElem?_eq_some_iff.mp hi
        rw [List.length_map,List.length_append] at h1
        have:([0,3,9]:List Int).length=3:=rfl
        omega
      have c0:0≤(cell % 10 ^ (60:Int).toNat):=Int.emod_nonneg _ (by decide)
      have B4:=X4.X.B
      have hmt4:=X4.X.m
      have hb4:∀ x∈hs,0≤x:=fun x hx=>(X4.X.W.hb x hx).1
      walk_at "w"
      intro n H5 s5 hn0 hn1
      have X5:=X4.same s5
      have B5:=X5.X.B
      have hmt5:=X5.X.m
      have gT5:=B5.gT
      have gO5:=B5.gO n
      have hSc5:=hSc4.step (zff.same s5) (zfw.same s5)
      have hL5:=s5 _ _ hL4
      walk_at "w"
      by_cases him:n∈hs
      · rw [if_pos him]
        walk_at "w"
        exact ⟨⟨_,_,_,hs,sil,pool,TT,M,rfl,X5,hSc5,hL5,nL4,by omega,by omega⟩⟩
      · rw [if_neg him]
        walk_at "w"
        intro v H6 s6 hv
        have X6:=X5.same s6
        have W6:=X6.X.W
        have A6:=X6.X.A
        have B6:=X6.X.B
        have hmt6:=X6.X.m
        have t6:=X6.t
        have hSc6:=hSc5.step (zff.same s6) (zfw.same s6)
        have hL6:=s6 _ _ hL5
        have O6:NOk (pool++[n]) z.toNat r hs (fun g=>(TT g).ns):=X6.X.O.pool fun x hx=>List.mem_append_left _ hx
        have hpl:(pool++[n]).length<64:=by rw [List.length_append,List.length_singleton]; omega
        have hps:∀ x∈hs,x∈pool++[n]:=fun x hx=>List.mem_append_left _ (X6.X.q x hx)
        have hip:n∈pool++[n]:=List.mem_append_right _ (List.mem_singleton.mpr rfl)
        have hb6:=W6.hb
        have h60:hs.length<60:=by omega
        have h12':hs.length<12:=by omega
        have hp60:pool.length<60:=by omega
        obtain ⟨⟨dx6,hob6⟩,-⟩:=id W6
        have hv':v=V.non∨∃ d,v=V.int d∧d∈hs:=hv.elim .inl fun ⟨d,e,hd,_⟩=> .inr ⟨d,e,hd⟩
        refine mid (fun σ H'=>zj2 (∃ (T7:Int→zdz) (M7:Int→ze1),σ=[some (.ref a),some (.int z),some (.int r),some (.ref md),some (.ref w),some (.int (cell % 10 ^ (60:Int).toNat)),some (.int n),some v,none,none,none,none]∧zgs zaj.C zat.C zab.C zak.P H' w td sd z r (hs++[n]) sil (pool++[n]) T7 md mt mq M7∧zhp K H' (Own td sd z.toNat (hs++[n]) T7) a (ss.map V.int)∧H' L=some (.lst (([0,3,9]++ts).map V.int))∧¬ Own td sd z.toNat (hs++[n]) T7 L)) ?_ ?_
        · rintro σ H7 ⟨T7,M7,rfl,X7,hSc7,hL7,nL7⟩
          have fin:∀ {Hx:Hp} {sx:List Int},zgs zaj.C zat.C zab.C zak.P Hx w td sd z r (hs++[n]) sx (pool++[n]) T7 md mt mq M7→zhp K Hx (Own td sd z.toNat (hs++[n]) T7) a (ss.map V.int)→Hx L=some (.lst (([0,3,9]++ts).map V.int))→¬ Own td sd z.toNat (hs++[n]) T7 L→_:=fun {Hx} {sx} a1 a2 a3 a4=>(⟨⟨_,_,_,hs++[n],sx,pool++[n],T7,M7,rfl,a1,a2,a3,a4,by rw [List.length_append,List.length_singleton]; omega,by rw [List.length_append,List.length_singleton]; omega⟩⟩:zj2 (∃ (v5 v6 v7:Option V) (hs sil pool:List Int) (TT:Int→zdz) (M:Int→ze1),[some (.ref a),some (.int z),some (.int r),some (.ref md),some (.ref w),some (.int (cell % 10 ^ (60:Int).toNat)),some (.int n),some v,none,none,none,none]=[some (.ref a),some (.int z),some (.int r),some (.ref md),some (.ref w),v5,v6,v7,none,none,none,none]∧zgs zaj.C zat.C zab.C zak.P Hx w td sd z r hs sil pool TT md mt mq M∧zhp K Hx (Own td sd z.toNat hs TT) a (ss.map V.int)∧Hx L=some (.lst (([0,3,9]++ts).map V.int))∧¬ Own td sd z.toNat hs TT L∧hs.length≤i+1∧pool.length≤i+1))
          have B7:=X7.X.B
          have W7:=X7.X.W
          have hmt7:=X7.X.m
          have hq7:=B7.q
          have gT7:=B7.gT
          have gQ7:=B7.gQ
          have hsl:=X7.sl
          have hin:n∈hs++[n]:=List.mem_append_right _ (List.mem_singleton.mpr rfl)
          have stay:=fin X7 hSc7 hL7 nL7
          have hszd:(zf5 sil).length<sizeLine:=by
            unfold zf5
            rw [List.length_map]
            exact zbu (by omega)
          have hput:zkr H7 mq (V.int n) (V.bl true) (upd H7 mq (.dK (zfa (zf5 sil) (Sum.inl n) (V.bl true)))):=zkr.k (k:=Sum.inl n) hq7 hszd
          have k8:∀ q o,H7 q=some o→q≠mt→q≠mq→upd H7 mq (.dK (zfa (zf5 sil) (Sum.inl n) (V.bl true))) q=some o:=fun q o e _ y=>by rw [zal y]; exact e
          have sm8:∀ x∈zta n sil,x∈hs++[n]:=fun x hx=>(zs5 hx).elim (X7.sm x) fun y=>y ▸ hin
          obtain ⟨W8,t8,d8,fin8⟩:=X7.dicts (hs':=hs++[n]) (sil':=zta n sil) k8 (by rw [zal B7.n2.2.1]; exact hmt7) (by rw [zam,zss]) W7.nd (fun x hx=>hx) sm8 (zp9 X7.sn)
          generalize upd H7 mq (.dK (zfa (zf5 sil) (Sum.inl n) (V.bl true)))=H8 at hput W8 t8 d8 fin8
          obtain ⟨⟨dx8,hob8⟩,-⟩:=id W8
          have hs900:sil.length≤900:=by omega
          walk_at "w"
          refine zzb (fun _=>?_) (fun _=>?_)
          · walk_at "w"
            refine zzb (fun _=>?_) (fun _=>?_)
            · walk_at "w"
              intro H9 W9 k9
              obtain ⟨X9,kl,d9⟩:=fin8 H9 W9 k9
              obtain ⟨hL9,nL9⟩:=kl _ _ hL7 nL7
              have u9:=fin X9 (hSc7.step kl ((zfw.mdl d8).trans (zfw.deed W8 d9))) hL9 nL9
              walk_at "w"
            · walk_at "w"
          · walk_at "w"
        · intro U hU
          have fin:∀ dv,(dv=V.non∨∃ d,dv=V.int d∧d∈hs∧d∉sil)→v=dv→∀ (l5:Addr) (vis5:List Int) (H7:Hp) (T7:Int→zdz),zl9 z.toNat (hs++[n]) sil (zlx (fun g=>(TT g).ns) n) n dv vis5→za9 zaj.C zat.C zab.C H7 w td sd z r (hs++[n]) sil T7→zfr z.toNat (hs++[n]) T7→(fun g=>(T7 g).ns)=zdb r (awB (hs++[n]) sil) (zlx (fun g=>(TT g).ns) n) n vis5→zgx zak.P H6 H7 (Own td sd z.toNat hs TT) (Own td sd z.toNat (hs++[n]) T7)→Tab H7 zak.P (zfo zg7) quH→H7 l5=some (.lst (vis5.map V.int)) →
              zck H7 md mt mq r z.toNat hs sil (fun g=>(TT g).ns) M∧H7 mt=some (.dK (mtD hs M))∧∀ (l6:Addr) (vis6:List Int) (H8:Hp) (M8:Int→ze1),zl9 z.toNat (hs++[n]) sil (zlx (fun g=>(TT g).ns) n) n dv vis6→zck H8 md mt mq r z.toNat (hs++[n]) sil (zdb r (awB (hs++[n]) sil) (zlx (fun g=>(TT g).ns) n) n vis6) M8→H8 mt=some (.dK (mtD (hs++[n]) M8))→zec md H7 H8 (zc6 md mt mq hs M) (zc6 md mt mq (hs++[n]) M8)→vis5=vis6∧H8 l5=some (.lst (vis5.map V.int))∧U [some (.ref a),some (.int z),some (.int r),some (.ref md),some (.ref w),some (.int (cell % 10 ^ (60:Int).toNat)),some (.int n),some v,none,none,none,none] H8:=fun dv hdv hvd l5 vis5 H7 T7 V5 W7 A7 e7 d7 t7 hl5=>by
            obtain ⟨B7,m7,S7⟩:=zme B6 hmt6 X6.X.S d7
            refine ⟨B7,m7,fun l6 vis6 H8 M8 V6 B8 m8 d8=>?_⟩
            have h1:dv = .non∨∃ d,dv = .int d:=hdv.elim .inl fun ⟨d,e,_⟩=> .inr ⟨d,e⟩
            have h2:dv = .non∨∃ d,dv = .int d∧d∈hs++[n]:=hdv.elim .inl fun ⟨d,e,hd,_⟩=> .inr ⟨d,e,List.mem_append_left _ hd⟩
            have ev:=zl9.eq V5 V6 h1
            subst ev
            have kl:=(zff.deed d7).trans (zff.mdl (O:=Own td sd z.toNat (hs++[n]) T7) d8)
            obtain ⟨hL8,nL8⟩:=kl _ _ hL6 nL4
            exact ⟨rfl,d8.k _ _ hl5 (fun _ z=>nomatch z),hU _ _ ⟨T7,M8,rfl,X6.come h12' hp60 (V6.ok h2) W7 A7 e7 t7 S7 B8 m8 d8,hSc6.step kl ((zfw.deed W6 d7).trans (zfw.mdl d8)),hL8,nL8⟩⟩
          rcases hv with rfl | ⟨d,rfl,hd,hds⟩
          · have cA:V.non=V.non∨∃ d,V.non=V.int d∧d∈hs∧d∉sil:= .inl rfl
            walk_at "w"
            intro l5 vis5 H7 T7 a1 a2 W7 A7 e7 d7 t7 _ _ hl5
            obtain ⟨B7,m7,fin6⟩:=fin _ cA rfl l5 vis5 H7 T7 ⟨a1,a2⟩ W7 A7 e7 d7 t7 hl5
            walk_at "w"
            intro l6 vis6 H8 M8 b1 b2 B8 m8 d8 _ _ hl6
            obtain ⟨ev,hl58,u⟩:=fin6 l6 vis6 H8 M8 ⟨b1,b2⟩ B8 m8 d8
            subst ev
            refine zgj vis5 hl58 hl6 ?_
            walk_at "w"
          · have cB:V.int d=V.non∨∃ d',V.int d=V.int d'∧d'∈hs∧d'∉sil:= .inr ⟨d,rfl,hd,hds⟩
            walk_at "w"
            intro l5 vis5 H7 T7 a1 a2 W7 A7 e7 d7 t7 _ _ hl5
            obtain ⟨B7,m7,fin6⟩:=fin _ cB rfl l5 vis5 H7 T7 ⟨a1,a2⟩ W7 A7 e7 d7 t7 hl5
            walk_at "w"
            intro l6 vis6 H8 M8 b1 b2 B8 m8 d8 _ _ hl6
            obtain ⟨ev,hl58,u⟩:=fin6 l6 vis6 H8 M8 ⟨b1,b2⟩ B8 m8 d8
            subst ev
            refine zgj vis5 hl58 hl6 ?_
            walk_at "w"
    · rintro σ H4 ⟨v5,v6,v7,hs,sil,pool,TT,M,rfl,X4,hSc4,hL4,nL4,hhi,hpi⟩
      have hS4:=hSc4.seq
      clear hSc4 hL4 nL4 hhi hpi X3 hSc3 hL3 hL0 nL hszc ets hts hT0 hT
      obtain ⟨us,eus,hus⟩:∃ ts:List Int,zjv (ss.map V.int) (some 1) (some 41)=ts.map V.int∧ts.length≤40:=zo6 ss 1 41
      have hszu:[V.int 0,V.int 4,V.int 7].length+(us.map V.int).length≤sizeLine:=by
        rw [List.length_map]
        exact Nat.le_of_lt (zbu (show 3+us.length≤1000 by omega))
      walk_at "w"
      intro p1 hp1
      have hSp:SqL K (upd H4 p1 (.lst [V.int 0,V.int 4,V.int 7])) a (ss.map V.int):=(zbf.new H4 hp1).seq hS4
      walk_at "w"
      rw [eus]
      intro p2 hp2
      have np:=zap zam hp2
      walk_at "w"
      intro L2 hL2
      generalize hH5:upd (upd (upd H4 p1 _) p2 _) L2 _=H5
      have s5:zbf H4 H5:=by rw [← hH5]; exact (((zbf.refl H4).lay hp1).lay hp2).lay hL2
      have hL5:H5 L2=some (.lst (([0,4,7]++us).map V.int)):=by rw [← hH5,zam,List.map_append]; rfl
      have X5:=X4.same s5
      clear hH5 hp1 hp2 hL2 hSp np X4 s5 hS4
      walk_at "w"
      refine zfe (K:=K) (a:=L2) (xs:=([0,4,7]++us).map V.int) (fun i σ H6=>zj2 (∃ (v5 v6 v7 v8 v9 v10 v11:Option V),σ=[some (.ref a),some (.int z),some (.int r),some (.ref md),some (.ref w),v5,v6,v7,v8,v9,v10,v11]∧zbf H5 H6)) ⟨⟨_,_,_,_,_,_,_,rfl,zbf.refl H5⟩⟩ (fun i σ H6 _ ⟨_,_,_,_,_,_,_,_,e⟩=>SqL.of (e _ _ hL5)) ?_ ?_
      · rintro i y σ H6 hi ⟨v5,v6,v7,v8,v9,v10,v11,rfl,s6⟩
        obtain ⟨cell,hcell,rfl⟩:=zkv hi
        have c0:0≤(cell % 10 ^ (60:Int).toNat):=Int.emod_nonneg _ (by decide)
        have c9:0≤(cell % 10 ^ (60:Int).toNat) / 9:=Int.ediv_nonneg c0 (by decide)
        have d0:0≤(cell % 10 ^ (60:Int).toNat) % 9:=Int.emod_nonneg _ (by decide)
        have d8:(cell % 10 ^ (60:Int).toNat) % 9≤8:=by
          have:=Int.emod_lt_of_pos (cell % 10 ^ (60:Int).toNat) (show (0:Int)<9 by decide)
          omega
        have X6:=X5.same s6
        have B6:=X6.X.B
        have hmt6:=X6.X.m
        walk_at "w"
        intro m1 hm1 _
        walk_at "w"
        intro v1 H7 s7 kd1
        have B7:=(X6.same s7).X.B
        have hmt7:=(X6.same s7).X.m
        walk_at "w"
        intro m2 hm2 _
        have hm2c:0≤m2+(cell % 10 ^ (60:Int).toNat) / 9:=Int.add_nonneg hm2 c9
        walk_at "w"
        intro v2 H8 s8 kd2
        have X8:=(X6.same s7).same s8
        have B8:=X8.X.B
        have kd1':=kd1.same s8
        have W8:=X8.X.W
        have X8':=X8.X
        obtain ⟨⟨dx8,hob8⟩,-⟩:=id W8
        walk_at "w"
        by_cases hdu:0≤zdt z hs sil (cell % 10 ^ (60:Int).toNat % 9) v1 v2
        · refine zkn hdu ?_
          refine or4 (decide (0<(cell % 10 ^ (60:Int).toNat % 9))) (!decide (v2 = .non)) (decide (zdt z hs sil (cell % 10 ^ (60:Int).toNat % 9) v1 v2<2)) (decide (V.int (zdt z hs sil (cell % 10 ^ (60:Int).toNat % 9) v1 v2)=V.int 3)) (fun Q q=>by walk_at "w") (fun Q q=>by walk_at "w") (fun Q q=>by walk_at "w") (fun Q q=>by walk_at "w") ?_
          by_cases hg:0<(cell % 10 ^ (60:Int).toNat % 9)∨v2≠ .non∨zdt z hs sil (cell % 10 ^ (60:Int).toNat % 9) v1 v2<2∨zdt z hs sil (cell % 10 ^ (60:Int).toNat % 9) v1 v2=3
          · rw [show (decide (0<(cell % 10 ^ (60:Int).toNat % 9)) || !decide (v2 = .non) || decide (zdt z hs sil (cell % 10 ^ (60:Int).toNat % 9) v1 v2<2) || decide (V.int (zdt z hs sil (cell % 10 ^ (60:Int).toNat % 9) v1 v2)=V.int 3))=true by
              simp only [Bool.or_eq_true,decide_eq_true_eq,Bool.not_eq_true',decide_eq_false_iff_not]
              rcases hg with h | h | h | h
              · exact .inl (.inl (.inl h))
              · exact .inl (.inl (.inr h))
              · exact .inl (.inr h)
              · exact .inr (by rw [h])]
            have hd4:=zun d0 d8 hdu
            walk_at "w"
            intro l9 H9 s9 hl9
            walk_at "w"
            intro DD hDD
            refine zkt (lo:=0) (n:=8) (fun j σ HA=>zj2 (∃ v0:Option V,σ=[v0,some (.int (zdt z hs sil (cell % 10 ^ (60:Int).toNat % 9) v1 v2))]∧zbf H9 HA∧HA DD=some (.lst (((zdw (zdt z hs sil (cell % 10 ^ (60:Int).toNat % 9) v1 v2)).take j).map V.bl)))) ⟨⟨none,rfl,zbf.new H9 hDD,zam⟩⟩ ?_ ?_
            · rintro j σ HA hj ⟨v0,rfl,sA,hDA⟩
              have hsz:(((zdw (zdt z hs sil (cell % 10 ^ (60:Int).toNat % 9) v1 v2)).take j).map V.bl).length<sizeLine:=by
                rw [List.length_map,List.length_take]
                exact zbu (by have:=Nat.min_le_left j (zdw (zdt z hs sil (cell % 10 ^ (60:Int).toNat % 9) v1 v2)).length; omega)
              have fin:zj2 (∃ v0:Option V,[some (V.int (0+(j:Int))),some (.int (zdt z hs sil (cell % 10 ^ (60:Int).toNat % 9) v1 v2))]=[v0,some (.int (zdt z hs sil (cell % 10 ^ (60:Int).toNat % 9) v1 v2))]∧zbf H9 (upd HA DD (.lst (((zdw (zdt z hs sil (cell % 10 ^ (60:Int).toNat % 9) v1 v2)).take j).map V.bl++[V.bl (decide (V.int (0+(j:Int))=V.int (zdt z hs sil (cell % 10 ^ (60:Int).toNat % 9) v1 v2)))])))∧upd HA DD (.lst (((zdw (zdt z hs sil (cell % 10 ^ (60:Int).toNat % 9) v1 v2)).take j).map V.bl++[V.bl (decide (V.int (0+(j:Int))=V.int (zdt z hs sil (cell % 10 ^ (60:Int).toNat % 9) v1 v2)))])) DD=some (.lst (((zdw (zdt z hs sil (cell % 10 ^ (60:Int).toNat % 9) v1 v2)).take (j+1)).map V.bl))):=⟨⟨_,rfl,sA.put hDD,by rw [zam,zp0 hd4 hj,List.map_append]; rfl⟩⟩
              walk_at "w"
              done
            · rintro σ HA ⟨v0,rfl,sA,hDA⟩
              refine zsa (zdt z hs sil (cell % 10 ^ (60:Int).toNat % 9) v1 v2) hd4 (sA _ _ hl9) hDA ?_
              have s8A:=s9.trans sA
              have XA:=X8'.same s8A
              walk_at "w"
              intro HB sB
              have XB:=XA.same sB
              have WB:=XB.W
              have BB:=XB.B
              have kB:=(kd1'.same s8A).same sB
              have fin:zj2 (∃ (w5 w6 w7 w8 w9 w10 w11:Option V),[some (.ref a),some (.int z),some (.int r),some (.ref md),some (.ref w),some (.int (cell % 10 ^ (60:Int).toNat)),v6,v7,some (.int (cell % 10 ^ (60:Int).toNat % 9)),some v1,some v2,some (.int (zdt z hs sil (cell % 10 ^ (60:Int).toNat % 9) v1 v2))]=[some (.ref a),some (.int z),some (.int r),some (.ref md),some (.ref w),w5,w6,w7,w8,w9,w10,w11]∧zbf H5 HB):=⟨⟨_,_,_,_,_,_,_,rfl,((s6.trans s7).trans s8).trans (s8A.trans sB)⟩⟩
              obtain ⟨⟨dxB,hobB⟩,-⟩:=id WB
              walk_at "w"
              cases hnm:zek z v1 with
              | false=>walk_at "w"
              | true =>
                rcases id kB with ⟨x,rfl⟩ | ⟨_,hni⟩
                · walk_at "w"
                  refine .inl ⟨x,rfl,?_⟩
                  rw [zrx WB.hb WB.z1 x]
                  walk_at "w"
                  refine zzm rfl ?_
                  exact fin
                · rw [zhk hni] at hnm
                  cases hnm
          · rw [show (decide (0<(cell % 10 ^ (60:Int).toNat % 9)) || !decide (v2 = .non) || decide (zdt z hs sil (cell % 10 ^ (60:Int).toNat % 9) v1 v2<2) || decide (V.int (zdt z hs sil (cell % 10 ^ (60:Int).toNat % 9) v1 v2)=V.int 3))=false by
              rw [not_or,not_or,not_or] at hg
              obtain ⟨g1,g2,g3,g4⟩:=hg
              have g2:v2 = .non:=Classical.not_not.mp g2
              simp only [Bool.or_eq_false_iff,decide_eq_false_iff_not,Bool.not_eq_false',decide_eq_true_eq]
              exact ⟨⟨⟨g1,g2⟩,g3⟩,fun e=>g4 (V.int.inj e)⟩]
            walk_at "w"
            exact ⟨⟨_,_,_,_,_,_,_,rfl,(s6.trans s7).trans s8⟩⟩
        · refine zfv hdu ?_
          walk_at "w"
          exact ⟨⟨_,_,_,_,_,_,_,rfl,(s6.trans s7).trans s8⟩⟩
      · rintro σ H6 ⟨v5,v6,v7,v8,v9,v10,v11,rfl,s6⟩
        have X6:=(X5.same s6).X
        walk_at "w"
        exact fun H7 _=>k H7
end
theorem zxq {us:List Value} (h:(us++([]:List Value)).length=3):∃ a b c,us=[a,b,c]:=by
 match us,h with
 | [a,b,c],_=>exact ⟨a,b,c,rfl⟩
theorem mk4 {K:PySem.W.Frag} {NE c0 c1 c2 c3 c4 c5 c6:Addr} (a:zl3 K NE c1 c0 c1 c2 c3 c4 c5 c6 1) (b:zl3 K NE c2 c0 c1 c2 c3 c4 c5 c6 2) (c:zl3 K NE c3 c0 c1 c2 c3 c4 c5 c6 3) (d:zl3 K NE c4 c0 c1 c2 c3 c4 c5 c6 4):∀ n:Int,(n=1∨n=2∨n=3∨n=4)→zl3 K NE (zpe c1 c2 c3 c4 n) c0 c1 c2 c3 c4 c5 c6 n:=fun n h=>by
 rcases h with rfl | rfl | rfl | rfl
 ·exact a
 ·exact b
 ·exact c
 ·exact d
theorem all_mk {l:PySem.W.OpenLaw} {w:World} {K:PySem.W.Frag} {h:Heap} {mg:Str→Option Value} {ts:List Addr} {fa C0 f0 f1 f2 f3 C1 f4 f5 f6 f7 f8 C2 f9 f10 f11 f12 f13 f14 f15 f16 f17 f18 T19 f19 f20 f21 f22 f23 f24 f25 f26 f27 f28 f29 c29 P29 E0 E1 E2 E3 E4 E5 E6 E7 f30 f31 f32 f33 f34 f35 f36 f37 f38 f39 f40 f41 f42 f43 f44 f45 f46 f47 f48 f49 f50 f51 f52 f53 f54 f55:Addr} (X:K.In h) (G:h.Ns mainGlobals mg) (hfa:mg "law" = some (.ref fa))
  {od0 an0 od1 an1 od2 an2 od3 an3 od4 an4 od5 an5 od6 an6 od7 an7 od8 an8 od9 an9 od10 an10 od11 an11 od12 an12 od13 an13 od14 an14 od15 an15 od16 an16 od17 an17 od18 an18 td19 od19 an19 od20 an20 od21 an21 od22 an22 od23 an23 od24 an24 od25 an25 od26 an26 od27 an27 od28 an28 od29 an29 qb29 od30 an30 od31 an31 od32 an32 od33 an33 od34 an34 od35 an35 od36 an36 od37 an37 od38 an38 od39 an39 od40 an40 od41 an41 od42 an42 od43 an43 od44 an44 od45 an45 od46 an46 od47 an47 od48 an48 od49 an49 od50 an50 od51 an51 od52 an52 od53 an53 od54 an54 od55 an55:Option Addr} {sl0 sl1 sl2 sl3 sl4 sl5 sl6 sl7 sl8 sl9 sl10 sl11 sl12 sl13 sl14 sl15 sl16 sl17 sl18 ts19 sl19 sl20 sl21 sl22 sl23 sl24 sl25 sl26 sl27 sl28 sl29 qs29 sl30 sl31 sl32 sl33 sl34 sl35 sl36 sl37 sl38 sl39 sl40 sl41 sl42 sl43 sl44 sl45 sl46 sl47 sl48 sl49 sl50 sl51 sl52 sl53 sl54 sl55:Array (Option Value)} {oc0 kV0 dc0 pm0 ct0 cd0 oc1 kV1 dc1 pm1 ct1 cd1 oc2 kV2 dc2 pm2 ct2 cd2 oc3 kV3 dc3 pm3 ct3 cd3 oc4 kV4 dc4 pm4 ct4 cd4 oc5 kV5 dc5 pm5 ct5 cd5 oc6 kV6 dc6 pm6 ct6 cd6 oc7 kV7 dc7 pm7 ct7 cd7 oc8 kV8 dc8 pm8 ct8 cd8 oc9 kV9 dc9 pm9 ct9 cd9 oc10 kV10 dc10 pm10 ct10 cd10 oc11 kV11 dc11 pm11 ct11 cd11 oc12 kV12 dc12 pm12 ct12 cd12 oc13 kV13 dc13 pm13 ct13 cd13 oc14 kV14 dc14 pm14 ct14 cd14 oc15 kV15 dc15 pm15 ct15 cd15 oc16 kV16 dc16 pm16 ct16 cd16 oc17 kV17 dc17 pm17 ct17 cd17 oc18 kV18 dc18 pm18 ct18 cd18 to19 oc19 kV19 dc19 pm19 ct19 cd19 oc20 kV20 dc20 pm20 ct20 cd20 oc21 kV21 dc21 pm21 ct21 cd21 oc22 kV22 dc22 pm22 ct22 cd22 oc23 kV23 dc23 pm23 ct23 cd23 oc24 kV24 dc24 pm24 ct24 cd24 oc25 kV25 dc25 pm25 ct25 cd25 oc26 kV26 dc26 pm26 ct26 cd26 oc27 kV27 dc27 pm27 ct27 cd27 oc28 kV28 dc28 pm28 ct28 cd28 oc29 kV29 dc29 pm29 ct29 qa29 oc30 kV30 dc30 pm30 ct30 cd30 oc31 kV31 dc31 pm31 ct31 cd31 oc32 kV32 dc32 pm32 ct32 cd32 oc33 kV33 dc33 pm33 ct33 cd33 oc34 kV34 dc34 pm34 ct34 cd34 oc35 kV35 dc35 pm35 ct35 cd35 oc36 kV36 dc36 pm36 ct36 cd36 oc37 kV37 dc37 pm37 ct37 cd37 oc38 kV38 dc38 pm38 ct38 cd38 oc39 kV39 dc39 pm39 ct39 cd39 oc40 kV40 dc40 pm40 ct40 cd40 oc41 kV41 dc41 pm41 ct41 cd41 oc42 kV42 dc42 pm42 ct42 cd42 oc43 kV43 dc43 pm43 ct43 cd43 oc44 kV44 dc44 pm44 ct44 cd44 oc45 kV45 dc45 pm45 ct45 cd45 oc46 kV46 dc46 pm46 ct46 cd46 oc47 kV47 dc47 pm47 ct47 cd47 oc48 kV48 dc48 pm48 ct48 cd48 oc49 kV49 dc49 pm49 ct49 cd49 oc50 kV50 dc50 pm50 ct50 cd50 oc51 kV51 dc51 pm51 ct51 cd51 oc52 kV52 dc52 pm52 ct52 cd52 oc53 kV53 dc53 pm53 ct53 cd53 oc54 kV54 dc54 pm54 ct54 cd54 oc55 kV55 dc55 pm55 ct55 cd55:Value} {qv29:Array Value} {tn19:Nat}
  (aC0:PySem.W.nsIn K mainGlobals "Bucket" = some (some (.ref C0))) (pg0:PySem.W.plainGet K C0 Str.empty=true) (hd0:PySem.W.hasDictIn K C0=true) (po0:PySem.W.plainOver K C0=true) (sa0:PySem.W.findIn K (.ref C0) "__setattr__" = some (some (.builtin "object.__setattr__"))) (mk0:PySem.W.makesIn K C0=true) (kc0:PySem.W.keepIn K (.ref C0)=true)
  (na0_0:PySem.W.findIn K (.ref C0) "room" = some none)
  (na0_1:PySem.W.findIn K (.ref C0) "order" = some none)
  (a0:PySem.W.findIn K (.ref C0) "__init__" = some (some (.ref f0)))
  (i0:PySem.W.isFn K (.ref f0)=true)
  (l0:K.lookup f0=some ⟨oc0,od0,.func (PySem.W.fnOf "__init__" "Bucket.__init__" (za4 (zaa (top 26) 0)) (za0 (zaa (top 26) 0)) (zai (zaa (top 26) 0)) .none kV0 dc0 pm0 an0 cd0 ct0),sl0⟩)
  (e0:PySem.W.codeIn K cd0 "Bucket.__init__" = true) (k0:PySem.W.keepIn K (.ref f0)=true)
  (a1:PySem.W.findIn K (.ref C0) "names" = some (some (.ref f1)))
  (i1:PySem.W.isFn K (.ref f1)=true)
  (l1:K.lookup f1=some ⟨oc1,od1,.func (PySem.W.fnOf "names" "Bucket.names" (za4 (zaa (top 26) 4)) (za0 (zaa (top 26) 4)) (zai (zaa (top 26) 4)) .none kV1 dc1 pm1 an1 cd1 ct1),sl1⟩)
  (e1:PySem.W.codeIn K cd1 "Bucket.names" = true) (k1:PySem.W.keepIn K (.ref f1)=true)
  (a2:PySem.W.findIn K (.ref C0) "hears_when_full" = some (some (.ref f2)))
  (i2:PySem.W.isFn K (.ref f2)=true)
  (l2:K.lookup f2=some ⟨oc2,od2,.func (PySem.W.fnOf "hears_when_full" "Bucket.hears_when_full" (za4 (zaa (top 26) 2)) (za0 (zaa (top 26) 2)) (zai (zaa (top 26) 2)) .none kV2 dc2 pm2 an2 cd2 ct2),sl2⟩)
  (e2:PySem.W.codeIn K cd2 "Bucket.hears_when_full" = true) (k2:PySem.W.keepIn K (.ref f2)=true)
  (a3:PySem.W.findIn K (.ref C0) "hears" = some (some (.ref f3)))
  (i3:PySem.W.isFn K (.ref f3)=true)
  (l3:K.lookup f3=some ⟨oc3,od3,.func (PySem.W.fnOf "hears" "Bucket.hears" (za4 (zaa (top 26) 1)) (za0 (zaa (top 26) 1)) (zai (zaa (top 26) 1)) .none kV3 dc3 pm3 an3 cd3 ct3),sl3⟩)
  (e3:PySem.W.codeIn K cd3 "Bucket.hears" = true) (k3:PySem.W.keepIn K (.ref f3)=true)
  (aC1:PySem.W.nsIn K mainGlobals "Table" = some (some (.ref C1))) (pg1:PySem.W.plainGet K C1 Str.empty=true) (hd1:PySem.W.hasDictIn K C1=true) (po1:PySem.W.plainOver K C1=true) (sa1:PySem.W.findIn K (.ref C1) "__setattr__" = some (some (.builtin "object.__setattr__"))) (mk1:PySem.W.makesIn K C1=true) (kc1:PySem.W.keepIn K (.ref C1)=true)
  (na1_0:PySem.W.findIn K (.ref C1) "own" = some none)
  (na1_1:PySem.W.findIn K (.ref C1) "wide" = some none)
  (na1_2:PySem.W.findIn K (.ref C1) "room" = some none)
  (na1_3:PySem.W.findIn K (.ref C1) "buckets" = some none)
  (a4:PySem.W.findIn K (.ref C1) "__init__" = some (some (.ref f4)))
  (i4:PySem.W.isFn K (.ref f4)=true)
  (l4:K.lookup f4=some ⟨oc4,od4,.func (PySem.W.fnOf "__init__" "Table.__init__" (za4 (zaa (top 28) 0)) (za0 (zaa (top 28) 0)) (zai (zaa (top 28) 0)) .none kV4 dc4 pm4 an4 cd4 ct4),sl4⟩)
  (e4:PySem.W.codeIn K cd4 "Table.__init__" = true) (k4:PySem.W.keepIn K (.ref f4)=true)
  (a5:PySem.W.findIn K (.ref C1) "bucket" = some (some (.ref f5)))
  (i5:PySem.W.isFn K (.ref f5)=true)
  (l5:K.lookup f5=some ⟨oc5,od5,.func (PySem.W.fnOf "bucket" "Table.bucket" (za4 (zaa (top 28) 4)) (za0 (zaa (top 28) 4)) (zai (zaa (top 28) 4)) .none kV5 dc5 pm5 an5 cd5 ct5),sl5⟩)
  (e5:PySem.W.codeIn K cd5 "Table.bucket" = true) (k5:PySem.W.keepIn K (.ref f5)=true)
  (a6:PySem.W.findIn K (.ref C1) "keeps" = some (some (.ref f6)))
  (i6:PySem.W.isFn K (.ref f6)=true)
  (l6:K.lookup f6=some ⟨oc6,od6,.func (PySem.W.fnOf "keeps" "Table.keeps" (za4 (zaa (top 28) 5)) (za0 (zaa (top 28) 5)) (zai (zaa (top 28) 5)) .none kV6 dc6 pm6 an6 cd6 ct6),sl6⟩)
  (e6:PySem.W.codeIn K cd6 "Table.keeps" = true) (k6:PySem.W.keepIn K (.ref f6)=true)
  (a7:PySem.W.findIn K (.ref C1) "bucket_of" = some (some (.ref f7)))
  (i7:PySem.W.isFn K (.ref f7)=true)
  (l7:K.lookup f7=some ⟨oc7,od7,.func (PySem.W.fnOf "bucket_of" "Table.bucket_of" (za4 (zaa (top 28) 3)) (za0 (zaa (top 28) 3)) (zai (zaa (top 28) 3)) .none kV7 dc7 pm7 an7 cd7 ct7),sl7⟩)
  (e7:PySem.W.codeIn K cd7 "Table.bucket_of" = true) (k7:PySem.W.keepIn K (.ref f7)=true)
  (a8:PySem.W.findIn K (.ref C1) "hears" = some (some (.ref f8)))
  (i8:PySem.W.isFn K (.ref f8)=true)
  (l8:K.lookup f8=some ⟨oc8,od8,.func (PySem.W.fnOf "hears" "Table.hears" (za4 (zaa (top 28) 1)) (za0 (zaa (top 28) 1)) (zai (zaa (top 28) 1)) .none kV8 dc8 pm8 an8 cd8 ct8),sl8⟩)
  (e8:PySem.W.codeIn K cd8 "Table.hears" = true) (k8:PySem.W.keepIn K (.ref f8)=true)
  (aC2:PySem.W.nsIn K mainGlobals "Town" = some (some (.ref C2))) (pg2:PySem.W.plainGet K C2 Str.empty=true) (hd2:PySem.W.hasDictIn K C2=true) (po2:PySem.W.plainOver K C2=true) (sa2:PySem.W.findIn K (.ref C2) "__setattr__" = some (some (.builtin "object.__setattr__"))) (mk2:PySem.W.makesIn K C2=true) (kc2:PySem.W.keepIn K (.ref C2)=true)
  (na2_0:PySem.W.findIn K (.ref C2) "wide" = some none)
  (na2_1:PySem.W.findIn K (.ref C2) "room" = some none)
  (na2_2:PySem.W.findIn K (.ref C2) "tables" = some none)
  (na2_3:PySem.W.findIn K (.ref C2) "silent" = some none)
  (a9:PySem.W.findIn K (.ref C2) "__init__" = some (some (.ref f9)))
  (i9:PySem.W.isFn K (.ref f9)=true)
  (l9:K.lookup f9=some ⟨oc9,od9,.func (PySem.W.fnOf "__init__" "Town.__init__" (za4 (zaa (top 31) 0)) (za0 (zaa (top 31) 0)) (zai (zaa (top 31) 0)) .none kV9 dc9 pm9 an9 cd9 ct9),sl9⟩)
  (e9:PySem.W.codeIn K cd9 "Town.__init__" = true) (k9:PySem.W.keepIn K (.ref f9)=true)
  (a10:PySem.W.findIn K (.ref C2) "houses" = some (some (.ref f10)))
  (i10:PySem.W.isFn K (.ref f10)=true)
  (l10:K.lookup f10=some ⟨oc10,od10,.func (PySem.W.fnOf "houses" "Town.houses" (za4 (zaa (top 31) 1)) (za0 (zaa (top 31) 1)) (zai (zaa (top 31) 1)) .none kV10 dc10 pm10 an10 cd10 ct10),sl10⟩)
  (e10:PySem.W.codeIn K cd10 "Town.houses" = true) (k10:PySem.W.keepIn K (.ref f10)=true)
  (a11:PySem.W.findIn K (.ref C2) "answering" = some (some (.ref f11)))
  (i11:PySem.W.isFn K (.ref f11)=true)
  (l11:K.lookup f11=some ⟨oc11,od11,.func (PySem.W.fnOf "answering" "Town.answering" (za4 (zaa (top 31) 2)) (za0 (zaa (top 31) 2)) (zai (zaa (top 31) 2)) .none kV11 dc11 pm11 an11 cd11 ct11),sl11⟩)
  (e11:PySem.W.codeIn K cd11 "Town.answering" = true) (k11:PySem.W.keepIn K (.ref f11)=true)
  (a12:PySem.W.findIn K (.ref C2) "answers" = some (some (.ref f12)))
  (i12:PySem.W.isFn K (.ref f12)=true)
  (l12:K.lookup f12=some ⟨oc12,od12,.func (PySem.W.fnOf "answers" "Town.answers" (za4 (zaa (top 31) 3)) (za0 (zaa (top 31) 3)) (zai (zaa (top 31) 3)) .none kV12 dc12 pm12 an12 cd12 ct12),sl12⟩)
  (e12:PySem.W.codeIn K cd12 "Town.answers" = true) (k12:PySem.W.keepIn K (.ref f12)=true)
  (a13:PySem.W.findIn K (.ref C2) "is_house" = some (some (.ref f13)))
  (i13:PySem.W.isFn K (.ref f13)=true)
  (l13:K.lookup f13=some ⟨oc13,od13,.func (PySem.W.fnOf "is_house" "Town.is_house" (za4 (zaa (top 31) 4)) (za0 (zaa (top 31) 4)) (zai (zaa (top 31) 4)) .none kV13 dc13 pm13 an13 cd13 ct13),sl13⟩)
  (e13:PySem.W.codeIn K cd13 "Town.is_house" = true) (k13:PySem.W.keepIn K (.ref f13)=true)
  (a14:PySem.W.findIn K (.ref C2) "bucket" = some (some (.ref f14)))
  (i14:PySem.W.isFn K (.ref f14)=true)
  (l14:K.lookup f14=some ⟨oc14,od14,.func (PySem.W.fnOf "bucket" "Town.bucket" (za4 (zaa (top 31) 5)) (za0 (zaa (top 31) 5)) (zai (zaa (top 31) 5)) .none kV14 dc14 pm14 an14 cd14 ct14),sl14⟩)
  (e14:PySem.W.codeIn K cd14 "Town.bucket" = true) (k14:PySem.W.keepIn K (.ref f14)=true)
  (a15:PySem.W.findIn K (.ref C2) "keeps" = some (some (.ref f15)))
  (i15:PySem.W.isFn K (.ref f15)=true)
  (l15:K.lookup f15=some ⟨oc15,od15,.func (PySem.W.fnOf "keeps" "Town.keeps" (za4 (zaa (top 31) 6)) (za0 (zaa (top 31) 6)) (zai (zaa (top 31) 6)) .none kV15 dc15 pm15 an15 cd15 ct15),sl15⟩)
  (e15:PySem.W.codeIn K cd15 "Town.keeps" = true) (k15:PySem.W.keepIn K (.ref f15)=true)
  (a16:PySem.W.findIn K (.ref C2) "come_to" = some (some (.ref f16)))
  (i16:PySem.W.isFn K (.ref f16)=true)
  (l16:K.lookup f16=some ⟨oc16,od16,.func (PySem.W.fnOf "come_to" "Town.come_to" (za4 (zaa (top 31) 8)) (za0 (zaa (top 31) 8)) (zai (zaa (top 31) 8)) .none kV16 dc16 pm16 an16 cd16 ct16),sl16⟩)
  (e16:PySem.W.codeIn K cd16 "Town.come_to" = true) (k16:PySem.W.keepIn K (.ref f16)=true)
  (a17:PySem.W.findIn K (.ref C2) "ask" = some (some (.ref f17)))
  (i17:PySem.W.isFn K (.ref f17)=true)
  (l17:K.lookup f17=some ⟨oc17,od17,.func (PySem.W.fnOf "ask" "Town.ask" (za4 (zaa (top 31) 9)) (za0 (zaa (top 31) 9)) (zai (zaa (top 31) 9)) .none kV17 dc17 pm17 an17 cd17 ct17),sl17⟩)
  (e17:PySem.W.codeIn K cd17 "Town.ask" = true) (k17:PySem.W.keepIn K (.ref f17)=true)
  (a18:PySem.W.findIn K (.ref C2) "way" = some (some (.ref f18)))
  (i18:PySem.W.isFn K (.ref f18)=true)
  (l18:K.lookup f18=some ⟨oc18,od18,.func (PySem.W.fnOf "way" "Town.way" (za4 (zaa (top 31) 10)) (za0 (zaa (top 31) 10)) (zai (zaa (top 31) 10)) .none kV18 dc18 pm18 an18 cd18 ct18),sl18⟩)
  (e18:PySem.W.codeIn K cd18 "Town.way" = true) (k18:PySem.W.keepIn K (.ref f18)=true)
  (a19:PySem.W.findIn K (.ref C2) "come" = some (some (.ref f19)))
  (i19:PySem.W.isFn K (.ref f19)=true)
  (l19:K.lookup f19=some ⟨oc19,od19,.func (PySem.W.fnOf "come" "Town.come" (za4 (zaa (top 31) 11)) (za0 (zaa (top 31) 11)) (zai (zaa (top 31) 11)) (.ref T19) kV19 dc19 pm19 an19 cd19 ct19),sl19⟩)
  (ld19:K.lookup T19=some ⟨to19,td19,.seq #[Value.none] tn19,ts19⟩)
  (e19:PySem.W.codeIn K cd19 "Town.come" = true) (k19:PySem.W.keepIn K (.ref f19)=true)
  (a20:PySem.W.findIn K (.ref C2) "go" = some (some (.ref f20)))
  (i20:PySem.W.isFn K (.ref f20)=true)
  (l20:K.lookup f20=some ⟨oc20,od20,.func (PySem.W.fnOf "go" "Town.go" (za4 (zaa (top 31) 12)) (za0 (zaa (top 31) 12)) (zai (zaa (top 31) 12)) .none kV20 dc20 pm20 an20 cd20 ct20),sl20⟩)
  (e20:PySem.W.codeIn K cd20 "Town.go" = true) (k20:PySem.W.keepIn K (.ref f20)=true)
  (a21:PySem.W.findIn K (.ref C2) "hush" = some (some (.ref f21)))
  (i21:PySem.W.isFn K (.ref f21)=true)
  (l21:K.lookup f21=some ⟨oc21,od21,.func (PySem.W.fnOf "hush" "Town.hush" (za4 (zaa (top 31) 13)) (za0 (zaa (top 31) 13)) (zai (zaa (top 31) 13)) .none kV21 dc21 pm21 an21 cd21 ct21),sl21⟩)
  (e21:PySem.W.codeIn K cd21 "Town.hush" = true) (k21:PySem.W.keepIn K (.ref f21)=true)
  (a22:PySem.W.findIn K (.ref C2) "wake" = some (some (.ref f22)))
  (i22:PySem.W.isFn K (.ref f22)=true)
  (l22:K.lookup f22=some ⟨oc22,od22,.func (PySem.W.fnOf "wake" "Town.wake" (za4 (zaa (top 31) 14)) (za0 (zaa (top 31) 14)) (zai (zaa (top 31) 14)) .none kV22 dc22 pm22 an22 cd22 ct22),sl22⟩)
  (e22:PySem.W.codeIn K cd22 "Town.wake" = true) (k22:PySem.W.keepIn K (.ref f22)=true)
  (a23:PySem.W.findIn K (.ref C2) "check_name" = some (some (.ref f23)))
  (i23:PySem.W.isFn K (.ref f23)=true)
  (l23:K.lookup f23=some ⟨oc23,od23,.func (PySem.W.fnOf "check_name" "Town.check_name" (za4 (zaa (top 31) 15)) (za0 (zaa (top 31) 15)) (zai (zaa (top 31) 15)) .none kV23 dc23 pm23 an23 cd23 ct23),sl23⟩)
  (e23:PySem.W.codeIn K cd23 "Town.check_name" = true) (k23:PySem.W.keepIn K (.ref f23)=true)
  (a24:PySem.W.findIn K (.ref C2) "check_house" = some (some (.ref f24)))
  (i24:PySem.W.isFn K (.ref f24)=true)
  (l24:K.lookup f24=some ⟨oc24,od24,.func (PySem.W.fnOf "check_house" "Town.check_house" (za4 (zaa (top 31) 16)) (za0 (zaa (top 31) 16)) (zai (zaa (top 31) 16)) .none kV24 dc24 pm24 an24 cd24 ct24),sl24⟩)
  (e24:PySem.W.codeIn K cd24 "Town.check_house" = true) (k24:PySem.W.keepIn K (.ref f24)=true)
  (a25:PySem.W.findIn K (.ref C2) "check_answering" = some (some (.ref f25)))
  (i25:PySem.W.isFn K (.ref f25)=true)
  (l25:K.lookup f25=some ⟨oc25,od25,.func (PySem.W.fnOf "check_answering" "Town.check_answering" (za4 (zaa (top 31) 17)) (za0 (zaa (top 31) 17)) (zai (zaa (top 31) 17)) .none kV25 dc25 pm25 an25 cd25 ct25),sl25⟩)
  (e25:PySem.W.codeIn K cd25 "Town.check_answering" = true) (k25:PySem.W.keepIn K (.ref f25)=true)
  (a26:PySem.W.findIn K (.ref C2) "settles" = some (some (.ref f26)))
  (i26:PySem.W.isFn K (.ref f26)=true)
  (l26:K.lookup f26=some ⟨oc26,od26,.func (PySem.W.fnOf "settles" "Town.settles" (za4 (zaa (top 31) 19)) (za0 (zaa (top 31) 19)) (zai (zaa (top 31) 19)) .none kV26 dc26 pm26 an26 cd26 ct26),sl26⟩)
  (e26:PySem.W.codeIn K cd26 "Town.settles" = true) (k26:PySem.W.keepIn K (.ref f26)=true)
  (a27:PySem.W.findIn K (.ref C2) "visits" = some (some (.ref f27)))
  (i27:PySem.W.isFn K (.ref f27)=true)
  (l27:K.lookup f27=some ⟨oc27,od27,.func (PySem.W.fnOf "visits" "Town.visits" (za4 (zaa (top 31) 23)) (za0 (zaa (top 31) 23)) (zai (zaa (top 31) 23)) .none kV27 dc27 pm27 an27 cd27 ct27),sl27⟩)
  (e27:PySem.W.codeIn K cd27 "Town.visits" = true) (k27:PySem.W.keepIn K (.ref f27)=true)
  (a28:PySem.W.findIn K (.ref C2) "meet" = some (some (.ref f28)))
  (i28:PySem.W.isFn K (.ref f28)=true)
  (l28:K.lookup f28=some ⟨oc28,od28,.func (PySem.W.fnOf "meet" "Town.meet" (za4 (zaa (top 31) 24)) (za0 (zaa (top 31) 24)) (zai (zaa (top 31) 24)) .none kV28 dc28 pm28 an28 cd28 ct28),sl28⟩)
  (e28:PySem.W.codeIn K cd28 "Town.meet" = true) (k28:PySem.W.keepIn K (.ref f28)=true)
  (a29:PySem.W.findIn K (.ref C2) "hears_of" = some (some (.ref f29)))
  (i29:PySem.W.isFn K (.ref f29)=true)
  (l29:K.lookup f29=some ⟨oc29,od29,.func (PySem.W.fnOf "hears_of" "Town.hears_of" (za4 (zaa (top 31) 25)) (za0 (zaa (top 31) 25)) (zai (zaa (top 31) 25)) .none kV29 dc29 pm29 an29 (.ref c29) ct29),sl29⟩)
  (e29:PySem.W.codeIn K (.ref c29) "Town.hears_of" = true) (k29:PySem.W.keepIn K (.ref f29)=true)
  (t29:K.lookup c29=some ⟨qa29,qb29,.fields qv29,qs29⟩) (r29:(qv29[11]? : Option Value)=some (.ref P29))
  (h29:PySem.W.codeHdIn K c29 P29=true) (n29:K.lookup P29=none) (m29:P29∈ts)
  (aE0:PySem.W.nsIn K mainGlobals "NearError" = some (some (.ref E0))) (xE0:PySem.W.excIn K E0 bmV "ValueError.__new__" = true)
  (aE1:PySem.W.nsIn K mainGlobals "NoSize" = some (some (.ref E1))) (xE1:PySem.W.excIn K E1 bmV "ValueError.__new__" = true)
  (aE2:PySem.W.nsIn K mainGlobals "NoName" = some (some (.ref E2))) (xE2:PySem.W.excIn K E2 bmV "ValueError.__new__" = true)
  (aE3:PySem.W.nsIn K mainGlobals "NoHouse" = some (some (.ref E3))) (xE3:PySem.W.excIn K E3 bmV "ValueError.__new__" = true)
  (aE4:PySem.W.nsIn K mainGlobals "Silent" = some (some (.ref E4))) (xE4:PySem.W.excIn K E4 bmV "ValueError.__new__" = true)
  (aE5:PySem.W.nsIn K mainGlobals "Taken" = some (some (.ref E5))) (xE5:PySem.W.excIn K E5 bmV "ValueError.__new__" = true)
  (aE6:PySem.W.nsIn K mainGlobals "NoTown" = some (some (.ref E6))) (xE6:PySem.W.excIn K E6 bmV "ValueError.__new__" = true)
  (aE7:PySem.W.nsIn K mainGlobals "NoLine" = some (some (.ref E7))) (xE7:PySem.W.excIn K E7 bmV "ValueError.__new__" = true)
  (fg5_:PySem.W.specialIn K (.builtin "object.__class__") "__get__" = some (some (.builtin "getset_descriptor.__get__")))
  (fg6_:PySem.W.takesIn K (.builtin "object.__class__")=some true)
  (fa_g1:PySem.W.findIn K (.ref E2) "__getattribute__" = some (some (.builtin "BaseException.__getattribute__")))
  (fa_g2:PySem.W.findIn K (.ref E2) "__getattr__" = some none)
  (fa_g3:PySem.W.hasDictIn K E2=true)
  (fa_g4:PySem.W.findIn K (.ref E2) "__class__" = some (some (.builtin "object.__class__")))
  (fa_g7:PySem.W.mroIn K E2 (.type "object")=some true)
  (fa_g8:PySem.W.mroIn K E2 (.type "BaseException")=some true)
  (fa_mr:zje K E2 E0=true)
  (fa_m0:PySem.W.kitOne K (.ref E2) (.ref E1)=some false)
  (fa_m1:PySem.W.kitOne K (.ref E2) (.ref E2)=some true)
  (fa_m2:PySem.W.kitOne K (.ref E2) (.ref E3)=some false)
  (fa_m3:PySem.W.kitOne K (.ref E2) (.ref E5)=some false)
  (fa_m4:PySem.W.kitOne K (.ref E2) (.ref E4)=some false)
  (fa_m5:PySem.W.kitOne K (.ref E2) (.ref E6)=some false)
  (fa_m6:PySem.W.kitOne K (.ref E2) (.ref E7)=some false)
  (fa_mv:PySem.W.kitOne K (.ref E2) (.type "ValueError")=some true)
  (fb_g1:PySem.W.findIn K (.ref E3) "__getattribute__" = some (some (.builtin "BaseException.__getattribute__")))
  (fb_g2:PySem.W.findIn K (.ref E3) "__getattr__" = some none)
  (fb_g3:PySem.W.hasDictIn K E3=true)
  (fb_g4:PySem.W.findIn K (.ref E3) "__class__" = some (some (.builtin "object.__class__")))
  (fb_g7:PySem.W.mroIn K E3 (.type "object")=some true)
  (fb_g8:PySem.W.mroIn K E3 (.type "BaseException")=some true)
  (fb_mr:zje K E3 E0=true)
  (fb_m0:PySem.W.kitOne K (.ref E3) (.ref E1)=some false)
  (fb_m1:PySem.W.kitOne K (.ref E3) (.ref E2)=some false)
  (fb_m2:PySem.W.kitOne K (.ref E3) (.ref E3)=some true)
  (fb_m3:PySem.W.kitOne K (.ref E3) (.ref E5)=some false)
  (fb_m4:PySem.W.kitOne K (.ref E3) (.ref E4)=some false)
  (fb_m5:PySem.W.kitOne K (.ref E3) (.ref E6)=some false)
  (fb_m6:PySem.W.kitOne K (.ref E3) (.ref E7)=some false)
  (fb_mv:PySem.W.kitOne K (.ref E3) (.type "ValueError")=some true)
  (fc_g1:PySem.W.findIn K (.ref E5) "__getattribute__" = some (some (.builtin "BaseException.__getattribute__")))
  (fc_g2:PySem.W.findIn K (.ref E5) "__getattr__" = some none)
  (fc_g3:PySem.W.hasDictIn K E5=true)
  (fc_g4:PySem.W.findIn K (.ref E5) "__class__" = some (some (.builtin "object.__class__")))
  (fc_g7:PySem.W.mroIn K E5 (.type "object")=some true)
  (fc_g8:PySem.W.mroIn K E5 (.type "BaseException")=some true)
  (fc_mr:zje K E5 E0=true)
  (fc_m0:PySem.W.kitOne K (.ref E5) (.ref E1)=some false)
  (fc_m1:PySem.W.kitOne K (.ref E5) (.ref E2)=some false)
  (fc_m2:PySem.W.kitOne K (.ref E5) (.ref E3)=some false)
  (fc_m3:PySem.W.kitOne K (.ref E5) (.ref E5)=some true)
  (fc_m4:PySem.W.kitOne K (.ref E5) (.ref E4)=some false)
  (fc_m5:PySem.W.kitOne K (.ref E5) (.ref E6)=some false)
  (fc_m6:PySem.W.kitOne K (.ref E5) (.ref E7)=some false)
  (fc_mv:PySem.W.kitOne K (.ref E5) (.type "ValueError")=some true)
  (fd_g1:PySem.W.findIn K (.ref E4) "__getattribute__" = some (some (.builtin "BaseException.__getattribute__")))
  (fd_g2:PySem.W.findIn K (.ref E4) "__getattr__" = some none)
  (fd_g3:PySem.W.hasDictIn K E4=true)
  (fd_g4:PySem.W.findIn K (.ref E4) "__class__" = some (some (.builtin "object.__class__")))
  (fd_g7:PySem.W.mroIn K E4 (.type "object")=some true)
  (fd_g8:PySem.W.mroIn K E4 (.type "BaseException")=some true)
  (fd_mr:zje K E4 E0=true)
  (fd_m0:PySem.W.kitOne K (.ref E4) (.ref E1)=some false)
  (fd_m1:PySem.W.kitOne K (.ref E4) (.ref E2)=some false)
  (fd_m2:PySem.W.kitOne K (.ref E4) (.ref E3)=some false)
  (fd_m3:PySem.W.kitOne K (.ref E4) (.ref E5)=some false)
  (fd_m4:PySem.W.kitOne K (.ref E4) (.ref E4)=some true)
  (fd_m5:PySem.W.kitOne K (.ref E4) (.ref E6)=some false)
  (fd_m6:PySem.W.kitOne K (.ref E4) (.ref E7)=some false)
  (fd_mv:PySem.W.kitOne K (.ref E4) (.type "ValueError")=some true)
  (a30:PySem.W.nsIn K mainGlobals "is_whole" = some (some (.ref f30)))
  (l30:K.lookup f30=some ⟨oc30,od30,.func (PySem.W.fnOf "is_whole" "is_whole" (za4 (top 11)) (za0 (top 11)) (zai (top 11)) .none kV30 dc30 pm30 an30 cd30 ct30),sl30⟩)
  (e30:PySem.W.codeIn K cd30 "is_whole" = true) (k30:PySem.W.keepIn K (.ref f30)=true)
  (a31:PySem.W.nsIn K mainGlobals "is_name" = some (some (.ref f31)))
  (l31:K.lookup f31=some ⟨oc31,od31,.func (PySem.W.fnOf "is_name" "is_name" (za4 (top 12)) (za0 (top 12)) (zai (top 12)) .none kV31 dc31 pm31 an31 cd31 ct31),sl31⟩)
  (e31:PySem.W.codeIn K cd31 "is_name" = true) (k31:PySem.W.keepIn K (.ref f31)=true)
  (a32:PySem.W.nsIn K mainGlobals "far" = some (some (.ref f32)))
  (l32:K.lookup f32=some ⟨oc32,od32,.func (PySem.W.fnOf "far" "far" (za4 (top 13)) (za0 (top 13)) (zai (top 13)) .none kV32 dc32 pm32 an32 cd32 ct32),sl32⟩)
  (e32:PySem.W.codeIn K cd32 "far" = true) (k32:PySem.W.keepIn K (.ref f32)=true)
  (a33:PySem.W.nsIn K mainGlobals "step" = some (some (.ref f33)))
  (l33:K.lookup f33=some ⟨oc33,od33,.func (PySem.W.fnOf "step" "step" (za4 (top 16)) (za0 (top 16)) (zai (top 16)) .none kV33 dc33 pm33 an33 cd33 ct33),sl33⟩)
  (e33:PySem.W.codeIn K cd33 "step" = true) (k33:PySem.W.keepIn K (.ref f33)=true)
  (a34:PySem.W.nsIn K mainGlobals "is_size" = some (some (.ref f34)))
  (l34:K.lookup f34=some ⟨oc34,od34,.func (PySem.W.fnOf "is_size" "is_size" (za4 (top 30)) (za0 (top 30)) (zai (top 30)) .none kV34 dc34 pm34 an34 cd34 ct34),sl34⟩)
  (e34:PySem.W.codeIn K cd34 "is_size" = true) (k34:PySem.W.keepIn K (.ref f34)=true)
  (a35:PySem.W.nsIn K mainGlobals "_law_mixed" = some (some (.ref f35)))
  (l35:K.lookup f35=some ⟨oc35,od35,.func (PySem.W.fnOf "_law_mixed" "_law_mixed" (za4 (top 33)) (za0 (top 33)) (zai (top 33)) .none kV35 dc35 pm35 an35 cd35 ct35),sl35⟩)
  (e35:PySem.W.codeIn K cd35 "_law_mixed" = true) (k35:PySem.W.keepIn K (.ref f35)=true)
  (a36:PySem.W.nsIn K mainGlobals "_law_wide" = some (some (.ref f36)))
  (l36:K.lookup f36=some ⟨oc36,od36,.func (PySem.W.fnOf "_law_wide" "_law_wide" (za4 (top 34)) (za0 (top 34)) (zai (top 34)) .none kV36 dc36 pm36 an36 cd36 ct36),sl36⟩)
  (e36:PySem.W.codeIn K cd36 "_law_wide" = true) (k36:PySem.W.keepIn K (.ref f36)=true)
  (a37:PySem.W.nsIn K mainGlobals "_law_near" = some (some (.ref f37)))
  (l37:K.lookup f37=some ⟨oc37,od37,.func (PySem.W.fnOf "_law_near" "_law_near" (za4 (top 35)) (za0 (top 35)) (zai (top 35)) .none kV37 dc37 pm37 an37 cd37 ct37),sl37⟩)
  (e37:PySem.W.codeIn K cd37 "_law_near" = true) (k37:PySem.W.keepIn K (.ref f37)=true)
  (a38:PySem.W.nsIn K mainGlobals "_law_awake" = some (some (.ref f38)))
  (l38:K.lookup f38=some ⟨oc38,od38,.func (PySem.W.fnOf "_law_awake" "_law_awake" (za4 (top 36)) (za0 (top 36)) (zai (top 36)) .none kV38 dc38 pm38 an38 cd38 ct38),sl38⟩)
  (e38:PySem.W.codeIn K cd38 "_law_awake" = true) (k38:PySem.W.keepIn K (.ref f38)=true)
  (a39:PySem.W.nsIn K mainGlobals "_law_hears" = some (some (.ref f39)))
  (l39:K.lookup f39=some ⟨oc39,od39,.func (PySem.W.fnOf "_law_hears" "_law_hears" (za4 (top 37)) (za0 (top 37)) (zai (top 37)) .none kV39 dc39 pm39 an39 cd39 ct39),sl39⟩)
  (e39:PySem.W.codeIn K cd39 "_law_hears" = true) (k39:PySem.W.keepIn K (.ref f39)=true)
  (a40:PySem.W.nsIn K mainGlobals "_law_keeps" = some (some (.ref f40)))
  (l40:K.lookup f40=some ⟨oc40,od40,.func (PySem.W.fnOf "_law_keeps" "_law_keeps" (za4 (top 38)) (za0 (top 38)) (zai (top 38)) .none kV40 dc40 pm40 an40 cd40 ct40),sl40⟩)
  (e40:PySem.W.codeIn K cd40 "_law_keeps" = true) (k40:PySem.W.keepIn K (.ref f40)=true)
  (a41:PySem.W.nsIn K mainGlobals "_law_come_to" = some (some (.ref f41)))
  (l41:K.lookup f41=some ⟨oc41,od41,.func (PySem.W.fnOf "_law_come_to" "_law_come_to" (za4 (top 39)) (za0 (top 39)) (zai (top 39)) .none kV41 dc41 pm41 an41 cd41 ct41),sl41⟩)
  (e41:PySem.W.codeIn K cd41 "_law_come_to" = true) (k41:PySem.W.keepIn K (.ref f41)=true)
  (a42:PySem.W.nsIn K mainGlobals "_law_visit" = some (some (.ref f42)))
  (l42:K.lookup f42=some ⟨oc42,od42,.func (PySem.W.fnOf "_law_visit" "_law_visit" (za4 (top 40)) (za0 (top 40)) (zai (top 40)) .none kV42 dc42 pm42 an42 cd42 ct42),sl42⟩)
  (e42:PySem.W.codeIn K cd42 "_law_visit" = true) (k42:PySem.W.keepIn K (.ref f42)=true)
  (a43:PySem.W.nsIn K mainGlobals "_law_come" = some (some (.ref f43)))
  (l43:K.lookup f43=some ⟨oc43,od43,.func (PySem.W.fnOf "_law_come" "_law_come" (za4 (top 41)) (za0 (top 41)) (zai (top 41)) .none kV43 dc43 pm43 an43 cd43 ct43),sl43⟩)
  (e43:PySem.W.codeIn K cd43 "_law_come" = true) (k43:PySem.W.keepIn K (.ref f43)=true)
  (a44:PySem.W.nsIn K mainGlobals "_law_alike" = some (some (.ref f44)))
  (l44:K.lookup f44=some ⟨oc44,od44,.func (PySem.W.fnOf "_law_alike" "_law_alike" (za4 (top 42)) (za0 (top 42)) (zai (top 42)) .none kV44 dc44 pm44 an44 cd44 ct44),sl44⟩)
  (e44:PySem.W.codeIn K cd44 "_law_alike" = true) (k44:PySem.W.keepIn K (.ref f44)=true)
  (a45:PySem.W.nsIn K mainGlobals "_law_set" = some (some (.ref f45)))
  (l45:K.lookup f45=some ⟨oc45,od45,.func (PySem.W.fnOf "_law_set" "_law_set" (za4 (top 43)) (za0 (top 43)) (zai (top 43)) .none kV45 dc45 pm45 an45 cd45 ct45),sl45⟩)
  (e45:PySem.W.codeIn K cd45 "_law_set" = true) (k45:PySem.W.keepIn K (.ref f45)=true)
  (a46:PySem.W.nsIn K mainGlobals "_law_some" = some (some (.ref f46)))
  (l46:K.lookup f46=some ⟨oc46,od46,.func (PySem.W.fnOf "_law_some" "_law_some" (za4 (top 44)) (za0 (top 44)) (zai (top 44)) .none kV46 dc46 pm46 an46 cd46 ct46),sl46⟩)
  (e46:PySem.W.codeIn K cd46 "_law_some" = true) (k46:PySem.W.keepIn K (.ref f46)=true)
  (a47:PySem.W.nsIn K mainGlobals "_law_name" = some (some (.ref f47)))
  (l47:K.lookup f47=some ⟨oc47,od47,.func (PySem.W.fnOf "_law_name" "_law_name" (za4 (top 45)) (za0 (top 45)) (zai (top 45)) .none kV47 dc47 pm47 an47 cd47 ct47),sl47⟩)
  (e47:PySem.W.codeIn K cd47 "_law_name" = true) (k47:PySem.W.keepIn K (.ref f47)=true)
  (a48:PySem.W.nsIn K mainGlobals "_law_marks" = some (some (.ref f48)))
  (l48:K.lookup f48=some ⟨oc48,od48,.func (PySem.W.fnOf "_law_marks" "_law_marks" (za4 (top 46)) (za0 (top 46)) (zai (top 46)) .none kV48 dc48 pm48 an48 cd48 ct48),sl48⟩)
  (e48:PySem.W.codeIn K cd48 "_law_marks" = true) (k48:PySem.W.keepIn K (.ref f48)=true)
  (a49:PySem.W.nsIn K mainGlobals "_law_done" = some (some (.ref f49)))
  (l49:K.lookup f49=some ⟨oc49,od49,.func (PySem.W.fnOf "_law_done" "_law_done" (za4 (top 47)) (za0 (top 47)) (zai (top 47)) .none kV49 dc49 pm49 an49 cd49 ct49),sl49⟩)
  (e49:PySem.W.codeIn K cd49 "_law_done" = true) (k49:PySem.W.keepIn K (.ref f49)=true)
  (a50:PySem.W.nsIn K mainGlobals "_law_refused" = some (some (.ref f50)))
  (l50:K.lookup f50=some ⟨oc50,od50,.func (PySem.W.fnOf "_law_refused" "_law_refused" (za4 (top 48)) (za0 (top 48)) (zai (top 48)) .none kV50 dc50 pm50 an50 cd50 ct50),sl50⟩)
  (e50:PySem.W.codeIn K cd50 "_law_refused" = true) (k50:PySem.W.keepIn K (.ref f50)=true)
  (a51:PySem.W.nsIn K mainGlobals "_law_is_name" = some (some (.ref f51)))
  (l51:K.lookup f51=some ⟨oc51,od51,.func (PySem.W.fnOf "_law_is_name" "_law_is_name" (za4 (top 49)) (za0 (top 49)) (zai (top 49)) .none kV51 dc51 pm51 an51 cd51 ct51),sl51⟩)
  (e51:PySem.W.codeIn K cd51 "_law_is_name" = true) (k51:PySem.W.keepIn K (.ref f51)=true)
  (a52:PySem.W.nsIn K mainGlobals "_law_of_house" = some (some (.ref f52)))
  (l52:K.lookup f52=some ⟨oc52,od52,.func (PySem.W.fnOf "_law_of_house" "_law_of_house" (za4 (top 50)) (za0 (top 50)) (zai (top 50)) .none kV52 dc52 pm52 an52 cd52 ct52),sl52⟩)
  (e52:PySem.W.codeIn K cd52 "_law_of_house" = true) (k52:PySem.W.keepIn K (.ref f52)=true)
  (a53:PySem.W.nsIn K mainGlobals "_law_due" = some (some (.ref f53)))
  (l53:K.lookup f53=some ⟨oc53,od53,.func (PySem.W.fnOf "_law_due" "_law_due" (za4 (top 51)) (za0 (top 51)) (zai (top 51)) .none kV53 dc53 pm53 an53 cd53 ct53),sl53⟩)
  (e53:PySem.W.codeIn K cd53 "_law_due" = true) (k53:PySem.W.keepIn K (.ref f53)=true)
  (a54:PySem.W.nsIn K mainGlobals "_law_thing" = some (some (.ref f54)))
  (l54:K.lookup f54=some ⟨oc54,od54,.func (PySem.W.fnOf "_law_thing" "_law_thing" (za4 (top 52)) (za0 (top 52)) (zai (top 52)) .none kV54 dc54 pm54 an54 cd54 ct54),sl54⟩)
  (e54:PySem.W.codeIn K cd54 "_law_thing" = true) (k54:PySem.W.keepIn K (.ref f54)=true)
  (a55:PySem.W.nsIn K mainGlobals "law" = some (some (.ref f55)))
  (l55:K.lookup f55=some ⟨oc55,od55,.func (PySem.W.fnOf "law" "law" (za4 (top 53)) (za0 (top 53)) (zai (top 53)) .none kV55 dc55 pm55 an55 cd55 ct55),sl55⟩)
  (e55:PySem.W.codeIn K cd55 "law" = true) (k55:PySem.W.keepIn K (.ref f55)=true)
  (z0:PySem.W.nsIn K mainGlobals "len" = some none) (z1:PySem.W.nsIn K mainGlobals "abs" = some none) (z2:PySem.W.nsIn K mainGlobals "isinstance" = some none) (z3:PySem.W.nsIn K mainGlobals "int" = some none) (z4:PySem.W.nsIn K mainGlobals "bool" = some none) (z5:PySem.W.nsIn K mainGlobals "str" = some none) (z6:PySem.W.nsIn K mainGlobals "list" = some none) (z7:PySem.W.nsIn K mainGlobals "range" = some none) (z8:PySem.W.nsIn K mainGlobals "min" = some none) (z9:PySem.W.nsIn K mainGlobals "sorted" = some none) (z10:PySem.W.nsIn K mainGlobals "sum" = some none) (z11:PySem.W.nsIn K mainGlobals "enumerate" = some none) (z12:PySem.W.nsIn K mainGlobals "ValueError" = some none) :
  ∃ (fd:FuncData) (tabs:List (Addr × Addr)),(∀ q∈tabs,q.2∈ts∧PySem.W.codeHdIn K q.1 q.2=true∧K.lookup q.2=none)∧(∀ (s:Shared) (v:Value),BindsTo s fd ⟨[v],[]⟩ [("_law_script",v)])∧∀ base:Heap,K.In base→base.Ns mainGlobals mg→(∀ q∈tabs,base.BuiltinsAt mg q.2)→zbe l.prog w K mg base CX0 13 fa fd ["_law_script"] (zoy K tabs):=by
 have e:=hfa.symm.trans (PySem.W.mg_of X G a55)
 cases e
 have T:Txt mg:=⟨PySem.W.mg_none_of X G z0,PySem.W.mg_none_of X G z1,PySem.W.mg_none_of X G z2,PySem.W.mg_none_of X G z3,PySem.W.mg_none_of X G z4,PySem.W.mg_none_of X G z5,PySem.W.mg_none_of X G z6,PySem.W.mg_none_of X G z7,PySem.W.mg_none_of X G z8,PySem.W.mg_none_of X G z9,PySem.W.mg_none_of X G z10,PySem.W.mg_none_of X G z11,PySem.W.mg_none_of X G z12⟩
 let zaj:DfC K mg "Bucket" ["room","order"]:=⟨C0,PySem.W.mg_of X G aC0,⟨pg0,hd0,po0,sa0⟩,⟨na0_0,⟨na0_1,trivial⟩⟩,mk0,kc0⟩
 let zbg:DfM K zaj.C "__init__" "Bucket.__init__" (zaa (top 26) 0) ["self","room"]:=⟨f0,_,zay (st:=zaa (top 26) 0) l0 e0 k0,⟨a0,i0,k0⟩,(zay (st:=zaa (top 26) 0) l0 e0 k0).binds fun _ _ _ _ _ _ us hl=>match us,hl with | [_,_],_=>rfl⟩
 let zax:DfM K zaj.C "names" "Bucket.names" (zaa (top 26) 4) ["self"]:=⟨f1,_,zay (st:=zaa (top 26) 4) l1 e1 k1,⟨a1,i1,k1⟩,(zay (st:=zaa (top 26) 4) l1 e1 k1).binds fun _ _ _ _ _ _ us hl=>match us,hl with | [_],_=>rfl⟩
 let zav:DfM K zaj.C "hears_when_full" "Bucket.hears_when_full" (zaa (top 26) 2) ["self","name","answers"]:=⟨f2,_,zay (st:=zaa (top 26) 2) l2 e2 k2,⟨a2,i2,k2⟩,(zay (st:=zaa (top 26) 2) l2 e2 k2).binds fun _ _ _ _ _ _ us hl=>match us,hl with | [_,_,_],_=>rfl⟩
 let za_:DfM K zaj.C "hears" "Bucket.hears" (zaa (top 26) 1) ["self","name","answers"]:=⟨f3,_,zay (st:=zaa (top 26) 1) l3 e3 k3,⟨a3,i3,k3⟩,(zay (st:=zaa (top 26) 1) l3 e3 k3).binds fun _ _ _ _ _ _ us hl=>match us,hl with | [_,_,_],_=>rfl⟩
 let zat:DfC K mg "Table" ["own","wide","room","buckets"]:=⟨C1,PySem.W.mg_of X G aC1,⟨pg1,hd1,po1,sa1⟩,⟨na1_0,⟨na1_1,⟨na1_2,⟨na1_3,trivial⟩⟩⟩⟩,mk1,kc1⟩
 let zb0:DfM K zat.C "__init__" "Table.__init__" (zaa (top 28) 0) ["self","own","wide","room"]:=⟨f4,_,zay (st:=zaa (top 28) 0) l4 e4 k4,⟨a4,i4,k4⟩,(zay (st:=zaa (top 28) 0) l4 e4 k4).binds fun _ _ _ _ _ _ us hl=>match us,hl with | [_,_,_,_],_=>rfl⟩
 let zb3:DfM K zat.C "bucket" "Table.bucket" (zaa (top 28) 4) ["self","k"]:=⟨f5,_,zay (st:=zaa (top 28) 4) l5 e5 k5,⟨a5,i5,k5⟩,(zay (st:=zaa (top 28) 4) l5 e5 k5).binds fun _ _ _ _ _ _ us hl=>match us,hl with | [_,_],_=>rfl⟩
 let za7:DfM K zat.C "keeps" "Table.keeps" (zaa (top 28) 5) ["self"]:=⟨f6,_,zay (st:=zaa (top 28) 5) l6 e6 k6,⟨a6,i6,k6⟩,(zay (st:=zaa (top 28) 5) l6 e6 k6).binds fun _ _ _ _ _ _ us hl=>match us,hl with | [_],_=>rfl⟩
 let za1:DfM K zat.C "bucket_of" "Table.bucket_of" (zaa (top 28) 3) ["self","name"]:=⟨f7,_,zay (st:=zaa (top 28) 3) l7 e7 k7,⟨a7,i7,k7⟩,(zay (st:=zaa (top 28) 3) l7 e7 k7).binds fun _ _ _ _ _ _ us hl=>match us,hl with | [_,_],_=>rfl⟩
 let zbl:DfM K zat.C "hears" "Table.hears" (zaa (top 28) 1) ["self","name","answers"]:=⟨f8,_,zay (st:=zaa (top 28) 1) l8 e8 k8,⟨a8,i8,k8⟩,(zay (st:=zaa (top 28) 1) l8 e8 k8).binds fun _ _ _ _ _ _ us hl=>match us,hl with | [_,_,_],_=>rfl⟩
 let zab:DfC K mg "Town" ["wide","room","tables","silent"]:=⟨C2,PySem.W.mg_of X G aC2,⟨pg2,hd2,po2,sa2⟩,⟨na2_0,⟨na2_1,⟨na2_2,⟨na2_3,trivial⟩⟩⟩⟩,mk2,kc2⟩
 let zcd:DfM K zab.C "__init__" "Town.__init__" (zaa (top 31) 0) ["self","wide","room"]:=⟨f9,_,zay (st:=zaa (top 31) 0) l9 e9 k9,⟨a9,i9,k9⟩,(zay (st:=zaa (top 31) 0) l9 e9 k9).binds fun _ _ _ _ _ _ us hl=>match us,hl with | [_,_,_],_=>rfl⟩
 let zbr:DfM K zab.C "houses" "Town.houses" (zaa (top 31) 1) ["self"]:=⟨f10,_,zay (st:=zaa (top 31) 1) l10 e10 k10,⟨a10,i10,k10⟩,(zay (st:=zaa (top 31) 1) l10 e10 k10).binds fun _ _ _ _ _ _ us hl=>match us,hl with | [_],_=>rfl⟩
 let zbz:DfM K zab.C "answering" "Town.answering" (zaa (top 31) 2) ["self"]:=⟨f11,_,zay (st:=zaa (top 31) 2) l11 e11 k11,⟨a11,i11,k11⟩,(zay (st:=zaa (top 31) 2) l11 e11 k11).binds fun _ _ _ _ _ _ us hl=>match us,hl with | [_],_=>rfl⟩
 let zag:DfM K zab.C "answers" "Town.answers" (zaa (top 31) 3) ["self","name"]:=⟨f12,_,zay (st:=zaa (top 31) 3) l12 e12 k12,⟨a12,i12,k12⟩,(zay (st:=zaa (top 31) 3) l12 e12 k12).binds fun _ _ _ _ _ _ us hl=>match us,hl with | [_,_],_=>rfl⟩
 let zae:DfM K zab.C "is_house" "Town.is_house" (zaa (top 31) 4) ["self","thing"]:=⟨f13,_,zay (st:=zaa (top 31) 4) l13 e13 k13,⟨a13,i13,k13⟩,(zay (st:=zaa (top 31) 4) l13 e13 k13).binds fun _ _ _ _ _ _ us hl=>match us,hl with | [_,_],_=>rfl⟩
 let za8:DfM K zab.C "bucket" "Town.bucket" (zaa (top 31) 5) ["self","house","k"]:=⟨f14,_,zay (st:=zaa (top 31) 5) l14 e14 k14,⟨a14,i14,k14⟩,(zay (st:=zaa (top 31) 5) l14 e14 k14).binds fun _ _ _ _ _ _ us hl=>match us,hl with | [_,_,_],_=>rfl⟩
 let zbc:DfM K zab.C "keeps" "Town.keeps" (zaa (top 31) 6) ["self","house"]:=⟨f15,_,zay (st:=zaa (top 31) 6) l15 e15 k15,⟨a15,i15,k15⟩,(zay (st:=zaa (top 31) 6) l15 e15 k15).binds fun _ _ _ _ _ _ us hl=>match us,hl with | [_,_],_=>rfl⟩
 let za2:DfM K zab.C "come_to" "Town.come_to" (zaa (top 31) 8) ["self","house"]:=⟨f16,_,zay (st:=zaa (top 31) 8) l16 e16 k16,⟨a16,i16,k16⟩,(zay (st:=zaa (top 31) 8) l16 e16 k16).binds fun _ _ _ _ _ _ us hl=>match us,hl with | [_,_],_=>rfl⟩
 let zcu:DfM K zab.C "ask" "Town.ask" (zaa (top 31) 9) ["self","start","goal"]:=⟨f17,_,zay (st:=zaa (top 31) 9) l17 e17 k17,⟨a17,i17,k17⟩,(zay (st:=zaa (top 31) 9) l17 e17 k17).binds fun _ _ _ _ _ _ us hl=>match us,hl with | [_,_,_],_=>rfl⟩
 let zcv:DfM K zab.C "way" "Town.way" (zaa (top 31) 10) ["self","start","goal"]:=⟨f18,_,zay (st:=zaa (top 31) 10) l18 e18 k18,⟨a18,i18,k18⟩,(zay (st:=zaa (top 31) 10) l18 e18 k18).binds fun _ _ _ _ _ _ us hl=>match us,hl with | [_,_,_],_=>rfl⟩
 let zbs:ztg K zab.C "come" "Town.come" (zaa (top 31) 11) ["self","name","door"] [Value.none]:=⟨f19,_,⟨_,_,_,_,_,_,_,_,_,_,rfl,l19,e19⟩,⟨a19,i19,k19⟩,
  fun s us hK hl=>by
   obtain ⟨u0,u1,u2,rfl⟩:=zxq hl
   exact BindsTo.of_defaults rfl (hK _ _ ld19) rfl rfl rfl,
  fun s us hK hl=>by
   obtain ⟨u0,u1,rfl⟩:=zvk hl
   exact BindsTo.of_defaults rfl (hK _ _ ld19) rfl rfl rfl⟩
 let zc8:DfM K zab.C "go" "Town.go" (zaa (top 31) 12) ["self","house"]:=⟨f20,_,zay (st:=zaa (top 31) 12) l20 e20 k20,⟨a20,i20,k20⟩,(zay (st:=zaa (top 31) 12) l20 e20 k20).binds fun _ _ _ _ _ _ us hl=>match us,hl with | [_,_],_=>rfl⟩
 let zbv:DfM K zab.C "hush" "Town.hush" (zaa (top 31) 13) ["self","house"]:=⟨f21,_,zay (st:=zaa (top 31) 13) l21 e21 k21,⟨a21,i21,k21⟩,(zay (st:=zaa (top 31) 13) l21 e21 k21).binds fun _ _ _ _ _ _ us hl=>match us,hl with | [_,_],_=>rfl⟩
 let zcl:DfM K zab.C "wake" "Town.wake" (zaa (top 31) 14) ["self","house","door"]:=⟨f22,_,zay (st:=zaa (top 31) 14) l22 e22 k22,⟨a22,i22,k22⟩,(zay (st:=zaa (top 31) 14) l22 e22 k22).binds fun _ _ _ _ _ _ us hl=>match us,hl with | [_,_,_],_=>rfl⟩
 let zau:DfM K zab.C "check_name" "Town.check_name" (zaa (top 31) 15) ["self","thing"]:=⟨f23,_,zay (st:=zaa (top 31) 15) l23 e23 k23,⟨a23,i23,k23⟩,(zay (st:=zaa (top 31) 15) l23 e23 k23).binds fun _ _ _ _ _ _ us hl=>match us,hl with | [_,_],_=>rfl⟩
 let zac:DfM K zab.C "check_house" "Town.check_house" (zaa (top 31) 16) ["self","thing"]:=⟨f24,_,zay (st:=zaa (top 31) 16) l24 e24 k24,⟨a24,i24,k24⟩,(zay (st:=zaa (top 31) 16) l24 e24 k24).binds fun _ _ _ _ _ _ us hl=>match us,hl with | [_,_],_=>rfl⟩
 let zaf:DfM K zab.C "check_answering" "Town.check_answering" (zaa (top 31) 17) ["self","thing"]:=⟨f25,_,zay (st:=zaa (top 31) 17) l25 e25 k25,⟨a25,i25,k25⟩,(zay (st:=zaa (top 31) 17) l25 e25 k25).binds fun _ _ _ _ _ _ us hl=>match us,hl with | [_,_],_=>rfl⟩
 let zc4:DfM K zab.C "settles" "Town.settles" (zaa (top 31) 19) ["self","house","visited"]:=⟨f26,_,zay (st:=zaa (top 31) 19) l26 e26 k26,⟨a26,i26,k26⟩,(zay (st:=zaa (top 31) 19) l26 e26 k26).binds fun _ _ _ _ _ _ us hl=>match us,hl with | [_,_,_],_=>rfl⟩
 let zcf:DfM K zab.C "visits" "Town.visits" (zaa (top 31) 23) ["self","house","door"]:=⟨f27,_,zay (st:=zaa (top 31) 23) l27 e27 k27,⟨a27,i27,k27⟩,(zay (st:=zaa (top 31) 23) l27 e27 k27).binds fun _ _ _ _ _ _ us hl=>match us,hl with | [_,_,_],_=>rfl⟩
 let zcm:DfM K zab.C "meet" "Town.meet" (zaa (top 31) 24) ["self","one","other"]:=⟨f28,_,zay (st:=zaa (top 31) 24) l28 e28 k28,⟨a28,i28,k28⟩,(zay (st:=zaa (top 31) 24) l28 e28 k28).binds fun _ _ _ _ _ _ us hl=>match us,hl with | [_,_,_],_=>rfl⟩
 let zak:zu1 K zab.C "hears_of" "Town.hears_of" (zaa (top 31) 25) ["self","house","name"]:=⟨f29,c29,P29,_,⟨_,_,_,_,_,_,_,_,rfl,l29⟩,e29,h29,n29,⟨a29,i29,k29⟩,(zay (st:=zaa (top 31) 25) l29 e29 k29).binds fun _ _ _ _ _ _ us hl=>match us,hl with | [_,_,_],_=>rfl⟩
 let zdq:DfE K mg "NearError" :=⟨E0,PySem.W.mg_of X G aE0,xE0⟩
 let zdc:DfE K mg "NoSize" :=⟨E1,PySem.W.mg_of X G aE1,xE1⟩
 let za5:DfE K mg "NoName" :=⟨E2,PySem.W.mg_of X G aE2,xE2⟩
 let zao:DfE K mg "NoHouse" :=⟨E3,PySem.W.mg_of X G aE3,xE3⟩
 let zaz:DfE K mg "Silent" :=⟨E4,PySem.W.mg_of X G aE4,xE4⟩
 let zbw:DfE K mg "Taken" :=⟨E5,PySem.W.mg_of X G aE5,xE5⟩
 let zd6:DfE K mg "NoTown" :=⟨E6,PySem.W.mg_of X G aE6,xE6⟩
 let zeb:DfE K mg "NoLine" :=⟨E7,PySem.W.mg_of X G aE7,xE7⟩
 let zah:Df K mg "is_whole" (top 11) ["thing"]:=⟨_,_,zay (st:=top 11) l30 e30 k30,PySem.W.mg_of X G a30,(zay (st:=top 11) l30 e30 k30).binds fun _ _ _ _ _ _ us hl=>match us,hl with | [_],_=>rfl⟩
 let zan:Df K mg "is_name" (top 12) ["thing","wide"]:=⟨_,_,zay (st:=top 12) l31 e31 k31,PySem.W.mg_of X G a31,(zay (st:=top 12) l31 e31 k31).binds fun _ _ _ _ _ _ us hl=>match us,hl with | [_,_],_=>rfl⟩
 let zfm:Df K mg "far" (top 13) ["one","other"]:=⟨_,_,zay (st:=top 13) l32 e32 k32,PySem.W.mg_of X G a32,(zay (st:=top 13) l32 e32 k32).binds fun _ _ _ _ _ _ us hl=>match us,hl with | [_,_],_=>rfl⟩
 let zeg:Df K mg "step" (top 16) ["one","other"]:=⟨_,_,zay (st:=top 16) l33 e33 k33,PySem.W.mg_of X G a33,(zay (st:=top 16) l33 e33 k33).binds fun _ _ _ _ _ _ us hl=>match us,hl with | [_,_],_=>rfl⟩
 let zdr:Df K mg "is_size" (top 30) ["thing","most"]:=⟨_,_,zay (st:=top 30) l34 e34 k34,PySem.W.mg_of X G a34,(zay (st:=top 30) l34 e34 k34).binds fun _ _ _ _ _ _ us hl=>match us,hl with | [_,_],_=>rfl⟩
 let zbp:Df K mg "_law_mixed" (top 33) ["_law_cell","_law_k"]:=⟨_,_,zay (st:=top 33) l35 e35 k35,PySem.W.mg_of X G a35,(zay (st:=top 33) l35 e35 k35).binds fun _ _ _ _ _ _ us hl=>match us,hl with | [_,_],_=>rfl⟩
 let zdm:Df K mg "_law_wide" (top 34) ["_law_cell"]:=⟨_,_,zay (st:=top 34) l36 e36 k36,PySem.W.mg_of X G a36,(zay (st:=top 34) l36 e36 k36).binds fun _ _ _ _ _ _ us hl=>match us,hl with | [_],_=>rfl⟩
 let zdo:Df K mg "_law_near" (top 35) ["_law_signs","_law_wide_here","_law_first"]:=⟨_,_,zay (st:=top 35) l37 e37 k37,PySem.W.mg_of X G a37,(zay (st:=top 35) l37 e37 k37).binds fun _ _ _ _ _ _ us hl=>match us,hl with | [_,_,_],_=>rfl⟩
 let zbb:Df K mg "_law_awake" (top 36) ["_law_model","_law_name_here"]:=⟨_,_,zay (st:=top 36) l38 e38 k38,PySem.W.mg_of X G a38,(zay (st:=top 36) l38 e38 k38).binds fun _ _ _ _ _ _ us hl=>match us,hl with | [_,_],_=>rfl⟩
 let zcb:Df K mg "_law_hears" (top 37) ["_law_model","_law_house","_law_name_here"]:=⟨_,_,zay (st:=top 37) l39 e39 k39,PySem.W.mg_of X G a39,(zay (st:=top 37) l39 e39 k39).binds fun _ _ _ _ _ _ us hl=>match us,hl with | [_,_,_],_=>rfl⟩
 let zbq:Df K mg "_law_keeps" (top 38) ["_law_model","_law_house"]:=⟨_,_,zay (st:=top 38) l40 e40 k40,PySem.W.mg_of X G a40,(zay (st:=top 38) l40 e40 k40).binds fun _ _ _ _ _ _ us hl=>match us,hl with | [_,_],_=>rfl⟩
 let zcc:Df K mg "_law_come_to" (top 39) ["_law_model","_law_house"]:=⟨_,_,zay (st:=top 39) l41 e41 k41,PySem.W.mg_of X G a41,(zay (st:=top 39) l41 e41 k41).binds fun _ _ _ _ _ _ us hl=>match us,hl with | [_,_],_=>rfl⟩
 let zc_:Df K mg "_law_visit" (top 40) ["_law_model","_law_house","_law_door"]:=⟨_,_,zay (st:=top 40) l42 e42 k42,PySem.W.mg_of X G a42,(zay (st:=top 40) l42 e42 k42).binds fun _ _ _ _ _ _ us hl=>match us,hl with | [_,_,_],_=>rfl⟩
 let zeh:Df K mg "_law_come" (top 41) ["_law_model","_law_name_here","_law_door"]:=⟨_,_,zay (st:=top 41) l43 e43 k43,PySem.W.mg_of X G a43,(zay (st:=top 41) l43 e43 k43).binds fun _ _ _ _ _ _ us hl=>match us,hl with | [_,_,_],_=>rfl⟩
 let zcz:Df K mg "_law_alike" (top 42) ["_law_town","_law_model"]:=⟨_,_,zay (st:=top 42) l44 e44 k44,PySem.W.mg_of X G a44,(zay (st:=top 42) l44 e44 k44).binds fun _ _ _ _ _ _ us hl=>match us,hl with | [_,_],_=>rfl⟩
 let ze2:Df K mg "_law_set" (top 43) ["_law_script"]:=⟨_,_,zay (st:=top 43) l45 e45 k45,PySem.W.mg_of X G a45,(zay (st:=top 43) l45 e45 k45).binds fun _ _ _ _ _ _ us hl=>match us,hl with | [_],_=>rfl⟩
 let zej:Df K mg "_law_some" (top 44) ["_law_model","_law_cell"]:=⟨_,_,zay (st:=top 44) l46 e46 k46,PySem.W.mg_of X G a46,(zay (st:=top 44) l46 e46 k46).binds fun _ _ _ _ _ _ us hl=>match us,hl with | [_,_],_=>rfl⟩
 let zei:Df K mg "_law_name" (top 45) ["_law_model","_law_wide_here","_law_cell"]:=⟨_,_,zay (st:=top 45) l47 e47 k47,PySem.W.mg_of X G a47,(zay (st:=top 45) l47 e47 k47).binds fun _ _ _ _ _ _ us hl=>match us,hl with | [_,_,_],_=>rfl⟩
 let zda:Df K mg "_law_marks" (top 46) ["_law_e"]:=⟨_,_,zay (st:=top 46) l48 e48 k48,PySem.W.mg_of X G a48,(zay (st:=top 46) l48 e48 k48).binds fun _ _ _ _ _ _ us hl=>match us,hl with | [_],_=>rfl⟩
 let zdl:Df K mg "_law_done" (top 47) ["_law_town","_law_kind","_law_house","_law_other"]:=⟨_,_,zay (st:=top 47) l49 e49 k49,PySem.W.mg_of X G a49,(zay (st:=top 47) l49 e49 k49).binds fun _ _ _ _ _ _ us hl=>match us,hl with | [_,_,_,_],_=>rfl⟩
 let zdh:Df K mg "_law_refused" (top 48) ["_law_town","_law_kind","_law_house","_law_other"]:=⟨_,_,zay (st:=top 48) l50 e50 k50,PySem.W.mg_of X G a50,(zay (st:=top 48) l50 e50 k50).binds fun _ _ _ _ _ _ us hl=>match us,hl with | [_,_,_,_],_=>rfl⟩
 let za6:Df K mg "_law_is_name" (top 49) ["_law_thing_here","_law_wide_here"]:=⟨_,_,zay (st:=top 49) l51 e51 k51,PySem.W.mg_of X G a51,(zay (st:=top 49) l51 e51 k51).binds fun _ _ _ _ _ _ us hl=>match us,hl with | [_,_],_=>rfl⟩
 let zba:Df K mg "_law_of_house" (top 50) ["_law_model","_law_wide_here","_law_house","_law_awake_here"]:=⟨_,_,zay (st:=top 50) l52 e52 k52,PySem.W.mg_of X G a52,(zay (st:=top 50) l52 e52 k52).binds fun _ _ _ _ _ _ us hl=>match us,hl with | [_,_,_,_],_=>rfl⟩
 let ze0:Df K mg "_law_due" (top 51) ["_law_model","_law_wide_here","_law_kind","_law_house","_law_other"]:=⟨_,_,zay (st:=top 51) l53 e53 k53,PySem.W.mg_of X G a53,(zay (st:=top 51) l53 e53 k53).binds fun _ _ _ _ _ _ us hl=>match us,hl with | [_,_,_,_,_],_=>rfl⟩
 let zc1:Df K mg "_law_thing" (top 52) ["_law_model","_law_wide_here","_law_cell"]:=⟨_,_,zay (st:=top 52) l54 e54 k54,PySem.W.mg_of X G a54,(zay (st:=top 52) l54 e54 k54).binds fun _ _ _ _ _ _ us hl=>match us,hl with | [_,_,_],_=>rfl⟩
 let zzu:Df K mg "law" (top 53) ["_law_script"]:=⟨_,_,zay (st:=top 53) l55 e55 k55,PySem.W.mg_of X G a55,(zay (st:=top 53) l55 e55 k55).binds fun _ _ _ _ _ _ us hl=>match us,hl with | [_],_=>rfl⟩
 refine ⟨PySem.W.fnOf "law" "law" (za4 (top 53)) (za0 (top 53)) (zai (top 53)) .none kV55 dc55 pm55 an55 cd55 ct55,[(c29,P29)],fun q hq=>by
  simp only [List.mem_cons,List.not_mem_nil,or_false] at hq
  subst hq
  exact ⟨m29,h29,n29⟩,fun s v=> .of_eq rfl,fun base hK hG hB=>?_⟩
 have ht_Town_hears_of:(zak.c,zak.P)∈([(c29,P29)]:List (Addr × Addr)):= .head _
 have hB_Town_hears_of:base.BuiltinsAt mg zak.P:=hB (c29,P29) (by simp)
 exact zxc T hK zdq zdc za5 zao zaz zbw zd6 zeb (mk4 ⟨⟨fa_g1,fa_g2,fa_g3,fa_g4,fg5_,fg6_,fa_g7,fa_g8⟩,za5.ex,fa_mr,fa_m0,fa_m1,fa_m2,fa_m3,fa_m4,fa_m5,fa_m6,fa_mv⟩ ⟨⟨fb_g1,fb_g2,fb_g3,fb_g4,fg5_,fg6_,fb_g7,fb_g8⟩,zao.ex,fb_mr,fb_m0,fb_m1,fb_m2,fb_m3,fb_m4,fb_m5,fb_m6,fb_mv⟩ ⟨⟨fc_g1,fc_g2,fc_g3,fc_g4,fg5_,fg6_,fc_g7,fc_g8⟩,zbw.ex,fc_mr,fc_m0,fc_m1,fc_m2,fc_m3,fc_m4,fc_m5,fc_m6,fc_mv⟩ ⟨⟨fd_g1,fd_g2,fd_g3,fd_g4,fg5_,fg6_,fd_g7,fd_g8⟩,zaz.ex,fd_mr,fd_m0,fd_m1,fd_m2,fd_m3,fd_m4,fd_m5,fd_m6,fd_mv⟩) zah zan zfm zeg zaj zbg zax zav za_ zat zb0 zb3 za7 za1 zbl zdr zab zcd zbr zbz zag zae za8 zbc za2 zcu zcv zbs zc8 zbv zcl zau zac zaf zc4 zcf zcm zak hB_Town_hears_of zbp zdm zdo zbb zcb zbq zcc zc_ zeh zcz ze2 zej zei zda zdl zdh za6 zba ze0 zc1 zzu ht_Town_hears_of
theorem walk {l:PySem.W.OpenLaw} {q:Program} {loose:List Str} {XP:(Str→Option Value)→Heap→Prop} {YP:World→Heap→Prop} {d:DefRec} {K:Params→PySem.W.Frag} {ts:List Addr} (hn:l.most=some 63) (hdf:d.params.defaults=[])
  (hY:∀ (w:World) (h:Heap),YP w h→(K w.params).In h) (hYT:∀ (w:World) (h:Heap),YP w h→∀ P∈ts,h.get? P=some (PySem.W.tabObj #[]))
  (F:∀ (w:World) (mg:Str→Option Value) (fa:Addr) (h:Heap),(K w.params).In h→h.Ns mainGlobals mg→mg d.name=some (.ref fa) →
   ∃ (fd:FuncData) (tabs:List (Addr × Addr)),(∀ q∈tabs,q.2∈ts∧PySem.W.codeHdIn (K w.params) q.1 q.2=true∧(K w.params).lookup q.2=none)∧(∀ (s:Shared) (u:Value),BindsTo s fd ⟨[u],[]⟩ [("_law_script",u)]) ∧
    ∀ base:Heap,(K w.params).In base→base.Ns mainGlobals mg→(∀ q∈tabs,base.BuiltinsAt mg q.2)→zbe l.prog w (K w.params) mg base CX0 13 fa fd ["_law_script"] (zoy (K w.params) tabs)) :
  PySem.W.WalkO q loose XP YP l.row.toRowW d [] (fun f vs=>PySem.call f vs) :=
 L2.walk_ofT (n:=63) (k:=13) (x:= "_law_script") (sp:=zoy) hn (by decide) hdf ⟨rfl,by decide,by decide⟩ hY hYT F fun K tabs H a ns hl hS hT=>⟨a,ns,rfl,hS,hl,hT,fun _=>rfl⟩
end NN
def PySem.W.Fast.tw7450133325606431972:Unit:=()
def PySem.W.Fast.tw17028592606790220317:Unit:=()
def PySem.W.Fast.tw2359572299093586064:Unit:=()
def PySem.W.Fast.tw6737513181311958716:Unit:=()
def PySem.W.Fast.tw15118893244909412598:Unit:=()
def PySem.W.Fast.tw8403654862402207918:Unit:=()
def PySem.W.Fast.tw7318977481920561184:Unit:=()
def PySem.W.Fast.tw10468152010997322357:Unit:=()
def PySem.W.Fast.tw3888324029031097934:Unit:=()
def PySem.W.Fast.tw18021707522779556000:Unit:=()
def PySem.W.Fast.tw16828303285467637323:Unit:=()
def PySem.W.Fast.tw9236886909096492398:Unit:=()
def PySem.W.Fast.tw18177543888568495774:Unit:=()
def PySem.W.Fast.tw13572551914494100606:Unit:=()
def PySem.W.Fast.tw4343694452718861868:Unit:=()
def PySem.W.Fast.tw3304485881921980690:Unit:=()
def PySem.W.Fast.tw492999644168363832:Unit:=()
def PySem.W.Fast.tw14542975496196497530:Unit:=()
def PySem.W.Fast.tw6283805833349154289:Unit:=()
def PySem.W.Fast.tw5729810851335263516:Unit:=()
def PySem.W.Fast.tw1284049364742052133:Unit:=()
def PySem.W.Fast.tw14768325603807627301:Unit:=()
def PySem.W.Fast.tw14612051372044568368:Unit:=()
def PySem.W.Fast.tw439645996943687825:Unit:=()
def PySem.W.Fast.tw8747948735756930376:Unit:=()
def PySem.W.Fast.tw6344914111340090064:Unit:=()
def PySem.W.Fast.tw12444344319795482740:Unit:=()
def PySem.W.Fast.tw11177306708088580639:Unit:=()
def PySem.W.Fast.tw12980923832685367216:Unit:=()
def PySem.W.Fast.tw14996949358201789474:Unit:=()
def PySem.W.Fast.tw128826919607212339:Unit:=()
def PySem.W.Fast.tw16992931879136557194:Unit:=()
def PySem.W.Fast.tw3331527000790848057:Unit:=()
def PySem.W.Fast.tw17264216254101922736:Unit:=()
def PySem.W.Fast.tw11746108805495529072:Unit:=()
def PySem.W.Fast.tw4900445545037920915:Unit:=()
def PySem.W.Fast.tw12348308376041056995:Unit:=()
def PySem.W.Fast.tw8010039624604115296:Unit:=()
def PySem.W.Fast.tw11863980696205099622:Unit:=()
def PySem.W.Fast.tw1359649862803107012:Unit:=()
def PySem.W.Fast.tw10605419820112381431:Unit:=()
def PySem.W.Fast.tw17668880338252360596:Unit:=()
def PySem.W.Fast.tw10008277464877786968:Unit:=()
def PySem.W.Fast.tw6398729662334387904:Unit:=()
def PySem.W.Fast.tw4057309991186534655:Unit:=()
def PySem.W.Fast.tw8839147989891744166:Unit:=()
def PySem.W.Fast.tw10636791645140706923:Unit:=()
def PySem.W.Fast.tw8788532925733952884:Unit:=()
def PySem.W.Fast.tw10293321968922304576:Unit:=()
def PySem.W.Fast.tw599677560968719628:Unit:=()
def PySem.W.Fast.tw9354041275212675737:Unit:=()
def PySem.W.Fast.tw17546889476169094033:Unit:=()
def PySem.W.Fast.tw1514682082689358967:Unit:=()
def PySem.W.Fast.tw8102507267584238634:Unit:=()
def PySem.W.Fast.tw3854196225984212911:Unit:=()
def PySem.W.Fast.tw6314633308293387358:Unit:=()
def PySem.W.Fast.tw4889024844865392786:Unit:=()
def PySem.W.Fast.tw16024271087594828563:Unit:=()
def PySem.W.Fast.tw2765025582470287545:Unit:=()
def PySem.W.Fast.tw11815894857301635998:Unit:=()
def PySem.W.Fast.tw2088619735214155096:Unit:=()
def PySem.W.Fast.tw15406883806887353993:Unit:=()
def PySem.W.Fast.tw12530803482114524100:Unit:=()
def PySem.W.Fast.tw17091460928238173061:Unit:=()
def PySem.W.Fast.tw3354376365539164235:Unit:=()
def PySem.W.Fast.tw16230744738712318256:Unit:=()
def PySem.W.Fast.tw12634346021790462310:Unit:=()
def PySem.W.Fast.tw4909450252331672618:Unit:=()
def PySem.W.Fast.tw13040254952277570308:Unit:=()
def PySem.W.Fast.tw4386406755284256981:Unit:=()
def PySem.W.Fast.tw1136822259075082826:Unit:=()
def PySem.W.Fast.tw11670669639025866141:Unit:=()
def PySem.W.Fast.tw17476913563663894299:Unit:=()
def PySem.W.Fast.tw6407482203948060073:Unit:=()
def PySem.W.Fast.tw10963758662155848113:Unit:=()
def PySem.W.Fast.tw6272566769840928325:Unit:=()
def PySem.W.Fast.tw18111731878362301744:Unit:=()
def PySem.W.Fast.tw10423230923764061678:Unit:=()
def PySem.W.Fast.tw16629354051367263011:Unit:=()
def PySem.W.Fast.tw3360115254950215684:Unit:=()
def PySem.W.Fast.tw12795617797368555559:Unit:=()
def PySem.W.Fast.tw3813929112903567907:Unit:=()
def PySem.W.Fast.tw15365440408701569383:Unit:=()
def PySem.W.Fast.tw9275027722911604372:Unit:=()
def PySem.W.Fast.tw6702395117147244921:Unit:=()
def PySem.W.Fast.tw4449170610382540313:Unit:=()
def PySem.W.Fast.tw7774859107086068080:Unit:=()
def PySem.W.Fast.tw10072615188365092720:Unit:=()
def PySem.W.Fast.tw14780762417856051575:Unit:=()
def PySem.W.Fast.tw9532178843036336515:Unit:=()
def PySem.W.Fast.tw3466243938334487256:Unit:=()
def PySem.W.Fast.tw1846415140303498675:Unit:=()
def PySem.W.Fast.tw4643361827650133254:Unit:=()
def PySem.W.Fast.tw17294811353333840823:Unit:=()
def PySem.W.Fast.tw1193748216051810469:Unit:=()
def PySem.W.Fast.tw16786748332925647381:Unit:=()
def PySem.W.Fast.tw12324816015630305193:Unit:=()
def PySem.W.Fast.tw5039957446882774304:Unit:=()
def PySem.W.Fast.tw3160017584182727784:Unit:=()
def PySem.W.Fast.tw4807165305033279873:Unit:=()
def PySem.W.Fast.tw2753107438075429698:Unit:=()
def PySem.W.Fast.tw16623113517368846063:Unit:=()
def PySem.W.Fast.tw13096801919046303580:Unit:=()
def PySem.W.Fast.tw660005399969118495:Unit:=()
def PySem.W.Fast.tw10490843433646375661:Unit:=()
def PySem.W.Fast.tw5179269874517115589:Unit:=()
def PySem.W.Fast.tw16994148439842458175:Unit:=()
def PySem.W.Fast.tw8467324246034887750:Unit:=()
def PySem.W.Fast.tw5395112361595177765:Unit:=()
def PySem.W.Fast.tw13783304106004805646:Unit:=()
def PySem.W.Fast.tw7829742349819192080:Unit:=()
def PySem.W.Fast.tw6547553707333802792:Unit:=()
def PySem.W.Fast.tw10802537621459537383:Unit:=()
def PySem.W.Fast.tw8585796901707425380:Unit:=()
def PySem.W.Fast.tw4689953058459049312:Unit:=()
def PySem.W.Fast.tw10486638230659809083:Unit:=()
def PySem.W.Fast.tw3565325989112590156:Unit:=()
def PySem.W.Fast.tw9921285658286191846:Unit:=()
def PySem.W.Fast.tw852595573944283136:Unit:=()
def PySem.W.Fast.tw7162379717262560187:Unit:=()
def PySem.W.Fast.tw13221444069545891676:Unit:=()
def PySem.W.Fast.tw12243504916660936571:Unit:=()
def PySem.W.Fast.tw2053888138322605950:Unit:=()
def PySem.W.Fast.tw11991504472943275599:Unit:=()
def PySem.W.Fast.tw17166736104286795643:Unit:=()
def PySem.W.Fast.tw13889380624502317552:Unit:=()
def PySem.W.Fast.tw6233017393508252953:Unit:=()
def PySem.W.Fast.tw9173776770261347438:Unit:=()
def PySem.W.Fast.tw609499127817943865:Unit:=()
def PySem.W.Fast.tw13773646278541603232:Unit:=()
def PySem.W.Fast.tw13579843056714133848:Unit:=()
def PySem.W.Fast.tw6706356989275888727:Unit:=()
def PySem.W.Fast.tw15857031607236148493:Unit:=()
def PySem.W.Fast.tw4919878739264299380:Unit:=()
def PySem.W.Fast.tw191106576494034576:Unit:=()
def PySem.W.Fast.tw17755829883501475552:Unit:=()
def PySem.W.Fast.tw2557210332058823151:Unit:=()
def PySem.W.Fast.tw14067642098768831141:Unit:=()
def PySem.W.Fast.tw15995728189429539340:Unit:=()
def PySem.W.Fast.tw10671453000971098238:Unit:=()
def PySem.W.Fast.tw1629176562238012594:Unit:=()
def PySem.W.Fast.tw12902468477337367501:Unit:=()
def PySem.W.Fast.tw18085293668234571735:Unit:=()
def PySem.W.Fast.tw647907453219854349:Unit:=()
def PySem.W.Fast.tw12434834402736670284:Unit:=()
def PySem.W.Fast.tw526853274110742619:Unit:=()
def PySem.W.Fast.tw121924986561486691:Unit:=()
def PySem.W.Fast.tw11117361612854142100:Unit:=()
def PySem.W.Fast.tw278781973725663686:Unit:=()
def PySem.W.Fast.tw17027132249460341389:Unit:=()
def PySem.W.Fast.tw11908676723560214142:Unit:=()
def PySem.W.Fast.tw5351772693927963013:Unit:=()
def PySem.W.Fast.tw5882593687897826196:Unit:=()
def PySem.W.Fast.tw7426795211228225437:Unit:=()
def PySem.W.Fast.tw10013475287386566227:Unit:=()
def PySem.W.Fast.tw7514406039258639974:Unit:=()
def PySem.W.Fast.tw9825188491369686566:Unit:=()
def PySem.W.Fast.tw10846502062014712125:Unit:=()
def PySem.W.Fast.tw8504752214289670982:Unit:=()
def PySem.W.Fast.tw12279754465330250512:Unit:=()
def PySem.W.Fast.tw18259930823806663805:Unit:=()
def PySem.W.Fast.tw13893505752297662625:Unit:=()
def PySem.W.Fast.tw9060352333216890398:Unit:=()
def PySem.W.Fast.tw10612887179190446021:Unit:=()
def PySem.W.Fast.tw16550411907200475795:Unit:=()
def PySem.W.Fast.tw11951701712297767852:Unit:=()
def PySem.W.Fast.tw9246959316895712478:Unit:=()
def PySem.W.Fast.tw15934178788353739477:Unit:=()
def PySem.W.Fast.tw2111676648375516772:Unit:=()
def PySem.W.Fast.tw1966617786581664035:Unit:=()
def PySem.W.Fast.tw13423490707632274958:Unit:=()
def PySem.W.Fast.tw11270355069429643338:Unit:=()
def PySem.W.Fast.tw5005691023675810324:Unit:=()
def PySem.W.Fast.tw10882836769849424860:Unit:=()
def PySem.W.Fast.tw6371302984958394747:Unit:=()
def PySem.W.Fast.tw715106518572775868:Unit:=()
def PySem.W.Fast.tw731281804157379618:Unit:=()
def PySem.W.Fast.tw15264448756205946288:Unit:=()
def PySem.W.Fast.tw11314542233063517005:Unit:=()
def PySem.W.Fast.tw10186893660732276412:Unit:=()
def PySem.W.Fast.tw9213497768177722527:Unit:=()
def PySem.W.Fast.tw16337762542163682654:Unit:=()
def PySem.W.Fast.tw3064047498872019820:Unit:=()
def PySem.W.Fast.tw6076548695688277579:Unit:=()
def PySem.W.Fast.tw151666991966341088:Unit:=()
def PySem.W.Fast.tw13309928762987642033:Unit:=()
def PySem.W.Fast.tw4851595984983113291:Unit:=()
def PySem.W.Fast.tw7607881383405151343:Unit:=()
def PySem.W.Fast.tw2235864401352700717:Unit:=()
def PySem.W.Fast.tw15881136523229523295:Unit:=()
def PySem.W.Fast.tw6303071249947371394:Unit:=()
def PySem.W.Fast.tw3123450482474924427:Unit:=()
def PySem.W.Fast.tw9872488293240262961:Unit:=()
def PySem.W.Fast.tw5427037467887831399:Unit:=()
def PySem.W.Fast.tw11973015716503014394:Unit:=()
def PySem.W.Fast.tw2189464369059587504:Unit:=()
def PySem.W.Fast.tw1981205883628546477:Unit:=()
def PySem.W.Fast.tw3090699729594254334:Unit:=()
def PySem.W.Fast.tw442844571319006599:Unit:=()
def PySem.W.Fast.tw2417752716882036616:Unit:=()
def PySem.W.Fast.tw11220784860497625189:Unit:=()
def PySem.W.Fast.tw17295682884240519348:Unit:=()
def PySem.W.Fast.tw5533263239484895568:Unit:=()
def PySem.W.Fast.tw11170329296086712418:Unit:=()
def PySem.W.Fast.tw83133445618905154:Unit:=()
def PySem.W.Fast.tw6492374445254523079:Unit:=()
def PySem.W.Fast.tw8603819798303752916:Unit:=()
def PySem.W.Fast.tw2097037656325603491:Unit:=()
def PySem.W.Fast.tw9172981354550475323:Unit:=()
def PySem.W.Fast.tw4544496317939857513:Unit:=()
def PySem.W.Fast.tw15348065636004034627:Unit:=()
def PySem.W.Fast.tw1710858250522251531:Unit:=()
def PySem.W.Fast.tw7738476079277590974:Unit:=()
def PySem.W.Fast.tw12626034321589929682:Unit:=()
def PySem.W.Fast.tw2121257119242722831:Unit:=()
def PySem.W.Fast.tw12053913169782974515:Unit:=()
def PySem.W.Fast.tw3623652746840949743:Unit:=()
def PySem.W.Fast.tw17059042571889068625:Unit:=()
def PySem.W.Fast.tw6654897574515452663:Unit:=()
def PySem.W.Fast.tw16413673793489260149:Unit:=()
def PySem.W.Fast.tw1535783478488349228:Unit:=()
def PySem.W.Fast.tw8926259010161857321:Unit:=()
def PySem.W.Fast.tw527261561683651790:Unit:=()
def PySem.W.Fast.tw17581527255400217777:Unit:=()
def PySem.W.Fast.tw16975971734594681778:Unit:=()
def PySem.W.Fast.tw4149090276888608833:Unit:=()
def PySem.W.Fast.tw15650890915802800519:Unit:=()
def PySem.W.Fast.tw14959839651010566264:Unit:=()
def PySem.W.Fast.tw11926407752302692180:Unit:=()
def PySem.W.Fast.tw11643767418075400337:Unit:=()
def PySem.W.Fast.tw11088369415733557186:Unit:=()
def PySem.W.Fast.tw16410499320671274380:Unit:=()
def PySem.W.Fast.tw988137384030780282:Unit:=()
def PySem.W.Fast.tw8637036270124478362:Unit:=()
open PySem PySem.W PyProof.Rows
set_option maxRecDepth 100000 in
set_option maxHeartbeats 0 in
theorem PySem.Challenge.cw_nearnames_k36_towns_refused_holds : PySem.Challenge.rw_nearnames_k36_towns_refused.Holds := by
 w_on; o_law; k_head; (case hw=>w_witness2)
 k_fill
 refine NN.walk (l:=PySem.Challenge.rw_nearnames_k36_towns_refused) rfl rfl (fun w h Y=>PySem.W.km_in_of Y) (fun w h Y=>PySem.W.km_tabs_of Y) ?F
 case F =>
  intro w mg fa h KX G hmg
  refine' NN.all_mk KX G hmg ?aC0 ?pg0 ?hd0 ?po0 ?sa0 ?mk0 ?kc0 ?na0_0 ?na0_1 ?a0 ?i0 ?l0 ?e0 ?k0 ?a1 ?i1 ?l1 ?e1 ?k1 ?a2 ?i2 ?l2 ?e2 ?k2 ?a3 ?i3 ?l3 ?e3 ?k3 ?aC1 ?pg1 ?hd1 ?po1 ?sa1 ?mk1 ?kc1 ?na1_0 ?na1_1 ?na1_2 ?na1_3 ?a4 ?i4 ?l4 ?e4 ?k4 ?a5 ?i5 ?l5 ?e5 ?k5 ?a6 ?i6 ?l6 ?e6 ?k6 ?a7 ?i7 ?l7 ?e7 ?k7 ?a8 ?i8 ?l8 ?e8 ?k8 ?aC2 ?pg2 ?hd2 ?po2 ?sa2 ?mk2 ?kc2 ?na2_0 ?na2_1 ?na2_2 ?na2_3 ?a9 ?i9 ?l9 ?e9 ?k9 ?a10 ?i10 ?l10 ?e10 ?k10 ?a11 ?i11 ?l11 ?e11 ?k11 ?a12 ?i12 ?l12 ?e12 ?k12 ?a13 ?i13 ?l13 ?e13 ?k13 ?a14 ?i14 ?l14 ?e14 ?k14 ?a15 ?i15 ?l15 ?e15 ?k15 ?a16 ?i16 ?l16 ?e16 ?k16 ?a17 ?i17 ?l17 ?e17 ?k17 ?a18 ?i18 ?l18 ?e18 ?k18 ?a19 ?i19 ?l19 ?ld19 ?e19 ?k19 ?a20 ?i20 ?l20 ?e20 ?k20 ?a21 ?i21 ?l21 ?e21 ?k21 ?a22 ?i22 ?l22 ?e22 ?k22 ?a23 ?i23 ?l23 ?e23 ?k23 ?a24 ?i24 ?l24 ?e24 ?k24 ?a25 ?i25 ?l25 ?e25 ?k25 ?a26 ?i26 ?l26 ?e26 ?k26 ?a27 ?i27 ?l27 ?e27 ?k27 ?a28 ?i28 ?l28 ?e28 ?k28 ?a29 ?i29 ?l29 ?e29 ?k29 ?t29 ?r29 ?h29 ?n29 ?m29 ?aE0 ?xE0 ?aE1 ?xE1 ?aE2 ?xE2 ?aE3 ?xE3 ?aE4 ?xE4 ?aE5 ?xE5 ?aE6 ?xE6 ?aE7 ?xE7 ?fg5_ ?fg6_ ?fa_g1 ?fa_g2 ?fa_g3 ?fa_g4 ?fa_g7 ?fa_g8 ?fa_mr ?fa_m0 ?fa_m1 ?fa_m2 ?fa_m3 ?fa_m4 ?fa_m5 ?fa_m6 ?fa_mv ?fb_g1 ?fb_g2 ?fb_g3 ?fb_g4 ?fb_g7 ?fb_g8 ?fb_mr ?fb_m0 ?fb_m1 ?fb_m2 ?fb_m3 ?fb_m4 ?fb_m5 ?fb_m6 ?fb_mv ?fc_g1 ?fc_g2 ?fc_g3 ?fc_g4 ?fc_g7 ?fc_g8 ?fc_mr ?fc_m0 ?fc_m1 ?fc_m2 ?fc_m3 ?fc_m4 ?fc_m5 ?fc_m6 ?fc_mv ?fd_g1 ?fd_g2 ?fd_g3 ?fd_g4 ?fd_g7 ?fd_g8 ?fd_mr ?fd_m0 ?fd_m1 ?fd_m2 ?fd_m3 ?fd_m4 ?fd_m5 ?fd_m6 ?fd_mv ?a30 ?l30 ?e30 ?k30 ?a31 ?l31 ?e31 ?k31 ?a32 ?l32 ?e32 ?k32 ?a33 ?l33 ?e33 ?k33 ?a34 ?l34 ?e34 ?k34 ?a35 ?l35 ?e35 ?k35 ?a36 ?l36 ?e36 ?k36 ?a37 ?l37 ?e37 ?k37 ?a38 ?l38 ?e38 ?k38 ?a39 ?l39 ?e39 ?k39 ?a40 ?l40 ?e40 ?k40 ?a41 ?l41 ?e41 ?k41 ?a42 ?l42 ?e42 ?k42 ?a43 ?l43 ?e43 ?k43 ?a44 ?l44 ?e44 ?k44 ?a45 ?l45 ?e45 ?k45 ?a46 ?l46 ?e46 ?k46 ?a47 ?l47 ?e47 ?k47 ?a48 ?l48 ?e48 ?k48 ?a49 ?l49 ?e49 ?k49 ?a50 ?l50 ?e50 ?k50 ?a51 ?l51 ?e51 ?k51 ?a52 ?l52 ?e52 ?k52 ?a53 ?l53 ?e53 ?k53 ?a54 ?l54 ?e54 ?k54 ?a55 ?l55 ?e55 ?k55 ?z0 ?z1 ?z2 ?z3 ?z4 ?z5 ?z6 ?z7 ?z8 ?z9 ?z10 ?z11 ?z12
  (case aC0=>k_is)
  (case pg0=>k_is)
  (case hd0=>k_is)
  (case po0=>k_is)
  (case sa0=>k_is)
  (case mk0=>k_is)
  (case kc0=>k_is)
  (case na0_0=>k_is)
  (case na0_1=>k_is)
  (case a0=>k_is)
  (case i0=>k_is)
  (case l0=>k_is)
  (case e0=>k_is)
  (case k0=>k_is)
  (case a1=>k_is)
  (case i1=>k_is)
  (case l1=>k_is)
  (case e1=>k_is)
  (case k1=>k_is)
  (case a2=>k_is)
  (case i2=>k_is)
  (case l2=>k_is)
  (case e2=>k_is)
  (case k2=>k_is)
  (case a3=>k_is)
  (case i3=>k_is)
  (case l3=>k_is)
  (case e3=>k_is)
  (case k3=>k_is)
  (case aC1=>k_is)
  (case pg1=>k_is)
  (case hd1=>k_is)
  (case po1=>k_is)
  (case sa1=>k_is)
  (case mk1=>k_is)
  (case kc1=>k_is)
  (case na1_0=>k_is)
  (case na1_1=>k_is)
  (case na1_2=>k_is)
  (case na1_3=>k_is)
  (case a4=>k_is)
  (case i4=>k_is)
  (case l4=>k_is)
  (case e4=>k_is)
  (case k4=>k_is)
  (case a5=>k_is)
  (case i5=>k_is)
  (case l5=>k_is)
  (case e5=>k_is)
  (case k5=>k_is)
  (case a6=>k_is)
  (case i6=>k_is)
  (case l6=>k_is)
  (case e6=>k_is)
  (case k6=>k_is)
  (case a7=>k_is)
  (case i7=>k_is)
  (case l7=>k_is)
  (case e7=>k_is)
  (case k7=>k_is)
  (case a8=>k_is)
  (case i8=>k_is)
  (case l8=>k_is)
  (case e8=>k_is)
  (case k8=>k_is)
  (case aC2=>k_is)
  (case pg2=>k_is)
  (case hd2=>k_is)
  (case po2=>k_is)
  (case sa2=>k_is)
  (case mk2=>k_is)
  (case kc2=>k_is)
  (case na2_0=>k_is)
  (case na2_1=>k_is)
  (case na2_2=>k_is)
  (case na2_3=>k_is)
  (case a9=>k_is)
  (case i9=>k_is)
  (case l9=>k_is)
  (case e9=>k_is)
  (case k9=>k_is)
  (case a10=>k_is)
  (case i10=>k_is)
  (case l10=>k_is)
  (case e10=>k_is)
  (case k10=>k_is)
  (case a11=>k_is)
  (case i11=>k_is)
  (case l11=>k_is)
  (case e11=>k_is)
  (case k11=>k_is)
  (case a12=>k_is)
  (case i12=>k_is)
  (case l12=>k_is)
  (case e12=>k_is)
  (case k12=>k_is)
  (case a13=>k_is)
  (case i13=>k_is)
  (case l13=>k_is)
  (case e13=>k_is)
  (case k13=>k_is)
  (case a14=>k_is)
  (case i14=>k_is)
  (case l14=>k_is)
  (case e14=>k_is)
  (case k14=>k_is)
  (case a15=>k_is)
  (case i15=>k_is)
  (case l15=>k_is)
  (case e15=>k_is)
  (case k15=>k_is)
  (case a16=>k_is)
  (case i16=>k_is)
  (case l16=>k_is)
  (case e16=>k_is)
  (case k16=>k_is)
  (case a17=>k_is)
  (case i17=>k_is)
  (case l17=>k_is)
  (case e17=>k_is)
  (case k17=>k_is)
  (case a18=>k_is)
  (case i18=>k_is)
  (case l18=>k_is)
  (case e18=>k_is)
  (case k18=>k_is)
  (case a19=>k_is)
  (case i19=>k_is)
  (case l19=>k_is)
  (case ld19=>k_is)
  (case e19=>k_is)
  (case k19=>k_is)
  (case a20=>k_is)
  (case i20=>k_is)
  (case l20=>k_is)
  (case e20=>k_is)
  (case k20=>k_is)
  (case a21=>k_is)
  (case i21=>k_is)
  (case l21=>k_is)
  (case e21=>k_is)
  (case k21=>k_is)
  (case a22=>k_is)
  (case i22=>k_is)
  (case l22=>k_is)
  (case e22=>k_is)
  (case k22=>k_is)
  (case a23=>k_is)
  (case i23=>k_is)
  (case l23=>k_is)
  (case e23=>k_is)
  (case k23=>k_is)
  (case a24=>k_is)
  (case i24=>k_is)
  (case l24=>k_is)
  (case e24=>k_is)
  (case k24=>k_is)
  (case a25=>k_is)
  (case i25=>k_is)
  (case l25=>k_is)
  (case e25=>k_is)
  (case k25=>k_is)
  (case a26=>k_is)
  (case i26=>k_is)
  (case l26=>k_is)
  (case e26=>k_is)
  (case k26=>k_is)
  (case a27=>k_is)
  (case i27=>k_is)
  (case l27=>k_is)
  (case e27=>k_is)
  (case k27=>k_is)
  (case a28=>k_is)
  (case i28=>k_is)
  (case l28=>k_is)
  (case e28=>k_is)
  (case k28=>k_is)
  (case a29=>k_is)
  (case i29=>k_is)
  (case l29=>k_is)
  (case e29=>k_is)
  (case k29=>k_is)
  (case t29=>k_is)
  (case r29=>exact rfl)
  (case h29=>kernel_rfl)
  (case n29=>kernel_rfl)
  (case m29=>decide)
  (case aE0=>k_is)
  (case xE0=>k_exc)
  (case aE1=>k_is)
  (case xE1=>k_exc)
  (case aE2=>k_is)
  (case xE2=>k_exc)
  (case aE3=>k_is)
  (case xE3=>k_exc)
  (case aE4=>k_is)
  (case xE4=>k_exc)
  (case aE5=>k_is)
  (case xE5=>k_exc)
  (case aE6=>k_is)
  (case xE6=>k_exc)
  (case aE7=>k_is)
  (case xE7=>k_exc)
  (case fg5_=>k_is)
  (case fg6_=>k_is)
  (case fa_g1=>k_is)
  (case fa_g2=>k_is)
  (case fa_g3=>k_is)
  (case fa_g4=>k_is)
  (case fa_g7=>k_is)
  (case fa_g8=>k_is)
  (case fa_mr=>kernel_rfl)
  (case fa_m0=>kernel_rfl)
  (case fa_m1=>kernel_rfl)
  (case fa_m2=>kernel_rfl)
  (case fa_m3=>kernel_rfl)
  (case fa_m4=>kernel_rfl)
  (case fa_m5=>kernel_rfl)
  (case fa_m6=>kernel_rfl)
  (case fa_mv=>kernel_rfl)
  (case fb_g1=>k_is)
  (case fb_g2=>k_is)
  (case fb_g3=>k_is)
  (case fb_g4=>k_is)
  (case fb_g7=>k_is)
  (case fb_g8=>k_is)
  (case fb_mr=>kernel_rfl)
  (case fb_m0=>kernel_rfl)
  (case fb_m1=>kernel_rfl)
  (case fb_m2=>kernel_rfl)
  (case fb_m3=>kernel_rfl)
  (case fb_m4=>kernel_rfl)
  (case fb_m5=>kernel_rfl)
  (case fb_m6=>kernel_rfl)
  (case fb_mv=>kernel_rfl)
  (case fc_g1=>k_is)
  (case fc_g2=>k_is)
  (case fc_g3=>k_is)
  (case fc_g4=>k_is)
  (case fc_g7=>k_is)
  (case fc_g8=>k_is)
  (case fc_mr=>kernel_rfl)
  (case fc_m0=>kernel_rfl)
  (case fc_m1=>kernel_rfl)
  (case fc_m2=>kernel_rfl)
  (case fc_m3=>kernel_rfl)
  (case fc_m4=>kernel_rfl)
  (case fc_m5=>kernel_rfl)
  (case fc_m6=>kernel_rfl)
  (case fc_mv=>kernel_rfl)
  (case fd_g1=>k_is)
  (case fd_g2=>k_is)
  (case fd_g3=>k_is)
  (case fd_g4=>k_is)
  (case fd_g7=>k_is)
  (case fd_g8=>k_is)
  (case fd_mr=>kernel_rfl)
  (case fd_m0=>kernel_rfl)
  (case fd_m1=>kernel_rfl)
  (case fd_m2=>kernel_rfl)
  (case fd_m3=>kernel_rfl)
  (case fd_m4=>kernel_rfl)
  (case fd_m5=>kernel_rfl)
  (case fd_m6=>kernel_rfl)
  (case fd_mv=>kernel_rfl)
  (case a30=>k_is)
  (case l30=>k_is)
  (case e30=>k_is)
  (case k30=>k_is)
  (case a31=>k_is)
  (case l31=>k_is)
  (case e31=>k_is)
  (case k31=>k_is)
  (case a32=>k_is)
  (case l32=>k_is)
  (case e32=>k_is)
  (case k32=>k_is)
  (case a33=>k_is)
  (case l33=>k_is)
  (case e33=>k_is)
  (case k33=>k_is)
  (case a34=>k_is)
  (case l34=>k_is)
  (case e34=>k_is)
  (case k34=>k_is)
  (case a35=>k_is)
  (case l35=>k_is)
  (case e35=>k_is)
  (case k35=>k_is)
  (case a36=>k_is)
  (case l36=>k_is)
  (case e36=>k_is)
  (case k36=>k_is)
  (case a37=>k_is)
  (case l37=>k_is)
  (case e37=>k_is)
  (case k37=>k_is)
  (case a38=>k_is)
  (case l38=>k_is)
  (case e38=>k_is)
  (case k38=>k_is)
  (case a39=>k_is)
  (case l39=>k_is)
  (case e39=>k_is)
  (case k39=>k_is)
  (case a40=>k_is)
  (case l40=>k_is)
  (case e40=>k_is)
  (case k40=>k_is)
  (case a41=>k_is)
  (case l41=>k_is)
  (case e41=>k_is)
  (case k41=>k_is)
  (case a42=>k_is)
  (case l42=>k_is)
  (case e42=>k_is)
  (case k42=>k_is)
  (case a43=>k_is)
  (case l43=>k_is)
  (case e43=>k_is)
  (case k43=>k_is)
  (case a44=>k_is)
  (case l44=>k_is)
  (case e44=>k_is)
  (case k44=>k_is)
  (case a45=>k_is)
  (case l45=>k_is)
  (case e45=>k_is)
  (case k45=>k_is)
  (case a46=>k_is)
  (case l46=>k_is)
  (case e46=>k_is)
  (case k46=>k_is)
  (case a47=>k_is)
  (case l47=>k_is)
  (case e47=>k_is)
  (case k47=>k_is)
  (case a48=>k_is)
  (case l48=>k_is)
  (case e48=>k_is)
  (case k48=>k_is)
  (case a49=>k_is)
  (case l49=>k_is)
  (case e49=>k_is)
  (case k49=>k_is)
  (case a50=>k_is)
  (case l50=>k_is)
  (case e50=>k_is)
  (case k50=>k_is)
  (case a51=>k_is)
  (case l51=>k_is)
  (case e51=>k_is)
  (case k51=>k_is)
  (case a52=>k_is)
  (case l52=>k_is)
  (case e52=>k_is)
  (case k52=>k_is)
  (case a53=>k_is)
  (case l53=>k_is)
  (case e53=>k_is)
  (case k53=>k_is)
  (case a54=>k_is)
  (case l54=>k_is)
  (case e54=>k_is)
  (case k54=>k_is)
  (case a55=>k_is)
  (case l55=>k_is)
  (case e55=>k_is)
  (case k55=>k_is)
  (case z0=>k_is)
  (case z1=>k_is)
  (case z2=>k_is)
  (case z3=>k_is)
  (case z4=>k_is)
  (case z5=>k_is)
  (case z6=>k_is)
  (case z7=>k_is)
  (case z8=>k_is)
  (case z9=>k_is)
  (case z10=>k_is)
  (case z11=>k_is)
  (case z12=>k_is)
#print axioms PySem.Challenge.cw_nearnames_k36_towns_refused_holds
