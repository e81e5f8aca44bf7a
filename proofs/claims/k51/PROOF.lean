import PyProof.Rows.All
import KE.KSortTup
import Wide.All
import OpenK.AllK
import Wide.FinOn
import Lean
import PyProof.EqAt
import PyProof.EqKinds
import PyProof.TupleCall
import PySem.Challenge.RW_nearnames_k51_laid_at_the_nearest
set_option Elab.async false
set_option linter.all false
set_option maxRecDepth 100000
open List (find? map)
open List renaming mem_append_right->fh,mem_singleton->fi,length_map->fj,mem_cons_of_mem->fk,length_append->fm,mem_append->fq,length_singleton->fu,size_toArray->fw,mem_cons_self->gb,mem_append_left->gg,mem_of_getElem?->gj,length_take->gq,take_length->gr,mem_cons->gs,take_succ_eq_append_getElem->gu,mem_filter->gv,map_append->gy,map_cons->gz,lookup_cons->i0,take_of_length_le->i3,filterMap_cons->i4,map_congr_left->i5,length_cons->i8,mem_of_mem_take->ia,length_filter_le->ib,nodup_nil->ii,length_erase_of_mem->im,nodup_cons->io,filter_sublist->ip,length_eq_zero_iff->iq,append_nil->iu,mem_filterMap->iw,pairwise_cons->iy,mem_map->j7,map_map->j8,take_add_one->jb,toArray->jc,filter_append->jd,length_nil->jf,all_eq_true->jg,pairwise_map->jj,getElem_of_mem->jm,getElem_inj->jo,getElem_mem->jp,not_mem_nil->jq,range->js,nodup_append->jt,filter_congr->jw,of_mem_zip->jz,length_drop->ki,length->kj,any_cons->kn,filter_map->kx,take_sublist->l4,mem_range->l9,replicate->lc,drop_zero->lg,ext_getElem->lq,filter_cons->lw,forIn_cons->m6,nil_perm->md,map_take->mh,map_nil->mk,all_cons->ml
open Nat (mod_lt)
open Nat renaming lt_of_lt_of_le->gc,le_refl->gf,ne_of_lt->gl,le_trans->gm,le_of_lt->gx,zero_le->i9,lt_succ_self->ic,lt_succ_of_lt->iz,le_of_ble_eq_true->j0,le_succ->j3,lt_of_le_of_lt->j4,lt_irrefl->j6,ne_of_gt->j9,div_eq_of_lt->jv,le_of_eq->jy,lt_trans->ma,xor_self->mf,pow_succ->mn,not_lt->mw,pow_pos->mz
open PySem.Heap renaming lt_size->gi,size_push->jn,size_update->lu
open PySem.F renaming plainAttrs_list->i6,plain_max_loop->j5,plainAttrs_dict->jh,excBase_ValueError->jk,slot_dict_pop->jr,slot_dict_get->kr,slot_tuple_add->lx,entry_dict_pop->ly,entry_dict_get->lz,entry_max_loop->m5,type_dict_pop->mi
open Array (getD map)
open Array renaming length_toList->ie,getElem_toList->ke,toList_push->lr
open PySem.Around renaming under_plainId->ig
open Bool renaming and_eq_true->ik,false_eq_true->je,eq_false_iff->ji,not_eq_true'->ju
open Option (map)
open Option renaming map_eq_none_iff->ir,map_eq_some_iff->jx,map_some->l8,isSome_some->lv,isSome_map->m7,getD_none->n8,getD_some->n9
open Int renaming toNat_natCast->ix
open PySem.W (typeIn)
open PySem.W renaming emptyDict->ja,kia_one->jl,cellsFrom_some->kc,instObj->kg,kla_obj->kh,methodCall_KW->kq,callWith_K->ku,codeHd_of_K->lm,methodObj->mj,codeRec_of->mq,lookIn->mr,kla_fn->mx,takerIn->my,kitx_list->n5,kitx_dict->n6,handedIn->nj,kdl_dict->nq,kitOne->nr,tabObj->nu
open PySem.Value (float bytes)
open PySem.Value renaming isInt_shape->ll,type->nh
open PySem.EqNone renaming eq_none_int->nv,eq_none_str->nz,eq_int_none->o0,eq_str_none->o3,ne_none_int->o4,ne_none_str->o5,ne_int_none->o8,ne_str_none->o9
namespace L2
open PySem PySem.Spec PyProof.Rows
theorem fT {p:Prop} (h:false=true):p:=absurd h Bool.false_ne_true
abbrev Key:=Sum Int Str
def zq4:Key->Value->Bool
 | .inl k,v=>Value.isInt k v
 | .inr x,v=>Value.isStrOf x v
def z3y (w:World):Key->Int
 | .inl k=>hashInt k
 | .inr x=>hashStr w x
theorem zbi:∀ {k:Key} {v:Value},zq4 k v=true->(∃ i t,k=Sum.inl i/\v=Value.int i t)\/(∃ x t,k=Sum.inr x/\v=Value.str x t)
 | .inl i,v,h=>by
  obtain ⟨t,e⟩:=ll (k:=i) (v:=v) h
  exact .inl ⟨i,t,rfl,e⟩
 | .inr x,v,h=>by
  obtain ⟨t,e⟩:=Value.isStrOf_shape (x:=x) (v:=v) h
  exact .inr ⟨x,t,rfl,e⟩
theorem zsk (i:Int)(t:Tok):zq4 (.inl i) (.int i t)=true:=by simp [zq4,Value.isInt]
theorem zt7 (x:Str)(t:Tok):zq4 (.inr x) (.str x t)=true:=by simp [zq4,Value.isStrOf]
theorem z1k (a b:Int):decide ((Sum.inl a:Key)=Sum.inl b)=(a == b):=by
 by_cases e:a=b
 ·subst e; simp
 ·have h:¬ (Sum.inl a:Key)=Sum.inl b:=fun q=>e (Sum.inl.inj q)
  rw [decide_eq_false h]
  exact (beq_eq_false_iff_ne.mpr e).symm
theorem z06 (a b:Str):decide ((Sum.inr a:Key)=Sum.inr b)=decide (a=b):=by
 by_cases e:a=b
 ·subst e; simp
 ·have h:¬ (Sum.inr a:Key)=Sum.inr b:=fun q=>e (Sum.inr.inj q)
  rw [decide_eq_false h,decide_eq_false e]
theorem z0m (a:Int)(b:Str):decide ((Sum.inl a:Key)=Sum.inr b)=false:=decide_eq_false (fun q=>nomatch q)
theorem zz9 (a:Str)(b:Int):decide ((Sum.inr a:Key)=Sum.inl b)=false:=decide_eq_false (fun q=>nomatch q)
def za6 (prog:Program)(w:World):PySem.KeyKind prog w Key where
 is:=zq4
 hash:=z3y w
 inj:=fun v a b ha hb=>by
  rcases zbi ha with ⟨i,t,rfl,rfl⟩ | ⟨x,t,rfl,rfl⟩
  ·rcases zbi hb with ⟨j,u,rfl,e⟩ | ⟨y,u,rfl,e⟩
   ·injection e with e1 _; rw [e1]
   ·exact nomatch e
  ·rcases zbi hb with ⟨j,u,rfl,e⟩ | ⟨y,u,rfl,e⟩
   ·exact nomatch e
   ·injection e with e1 _; rw [e1]
 byValue:=fun k v h=>by
  rcases zbi h with ⟨i,t,rfl,rfl⟩ | ⟨x,t,rfl,rfl⟩ <;> rfl
 pyHash:=fun hv h=>by
  rcases zbi hv with ⟨i,t,rfl,rfl⟩ | ⟨x,t,rfl,rfl⟩
  ·exact wpAny_pyHash_int h
  ·exact wpAny_pyHash_str h
 eqBool:=fun hu hv h=>by
  rcases zbi hu with ⟨i,t,rfl,rfl⟩ | ⟨x,t,rfl,rfl⟩
  ·rcases zbi hv with ⟨j,u,rfl,rfl⟩ | ⟨y,u,rfl,rfl⟩
   ·rw [z1k] at h; exact wpAny_eqBool_int h
   ·rw [z0m] at h; exact SeqAt.EqAt.int_str i t y u _ _ _ _ h
  ·rcases zbi hv with ⟨j,u,rfl,rfl⟩ | ⟨y,u,rfl,rfl⟩
   ·rw [zz9] at h; exact SeqAt.EqAt.str_int x t j u _ _ _ _ h
   ·rw [z06] at h; exact wpAny_eqBool_str h
 «strs» :=fun k x t v h=>by
  rcases zbi h with ⟨i,u,rfl,e⟩ | ⟨y,u,rfl,e⟩
  ·exact nomatch e
  ·injection e with e1 _
   subst e1
   cases v <;> rfl
theorem zos (prog:Program)(w:World)(i:Int)(t:Tok):(za6 prog w).is (.inl i) (.int i t)=true:=zsk i t
theorem zoa (prog:Program)(w:World)(x:Str)(t:Tok):(za6 prog w).is (.inr x) (.str x t)=true:=zt7 x t
inductive V where
 | non | bl (b:Bool) | int (i:Int) | str (x:Str) | byt (b:Array UInt8) | flt (b:UInt64) | ref (a:Addr) | ty (n:String)
 deriving DecidableEq
def zbp:V->Value->Prop
 | .non,u=>u=Value.none
 | .bl b,u=>u=Value.bool b
 | .int i,u=>∃ t,u=Value.int i t
 | .str x,u=>∃ t,u=Value.str x t
 | .byt b,u=>∃ t,u=bytes b t
 | .flt b,u=>∃ t,u=float b t
 | .ref a,u=>u=Value.ref a
 | .ty n,u=>u=nh n
abbrev zbq:List V->List Value->Prop:=Paired zbp
theorem zbq.length {xs:List V}{us:List Value}(r:zbq xs us):xs.length=us.length:=Paired.length r
theorem zbq.get:∀ {xs:List V} {us:List Value} {i:Nat} {x:V},zbq xs us->xs[i]? = some x->∃ u,us[i]? = some u/\zbp x u
 | _,_,_,_,.nil,e=>by simp at e
 | _,_,0,_,.cons r _,e=>by simp at e; subst e; exact ⟨_,rfl,r⟩
 | _,_,i+1,x,.cons _ t,e=>by
  obtain ⟨u,h1,h2⟩:=zbq.get (i:=i) (x:=x) t (by simpa using e)
  exact ⟨u,by simpa using h1,h2⟩
theorem zbq.set {x:V}{u:Value}(r:zbp x u):∀ {xs:List V} {us:List Value} (i:Nat),zbq xs us->zbq (xs.set i x) (us.set i u)
 | _,_,_,.nil=> .nil
 | _,_,0,.cons _ t=> .cons r t
 | _,_,i+1,.cons q t=> .cons q (zbq.set r i t)
theorem zbq.append:∀ {xs ys:List V} {us ws:List Value},zbq xs us->zbq ys ws->zbq (xs++ys) (us++ws)
 | _,_,_,_,.nil,s=>s
 | _,_,_,_,.cons r t,s=> .cons r (zbq.append t s)
theorem zbq.take:∀ {xs:List V} {us:List Value} (n:Nat),zbq xs us->zbq (xs.take n) (us.take n)
 | _,_,0,_=> .nil
 | _,_,_+1,.nil=> .nil
 | _,_,n+1,.cons r t=> .cons r (zbq.take n t)
theorem zbq.drop:∀ {xs:List V} {us:List Value} (n:Nat),zbq xs us->zbq (xs.drop n) (us.drop n)
 | _,_,0,r=>r
 | _,_,_+1,.nil=> .nil
 | _,_,n+1,.cons _ t=>zbq.drop n t
def zk_:Option V->Option Value->Prop
 | some v,some u=>zbp v u
 | none,none=>True
 | _,_=>False
def KV {κ:Type}:List (κ × V)->List (κ × Value)->Prop:=Paired fun (p:κ × V) (q:κ × Value)=>p.1=q.1/\zbp p.2 q.2
def kV:Key->V
 | .inl i=> .int i
 | .inr x=> .str x
inductive HO where
 | lst (xs:List V)
 | tup (xs:List V)
 | dK (kvs:List (Key × V)) | dT (kvs:List (List Key × V))
 | set (S:Int->Bool) (n:Nat)
 | ins (C dx:Addr) (fs:List (Str × V))
 | own (x:Addr)
 | xd (fs:List (Str × V))
 | met (f x:Addr)
 | rng (lo hi:Int)
 | frz (o:Obj) (u:HO)
 | tbl (ps:Array Value)
 | ext (φ:Heap->Prop)
end L2
set_option genInjectivity false
set_option genSizeOf false
namespace L2
open PySem PySem.Spec PyProof.Rows
abbrev Hp:=Addr->Option HO
def upd (H:Hp)(a:Addr)(o:HO):Hp:=fun b=>if b=a then some o else H b
theorem zac {H:Hp}{a:Addr}{o:HO}:upd H a o a=some o:=by unfold upd; rw [if_pos rfl]
theorem zab {H:Hp}{a b:Addr}{o:HO}(h:b≠a):upd H a o b=H b:=by unfold upd; rw [if_neg h]
theorem zck {H:Hp}{a b:Addr}{o u:HO}(h:H a=some o)(h':H b=some u)(d:o≠u):a≠b:=by
 intro e; subst e; rw [h] at h'; exact d (Option.some.inj h')
theorem zae {H:Hp}{a b:Addr}{o:HO}(h:H a=some o)(h':H b=none):a≠b:=by
 intro e; subst e; rw [h] at h'; cases h'
section
variable (P:Program) (w:World)
def zca (H:Hp)(h:Heap)(a:Addr):HO->Prop
 | .lst xs=>xs.length<=sizeLine/\∃ (its:List Value) (n:Nat),zbq xs its/\h.get? a=some { cls:= .type "list",data:= .seq its.toArray n }
 | .tup xs=>xs.length<=sizeLine/\∃ its:List Value,zbq xs its/\IsTup h a its.toArray
 | .dK kvs=>kvs.length<=sizeLine/\(a == sysModules)=false/\∃ vs,KV kvs vs/\h.DictOf (za6 P w) a vs
 | .dT kvs=>kvs.length<=sizeLine/\(a == sysModules)=false/\∃ xs:List (List Key × Addr × Value),
   Paired (fun (p:List Key × V) (q:List Key × Addr × Value)=>p.1=q.1/\H q.2.1=some (.tup (p.1.map kV))/\zbp p.2 q.2.2) kvs xs /\
   ∃ o es ep,h.get? a=some o/\o.ExactDict/\o.data = .dict es ep/\es.toList=xs.map (entryOfKey (tupleKind (za6 P w)))/\(xs.map (·.1)).Nodup
 | .set S n=>h.SetOf (intKind P w) a S n
 | .ins C dx fs=>H dx=some (.own a)/\fs.length<=1000/\dx≠a/\h.get? a=some (kg C dx) /\
   ∃ mA,h.Ns1 dx mA/\(∀ f,zk_ (fs.lookup f) (mA f))/\PySem.Within mA (fs.map (·.1))
 | .own _=>∃ o,h.get? a=some o
 | .xd fs=>∃ mA,h.Ns1 a mA/\∀ f,zk_ (fs.lookup f) (mA f)
 | .rng lo hi=>∃ t u v,h.get? a=some { cls:= .type "range",data:= .fields #[.int lo t,.int hi u,.int 1 v] }
 | .frz o u=>h.get? a=some o/\zca H h a u
 | .tbl ps=>h.get? a=some { cls:= .none,data:= .fields ps }
 | .met f x=>h.get? a=some (mj (.ref f) (.ref x))
 | .ext φ=>φ h/\(∃ o,h.get? a=some o)/\∀ h1 h2:Heap,φ h1->(∀ o,h1.get? a=some o->h2.get? a=some o)->φ h2
def HOk (H:Hp)(h:Heap):Prop:=∀ a o,H a=some o->zca P w H h a o
end
section
variable {P:Program} {w:World} {H H':Hp} {h h':Heap} {a:Addr} {o:HO}
theorem zca.lt (x:zca P w H h a o):a<h.objs.size:=by
 cases o with
 | lst xs=>obtain ⟨_,_,_,_,e⟩:=x; exact gi e
 | tup xs=>obtain ⟨_,_,_,p⟩:=x; exact p.lt
 | dK kvs=>obtain ⟨_,_,_,_,o,_,_,e,_⟩:=x; exact gi e
 | dT kvs=>obtain ⟨_,_,_,_,o,_,_,e,_⟩:=x; exact gi e
 | set S n=>obtain ⟨o,_,_,_,e,_⟩:=x; exact gi e
 | ins C dx fs=>obtain ⟨_,_,_,e,_⟩:=x; exact gi e
 | own y=>obtain ⟨_,e⟩:=x; exact gi e
 | xd fs=>obtain ⟨_,⟨_,_,_,e,_⟩,_⟩:=x; exact gi e
 | rng lo hi=>obtain ⟨_,_,_,e⟩:=x; exact gi e
 | frz ob u=>obtain ⟨e,_⟩:=x; exact gi e
 | tbl ps=>exact gi (show h.get? a=some _ from x)
 | met f y=>exact gi (show h.get? a=some _ from x)
 | ext φ=>obtain ⟨_,⟨_,e⟩,_⟩:=x; exact gi e
theorem Paired.mapP {α β:Type}{F G:α->β->Prop}:∀ {l₁:List α} {l₂:List β},Paired F l₁ l₂->(∀ a b,F a b->G a b)->Paired G l₁ l₂
 | _,_,.nil,_=> .nil
 | _,_,.cons r t,f=> .cons (f _ _ r) (Paired.mapP t f)
theorem zca.stay (x:zca P w H h a o)(k:∀ b u,(b=a\/H b=some (.own a))->h.get? b=some u->h'.get? b=some u)
  (ho:∀ b,H b=some (.own a)->H' b=some (.own a))(ht:∀ b xs,H b=some (.tup xs)->H' b=some (.tup xs)):zca P w H' h' a o:=by
 induction o with
 | lst xs=>obtain ⟨z,its,n,r,e⟩:=x; exact ⟨z,its,n,r,k _ _ (.inl rfl) e⟩
 | tup xs=>obtain ⟨z,its,r,ob,e,c⟩:=x; exact ⟨z,its,r,ob,k _ _ (.inl rfl) e,c⟩
 | dK kvs=>obtain ⟨z,y,vs,r,ob,es,ep,e,c⟩:=x; exact ⟨z,y,vs,r,ob,es,ep,k _ _ (.inl rfl) e,c⟩
 | dT kvs =>
  obtain ⟨z,y,xs,r,ob,es,ep,e,c⟩:=x
  exact ⟨z,y,xs,Paired.mapP r fun p q z=>⟨z.1,ht _ _ z.2.1,z.2.2⟩,ob,es,ep,k _ _ (.inl rfl) e,c⟩
 | set S n=>obtain ⟨ob,es,ep,t,e,c⟩:=x; exact ⟨ob,es,ep,t,k _ _ (.inl rfl) e,c⟩
 | ins C dx fs =>
  obtain ⟨d,z,ne,e,mA,⟨od,es,ep,e2,c⟩,r⟩:=x
  exact ⟨ho _ d,z,ne,k _ _ (.inl rfl) e,mA,⟨od,es,ep,k _ _ (.inr d) e2,c⟩,r⟩
 | own y=>obtain ⟨ob,e⟩:=x; exact ⟨ob,k _ _ (.inl rfl) e⟩
 | xd fs=>obtain ⟨mA,⟨od,es,ep,e,c⟩,r⟩:=x; exact ⟨mA,⟨od,es,ep,k _ _ (.inl rfl) e,c⟩,r⟩
 | rng lo hi=>obtain ⟨t,u,v,e⟩:=x; exact ⟨t,u,v,k _ _ (.inl rfl) e⟩
 | frz ob u ih=>obtain ⟨e,q⟩:=x; exact ⟨k _ _ (.inl rfl) e,ih q⟩
 | tbl ps =>
  have e:h.get? a=some { cls:= .none,data:= .fields ps }:=x
  show h'.get? a=some { cls:= .none,data:= .fields ps }
  exact k a _ (.inl rfl) e
 | met f y =>
  have e:h.get? a=some (mj (.ref f) (.ref y)):=x
  show h'.get? a=some (mj (.ref f) (.ref y))
  exact k a _ (.inl rfl) e
 | ext φ=>obtain ⟨p,⟨o,e⟩,st⟩:=x; exact ⟨st _ _ p fun o q=>k _ _ (.inl rfl) q,⟨o,k _ _ (.inl rfl) e⟩,st⟩
theorem HOk.lt (x:HOk P w H h)(e:H a=some o):a<h.objs.size:=(x a o e).lt
theorem HOk.fresh (x:HOk P w H h)(e:h.objs.size<=a):H a=none:=by
 cases q:H a with
 | none=>rfl
 | some u=>exact absurd (gc (x.lt q) e) (j6 _)
theorem HOk.kept (x:HOk P w H h)(k:∀ b u,h.get? b=some u->h'.get? b=some u):HOk P w H h':=fun a o e =>
 (x a o e).stay (fun b u _ q=>k b u q) (fun _ q=>q) fun _ _ q=>q
theorem HOk.laid (x:HOk P w H h)(k:∀ b u,h.get? b=some u->h'.get? b=some u)(hp:h.objs.size<=a)(new:zca P w (upd H a o) h' a o):HOk P w (upd H a o) h':=fun b u e=>by
 have hn:=x.fresh hp
 by_cases hb:b=a
 ·subst hb; rw [zac] at e; cases e; exact new
 ·rw [zab hb] at e
  exact (x b u e).stay (fun c v _ q=>k c v q) (fun c q=>by rw [zab (zae q hn)]; exact q) fun c xs q=>by rw [zab (zae q hn)]; exact q
end
def Rd (H:Hp)(a:Addr)(u:HO):Prop:=H a=some u\/∃ o,H a=some (.frz o u)
theorem Rd.ok {P:Program}{w:World}{H:Hp}{h:Heap}{a:Addr}{u:HO}(r:Rd H a u)(x:HOk P w H h):zca P w H h a u:=by
 rcases r with r | ⟨o,r⟩
 ·exact x a u r
 ·obtain ⟨_,q⟩:=x a _ r
  exact q
def Mut:Option HO->Prop
 | some (.lst _)=>True
 | some (.dK _)=>True
 | some (.dT _)=>True
 | some (.set _ _)=>True
 | some (.ins _ _ _)=>True
 | some (.ext _)=>True
 | _=>False
section
variable {P:Program} {w:World} {H:Hp} {h h':Heap} {x e:Addr} {o':HO}
theorem HOk.write (ok:HOk P w H h)(mu:Mut (H x))(he:e=x\/H e=some (.own x))(k:∀ b u,b≠e->h.get? b=some u->h'.get? b=some u)(heo:∃ u,h'.get? e=some u)
  (new:zca P w (upd H x o') h' x o'):HOk P w (upd H x o') h':=fun b u q=>by
 have nown:∀ c y,H c=some (.own y)->c≠x:=fun c y r z=>by subst z; rw [r] at mu; exact mu
 have ntup:∀ c xs,H c=some (.tup xs)->c≠x:=fun c xs r z=>by subst z; rw [r] at mu; exact mu
 by_cases hb:b=x
 ·subst hb; rw [zac] at q; cases q; exact new
 ·rw [zab hb] at q
  by_cases hbe:b=e
  ·have q':H b=some (.own x):=by
    rcases he with z | z
    ·exact absurd (hbe.trans z) hb
    ·rw [hbe]; exact z
   rw [q] at q'; cases q'
   obtain ⟨v,hv⟩:=heo
   exact ⟨v,by rw [hbe]; exact hv⟩
  ·refine (ok b u q).stay (fun c v hc r=>k c v ?_ r) (fun c r=>by rw [zab (nown c b r)]; exact r) fun c xs r=>by rw [zab (ntup c xs r)]; exact r
   rcases hc with rfl | hc
   ·exact hbe
   ·rintro rfl
    rcases he with z | z
    ·exact nown c b hc z
    ·rw [hc] at z; cases z; exact hb rfl
end
structure Un (fs ex:List Addr)(H H':Hp)(h h':Heap):Prop where
 keep:∀ b o,h.get? b=some o->H b=none->b∉fs->b∉ex->h'.get? b=some o
 slot:∀ b o,h.get? b=some o->H b=none->b∈fs->b∉ex->∃ sl,h'.get? b=some { o with slots:=sl }
 free:∀ b o,h.get? b=some o->H b=none->b∉ex->H' b=none
 there:∀ b o,h.get? b=some o->b∉ex->∃ o',h'.get? b=some o'
 tups:∀ b xs,H b=some (.tup xs)->H' b=some (.tup xs)
 frzs:∀ b o u,H b=some (.frz o u)->H' b=some (.frz o u)
 tbls:∀ b ps,H b=some (.tbl ps)->∃ more,H' b=some (.tbl (ps++more))
section
variable {fs ex:List Addr} {H H1:Hp} {h h1 h':Heap} {a x e:Addr} {o:HO}
theorem Un.any (u:Un fs ex H H1 h h1){b:Addr}{ob:Obj}(q:h.get? b=some ob)(n:H b=none)(hx:b∉ex):∃ sl,h1.get? b=some { ob with slots:=sl }:=by
 by_cases hb:b∈fs
 ·exact u.slot b ob q n hb hx
 ·exact ⟨ob.slots,u.keep b ob q n hb hx⟩
theorem Un.kept (k:∀ b u,h.get? b=some u->h'.get? b=some u):Un fs ex H H h h' :=
 ⟨fun b ob q _ _ _=>k b ob q,fun b ob q _ _ _=>⟨ob.slots,k b ob q⟩,fun _ _ _ n _=>n,fun b ob q _=>⟨ob,k b ob q⟩,fun _ _ q=>q,fun _ _ _ q=>q,fun _ ps q=>⟨#[],by rw [q]; simp⟩⟩
theorem Un.refl:Un fs ex H H h h:=Un.kept fun _ _ q=>q
theorem Un.laid (k:∀ b u,h.get? b=some u->h'.get? b=some u)(hp:h.objs.size<=a)(hn:H a=none):Un fs ex H (upd H a o) h h' where
 keep:=fun b u q _ _ _=>k b u q
 slot:=fun b u q _ _ _=>⟨u.slots,k b u q⟩
 free:=fun b u q n _=>by rw [zab (gl (gc (gi q) hp))]; exact n
 there:=fun b u q _=>⟨u,k b u q⟩
 tups:=fun b xs q=>by rw [zab (zae q hn)]; exact q
 frzs:=fun b u xs q=>by rw [zab (zae q hn)]; exact q
 tbls:=fun b ps q=>⟨#[],by rw [zab (zae q hn),q]; simp⟩
theorem Un.write (mu:Mut (H x))(he:e=x\/H e=some (.own x))(k:∀ b u,b≠e->h.get? b=some u->h'.get? b=some u)(heo:∃ u,h'.get? e=some u):Un fs ex H (upd H x o) h h':=by
 have hx:∀ b,H b=none->b≠x:=fun b n z=>by subst z; rw [n] at mu; exact mu
 have hb:∀ b,H b=none->b≠e:=fun b n z=>by
  subst z
  rcases he with r | r
  ·exact hx b n r
  ·rw [n] at r; cases r
 have hm:∀ b u,H b=some u->¬ Mut (some u)->b≠x:=fun b u q nm z=>by subst z; rw [q] at mu; exact nm mu
 refine ⟨fun b u q n _ _=>k b u (hb b n) q,fun b u q n _ _=>⟨u.slots,k b u (hb b n) q⟩,fun b u q n _=>by rw [zab (hx b n)]; exact n,fun b u q _=>?_,
  fun b xs q=>by rw [zab (hm b _ q fun z=>z)]; exact q,fun b u xs q=>by rw [zab (hm b _ q fun z=>z)]; exact q,fun b ps q=>⟨#[],by rw [zab (hm b _ q fun z=>z),q]; simp⟩⟩
 by_cases a:b=e
 ·subst a; exact heo
 ·exact ⟨u,k b u a q⟩
end
def trk (h:Heap)(H:Hp):List Addr:=(js h.objs.size).filter fun a=>(H a).isSome
def zug (h:Heap)(H:Hp):Heap:=PySem.W.hideAll h (trk h H)
theorem zsy (h:Heap)(H:Hp):(zug h H).objs.size=h.objs.size:=PySem.W.hideAll_size _ _
theorem zu3 {h:Heap}{H:Hp}{b:Addr}{o:Obj}(e:h.get? b=some o)(n:H b=none):(zug h H).get? b=some o :=
 PySem.W.hideAll_get _ e fun hm=>by
  have q:(H b).isSome=true:=(gv.mp hm).2
  rw [n] at q; simp at q
theorem zy4 {h:Heap}{H:Hp}{b:Addr}{o:Obj}(e:(zug h H).get? b=some o):h.get? b=some o/\H b=none:=by
 have e':h.get? b=some o:=PySem.W.of_hideAll (trk h H) e
 refine ⟨e',?_⟩
 cases q:H b with
 | none=>rfl
 | some x =>
  have hm:b∈trk h H:=gv.mpr ⟨l9.mpr (gi e'),by simp [q]⟩
  have z:(zug h H).get? b=none:=PySem.W.hideAll_none (trk h H) hm
  rw [z] at e; cases e
structure Mod (K:W.Frag)(mg:Str->Option Value)(base:Heap):Prop where
 kin:K.In base
 glob:base.Ns mainGlobals mg
 blt:∃ mb,base.Ns builtinsNs mb/\∀ x:Str,x≠ "__name__" ->mb x=bootBuiltins x
 nolimit:base.NoLimit
structure Cx where
 prog:Program
 w:World
 K:W.Frag
 mg:Str->Option Value
 base:Heap
 A:Around
 N:List Str
 s₀:Shared
 H₀:Hp
 env:Env
 outer:List Env
 stack:List Env
 ex:List Addr
 fn:Str->Bool
 calm:Bool
 pn:List (Addr × Obj)
 xe:Value->Shared->Prop
def frs (l:List Env):List Addr:=l.filterMap (·.frame)
abbrev Cx.fs (X:Cx):List Addr:=frs X.outer
def Vis (sc:Scope)(x:Str):Prop:=sc.names.lookup x=some .local\/sc.names.lookup x=some .cell\/sc.names.lookup x=some .free
def Loc (sc:Scope)(x:Str):Prop:=sc.names.lookup x=some .local\/sc.names.lookup x=some .cell
def z38 (env:Env)(h:Heap)(m:Str->Option Value)(x:Str)(u:Value):Prop :=
 (env.kindOf x=some .local/\m x=some u)\/((env.kindOf x=some .cell\/env.kindOf x=some .free)/\∃ c,env.cells.lookup x=some c/\h.IsCell c (some u))
structure Cx.Ok (X:Cx):Prop where
 mod:Mod X.K X.mg X.base
 kind:X.env.scope.kind = .function
 glob:X.env.globals=mainGlobals
 blt:X.env.builtins=builtinsNs
 above:X.s₀.heap.objs.size<=X.env.locals
 inj:∀ x y c,X.env.cells.lookup x=some c->X.env.cells.lookup y=some c->x=y
 has:∀ x,(X.env.kindOf x=some .cell\/X.env.kindOf x=some .free)->∃ c,X.env.cells.lookup x=some c
 cab:∀ x c,X.fn x=true->X.env.cells.lookup x=some c->X.s₀.heap.objs.size<=c
 hd:X.calm=true->X.A.handled=none
 frames:X.A.frames=some X.stack
 stk:X.stack=X.outer\/(X.stack=X.env :: X.outer/\X.env.frame=some X.env.locals)
 exf:∀ b∈X.ex,b≠X.env.locals/\∀ x c,X.env.cells.lookup x=some c->c≠b
 bs:∀ b o,X.base.get? b=some o->X.s₀.heap.get? b=some o/\X.H₀ b=none
 bsz:X.base.objs.size<=X.s₀.heap.objs.size
 noex:∀ b o,X.base.get? b=some o->b∉X.ex
 exfs:∀ b∈X.ex,b∉X.fs
 funs:X.s₀.heap.FunFrames X.base X.outer
 frf:∀ b∈X.fs,X.H₀ b=none
structure Inv (X:Cx)(pins:List (Addr × Obj))(σ:List (Option V))(H:Hp)(s:Shared):Prop where
 ok:X.Ok
 os:s.os=X.s₀.os
 bare:AllBare s.gens
 base:Un X.fs X.ex X.H₀ H X.s₀.heap s.heap
 loc:∃ m,s.heap.Ns X.env.locals m/\∀ (i:Nat) (x:Str) (v:V),X.N[i]? = some x->σ[i]? = some (some v)->Vis X.env.scope x->∃ u,zbp v u/\z38 X.env s.heap m x u
 cell:∀ x c,X.env.cells.lookup x=some c->∃ v,s.heap.IsCell c v
 free:H X.env.locals=none
 freeC:∀ x c,X.env.cells.lookup x=some c->(X.fn x=true->H c=none)/\(H c=none\/∃ o u,H c=some (.frz o u))
 pin:∀ p∈X.pn++pins,s.heap.get? p.1=some p.2/\H p.1=none/\p.1≠X.env.locals/\p.1∉X.fs/\∀ v,p.2.data≠ .cell v
 hok:HOk X.prog X.w H s.heap
 len:σ.length=X.N.length
section
variable {X:Cx} {pins:List (Addr × Obj)} {σ:List (Option V)} {H H':Hp} {s:Shared} {h':Heap}
theorem Cx.Ok.nofr (ok:X.Ok){b:Addr}{o:Obj}(e:X.base.get? b=some o):b∉X.fs:=fun hb=>by
 have:=(ok.funs.mem hb).1
 rw [e] at this; cases this
theorem Inv.bs (I:Inv X pins σ H s):∀ b o,X.base.get? b=some o->s.heap.get? b=some o/\H b=none:=fun b o e =>
 ⟨I.base.keep b o (I.ok.bs b o e).1 (I.ok.bs b o e).2 (I.ok.nofr e) (I.ok.noex b o e),I.base.free b o (I.ok.bs b o e).1 (I.ok.bs b o e).2 (I.ok.noex b o e)⟩
theorem Inv.bk (I:Inv X pins σ H s):∀ b o,X.base.get? b=some o->s.heap.get? b=some o:=fun b o e=>(I.bs b o e).1
theorem Inv.mod (I:Inv X pins σ H s):Mod X.K X.mg X.base:=I.ok.mod
theorem Inv.kIn (I:Inv X pins σ H s):X.K.In s.heap:=I.ok.mod.kin.keeps I.bk
theorem Inv.lt (I:Inv X pins σ H s):X.env.locals<s.heap.objs.size:=let ⟨_,hn,_⟩:=I.loc; hn.lt
theorem Inv.sz (I:Inv X pins σ H s):X.s₀.heap.objs.size<=s.heap.objs.size:=gm I.ok.above (gx I.lt)
theorem Inv.nofs (I:Inv X pins σ H s){a:Addr}(h:s.heap.objs.size<=a):a∉X.fs:=fun hb=>by
 obtain ⟨_,o,ho,_⟩:=I.ok.funs.mem hb
 exact absurd (gc (gi ho) (gm I.sz h)) (j6 _)
theorem Inv.cne (I:Inv X pins σ H s):∀ x c,X.env.cells.lookup x=some c->c≠X.env.locals:=fun x c e z=>by
 obtain ⟨v,o,ho,hd⟩:=I.cell x c e
 obtain ⟨m,⟨o',es,ep,ho',hd',_⟩,_⟩:=I.loc
 rw [z,ho'] at ho; cases ho; rw [hd'] at hd; cases hd
theorem Inv.funs (I:Inv X pins σ H s):s.heap.FunFrames X.base X.outer:=by
 have all:∀ (l:List Env),(∀ b∈frs l,b∈X.fs)->X.s₀.heap.FunFrames X.base l->s.heap.FunFrames X.base l:=by
  intro l
  induction l with
  | nil=>intro _ _; trivial
  | cons env r ih =>
   intro hs hl
   obtain ⟨hk,⟨L,o,hf,hn,ho,hd⟩,hr⟩:=hl
   have hL:L∈X.fs:=hs L (by unfold frs; rw [i4,hf]; exact gb)
   obtain ⟨sl,e⟩:=I.base.slot L o ho (I.ok.frf L hL) hL fun z=>I.ok.exfs L z hL
   exact ⟨hk,⟨L,_,hf,hn,e,hd⟩,ih (fun b hb=>hs b (by unfold frs; rw [i4,hf]; exact fk _ hb)) hr⟩
 exact all X.outer (fun _ hb=>hb) I.ok.funs
theorem Inv.stack (I:Inv X pins σ H s):s.heap.FunFrames X.base X.stack:=by
 rcases I.ok.stk with e | ⟨e,hf⟩
 ·rw [e]; exact I.funs
 ·rw [e]
  obtain ⟨m,hn,_⟩:=I.loc
  refine .cons (by rw [I.ok.kind]; decide) hf hn ?_ I.funs
  exact Heap.get?_none_of_le (gm I.ok.bsz I.ok.above)
theorem Inv.stkSub (I:Inv X pins σ H s):∀ b∈frs X.stack,b∈X.env.locals :: X.fs:=fun b hb=>by
 rcases I.ok.stk with e | ⟨e,hf⟩
 ·rw [e] at hb; exact fk _ hb
 ·rw [e] at hb
  unfold frs at hb
  rw [i4,hf] at hb
  exact hb
theorem Inv.stkFree (I:Inv X pins σ H s):∀ b∈frs X.stack,H b=none:=fun b hb=>by
 rcases gs.mp (I.stkSub b hb) with e | hb
 ·rw [e]; exact I.free
 ·obtain ⟨_,o,ho,_⟩:=I.ok.funs.mem hb
  exact I.base.free b o ho (I.ok.frf b hb) fun z=>I.ok.exfs b z hb
theorem Inv.step {g':Array GenState}{t':Nat}{d':Drawn}{ch:List Addr}(I:Inv X pins σ H s)
  (hch:∀ b∈ch,(b∈X.ex\/X.s₀.heap.objs.size<=b)/\b≠X.env.locals/\(∀ x c,X.env.cells.lookup x=some c->c≠b)/\∀ p∈X.pn++pins,p.1≠b)
  (keep:∀ b o,b≠X.env.locals->b∉X.fs->b∉ch->s.heap.get? b=some o->H b=none->h'.get? b=some o)
  (slot:∀ b o,b≠X.env.locals->b∈X.fs->b∉ch->s.heap.get? b=some o->H b=none->∃ sl,h'.get? b=some { o with slots:=sl })(free:∀ b o,b∉ch->s.heap.get? b=some o->H b=none->H' b=none)
  (there:∀ b o,b∉ch->s.heap.get? b=some o->∃ o',h'.get? b=some o')
  (tups:∀ b xs,H b=some (.tup xs)->H' b=some (.tup xs))(frzs:∀ b o u,H b=some (.frz o u)->H' b=some (.frz o u))(tbls:∀ b ps,H b=some (.tbl ps)->∃ more,H' b=some (.tbl (ps++more)))
  (ns:∀ m,s.heap.Ns X.env.locals m->h'.Ns X.env.locals m)(hok:HOk X.prog X.w H' h')(hg:AllBare g') :
  Inv X pins σ H' { s with heap:=h',gens:=g',drawn:=d',toks:=t' }:=by
 have h:∀ b o,X.s₀.heap.get? b=some o->b≠X.env.locals:=fun b o e=>gl (gc (gi e) I.ok.above)
 have g:∀ b o,X.s₀.heap.get? b=some o->b∉X.ex->b∉ch:=fun b o e hx hb=>by
  rcases (hch b hb).1 with z | z
  ·exact hx z
  ·exact absurd (gc (gi e) z) (j6 _)
 have a:∀ x c,X.env.cells.lookup x=some c->∀ v,s.heap.IsCell c v->h'.IsCell c v:=fun x c e v ⟨o,ho,hd⟩=>by
  have f:c∉ch:=fun z=>(hch c z).2.2.1 x c e rfl
  rcases (I.freeC x c e).2 with fr | ⟨oz,uz,fz⟩
  ·by_cases hc:c∈X.fs
   ·obtain ⟨sl,q⟩:=slot c o (I.cne x c e) hc f ho fr
    exact ⟨_,q,hd⟩
   ·exact ⟨o,keep c o (I.cne x c e) hc f ho fr,hd⟩
  ·obtain ⟨z1,_⟩:=I.hok c _ fz
   obtain ⟨z2,_⟩:=hok c _ (frzs c oz uz fz)
   rw [ho] at z1
   cases z1
   exact ⟨o,z2,hd⟩
 refine ⟨I.ok,I.os,hg,⟨fun b o e n hb hx=>?_,fun b o e n hb hx=>?_,fun b o e n hx=>?_,fun b o e hx=>?_,fun b xs e=>tups b xs (I.base.tups b xs e),fun b o xs e=>frzs b o xs (I.base.frzs b o xs e),fun b ps e=>?_⟩,?_,fun x c e=>?_,?_,fun x c e=>?_,fun p hp=>?_,hok,I.len⟩
 ·exact keep b o (h b o e) hb (g b o e hx) (I.base.keep b o e n hb hx) (I.base.free b o e n hx)
 ·obtain ⟨sl,e1⟩:=I.base.slot b o e n hb hx
  obtain ⟨j,e2⟩:=slot b _ (h b o e) hb (g b o e hx) e1 (I.base.free b o e n hx)
  exact ⟨j,e2⟩
 ·obtain ⟨o',e1⟩:=I.base.there b o e hx
  exact free b o' (g b o e hx) e1 (I.base.free b o e n hx)
 ·obtain ⟨o',e1⟩:=I.base.there b o e hx
  exact there b o' (g b o e hx) e1
 ·obtain ⟨m1,e1⟩:=I.base.tbls b ps e
  obtain ⟨m2,e2⟩:=tbls b _ e1
  exact ⟨m1++m2,by rw [e2,Array.append_assoc]⟩
 ·obtain ⟨m,hn,hl⟩:=I.loc
  refine ⟨m,ns m hn,fun i x v e1 e2 e3=>?_⟩
  obtain ⟨u,r,l⟩:=hl i x v e1 e2 e3
  refine ⟨u,r,?_⟩
  rcases l with l | ⟨k,c,e,z⟩
  ·exact .inl l
  ·exact .inr ⟨k,c,e,a x c e _ z⟩
 ·obtain ⟨v,z⟩:=I.cell x c e
  exact ⟨v,a x c e v z⟩
 ·obtain ⟨m,⟨o,_,_,ho,_⟩,_⟩:=I.loc
  exact free _ o (fun z=>(hch _ z).2.1 rfl) ho I.free
 ·obtain ⟨v,o,ho,hd⟩:=I.cell x c e
  refine ⟨fun q=>free c o (fun z=>(hch c z).2.2.1 x c e rfl) ho ((I.freeC x c e).1 q),?_⟩
  rcases (I.freeC x c e).2 with fr | ⟨oz,uz,fz⟩
  ·exact .inl (free c o (fun z=>(hch c z).2.2.1 x c e rfl) ho fr)
  ·exact .inr ⟨oz,uz,frzs c oz uz fz⟩
 ·obtain ⟨e,n,ne,nf,d⟩:=I.pin p hp
  have f:p.1∉ch:=fun z=>(hch p.1 z).2.2.2 p hp rfl
  exact ⟨keep p.1 p.2 ne nf f e n,free p.1 p.2 f e n,ne,nf,d⟩
theorem Inv.un {t':Nat}(I:Inv X pins σ H s)(u:Un X.fs [] H H' s.heap h')(hok:HOk X.prog X.w H' h'):Inv X pins σ H' { s with heap:=h',toks:=t' }:=by
 obtain ⟨m,⟨o,es,ep,ho,r⟩,_⟩:=id I.loc
 obtain ⟨sl,hL⟩:=u.any ho I.free (by simp)
 exact I.step (g':=s.gens) (d':=s.drawn) (ch:=[]) (fun _ z=>nomatch z) (fun b o _ hb _ e n=>u.keep b o e n hb (by simp)) (fun b o _ hb _ e n=>u.slot b o e n hb (by simp)) (fun b o _ e n=>u.free b o e n (by simp)) (fun b o _ e=>u.there b o e (by simp)) u.tups u.frzs u.tbls (fun m' hm=>by
  obtain ⟨o',d,c,a,r'⟩:=hm
  rw [ho] at a; cases a
  exact ⟨_,d,c,hL,r'⟩) hok I.bare
theorem Inv.call {g':Array GenState}{t':Nat}{d':Drawn}{ch:List Addr}(I:Inv X pins σ H s)(u:Un (frs X.stack) ch H H' s.heap h')(hok:HOk X.prog X.w H' h')(hg:AllBare g')
  (hch:∀ b∈ch,(b∈X.ex\/X.s₀.heap.objs.size<=b)/\b≠X.env.locals/\(∀ x c,X.env.cells.lookup x=some c->c≠b)/\∀ p∈X.pn++pins,p.1≠b) :
  Inv X pins σ H' { s with heap:=h',gens:=g',drawn:=d',toks:=t' }:=by
 obtain ⟨m,⟨o,es,ep,ho,r⟩,_⟩:=id I.loc
 obtain ⟨sl,hL⟩:=u.any ho I.free fun z=>(hch _ z).2.1 rfl
 exact I.step (ch:=ch) hch (fun b o hL hb hc e n=>u.keep b o e n (fun z=>(gs.mp (I.stkSub b z)).elim hL hb) hc) (fun b o _ _ hc e n=>u.any e n hc) (fun b o hc e n=>u.free b o e n hc) (fun b o hc e=>u.there b o e hc) u.tups u.frzs u.tbls (fun m' hm=>by
  obtain ⟨o',f,d,a,r'⟩:=hm
  rw [ho] at a; cases a
  exact ⟨_,f,d,hL,r'⟩) hok hg
theorem Inv.turned {t':Nat}{it:Addr}(I:Inv X pins σ H s)(k:∀ b o,b≠it->s.heap.get? b=some o->h'.get? b=some o)(hn:H it=none)(hL:it≠X.env.locals)
  (h1:it∈X.ex\/X.s₀.heap.objs.size<=it)(h2:∀ x c,X.env.cells.lookup x=some c->c≠it)(h3:∀ p∈X.pn++pins,p.1≠it):Inv X pins σ H { s with heap:=h',toks:=t' }:=by
 have a:∀ b u,H b=some u->b≠it:=fun b u e z=>by rw [z,hn] at e; cases e
 refine I.step (g':=s.gens) (d':=s.drawn) (ch:=[it]) (fun b hb=>?_) (fun b o _ _ hc e _=>k b o (fun z=>hc (by simp [z])) e) (fun b o _ _ hc e _=>⟨o.slots,k b o (fun z=>hc (by simp [z])) e⟩) (fun _ _ _ _ n=>n)
  (fun b o hc e=>⟨o,k b o (fun z=>hc (by simp [z])) e⟩) (fun _ _ e=>e) (fun _ _ _ e=>e) (fun b ps e=>⟨#[],by rw [e]; simp⟩) (fun m hm=>?_) (fun b u e=>?_) I.bare
 ·have e:b=it:=by simpa using hb
  subst e
  exact ⟨h1,hL,h2,h3⟩
 ·obtain ⟨o,es,ep,ho,r⟩:=hm
  exact ⟨o,es,ep,k _ o (Ne.symm hL) ho,r⟩
 ·refine (I.hok b u e).stay (fun c v hc q=>k c v ?_ q) (fun _ q=>q) fun _ _ q=>q
  rcases hc with z | z
  ·rw [z]; exact a b u e
  ·exact a c _ z
theorem Inv.tok (I:Inv X pins σ H s)(t:Nat):Inv X pins σ H { s with toks:=t }:=I.un (h':=s.heap) (t':=t) Un.refl I.hok
theorem Inv.kept {t':Nat}(I:Inv X pins σ H s)(k:∀ b u,s.heap.get? b=some u->h'.get? b=some u):Inv X pins σ H { s with heap:=h',toks:=t' }:=I.un (Un.kept k) (I.hok.kept k)
theorem Inv.laid {a:Addr}{o:HO}{t':Nat}(I:Inv X pins σ H s)(k:∀ b u,s.heap.get? b=some u->h'.get? b=some u)(hp:s.heap.objs.size<=a)(new:zca X.prog X.w (upd H a o) h' a o) :
  Inv X pins σ (upd H a o) { s with heap:=h',toks:=t' }:=I.un (Un.laid k hp (I.hok.fresh hp)) (I.hok.laid k hp new)
theorem Inv.write {x e:Addr}{o:HO}{t':Nat}(I:Inv X pins σ H s)(mu:Mut (H x))(he:e=x\/H e=some (.own x))(k:∀ b u,b≠e->s.heap.get? b=some u->h'.get? b=some u)(heo:∃ u,h'.get? e=some u)
  (new:zca X.prog X.w (upd H x o) h' x o):Inv X pins σ (upd H x o) { s with heap:=h',toks:=t' }:=I.un (Un.write mu he k heo) (I.hok.write mu he k heo new)
theorem Inv.pins_of {pins':List (Addr × Obj)}(I:Inv X pins σ H s)(h:∀ p∈pins',s.heap.get? p.1=some p.2/\H p.1=none/\p.1≠X.env.locals/\p.1∉X.fs/\∀ v,p.2.data≠ .cell v):Inv X pins' σ H s :=
 ⟨I.ok,I.os,I.bare,I.base,I.loc,I.cell,I.free,I.freeC,fun p hp=>(fq.mp hp).elim (fun z=>I.pin p (gg _ z)) (h p),I.hok,I.len⟩
theorem zl1 {N:List Str}(hN:N.Nodup){i j:Nat}{x:Str}(a:N[i]? = some x)(b:N[j]? = some x):i=j:=by
 obtain ⟨h1,e1⟩:=List.getElem?_eq_some_iff.mp a
 obtain ⟨h2,e2⟩:=List.getElem?_eq_some_iff.mp b
 exact (jo hN).mp (e1.trans e2.symm)
theorem zub {M:Model}{A:Around}{E:Value->Shared->Prop}{i:Nat}{x:Str}{v:V}{u:Value}{Q:Unit->Shared->Prop}(I:Inv X pins σ H s)(hN:X.N.Nodup)(hi:X.N[i]? = some x)(hx:Loc X.env.scope x)(r:zbp v u)
  (h:∀ s',Inv X pins (σ.set i (some v)) H s'->(∃ a,Heap.SameBut a s.heap s'.heap/\(a=X.env.locals\/X.env.cells.lookup x=some a))->Q () s')(hf:X.fn x=true\/X.env.scope.names.lookup x=some .local:=by first | exact .inl rfl | exact .inr rfl | assumption):wpAny M A (storeName X.env x u) Q E s:=by
 obtain ⟨m,hn,hl⟩:=id I.loc
 have ad:(X.env.scope.kind == .class || (X.env.scope.kind == .module && X.env.locals != X.env.globals))=false:=by rw [I.ok.kind]; rfl
 have t:i<σ.length:=by rw [I.len]; exact (List.getElem?_eq_some_iff.mp hi).1
 have cne:=I.cne
 have f:∀ {a:Addr} {h':Heap},(∃ o,s.heap.get? a=some o/\H a=none)->Heap.SameBut a s.heap h'->HOk X.prog X.w H h':=fun {a h'} ha hs b ob e=>by
  obtain ⟨_,_,g⟩:=ha
  refine (I.hok b ob e).stay (fun c w' hc q=>(hs.2 c ?_).trans q) (fun _ q=>q) fun _ _ q=>q
  rintro rfl
  rcases hc with rfl | hc
  ·rw [g] at e; cases e
  ·rw [g] at hc; cases hc
 rcases hx with hk | hk
 ·refine wpAny_storeName_local hk hn (fun h' ag hs=>?_) ad
  obtain ⟨oL,_,_,af,_⟩:=id hn
  refine h _ ⟨I.ok,I.os,I.bare,⟨fun b o e n hb hx=>?_,fun b o e n hb hx=>?_,I.base.free,fun b o e hx=>?_,I.base.tups,I.base.frzs,I.base.tbls⟩,⟨_,ag,fun j y v' e1 e2 e3=>?_⟩,fun y c e=>?_,I.free,I.freeC,fun p hp=>?_,f ⟨oL,af,I.free⟩ hs,by simpa using I.len⟩ ⟨_,hs,.inl rfl⟩
  ·exact (hs.2 b (gl (gc (gi e) I.ok.above))).trans (I.base.keep b o e n hb hx)
  ·obtain ⟨sl,e1⟩:=I.base.slot b o e n hb hx
   exact ⟨sl,(hs.2 b (gl (gc (gi e) I.ok.above))).trans e1⟩
  ·obtain ⟨o',e1⟩:=I.base.there b o e hx
   exact ⟨o',(hs.2 b (gl (gc (gi e) I.ok.above))).trans e1⟩
  ·by_cases hj:j=i
   ·subst hj
    rw [hi] at e1; cases e1
    rw [List.getElem?_set_self t] at e2
    cases e2
    exact ⟨u,r,.inl ⟨hk,by simp⟩⟩
   ·rw [List.getElem?_set_ne (Ne.symm hj)] at e2
    obtain ⟨u',r',q⟩:=hl j y v' e1 e2 e3
    refine ⟨u',r',?_⟩
    rcases q with ⟨k,e⟩ | ⟨k,c,e,z⟩
    ·refine .inl ⟨k,?_⟩
     have:y≠x:=fun e=>hj (zl1 hN e1 (e ▸ hi))
     simp [this,e]
    ·exact .inr ⟨k,c,e,z.sameBut hs (cne y c e)⟩
  ·obtain ⟨w',z⟩:=I.cell y c e
   exact ⟨w',z.sameBut hs (cne y c e)⟩
  ·obtain ⟨e,n,ne,nf,d⟩:=I.pin p hp
   exact ⟨(hs.2 p.1 ne).trans e,n,ne,nf,d⟩
 ·have l:X.fn x=true:=by
   rcases hf with z | z
   ·exact z
   ·rw [z] at hk; cases hk
  obtain ⟨c,hc⟩:=I.ok.has x (.inl hk)
  obtain ⟨w',z⟩:=I.cell x c hc
  refine wpAny_storeName_cell I.ok.kind hk hc z (fun h' ab hs=>?_)
  obtain ⟨oc,ac,ae⟩:=id z
  refine h { s with heap:=h' } ⟨I.ok,I.os,I.bare,⟨fun b o e n hb hx=>?_,fun b o e n hb hx=>?_,I.base.free,fun b o e hx=>?_,I.base.tups,I.base.frzs,I.base.tbls⟩,⟨m,hn.sameBut hs (Ne.symm (cne x c hc)),fun j y v' e1 e2 e3=>?_⟩,fun y c' e=>?_,I.free,I.freeC,fun p hp=>?_,f ⟨oc,ac,(I.freeC x c hc).1 l⟩ hs,by simpa using I.len⟩ ⟨c,hs,.inr hc⟩
  ·exact (hs.2 b (gl (gc (gi e) (I.ok.cab x c l hc)))).trans (I.base.keep b o e n hb hx)
  ·obtain ⟨sl,e1⟩:=I.base.slot b o e n hb hx
   exact ⟨sl,(hs.2 b (gl (gc (gi e) (I.ok.cab x c l hc)))).trans e1⟩
  ·obtain ⟨o',e1⟩:=I.base.there b o e hx
   exact ⟨o',(hs.2 b (gl (gc (gi e) (I.ok.cab x c l hc)))).trans e1⟩
  ·by_cases hj:j=i
   ·subst hj
    rw [hi] at e1; cases e1
    rw [List.getElem?_set_self t] at e2
    cases e2
    exact ⟨u,r,.inr ⟨.inl hk,c,hc,ab⟩⟩
   ·rw [List.getElem?_set_ne (Ne.symm hj)] at e2
    obtain ⟨u',r',q⟩:=hl j y v' e1 e2 e3
    refine ⟨u',r',?_⟩
    rcases q with q | ⟨k,c',e,z'⟩
    ·exact .inl q
    ·refine .inr ⟨k,c',e,z'.sameBut hs ?_⟩
     rintro rfl
     exact hj (zl1 hN e1 (I.ok.inj _ _ _ e hc ▸ hi))
  ·by_cases aa:c'=c
   ·subst aa; exact ⟨_,ab⟩
   ·obtain ⟨w2,z2⟩:=I.cell y c' e
    exact ⟨w2,z2.sameBut hs aa⟩
  ·obtain ⟨e,n,ne,nf,d⟩:=I.pin p hp
   refine ⟨(hs.2 p.1 ?_).trans e,n,ne,nf,d⟩
   intro q
   rw [q,ac] at e
   have q':oc=p.2:=Option.some.inj e
   exact d w' (by rw [<- q']; exact ae)
theorem zlm {M:Model}{A:Around}{E:Value->Shared->Prop}{i:Nat}{x:Str}{v:V}{u:Value}{Q:Unit->Shared->Prop}(I:Inv X pins σ H s)(hN:X.N.Nodup)(hi:X.N[i]? = some x)(hx:Loc X.env.scope x)(r:zbp v u)
  (h:∀ s',Inv X pins (σ.set i (some v)) H s'->Q () s')(hf:X.fn x=true\/X.env.scope.names.lookup x=some .local:=by first | exact .inl rfl | exact .inr rfl | assumption):wpAny M A (storeName X.env x u) Q E s :=
 zub I hN hi hx r (fun s' I' _=>h s' I') hf
theorem Inv.call' {s':Shared}{ch:List Addr}(I:Inv X pins σ H s)(ho:s'.os=s.os)(u:Un (frs X.stack) ch H H' s.heap s'.heap)(hok:HOk X.prog X.w H' s'.heap)(hg:AllBare s'.gens)
  (hch:∀ b∈ch,(b∈X.ex\/X.s₀.heap.objs.size<=b)/\b≠X.env.locals/\(∀ x c,X.env.cells.lookup x=some c->c≠b)/\∀ p∈X.pn++pins,p.1≠b):Inv X pins σ H' s':=by
 obtain ⟨h',g',d',t',o'⟩:=s'
 have e:o'=s.os:=ho
 subst e
 exact I.call (g':=g') (t':=t') (d':=d') u hok hg hch
end
abbrev XK:=Value->Option Addr->Hp->Prop
abbrev St:=List (Option V)
abbrev VK:=V->Hp->Prop
abbrev TE:=St->Hp->VK->Prop
abbrev TT:=St->Hp->(Bool->Hp->Prop)->Prop
abbrev TA:=St->Hp->(List V->Hp->Prop)->Prop
structure zzp where
 nx:St->Hp->Prop
 rt:VK
 bk:St->Hp->Prop:=fun _ _=>False
 ct:St->Hp->Prop:=fun _ _=>False
abbrev TS:=zzp->St->Hp->Prop
def EP (X:Cx)(pins:List (Addr × Obj))(σ:St)(Q:VK)(u:Value)(s':Shared):Prop:=∃ v H',Inv X pins σ H' s'/\zbp v u/\Q v H'
def TP (X:Cx)(pins:List (Addr × Obj))(σ:St)(Q:Bool->Hp->Prop)(b:Bool)(s':Shared):Prop:=∃ H',Inv X pins σ H' s'/\Q b H'
def AP (X:Cx)(pins:List (Addr × Obj))(σ:St)(Q:List V->Hp->Prop)(us:List Value)(s':Shared):Prop:=∃ vs H',Inv X pins σ H' s'/\zbq vs us/\Q vs H'
def SP (X:Cx)(pins:List (Addr × Obj))(D:zzp)(f:Flow)(s':Shared):Prop :=
 match f with
 | .next=>∃ σ' H',Inv X pins σ' H' s'/\D.nx σ' H'
 | .brk=>∃ σ' H',Inv X pins σ' H' s'/\D.bk σ' H'
 | .cont=>∃ σ' H',Inv X pins σ' H' s'/\D.ct σ' H'
 | .ret u=>∃ v σ' H',Inv X pins σ' H' s'/\zbp v u/\D.rt v H'
def PE (X:Cx)(e:Expr)(t:TE):Prop :=
 ∀ (pins:List (Addr × Obj)) (s:Shared) (σ:St) (H:Hp) (Q:VK),Inv X pins σ H s->t σ H Q->wpAny (model X.prog X.w) X.A (eval e X.env) (EP X pins σ Q) X.xe s
def PT (X:Cx)(e:Expr)(t:TT):Prop :=
 ∀ (pins:List (Addr × Obj)) (s:Shared) (σ:St) (H:Hp) (Q:Bool->Hp->Prop),Inv X pins σ H s->t σ H Q->wpAny (model X.prog X.w) X.A (isTrue e X.env (eval e X.env)) (TP X pins σ Q) X.xe s
def PW (X:Cx)(e:Expr)(t:TT):Prop :=
 ∀ (whole:Sem Value) (pins:List (Addr × Obj)) (s:Shared) (σ:St) (H:Hp) (Q:Bool->Hp->Prop),Inv X pins σ H s->t σ H Q->wpAny (model X.prog X.w) X.A (isTrue e X.env whole) (TP X pins σ Q) X.xe s
theorem PW.pt {X:Cx}{e:Expr}{t:TT}(h:PW X e t):PT X e t:=h _
def PA (X:Cx)(es:List Expr)(t:TA):Prop :=
 ∀ (pos:Pos) (pins:List (Addr × Obj)) (s:Shared) (σ:St) (H:Hp) (Q:List V->Hp->Prop),Inv X pins σ H s->t σ H Q->wpAny (model X.prog X.w) X.A (spliced (backTo pos (starEach es X.env))) (AP X pins σ Q) X.xe s
def PS (X:Cx)(st:Stmt)(t:TS):Prop :=
 ∀ (pins:List (Addr × Obj)) (s:Shared) (σ:St) (H:Hp) (D:zzp),Inv X pins σ H s->t D σ H->wpAny (model X.prog X.w) X.A (exec st X.env) (SP X pins D) X.xe s
def PSs (X:Cx)(st:List Stmt)(t:TS):Prop :=
 ∀ (pins:List (Addr × Obj)) (s:Shared) (σ:St) (H:Hp) (D:zzp),Inv X pins σ H s->t D σ H->wpAny (model X.prog X.w) X.A (execs st X.env) (SP X pins D) X.xe s
theorem thn {α:Type}{t:Sem α}{Q Q':α->Shared->Prop}{M:Model}{A:Around}{E:Value->Shared->Prop}{s:Shared}(h:wpAny M A t Q E s)(hQ:∀ a s,Q a s->Q' a s):wpAny M A t Q' E s:=wpAny_mono h hQ fun _ _ x=>x
section
variable {X:Cx}
def zvw (i:Nat):TE:=fun σ H Q=>∃ v,σ[i]? = some (some v)/\Q v H
def tC (v:V):TE:=fun _ H Q=>Q v H
theorem z0b {i:Nat}{x:Str}{pos:Pos}(hN:X.N[i]? = some x)(hv:Vis X.env.scope x)(hd:(x == ("__debug__" : Str))=false:=by decide)(hcd:(x == ("__classdict__" : Str))=false:=by decide):PE X (.Name x pos) (zvw i):=by
 intro pins s σ H Q I h
 obtain ⟨v,e,h⟩:=h
 obtain ⟨m,hn,hl⟩:=I.loc
 obtain ⟨u,r,l⟩:=hl i x v hN e hv
 have b:EP X pins σ Q u s:=⟨v,H,I,r,h⟩
 rcases l with ⟨hk,hm⟩ | ⟨hk,c,hc,a⟩
 ·exact wpAny_Name (wpAny_loadName_local I.ok.kind hk hn hm b) hd
 ·rcases hk with hk | hk
  ·exact wpAny_Name (wpAny_loadName_cell I.ok.kind hk hc a b) hd
  ·exact wpAny_Name (wpAny_loadName_free I.ok.kind hk hc a b hcd) hd
theorem zan {i j pos}:PE X (.Constant (.int i) j pos) (tC (.int i)):=fun _ _ _ H _ I h=>wpAny_Constant_int ⟨.int i,H,I.tok _,⟨_,rfl⟩,h⟩
theorem ze7 {b j pos}:PE X (.Constant (.bool b) j pos) (tC (.bl b)):=fun _ _ _ H _ I h=>Constant_bool ⟨.bl b,H,I,rfl,h⟩
theorem zen {j pos}:PE X (.Constant .none j pos) (tC .non):=fun _ _ _ H _ I h=>Constant_none ⟨.non,H,I,rfl,h⟩
theorem zbr {x j pos}:PE X (.Constant (.str x) j pos) (tC (.str x)):=fun _ _ _ H _ I h=>Calls.Constant_str ⟨.str x,H,I.tok _,⟨_,rfl⟩,h⟩
def Gl (X:Cx)(x:Str):Prop:=X.env.kindOf x=some .globalImplicit
theorem zlv {E:Value->Shared->Prop}{pins:List (Addr × Obj)}{s:Shared}{σ:St}{H:Hp}{x:Str}{u:Value}{pos:Pos}{Q:Value->Shared->Prop}(I:Inv X pins σ H s)(hg:Gl X x)(hm:X.mg x=some u)(h:Q u s)
  (hd:(x == ("__debug__" : Str))=false:=by decide):wpAny (model X.prog X.w) X.A (eval (.Name x pos) X.env) Q E s :=
 Calls.Name_function_global I.ok.kind hg (Calls.loadGlobal_global (by rw [I.ok.glob]; exact I.mod.glob.keeps I.bk) hm h) hd
theorem zjz {E:Value->Shared->Prop}{pins:List (Addr × Obj)}{s:Shared}{σ:St}{H:Hp}{x:Str}{u:Value}{pos:Pos}{Q:Value->Shared->Prop}(I:Inv X pins σ H s)(hg:Gl X x)(hm:X.mg x=none)(hv:bootBuiltins x=some u)(h:Q u s)
  (hn:x≠ "__name__" :=by decide)(hd:(x == ("__debug__" : Str))=false:=by decide):wpAny (model X.prog X.w) X.A (eval (.Name x pos) X.env) Q E s:=by
 obtain ⟨mb,h1,h2⟩:=I.mod.blt
 exact Calls.Name_function_global I.ok.kind hg (Calls.loadGlobal_builtin (by rw [I.ok.glob]; exact I.mod.glob.keeps I.bk) hm (by rw [I.ok.blt]; exact h1.keeps I.bk) ((h2 x hn).trans hv) h) hd
theorem zyw {x:Str}{v:V}{u:Value}{pos:Pos}(hg:Gl X x)(hm:X.mg x=some u)(r:zbp v u)(hd:(x == ("__debug__" : Str))=false:=by decide):PE X (.Name x pos) (tC v) :=
 fun _ _ _ H _ I h=>zlv I hg hm ⟨v,H,I,r,h⟩ hd
theorem zz3 {x:Str}{v:V}{u:Value}{pos:Pos}(hg:Gl X x)(hm:X.mg x=none)(hv:bootBuiltins x=some u)(r:zbp v u)(hn:x≠ "__name__" :=by decide)(hd:(x == ("__debug__" : Str))=false:=by decide):PE X (.Name x pos) (tC v) :=
 fun _ _ _ H _ I h=>zjz I hg hm hv ⟨v,H,I,r,h⟩ hn hd
variable {a b:Expr} {ta tb:TE} {pos:Pos}
def PC (X:Cx)(op:CmpOp)(a b:Expr)(t:TE):Prop :=
 ∀ (pins:List (Addr × Obj)) (s:Shared) (σ:St) (H:Hp) (Q:VK),Inv X pins σ H s->t σ H Q ->
  wpAny (model X.prog X.w) X.A (eval a X.env) (fun v s₁=>wpAny (model X.prog X.w) X.A (eval b X.env) (fun u s₂=>wpAny (model X.prog X.w) X.A (compareOp op v u) (EP X pins σ Q) X.xe s₂) X.xe s₁) X.xe s
def tB (t:TE):TT:=fun σ H Q=>t σ H fun x H1=>∃ c,x = .bl c/\Q c H1
theorem zwu {op:CmpOp}{t:TE}(h:PC X op a b t)(h1:behindInMarks op b=false:=by first | exact nobehind _ (by decide) (by decide) | rfl):PE X (.Compare a [op] [b] pos) t:=fun pins s σ H Q I hw=>wpAny_Compare1 (h pins s σ H Q I hw) h1
theorem zr5 {op:CmpOp}{t:TE}(h:PC X op a b t)(h1:behindInMarks op b=false:=by first | exact nobehind _ (by decide) (by decide) | rfl):PT X (.Compare a [op] [b] pos) (tB t):=by
 intro pins s σ H Q I hw
 refine wpAny_isTrue_Compare1 (thn (h pins s σ H _ I hw) fun v s1 h1=>thn h1 fun u s2 h2=>thn h2 fun c s3 ⟨x,H1,I1,r1,q1⟩=>?_) h1
 obtain ⟨d,rfl,q⟩:=q1
 cases r1
 exact wpAny_truthy_bool ⟨H1,I1,q⟩
theorem zcm {e:Expr}{t:TE}(h:PE X e t)(he:∀ whole,isTrue e X.env whole=(do let v <- whole; standAt e.pos; holding [v] (truthy v)):=by intro _; rfl):PT X e (tB t):=by
 intro pins s σ H Q I hw
 refine isTrue_plain (thn (h pins s σ H _ I hw) fun v s1 ⟨x,H1,I1,r1,q1⟩=>?_) (he _)
 obtain ⟨d,rfl,q⟩:=q1
 cases r1
 exact wpAny_truthy_bool ⟨H1,I1,q⟩
variable {tA tB':TT} {rest:List Expr}
def z4a (t u:TT):TT:=fun σ H Q=>t σ H fun c H1=>if c=true then u σ H1 Q else Q false H1
def tOr (t u:TT):TT:=fun σ H Q=>t σ H fun c H1=>if c=true then Q true H1 else u σ H1 Q
def z3_ (t:TT):TT:=fun σ H Q=>t σ H fun c H1=>Q (!c) H1
theorem zog (ha:PT X a tA):PW X (.BoolOp .And [a] pos) tA:=by
 intro wh pins s σ H Q I h
 refine isTrue_and (thn (ha pins s σ H Q I h) fun c s1 e=>?_)
 cases c with
 | true=>exact isTrue_and_nil e
 | false=>exact e
theorem zm1 (ha:PT X a tA):PW X (.BoolOp .Or [a] pos) tA:=by
 intro wh pins s σ H Q I h
 refine isTrue_or (thn (ha pins s σ H Q I h) fun c s1 e=>?_)
 cases c with
 | false=>exact isTrue_or_nil e
 | true=>exact e
theorem zr7 (ha:PT X a tA)(hb:PW X (.BoolOp .And (b :: rest) pos) tB'):PW X (.BoolOp .And (a :: b :: rest) pos) (z4a tA tB'):=by
 intro wh pins s σ H Q I h
 refine isTrue_and (thn (ha pins s σ H _ I h) fun c s1 ⟨H1,I1,q1⟩=>?_)
 cases c with
 | true=>exact hb wh pins s1 σ H1 Q I1 q1
 | false=>exact ⟨H1,I1,q1⟩
theorem zqi (ha:PT X a tA)(hb:PW X (.BoolOp .Or (b :: rest) pos) tB'):PW X (.BoolOp .Or (a :: b :: rest) pos) (tOr tA tB'):=by
 intro wh pins s σ H Q I h
 refine isTrue_or (thn (ha pins s σ H _ I h) fun c s1 ⟨H1,I1,q1⟩=>?_)
 cases c with
 | true=>exact ⟨H1,I1,q1⟩
 | false=>exact hb wh pins s1 σ H1 Q I1 q1
theorem ze9 (ha:PT X a tA):PT X (.UnaryOp .Not a pos) (z3_ tA):=by
 intro pins s σ H Q I h
 exact isTrue_not (ha pins s σ H (fun c H1=>Q (!c) H1) I h)
def z2r (ta tb:TE):TE:=fun σ H Q=>ta σ H fun x H1=>∃ c,x = .bl c/\if c=true then tb σ H1 Q else Q (.bl false) H1
def z20 (ta:TE):TE:=fun σ H Q=>ta σ H fun x H1=>∃ c,x = .bl c/\Q (.bl (!c)) H1
theorem zm8 {op}{t:TE}(h:PE X a t):PE X (.BoolOp op [a] pos) t:=fun pins s σ H Q I hw=>BoolOp_one (h pins s σ H Q I hw)
theorem zky (ha:PE X a ta)(hb:PE X (.BoolOp .And (b :: rest) pos) tb):PE X (.BoolOp .And (a :: b :: rest) pos) (z2r ta tb):=by
 intro pins s σ H Q I h
 refine BoolOp_and (thn (ha pins s σ H _ I h) fun v s1 ⟨x,H1,I1,r1,q1⟩=>?_)
 obtain ⟨c,rfl,q1⟩:=q1
 cases r1
 refine wpAny_truthy_bool ?_
 cases c with
 | true=>exact hb pins s1 σ H1 Q I1 q1
 | false=>exact ⟨.bl false,H1,I1,rfl,q1⟩
theorem z0f (ha:PE X a ta):PE X (.UnaryOp .Not a pos) (z20 ta):=by
 intro pins s σ H Q I h
 refine UnaryOp_ (thn (ha pins s σ H _ I h) fun v s1 ⟨x,H1,I1,r1,q1⟩=>?_)
 obtain ⟨c,rfl,q1⟩:=q1
 cases r1
 exact not_of (wpAny_truthy_bool ⟨.bl (!c),H1,I1,rfl,q1⟩)
def tIf (t:TT)(ta tb:TE):TE:=fun σ H Q=>t σ H fun c H1=>if c=true then ta σ H1 Q else tb σ H1 Q
theorem zpb {c:Expr}(hc:PT X c tA)(ha:PE X a ta)(hb:PE X b tb):PE X (.IfExp c a b pos) (tIf tA ta tb):=by
 intro pins s σ H Q I h
 refine wpAny_IfExp (thn (hc pins s σ H _ I h) fun d s1 ⟨H1,I1,q1⟩=>?_)
 cases d with
 | true=>exact ha pins s1 σ H1 Q I1 q1
 | false=>exact hb pins s1 σ H1 Q I1 q1
end
def SqL (K:W.Frag)(H:Hp)(a:Addr)(xs:List V):Prop :=
 Rd H a (.lst xs) \/
  ∃ (o:Obj) (its:Array Value) (n:Nat),K.lookup a=some o/\o.cls = .type "list" /\o.dict=none/\o.data = .seq its n/\its.size<=sizeLine/\zbq xs its.toList
def SqT (K:W.Frag)(H:Hp)(a:Addr)(xs:List V):Prop :=
 Rd H a (.tup xs) \/
  ∃ (o:Obj) (its:Array Value) (n:Nat),K.lookup a=some o/\o.cls = .type "tuple" /\o.data = .seq its n/\its.size<=sizeLine/\zbq xs its.toList
def z4b:Value->Option V
 | .none=>some .non
 | .bool b=>some (.bl b)
 | .int i _=>some (.int i)
 | .str x _=>some (.str x)
 | .bytes b _=>some (.byt b)
 | .float b _=>some (.flt b)
 | .ref a=>some (.ref a)
 | .type n=>some (.ty n)
 | _=>none
theorem zbp.abs {x:V}{u:Value}(r:zbp x u):z4b u=some x:=by
 cases x with
 | non=>cases r; rfl
 | bl _=>cases r; rfl
 | int _=>obtain ⟨t,rfl⟩:=r; rfl
 | str _=>obtain ⟨t,rfl⟩:=r; rfl
 | byt _=>obtain ⟨t,rfl⟩:=r; rfl
 | flt _=>obtain ⟨t,rfl⟩:=r; rfl
 | ref _=>cases r; rfl
 | ty _=>cases r; rfl
theorem zbp.inj {x y:V}{u:Value}(r:zbp x u)(q:zbp y u):x=y:=Option.some.inj (r.abs.symm.trans q.abs)
theorem zbq.inj:∀ {xs ys:List V} {us:List Value},zbq xs us->zbq ys us->xs=ys
 | _,_,_,.nil,.nil=>rfl
 | _,_,_,.cons r t,.cons r' t'=>by rw [r.inj r',zbq.inj t t']
section
variable {X:Cx} {pins:List (Addr × Obj)} {σ:St} {H:Hp} {s:Shared} {a:Addr} {xs ys:List V}
theorem SqL.of {K:W.Frag}(h:H a=some (.lst xs)):SqL K H a xs:= .inl (.inl h)
theorem SqT.of {K:W.Frag}(h:H a=some (.tup xs)):SqT K H a xs:= .inl (.inl h)
theorem Inv.list (I:Inv X pins σ H s)(h:SqL X.K H a xs):∃ its:List Value,zbq xs its/\PlainL s.heap a its.toArray/\xs.length<=sizeLine:=by
 rcases h with h | ⟨o,its,n,hk,hc,hd,hs,hz,r⟩
 ·obtain ⟨z,its,n,r,e⟩:=h.ok I.hok
  exact ⟨its,r,⟨_,n,e,rfl,rfl,rfl⟩,z⟩
 ·refine ⟨its.toList,r,⟨o,n,I.kIn a o hk,hc,hd,by simpa using hs⟩,?_⟩
  have e:=r.length
  simp only [ie] at e
  omega
theorem Inv.tuple (I:Inv X pins σ H s)(h:SqT X.K H a xs):∃ its:List Value,zbq xs its/\IsTup s.heap a its.toArray/\xs.length<=sizeLine:=by
 rcases h with h | ⟨o,its,n,hk,hc,hs,hz,r⟩
 ·obtain ⟨z,its,r,p⟩:=h.ok I.hok
  exact ⟨its,r,p,z⟩
 ·refine ⟨its.toList,r,⟨o,I.kIn a o hk,hc,n,by simpa using hs⟩,?_⟩
  have e:=r.length
  simp only [ie] at e
  omega
theorem Inv.list_inj (I:Inv X pins σ H s)(h:SqL X.K H a xs)(h':SqL X.K H a ys):xs=ys:=by
 obtain ⟨its,r,⟨o,n,e,_,_,d⟩,_⟩:=I.list h
 obtain ⟨its',r',⟨o',n',e',_,_,d'⟩,_⟩:=I.list h'
 rw [e] at e'; cases e'
 rw [d] at d'
 injection d' with d1 _
 have:its=its':=by simpa using congrArg Array.toList d1
 subst this
 exact r.inj r'
end
abbrev Cx.wish (X:Cx)(E:Value->Shared->Prop):Cx:={ X with xe:=E }
abbrev Cx.nox (X:Cx):Cx:=X.wish fun _ _=>False
theorem Cx.Ok.wish {X:Cx}(ok:X.Ok)(E:Value->Shared->Prop):(X.wish E).Ok :=
 ⟨ok.mod,ok.kind,ok.glob,ok.blt,ok.above,ok.inj,ok.has,ok.cab,ok.hd,ok.frames,ok.stk,ok.exf,ok.bs,ok.bsz,ok.noex,ok.exfs,ok.funs,ok.frf⟩
theorem Cx.Ok.unwish {X:Cx}{E:Value->Shared->Prop}(ok:(X.wish E).Ok):X.Ok :=
 ⟨ok.mod,ok.kind,ok.glob,ok.blt,ok.above,ok.inj,ok.has,ok.cab,ok.hd,ok.frames,ok.stk,ok.exf,ok.bs,ok.bsz,ok.noex,ok.exfs,ok.funs,ok.frf⟩
section
variable {X:Cx} {pins:List (Addr × Obj)} {σ:St} {H:Hp} {s:Shared} {E:Value->Shared->Prop}
theorem Inv.wish (I:Inv X pins σ H s)(E:Value->Shared->Prop):Inv (X.wish E) pins σ H s:=⟨I.ok.wish E,I.os,I.bare,I.base,I.loc,I.cell,I.free,I.freeC,I.pin,I.hok,I.len⟩
theorem Inv.unwish (I:Inv (X.wish E) pins σ H s):Inv X pins σ H s:=⟨I.ok.unwish,I.os,I.bare,I.base,I.loc,I.cell,I.free,I.freeC,I.pin,I.hok,I.len⟩
theorem SP.unwish {D:zzp}{f:Flow}{s':Shared}(h:SP (X.wish E) pins D f s'):SP X pins D f s':=by
 cases f with
 | next=>obtain ⟨σ',H',I,q⟩:=h; exact ⟨σ',H',I.unwish,q⟩
 | brk=>obtain ⟨σ',H',I,q⟩:=h; exact ⟨σ',H',I.unwish,q⟩
 | cont=>obtain ⟨σ',H',I,q⟩:=h; exact ⟨σ',H',I.unwish,q⟩
 | ret u=>obtain ⟨v,σ',H',I,r,q⟩:=h; exact ⟨v,σ',H',I.unwish,r,q⟩
theorem PSs.nox {st:List Stmt}{t:TS}(h:PSs X.nox st t):PSs X st t:=fun pins s σ H D I hw =>
 wpAny_mono (h pins s σ H D (I.wish _) hw) (fun _ _ q=>q.unwish) fun _ _ z=>False.elim z
end
section
variable {X:Cx} {st:Stmt} {rest:List Stmt} {t u:TS} {e:Expr} {te:TE} {pos:Pos}
def z1_:TS:=fun D σ H=>D.nx σ H
def z3e (t u:TS):TS:=fun D σ H=>t { D with nx:=u D } σ H
theorem zay:PSs X [] z1_:=fun _ _ σ H _ I h=>wpAny_execs_nil ⟨σ,H,I,h⟩
theorem zad (h1:PS X st t)(h2:PSs X rest u):PSs X (st :: rest) (z3e t u):=by
 intro pins s σ H D I h
 refine wpAny_execs_cons (thn (h1 pins s σ H { D with nx:=u D } I h) fun f s1 q=>?_)
 cases f with
 | next =>
  obtain ⟨σ',H',I',q⟩:=q
  exact h2 pins s1 σ' H' D I' q
 | ret v=>exact q
 | brk=>exact q
 | cont=>exact q
theorem zah (h1:PS X st t):PSs X [st] t:=by
 intro pins s σ H D I h
 refine wpAny_execs_cons (thn (h1 pins s σ H D I h) fun f s1 q=>?_)
 cases f with
 | next=>exact wpAny_execs_nil q
 | ret v=>exact q
 | brk=>exact q
 | cont=>exact q
theorem Inv.quiet {pins:List (Addr × Obj)}{σ:St}{H:Hp}{s:Shared}(I:Inv X pins σ H s):interactive X.env=false:=by simp [interactive,I.ok.kind]
def z2k (te:TE):TS:=fun D σ H=>te σ H fun _ H1=>D.nx σ H1
theorem zat (he:PE X e te)(hs:swapsWith e none pos.line X.env=pure false:=by rfl):PS X (.Expr e pos) (z2k te):=by
 intro pins s σ H D I h
 exact wpAny_Expr_any (thn (he pins s σ H _ I h) fun v s1 ⟨x,H1,I1,r1,q1⟩=>⟨σ,H1,I1,q1⟩) I.quiet hs
def z3z (te:TE):TS:=fun D σ H=>te σ H D.rt
theorem zas (he:PE X e te):PS X (.Return (some e) pos) (z3z te):=by
 intro pins s σ H D I h
 exact wpAny_Return_some (thn (he pins s σ H _ I h) fun v s1 ⟨x,H1,I1,r1,q1⟩=>⟨x,σ,H1,I1,r1,q1⟩)
def z2g:TS:=fun D _ H=>D.rt .non H
theorem zz4:PS X (.Return none pos) z2g:=fun _ _ σ H _ I h=>wpAny_Return_none ⟨.non,σ,H,I,rfl,h⟩
def z31 (c:TT)(t u:TS):TS:=fun D σ H=>c σ H fun b H1=>if b=true then t D σ H1 else u D σ H1
theorem zbw {c:Expr}{a b:List Stmt}{tc:TT}(hc:PT X c tc)(ha:PSs X a t)(hb:PSs X b u):PS X (.If c a b pos) (z31 tc t u):=by
 intro pins s σ H D I h
 refine wpAny_If (thn (hc pins s σ H _ I h) fun d s1 ⟨H1,I1,q1⟩=>?_)
 cases d with
 | true=>exact ha pins s1 σ H1 D I1 q1
 | false=>exact hb pins s1 σ H1 D I1 q1
end
abbrev TG:=V->St->Hp->(St->Hp->Prop)->Prop
abbrev TGs:=List V->St->Hp->(St->Hp->Prop)->Prop
def PG (X:Cx)(target:Expr)(t:TG):Prop :=
 ∀ (pins:List (Addr × Obj)) (s:Shared) (σ:St) (H:Hp) (v:V) (u:Value) (Q:St->Hp->Prop),Inv X pins σ H s->zbp v u->t v σ H Q ->
  wpAny (model X.prog X.w) X.A (assign target X.env u) (fun _ s'=>∃ σ' H',Inv X pins σ' H' s'/\Q σ' H') X.xe s
def PGs (X:Cx)(ts:List Expr)(t:TGs):Prop :=
 ∀ (pins:List (Addr × Obj)) (s:Shared) (σ:St) (H:Hp) (vs:List V) (us:List Value) (Q:St->Hp->Prop),Inv X pins σ H s->zbq vs us->t vs σ H Q ->
  wpAny (model X.prog X.w) X.A (assignInOrder ((assignEach ts X.env).map (·.2)) us) (fun _ s'=>∃ σ' H',Inv X pins σ' H' s'/\Q σ' H') X.xe s
section
variable {X:Cx} {pos:Pos}
def zmv (i:Nat):TG:=fun v σ H Q=>Q (σ.set i (some v)) H
theorem zaw {i:Nat}{x:Str}(hN:X.N.Nodup)(hi:X.N[i]? = some x)(hx:Loc X.env.scope x)(hf:X.fn x=true\/X.env.scope.names.lookup x=some .local:=by first | exact .inl rfl | exact .inr rfl | assumption):PG X (.Name x pos) (zmv i):=by
 intro pins s σ H v u Q I r h
 exact wpAny_assign_Name (zlm I hN hi hx r (fun s' I'=>⟨_,H,I',h⟩) hf)
def z30:TGs:=fun vs σ H Q=>vs=[]/\Q σ H
def z2d (t:TG)(u:TGs):TGs:=fun vs σ H Q=>∃ v r,vs=v :: r/\t v σ H fun σ' H'=>u r σ' H' Q
theorem zg7:PGs X [] z30:=by
 intro pins s σ H vs us Q I r h
 obtain ⟨e,h⟩:=h
 subst e
 cases r
 exact assignInOrder_nil ⟨σ,H,I,h⟩
theorem zb3 {e:Expr}{es:List Expr}{t:TG}{u:TGs}(h1:PG X e t)(h2:PGs X es u)
  (hs:(assignEach (e :: es) X.env).map (·.2)=assign e X.env :: (assignEach es X.env).map (·.2):=by rfl):PGs X (e :: es) (z2d t u):=by
 intro pins s σ H vs us Q I r h
 obtain ⟨v,vr,e1,h⟩:=h
 subst e1
 cases r with
 | cons r rr =>
  rw [hs]
  refine assignInOrder_cons (thn (h1 pins s σ H _ _ _ I r h) fun _ s1 ⟨σ1,H1,I1,q1⟩=>?_)
  exact h2 pins s1 σ1 H1 _ _ Q I1 rr q1
def z3i (K:W.Frag)(n:Nat)(t:TGs):TG:=fun v σ H Q=>∃ a xs,v = .ref a/\SqT K H a xs/\xs.length=n/\t xs σ H Q
theorem zm0 {es:List Expr}{k:Nat}{t:TGs}{n:Nat}(hc:X.calm=true)(h:PGs X es t)
  (hn:(assignEach es X.env).length=n:=by rfl)(hst:(assignEach es X.env).findIdx? (·.1)=none:=by rfl):PG X (.Tuple es k pos) (z3i X.K n t):=by
 intro pins s σ H v u Q I r hw
 obtain ⟨a,xs,e1,hq,hl,hw⟩:=hw
 subst e1
 cases r
 obtain ⟨its,rv,ht,hz⟩:=I.tuple hq
 refine assign_Tuple_tuple (I.ok.hd hc) ht (by simp [hn,<- hl,rv.length]) hst fun h' hx=>?_
 have I1:Inv X pins σ H { s with heap:=h' }:=I.kept (t':=s.toks) fun b o e=>hx b o (gl (gi e)) e
 exact h pins _ σ H xs _ Q I1 (by simpa using rv) hw
def z00 (te:TE)(g:TG):TS:=fun D σ H=>te σ H fun x H1=>g x σ H1 D.nx
theorem z0j {tg e:Expr}{te:TE}{g:TG}(he:PE X e te)(hg:PG X tg g)(hs:swapsWithSole [tg] e pos.line X.env=pure false:=by rfl)(hw:swappedStores [tg] e X.env=pure none:=by rfl)
  (h1:(assignEach [tg] X.env).map (·.2)=[assign tg X.env]:=by rfl):PS X (.Assign [tg] e pos) (z00 te g):=by
 intro pins s σ H D I h
 refine wpAny_Assign_stores (thn (he pins s σ H _ I h) fun v s1 ⟨x,H1,I1,r1,q1⟩=>?_) hs hw
 rw [h1]
 exact thn (hg pins s1 σ H1 x v _ I1 r1 q1) fun _ s2 q=>q
theorem zax {i:Nat}{x:Str}{e:Expr}{te:TE}{pos':Pos}(hN:X.N.Nodup)(hi:X.N[i]? = some x)(hx:Loc X.env.scope x)(he:PE X e te)(hs:swapsWith e (some (.Name x pos')) pos.line X.env=pure false:=by rfl)(hf:X.fn x=true\/X.env.scope.names.lookup x=some .local:=by first | exact .inl rfl | exact .inr rfl | assumption) :
  PS X (.Assign [.Name x pos'] e pos) (z00 te (zmv i)):=by
 intro pins s σ H D I h
 refine wpAny_Assign_Name (thn (he pins s σ H _ I h) fun v s1 ⟨y,H1,I1,r1,q1⟩=>?_) hs
 exact zlm I1 hN hi hx r1 (fun s2 I2=>⟨_,H1,I2,q1⟩) hf
def z0k (c:TT)(tb:TS):TS:=fun D σ H=>∃ W:Nat->St->Hp->Prop,(∃ m,W m σ H)/\∀ m σ H,W m σ H ->
 c σ H fun b H1=>if b=true then ∃ N:St->Hp->Prop,(∀ σ' H',N σ' H'->∃ m',m'<m/\W m' σ' H')/\tb { D with nx:=N,ct:=N,bk:=D.nx } σ H1 else D.nx σ H1
theorem zph {c:Expr}{body:List Stmt}{tc:TT}{tb:TS}(hp:PassesOwn (model X.prog X.w) X.A X.env X.xe)(hc:PT X c tc)(hb:PSs X body tb):PS X (.While c body [] pos) (z0k tc tb):=by
 intro pins s σ H D I h
 obtain ⟨W,⟨m0,w0⟩,turn⟩:=h
 refine wpAny_While (codeAny_whileLoop (fun n s'=>∃ σ' H',Inv X pins σ' H' s'/\W n σ' H') ?_ m0 ⟨σ,H,I,w0⟩)
 rintro n s1 ⟨σ1,H1,I1,w1⟩
 refine wpAny_passesOwn hp (thn (hc pins s1 σ1 H1 _ I1 (turn n σ1 H1 w1)) fun b s2 ⟨H2,I2,q2⟩=>?_)
 cases b with
 | true =>
  obtain ⟨N,hN,q2⟩:=q2
  rw [if_pos rfl]
  refine wpAny_passesOwn hp (thn (hb pins s2 σ1 H2 _ I2 q2) fun f s3 q3=>?_)
  cases f with
  | next =>
   obtain ⟨σ3,H3,I3,n3⟩:=q3
   obtain ⟨m',hm,w3⟩:=hN σ3 H3 n3
   exact ⟨m',hm,σ3,H3,I3,w3⟩
  | cont =>
   obtain ⟨σ3,H3,I3,n3⟩:=q3
   obtain ⟨m',hm,w3⟩:=hN σ3 H3 n3
   exact ⟨m',hm,σ3,H3,I3,w3⟩
  | brk=>exact q3
  | ret v=>exact q3
 | false =>
  rw [if_neg Bool.false_ne_true]
  exact wpAny_execs_nil ⟨σ1,H2,I2,q2⟩
end
structure It where
 go:Nat->Hp->Prop
 yld:Nat->Hp->V->Hp->Prop
 stop:Nat->Hp->Prop
def zp7 (X:Cx)(pins:List (Addr × Obj))(H:Hp)(b:Addr):Prop :=
 H b=none/\b≠X.env.locals/\b∉X.fs/\(b∈X.ex\/X.s₀.heap.objs.size<=b)/\(∀ x c,X.env.cells.lookup x=some c->c≠b)/\∀ p∈X.pn++pins,p.1≠b
theorem Inv.fpOk {X:Cx}{pins:List (Addr × Obj)}{σ:St}{H H':Hp}{s:Shared}{b:Addr}(I:Inv X pins σ H s)(hb:s.heap.objs.size<=b)(hn:H' b=none):zp7 X pins H' b:=by
 refine ⟨hn,j9 (gc I.lt hb),I.nofs hb,.inr (gm I.sz hb),fun x c e z=>?_,fun p hp z=>?_⟩
 ·obtain ⟨v,q⟩:=I.cell x c e
  exact absurd (gc q.lt (by rw [z]; exact hb)) (j6 _)
 ·exact absurd (gc (gi (I.pin p hp).1) (by rw [z]; exact hb)) (j6 _)
structure z1p (P:Program)(w:World)(K:W.Frag)(tg:Expr)(J:It)(fp:List Addr)(it:Addr)(tn:Nat->Heap->Prop):Prop where
 mem:it∈fp
 obj:∀ i h,tn i h->∀ b∈fp,∃ o,h.get? b=some o/\∀ v,o.data≠ .cell v
 keep:∀ i h h',tn i h->(∀ b∈fp,∀ o,h.get? b=some o->h'.get? b=some o)->tn i h'
 item:∀ (X:Cx),X.prog=P->X.w=w->X.K=K->X.calm=true->∀ (i:Nat) (pins:List (Addr × Obj)) (s:Shared) (σ:St) (H:Hp) (E:Value->Shared->Prop),Inv X pins σ H s->(∀ b∈fp,zp7 X pins H b)->tn i s.heap->J.go i H ->
  wpAny (model P w) X.A (pyNext (.ref it)) (fun r s1=>∃ u,r=some u /\
   wpAny (model P w) X.A (letOwnedTupleGo tg (.ref it) u) (fun _ s2=>∃ x H',Inv X pins σ H' s2/\zbp x u/\J.yld i H x H'/\tn (i+1) s2.heap/\∀ b∈fp,H' b=none) E s1) E s
 done:∀ (X:Cx),X.prog=P->X.w=w->X.K=K->X.calm=true->∀ (i:Nat) (pins:List (Addr × Obj)) (s:Shared) (σ:St) (H:Hp) (E:Value->Shared->Prop),Inv X pins σ H s->(∀ b∈fp,zp7 X pins H b)->tn i s.heap->J.stop i H ->
  wpAny (model P w) X.A (pyNext (.ref it)) (fun r s1=>r=none/\Inv X pins σ H s1) E s
 self:∀ (A:Around) (i:Nat) (s:Shared) (Q:Value->Shared->Prop) (E:Value->Shared->Prop),tn i s.heap->Q (.ref it) s->wpAny (model P w) A (pyIter (.ref it)) Q E s
abbrev TI:=St->Hp->(It->Hp->Prop)->Prop
def PIE (X:Cx)(pins:List (Addr × Obj))(σ:St)(tg:Expr)(R:It->Hp->Prop)(itv:Value)(s2:Shared):Prop :=
 ∃ (it:Addr) (fp:List Addr) (tn:Nat->Heap->Prop) (J:It) (H':Hp),itv = .ref it/\Inv X pins σ H' s2/\z1p X.prog X.w X.K tg J fp it tn/\tn 0 s2.heap/\(∀ b∈fp,zp7 X pins H' b)/\R J H'
def PI (X:Cx)(tg iter:Expr)(wi:TI):Prop :=
 ∀ (pins:List (Addr × Obj)) (s:Shared) (σ:St) (H:Hp) (R:It->Hp->Prop),Inv X pins σ H s->wi σ H R ->
  wpAny (model X.prog X.w) X.A (eval iter X.env) (fun v s1=>wpAny (model X.prog X.w) X.A (pyIter v) (PIE X pins σ tg R) X.xe s1) X.xe s
theorem zyz {M:Model}{A:Around}{E:Value->Shared->Prop}{s:Shared}{tg:Expr}{it:Addr}{u:Value}{o:Obj}{n:String}{vs:Array Value}{Q:Unit->Shared->Prop}(ho:s.heap.get? it=some o)(hc:o.cls = .type n)(hd:o.data = .fields vs)
    (hn:["enumerate","zip","dict_itemiterator","dict_reverseitemiterator","odict_iterator","itertools.zip_longest","itertools.pairwise"].contains n=false)(hQ:Q () s):wpAny M A (letOwnedTupleGo tg (.ref it) u) Q E s:=by
  unfold letOwnedTupleGo
  cases tg <;> first
    | exact wpAny_pure hQ
    | (cases u <;> first
        | exact wpAny_pure hQ
        | (refine wpAny_bind (wpAny_load ho ?_)
           rw [hc,hd]
           show wpAny M A (if (["enumerate","zip","dict_itemiterator","dict_reverseitemiterator","odict_iterator","itertools.zip_longest","itertools.pairwise"].contains n && vs[0]? == some (rawInt _))=true then _ else _) Q E s
           rw [if_neg (by intro h; rw [hn,Bool.false_and] at h; cases h)]
           exact wpAny_pure hQ))
def Itl (K:W.Frag)(a:Addr):It :=
 ⟨fun i H=>∃ xs x,SqL K H a xs/\xs[i]? = some x,fun i H x H'=>H'=H/\∀ xs,SqL K H a xs->xs[i]? = some x,fun i H=>∃ xs,SqL K H a xs/\xs.length<=i⟩
def Itr (lo:Int)(n:Nat):It:=⟨fun i _=>i<n,fun i H x H'=>H'=H/\x = .int (lo+i),fun i _=>n<=i⟩
theorem zt6 {P:Program}{w:World}{K:W.Frag}{tg:Expr}(a it:Addr):z1p P w K tg (Itl K a) [it] it (fun i h=>h.IsListIter it a i) where
 mem:=by simp
 obj:=fun i h st b hb=>by
  have e:b=it:=by simpa using hb
  subst e
  obtain ⟨o,e,c,d⟩:=st
  exact ⟨o,e,fun v z=>by rw [d] at z; cases z⟩
 keep:=fun i h h' st k=>st.at fun o e=>k it (by simp) o e
 item:=by
  intro X hP hw hK hc i pins s σ H E I hf st hg
  subst hP hw hK
  obtain ⟨xs,x,hq,hx⟩:=hg
  obtain ⟨its,rv,p,hz⟩:=I.list hq
  obtain ⟨u,hu,ru⟩:=rv.get hx
  obtain ⟨f0,f1,f2,f3,f4,f5⟩:=hf it (by simp)
  refine wpAny_pyNext_list_item st p.isList (x:=u) (by simpa using hu) fun h' f sb=>?_
  have I1:Inv X pins σ H { s with heap:=h' }:=I.turned (t':=s.toks) (fun b o hb e=>(sb.2 b hb).trans e) f0 f1 f3 f4 f5
  obtain ⟨o,e,c,d⟩:=id f
  exact ⟨u,rfl,zyz (s:={ s with heap:=h' }) e c d (by decide) ⟨x,H,I1,ru,⟨rfl,fun ys hy=>by rw [I.list_inj hy hq]; exact hx⟩,f,fun b hb=>(hf b hb).1⟩⟩
 done:=by
  intro X hP hw hK hc i pins s σ H E I hf st hg
  subst hP hw hK
  obtain ⟨xs,hq,hx⟩:=hg
  obtain ⟨its,rv,p,hz⟩:=I.list hq
  obtain ⟨f0,f1,f2,f3,f4,f5⟩:=hf it (by simp)
  have hl:=rv.length
  exact wpAny_pyNext_list_end (I.ok.hd hc) st p.isList (by simp; omega) fun h' eb=>⟨rfl,I.turned (t':=s.toks) (fun b o hb e=>eb b o hb e) f0 f1 f3 f4 f5⟩
 self:=fun _ _ _ _ _ st h=>wpAny_pyIter_listiter st h
theorem zqm {P:Program}{w:World}{K:W.Frag}{tg:Expr}(it:Addr)(lo:Int)(n:Nat):z1p P w K tg (Itr lo n) [it] it (fun i h=>IsRangeIter h it (lo+(i:Nat) * 1) ((n:Int) - (i:Nat)) 1) where
 mem:=by simp
 obj:=fun i h st b hb=>by
  have e:b=it:=by simpa using hb
  subst e
  exact ⟨_,st,fun v z=>by
   have z':Data.fields _=Data.cell v:=z
   cases z'⟩
 keep:=fun i h h' st k=>k it (by simp) _ st
 item:=by
  intro X hP hw hK hc i pins s σ H E I hf st hg
  subst hP hw hK
  obtain ⟨f0,f1,f2,f3,f4,f5⟩:=hf it (by simp)
  have W:=Walks.range (prog:=X.prog) (w:=X.w) (I.ok.hd hc) it lo 1 n
  refine W.item i s _ _ hg st fun v h' tk hv a kk=>?_
  obtain ⟨t,rfl⟩:=hv
  have I1:Inv X pins σ H { s with heap:=h',toks:=tk }:=I.turned (fun b o hb e=>kk b o (by simpa using hb) e) f0 f1 f3 f4 f5
  refine ⟨_,rfl,zyz (s:={ s with heap:=h',toks:=tk }) (n:= "range_iterator") a rfl rfl (by decide) ⟨.int (lo+i),H,I1,⟨t,?_⟩,⟨rfl,rfl⟩,a,fun b hb=>(hf b hb).1⟩⟩
  rw [Int.mul_one]
 done:=by
  intro X hP hw hK hc i pins s σ H E I hf st hg
  subst hP hw hK
  obtain ⟨f0,f1,f2,f3,f4,f5⟩:=hf it (by simp)
  exact wpAny_pyNext_range_end (I.ok.hd hc) st (by have:n<=i:=hg; omega) fun h' eb=>⟨rfl,I.turned (t':=s.toks) (fun b o hb e=>eb b o hb e) f0 f1 f3 f4 f5⟩
 self:=fun _ _ _ _ _ st h=>wpAny_pyIter_rangeiter st h
section
variable {X:Cx} {tg:Expr}
def z2m (K:W.Frag)(tl:TE):TI:=fun σ H R=>tl σ H fun x H1=>∃ a,x = .ref a/\(∃ xs,SqL K H1 a xs)/\R (Itl K a) H1
theorem zbf {l:Expr}{tl:TE}(hl:PE X l tl):PI X tg l (z2m X.K tl):=by
 intro pins s σ H R I h
 refine thn (hl pins s σ H _ I h) fun v s1 ⟨x,H1,I1,r1,q1⟩=>?_
 obtain ⟨a,e,⟨xs,hq⟩,q⟩:=q1
 subst e
 cases r1
 obtain ⟨its,rv,p,hz⟩:=I1.list hq
 refine wpAny_pyIter_list p.isList ?_
 refine ⟨s1.heap.objs.size,[s1.heap.objs.size],_,_,H1,rfl,I1.kept (t':=s1.toks) fun b o e=>Heap.get?_push_of_some _ e,zt6 a _,⟨_,Heap.get?_push_size _ rfl,rfl,rfl⟩,fun b hb=>?_,q⟩
 have e:b=s1.heap.objs.size:=by simpa using hb
 subst e
 exact I1.fpOk (gf _) (I1.hok.fresh (gf _))
theorem zvv {pins:List (Addr × Obj)}{σ:St}{H:Hp}{s:Shared}{R:It->Hp->Prop}{E:Value->Shared->Prop}{lo hi:Int}{t u v:Tok}{tk:Nat}(I:Inv X pins σ H s)(h1 : -(2 ^ 62)<=lo)(h2:lo<2 ^ 62)(h3 : -(2 ^ 62)<=hi)(h4:hi<2 ^ 62)
  (q:R (Itr lo (hi - lo).toNat) H):wpAny (model X.prog X.w) X.A (pyIter (.ref s.heap.objs.size)) (PIE X pins σ tg R) E { s with heap:=s.heap.push { cls:= .type "range",data:= .fields #[.int lo t,.int hi u,.int 1 v] },toks:=tk }:=by
 refine wpAny_pyIter_range (IsRange.new ..) (small_one h1 h2 h3 h4) ?_
 have I1:Inv X pins σ H { s with heap:=s.heap.push { cls:= .type "range",data:= .fields #[.int lo t,.int hi u,.int 1 v] },toks:=tk }:=I.kept fun b o e=>Heap.get?_push_of_some _ e
 refine ⟨(s.heap.push { cls:= .type "range",data:= .fields #[.int lo t,.int hi u,.int 1 v] }).objs.size,[(s.heap.push { cls:= .type "range",data:= .fields #[.int lo t,.int hi u,.int 1 v] }).objs.size],_,_,H,rfl,
  I1.kept (t':=tk) fun b o e=>Heap.get?_push_of_some _ e,zqm _ lo (hi - lo).toNat,?_,fun b hb=>?_,q⟩
 ·have e1:lo+((0:Nat):Int) * 1=lo:=by simp
  have e2:(((hi - lo).toNat:Nat):Int) - ((0:Nat):Int)=Builtin.Range.rangeSize lo hi 1:=by rw [rangeSize_one]; split <;> omega
  show IsRangeIter _ _ (lo+((0:Nat):Int) * 1) ((((hi - lo).toNat:Nat):Int) - ((0:Nat):Int)) 1
  rw [e1,e2]
  exact Heap.get?_push_size _ rfl
 ·have e:b=(s.heap.push { cls:= .type "range",data:= .fields #[.int lo t,.int hi u,.int 1 v] }).objs.size:=by simpa using hb
  subst e
  exact I1.fpOk (gf _) (I1.hok.fresh (gf _))
def z2_ (ta:TA):TI:=fun σ H R=>ta σ H fun vs H1=>∃ j:Int,vs=[.int j]/\ -(2 ^ 62)<=j/\j<2 ^ 62/\R (Itr 0 j.toNat) H1
theorem ztr {a:Expr}{ta:TA}{p pos:Pos}(hg:Gl X "range")(hm:X.mg "range" = none)(ha:PA X [a] ta)(hs:starEach [a] X.env=[(false,eval a X.env)]:=by rfl):PI X tg (.Call (.Name "range" p) [a] [] pos) (z2_ ta):=by
 intro pins s σ H R I h
 refine Call_ (zjz I hg hm boot_range (PyProof.Rows.callWith_type1 (thn (ha pos pins s σ H _ I h) fun us s1 ⟨vs,H1,I1,r1,q1⟩=>?_) hs rfl))
 obtain ⟨j,e,q1,q2,q⟩:=q1
 subst e
 cases r1 with
 | cons r rr =>
  cases rr
  obtain ⟨t,rfl⟩:=r
  exact call_range_1 (zvv I1 (by omega) (by omega) q1 q2 (by simpa using q))
def z4g (wi:TI)(g:TG)(tb:TS):TS:=fun D σ H=>wi σ H fun J H1=>∃ W:Nat->Nat->St->Hp->Prop,(∃ m,W 0 m σ H1)/\∀ i m σ H,W i m σ H ->
 (J.stop i H/\D.nx σ H)\/(J.go i H/\∃ N:St->Hp->Prop,(∀ σ' H',N σ' H'->∃ m',m'<m/\W (i+1) m' σ' H')/\∀ x H',J.yld i H x H'->g x σ H' fun σ2 H2=>tb { D with nx:=N,ct:=N,bk:=D.nx } σ2 H2)
def zmj (fp:List Addr)(h:Heap):List (Addr × Obj):=fp.filterMap fun b=>(h.get? b).map fun o=>(b,o)
theorem zfo {fp:List Addr}{h:Heap}{b:Addr}{o:Obj}(hb:b∈fp)(e:h.get? b=some o):(b,o)∈zmj fp h:=iw.mpr ⟨b,hb,by rw [e]; rfl⟩
theorem zt4 {fp:List Addr}{h:Heap}{p:Addr × Obj}(hp:p∈zmj fp h):p.1∈fp/\h.get? p.1=some p.2:=by
 obtain ⟨b,hb,e⟩:=iw.mp hp
 cases q:h.get? b with
 | none=>rw [q] at e; cases e
 | some o =>
  rw [q] at e
  have e':(b,o)=p:=Option.some.inj e
  subst e'
  exact ⟨hb,q⟩
theorem Inv.pinned {pins:List (Addr × Obj)}{σ:St}{H:Hp}{s:Shared}{fp:List Addr}(I:Inv X pins σ H s)(hf:∀ b∈fp,zp7 X pins H b)(ho:∀ b∈fp,∃ o,s.heap.get? b=some o/\∀ v,o.data≠ .cell v):Inv X (pins++zmj fp s.heap) σ H s :=
 I.pins_of fun p hp=>(fq.mp hp).elim (fun z=>I.pin p (fh _ z)) fun z=>by
  obtain ⟨hb,e⟩:=zt4 z
  obtain ⟨f0,f1,f2,_⟩:=hf p.1 hb
  obtain ⟨o,e',d⟩:=ho p.1 hb
  rw [e] at e'; cases e'
  exact ⟨e,f0,f1,f2,d⟩
theorem Inv.unpinned {pins pl:List (Addr × Obj)}{σ:St}{H:Hp}{s:Shared}(I:Inv X (pins++pl) σ H s):Inv X pins σ H s:=I.pins_of fun p hp=>I.pin p (fh _ (gg _ hp))
theorem zdf {iter:Expr}{body:List Stmt}{wi:TI}{g:TG}{tb:TS}{pos:Pos}(hp:PassesOwn (model X.prog X.w) X.A X.env X.xe)(hc:X.calm=true)(hi:PI X tg iter wi)(hg:PG X tg g)(hb:PSs X body tb)
  (hs:∀ x,foldedSetIterable iter X.env x=pure x:=by intro _; rfl):PS X (.For tg iter body [] pos) (z4g wi g tb):=by
 intro pins s σ H D I h
 refine wpAny_For (thn (hi pins s σ H _ I h) fun v s1 h1=>thn h1 fun z s2 h2=>?_) hs
 obtain ⟨it,fp,tn,J,H2,e,I2,T,t,f2,W,⟨m0,w0⟩,turn⟩:=h2
 subst e
 have c:∀ {H':Hp},(∀ b∈fp,H' b=none)->∀ b∈fp,zp7 X pins H' b:=fun hn b hb=>⟨hn b hb,(f2 b hb).2⟩
 refine codeAny_forLoop_any (fun n s'=>∃ i σ' H',Inv X pins σ' H' s'/\tn i s'.heap/\(∀ b∈fp,H' b=none)/\W i n σ' H') ?_ m0 ⟨0,σ,H2,I2,t,fun b hb=>(f2 b hb).1,w0⟩
 rintro n s3 ⟨i,σ3,H3,I3,p,l,w3⟩
 rcases turn i n σ3 H3 w3 with ⟨stop,qn⟩ | ⟨go,N,hN,step⟩
 ·refine wpAny_passesOwn hp (thn (T.done X rfl rfl rfl hc i pins s3 σ3 H3 X.xe I3 (c l) p stop) fun r s4 ⟨hr,I4⟩=>?_)
  subst hr
  exact wpAny_execs_nil ⟨σ3,H3,I4,qn⟩
 ·refine wpAny_passesOwn hp (thn (T.item X rfl rfl rfl hc i pins s3 σ3 H3 X.xe I3 (c l) p go) fun r s4 ⟨u,hr,h4⟩=>?_)
  subst hr
  refine wpAny_passesOwn hp (thn h4 fun _ s5 ⟨x,H5,I5,r5,y5,j,y⟩=>?_)
  have q:=I5.pinned (c y) (T.obj _ _ j)
  refine wpAny_passesOwn hp (thn (hg _ s5 σ3 H5 x u _ q r5 (step x H5 y5)) fun _ s6 ⟨σ6,H6,I6,q6⟩=>?_)
  refine wpAny_passesOwn hp (thn (hb _ s6 σ6 H6 _ I6 q6) fun f s7 q7=>?_)
  have a:∀ {σ7:St} {H7:Hp},Inv X (pins++zmj fp s5.heap) σ7 H7 s7->N σ7 H7->∃ m,m<n/\∃ i σ' H',Inv X pins σ' H' s7/\tn i s7.heap/\(∀ b∈fp,H' b=none)/\W i m σ' H':=fun {σ7 H7} I7 n7=>by
   obtain ⟨m',hm,w7⟩:=hN σ7 H7 n7
   refine ⟨m',hm,i+1,σ7,H7,I7.unpinned,T.keep _ _ _ j fun b hb o e=>(I7.pin (b,o) (fh _ (fh _ (zfo hb e)))).1,fun b hb=>?_,w7⟩
   obtain ⟨o,e,d⟩:=T.obj _ _ j b hb
   exact (I7.pin (b,o) (fh _ (fh _ (zfo hb e)))).2.1
  cases f with
  | next=>obtain ⟨σ7,H7,I7,n7⟩:=q7; exact a I7 n7
  | cont=>obtain ⟨σ7,H7,I7,n7⟩:=q7; exact a I7 n7
  | brk=>obtain ⟨σ7,H7,I7,q7⟩:=q7; exact ⟨σ7,H7,I7.unpinned,q7⟩
  | ret v=>obtain ⟨x7,σ7,H7,I7,r7,q7⟩:=q7; exact ⟨x7,σ7,H7,I7.unpinned,r7,q7⟩
end
theorem zbs {K:W.Frag}{a:Addr}{xs:List V}{g:TG}{tb:TS}{D:zzp}{σ:St}{H:Hp}(Pv:Nat->St->Hp->Prop)(h0:Pv 0 σ H)(hl:∀ i σ H,i<=xs.length->Pv i σ H->SqL K H a xs)
  (hs:∀ i x σ H,xs[i]? = some x->Pv i σ H->g x σ H fun σ2 H2=>tb { D with nx:=Pv (i+1),ct:=Pv (i+1),bk:=D.nx } σ2 H2)(hd:∀ σ H,Pv xs.length σ H->D.nx σ H) :
  ∃ W:Nat->Nat->St->Hp->Prop,(∃ m,W 0 m σ H)/\∀ i m σ H,W i m σ H ->
   ((Itl K a).stop i H/\D.nx σ H)\/((Itl K a).go i H/\∃ N:St->Hp->Prop,(∀ σ' H',N σ' H'->∃ m',m'<m/\W (i+1) m' σ' H')/\∀ x H',(Itl K a).yld i H x H'->g x σ H' fun σ2 H2=>tb { D with nx:=N,ct:=N,bk:=D.nx } σ2 H2):=by
 refine ⟨fun i m σ H=>m=xs.length - i/\i<=xs.length/\Pv i σ H,⟨xs.length,by simp,i9 _,h0⟩,?_⟩
 rintro i m σ H ⟨rfl,hi,p⟩
 have q:=hl i σ H hi p
 by_cases b:i<xs.length
 ·refine .inr ⟨⟨xs,xs[i],q,by simp [b]⟩,Pv (i+1),fun σ' H' p'=>⟨xs.length - (i+1),by omega,rfl,b,p'⟩,fun x H' y=>?_⟩
  obtain ⟨e,y⟩:=y
  subst e
  exact hs i x σ _ (y xs q) p
 ·have e:i=xs.length:=by omega
  subst e
  exact .inl ⟨⟨xs,q,gf _⟩,hd σ H p⟩
abbrev R2:=V->V->Hp->VK->Prop
def OpR (X:Cx)(f:Value->Value->Sem Value)(r:R2):Prop :=
 ∀ (pins:List (Addr × Obj)) (s:Shared) (σ:St) (H:Hp) (x y:V) (v u:Value) (Q:VK),Inv X pins σ H s->zbp x v->zbp y u->r x y H Q ->
  wpAny (model X.prog X.w) X.A (f v u) (EP X pins σ Q) X.xe s
def zhf (X:Cx)(f:Value)(r:List V->Hp->VK->Prop):Prop :=
 ∀ (pins:List (Addr × Obj)) (s:Shared) (σ:St) (H:Hp) (xs:List V) (us:List Value) (Q:VK),Inv X pins σ H s->zbq xs us->r xs H Q ->
  wpAny (model X.prog X.w) X.A (call f us) (EP X pins σ Q) X.xe s
def tOp (r:R2)(ta tb:TE):TE:=fun σ H Q=>ta σ H fun x H1=>tb σ H1 fun y H2=>r x y H2 Q
def rI (C:Int->Int->Prop)(g:Int->Int->V):R2:=fun x y H Q=>∃ i j,x = .int i/\y = .int j/\C i j/\Q (g i j) H
def rI0 (g:Int->Int->V):R2:=fun x y H Q=>∃ i j,x = .int i/\y = .int j/\Q (g i j) H
section
variable {X:Cx} {a b:Expr} {ta tb:TE} {pos:Pos}
theorem z2t (ha:PE X a ta)(hb:PE X b tb){pins:List (Addr × Obj)}{s:Shared}{σ:St}{H:Hp}{R:V->V->Hp->Prop}(I:Inv X pins σ H s)
  (h:ta σ H fun x H1=>tb σ H1 fun y H2=>R x y H2){Q:Value->Shared->Prop}{f:Value->Value->Sem Value}
  (hf:∀ v u s2 x y H2,Inv X pins σ H2 s2->zbp x v->zbp y u->R x y H2->wpAny (model X.prog X.w) X.A (f v u) Q X.xe s2) :
  wpAny (model X.prog X.w) X.A (eval a X.env) (fun v s₁=>wpAny (model X.prog X.w) X.A (eval b X.env) (fun u s₂=>wpAny (model X.prog X.w) X.A (f v u) Q X.xe s₂) X.xe s₁) X.xe s:=by
 refine thn (ha pins s σ H _ I h) fun v s1 ⟨x,H1,I1,r1,q1⟩=>?_
 refine thn (hb pins s1 σ H1 _ I1 q1) fun u s2 ⟨y,H2,I2,r2,q2⟩=>?_
 exact hf v u s2 x y H2 I2 r1 r2 q2
theorem za0 {op:Operator}{r:R2}(ho:OpR X (binaryOp op) r)(ha:PE X a ta)(hb:PE X b tb):PE X (.BinOp a op b pos) (tOp r ta tb):=by
 intro pins s σ H Q I h
 exact wpAny_BinOp (z2t ha hb I h fun v u s2 x y H2 I2 rx ry q=>ho pins s2 σ H2 x y v u Q I2 rx ry q)
theorem opI {f:Value->Value->Sem Value}{C:Int->Int->Prop}{g:Int->Int->Int}
  (rule:∀ (i j:Int) (t u:Tok) (s:Shared) (Q:Value->Shared->Prop) (E:Value->Shared->Prop),C i j->Q (.int (g i j) s.toks) { s with toks:=s.toks+1 }->wpAny (model X.prog X.w) X.A (f (.int i t) (.int j u)) Q E s) :
  OpR X f (rI C fun i j=> .int (g i j)):=by
 intro pins s σ H x y v u Q I rx ry h
 obtain ⟨i,j,rfl,rfl,hc,q⟩:=h
 obtain ⟨t,rfl⟩:=rx
 obtain ⟨t',rfl⟩:=ry
 exact rule i j t t' s _ _ hc ⟨.int (g i j),H,I.tok _,⟨_,rfl⟩,q⟩
theorem z2x {f:Value->Value->Sem Value}{g:Int->Int->Int}
  (rule:∀ (i j:Int) (t u:Tok) (s:Shared) (Q:Value->Shared->Prop) (E:Value->Shared->Prop),Q (.int (g i j) s.toks) { s with toks:=s.toks+1 }->wpAny (model X.prog X.w) X.A (f (.int i t) (.int j u)) Q E s) :
  OpR X f (rI0 fun i j=> .int (g i j)):=by
 intro pins s σ H x y v u Q I rx ry h
 obtain ⟨i,j,rfl,rfl,q⟩:=h
 obtain ⟨t,rfl⟩:=rx
 obtain ⟨t',rfl⟩:=ry
 exact rule i j t t' s _ _ ⟨.int (g i j),H,I.tok _,⟨_,rfl⟩,q⟩
theorem z16 {f:Value->Value->Sem Value}{g:Int->Int->Bool}
  (rule:∀ (i j:Int) (t u:Tok) (s:Shared) (Q:Value->Shared->Prop) (E:Value->Shared->Prop),Q (.bool (g i j)) s->wpAny (model X.prog X.w) X.A (f (.int i t) (.int j u)) Q E s) :
  OpR X f (rI0 fun i j=> .bl (g i j)):=by
 intro pins s σ H x y v u Q I rx ry h
 obtain ⟨i,j,rfl,rfl,q⟩:=h
 obtain ⟨t,rfl⟩:=rx
 obtain ⟨t',rfl⟩:=ry
 exact rule i j t t' s _ _ ⟨.bl (g i j),H,I,rfl,q⟩
def z3k (i j:Int):Prop:=0<=j/\j<=1000000/\i.natAbs<2 ^ 64
def z18 (i j:Int):Prop:=(-(2 ^ 64)<i/\i<2 ^ 64)\/(-(2 ^ 64)<j/\j<2 ^ 64)
theorem z18.ok {i j:Int}(h:z18 i j):IntMulOk i j:=by
 rcases h with ⟨h1,h2⟩ | ⟨h1,h2⟩
 ·exact .of_left (intBits_le_64 h1 h2)
 ·exact .of_right (intBits_le_64 h1 h2)
theorem zei:OpR X (binaryOp .Add) (rI0 fun i j=> .int (i+j)):=z2x fun _ _ _ _ _ _ _ q=>add_int q
theorem zww:OpR X (binaryOp .Sub) (rI0 fun i j=> .int (i - j)):=z2x fun _ _ _ _ _ _ _ q=>sub_int q
theorem zku:OpR X (binaryOp .Mult) (rI z18 fun i j=> .int (i * j)):=opI fun _ _ _ _ _ _ _ hc q=>mul_int q hc.ok
theorem zci:OpR X (binaryOp .Mod) (rI (fun _ j=>0<j) fun i j=> .int (i % j)):=opI fun i j _ _ _ _ _ hc q=>by
 have h1:(0:Int)<j:=hc
 exact mod_int' (by omega) (by rw [Int.fmod_eq_emod_of_nonneg i (by omega)]; exact q)
theorem z0z:OpR X (binaryOp .Pow) (rI z3k fun i j=> .int (i ^ j.toNat)):=opI fun _ _ _ _ _ _ _ hc q=>pow_int_small hc.1 hc.2.1 hc.2.2 q
theorem ztv:OpR X (binaryOp .LShift) (rI z3k fun i j=> .int (i * 2 ^ j.toNat)):=opI fun _ _ _ _ _ _ _ hc q=>lshift_int_small hc.1 hc.2.1 hc.2.2 q
theorem zru:OpR X (binaryOp .BitXor) (rI0 fun i j=> .int (Builtin.bitXor i j)):=z2x fun _ _ _ _ _ _ _ q=>xor_int q
end
def z27:V->V->Bool
 | .non,.non=>true | .non,.int _=>true | .int _,.non=>true | .non,.bl _=>true | .bl _,.non=>true | .non,.str _=>true | .str _,.non=>true
 | .int _,.int _=>true | .bl _,.bl _=>true | .str _,.str _=>true | .byt _,.byt _=>true
 | .int _,.str _=>true | .str _,.int _=>true | .bl _,.str _=>true | .str _,.bl _=>true
 | _,_=>false
def rEq:R2:=fun x y H Q=>z27 x y=true/\Q (.bl (decide (x=y))) H
def rNe:R2:=fun x y H Q=>z27 x y=true/\Q (.bl (!decide (x=y))) H
theorem zrk {i j:Int}:decide (V.int i=V.int j)=(i == j):=by
 rw [Bool.eq_iff_iff]
 simp
theorem zwx {i j:Bool}:decide (V.bl i=V.bl j)=(i == j):=by
 rw [Bool.eq_iff_iff]
 simp
theorem ztx {i j:Str}:decide (V.str i=V.str j)=(i == j):=by
 rw [Bool.eq_iff_iff]
 simp
theorem ztp {i j:Array UInt8}:decide (V.byt i=V.byt j)=(i.toList == j.toList):=by
 rw [Bool.eq_iff_iff]
 cases i
 cases j
 simp
section
variable {X:Cx} {a b c:Expr} {ta tb tc:TE} {pos:Pos}
theorem zba {pins:List (Addr × Obj)}{σ:St}{H:Hp}{s:Shared}{Q:VK}{k k':Bool}(I:Inv X pins σ H s)(q:Q (.bl k) H)(e:k=k'):EP X pins σ Q (.bool k') s:=by
 subst e
 exact ⟨.bl k,H,I,rfl,q⟩
theorem zmc:OpR X (compareOp .Eq) rEq:=by
 intro pins s σ H x y v u Q I rx ry h
 obtain ⟨hs,q⟩:=h
 cases x with
 | non =>
  cases rx
  cases y with
  | non=>cases ry; exact PySem.EqNone.eq_none_none (zba I q (by simp))
  | bl j=>cases ry; exact PySem.EqNone.eq_none_bool (zba I q (by simp))
  | int j=>obtain ⟨t',rfl⟩:=ry; exact nv (zba I q (by simp))
  | str j=>obtain ⟨t',rfl⟩:=ry; exact nz (zba I q (by simp))
  | _=>exact fT hs
 | bl i =>
  cases rx
  cases y with
  | non=>cases ry; exact PySem.EqNone.eq_bool_none (zba I q (by simp))
  | bl j=>cases ry; exact eq_bool (zba I q zwx)
  | str j=>obtain ⟨t',rfl⟩:=ry; exact PySem.EqMixed.eq_bool_str (zba I q (by simp))
  | _=>exact fT hs
 | int i =>
  obtain ⟨t,rfl⟩:=rx
  cases y with
  | non=>cases ry; exact o0 (zba I q (by simp))
  | int j=>obtain ⟨t',rfl⟩:=ry; exact eq_int (zba I q zrk)
  | str j=>obtain ⟨t',rfl⟩:=ry; exact PySem.EqMixed.eq_int_str (zba I q (by simp))
  | _=>exact fT hs
 | str i =>
  obtain ⟨t,rfl⟩:=rx
  cases y with
  | non=>cases ry; exact o3 (zba I q (by simp))
  | bl j=>cases ry; exact PySem.EqMixed.eq_str_bool (zba I q (by simp))
  | int j=>obtain ⟨t',rfl⟩:=ry; exact PySem.EqMixed.eq_str_int (zba I q (by simp))
  | str j=>obtain ⟨t',rfl⟩:=ry; exact eq_str (zba I q ztx)
  | _=>exact fT hs
 | byt i =>
  obtain ⟨t,rfl⟩:=rx
  cases y with
  | byt j=>obtain ⟨t',rfl⟩:=ry; exact PySem.W.eq_bytes (zba I q ztp)
  | _=>exact fT hs
 | _=>cases y <;> exact fT hs
theorem zxj:OpR X (compareOp .NotEq) rNe:=by
 intro pins s σ H x y v u Q I rx ry h
 obtain ⟨hs,q⟩:=h
 cases x with
 | non =>
  cases rx
  cases y with
  | non=>cases ry; exact PySem.EqNone.ne_none_none (zba I q (by simp))
  | bl j=>cases ry; exact PySem.EqNone.ne_none_bool (zba I q (by simp))
  | int j=>obtain ⟨t',rfl⟩:=ry; exact o4 (zba I q (by simp))
  | str j=>obtain ⟨t',rfl⟩:=ry; exact o5 (zba I q (by simp))
  | _=>exact fT hs
 | bl i =>
  cases rx
  cases y with
  | non=>cases ry; exact PySem.EqNone.ne_bool_none (zba I q (by simp))
  | bl j=>cases ry; exact ne_bool (zba I q (congrArg not zwx))
  | str j=>obtain ⟨t',rfl⟩:=ry; exact PySem.EqMixed.ne_bool_str (zba I q (by simp))
  | _=>exact fT hs
 | int i =>
  obtain ⟨t,rfl⟩:=rx
  cases y with
  | non=>cases ry; exact o8 (zba I q (by simp))
  | int j=>obtain ⟨t',rfl⟩:=ry; exact ne_int (zba I q (congrArg not zrk))
  | str j=>obtain ⟨t',rfl⟩:=ry; exact PySem.EqMixed.ne_int_str (zba I q (by simp))
  | _=>exact fT hs
 | str i =>
  obtain ⟨t,rfl⟩:=rx
  cases y with
  | non=>cases ry; exact o9 (zba I q (by simp))
  | bl j=>cases ry; exact PySem.EqMixed.ne_str_bool (zba I q (by simp))
  | int j=>obtain ⟨t',rfl⟩:=ry; exact PySem.EqMixed.ne_str_int (zba I q (by simp))
  | str j=>obtain ⟨t',rfl⟩:=ry; exact ne_str (zba I q (congrArg not ztx))
  | _=>exact fT hs
 | byt i =>
  obtain ⟨t,rfl⟩:=rx
  cases y with
  | byt j=>obtain ⟨t',rfl⟩:=ry; exact PySem.W.ne_bytes (zba I q (congrArg not ztp))
  | _=>exact fT hs
 | _=>cases y <;> exact fT hs
theorem zty:OpR X (compareOp .Lt) (rI0 fun i j=> .bl (decide (i<j))):=z16 fun _ _ _ _ _ _ _ q=>lt_int q
theorem zyi:OpR X (compareOp .LtE) (rI0 fun i j=> .bl (decide (i<=j))):=z16 fun _ _ _ _ _ _ _ q=>le_int q
theorem z0n:OpR X (compareOp .Gt) (rI0 fun i j=> .bl (decide (j<i))):=z16 fun _ _ _ _ _ _ _ q=>gt_int q
theorem z2h:OpR X (compareOp .GtE) (rI0 fun i j=> .bl (decide (j<=i))):=z16 fun _ _ _ _ _ _ _ q=>ge_int q
theorem zpw:OpR X (compareOp .Is) (fun x y H Q=>y = .non/\Q (.bl (decide (x = .non))) H):=by
 intro pins s σ H x y v u Q I rx ry h
 obtain ⟨rfl,q⟩:=h
 cases ry
 refine is_none_gen (zba I q ?_)
 cases x <;> first
  | (cases rx; rfl)
  | (obtain ⟨t,rfl⟩:=rx; rfl)
theorem zoo:OpR X (compareOp .IsNot) (fun x y H Q=>y = .non/\Q (.bl (!decide (x = .non))) H):=by
 intro pins s σ H x y v u Q I rx ry h
 obtain ⟨rfl,q⟩:=h
 cases ry
 refine isnot_none_gen (zba I q ?_)
 cases x <;> first
  | (cases rx; rfl)
  | (obtain ⟨t,rfl⟩:=rx; rfl)
theorem zbb (b:Expr){op:CmpOp}(h:op≠ .In:=by decide)(h2:op≠ .NotIn:=by decide):behindInMarks op b=false:=by
 have e1:(op == CmpOp.In)=false:=by cases op <;> first | rfl | exact absurd rfl h
 have e2:(op == CmpOp.NotIn)=false:=by cases op <;> first | rfl | exact absurd rfl h2
 cases b <;> simp [behindInMarks,e1,e2]
theorem zl7 {op:CmpOp}{r:R2}(ho:OpR X (compareOp op) r)(ha:PE X a ta)(hb:PE X b tb)(hm:behindInMarks op b=false):PE X (.Compare a [op] [b] pos) (tOp r ta tb):=by
 intro pins s σ H Q I h
 exact wpAny_Compare1 (z2t ha hb I h fun v u s2 x y H2 I2 rx ry q=>ho pins s2 σ H2 x y v u Q I2 rx ry q) hm
def z3b (t:TE):TT:=fun σ H Q=>t σ H fun x H'=>∃ k,x = .bl k/\Q k H'
theorem zaz {op:CmpOp}{r:R2}(ho:OpR X (compareOp op) r)(ha:PE X a ta)(hb:PE X b tb)(hm:behindInMarks op b=false):PT X (.Compare a [op] [b] pos) (z3b (tOp r ta tb)):=by
 intro pins s σ H Q I h
 refine wpAny_isTrue_Compare1 (thn (ha pins s σ H _ I h) fun v s1 ⟨x,H1,I1,r1,q1⟩=>thn (hb pins s1 σ H1 _ I1 q1) fun u s2 ⟨y,H2,I2,r2,q2⟩ =>
  thn (ho pins s2 σ H2 x y v u _ I2 r1 r2 q2) fun c s3 ⟨z,H3,I3,r3,k,e,q3⟩=>?_) hm
 subst e
 cases r3
 exact wpAny_truthy_bool ⟨H3,I3,q3⟩
def z0p (r r':R2)(ta tb tc:TE):TE:=fun σ H Q=>ta σ H fun x H1=>tb σ H1 fun y H2=>r x y H2 fun z H3=>∃ k,z = .bl k /\
 (if k=true then tc σ H3 fun w' H4=>r' y w' H4 Q else Q (.bl false) H3)
theorem zvb {op op':CmpOp}{r r':R2}(ho:OpR X (compareOp op) r)(ho':OpR X (compareOp op') r')(ha:PE X a ta)(hb:PE X b tb)(hc:PE X c tc)
  (hm:lastMarks [op,op'] [b,c]=false:=by with_unfolding_all rfl):PE X (.Compare a [op,op'] [b,c] pos) (z0p r r' ta tb tc):=by
 intro pins s σ H Q I h
 refine Compare_chain (thn (ha pins s σ H _ I h) fun v s1 ⟨x,H1,I1,r1,q1⟩=>chain_link (thn (hb pins s1 σ H1 _ I1 q1) fun u s2 ⟨y,H2,I2,r2,q2⟩ =>
  thn (ho pins s2 σ H2 x y v u _ I2 r1 r2 q2) fun d s3 ⟨z,H3,I3,r3,k,e,q3⟩=>?_)) hm
 subst e
 cases r3
 refine wpAny_truthy_bool ?_
 cases k with
 | false=>exact ite_ff ⟨.bl false,H3,I3,rfl,q3⟩
 | true=>exact ite_tt (chain_last (thn (hc pins s3 σ H3 _ I3 q3) fun w' s4 ⟨z',H4,I4,r4,q4⟩=>ho' pins s4 σ H4 y z' u w' Q I4 r2 r4 q4))
theorem zs4:(sizeLine:Nat)<2 ^ 63:=by rw [sizeLine_eq]; decide
theorem zq5:OpR X (binaryOp .Add) (fun x y H Q=>∃ i j,x = .str i/\y = .str j/\i.length+j.length<=sizeLine/\Q (.str (i++j)) H):=by
 intro pins s σ H x y v u Q I rx ry h
 obtain ⟨i,j,rfl,rfl,hz,q⟩:=h
 obtain ⟨t,rfl⟩:=rx
 obtain ⟨t',rfl⟩:=ry
 exact add_str (fun t' tk=>⟨.str (i++j),H,I.tok _,⟨_,rfl⟩,q⟩) hz
theorem zf8 {x:V}{us:List Value}(r:zbq [x] us):∃ u,us=[u]/\zbp x u:=by
 cases r with
 | cons r1 r2=>cases r2; exact ⟨_,rfl,r1⟩
theorem z24 {x y:V}{us:List Value}(r:zbq [x,y] us):∃ u w',us=[u,w']/\zbp x u/\zbp y w':=by
 cases r with
 | cons r1 r2 =>
  cases r2 with
  | cons r3 r4=>cases r4; exact ⟨_,_,rfl,r1,r3⟩
theorem zrm:zhf X (.type "int") (fun xs H Q=>(∃ i,xs=[.int i]/\Q (.int i) H)\/∃ k,xs=[.bl k]/\Q (.int (if k then 1 else 0)) H):=by
 intro pins s σ H xs us Q I r h
 rcases h with ⟨i,rfl,q⟩ | ⟨k,rfl,q⟩
 ·obtain ⟨u,rfl,t,rfl⟩:=zf8 r
  exact call_int_int ⟨.int i,H,I,⟨_,rfl⟩,q⟩
 ·obtain ⟨u,rfl,r1⟩:=zf8 r
  cases r1
  exact call_int_bool ⟨.int (if k then 1 else 0),H,I.tok _,⟨_,rfl⟩,q⟩
theorem znk:zhf X (.type "str") (fun xs H Q=>∃ i,xs=[.int i]/\i.natAbs.log2<1920/\Q (.str (toString i)) H):=by
 intro pins s σ H xs us Q I r h
 obtain ⟨i,rfl,hz,q⟩:=h
 obtain ⟨u,rfl,t,rfl⟩:=zf8 r
 exact PySem.P.str_of_int hz ⟨.str _,H,I.tok _,⟨_,rfl⟩,q⟩
end
structure zx9 (h:Heap)(x dx C:Addr)(mA:Str->Option Value):Prop where
 obj:h.get? x=some (kg C dx)
 ns:h.Ns1 dx mA
 ne:dx≠x
theorem zrz {h:Heap}{dx:Addr}{mA:Str->Option Value}(n:h.Ns1 dx mA):∃ od,h.get? dx=some od/\∀ name,mr name od=some (mA name):=by
 obtain ⟨o,es,ep,ho,hd,hk,_,hm⟩:=n
 refine ⟨o,ho,fun name=>?_⟩
 have e:=hm name
 unfold nsFind findBy at e
 rw [<- Array.find?_toList] at e
 unfold mr
 rw [hd]
 dsimp only
 split
 ·rename_i y q
  rw [q] at e
  exact congrArg some e
 ·rename_i q
  rw [q] at e
  have a:es.toList.any (·.refKey)=false:=by
   rw [List.any_eq_false]
   intro y hy
   obtain ⟨z,t,b⟩:=hk y (Array.mem_toList_iff.mp hy)
   simp [DictEntry.refKey,b]
  have a':¬ es.toList.any (·.refKey)=true:=by rw [a]; exact Bool.false_ne_true
  rw [if_neg a']
  exact congrArg some e
theorem zx9.look {h:Heap}{x dx C:Addr}{mA:Str->Option Value}(I:zx9 h x dx C mA):∃ od,PySem.W.InstAt h x (kg C dx) C (some od)/\∀ name,mr name od=some (mA name) :=
 let ⟨od,ho,hl⟩:=zrz I.ns
 ⟨od,⟨I.obj,rfl,rfl,ho⟩,hl⟩
section
variable {prog:Program} {w:World} {A:Around} {E:Value->Shared->Prop} {s:Shared} {K:W.Frag} {x dx C f:Addr} {mA:Str->Option Value} {name:Str} {v:Value}
theorem zfd {expr:Bool}{Q:Value->Shared->Prop}(X:K.In s.heap)(I:zx9 s.heap x dx C mA)(hg:PySem.W.plainGet K C name=true)(hh:PySem.W.hasDictIn K C=true)
  (ha:PySem.W.findIn K (.ref C) name=some none)(hv:mA name=some v)(hv':nj v=true)(h:Q v { s with toks:=s.toks+1 }) :
  wpAny (model prog w) A (getAttr (.ref x) name expr) Q E s:=by
 obtain ⟨od,J,hl⟩:=I.look
 exact PySem.W.get_value X J (PySem.W.plainGet_of hg).1 (PySem.W.findObj_own hh ha rfl (by rw [hl,hv])) hv' h
theorem zuz {pl:Sem Bool}{Q:Value × List Value->Shared->Prop}(X:K.In s.heap)(I:zx9 s.heap x dx C mA)(hg:PySem.W.plainGet K C name=true)
  (hf:PySem.W.findIn K (.ref C) name=some (some (.ref f)))(ht:PySem.W.isFn K (.ref f)=true)(hv:mA name=none)(h:Q (.ref f,[.ref x]) s) :
  wpAny (model prog w) A (getMethod (.ref x) name pl) Q E s:=by
 obtain ⟨od,J,hl⟩:=I.look
 exact PySem.W.method_fn X J (PySem.W.plainGet_of hg).1 (PySem.W.plainGet_of hg).2 hf (beq_iff_eq.mp ht) (by show (mr name od).map (·.isSome)=some false; rw [hl,hv]; rfl) h
theorem zz2 {ns:List Str}{Q:Unit->Shared->Prop}(X:K.In s.heap)(I:zx9 s.heap x dx C mA)
  (hs:PySem.W.findIn K (.ref C) "__setattr__" = some (some (.builtin "object.__setattr__")))(hp:PySem.W.plainOver K C=true)(ht:my K C name=some none)(hh:PySem.W.hasDictIn K C=true)
  (hw:PySem.Within mA ns)(hsz:ns.length<=sizeLine)
  (h:∀ h',zx9 h' x dx C (fun y=>if y=name then some v else mA y)->Heap.SameBut dx s.heap h'->Q () { s with heap:=h',toks:=s.toks+2 }) :
  wpAny (model prog w) A (setAttr (.ref x) name v) Q E s:=by
 obtain ⟨od,J,hl⟩:=I.look
 refine PySem.W.set_plain X J hs (PySem.W.osa_open (s:={ s with toks:=s.toks+1 }) (r:=none) X J hp ht fun b=>?_)
 obtain ⟨cd,hc,e⟩:=PySem.W.any_some hh
 have hx:s.heap.get? x=some ⟨.ref C,some dx,.plain,#[]⟩:=I.obj
 refine wpAny_bind (wpAny_pure (wpAny_bind (wpAny_bind (wpAny_loadPart hx (wpAny_bind (PySem.W.Looks.here (s:={ s with toks:=s.toks+1 }) (PySem.W.looks_clsIn X hc) ?_))))))
 rw [e]
 refine wpAny_pure (a:=some dx) (wpAny_bind (wpAny_pure (wpAny_bind ?_)))
 refine wpAny_nsSet1 (s:={ s with toks:=s.toks+1 }) I.ns fun h' d c=>?_
 obtain ⟨oD,j,l,f,i,g⟩:=d.count (PySem.Within.cons name v hw)
 refine wpAny_bind (wpAny_lookBehind f (by rw [i]; exact pastItsLine_dict (gm g (by rw [i8]; omega))) ?_)
 exact wpAny_pure (h _ ⟨(c.2 _ (Ne.symm I.ne)).trans I.obj,d,I.ne⟩ c)
theorem zum {R:Result->Shared->Prop}{vs:List Value}{kw:List (Str × Value)}(X:K.In s.heap)(hm:PySem.W.makesIn K C=true)
  (hi:PySem.W.findIn K (.ref C) "__init__" = some (some (.ref f)))(hf:typeIn K (.ref f)=some (.type "function"))
  (h:codeAny (model prog w) (A.under (.builtin "type.__call__" ⟨.ref C :: vs,kw⟩)) (.call (.ref f) ⟨.ref (s.heap.objs.size+1) :: vs,kw⟩) (PySem.W.InitBack (s.heap.objs.size+1) R)
   { s with heap:=(s.heap.push ja).push (kg C s.heap.objs.size) }) :
  codeAny (model prog w) A (.call (.ref C) ⟨vs,kw⟩) R s:=by
 obtain ⟨hh,g,d,t,os⟩:=s
 exact PySem.W.make_core (PySem.W.makes_of X hm) (PySem.W.looks_findIn X hi) (fun self=>PySem.W.bind_fn X self hf) (.inl rfl) h
end
def zct (f:Str)(v:V):List (Str × V)->List (Str × V)
 | []=>[(f,v)]
 | (g,x) :: r=>if g=f then (g,v) :: r else (g,x) :: zct f v r
theorem zja (f g:Str)(v:V):∀ fs:List (Str × V),(zct f v fs).lookup g=if g=f then some v else fs.lookup g
 | []=>by
  show List.lookup g [(f,v)]=_
  by_cases h:g=f
  ·have hb:(g == f)=true:=beq_iff_eq.mpr h
   simp only [List.lookup,hb,if_pos h]
  ·have hb:(g == f)=false:=beq_eq_false_iff_ne.mpr h
   simp only [List.lookup,hb,if_neg h]
 | (k,x) :: r=>by
  have ih:=zja f g v r
  rw [show zct f v ((k,x) :: r)=(if k=f then (k,v) :: r else (k,x) :: zct f v r) from rfl]
  by_cases hk:k=f
  ·rw [if_pos hk]
   by_cases h:g=k
   ·have hb:(g == k)=true:=beq_iff_eq.mpr h
    simp only [List.lookup,hb,if_pos (h.trans hk)]
   ·have hb:(g == k)=false:=beq_eq_false_iff_ne.mpr h
    simp only [List.lookup,hb,if_neg (fun e:g=f=>h (e.trans hk.symm))]
  ·rw [if_neg hk]
   by_cases h:g=k
   ·have hb:(g == k)=true:=beq_iff_eq.mpr h
    simp only [List.lookup,hb,if_neg (fun e:g=f=>hk (h.symm.trans e))]
   ·have hb:(g == k)=false:=beq_eq_false_iff_ne.mpr h
    simp only [List.lookup,hb]
    exact ih
theorem zjw (f:Str)(v:V):∀ fs:List (Str × V),f∈(zct f v fs).map (·.1)/\∀ g,g∈fs.map (·.1)->g∈(zct f v fs).map (·.1)
 | []=>⟨by simp [zct],fun g h=>by simp at h⟩
 | (k,x) :: r=>by
  obtain ⟨i1,i2⟩:=zjw f v r
  rw [show zct f v ((k,x) :: r)=(if k=f then (k,v) :: r else (k,x) :: zct f v r) from rfl]
  by_cases hk:k=f
  ·rw [if_pos hk]
   subst hk
   exact ⟨by simp,fun g h=>by simpa using h⟩
  ·rw [if_neg hk]
   refine ⟨?_,fun g h=>?_⟩
   ·rw [gz]
    exact fk _ i1
   ·rw [gz] at h |-
    rcases gs.mp h with e | e
    ·exact gs.mpr (.inl e)
    ·exact fk _ (i2 g e)
theorem zjx (f:Str)(v:V):∀ fs:List (Str × V),(zct f v fs).length<=fs.length+1
 | []=>by simp [zct]
 | (k,x) :: r=>by
  have ih:=zjx f v r
  rw [show zct f v ((k,x) :: r)=(if k=f then (k,v) :: r else (k,x) :: zct f v r) from rfl]
  by_cases hk:k=f
  ·rw [if_pos hk,i8,i8]; omega
  ·rw [if_neg hk,i8,i8]; omega
theorem zk_.some_of {v:V}{o:Option Value}(r:zk_ (some v) o):∃ u,o=some u/\zbp v u:=by
 cases o with
 | none=>exact (show False from r).elim
 | some u=>exact ⟨u,rfl,r⟩
theorem zk_.none_of {o:Option Value}(r:zk_ none o):o=none:=by
 cases o with
 | none=>rfl
 | some u=>exact (show False from r).elim
theorem zro {v:V}{u:Value}(r:zbp v u):nj u=true:=by
 cases v with
 | non=>cases (show u=Value.none from r); rfl
 | bl b=>cases (show u=Value.bool b from r); rfl
 | int i=>obtain ⟨t,e⟩:=(show ∃ t,u=Value.int i t from r); cases e; rfl
 | str x=>obtain ⟨t,e⟩:=(show ∃ t,u=Value.str x t from r); cases e; rfl
 | byt b=>obtain ⟨t,e⟩:=(show ∃ t,u=bytes b t from r); cases e; rfl
 | flt b=>obtain ⟨t,e⟩:=(show ∃ t,u=float b t from r); cases e; rfl
 | ref a=>cases (show u=Value.ref a from r); rfl
 | ty n=>cases (show u=nh n from r); rfl
section
variable {P:Program} {w:World} {H:Hp} {h:Heap} {a C dx:Addr} {fs:List (Str × V)}
theorem zl2 (hok:HOk P w H h)(e:H a=some (.ins C dx fs)):∃ mA,zx9 h a dx C mA/\(∀ f,zk_ (fs.lookup f) (mA f))/\PySem.Within mA (fs.map (·.1))/\fs.length<=1000/\H dx=some (.own a):=by
 obtain ⟨d,z,ne,ob,mA,n,r,q⟩:=(show zca P w H h a (.ins C dx fs) from hok a _ e)
 exact ⟨mA,⟨ob,n,ne⟩,r,q,z,d⟩
end
structure Cls (K:W.Frag)(C:Addr):Prop where
 pg:PySem.W.plainGet K C Str.empty=true
 hd:PySem.W.hasDictIn K C=true
 po:PySem.W.plainOver K C=true
 sa:PySem.W.findIn K (.ref C) "__setattr__" = some (some (.builtin "object.__setattr__"))
theorem Cls.get {K:W.Frag}{C:Addr}(c:Cls K C)(f:Str):PySem.W.plainGet K C f=true:=c.pg
def zig (K:W.Frag)(C:Addr)(f:Str):Prop:=PySem.W.findIn K (.ref C) f=some none
theorem zig.taker {K:W.Frag}{C:Addr}{f:Str}(n:zig K C f):my K C f=some none:=by
 unfold my
 rw [show PySem.W.findIn K (.ref C) f=some none from n]
 rfl
structure zz6 (K:W.Frag)(C:Addr)(m:Str)(f:Addr):Prop where
 at_:PySem.W.findIn K (.ref C) m=some (some (.ref f))
 fn:PySem.W.isFn K (.ref f)=true
 kp:PySem.W.keepIn K (.ref f)=true
section
variable {X:Cx} {pins:List (Addr × Obj)} {σ:St} {H:Hp} {s:Shared} {a C dx:Addr} {fs:List (Str × V)} {f:Str} {v:V} {A:Around} {E:Value->Shared->Prop}
theorem zqy {b:Bool}{Q:Value->Shared->Prop}(I:Inv X pins σ H s)(e:H a=some (.ins C dx fs))(c:Cls X.K C)(n:zig X.K C f)(l:fs.lookup f=some v)
  (h:∀ u s',Inv X pins σ H s'->zbp v u->Q u s'):wpAny (model X.prog X.w) A (getAttr (.ref a) f b) Q E s:=by
 obtain ⟨mA,O,r,_,_,_⟩:=zl2 I.hok e
 obtain ⟨u,hu,ru⟩:=zk_.some_of (v:=v) (o:=mA f) (by rw [<- l]; exact r f)
 exact zfd I.kIn O (c.get f) c.hd n hu (zro ru) (h u _ (I.tok _) ru)
theorem zkz {m:Str}{g:Addr}{pl:Sem Bool}{Q:Value × List Value->Shared->Prop}(I:Inv X pins σ H s)(e:H a=some (.ins C dx fs))(c:Cls X.K C)(k:zz6 X.K C m g)(l:fs.lookup m=none)
  (h:Q (.ref g,[.ref a]) s):wpAny (model X.prog X.w) A (getMethod (.ref a) m pl) Q E s:=by
 obtain ⟨mA,O,r,_,_,_⟩:=zl2 I.hok e
 have hn:mA m=none:=zk_.none_of (by rw [<- l]; exact r m)
 exact zuz I.kIn O (c.get m) k.at_ k.fn hn h
theorem zq1 {y:V}{u:Value}{Q:Unit->Shared->Prop}(I:Inv X pins σ H s)(e:H a=some (.ins C dx fs))(c:Cls X.K C)(n:zig X.K C f)(hl:fs.length<1000)(ry:zbp y u)
  (h:∀ s',Inv X pins σ (upd H a (.ins C dx (zct f y fs))) s'->Q () s'):wpAny (model X.prog X.w) A (setAttr (.ref a) f u) Q E s:=by
 obtain ⟨mA,O,r,wi,_,ho⟩:=zl2 I.hok e
 have hz:(fs.map (·.1)).length<=sizeLine:=by rw [fj,sizeLine_eq]; omega
 refine zz2 I.kIn O c.sa c.po n.taker c.hd wi hz fun h' O' sb=>h _ ?_
 have hd:∃ o,h'.get? dx=some o:=let ⟨o,_,_,e',_⟩:=O'.ns; ⟨o,e'⟩
 refine I.write (x:=a) (e:=dx) (by rw [e]; exact True.intro) (.inr ho) (fun b q hb z=>(sb.2 b hb).trans z) hd ?_
 refine ⟨by rw [zab O.ne]; exact ho,?_,O.ne,O'.obj,_,O'.ns,fun g=>?_,fun g hg=>?_⟩
 ·have:=zjx f y fs; omega
 ·show zk_ ((zct f y fs).lookup g) (if g=f then some u else mA g)
  rw [zja]
  by_cases q:g=f
  ·rw [if_pos q,if_pos q]; exact ry
  ·rw [if_neg q,if_neg q]; exact r g
 ·by_cases q:g=f
  ·rw [q]; exact (zjw f y fs).1
  ·refine (zjw f y fs).2 g (wi g fun z=>hg ?_)
   show (if g=f then some u else mA g)=none
   rw [if_neg q]; exact z
theorem Inv.made (I:Inv X pins σ H s):Inv X pins σ (upd (upd H s.heap.objs.size (.own (s.heap.objs.size+1))) (s.heap.objs.size+1) (.ins C s.heap.objs.size []))
  { s with heap:=(s.heap.push ja).push (kg C s.heap.objs.size) }:=by
 have e1:(s.heap.push ja).get? s.heap.objs.size=some ja:=Heap.get?_push_size s.heap rfl
 have e2:((s.heap.push ja).push (kg C s.heap.objs.size)).get? (s.heap.objs.size+1)=some (kg C s.heap.objs.size):=by
  have:=Heap.get?_push_size (s.heap.push ja) (o:=kg C s.heap.objs.size) rfl
  rwa [jn] at this
 have e3:(s.heap.push ja).Ns s.heap.objs.size (fun _=>none):=⟨ja,#[],_,e1,rfl,(fun e he=>absurd he (by simp)),fun _=>rfl⟩
 have I1:=I.laid (a:=s.heap.objs.size) (o:= .own (s.heap.objs.size+1)) (h':=s.heap.push ja) (t':=s.toks) (fun b u q=>Heap.get?_push_of_some _ q) (gf _) ⟨_,e1⟩
 refine I1.laid (a:=s.heap.objs.size+1) (o:= .ins C s.heap.objs.size []) (t':=s.toks) (fun b u q=>Heap.get?_push_of_some _ q) (jy (jn _ _)) ?_
 have ne:s.heap.objs.size≠s.heap.objs.size+1:=gl (ic _)
 refine ⟨by rw [zab ne,zac],i9 _,ne,e2,fun _=>none,(Heap.Ns1.of_empty e3).at fun o q=>Heap.get?_push_of_some _ q,fun _=>True.intro,fun y hy=>absurd rfl hy⟩
theorem zyj {prog:Program}{w:World}{env:Env}{e:Expr}{f:Str}{pos:Pos}{s:Shared}{Q:Value->Shared->Prop}(hb:attributeBase e f env (eval e env)=eval e env)
  (h:wpAny (model prog w) A (eval e env) (fun o s₁=>wpAny (model prog w) A (getAttr o f true) Q E s₁) E s):wpAny (model prog w) A (eval (.Attribute e f pos) env) Q E s :=
 Attribute_any_ h (by rw [arm_eval_Attribute,hb])
end
def z3c (K:W.Frag)(ta:TE)(f:Str):TE:=fun σ H Q=>ta σ H fun x H1=>∃ a C dx fs v,x = .ref a/\H1 a=some (.ins C dx fs)/\Cls K C/\zig K C f/\fs.lookup f=some v/\Q v H1
def z3u (K:W.Frag)(ta tv:TE)(f:Str):TS:=fun D σ H=>tv σ H fun y H1=>ta σ H1 fun x H2=>∃ a C dx fs,x = .ref a/\H2 a=some (.ins C dx fs)/\Cls K C/\zig K C f/\fs.length<1000 /\
 D.nx σ (upd H2 a (.ins C dx (zct f y fs)))
section
variable {X:Cx} {o e value:Expr} {f:Str} {pos pos':Pos} {ta tv:TE}
theorem zav (he:PE X e ta)(hb:attributeBase e f X.env (eval e X.env)=eval e X.env):PE X (.Attribute e f pos) (z3c X.K ta f):=by
 intro pins s σ H Q I h
 refine zyj hb (thn (he pins s σ H _ I h) fun u s1 ⟨x,H1,I1,rx,a,C,dx,fs,v,ex,ea,c,n,l,q⟩=>?_)
 subst ex
 obtain rfl:u=Value.ref a:=rx
 exact zqy I1 ea c n l fun u' s2 I2 ru=>⟨v,H1,I2,ru,q⟩
theorem zdt (ha:PE X o ta)(hv:PE X value tv)(hs:swapsWith value (some (.Attribute o f pos')) pos.line X.env=pure false):PS X (.Assign [.Attribute o f pos'] value pos) (z3u X.K ta tv f):=by
 intro pins s σ H D I h
 refine plainObj_wpAny_Assign_Attribute (thn (hv pins s σ H _ I h) fun u s1 ⟨y,H1,I1,ry,q⟩=>thn (ha pins s1 σ H1 _ I1 q) fun ov s2 ⟨x,H2,I2,rx,a,C,dx,fs,ex,ea,c,n,l,q2⟩=>?_) hs
 subst ex
 obtain rfl:ov=Value.ref a:=rx
 exact zq1 I2 ea c n l ry fun s3 I3=>⟨σ,_,I3,q2⟩
end
section
variable {X:Cx} {pins:List (Addr × Obj)} {σ:St} {H:Hp} {s:Shared} {A:Around} {E:Value->Shared->Prop} {Q:Value->Shared->Prop} {c:Value} {b:Bool}
inductive zk9 (K:W.Frag) (H:Hp):V->Value->Prop where
 | non:zk9 K H .non (.type "NoneType")
 | bl (x:Bool):zk9 K H (.bl x) (.type "bool")
 | int (i:Int):zk9 K H (.int i) (.type "int")
 | str (x:Str):zk9 K H (.str x) (.type "str")
 | flt (x:UInt64):zk9 K H (.flt x) (.type "float")
 | lst {a:Addr} {xs:List V} (e:H a=some (.lst xs)):zk9 K H (.ref a) (.type "list")
 | frz {a:Addr} {o:Obj} {xs:List V} (e:H a=some (.frz o (.lst xs))):zk9 K H (.ref a) (.type "list")
 | tup {a:Addr} {xs:List V} (e:H a=some (.tup xs)):zk9 K H (.ref a) (.type "tuple")
 | dK {a:Addr} {kvs:List (Key × V)} (e:H a=some (.dK kvs)):zk9 K H (.ref a) (.type "dict")
 | dT {a:Addr} {kvs:List (List Key × V)} (e:H a=some (.dT kvs)):zk9 K H (.ref a) (.type "dict")
 | ins {a C dx:Addr} {fs:List (Str × V)} (e:H a=some (.ins C dx fs)) (cl:Cls K C) (ha:PySem.W.findIn K (.ref C) "__class__" = some (some (.builtin "object.__class__")))
   (hn:PySem.W.specialIn K (.builtin "object.__class__") "__get__" = some (some (.builtin "getset_descriptor.__get__"))) (htk:PySem.W.takesIn K (.builtin "object.__class__")=some true)
   (hm:PySem.W.mroIn K C (.type "object")=some true):zk9 K H (.ref a) (.ref C)
theorem zt3 {x:V}{u t:Value}(I:Inv X pins σ H s)(rx:zbp x u)(ty:zk9 X.K H x t)(e:nr X.K t c=some b)(h:∀ tk,Q (.bool b) { s with toks:=tk }) :
  wpAny (model X.prog X.w) A (call (.builtin "isinstance") [u,c]) Q E s:=by
 cases ty with
 | non=>cases (show u=Value.none from rx); exact jl PySem.W.kitx_none I.kIn True.intro e (fun z=>nomatch z) h
 | bl y=>cases (show u=Value.bool y from rx); exact jl PySem.W.kitx_bool I.kIn True.intro e (fun z=>nomatch z) h
 | int i=>obtain ⟨t,q⟩:=(show ∃ t,u=Value.int i t from rx); cases q; exact jl PySem.W.kitx_int I.kIn True.intro e (fun z=>nomatch z) h
 | str y=>obtain ⟨t,q⟩:=(show ∃ t,u=Value.str y t from rx); cases q; exact jl PySem.W.kitx_str I.kIn True.intro e (fun z=>nomatch z) h
 | flt y=>obtain ⟨t,q⟩:=(show ∃ t,u=float y t from rx); cases q; exact jl PySem.W.kitx_float I.kIn True.intro e (fun z=>nomatch z) h
 | @lst a xs ea =>
  cases (show u=Value.ref a from rx)
  obtain ⟨_,_,n,_,h1⟩:=(show zca X.prog X.w H s.heap a (.lst xs) from I.hok a _ ea)
  exact jl n5 I.kIn ⟨_,h1,rfl⟩ e (fun z=>nomatch z) h
 | @frz a ob xs ea =>
  cases (show u=Value.ref a from rx)
  obtain ⟨_,_,_,n,_,h1⟩:=(show zca X.prog X.w H s.heap a (.frz ob (.lst xs)) from I.hok a _ ea)
  exact jl n5 I.kIn ⟨_,h1,rfl⟩ e (fun z=>nomatch z) h
 | @tup a xs ea =>
  cases (show u=Value.ref a from rx)
  obtain ⟨_,_,_,p⟩:=(show zca X.prog X.w H s.heap a (.tup xs) from I.hok a _ ea)
  obtain ⟨o,h1,h2,_⟩:=p
  exact jl PySem.W.kitx_tuple I.kIn ⟨o,h1,h2⟩ e (fun z=>nomatch z) h
 | @dK a kvs ea =>
  cases (show u=Value.ref a from rx)
  obtain ⟨_,_,vs,_,p⟩:=(show zca X.prog X.w H s.heap a (.dK kvs) from I.hok a _ ea)
  obtain ⟨o,es,ep,h1,h2,_⟩:=p
  exact jl n6 I.kIn ⟨o,h1,h2.1⟩ e (fun z=>nomatch z) h
 | @dT a kvs ea =>
  cases (show u=Value.ref a from rx)
  obtain ⟨_,_,xs,_,o,es,ep,h1,h2,_⟩:=(show zca X.prog X.w H s.heap a (.dT kvs) from I.hok a _ ea)
  exact jl n6 I.kIn ⟨o,h1,h2.1⟩ e (fun z=>nomatch z) h
 | @ins a C dx fs ea cl ha hn htk hm =>
  cases (show u=Value.ref a from rx)
  obtain ⟨mA,O,_⟩:=zl2 I.hok ea
  obtain ⟨od,J,_⟩:=O.look
  exact jl (PySem.W.kitx_own (cl.get _) cl.hd ha hn htk hm) I.kIn J e (fun z=>nomatch z) h
end
structure zee (k:Nat)(A:Around):Prop where
 hd:A.handled=none
 dp:A.depth+3 * k+5<recursionLimit
 un:A.units+16 * k+200<cLine
theorem zee.mono {j k:Nat}{A:Around}(r:zee k A)(h:j<=k):zee j A:=⟨r.hd,by have:=r.dp; omega,by have:=r.un; omega⟩
theorem zee.mm {j k:Nat}{A:Around}(r:zee k A)(h:j<=k:=by decide):zee j A:=r.mono h
theorem zee.deeper {k:Nat}{A:Around}(r:zee (k+1) A)(env:Env):zee k (A.deeper env) :=
 ⟨r.hd,by have:=r.dp; show A.depth+1+3 * k+5<_; omega,by have:=r.un; show A.units+3+16 * k+200<_; omega⟩
theorem zee.in1 {k:Nat}{A:Around}(r:zee (k+1) A):zee k A.in1 :=
 ⟨r.hd,by have:=r.dp; show A.depth+3 * k+5<_; omega,by have:=r.un; show A.units+1+16 * k+200<_; omega⟩
theorem zq0 {A:Around}{C:Addr}{us:List Value}{kw:List (Str × Value)}:(A.under (.builtin "type.__call__" ⟨.ref C :: us,kw⟩)).depth=A.depth+1:=by
 first | rfl | simp [Around.under,Code.weight,Code.isCreation,Code.isGuard,Code.isCaller,Code.frames,Code.isFrame,guardIds]
theorem zrd {A:Around}{C:Addr}{us:List Value}{kw:List (Str × Value)}:(A.under (.builtin "type.__call__" ⟨.ref C :: us,kw⟩)).units=A.units+1:=by
 first | rfl | simp [Around.under,Code.cUnits,Code.frames,Code.isFrame]
theorem zee.make {k:Nat}{A:Around}(r:zee (k+1) A)(C:Addr)(us:List Value)(kw:List (Str × Value)):zee k (A.under (.builtin "type.__call__" ⟨.ref C :: us,kw⟩)) :=
 ⟨r.hd,by have:=r.dp; rw [zq0]; omega,by have:=r.un; rw [zrd]; omega⟩
theorem zee.depth {k:Nat}{A:Around}(r:zee k A):A.depth<recursionLimit:=by have:=r.dp; omega
theorem zee.units {k:Nat}{A:Around}(r:zee k A):A.units+64<cLine:=by have:=r.un; omega
def zsi:TA:=fun _ H Q=>Q [] H
def zgk (ta:TE)(tr:TA):TA:=fun σ H Q=>ta σ H fun x H1=>tr σ H1 fun xs H2=>Q (x :: xs) H2
section
variable {X:Cx} {e:Expr} {es:List Expr} {te:TE} {t:TA} {pos:Pos}
theorem zag:PA X [] zsi:=fun _ _ _ _ H Q I h=>Calls.spliced_nil ⟨[],H,I,.nil,h⟩
theorem zaa (ha:PE X e te)(hr:PA X es t)(hs:starEach (e :: es) X.env=(false,eval e X.env) :: starEach es X.env:=by rfl):PA X (e :: es) (zgk te t):=by
 intro pos pins s σ H Q I h
 rw [hs]
 show wpAny _ _ (spliced ((false,eval e X.env) :: backTo pos (starEach es X.env))) _ _ s
 refine Calls.spliced_cons (thn (ha pins s σ H _ I h) fun u s1 ⟨x,H1,I1,r1,q1⟩=>?_)
 exact thn (hr pos pins s1 σ H1 _ I1 q1) fun us s2 ⟨xs,H2,I2,r2,q2⟩=>⟨x :: xs,H2,I2,.cons r1 r2,q2⟩
def z3w (t:TA):TE:=fun σ H Q=>t σ H fun xs H1=>xs.length<=sizeLine/\∀ p,H1 p=none->Q (.ref p) (upd H1 p (.tup xs))
def z39 (t:TA):TE:=fun σ H Q=>t σ H fun xs H1=>xs.length<=sizeLine/\∀ p,H1 p=none->Q (.ref p) (upd H1 p (.lst xs))
theorem zi0 {x1}(h:PA X es t):PE X (.Tuple es x1 pos) (z3w t):=by
 intro pins s σ H Q I hq
 refine wpAny_Tuple_spliced (thn (h pos pins s σ H _ I hq) fun us s1 ⟨xs,H1,I1,r,z,q⟩=>⟨by rw [<- r.length]; exact z,?_⟩)
 have hf:H1 s1.heap.objs.size=none:=I1.hok.fresh (gf _)
 refine ⟨.ref s1.heap.objs.size,upd H1 s1.heap.objs.size (.tup xs),I1.laid (t':=s1.toks) (fun b u e=>Heap.get?_push_of_some _ e) (gf _) ?_,rfl,q _ hf⟩
 exact ⟨z,us,r,⟨_,Heap.get?_push_size _ rfl,rfl,_,rfl⟩⟩
theorem zcn (h:PA X es t):PE X (.List es pos) (z39 t):=by
 intro pins s σ H Q I hq
 refine wpAny_List_spliced (thn (h pos pins s σ H _ I hq) fun us s1 ⟨xs,H1,I1,r,z,q⟩=>⟨by rw [<- r.length]; exact z,?_⟩)
 have hf:H1 s1.heap.objs.size=none:=I1.hok.fresh (gf _)
 refine ⟨.ref s1.heap.objs.size,upd H1 s1.heap.objs.size (.lst xs),I1.laid (t':=s1.toks) (fun b u e=>Heap.get?_push_of_some _ e) (gf _) ?_,rfl,q _ hf⟩
 exact ⟨z,us,0,r,Heap.get?_push_size _ rfl⟩
end
abbrev Sp:=List V->Hp->VK->XK->Prop
abbrev CXT:=List Env->Hp->Shared->XK->Value->Shared->Prop
structure zui (P:Program)(w:World)(K:W.Frag)(mg:Str->Option Value)(base:Heap)(A:Around)(outer:List Env)(s:Shared)(H:Hp):Prop where
 frames:A.frames=some outer
 mod:Mod K mg base
 bs:∀ b o,base.get? b=some o->s.heap.get? b=some o/\H b=none
 bsz:base.objs.size<=s.heap.objs.size
 funs:s.heap.FunFrames base outer
 frf:∀ b∈frs outer,H b=none
 hok:HOk P w H s.heap
 bare:AllBare s.gens
def CE (outer:List Env)(P:Program)(w:World)(H:Hp)(s:Shared)(Q:VK)(u:Value)(s':Shared):Prop :=
 ∃ v H',s'.os=s.os/\AllBare s'.gens/\Un (frs outer) [] H H' s.heap s'.heap/\HOk P w H' s'.heap/\zbp v u/\Q v H'
def CR (CX:CXT)(outer:List Env)(P:Program)(w:World)(H:Hp)(s:Shared)(Q:VK)(E:XK)(r:Result)(s':Shared):Prop :=
 match r with
 | .ok (.ret u)=>CE outer P w H s Q u s'
 | .ok _=>False
 | .error e=>CX outer H s E e s'
structure zdl (P:Program)(w:World)(K:W.Frag)(mg:Str->Option Value)(base:Heap)(CX:CXT)(k:Nat)(f:Addr)(fd:FuncData)(ps:List Str)(sp:Sp):Prop where
 len:∀ vs H Q E,sp vs H Q E->vs.length=ps.length
 run:∀ (A:Around) (outer:List Env) (s:Shared) (H:Hp) (args:Args) (us:List Value) (vs:List V) (Q:VK) (E:XK),zee k A->zui P w K mg base A outer s H->BindsTo s fd args (ps.zip us)->zbq vs us->sp vs H Q E ->
  codeAny (model P w) A (.call (.ref f) args) (CR CX outer P w H s Q E) s
theorem zdl.mono {P:Program}{w:World}{K:W.Frag}{mg:Str->Option Value}{base:Heap}{CX:CXT}{j k:Nat}{f:Addr}{fd:FuncData}{ps:List Str}{sp:Sp}(F:zdl P w K mg base CX j f fd ps sp)(h:j<=k) :
  zdl P w K mg base CX k f fd ps sp:=⟨F.len,fun A outer s H args us vs Q E hr=>F.run A outer s H args us vs Q E (hr.mono h)⟩
theorem zui.make {P:Program}{w:World}{K:W.Frag}{mg:Str->Option Value}{base:Heap}{A:Around}{outer:List Env}{s:Shared}{H:Hp}(e:zui P w K mg base A outer s H)(C:Addr)(us:List Value)(kw:List (Str × Value)) :
  zui P w K mg base (A.under (.builtin "type.__call__" ⟨.ref C :: us,kw⟩)) outer s H:=⟨by first | exact e.frames | (simpa [Around.under,Code.envs,Code.isFrame,pushEnvs] using e.frames),e.mod,e.bs,e.bsz,e.funs,e.frf,e.hok,e.bare⟩
theorem zui.in1 {P:Program}{w:World}{K:W.Frag}{mg:Str->Option Value}{base:Heap}{A:Around}{outer:List Env}{s:Shared}{H:Hp}(e:zui P w K mg base A outer s H) :
  zui P w K mg base A.in1 outer s H:=⟨e.frames,e.mod,e.bs,e.bsz,e.funs,e.frf,e.hok,e.bare⟩
section
variable {X:Cx} {pins:List (Addr × Obj)} {σ:St} {H:Hp} {s s':Shared}
theorem Inv.env0 (I:Inv X pins σ H s):zui X.prog X.w X.K X.mg X.base X.A X.stack s H :=
 ⟨I.ok.frames,I.ok.mod,I.bs,gm I.ok.bsz I.sz,I.stack,I.stkFree,I.hok,I.bare⟩
theorem Inv.after {Q:VK}{u:Value}(I:Inv X pins σ H s)(h:CE X.stack X.prog X.w H s Q u s'):EP X pins σ Q u s':=by
 obtain ⟨v,H',os,bare,un,hok,r,q⟩:=h
 obtain ⟨hh,g,d,t,a⟩:=s'
 obtain rfl:a=s.os:=os
 exact ⟨v,H',I.call (h':=hh) (g':=g) (d':=d) (t':=t) (ch:=[]) un hok bare (fun b z=>absurd z (by simp)),r,q⟩
end
def zs1 (sp:Sp)(dvs:List V)(E:XK)(t:TA):TE:=fun σ H Q=>t σ H fun vs H1=>sp (vs++dvs) H1 Q E
def zzs (C:Addr)(m:Str)(sp:Sp)(dvs:List V)(E:XK)(ta:TE)(t:TA):TE:=fun σ H Q=>ta σ H fun x H1=>∃ a dx fs,x = .ref a/\H1 a=some (.ins C dx fs)/\fs.lookup m=none /\
 t σ H1 fun vs H2=>sp (x :: (vs++dvs)) H2 Q E
def z21 (C:Addr)(sp:Sp)(dvs:List V)(E:XK)(t:TA):TE:=fun σ H Q=>t σ H fun vs H1=>∀ x dx,H1 x=none->H1 dx=none->dx≠x ->
 sp (.ref x :: (vs++dvs)) (upd (upd H1 dx (.own x)) x (.ins C dx [])) (fun v H2=>v = .non/\Q (.ref x) H2) E
def zce (K:W.Frag)(fd:FuncData)(ps:List Str)(ds:List Value):Prop :=
 ∀ (s:Shared) (us:List Value),K.In s.heap->(us++ds).length=ps.length->BindsTo s fd ⟨us,[]⟩ (ps.zip (us++ds))
theorem zce.all {K:W.Frag}{fd:FuncData}{ps:List Str}(h:∀ us:List Value,us.length=ps.length->bindArgs fd ⟨us,[]⟩=pure (ps.zip us)):zce K fd ps []:=fun s us _ hl=>by
 rw [iu] at hl |-
 exact .of_eq (h us hl)
def zhw (CX:CXT)(X:Cx)(E:XK):Prop:=∀ (pins:List (Addr × Obj)) (σ:St) (H:Hp) (s:Shared) (e:Value) (s':Shared),Inv X pins σ H s->CX X.stack H s E e s'->X.xe e s'
section
variable {X:Cx} {CX:CXT} {k:Nat} {f C:Addr} {fd:FuncData} {ps:List Str} {sp:Sp} {dvs:List V} {ds:List Value} {E:XK} {x m:Str} {p pos apos:Pos} {e o:Expr} {es:List Expr} {ta:TE} {t:TA}
theorem znp {pins:List (Addr × Obj)}{σ:St}{H:Hp}{s:Shared}{Q:VK}{us:List Value}{vs:List V}(F:zdl X.prog X.w X.K X.mg X.base CX k f fd ps sp)(hr:zee k X.A)(hb:zce X.K fd ps ds)(hd:zbq dvs ds)(hx:zhw CX X E)
  (I:Inv X pins σ H s)(r:zbq vs us)(h:sp (vs++dvs) H Q E):wpAny (model X.prog X.w) X.A (call (.ref f) us) (EP X pins σ Q) X.xe s:=by
 have r2:zbq (vs++dvs) (us++ds):=r.append hd
 have hl:(us++ds).length=ps.length:=by rw [<- r2.length]; exact F.len _ _ _ _ h
 refine wpAny_call (codeAny_mono (F.run X.A X.stack s H ⟨us,[]⟩ (us++ds) (vs++dvs) Q E hr I.env0 (hb s us I.kIn hl) r2 h) fun r s' hq=>?_)
 cases r with
 | error e=>exact hx pins σ H s e s' I hq
 | ok fl =>
  cases fl with
  | ret u=>exact I.after hq
  | next=>exact False.elim hq
  | brk=>exact False.elim hq
  | cont=>exact False.elim hq
theorem zhc (F:zdl X.prog X.w X.K X.mg X.base CX k f fd ps sp)(hr:zee k X.A)(hg:Gl X x)(hm:X.mg x=some (.ref f))(hk:PySem.W.keepIn X.K (.ref f)=true)(hb:zce X.K fd ps ds)(hd:zbq dvs ds)(hx:zhw CX X E)
  (ha:PA X (e :: es) t)(hdb:(x == ("__debug__" : Str))=false:=by decide)(he:starEach (e :: es) X.env=(false,eval e X.env) :: starEach es X.env:=by rfl)(hpl:(backTo pos (starEach es X.env)).any (·.1)=false:=by rfl) :
  PE X (.Call (.Name x p) (e :: es) [] pos) (zs1 sp dvs E t):=by
 intro pins s σ H Q I h
 refine wpAny_Call_Name_kw (zlv I hg hm ?_ hdb)
 refine ku (h₀:=X.base) I.ok.mod.kin hk (thn (ha pos pins s σ H _ I h) fun us s1 ⟨vs,H1,I1,r,q⟩=>⟨I1.kIn,?_⟩) he hpl
 exact znp F hr hb hd hx I1 r q
theorem ze0 {pl:Sem Bool}(he:PE X o ta)(c:Cls X.K C)(hm:zz6 X.K C m f)(F:zdl X.prog X.w X.K X.mg X.base CX k f fd ps sp)(hr:zee k X.A)(hb:zce X.K fd ps ds)(hd:zbq dvs ds)(hx:zhw CX X E)(ha:PA X (e :: es) t)
  (hst:starEach (e :: es) X.env=(false,eval e X.env) :: starEach es X.env:=by rfl)(hpl:(backTo pos (starEach es X.env)).any (·.1)=false:=by rfl)
  (ht:eval (.Call (.Attribute o m apos) (e :: es) [] pos) X.env=(do
   let ov <- eval o X.env
   standAt apos.atName
   let (f,first) <- holding [ov] (getMethod ov m pl)
   callWith pos f first (backTo pos (starEach (e :: es) X.env)) (backToKw pos (keywordEach [] X.env))):=by rfl) :
  PE X (.Call (.Attribute o m apos) (e :: es) [] pos) (zzs C m sp dvs E ta t):=by
 intro pins s σ H Q I h
 refine kq (pl:=pl) (thn (he pins s σ H _ I h) fun u s1 ⟨x,H1,I1,rx,a,dx,fs,ex,ea,l,q⟩=>?_) ht
 subst ex
 obtain rfl:u=Value.ref a:=rx
 refine zkz I1 ea c hm l ?_
 refine ku (first:=[.ref a]) (h₀:=X.base) I.ok.mod.kin hm.kp (thn (ha pos pins s1 σ H1 _ I1 q) fun us s2 ⟨vs,H2,I2,r,q2⟩=>⟨I2.kIn,?_⟩) hst hpl
 exact znp (us:= .ref a :: us) (vs:= .ref a :: vs) F hr hb hd hx I2 (.cons rfl r) q2
theorem zcd {pl:Sem Bool}(he:PE X o ta)(c:Cls X.K C)(hm:zz6 X.K C m f)(F:zdl X.prog X.w X.K X.mg X.base CX k f fd ps sp)(hr:zee k X.A)(hb:zce X.K fd ps ds)(hd:zbq dvs ds)(hx:zhw CX X E)
  (ht:eval (.Call (.Attribute o m apos) [] [] pos) X.env=(do
   let ov <- eval o X.env
   standAt apos.atName
   let (f,first) <- holding [ov] (getMethod ov m pl)
   callWith pos f first (backTo pos (starEach [] X.env)) (backToKw pos (keywordEach [] X.env))):=by rfl) :
  PE X (.Call (.Attribute o m apos) [] [] pos) (zzs C m sp dvs E ta zsi):=by
 intro pins s σ H Q I h
 refine kq (pl:=pl) (thn (he pins s σ H _ I h) fun u s1 ⟨x,H1,I1,rx,a,dx,fs,ex,ea,l,q⟩=>?_) ht
 subst ex
 obtain rfl:u=Value.ref a:=rx
 refine zkz I1 ea c hm l ?_
 exact PySem.W.callWith_K0 (first:=[.ref a]) I1.kIn hm.kp (znp (us:=[.ref a]) (vs:=[.ref a]) F hr hb hd hx I1 (.cons rfl .nil) q)
structure Mk (K:W.Frag)(C f:Addr):Prop where
 makes:PySem.W.makesIn K C=true
 init:PySem.W.findIn K (.ref C) "__init__" = some (some (.ref f))
 fn:PySem.W.isFn K (.ref f)=true
 kp:PySem.W.keepIn K (.ref C)=true
theorem zuu {pins:List (Addr × Obj)}{σ:St}{H:Hp}{s:Shared}{Q:VK}{us:List Value}{vs:List V}(M:Mk X.K C f)(F:zdl X.prog X.w X.K X.mg X.base CX k f fd ps sp)(hr:zee (k+1) X.A)(hb:zce X.K fd ps ds)(hd:zbq dvs ds)
  (hx:zhw CX X E)(I:Inv X pins σ H s)(r:zbq vs us)
  (h:∀ x dx,H x=none->H dx=none->dx≠x->sp (.ref x :: (vs++dvs)) (upd (upd H dx (.own x)) x (.ins C dx [])) (fun v H2=>v = .non/\Q (.ref x) H2) E) :
  wpAny (model X.prog X.w) X.A (call (.ref C) us) (EP X pins σ Q) X.xe s:=by
 have hq:=h (s.heap.objs.size+1) s.heap.objs.size (I.hok.fresh (j3 _)) (I.hok.fresh (gf _)) (gl (ic _))
 have I2:=Inv.made (C:=C) I
 have r2:zbq (V.ref (s.heap.objs.size+1) :: (vs++dvs)) (Value.ref (s.heap.objs.size+1) :: (us++ds)):= .cons rfl (r.append hd)
 have hl:(Value.ref (s.heap.objs.size+1) :: us++ds).length=ps.length:=by
  have e:=r2.length
  rw [F.len _ _ _ _ hq] at e
  exact e.symm
 refine wpAny_call (zum (f:=f) I.kIn M.makes M.init (beq_iff_eq.mp M.fn) (codeAny_mono (F.run _ X.stack _ _ ⟨Value.ref (s.heap.objs.size+1) :: us,[]⟩ (Value.ref (s.heap.objs.size+1) :: (us++ds)) _ _ E (hr.make C us [])
  (I2.env0.make C us []) (hb _ (Value.ref (s.heap.objs.size+1) :: us) I2.kIn hl) r2 hq) fun r s' a=>?_))
 cases r with
 | error e=>exact hx pins σ _ _ e s' I2 a
 | ok fl =>
  cases fl with
  | ret u =>
   obtain ⟨v,H',I3,rv,ev,q3⟩:=I2.after a
   subst ev
   exact ⟨rv,⟨V.ref (s.heap.objs.size+1),H',I3,rfl,q3⟩⟩
  | next=>exact False.elim a
  | brk=>exact False.elim a
  | cont=>exact False.elim a
theorem zld (M:Mk X.K C f)(F:zdl X.prog X.w X.K X.mg X.base CX k f fd ps sp)(hr:zee (k+1) X.A)(hg:Gl X x)(hm:X.mg x=some (.ref C))(hb:zce X.K fd ps ds)(hd:zbq dvs ds)(hx:zhw CX X E)
  (ha:PA X (e :: es) t)(hdb:(x == ("__debug__" : Str))=false:=by decide)(he:starEach (e :: es) X.env=(false,eval e X.env) :: starEach es X.env:=by rfl)(hpl:(backTo pos (starEach es X.env)).any (·.1)=false:=by rfl) :
  PE X (.Call (.Name x p) (e :: es) [] pos) (z21 C sp dvs E t):=by
 intro pins s σ H Q I h
 refine wpAny_Call_Name_kw (zlv I hg hm ?_ hdb)
 refine ku (h₀:=X.base) I.ok.mod.kin M.kp (thn (ha pos pins s σ H _ I h) fun us s1 ⟨vs,H1,I1,r,q⟩=>⟨I1.kIn,?_⟩) he hpl
 exact zuu M F hr hb hd hx I1 r q
end
def PK (X:Cx)(kws:List Keyword)(t:TA):Prop :=
 ∀ (pos:Pos) (pins:List (Addr × Obj)) (s:Shared) (σ:St) (H:Hp) (Q:List V->Hp->Prop),Inv X pins σ H s->t σ H Q->wpAny (model X.prog X.w) X.A (evalAll ((backToKw pos (keywordEach kws X.env)).map (·.2))) (AP X pins σ Q) X.xe s
section
variable {X:Cx} {x:Str} {pos kpos:Pos} {e:Expr} {kws:List Keyword} {te:TE} {t:TA} {nm:Option Str}
theorem zw2:PK X [] zsi:=fun _ _ _ _ H Q I h=>wpAny_evalAll_nil ⟨[],H,I,.nil,h⟩
theorem zo8 (ha:PE X e te)(hr:PK X kws t):PK X (⟨nm,e,kpos⟩ :: kws) (zgk te t):=by
 intro pos pins s σ H Q I h
 show wpAny _ _ (evalAll ((do let v <- eval e X.env; standAt pos; pure v) :: (backToKw pos (keywordEach kws X.env)).map (·.2))) _ _ s
 refine wpAny_evalAll_cons (wpAny_bind (thn (ha pins s σ H _ I h) fun u s1 ⟨x,H1,I1,r1,q1⟩=>wpAny_bind (wpAny_standAt (wpAny_pure ?_))))
 exact thn (hr pos pins s1 σ H1 _ I1 q1) fun us s2 ⟨xs,H2,I2,r2,q2⟩=>⟨x :: xs,H2,I2,.cons r1 r2,q2⟩
end
structure zal (N P:List Str)(sc:Scope):Prop where
 kind:sc.kind = .function
 co:sc.isCoroutine=false
 gen:sc.isGenerator=false
 nd:N.Nodup
 pre:N.take P.length=P
 par:∀ x∈P,sc.names.lookup x=some .local\/sc.names.lookup x=some .cell
 nofree:∀ y∈sc.names,y.2≠ .free
theorem zm_ {kindOf:Str->Option NameKind}{x:Str}:∀ {binds:List (Str × Value)} {m:Str->Option Value},(∀ v,(x,v)∉binds)->bindL kindOf binds m x=m x
 | [],_,_=>rfl
 | (n,v) :: r,m,h=>by
  unfold bindL
  rw [zm_ fun w hw=>h w (fk _ hw)]
  split
  ·have:x≠n:=by rintro rfl; exact h v gb
   simp [this]
  ·rfl
theorem znn {kindOf:Str->Option NameKind}{x:Str}:∀ {binds:List (Str × Value)} {m:Str->Option Value},(∀ v,(x,v)∉binds)->bindC kindOf binds m x=m x
 | [],_,_=>rfl
 | (n,v) :: r,m,h=>by
  unfold bindC
  rw [znn fun w hw=>h w (fk _ hw)]
  split
  ·rfl
  ·have:x≠n:=by rintro rfl; exact h v gb
   simp [this]
theorem zmk {kindOf:Str->Option NameKind}{x:Str}{v:Value}:∀ {P:List Str} {vs:List Value} {i:Nat} {m:Str->Option Value},P.Nodup->P[i]? = some x->vs[i]? = some v->kindOf x=some .local ->
  bindL kindOf (P.zip vs) m x=some v
 | [],_,_,_,_,h,_,_=>by simp at h
 | _ :: _,[],_,_,_,_,h,_=>by simp at h
 | p :: P,w :: vs,0,m,nd,h1,h2,hk=>by
  simp at h1 h2; subst h1; subst h2
  show bindL kindOf ((p,w) :: P.zip vs) m p=_
  unfold bindL
  rw [zm_ fun v hv=>(io.mp nd).1 (jz hv).1,if_pos hk]
  simp
 | p :: P,w :: vs,i+1,m,nd,h1,h2,hk=>by
  show bindL kindOf ((p,w) :: P.zip vs) m x=_
  unfold bindL
  exact zmk (i:=i) (io.mp nd).2 (by simpa using h1) (by simpa using h2) hk
theorem zmx {kindOf:Str->Option NameKind}{x:Str}{v:Value}:∀ {P:List Str} {vs:List Value} {i:Nat} {m:Str->Option Value},P.Nodup->P[i]? = some x->vs[i]? = some v->kindOf x≠some .local ->
  bindC kindOf (P.zip vs) m x=some v
 | [],_,_,_,_,h,_,_=>by simp at h
 | _ :: _,[],_,_,_,_,h,_=>by simp at h
 | p :: P,w :: vs,0,m,nd,h1,h2,hk=>by
  simp at h1 h2; subst h1; subst h2
  show bindC kindOf ((p,w) :: P.zip vs) m p=_
  unfold bindC
  rw [znn fun v hv=>(io.mp nd).1 (jz hv).1,if_neg hk]
  simp
 | p :: P,w :: vs,i+1,m,nd,h1,h2,hk=>by
  show bindC kindOf ((p,w) :: P.zip vs) m x=_
  unfold bindC
  exact zmx (i:=i) (io.mp nd).2 (by simpa using h1) (by simpa using h2) hk
def start (N:List Str)(vs:List V):St:=vs.map some++lc (N.length - vs.length) none
def zq9 (CX:CXT)(P:Program)(w:World)(K:W.Frag)(mg:Str->Option Value)(base:Heap)(N:List Str)(qual:Str)(scope:Scope)(f:Addr)(cd:Value)(A:Around)(outer:List Env)(s:Shared)(H:Hp)(E:XK)(fn:Str->Bool:=fun _=>true):Cx where
 prog:=P
 w:=w
 K:=K
 mg:=mg
 base:=base
 A:=A.deeper (envOfC qual scope s.heap.objs.size f cd)
 N:=N
 s₀:=s
 H₀:=H
 env:=envOfC qual scope s.heap.objs.size f cd
 outer:=outer
 stack:=envOfC qual scope s.heap.objs.size f cd :: outer
 ex:=[]
 calm:=true
 fn:=fn
 pn:=[]
 xe:=fun e s'=>wpAny (model P w) (A.deeper (envOfC qual scope s.heap.objs.size f cd)) (leaving (envOfC qual scope s.heap.objs.size f cd) e) (fun _ s''=>CX outer H s E e s'') (fun e' s''=>CX outer H s E e' s'') s'
theorem zpy {sc:Scope}{n:Nat}{x:Str}(h:sc.names.lookup x=some .cell):∃ c,(cellsFrom n sc.names []).lookup x=some c:=by
 have q:=kc sc.names n [] (.inl h)
 exact Option.isSome_iff_exists.mp q
theorem zm7 {CX:CXT}{P:Program}{w:World}{K:W.Frag}{mg:Str->Option Value}{base:Heap}{N ps:List Str}{qual:Str}{scope:Scope}{f:Addr}{cd:Value}{A:Around}{outer:List Env}{s s1:Shared}{H:Hp}{E:XK}{us:List Value}{vs:List V}{fn:Str->Bool}
  (S:zal N ps scope)(hd:A.handled=none)(e0:zui P w K mg base A outer s H)(hl:vs.length=ps.length)(r:zbq vs us)
  (x:InCallC s s.heap.objs.size (bindL (envOfC qual scope s.heap.objs.size f cd).kindOf (ps.zip us) fun _=>none) (cellsFrom (s.heap.objs.size+1) scope.names []) (bindC (envOfC qual scope s.heap.objs.size f cd).kindOf (ps.zip us) fun _=>none) s1) :
  Inv (zq9 CX P w K mg base N qual scope f cd A outer s H E fn) [] (start N vs) H s1:=by
 have j:ps.length<=N.length:=by have:=congrArg kj S.pre; rw [gq] at this; omega
 obtain ⟨h1,tk,rfl,hk⟩:=x.done
 have d:∀ b:Addr,b∉(zq9 CX P w K mg base N qual scope f cd A outer s H E fn).ex:=fun b z=>absurd (show b∈([]:List Addr) from z) (by simp)
 refine ⟨⟨e0.mod,S.kind,rfl,rfl,gf _,fun y z c h1 h2=>?_,fun y hy=>?_,fun y c _ h=>?_,fun _=>hd,Around.frames_deeper e0.frames,.inr ⟨rfl,rfl⟩,fun b z=>absurd z (d b),e0.bs,e0.bsz,fun b _ _=>d b,fun b z=>absurd z (d b),e0.funs,e0.frf⟩,
  rfl,e0.bare,Un.kept hk,⟨_,x.toInCall.ns,fun i y v h1 h2 h3=>?_⟩,fun y c h=>⟨_,x.cell y c h⟩,e0.hok.fresh (gf _),fun y c h=>?_,fun p hp=>absurd (show p∈([]:List (Addr × Obj)) from hp) (by simp),e0.hok.kept hk,?_⟩
 ·exact name_of_addr x.apart (PySem.mem_of_lookup h1) (PySem.mem_of_lookup h2)
 ·have hy:scope.names.lookup y=some .cell\/scope.names.lookup y=some .free:=hy
  rcases hy with hy | hy
  ·exact zpy hy
  ·exact absurd rfl (S.nofree _ (PySem.mem_of_lookup hy))
 ·exact gx (x.above y c (PySem.mem_of_lookup h))
 ·have hi:i<vs.length:=by
   unfold start at h2
   by_cases hi:i<vs.length
   ·exact hi
   ·rw [List.getElem?_append_right (by simpa using hi)] at h2
    rw [List.getElem?_replicate] at h2
    split at h2 <;> cases h2
  have ha:vs[i]? = some v:=by
   unfold start at h2
   rw [List.getElem?_append_left (by simpa using hi),List.getElem?_map] at h2
   cases e:vs[i]? with
   | none=>rw [e] at h2; cases h2
   | some a=>rw [e] at h2; cases h2; rfl
  obtain ⟨u,hu,rv⟩:=r.get ha
  have hp:ps[i]? = some y:=by
   rw [<- S.pre,List.getElem?_take_of_lt (by omega)]; exact h1
  have g:ps.Nodup:=by rw [<- S.pre]; exact S.nd.sublist (l4 _ _)
  refine ⟨u,rv,?_⟩
  rcases S.par y (gj hp) with k | k
  ·exact .inl ⟨k,zmk g hp hu k⟩
  ·obtain ⟨c,e⟩:=zpy (n:=s.heap.objs.size+1) k
   refine .inr ⟨.inl k,c,e,?_⟩
   have q:=x.cell y c e
   rw [zmx g hp hu (by show scope.names.lookup y≠_; rw [k]; decide)] at q
   exact q
 ·have z:=e0.hok.fresh (gx (x.above y c (PySem.mem_of_lookup h)))
  exact ⟨fun _=>z,.inl z⟩
 ·unfold start
  show _=N.length
  rw [fm,fj,List.length_replicate]
  omega
theorem z1t {CX:CXT}{P:Program}{w:World}{K:W.Frag}{mg:Str->Option Value}{base:Heap}{k:Nat}{f:Addr}{name qual:Str}{params:Arguments}{body:List Stmt}{scope:Scope}{dV kV doc pm cdv ct oc:Value}{an od:Option Addr}
  {osl:Array (Option Value)}{N ps:List Str}{sp:Sp}(lk:K.lookup f=some ⟨oc,od,.func (PySem.W.fnOf name qual params body scope dV kV doc pm an cdv ct),osl⟩)(hcd:PySem.W.codeIn K cdv qual=true)(S:zal N ps scope)
  (len:∀ vs H Q E,sp vs H Q E->vs.length=ps.length)
  (hbody:∀ (A:Around) (outer:List Env) (s:Shared) (H:Hp) (vs:List V) (Q:VK) (E:XK),zee k (A.deeper (envOfC qual scope s.heap.objs.size f cdv))->sp vs H Q E ->
   ∃ t,PSs (zq9 CX P w K mg base N qual scope f cdv A outer s H E) body t/\t { nx:=fun _ H'=>Q .non H',rt:=Q } (start N vs) H) :
  zdl P w K mg base CX (k+1) f (PySem.W.fnOf name qual params body scope dV kV doc pm an cdv ct) ps sp:=by
 refine ⟨len,fun A outer s H args us vs Q E hr e0 hb r d=>?_⟩
 have hl:=len _ _ _ _ d
 have KX:K.In s.heap:=e0.mod.kin.keeps fun b o e=>(e0.bs b o e).1
 have g:s.heap.NoLimit:=e0.mod.nolimit.keeps fun b o e=>(e0.bs b o e).1
 have a:∀ y∈ps.zip us,scope.names.lookup y.1=some .local\/(scope.names.lookup y.1=some .cell/\((cellsFrom (s.heap.objs.size+1) scope.names []).lookup y.1).isSome=true):=fun ⟨n,v⟩ hy=>by
  rcases S.par n (jz hy).1 with q | q
  ·exact .inl q
  ·exact .inr ⟨q,kc _ _ _ (.inl q)⟩
 refine codeAny_call_function hr.depth (KX _ _ lk) rfl S.co S.gen rfl (mq KX hcd) (hb _ _ _ _ ?_)
 refine wpAny_newFunctionEnv_cells S.kind a fun env he s1 x=>?_
 subst he
 refine ⟨g.keeps x.toInCall.keep,codeAny_func ?_⟩
 obtain ⟨t,ht,hq⟩:=hbody A outer s H vs Q E (hr.deeper _) d
 have I:Inv (zq9 CX P w K mg base N qual scope f cdv A outer s H E) [] (start N vs) H s1:=zm7 S hr.hd e0 hl r x
 refine wpAny_mono (ht [] s1 (start N vs) H _ I hq) (fun fl s' hs=>?_) fun e s' hs=>hs
 have c:∀ {σ':St} {H':Hp} {v:V} {u:Value},Inv (zq9 CX P w K mg base N qual scope f cdv A outer s H E) [] σ' H' s'->zbp v u->Q v H'->CE outer P w H s Q u s' :=
  fun {σ' H' v u} J rv q=>⟨v,H',J.os,J.bare,J.base,J.hok,rv,q⟩
 cases fl with
 | ret u =>
  obtain ⟨v,σ',H',J,rv,q⟩:=hs
  exact c J rv q
 | next =>
  obtain ⟨σ',H',J,q⟩:=hs
  exact c (v:=V.non) (u:=Value.none) J rfl q
 | brk =>
  obtain ⟨_,_,_,q⟩:=hs
  exact False.elim q
 | cont =>
  obtain ⟨_,_,_,q⟩:=hs
  exact False.elim q
section
variable {X:Cx} {x:Str} {p pos:Pos} {e:Expr} {es:List Expr} {t:TA} {id T:String} {r:List V->Hp->VK->Prop}
def tCB (r:List V->Hp->VK->Prop)(t:TA):TE:=fun σ H Q=>t σ H fun vs H1=>r vs H1 Q
theorem za2 (hc:zhf X (.builtin id) r)(hg:Gl X x)(hm:X.mg x=none)(hv:bootBuiltins x=some (.builtin id))(ha:PA X (e :: es) t)(hn:x≠ "__name__" :=by decide)(hdb:(x == ("__debug__" : Str))=false:=by decide)
  (he:starEach (e :: es) X.env=(false,eval e X.env) :: starEach es X.env:=by rfl)(hpl:(backTo pos (starEach es X.env)).any (·.1)=false:=by rfl):PE X (.Call (.Name x p) (e :: es) [] pos) (tCB r t):=by
 intro pins s σ H Q I h
 refine wpAny_Call_Name_kw (zjz I hg hm hv ?_ hn hdb)
 exact PyProof.Rows.callWith_builtin1 (thn (ha pos pins s σ H _ I h) fun us s1 ⟨vs,H1,I1,r1,q1⟩=>hc pins s1 σ H1 vs us Q I1 r1 q1) he hpl
theorem zdu (hc:zhf X (.type T) r)(hg:Gl X x)(hm:X.mg x=none)(hv:bootBuiltins x=some (.type T))(ha:PA X (e :: es) t)(hn:x≠ "__name__" :=by decide)(hdb:(x == ("__debug__" : Str))=false:=by decide)
  (he:starEach (e :: es) X.env=(false,eval e X.env) :: starEach es X.env:=by rfl)(hpl:(backTo pos (starEach es X.env)).any (·.1)=false:=by rfl):PE X (.Call (.Name x p) (e :: es) [] pos) (tCB r t):=by
 intro pins s σ H Q I h
 refine wpAny_Call_Name_kw (zjz I hg hm hv ?_ hn hdb)
 exact PyProof.Rows.callWith_type1 (thn (ha pos pins s σ H _ I h) fun us s1 ⟨vs,H1,I1,r1,q1⟩=>hc pins s1 σ H1 vs us Q I1 r1 q1) he hpl
end
end L2
namespace HT
open PySem PyProof.Rows
section
variable {prog:Program} {w:World} {A:Around} {E:Value->Shared->Prop} {s:Shared}
theorem cat_tup {t b:Addr}{vs ws:List Value}{Q:Value->Shared->Prop}(ht:IsTup s.heap t vs.toArray)(hb:IsTup s.heap b ws.toArray)(hv:vs≠[])
  (h1:ws=[]->Q (.ref t) s)(h2:ws≠[]->Q (.ref s.heap.objs.size) { s with heap:=s.heap.push { cls:= .type "tuple",data:= .seq (vs++ws).toArray } })
  (hsz:vs.length+ws.length<=sizeLine):wpAny (model prog w) A (binaryOp .Add (.ref t) (.ref b)) Q E s:=by
 obtain ⟨⟨cls,dd,data,sl⟩,ho,hc,n,hd⟩:=id ht
 obtain ⟨⟨i,d,h,c⟩,a,f,n2,g⟩:=id hb
 simp only at hc hd f g
 subst hc hd f g
 have e:vs.toArray++ws.toArray=(vs++ws).toArray:=by simp
 by_cases hw:ws=[]
 ·exact concat_meets ⟨_,ho,rfl⟩ ⟨_,a,rfl⟩ noFill_tuple_add seq_tuple_add lx PySem.F.entry_tuple_add (PySem.F.args_tuple_add_2 _ _)
   (tuple_addW1 t b vs.toArray ws.toArray n n2 dd d sl c (by simpa using hv) (by simp [hw])) ⟨ho,a,h1 hw⟩
 ·refine concat_meets ⟨_,ho,rfl⟩ ⟨_,a,rfl⟩ noFill_tuple_add seq_tuple_add lx PySem.F.entry_tuple_add (PySem.F.args_tuple_add_2 _ _)
   (tuple_addW2 t b vs.toArray ws.toArray n n2 dd d sl c (by simpa using hv) (by simpa using hw) (by rw [fw,fw]; exact hsz)) ⟨ho,a,?_⟩
  rw [e]
  exact h2 hw
def sIx (n d:Nat):Option Int->Nat
 | none=>d
 | some v=>if v<0 then (v+(n:Int)).toNat else min v.toNat n
theorem sIx_none (n d:Nat):sIx n d none=d:=rfl
theorem sIx_nat (n d k:Nat):sIx n d (some (k:Int))=min k n:=by
 show (if (k:Int)<0 then ((k:Int)+(n:Int)).toNat else min (k:Int).toNat n)=min k n
 rw [if_neg (by omega),ix]
end
end HT
namespace L2
open PySem PySem.Spec PyProof.Rows
abbrev TO:=St->Hp->(Option Int->Hp->Prop)->Prop
def PO (X:Cx)(e:Option Expr)(t:TO):Prop :=
 ∀ (pins:List (Addr × Obj)) (s:Shared) (σ:St) (H:Hp) (Q:Option Int->Hp->Prop),Inv X pins σ H s->t σ H Q ->
  wpAny (model X.prog X.w) X.A (evalPart e X.env) (fun u s'=>∃ o H',Inv X pins σ H' s'/\IsPart u o/\Q o H') X.xe s
def zyv:TO:=fun _ H Q=>Q none H
def z2z (t:TE):TO:=fun σ H Q=>t σ H fun x H1=>∃ i,x = .int i/\Q (some i) H1
theorem zhd {ns:List Int}:∀ {us:List Value},zbq (ns.map V.int) us->IntsAre us ns:=by
 induction ns with
 | nil=>intro us r; rw [mk] at r; cases r; exact .nil
 | cons n ns ih =>
  intro us r
  rw [gz] at r
  cases r with
  | cons r1 r2 =>
   obtain ⟨t,e⟩:=r1
   subst e
   exact .cons n t (ih r2)
section
variable {X:Cx} {e:Expr} {te:TE} {lo hi:Option Expr} {tl th:TO} {pos p2:Pos}
theorem zfi:PO X none zyv:=by
 intro pins s σ H Q I h
 rw [evalPart_none]
 exact wpAny_pure ⟨none,H,I,.none,h⟩
theorem zdd (h:PE X e te):PO X (some e) (z2z te):=by
 intro pins s σ H Q I hw
 rw [evalPart_some]
 refine thn (h pins s σ H _ I hw) fun u s1 ⟨x,H1,I1,r1,q1⟩=>?_
 obtain ⟨i,rfl,q⟩:=q1
 obtain ⟨t,rfl⟩:=r1
 exact ⟨some i,H1,I1,.int i t,q⟩
def SlR (X:Cx)(r:V->Option Int->Option Int->Hp->VK->Prop):Prop :=
 ∀ (pins:List (Addr × Obj)) (s:Shared) (σ:St) (H:Hp) (x:V) (v vl vu:Value) (lo hi:Option Int) (sl:Addr) (Q:VK),Inv X pins σ H s->zbp x v->s.heap.IsSliceOf sl vl vu .none->IsPart vl lo->IsPart vu hi->r x lo hi H Q ->
  ∃ T id,typeLookup (.type T) "__getitem__" = pure (some (.builtin id))/\s.TypeIs v T/\wpAny (model X.prog X.w) X.A (getItem v (.ref sl)) (EP X pins σ Q) X.xe s
def tSl (r:V->Option Int->Option Int->Hp->VK->Prop)(te:TE)(tl th:TO):TE:=fun σ H Q=>te σ H fun x H1=>tl σ H1 fun l H2=>th σ H2 fun u H3=>r x l u H3 Q
theorem zc3 {r:V->Option Int->Option Int->Hp->VK->Prop}(hr:SlR X r)(he:PE X e te)(hl:PO X lo tl)(hu:PO X hi th):PE X (.Subscript e (.Slice lo hi none p2) pos) (tSl r te tl th):=by
 intro pins s σ H Q I h
 refine Subscript_ (thn (he pins s σ H _ I h) fun v s1 ⟨x,H1,I1,r1,q1⟩=>?_)
 refine wpAny_Slice (thn (hl pins s1 σ H1 _ I1 q1) fun vl s2 ⟨l,H2,I2,pl,q2⟩=>thn (hu pins s2 σ H2 _ I2 q2) fun vu s3 ⟨u,H3,I3,pu,q3⟩=>?_)
 rw [evalPart_none]
 refine wpAny_pure ?_
 have I4:Inv X pins σ H3 { s3 with heap:=s3.heap.push { cls:= .type "slice",data:= .fields #[vl,vu,.none] } }:=I3.kept (t':=s3.toks) fun b ob q=>Heap.get?_push_of_some _ q
 obtain ⟨T,id,hT,ht,hg⟩:=hr pins { s3 with heap:=s3.heap.push { cls:= .type "slice",data:= .fields #[vl,vu,.none] } } σ H3 x v vl vu l u s3.heap.objs.size Q I4 r1 (Heap.IsSliceOf.new ..) pl pu q3
 show wpAny (model X.prog X.w) X.A (subscriptTail e (.Slice lo hi none p2) v (.ref s3.heap.objs.size)) (EP X pins σ Q) X.xe { s3 with heap:=s3.heap.push { cls:= .type "slice",data:= .fields #[vl,vu,.none] } }
 exact tail_any (ops:=[.ref s3.heap.objs.size,v]) ht hT hg (by with_unfolding_all rfl)
def zj8 (xs:List V)(lo hi:Option Int):List V:=(xs.drop (HT.sIx xs.length 0 lo)).take (HT.sIx xs.length xs.length hi - HT.sIx xs.length 0 lo)
theorem zor (xs:List V)(lo hi:Option Int):(zj8 xs lo hi).length<=xs.length:=by
 unfold zj8
 rw [gq,ki]
 omega
def z1r (K:W.Frag):R2:=fun x y H Q=>∃ a b xs ys,x = .ref a/\y = .ref b/\SqT K H a xs/\SqT K H b ys/\xs≠[]/\xs.length+ys.length<=sizeLine /\
 (ys=[]->Q (.ref a) H)/\(ys≠[]->∀ p,H p=none->Q (.ref p) (upd H p (.tup (xs++ys))))
theorem zbq.nil_iff {xs:List V}{us:List Value}(r:zbq xs us):us=[]↔xs=[]:=by
 cases r with
 | nil=>simp
 | cons _ _=>simp
theorem zzc:OpR X (binaryOp .Add) (z1r X.K):=by
 intro pins s σ H x y v u Q I rx ry h
 obtain ⟨a,b,xs,ys,rfl,rfl,ha,hb,hx,hz,q1,q2⟩:=h
 cases rx
 cases ry
 obtain ⟨its,r1,p1,_⟩:=I.tuple ha
 obtain ⟨c,r2,p2,_⟩:=I.tuple hb
 refine HT.cat_tup p1 p2 (fun z=>hx (r1.nil_iff.mp z)) (fun z=>⟨.ref a,H,I,rfl,q1 (r2.nil_iff.mp z)⟩) (fun z=>?_) (by rw [<- r1.length,<- r2.length]; exact hz)
 refine ⟨.ref s.heap.objs.size,_,I.laid (t':=s.toks) (o:= .tup (xs++ys)) (fun b ob q=>Heap.get?_push_of_some _ q) (gf _) ?_,rfl,q2 (fun w=>z (r2.nil_iff.mpr w)) _ (I.hok.fresh (gf _))⟩
 exact ⟨by rw [fm]; exact hz,_,r1.append r2,IsTup.new _ _⟩
end
def ixN (n:Nat)(i:Int):Option Nat:=if 0<=i then (if i<n then some i.toNat else none) else if -(n:Int)<=i then some (i+n).toNat else none
def atI {α:Type}(xs:List α)(i:Int):Option α:=(ixN xs.length i).bind fun j=>xs[j]?
theorem zx3 {n:Nat}{i:Int}{j:Nat}(h:ixN n i=some j):seqIndex? i n=some j/\j<n/\ -(n:Int)<=i/\i<n:=by
 unfold ixN at h
 by_cases h0:0<=i
 ·rw [if_pos h0] at h
  by_cases h1:i<n
  ·rw [if_pos h1] at h
   have e:i.toNat=j:=Option.some.inj h
   exact ⟨by rw [seqIndex_of h0 h1,e],by omega,by omega,h1⟩
  ·rw [if_neg h1] at h; cases h
 ·rw [if_neg h0] at h
  by_cases h1 : -(n:Int)<=i
  ·rw [if_pos h1] at h
   have e:(i+n).toNat=j:=Option.some.inj h
   exact ⟨by rw [seqIndex_neg (by omega) h1,e],by omega,h1,by omega⟩
  ·rw [if_neg h1] at h; cases h
theorem zse {α:Type}{xs:List α}{i:Int}{v:α}(h:atI xs i=some v):∃ j,seqIndex? i xs.length=some j/\xs[j]? = some v/\j<xs.length/\ -(xs.length:Int)<=i/\i<xs.length:=by
 unfold atI at h
 cases e:ixN xs.length i with
 | none=>rw [e] at h; cases h
 | some j =>
  rw [e] at h
  obtain ⟨h1,h2,h3,h4⟩:=zx3 e
  exact ⟨j,h1,h,h2,h3,h4⟩
theorem zlo {α:Type}{xs:List α}{j:Nat}{v:α}(h:xs[j]? = some v):atI xs (j:Int)=some v:=by
 have hj:j<xs.length:=(List.getElem?_eq_some_iff.mp h).1
 have e:ixN xs.length (j:Int)=some j:=by
  unfold ixN
  rw [if_pos (by omega),if_pos (by omega)]; simp
 unfold atI; rw [e]; exact h
def zza (b:Expr):Prop:=∀ o i,subscripted b false o i=operate [o,i] (getItem o i)
def IxR (X:Cx)(r:R2):Prop :=
 ∀ (value slice:Expr) (pins:List (Addr × Obj)) (s:Shared) (σ:St) (H:Hp) (x y:V) (v u:Value) (Q:VK),Inv X pins σ H s->zbp x v->zbp y u->r x y H Q ->
  subscripted slice false v u=operate [v,u] (getItem v u)->wpAny (model X.prog X.w) X.A (subscriptTail value slice v u) (EP X pins σ Q) X.xe s
def MtR (X:Cx)(id:String)(r:V->List V->Hp->VK->Prop):Prop :=
 ∀ (pins:List (Addr × Obj)) (s:Shared) (σ:St) (H:Hp) (x:V) (xs:List V) (v:Value) (us:List Value) (Q:VK),Inv X pins σ H s->zbp x v->zbq xs us->r x xs H Q ->
  wpAny (model X.prog X.w) X.A (call (.builtin id) (v :: us)) (EP X pins σ Q) X.xe s
section
variable {X:Cx} {a b:Expr} {ta tb:TE} {pos:Pos}
theorem zfw {r:R2}(hr:IxR X r)(ha:PE X a ta)(hb:PE X b tb)(hs:zza b):PE X (.Subscript a b pos) (tOp r ta tb):=by
 intro pins s σ H Q I h
 exact Subscript_ (z2t ha hb I h fun v u s2 x y H2 I2 rx ry q=>hr a b pins s2 σ H2 x y v u Q I2 rx ry q (hs _ _))
def z3s (K:W.Frag):R2:=fun x y H Q=>∃ p xs i v,x = .ref p/\y = .int i/\SqL K H p xs/\atI xs i=some v/\Q v H
def z3t (K:W.Frag):R2:=fun x y H Q=>∃ p xs i v,x = .ref p/\y = .int i/\SqT K H p xs/\atI xs i=some v/\Q v H
theorem zey:IxR X (z3s X.K):=by
 intro value b pins s σ H x y v u Q I rx ry h hs
 obtain ⟨p,xs,i,z,rfl,rfl,hq,he,q⟩:=h
 cases rx
 obtain ⟨t,rfl⟩:=ry
 obtain ⟨its,r,pl,hz⟩:=I.list hq
 obtain ⟨j,h1,h2,h3,h4,h5⟩:=zse he
 obtain ⟨w,ew,c⟩:=r.get h2
 have hl:=r.length
 have hn:=zs4
 have a:EP X pins σ Q w s:=⟨z,H,I,c,q⟩
 by_cases h0:0<=i
 ·have hj:i.toNat=j:=by
   rw [seqIndex_of h0 h5] at h1
   exact Option.some.inj h1
  exact item_listR pl.isList h0 (by omega) (by rw [hj]; simpa using ew) a hs
 ·have hj:(i+(its.toArray.size:Int)).toNat=j:=by
   rw [seqIndex_neg (by omega) h4] at h1
   rw [fw,<- hl]
   exact Option.some.inj h1
  exact subscriptTail_builtinR (x:=w) pl.isList.typeIs slot_list_getitem.lookup
   (wpAny_getItem_list_neg (Q:=fun r s'=>r=w/\EP X pins σ Q r s') pl.isList (by omega) (by rw [fw] <;> omega) (by omega) (by rw [hj]; simpa using ew) ⟨rfl,a⟩) hs
theorem zjv:IxR X (z3t X.K):=by
 intro value b pins s σ H x y v u Q I rx ry h hs
 obtain ⟨p,xs,i,z,rfl,rfl,hq,he,q⟩:=h
 cases rx
 obtain ⟨t,rfl⟩:=ry
 obtain ⟨its,r,pl,hz⟩:=I.tuple hq
 obtain ⟨j,h1,h2,h3,h4,h5⟩:=zse he
 obtain ⟨w,ew,c⟩:=r.get h2
 have hl:=r.length
 have hn:=zs4
 have a:EP X pins σ Q w s:=⟨z,H,I,c,q⟩
 exact subscriptTail_builtinR (x:=w) pl.typeIs slot_tuple_getitem.lookup
  (getItem_tuple (j:=j) (Q:=fun r s'=>r=w/\EP X pins σ Q r s') pl (by omega) (by omega) (by rw [fw,<- hl]; exact h1) (by simpa using ew) ⟨rfl,a⟩) hs
theorem znw (lo hi:Option Int)(n:Nat):(sliceBounds lo hi none n).1=((HT.sIx n 0 lo:Nat):Int)/\(sliceBounds lo hi none n).2.1=((HT.sIx n n hi:Nat):Int)/\(sliceBounds lo hi none n).2.2=1:=by
 refine ⟨?_,?_,rfl⟩
 ·cases lo with
  | none=>simp [sliceBounds,HT.sIx]
  | some i =>
   simp only [sliceBounds,HT.sIx,n8,show (1:Int) > 0 by decide,if_true]
   by_cases h:i<0
   ·simp only [h,if_true] <;> omega
   ·simp only [h,if_false] <;> omega
 ·cases hi with
  | none=>simp [sliceBounds,HT.sIx]
  | some i =>
   simp only [sliceBounds,HT.sIx,n8,show (1:Int) > 0 by decide,if_true]
   by_cases h:i<0
   ·simp only [h,if_true] <;> omega
   ·simp only [h,if_false] <;> omega
theorem zl5 (its:List Value)(lo hi:Option Int):slicePick its.toArray lo hi none=((its.drop (HT.sIx its.length 0 lo)).take (HT.sIx its.length its.length hi - HT.sIx its.length 0 lo)).toArray:=by
 obtain ⟨h1,h2,h3⟩:=znw lo hi its.toArray.size
 unfold slicePick
 rw [h1,h2,h3]
 simp only [sliceRange_one,pick_run,fw] <;> rfl
def z32 (K:W.Frag):V->Option Int->Option Int->Hp->VK->Prop:=fun x lo hi H Q=>∃ a xs,x = .ref a/\SqL K H a xs/\∀ p,H p=none->Q (.ref p) (upd H p (.lst (zj8 xs lo hi)))
theorem zeb:SlR X (z32 X.K):=by
 intro pins s σ H x v vl vu lo hi sl Q I rx hs pl pu h
 obtain ⟨a,xs,rfl,hx,q⟩:=h
 cases rx
 obtain ⟨its,r,ht,hz⟩:=I.list hx
 have c:=r.length
 refine ⟨"list",_,slot_list_getitem.lookup,ht.isList.typeIs,?_⟩
 refine wpAny_getItem_list_slice ht.isList hs pl pu .none (by simp) ?_ (by rw [fw] <;> omega)
 rw [zl5,<- c]
 refine ⟨.ref s.heap.objs.size,_,I.laid (t':=s.toks) (o:= .lst (zj8 xs lo hi)) (fun b ob q=>Heap.get?_push_of_some _ q) (gf _) ?_,rfl,q _ (I.hok.fresh (gf _))⟩
 exact ⟨gm (zor xs lo hi) hz,_,0,(r.drop (HT.sIx xs.length 0 lo)).take (HT.sIx xs.length xs.length hi - HT.sIx xs.length 0 lo),Heap.get?_push_size _ rfl⟩
def zlz:V->Bool
 | .non=>true
 | .bl _=>true
 | .int _=>true
 | .str _=>true
 | _=>false
def eqV:V->V->Bool
 | .non,.non=>true
 | .bl a,.bl b=>a == b
 | .bl a,.int b=>(if a then 1 else 0) == b
 | .int a,.bl b=>a == (if b then 1 else 0)
 | .int a,.int b=>a == b
 | .str a,.str b=>a == b
 | _,_=>false
theorem z1a {A:Around}{s:Shared}{y x:V}{u v:Value}(ry:zbp y u)(rx:zbp x v)(fy:zlz y=true)(fx:zlz x=true):SeqAt.EqAt A s u v (eqV y x):=by
 cases y with
 | non =>
  cases ry
  cases x with
  | non=>cases rx; exact SeqAt.EqAt.same _
  | bl b=>cases rx; exact SeqAt.EqAt.none_bool b
  | int b=>obtain ⟨t,rfl⟩:=rx; exact SeqAt.EqAt.none_int b t
  | str b=>obtain ⟨t,rfl⟩:=rx; exact SeqAt.EqAt.none_str b t
  | _=>exact fT fx
 | bl a =>
  cases ry
  cases x with
  | non=>cases rx; exact SeqAt.EqAt.bool_none a
  | bl b=>cases rx; exact SeqAt.EqAt.bool_bool a b
  | int b=>obtain ⟨t,rfl⟩:=rx; exact SeqAt.EqAt.bool_int a b t
  | str b=>obtain ⟨t,rfl⟩:=rx; exact SeqAt.EqAt.bool_str a b t
  | _=>exact fT fx
 | int a =>
  obtain ⟨t',rfl⟩:=ry
  cases x with
  | non=>cases rx; exact SeqAt.EqAt.int_none a t'
  | bl b=>cases rx; exact SeqAt.EqAt.int_bool a t' b
  | int b=>obtain ⟨t,rfl⟩:=rx; exact SeqAt.EqAt.int_int a t' b t
  | str b=>obtain ⟨t,rfl⟩:=rx; exact SeqAt.EqAt.int_str a t' b t
  | _=>exact fT fx
 | str a =>
  obtain ⟨t',rfl⟩:=ry
  cases x with
  | non=>cases rx; exact SeqAt.EqAt.str_none a t'
  | bl b=>cases rx; exact SeqAt.EqAt.str_bool a t' b
  | int b=>obtain ⟨t,rfl⟩:=rx; exact SeqAt.EqAt.str_int a t' b t
  | str b=>obtain ⟨t,rfl⟩:=rx; exact SeqAt.EqAt.str_str a t' b t
  | _=>exact fT fx
 | _=>exact fT fy
def eqU (x:V)(u:Value):Bool:=match u with
 | .none=>eqV .non x
 | .bool b=>eqV (.bl b) x
 | .int i _=>eqV (.int i) x
 | .str z _=>eqV (.str z) x
 | _=>false
theorem zw1 {x y:V}{u:Value}(r:zbp y u)(f:zlz y=true):eqU x u=eqV y x:=by
 cases y with
 | non=>cases r; rfl
 | bl b=>cases r; rfl
 | int i=>obtain ⟨t,rfl⟩:=r; rfl
 | str z=>obtain ⟨t,rfl⟩:=r; rfl
 | _=>exact fT f
theorem zjg {x:V}:∀ {xs:List V} {us:List Value},zbq xs us->xs.all zlz=true->us.any (eqU x)=xs.any fun y=>eqV y x
 | _,_,.nil,_=>rfl
 | y :: xs,u :: us,.cons r t,f=>by
  rw [ml,ik] at f
  rw [kn,kn,zw1 r f.1,zjg t f.2]
theorem zgm {A:Around}{s:Shared}{x:V}{v:Value}(rx:zbp x v)(fx:zlz x=true):∀ {xs:List V} {us:List Value},zbq xs us->xs.all zlz=true->∀ u∈us,SeqAt.EqAt A s u v (eqU x u)
 | _,_,.nil,_=>fun u hu=>by cases hu
 | y :: xs,u :: us,.cons r t,f=>fun u' hu=>by
  rw [ml,ik] at f
  rcases gs.mp hu with rfl | hu
  ·rw [zw1 r f.1]; exact z1a r rx f.1 fx
  ·exact zgm rx fx t f.2 u' hu
def inV (x:V)(xs:List V):Bool:=xs.any fun y=>eqV y x
def rIn (K:W.Frag)(neg:Bool):R2:=fun x y H Q=>∃ p xs,y = .ref p/\(SqL K H p xs\/SqT K H p xs)/\zlz x=true/\xs.all zlz=true/\Q (.bl (if neg then !inV x xs else inV x xs)) H
theorem zns:OpR X (compareOp .In) (rIn X.K false):=by
 intro pins s σ H x y v u Q I rx ry h
 obtain ⟨p,xs,rfl,hq,fx,fs,q⟩:=h
 cases ry
 rcases hq with hq | hq
 ·obtain ⟨its,r,pl,hz⟩:=I.list hq
  refine SeqAt.in_listAt (eqU x) pl.isList (fun w hw=>zgm rx fx r fs w (by simpa using hw)) ⟨.bl _,H,I,rfl,?_⟩
  rw [show its.toArray.any (eqU x)=its.any (eqU x) by simp,zjg r fs]
  exact q
 ·obtain ⟨its,r,pl,hz⟩:=I.tuple hq
  refine SeqAt.in_tupleAt (eqU x) pl (fun w hw=>zgm rx fx r fs w (by simpa using hw)) ⟨.bl _,H,I,rfl,?_⟩
  rw [show its.toArray.any (eqU x)=its.any (eqU x) by simp,zjg r fs]
  exact q
theorem zfg:OpR X (compareOp .NotIn) (rIn X.K true):=by
 intro pins s σ H x y v u Q I rx ry h
 obtain ⟨p,xs,rfl,hq,fx,fs,q⟩:=h
 cases ry
 rcases hq with hq | hq
 ·obtain ⟨its,r,pl,hz⟩:=I.list hq
  refine SeqAt.notIn_listAt (eqU x) pl.isList (fun w hw=>zgm rx fx r fs w (by simpa using hw)) ⟨.bl _,H,I,rfl,?_⟩
  rw [show its.toArray.any (eqU x)=its.any (eqU x) by simp,zjg r fs]
  exact q
 ·obtain ⟨its,r,pl,hz⟩:=I.tuple hq
  refine SeqAt.notIn_tupleAt (eqU x) pl (fun w hw=>zgm rx fx r fs w (by simpa using hw)) ⟨.bl _,H,I,rfl,?_⟩
  rw [show its.toArray.any (eqU x)=its.any (eqU x) by simp,zjg r fs]
  exact q
theorem zbz:zhf X (.builtin "len") (fun xs H Q=>∃ p ys,xs=[.ref p]/\(SqL X.K H p ys\/SqT X.K H p ys)/\Q (.int ys.length) H):=by
 intro pins s σ H xs us Q I r h
 obtain ⟨p,ys,rfl,hq,q⟩:=h
 obtain ⟨u,rfl,rx⟩:=zf8 r
 cases rx
 have hn:=zs4
 rcases hq with hq | hq
 ·obtain ⟨its,r',pl,hz⟩:=I.list hq
  have a:=r'.length
  exact Calls.call_len_list pl.isList (by simp only [fw] <;> omega) ⟨.int ys.length,H,I.tok _,⟨s.toks+1,by rw [fw,a]⟩,q⟩
 ·obtain ⟨its,r',pl,hz⟩:=I.tuple hq
  have a:=r'.length
  exact len_tuple pl (by simp only [fw] <;> omega) ⟨.int ys.length,H,I.tok _,⟨s.toks+1,by rw [fw,a]⟩,q⟩
theorem zhl:zhf X (.type "list") (fun xs H Q=>∃ p ys,xs=[.ref p]/\(SqL X.K H p ys\/SqT X.K H p ys)/\∀ l,H l=none->Q (.ref l) (upd H l (.lst ys))):=by
 intro pins s σ H xs us Q I r h
 obtain ⟨p,ys,rfl,hq,q⟩:=h
 obtain ⟨u,rfl,rx⟩:=zf8 r
 cases rx
 have a:∀ (its:List Value),zbq ys its->ys.length<=sizeLine->∀ (h':Heap) (c':Nat),(∀ b o',s.heap.get? b=some o'->h'.get? b=some o') ->
   h'.get? s.heap.objs.size=some { cls:= .type "list",dict:=none,data:= .seq its.toArray c',slots:= #[] }->EP X pins σ Q (.ref s.heap.objs.size) { s with heap:=h' }:=fun its r' hz h' c' kp e =>
  ⟨.ref s.heap.objs.size,_,I.laid (t':=s.toks) kp (gf _) (show zca X.prog X.w _ h' _ (.lst ys) from ⟨hz,its,c',r',e⟩),rfl,q _ (I.hok.fresh (gf _))⟩
 rcases hq with hq | hq
 ·obtain ⟨its,r',pl,hz⟩:=I.list hq
  have c:=r'.length
  obtain ⟨o,ho,hc,n,hd⟩:=pl.isList
  exact call_list_seq p (.inl rfl) ho hc hd (fun h' c' kp e=>a its r' hz h' c' kp e) (by simp only [fw] <;> omega)
 ·obtain ⟨its,r',pl,hz⟩:=I.tuple hq
  have c:=r'.length
  obtain ⟨o,ho,hc,n,hd⟩:=pl
  exact call_list_seq p (.inr rfl) ho hc hd (fun h' c' kp e=>a its r' hz h' c' kp e) (by simp only [fw] <;> omega)
def tyV (K:W.Frag)(T:String)(x:V)(H:Hp):Prop:=match x with
 | .str _=>T = "str"
 | .int _=>T = "int"
 | .ref p=>(T = "list" /\∃ xs,SqL K H p xs)\/(T = "tuple" /\∃ o,K.lookup p=some o/\o.cls = .type "tuple" /\o.dict=none) \/
   (T = "dict" /\((∃ kvs,H p=some (.dK kvs))\/∃ kvs,H p=some (.dT kvs)))\/(T = "set" /\∃ S n,H p=some (.set S n))
 | _=>False
theorem zxb {pins:List (Addr × Obj)}{σ:St}{H:Hp}{s:Shared}{T:String}{x:V}{v:Value}(I:Inv X pins σ H s)(r:zbp x v)(ty:tyV X.K T x H) :
  s.TypeIs v T/\∀ a,v = .ref a->∃ ob,s.heap.get? a=some ob/\ob.dict=none:=by
 cases x with
 | str z =>
  obtain ⟨t,rfl⟩:=r
  cases (show T = "str" from ty)
  exact ⟨typeIs_str s z t,fun _ e=>nomatch e⟩
 | int i =>
  obtain ⟨t,rfl⟩:=r
  cases (show T = "int" from ty)
  exact ⟨typeIs_int s i t,fun _ e=>nomatch e⟩
 | ref p =>
  cases r
  rcases ty with ⟨rfl,xs,hq⟩ | ⟨rfl,o,hk,hc,hd⟩ | ⟨rfl,hk⟩ | ⟨rfl,S,n,hk⟩
  ·obtain ⟨its,_,pl,_⟩:=I.list hq
   refine ⟨pl.isList.typeIs,fun a e=>?_⟩
   cases e
   obtain ⟨o,n,e,c,hd,_⟩:=pl
   exact ⟨o,e,hd⟩
  ·refine ⟨⟨o,I.kIn p o hk,hc⟩,fun a e=>?_⟩
   cases e
   exact ⟨o,I.kIn _ o hk,hd⟩
  ·have z:∃ o,s.heap.get? p=some o/\o.ExactDict:=by
    rcases hk with ⟨kvs,hk⟩ | ⟨kvs,hk⟩
    ·obtain ⟨_,_,_,_,o,_,_,e,ex,_⟩:=I.hok p _ hk
     exact ⟨o,e,ex⟩
    ·obtain ⟨_,_,_,_,o,_,_,e,ex,_⟩:=I.hok p _ hk
     exact ⟨o,e,ex⟩
   obtain ⟨o,e,ex⟩:=z
   refine ⟨⟨o,e,ex.1⟩,fun a e2=>?_⟩
   cases e2
   exact ⟨o,e,ex.2.1⟩
  ·obtain ⟨o,_,_,_,e,ex,_⟩:=I.hok p _ hk
   refine ⟨⟨o,e,ex.1⟩,fun a e2=>?_⟩
   cases e2
   exact ⟨o,e,ex.2.1⟩
 | _=>exact False.elim ty
def z3g (K:W.Frag)(T:String)(r:V->List V->Hp->VK->Prop)(to:TE):TE:=fun σ H Q=>to σ H fun x H1=>tyV K T x H1/\r x [] H1 Q
def tBM (K:W.Frag)(T:String)(r:V->List V->Hp->VK->Prop)(to:TE)(t:TA):TE:=fun σ H Q=>to σ H fun x H1=>tyV K T x H1/\t σ H1 fun xs H2=>r x xs H2 Q
variable {o e:Expr} {es:List Expr} {to:TE} {t:TA} {name:Str} {apos cpos:Pos} {T id:String} {r:V->List V->Hp->VK->Prop}
theorem ztd (pa:PlainAttrs T)(slot:Slot T name id)(hty:typeOf (.builtin id)=pure (.type "method_descriptor"))(hm:MtR X id r)(ho:PE X o to)
  (hbase:attributeBase o name X.env (eval o X.env)=eval o X.env:=by rfl)(hline:(apos.endLine == cpos.line)=true:=by rfl):PE X (.Call (.Attribute o name apos) [] [] cpos) (z3g X.K T r to):=by
 intro pins s σ H Q I h
 refine wpAny_Call_method0_late hbase hline (thn (ho pins s σ H _ I h) fun v s1 ⟨x,H1,I1,r1,ty,q1⟩=>?_)
 obtain ⟨h1,h2⟩:=zxb I1 r1 ty
 exact ⟨T,id,pa,slot,hty,h1,h2,Calls.callWith_builtin rfl (PySem.evalArgs_none (hm pins s1 σ H1 x [] v [] Q I1 r1 .nil q1))⟩
theorem zot (pa:PlainAttrs T)(slot:Slot T name id)(hty:typeOf (.builtin id)=pure (.type "method_descriptor"))(hm:MtR X id r)(ho:PE X o to)(ha:PA X (e :: es) t)
  (hbase:attributeBase o name X.env (eval o X.env)=eval o X.env:=by rfl)
  (hfew:((backTo cpos (starEach (e :: es) X.env)).all (fun x=> !x.1) && (backToKw cpos (keywordEach [] X.env)).all (fun x=>x.1.isSome)
   && decide ((e :: es).length+([]:List Keyword).length+(if ([]:List Keyword).isEmpty then 0 else 1)<30))=true:=by rfl)
  (hline:(apos.endLine == cpos.line)=true:=by rfl)(hs:starEach (e :: es) X.env=(false,eval e X.env) :: starEach es X.env:=by rfl)(hplain:(backTo cpos (starEach es X.env)).any (·.1)=false:=by rfl) :
  PE X (.Call (.Attribute o name apos) (e :: es) [] cpos) (tBM X.K T r to t):=by
 intro pins s σ H Q I h
 refine wpAny_Call_method_late hbase hfew hline rfl (thn (ho pins s σ H _ I h) fun v s1 ⟨x,H1,I1,r1,ty,q1⟩=>?_)
 obtain ⟨h1,h2⟩:=zxb I1 r1 ty
 refine ⟨T,id,pa,slot,hty,h1,h2,?_⟩
 have hA:=ha cpos pins s1 σ H1 _ I1 q1
 rw [hs] at hA |-
 refine Calls.callWith_builtin (by show (false || (backTo cpos (starEach es X.env)).any (·.1))=false; rw [hplain] <;> rfl) (Calls.evalArgs_plain ?_)
 exact thn hA fun us s2 ⟨vs,H2,I2,r2,q2⟩=>hm pins s2 σ H2 x vs v us Q I2 r1 r2 q2
end
def MtM (X:Cx)(id:String)(r:V->List V->Hp->VK->Prop):Prop :=
 ∀ (pins:List (Addr × Obj)) (s:Shared) (σ:St) (H:Hp) (x:V) (xs:List V) (v:Value) (us:List Value) (Q:VK),Inv X pins σ H s->zbp x v->zbq xs us->r x xs H Q ->
  wpAny (model X.prog X.w) X.A (call (.builtin id) (v :: us)) (EP X pins σ Q) X.xe s
theorem zbq.one:∀ {x:V} {us:List Value},zbq [x] us->∃ u,us=[u]/\zbp x u
 | _,_,.cons r .nil=>⟨_,rfl,r⟩
theorem zbq.zero:∀ {us:List Value},zbq [] us->us=[]
 | _,.nil=>rfl
theorem zbq.dropLast {xs:List V}{us:List Value}(h:zbq xs us):zbq xs.dropLast us.dropLast:=by
 induction h with
 | nil=>exact .nil
 | cons r t ih =>
  cases t with
  | nil=>exact .nil
  | cons q t'=>exact .cons r ih
theorem zbq.eraseIdx:∀ {xs:List V} {us:List Value} (i:Nat),zbq xs us->zbq (xs.eraseIdx i) (us.eraseIdx i)
 | _,_,_,.nil=> .nil
 | _,_,0,.cons _ t=>t
 | _,_,i+1,.cons r t=> .cons r (zbq.eraseIdx i t)
theorem zqt {α:Type}(l:List α):l.eraseIdx (l.length - 1)=l.dropLast:=by
 induction l with
 | nil=>rfl
 | cons a r ih =>
  cases r with
  | nil=>rfl
  | cons b r =>
   have e:(a :: b :: r).length - 1=((b :: r).length - 1)+1:=by
    have h1:(a :: b :: r).length=r.length+2:=rfl
    have h2:(b :: r).length=r.length+1:=rfl
    omega
   rw [e,List.eraseIdx_cons_succ,ih]
   all_goals rfl
section
variable {X:Cx} {pins:List (Addr × Obj)} {σ:St} {H:Hp} {s:Shared} {l:Addr} {xs ys:List V}
theorem Inv.lset {its its':List Value}{n:Nat}{f:Array Value->Array Value}{t':Nat}(I:Inv X pins σ H s)(hH:H l=some (.lst xs))
  (e:s.heap.get? l=some { cls:= .type "list",data:= .seq its.toArray n })(hf:f its.toArray=its'.toArray)(hv:zbq ys its')(hz:ys.length<=sizeLine) :
  Inv X pins σ (upd H l (.lst ys)) { s with heap:=s.heap.update l (Obj.mapSeq f),toks:=t' }:=by
 have q:=PySem.IsL.update e f
 rw [hf] at q
 refine I.write (x:=l) (e:=l) (by rw [hH]; exact trivial) (.inl rfl) (fun b' u hb hu=>(Heap.get?_update_other s.heap (Obj.mapSeq f) (Ne.symm hb)).trans hu) ⟨_,q⟩ ?_
 exact ⟨hz,its',_,hv,q⟩
theorem Inv.lnew {its:List Value}{t':Nat}(I:Inv X pins σ H s)(hv:zbq ys its)(hz:ys.length<=sizeLine) :
  Inv X pins σ (upd H s.heap.objs.size (.lst ys)) { s with heap:=s.heap.push { cls:= .type "list",data:= .seq its.toArray },toks:=t' } :=
 I.laid (fun _ _ q=>Heap.get?_push_of_some _ q) (gf _) ⟨hz,its,0,hv,Heap.get?_push_size _ rfl⟩
theorem Inv.fresh (I:Inv X pins σ H s):H s.heap.objs.size=none:=I.hok.fresh (gf _)
theorem Inv.lstM (I:Inv X pins σ H s)(hH:H l=some (.lst xs)):xs.length<=sizeLine/\∃ (its:List Value) (n:Nat),zbq xs its/\xs.length=its.length/\s.heap.get? l=some { cls:= .type "list",data:= .seq its.toArray n }:=by
 obtain ⟨z,its,n,r,e⟩:=I.hok l _ hH
 exact ⟨z,its,n,r,r.length,e⟩
theorem zvt {n:Nat}(h:n<=sizeLine):Builtin.List.listTooLong n=false:=by
 unfold Builtin.List.listTooLong
 exact decide_eq_false (by omega)
end
section
variable {X:Cx}
def zxm:V->List V->Hp->VK->Prop:=fun x vs H Q=>∃ l xs y,x = .ref l/\vs=[y]/\H l=some (.lst xs)/\xs.length<sizeLine/\Q .non (upd H l (.lst (xs++[y])))
theorem ze8:MtM X "list.append" zxm:=by
 intro pins s σ H x vs v us Q I rx rv h
 obtain ⟨l,xs,y,rfl,rfl,hH,hz,q⟩:=h
 cases rx
 obtain ⟨u,rfl,ru⟩:=rv.one
 obtain ⟨z,its,n,r,hl,e⟩:=I.lstM hH
 refine call_meets F.slot_list_append ⟨_,e,rfl⟩ F.entry_list_append (F.args_list_append_2 _ _) (PySem.list_append l its.toArray n u (by rw [fw]; omega)) ⟨e,?_⟩
 refine ⟨.non,_,I.lset (its':=its++[u]) hH e (by simp) (r.append (.cons ru .nil)) ?_,rfl,q⟩
 rw [fm,fu]
 omega
def zxw:V->List V->Hp->VK->Prop:=fun x vs H Q=>∃ l b xs zs,x = .ref l/\vs=[.ref b]/\H l=some (.lst xs)/\H b=some (.lst zs)/\xs.length+zs.length<=sizeLine/\Q .non (upd H l (.lst (xs++zs)))
theorem zt8:MtM X "list.extend" zxw:=by
 intro pins s σ H x vs v us Q I rx rv h
 obtain ⟨l,b,xs,zs,rfl,rfl,hH,hB,hz,q⟩:=h
 cases rx
 obtain ⟨u,rfl,ru⟩:=rv.one
 cases ru
 obtain ⟨z,its,n,r,hl,e⟩:=I.lstM hH
 obtain ⟨z2,a,n2,r2,d,e2⟩:=I.lstM hB
 have hsz:its.toArray.size+a.toArray.size<=sizeLine:=by rw [fw,fw]; omega
 have c:¬ (!its.toArray.isEmpty && Builtin.List.listTooLong (its.toArray.size+a.toArray.size))=true:=by
  rw [zvt hsz,Bool.and_false]
  exact Bool.false_ne_true
 refine call_meets F.slot_list_extend ⟨_,e,rfl⟩ F.entry_list_extend (F.args_list_extend_2 _ _)
  (AutoSeq1.list_extend_list_list_0 l its.toArray n b a.toArray n2 c (by rw [fw]; omega) (by omega)) ⟨e,e2,?_⟩
 refine ⟨.non,_,I.lset (its':=its++a) hH e (by simp) (r.append r2) ?_,rfl,q⟩
 rw [fm]
 omega
def z4d:V->List V->Hp->VK->Prop:=fun x vs H Q=>∃ l xs y,x = .ref l/\vs=[]/\H l=some (.lst xs)/\xs[xs.length - 1]? = some y/\Q y (upd H l (.lst xs.dropLast))
theorem z09:MtM X "list.pop" z4d:=by
 intro pins s σ H x vs v us Q I rx rv h
 obtain ⟨l,xs,y,rfl,rfl,hH,hy,q⟩:=h
 cases rx
 have a:=rv.zero
 subst a
 obtain ⟨z,its,n,r,hl,e⟩:=I.lstM hH
 obtain ⟨u,hu,ru⟩:=r.get hy
 have b:its.toArray[its.toArray.size - 1]? = some u:=by
  show its.toArray[its.length - 1]? = some u
  rw [<- Array.getElem?_toList,<- hl]
  exact hu
 refine call_meets F.slot_list_pop ⟨_,e,rfl⟩ F.entry_list_pop (F.args_list_pop_1 _) (MeetsSeq.list_pop_last l its.toArray n u b (by rw [fw]; omega)) ⟨e,?_⟩
 refine ⟨y,_,I.lset (its':=its.dropLast) hH e ?_ r.dropLast ?_,ru,q⟩
 ·show its.toArray.eraseIdxIfInBounds (its.toArray.size - 1)=its.dropLast.toArray
  rw [fw,List.eraseIdxIfInBounds_toArray,zqt]
 ·rw [List.length_dropLast]
  omega
def z0_:V->List V->Hp->VK->Prop:=fun x vs H Q=>∃ l xs,x = .ref l/\vs=[]/\H l=some (.lst xs)/\Q .non (upd H l (.lst []))
theorem zvm:MtM X "list.clear" z0_:=by
 intro pins s σ H x vs v us Q I rx rv h
 obtain ⟨l,xs,rfl,rfl,hH,q⟩:=h
 cases rx
 have a:=rv.zero
 subst a
 obtain ⟨z,its,n,r,hl,e⟩:=I.lstM hH
 refine call_meets F.slot_list_clear ⟨_,e,rfl⟩ F.entry_list_clear (F.args_list_clear_1 _) (AutoSeq1.list_clear_list_0 l its.toArray n (by rw [fw]; omega)) ⟨e,?_⟩
 exact ⟨.non,_,I.lset (its':=[]) (ys:=[]) hH e rfl .nil (i9 _),rfl,q⟩
def z4f:R2:=fun x y H Q=>∃ l b xs zs,x = .ref l/\y = .ref b/\H l=some (.lst xs)/\H b=some (.lst zs)/\xs.length+zs.length<=sizeLine/\∀ p,H p=none->Q (.ref p) (upd H p (.lst (xs++zs)))
theorem zjo:OpR X (binaryOp .Add) z4f:=by
 intro pins s σ H x y v u Q I rx ry h
 obtain ⟨l,b,xs,zs,rfl,rfl,hH,hB,hz,q⟩:=h
 cases rx
 cases ry
 obtain ⟨z,its,n,r,hl,e⟩:=I.lstM hH
 obtain ⟨z2,a,n2,r2,c,e2⟩:=I.lstM hB
 refine PySem.P.add_list e e2 ?_ (by rw [fw,fw]; omega)
 have ea:its.toArray++a.toArray=(its++a).toArray:=by simp
 rw [ea]
 exact ⟨.ref _,_,I.lnew (t':=s.toks) (r.append r2) (by rw [fm]; omega),rfl,q _ I.fresh⟩
end
section
set_option maxRecDepth 100000 in
end
end L2
namespace Att
open PySem PySem.W PySem.Calls PyProof.Rows
theorem zjt {P:Params}{h:Heap}:∀ (ns:List Int) (vs:List Value),WellAll P h vs (ns.map WData.int)->IntsAre vs ns:=by
 intro ns
 induction ns with
 | nil =>
  intro vs w
  rw [mk] at w
  cases w
  exact .nil
 | cons n ns ih =>
  intro vs w
  rw [gz] at w
  cases w with
  | cons a b =>
   cases a
   exact .cons _ _ (ih _ b)
theorem zrs {l:OpenLaw}{n:Nat}(hn:l.most=some n){P:Params}{h:Heap}{args:List WData}{vals:List Value}
  (hpre:l.row.toRowW.claim.pre args=true)(hwl:WellAll P h vals args) :
  ∃ a vs ns,vals=[Value.ref a]/\args=[WData.list (ns.map WData.int)]/\h.get? a=some { cls:= .type "list",data:= .seq vs.toArray }/\IntsAre vs ns/\ns.length<=n:=by
 have c:WShape.hasAll [] args [.list .int]=true:=(pre_splitW hpre).1
 have hc:l.pre.holds [] { args:=args }=true:=(pre_splitW hpre).2
 obtain ⟨d,r,rfl,h1,h2⟩:=hasAllW_cons c
 obtain rfl:=hasAllW_nil h2
 obtain ⟨xs,rfl,h3⟩:=hasW_list h1
 obtain ⟨ns,rfl⟩:=items_int h3
 have b:ns.length<=n:=by
  unfold OpenLaw.pre at hc
  have h4:(WTm.not (.lt (.lit (.int (n:Int))) (.len (.arg 0)))).holds [] { args:=[.list (ns.map .int)] }=true:=by
   have h4:=(holds_andW hc).1
   rw [hn] at h4
   exact h4
  have h5:=condW_of h4 (w_not (w_lt w_lit (w_len_list (w_arg rfl))))
  rw [fj] at h5
  refine Nat.le_of_not_lt fun q=>?_
  have q':(n:Int)<((ns.length:Nat):Int):=by omega
  first
   | (rw [decide_eq_true q'] at h5; exact absurd h5 (by decide))
   | (simp at h5; omega)
 cases hwl with
 | cons w1 w2 =>
  cases w2
  cases w1 with
  | list ho hall=>exact ⟨_,_,ns,rfl,rfl,ho,zjt ns _ hall,b⟩
theorem zrt (l:OpenLaw)(args:List WData):l.row.toRowW.claim.post args (.bool true) args=true :=
 postW_of (r:=l.row.toRowW) (X:=(true == true))
  (show WShape.has [] (.bool true) .bool=true by first | rfl | decide | simp [WShape.has,WShape.arms,WShape.armsAll])
  (show (WTm.eq .res (.lit (.bool true))).value [] { args:=args,res:=some (.bool true),after:=args }=some (.bool (true == true)) from w_eq_bool (w_res rfl) w_lit) rfl
theorem attach_call {l:OpenLaw}{n:Nat}{q:Program}{loose:List Str}{XP:(Str->Option Value)->Heap->Prop}{YP:World->Heap->Prop}{d:DefRec}
  (hn:l.most=some n)(hdf:d.params.defaults=[])
  (call:∀ (w:World) (s₀ s₁:Shared) (mg mb:Str->Option Value) (fa:Addr) (o:Obj) (pm cd doc:Value) (a:Addr) (vs:List Value) (ns:List Int),
   Ground q loose [] XP w s₀ mg mb s₁.heap->YP w s₁.heap ->
   s₁.heap.get? fa=some o->o.data = .func (docDef d.name d.params d.body d.scope pm cd doc)->s₁.heap.CodeRec cd d.name->mg d.name=some (.ref fa) ->
   s₁.heap.get? a=some { cls:= .type "list",data:= .seq vs.toArray }->IntsAre vs ns->ns.length<=n->s₁.gens = #[] ->
   codeAny (model l.prog w) callerA (.call (.ref fa) ⟨[.ref a],[]⟩) (fun r s'=>r = .ok (.ret (.bool true))/\OldK s₁.heap s'.heap/\s'.os=s₁.os/\AllBare s'.gens) s₁) :
  WalkO q loose XP YP l.row.toRowW d [] (fun f vs=>PySem.call f vs):=by
 intro w s₀ s₁ mg mb G Y fa o pm cd doc dV kV ho hd i hD h hg args p as g m s j t
 obtain rfl:dV = .none:=Dflts.none hD hdf
 obtain rfl:kV = .none:=Dflts.noKw hD
 obtain ⟨a,vs,ns,rfl,rfl,e,b,c⟩:=zrs hn g j
 refine enter_call (codeAny_mono (call w s₀ s₁ mg mb fa o pm cd doc a vs ns G Y ho (fd_plain hd) i h e b c hg) fun r s' hq=>?_)
 obtain ⟨rfl,h2,h3,h4⟩:=hq
 exact ⟨.inl ⟨.bool true,.bool true,[],rfl,fun _=>rfl,.bool true,zrt l _,fun _=>⟨List.Pairwise.nil,fun _ hm=>(nomatch hm)⟩⟩,h2,h3,h4⟩
end Att
namespace L2
open PySem PySem.Spec PyProof.Rows
theorem zds:∀ {vs:List Value} {ns:List Int},IntsAre vs ns->zbq (ns.map V.int) vs
 | _,_,.nil=> .nil
 | _,_,.cons n t h=> .cons ⟨t,rfl⟩ (zds h)
def zaf (s:Stmt)(j:Nat):Stmt:=match s with
 | .ClassDef _ _ _ body _ _ _ _ _ _ _=>body.getD j (.Pass ⟨0,0,0,0⟩)
 | _=> .Pass ⟨0,0,0,0⟩
def zb6 (s:Stmt):Arguments:=match s with
 | .FunctionDef _ a _ _ _ _ _ _ _ _=>a
 | _=>{ posonlyargs:=[],args:=[],vararg:=none,kwonlyargs:=[],kw_defaults:=[],kwarg:=none,defaults:=[] }
def zbd (s:Stmt):List Stmt:=match s with
 | .FunctionDef _ _ b _ _ _ _ _ _ _=>b
 | _=>[]
def zai (s:Stmt):Scope:=match s with
 | .FunctionDef _ _ _ _ _ _ sc _ _ _=>sc
 | _=>{ kind:= .function,names:=[],isGenerator:=false,isCoroutine:=false }
abbrev CX0:CXT:=fun _ _ _ _ _ _=>False
abbrev E0:XK:=fun _ _ _=>False
theorem zb5 {X:Cx}:zhw CX0 X E0:=fun _ _ _ _ _ _ _ h=>h.elim
structure Fun (K:W.Frag)(x qual:Str)(st:Stmt)(f:Addr)(fd:FuncData):Prop where
 ex:∃ (oc:Value) (od:Option Addr) (kV doc pm:Value) (an:Option Addr) (cdv ct:Value) (osl:Array (Option Value)),
  fd=PySem.W.fnOf x qual (zb6 st) (zbd st) (zai st) .none kV doc pm an cdv ct/\K.lookup f=some ⟨oc,od,.func fd,osl⟩/\PySem.W.codeIn K cdv qual=true
 kp:PySem.W.keepIn K (.ref f)=true
section
variable {P:Program} {w:World} {K:W.Frag} {mg:Str->Option Value} {base:Heap}
theorem Fun.ok {x qual:Str}{st:Stmt}{f:Addr}{fd:FuncData}{N ps:List Str}{k:Nat}{sp:Sp}(F:Fun K x qual st f fd)(S:zal N ps (zai st))(len:∀ vs H Q E,sp vs H Q E->vs.length=ps.length)
  (hbody:∀ (cdv:Value) (A:Around) (outer:List Env) (s:Shared) (H:Hp) (vs:List V) (Q:VK) (E:XK),zee k (A.deeper (envOfC qual (zai st) s.heap.objs.size f cdv))->sp vs H Q E ->
   ∃ t,PSs (zq9 CX0 P w K mg base N qual (zai st) f cdv A outer s H E).nox (zbd st) t/\t { nx:=fun _ H'=>Q .non H',rt:=Q } (start N vs) H):zdl P w K mg base CX0 (k+1) f fd ps sp:=by
 obtain ⟨oc,od,kV,doc,pm,an,cdv,ct,osl,rfl,lk,a⟩:=F.ex
 refine z1t lk a S len fun A outer s H vs Q E hr b=>?_
 obtain ⟨t,h,q⟩:=hbody cdv A outer s H vs Q E hr b
 exact ⟨t,h.nox,q⟩
theorem Fun.binds {x qual:Str}{st:Stmt}{f:Addr}{fd:FuncData}{ps:List Str}(F:Fun K x qual st f fd)
  (h:∀ (kV doc pm:Value) (an:Option Addr) (cdv ct:Value) (us:List Value),us.length=ps.length->bindArgs (PySem.W.fnOf x qual (zb6 st) (zbd st) (zai st) .none kV doc pm an cdv ct) ⟨us,[]⟩=pure (ps.zip us)):zce K fd ps []:=by
 obtain ⟨oc,od,kV,doc,pm,an,cdv,ct,osl,rfl,lk,a⟩:=F.ex
 exact .all (h kV doc pm an cdv ct)
theorem zhs {x qual:Str}{st:Stmt}{f:Addr}{oc:Value}{od an:Option Addr}{osl:Array (Option Value)}{kV doc pm cdv ct:Value}(l:K.lookup f=some ⟨oc,od,.func (PySem.W.fnOf x qual (zb6 st) (zbd st) (zai st) .none kV doc pm an cdv ct),osl⟩)
  (c:PySem.W.codeIn K cdv qual=true)(k:PySem.W.keepIn K (.ref f)=true):Fun K x qual st f (PySem.W.fnOf x qual (zb6 st) (zbd st) (zai st) .none kV doc pm an cdv ct):=⟨⟨oc,od,kV,doc,pm,an,cdv,ct,osl,rfl,l,c⟩,k⟩
end
theorem zcz {A:Around}{k:Nat}(hr:zee k A):A.units+1<cLine:=j4 (Nat.add_le_add_left (by decide:1<=64) _) hr.units
theorem zar {n:Nat}(h:n<=1000):n<sizeLine:=j4 h (by decide)
section
variable {X:Cx}
theorem pv (i:Nat){x:Str}{pos:Pos}(hN:X.N[i]? = some x:=by rfl)(hv:Vis X.env.scope x:=by first | exact Or.inl rfl | exact Or.inr (Or.inl rfl) | exact Or.inr (Or.inr rfl))(hd:(x == ("__debug__" : Str))=false:=by decide)
  (hcd:(x == ("__classdict__" : Str))=false:=by decide):PE X (.Name x pos) (zvw i):=z0b hN hv hd hcd
end
theorem z23 {A B:Prop}(h:B):if false=true then A else B:=by
 rw [if_neg Bool.false_ne_true]
 exact h
theorem z2q {A B:Prop}(h:A):if true=true then A else B:=by
 rw [if_pos rfl]
 exact h
theorem z2s {c A B:Prop}[Decidable c](h1:c->A)(h2:¬ c->B):if c then A else B:=by
 by_cases h:c
 ·rw [if_pos h]
  exact h1 h
 ·rw [if_neg h]
  exact h2 h
theorem zu7 {c A B:Prop}[Decidable c](hc:c)(h:B):if (!decide c)=true then A else B:=by
 rw [decide_eq_true hc]
 exact z23 h
def zau (H H':Hp):Prop:=∀ b o,H b=some o->H' b=some o
theorem zau.refl (H:Hp):zau H H:=fun _ _ h=>h
theorem zau.trans {H H1 H2:Hp}(a:zau H H1)(b:zau H1 H2):zau H H2:=fun c o h=>b c o (a c o h)
theorem zau.free {H H':Hp}(e:zau H H'){l:Addr}(h:H' l=Option.none):H l=Option.none:=by
 cases q:H l with
 | none=>rfl
 | some o =>
  rw [e l o q] at h
  cases h
theorem zau.seq {K:W.Frag}{H H':Hp}{a:Addr}{xs:List V}(e:zau H H')(h:SqL K H a xs):SqL K H' a xs:=by
 rcases h with (h | ⟨o,h⟩) | h
 ·exact .inl (.inl (e _ _ h))
 ·exact .inl (.inr ⟨o,e _ _ h⟩)
 ·exact .inr h
structure Df (K:W.Frag)(mg:Str->Option Value)(x:Str)(st:Stmt)(ps:List Str) where
 f:Addr
 fd:FuncData
 fn:Fun K x x st f fd
 hm:mg x=some (.ref f)
 b:zce K fd ps []
theorem zi_:bootBuiltins "len" = some (.builtin "len"):=by decide +kernel
theorem z1q:bootBuiltins "max" = some (.builtin "max"):=by decide +kernel
theorem zbl:bootBuiltins "isinstance" = some (.builtin "isinstance"):=by decide +kernel
theorem zby:bootBuiltins "sorted" = some (.builtin "sorted"):=by decide +kernel
theorem zw_:bootBuiltins "int" = some (.type "int"):=by decide +kernel
theorem zon:bootBuiltins "bool" = some (.type "bool"):=by decide +kernel
theorem z0t:bootBuiltins "str" = some (.type "str"):=by decide +kernel
theorem zjp:bootBuiltins "list" = some (.type "list"):=by decide +kernel
theorem zwi:bootBuiltins "tuple" = some (.type "tuple"):=by decide +kernel
theorem zwv:bootBuiltins "set" = some (.type "set"):=by decide +kernel
section
variable {X:Cx} {x:Str} {pos:Pos}
theorem zn7 {T:String}(hg:Gl X x)(hm:X.mg x=none)(hv:bootBuiltins x=some (.type T))(hn:x≠ "__name__" :=by decide)(hd:(x == ("__debug__" : Str))=false:=by decide):PE X (.Name x pos) (tC (.ty T)) :=
 zz3 hg hm hv rfl hn hd
theorem zes:zhf X (.builtin "isinstance") (fun xs H Q=>∃ x T t b,xs=[x,.ty T]/\zk9 X.K H x t/\nr X.K t (.type T)=some b/\Q (.bl b) H):=by
 intro pins s σ H xs us Q I r h
 obtain ⟨x,T,t,b,rfl,ty,e,q⟩:=h
 obtain ⟨u,w',rfl,r1,r2⟩:=z24 r
 cases (show w'=nh T from r2)
 exact zt3 I r1 ty e fun tk=>⟨.bl b,H,I.tok _,rfl,q⟩
end
section
variable {X:Cx} {pins:List (Addr × Obj)} {σ:St} {H:Hp} {s:Shared} {h':Heap}
theorem Inv.turnT {t':Nat}{ch:List Addr}{a:Addr}{o:HO}(I:Inv X pins σ H s)(k:∀ b u,b∉ch->s.heap.get? b=some u->h'.get? b=some u)(hf:∀ b∈ch,zp7 X pins H b)
  (ha:s.heap.objs.size<=a)(new:zca X.prog X.w (upd H a o) h' a o):Inv X pins σ (upd H a o) { s with heap:=h',toks:=t' }:=by
 have hn:H a=none:=I.hok.fresh ha
 have d:∀ b u,H b=some u->b∉ch:=fun b u e z=>by rw [(hf b z).1] at e; cases e
 refine I.step (g':=s.gens) (d':=s.drawn) (ch:=ch) (fun b hb=>?_) (fun b u _ _ hc e _=>k b u hc e) (fun b u _ _ hc e _=>⟨u.slots,k b u hc e⟩) (fun b u _ e n=>?_)
  (fun b u hc e=>⟨u,k b u hc e⟩) (fun b xs e=>by rw [zab (zae e hn)]; exact e) (fun b u xs e=>by rw [zab (zae e hn)]; exact e)
  (fun b ps e=>⟨#[],by rw [zab (zae e hn),e]; simp⟩) (fun m hm=>?_) (fun b u e=>?_) I.bare
 ·obtain ⟨f0,f1,f2,f3,f4,f5⟩:=hf b hb
  exact ⟨f3,f1,f4,f5⟩
 ·rw [zab (gl (gc (gi e) ha))]
  exact n
 ·obtain ⟨u,es,ep,ho,r⟩:=hm
  exact ⟨u,es,ep,k _ u (fun z=>(hf _ z).2.1 rfl) ho,r⟩
 ·by_cases hb:b=a
  ·subst hb
   rw [zac] at e
   cases e
   exact new
  ·rw [zab hb] at e
   refine (I.hok b u e).stay (fun c v hc q=>k c v ?_ q) (fun c q=>by rw [zab (zae q hn)]; exact q) fun c xs q=>by rw [zab (zae q hn)]; exact q
   rcases hc with z | z
   ·rw [z]
    exact d b u e
   ·exact d c _ z
theorem Inv.turnN {t':Nat}{ch:List Addr}(I:Inv X pins σ H s)(k:∀ b u,b∉ch->s.heap.get? b=some u->h'.get? b=some u)(hf:∀ b∈ch,zp7 X pins H b):Inv X pins σ H { s with heap:=h',toks:=t' }:=by
 have a:∀ b u,H b=some u->b∉ch:=fun b u e z=>by rw [(hf b z).1] at e; cases e
 refine I.step (g':=s.gens) (d':=s.drawn) (ch:=ch) (fun b hb=>?_) (fun b u _ _ hc e _=>k b u hc e) (fun b u _ _ hc e _=>⟨u.slots,k b u hc e⟩) (fun _ _ _ _ n=>n)
  (fun b u hc e=>⟨u,k b u hc e⟩) (fun _ _ e=>e) (fun _ _ _ e=>e) (fun b ps e=>⟨#[],by rw [e]; simp⟩) (fun m hm=>?_) (fun b u e=>?_) I.bare
 ·obtain ⟨f0,f1,f2,f3,f4,f5⟩:=hf b hb
  exact ⟨f3,f1,f4,f5⟩
 ·obtain ⟨u,es,ep,ho,r⟩:=hm
  exact ⟨u,es,ep,k _ u (fun z=>(hf _ z).2.1 rfl) ho,r⟩
 ·refine (I.hok b u e).stay (fun c v hc q=>k c v ?_ q) (fun _ q=>q) fun _ _ q=>q
  rcases hc with z | z
  ·rw [z]
   exact a b u e
  ·exact a c _ z
end
def Ite (K:W.Frag)(a:Addr):It :=
 ⟨fun i H=>∃ xs x,SqL K H a xs/\xs[i]? = some x,fun i H x H'=>∃ t y,x = .ref t/\H t=none/\H'=upd H t (.tup [.int i,y])/\∀ xs,SqL K H a xs->xs[i]? = some y,
  fun i H=>∃ xs,SqL K H a xs/\xs.length<=i⟩
theorem zr6 {P:Program}{w:World}{K:W.Frag}{es:List Expr}{k1:Nat}{tp:Pos}(a e it:Addr)(hne:e≠it) :
  z1p P w K (.Tuple es k1 tp) (Ite K a) [e,it] e (fun i h=>(∃ old,IsEnum h e it i old)/\h.IsListIter it a i) where
 mem:=by simp
 obj:=fun i h st b hb=>by
  obtain ⟨⟨old,he⟩,o,e1,c,d⟩:=st
  rcases (show b=e\/b=it by simpa using hb) with rfl | rfl
  ·exact ⟨_,he,fun v z=>by cases z⟩
  ·exact ⟨o,e1,fun v z=>by rw [d] at z; cases z⟩
 keep:=fun i h h' st k=>⟨st.1.imp fun old he=>k e (by simp) _ he,st.2.at fun o q=>k it (by simp) o q⟩
 item:=by
  intro X hP hw hK hc i pins s σ H E I hf st hg
  subst hP hw hK
  obtain ⟨xs,x,hq,hx⟩:=hg
  obtain ⟨its,rv,p,hz⟩:=I.list hq
  obtain ⟨u,hu,ru⟩:=rv.get hx
  obtain ⟨⟨old,he⟩,f⟩:=st
  have el:e<s.heap.objs.size:=gi he
  have il:it<s.heap.objs.size:=by
   obtain ⟨o,e1,_⟩:=f
   exact gi e1
  refine wpAny_pyNext_enum_item he f p.isList (x:=u) (by simpa using hu) hne fun h' ho g ht m hk=>?_
  refine ⟨_,rfl,wpAny_letOwnedTupleGo_enum ho fun h2 l sb=>?_⟩
  replace sb:Heap.SameBut e h' h2:=sb
  have j:h2.get? s.heap.objs.size=some { cls:= .type "tuple",data:= .seq #[.int i s.toks,u] }:=(sb.2 _ (j9 el)).trans ht
  have I2:Inv X pins σ (upd H s.heap.objs.size (.tup [.int i,x])) { s with heap:=h2,toks:=s.toks+1 } :=
   I.turnT (ch:=[e,it]) (fun b v hb q=>(sb.2 b (fun z=>hb (by simp [z]))).trans (hk b v (fun z=>hb (by simp [z])) (fun z=>hb (by simp [z])) q)) hf (gf _)
    ⟨by show 2<=sizeLine; decide,[.int i s.toks,u],.cons ⟨_,rfl⟩ (.cons ru .nil),_,j,rfl,_,rfl⟩
  refine ⟨.ref s.heap.objs.size,_,I2,rfl,⟨s.heap.objs.size,x,rfl,I.hok.fresh (gf _),rfl,fun ys hy=>by rw [I.list_inj hy hq]; exact hx⟩,
   ⟨⟨u,by simpa using l⟩,g.at fun o q=>(sb.2 it (Ne.symm hne)).trans q⟩,fun b hb=>?_⟩
  rw [zab,(hf b hb).1]
  rcases (show b=e\/b=it by simpa using hb) with rfl | rfl
  ·exact gl el
  ·exact gl il
 done:=by
  intro X hP hw hK hc i pins s σ H E I hf st hg
  subst hP hw hK
  obtain ⟨xs,hq,hx⟩:=hg
  obtain ⟨its,rv,p,hz⟩:=I.list hq
  obtain ⟨⟨old,he⟩,f⟩:=st
  have hl:=rv.length
  exact wpAny_pyNext_enum_end (I.ok.hd hc) he f p.isList (by simp; omega) fun h' eb=>⟨rfl,I.turnN (t':=s.toks) (ch:=[e,it]) (fun b o hb q=>eb b o (fun z=>hb (by simp [z])) q) hf⟩
 self:=fun _ _ _ _ _ st h=>by
  obtain ⟨⟨old,he⟩,_⟩:=st
  exact wpAny_pyIter_enum he h
def z28 (K:W.Frag)(ta:TA):TI:=fun σ H R=>ta σ H fun vs H1=>∃ a,vs=[.ref a]/\(∃ xs,SqL K H1 a xs)/\R (Ite K a) H1
theorem ztw {X:Cx}{es:List Expr}{k1:Nat}{tp:Pos}{a:Expr}{ta:TA}{p pos:Pos}(hg:Gl X "enumerate")(hm:X.mg "enumerate" = none)(ha:PA X [a] ta)(hs:starEach [a] X.env=[(false,eval a X.env)]:=by rfl) :
  PI X (.Tuple es k1 tp) (.Call (.Name "enumerate" p) [a] [] pos) (z28 X.K ta):=by
 intro pins s σ H R I h
 refine Call_ (zjz I hg hm boot_enumerate (PyProof.Rows.callWith_type1 (thn (ha pos pins s σ H _ I h) fun us s1 ⟨vs,H1,I1,r1,q1⟩=>?_) hs rfl))
 obtain ⟨l,e,⟨xs,hq⟩,q⟩:=q1
 subst e
 obtain ⟨u,rfl,ru⟩:=zf8 r1
 cases (show u=Value.ref l from ru)
 obtain ⟨its,rv,pl,hz⟩:=I1.list hq
 refine call_enumerate_list pl.isList fun h' he c hsz hk=>wpAny_pyIter_enum he ?_
 have I2:Inv X pins σ H1 { s1 with heap:=h' }:=I1.kept (t':=s1.toks) hk
 refine ⟨s1.heap.objs.size+1,[s1.heap.objs.size+1,s1.heap.objs.size],_,_,H1,rfl,I2,zr6 l _ _ (Nat.succ_ne_self _),⟨⟨.none,he⟩,c⟩,fun b hb=>?_,q⟩
 rcases (show b=s1.heap.objs.size+1\/b=s1.heap.objs.size by simpa using hb) with rfl | rfl
 ·exact I1.fpOk (j3 _) (I1.hok.fresh (j3 _))
 ·exact I1.fpOk (gf _) (I1.hok.fresh (gf _))
theorem zpf {K:W.Frag}{a:Addr}{xs:List V}{g:TG}{tb:TS}{D:zzp}{σ:St}{H:Hp}(Pv:Nat->St->Hp->Prop)(h0:Pv 0 σ H)(hl:∀ i σ H,i<=xs.length->Pv i σ H->SqL K H a xs)
  (hs:∀ i x σ H t,xs[i]? = some x->Pv i σ H->H t=none->g (.ref t) σ (upd H t (.tup [.int i,x])) fun σ2 H2=>tb { D with nx:=Pv (i+1),ct:=Pv (i+1),bk:=D.nx } σ2 H2)(hd:∀ σ H,Pv xs.length σ H->D.nx σ H) :
  ∃ W:Nat->Nat->St->Hp->Prop,(∃ m,W 0 m σ H)/\∀ i m σ H,W i m σ H ->
   ((Ite K a).stop i H/\D.nx σ H)\/((Ite K a).go i H/\∃ N:St->Hp->Prop,(∀ σ' H',N σ' H'->∃ m',m'<m/\W (i+1) m' σ' H')/\∀ x H',(Ite K a).yld i H x H'->g x σ H' fun σ2 H2=>tb { D with nx:=N,ct:=N,bk:=D.nx } σ2 H2):=by
 refine ⟨fun i m σ H=>m=xs.length - i/\i<=xs.length/\Pv i σ H,⟨xs.length,by simp,i9 _,h0⟩,?_⟩
 rintro i m σ H ⟨rfl,hi,p⟩
 have q:=hl i σ H hi p
 by_cases b:i<xs.length
 ·refine .inr ⟨⟨xs,xs[i],q,by simp [b]⟩,Pv (i+1),fun σ' H' p'=>⟨xs.length - (i+1),by omega,rfl,b,p'⟩,fun x H' y=>?_⟩
  obtain ⟨t,z,rfl,ht,rfl,y⟩:=y
  exact hs i z σ _ t (y xs q) p ht
 ·have e:i=xs.length:=by omega
  subst e
  exact .inl ⟨⟨xs,q,gf _⟩,hd σ H p⟩
theorem zuj {c A B:Prop}[Decidable c](hc:¬ c)(h:A):if (!decide c)=true then A else B:=by
 rw [decide_eq_false hc]
 exact z2q h
theorem zpm {c A B:Prop}[Decidable c](hc:c)(h:A):if decide c=true then A else B:=by
 rw [decide_eq_true hc]
 exact z2q h
theorem zhh {c A B:Prop}[Decidable c](hc:¬ c)(h:B):if decide c=true then A else B:=by
 rw [decide_eq_false hc]
 exact z23 h
theorem zz0 {a b:Int}(h:¬ a=b):¬ V.int a=V.int b:=fun z=>h (V.int.inj z)
theorem zau.lay {H H':Hp}{p:Addr}{o:HO}(h:zau H H')(hp:H' p=none):zau H (upd H' p o):=fun b u e=>by
 rw [zab (zae (h b u e) hp)]
 exact h b u e
theorem zau.new (H:Hp){p:Addr}{o:HO}(hp:H p=none):zau H (upd H p o):=(zau.refl H).lay hp
theorem nw {H H1:Hp}{p:Addr}{o:HO}(h:H p=none)(e:upd H p o=H1):zau H H1/\H1 p=some o:=e ▸ ⟨zau.new H h,zac⟩
theorem usS {n:Nat}{R:List Value->Prop}(h:∀ a us,us.length=n->R (a :: us))(us:List Value)(e:us.length=n+1):R us:=by
 cases us with
 | nil=>cases e
 | cons a t=>exact h a t (Nat.succ.inj e)
theorem us0 {R:List Value->Prop}(h:R [])(us:List Value)(e:us.length=0):R us:=by
 cases us with
 | nil=>exact h
 | cons a t=>cases e
theorem us1 {R:List Value->Prop}(h:∀ a,R [a]):∀ us:List Value,us.length=1->R us:=usS fun a=>us0 (h a)
theorem us2 {R:List Value->Prop}(h:∀ a b,R [a,b]):∀ us:List Value,us.length=2->R us:=usS fun a=>us1 (h a)
theorem us3 {R:List Value->Prop}(h:∀ a b c,R [a,b,c]):∀ us:List Value,us.length=3->R us:=usS fun a=>us2 (h a)
theorem us4 {R:List Value->Prop}(h:∀ a b c d,R [a,b,c,d]):∀ us:List Value,us.length=4->R us:=usS fun a=>us3 (h a)
def zcr (X:Cx)(N':List Str)(scope:Scope)(cl:List (Str × Addr))(C:Addr)(s:Shared)(H:Hp)(fp:List Addr):Cx where
 prog:=X.prog
 w:=X.w
 K:=X.K
 mg:=X.mg
 base:=X.base
 A:=X.A
 N:=N'
 s₀:=s
 H₀:=H
 env:=compEnvC scope cl C X.env
 outer:=X.stack
 stack:=X.stack
 ex:=fp
 fn:=fun _=>false
 calm:=X.calm
 pn:=[]
 xe:=fun _ _=>False
def PTs (X:Cx)(ifs:List Expr)(t:TT):Prop :=
 ∀ (pins:List (Addr × Obj)) (s:Shared) (σ:St) (H:Hp) (Q:Bool->Hp->Prop),Inv X pins σ H s->t σ H Q ->
  wpAny (model X.prog X.w) X.A (forIn ifs true fun c r=>if r=true then do let ok <- isTrue c X.env (eval c X.env); pure (ForInStep.yield ok) else pure (ForInStep.yield r)) (TP X pins σ Q) X.xe s
def z3q:TT:=fun _ H Q=>Q true H
theorem zik {X:Cx}:PTs X [] z3q:=fun pins s σ H Q I h=>wpAny_pure ⟨H,I,h⟩
theorem zhi {X:Cx}{c:Expr}{t:TT}(hc:PT X c t):PTs X [c] t:=fun pins s σ H Q I h=>by
 show wpAny _ _ (forIn [c] true _) _ _ s
 rw [m6]
 rw [if_pos rfl]
 refine wpAny_bind (wpAny_bind (thn (hc pins s σ H Q I h) fun b s1 h1=>wpAny_pure ?_))
 exact wpAny_pure h1
theorem zfr {env:Env}:∀ (names:List (Str × NameKind)) (acc:List (Str × Addr)),
  (∀ y∈names,y.2 = .free->∃ c,env.cells.lookup y.1=some c)->(∀ x c,acc.lookup x=some c->env.cells.lookup x=some c) ->
  ∃ cl,(forIn names acc fun (x:Str × NameKind) cs=>if (x.2 == NameKind.free)=true then (do let a <- cellOf env x.1; pure (ForInStep.yield ((x.1,a) :: cs))) else pure (ForInStep.yield cs):Sem (List (Str × Addr)))=pure cl /\
   (∀ x c,cl.lookup x=some c->env.cells.lookup x=some c)/\(∀ y∈names,y.2 = .free->∃ c,cl.lookup y.1=some c)/\(∀ x c,acc.lookup x=some c->cl.lookup x=some c)
 | [],acc,_,ha=>⟨acc,rfl,ha,fun y hy=>(nomatch hy),fun _ _ h=>h⟩
 | (n,k) :: r,acc,hn,ha=>by
  rw [m6]
  by_cases hk:k = .free
  ·obtain ⟨c,hc⟩:=hn (n,k) gb hk
   have ha':∀ x d,((n,c) :: acc).lookup x=some d->env.cells.lookup x=some d:=fun x d h=>by
    rw [i0] at h
    by_cases e:(x == n)=true
    ·rw [e] at h
     have e':=beq_iff_eq.mp e
     cases h
     rw [e']
     exact hc
    ·rw [ji.mpr e] at h
     exact ha x d h
   obtain ⟨cl,e1,h1,h2,h3⟩:=zfr r ((n,c) :: acc) (fun y hy=>hn y (fk _ hy)) ha'
   refine ⟨cl,?_,h1,fun y hy hf=>?_,fun x d h=>?_⟩
   ·rw [if_pos (by rw [hk]; rfl)]
    show ((cellOf env n >>= fun a=>pure (ForInStep.yield ((n,a) :: acc))) >>= _)=_
    have hco:cellOf env n=pure c:=by unfold cellOf; rw [hc]
    rw [hco,pure_bind,pure_bind]
    exact e1
   ·rcases gs.mp hy with rfl | hy
    ·exact ⟨c,h3 n c (by rw [i0]; simp)⟩
    ·exact h2 y hy hf
   ·by_cases e:(x == n)=true
    ·have e':=beq_iff_eq.mp e
     subst e'
     have:=ha x d h
     rw [hc] at this
     cases this
     exact h3 x c (by rw [i0]; simp)
    ·exact h3 x d (by rw [i0,ji.mpr e]; exact h)
  ·obtain ⟨cl,e1,h1,h2,h3⟩:=zfr r acc (fun y hy=>hn y (fk _ hy)) ha
   refine ⟨cl,?_,h1,fun y hy hf=>?_,h3⟩
   ·rw [if_neg (by simpa using hk),pure_bind]
    exact e1
   ·rcases gs.mp hy with rfl | hy
    ·exact absurd hf hk
    ·exact h2 y hy hf
theorem zgx {scope:Scope}{env:Env}(hn:∀ y∈scope.names,y.2 = .free->∃ c,env.cells.lookup y.1=some c) :
  ∃ cl,closureFor scope env=pure cl/\(∀ x c,cl.lookup x=some c->env.cells.lookup x=some c)/\∀ y∈scope.names,y.2 = .free->∃ c,cl.lookup y.1=some c:=by
 obtain ⟨cl,e1,h1,h2,_⟩:=zfr (env:=env) scope.names [] hn (fun x c h=>by cases h)
 refine ⟨cl,?_,h1,h2⟩
 unfold closureFor
 rw [<- e1,bind_pure]
theorem zop {prog:Program}{w:World}{A:Around}{R:Result->Shared->Prop}{s:Shared}{elt target iter:Expr}{ifs:List Expr}{scope:Scope}{pos:Pos}{it acc:Value}{env:Env}(I:Nat->Shared->Prop)
  (turn:∀ n s,I n s->wpAny (model prog w) A (pyNext it) (fun r s₁=>match r with
   | none=>R (.ok .next) s₁
   | some v=>wpAny (model prog w) A (letOwnedTupleGo target it v) (fun _ s₁=>wpAny (model prog w) A (assign target env v) (fun _ s₂ =>
     wpAny (model prog w) A (forIn ifs true fun c r=>if r=true then do let ok <- isTrue c env (eval c env); pure (ForInStep.yield ok) else pure (ForInStep.yield r)) (fun ok s₃ =>
      if ok=true then wpAny (model prog w) A (eval elt env) (fun x s₄ =>
       wpAny (model prog w) A (call (.builtin "list.append") [acc,x]) (fun _ s₅=>∃ m,m<n/\I m s₅) (fun _ _=>False) s₄) (fun _ _=>False) s₃
      else ∃ m,m<n/\I m s₃) (fun _ _=>False) s₂) (fun _ _=>False) s₁) (fun _ _=>False) s₁) (fun _ _=>False) s)
  (n:Nat)(h:I n s) :
  codeAny (model prog w) A (.compLoop (.ListComp elt [⟨target,iter,ifs,0⟩] scope pos) 0 it acc env) R s:=by
 refine codeAny_loop rfl I (fun n s hI=>?_) n h
 show wpAny _ A ((compTurn (.ListComp elt [⟨target,iter,ifs,0⟩] scope pos) 0 it acc env).onRaise (fun x=>do noteFrame x env; theTreesLotGoes x)) _ _ s
 refine wpAny_noted ?_
 rw [compTurn_list]
 have ff:∀ {E:Value->Shared->Prop} (v:Value) (s:Shared),False->E v s:=fun _ _ z=>z.elim
 refine wpAny_bind (wpAny_standAt (wpAny_bind (wpAny_mono (turn n s hI) (fun r s₁ h₁=>?_) ff)))
 cases r with
 | none=>exact wpAny_pure h₁
 | some v =>
  refine wpAny_bind (wpAny_mono h₁ (fun _ b a=>?_) ff)
  refine wpAny_bind (wpAny_mono a (fun _ s₂ h₂=>wpAny_bind (wpAny_mono h₂ (fun ok s₃ h₃=>?_) ff)) ff)
  cases ok with
  | false=>exact wpAny_pure ⟨rfl,h₃⟩
  | true =>
   exact wpAny_bind (wpAny_bind (wpAny_mono h₃ (fun x s₄ h₄=>wpAny_bind (wpAny_mono h₄ (fun _ s₅ h₅=>wpAny_pure (wpAny_pure ⟨rfl,h₅⟩)) ff)) ff))
def zs7 (J:It)(g:TG)(tc:TT)(te:TE)(Q:VK)(D:Addr)(σ:St)(H:Hp):Prop:=∃ W:Nat->Nat->St->Hp->Prop,(∃ m,W 0 m σ H)/\∀ i m σ' H',W i m σ' H' ->
 (J.stop i H'/\Q (.ref D) H')\/(J.go i H'/\∃ N:St->Hp->Prop,(∀ σ2 H2,N σ2 H2->∃ m',m'<m/\W (i+1) m' σ2 H2)/\∀ x H2,J.yld i H' x H2->g x σ' H2 fun σ3 H3=>tc σ3 H3 fun b H4 =>
  if b=true then te σ3 H4 fun y H5=>∃ acc,H5 D=some (.lst acc)/\acc.length<sizeLine/\N σ3 (upd H5 D (.lst (acc++[y]))) else N σ3 H4)
def zxx (wi:TI)(g:TG)(tc:TT)(te:TE)(cp:St->St):TE:=fun σ H Q=>wi σ H fun J H1=>∀ D,H1 D=none->zs7 J g tc te Q D (cp σ) (upd H1 D (.lst []))
def zwh (k:Nat)(caps:List Nat):St->St:=fun σ=>lc k none++caps.map fun i=>σ.getD i none
structure zgc (X:Cx)(scope:Scope)(own:List Str)(caps:List Nat)(N':List Str):Prop where
 kind:scope.kind = .function
 nocell:∀ y∈scope.names,y.2≠ .cell
 names:∀ y∈scope.names,y.2 = .local->scope.names.lookup y.1=some .local
 free:∀ y∈scope.names,y.2 = .free->X.env.kindOf y.1=some .cell\/X.env.kindOf y.1=some .free
 hN:N'=own++caps.filterMap fun i=>X.N[i]?
 cap:∀ i∈caps,i<X.N.length
 capk:∀ i∈caps,∀ x,X.N[i]? = some x->scope.names.lookup x=some .free
 look:∀ x,(relabel scope X.env).names.lookup x=some .cell\/(relabel scope X.env).names.lookup x=some .free->(x,NameKind.free)∈scope.names
theorem zhv {env:Env}:∀ {names:List (Str × NameKind)} {x:Str},names.lookup x=some .free ->
  (names.map fun (n,k)=>if (k == NameKind.free && env.scope.kind == .function && env.kindOf n == some .cell) then (n,NameKind.cell) else (n,k)).lookup x≠some .local
 | [],_,h=>by simp at h
 | (n,k) :: r,x,h=>by
  have ih:=@zhv env r x
  show List.lookup x ((if (k == NameKind.free && env.scope.kind == .function && env.kindOf n == some .cell)=true then (n,NameKind.cell) else (n,k)) :: _)≠_
  cases hx:x == n with
  | true =>
   simp only [i0,hx] at h
   cases h
   by_cases hc:(NameKind.free == NameKind.free && env.scope.kind == .function && env.kindOf n == some .cell)=true
   ·rw [if_pos hc]; simp [i0,hx]
   ·rw [if_neg hc]; simp [i0,hx]
  | false =>
   simp only [i0,hx] at h
   by_cases hc:(k == NameKind.free && env.scope.kind == .function && env.kindOf n == some .cell)=true
   ·rw [if_pos hc]; simp only [i0,hx]; exact ih h
   ·rw [if_neg hc]; simp only [i0,hx]; exact ih h
section
variable {X:Cx} {scope:Scope} {own N':List Str} {caps:List Nat}
theorem zgn {α:Type}(N:List α):∀ (caps:List Nat),(∀ i∈caps,i<N.length)->∀ (j:Nat) (x:α),(caps.filterMap fun i=>N[i]?)[j]? = some x->∃ i,caps[j]? = some i/\N[i]? = some x
 | [],_,j,x,h=>by simp at h
 | a :: r,hc,j,x,h=>by
  have ha:=hc a gb
  rw [i4,List.getElem?_eq_getElem ha] at h
  cases j with
  | zero=>exact ⟨a,rfl,by rw [List.getElem?_eq_getElem ha]; simpa using h⟩
  | succ j =>
   obtain ⟨i,h1,h2⟩:=zgn N r (fun i hi=>hc i (fk _ hi)) j x (by simpa using h)
   exact ⟨i,by simpa using h1,h2⟩
theorem zgy {α:Type}(N:List α):∀ (caps:List Nat),(∀ i∈caps,i<N.length)->(caps.filterMap fun i=>N[i]?).length=caps.length
 | [],_=>rfl
 | a :: r,hc=>by
  have ha:=hc a gb
  rw [i4,List.getElem?_eq_getElem ha]
  simp [zgy N r fun i hi=>hc i (fk _ hi)]
theorem Inv.enterComp {pins:List (Addr × Obj)}{σ:St}{H:Hp}{s:Shared}{cl:List (Str × Addr)}{fp:List Addr}{h1:Heap}{tk:Nat}(I:Inv X pins σ H s)(T:zgc X scope own caps N')
  (hcl:∀ x c,cl.lookup x=some c->X.env.cells.lookup x=some c)(hcl2:∀ y∈scope.names,y.2 = .free->∃ c,cl.lookup y.1=some c)
  (hf:∀ b∈fp,zp7 X pins H b)(hfo:∀ b∈fp,∃ o,s.heap.get? b=some o)(hns:h1.Ns s.heap.objs.size (fun _=>none))(hk:∀ b o,s.heap.get? b=some o->h1.get? b=some o) :
  Inv (zcr X N' scope cl s.heap.objs.size s H fp) [] (zwh own.length caps σ) H { s with heap:=h1,toks:=tk }:=by
 have ae:N'.length=own.length+caps.length:=by rw [T.hN,fm,zgy _ _ T.cap]
 refine ⟨⟨I.ok.mod,?_,I.ok.glob,I.ok.blt,gf _,fun x y c h1 h2=>I.ok.inj x y c (hcl x c h1) (hcl y c h2),fun x hx=>?_,fun x c h=>fT h,I.ok.hd,I.ok.frames,.inl rfl,
   fun b hb=>⟨?_,fun x c e=>(hf b hb).2.2.2.2.1 x c (hcl x c e)⟩,fun b o e=>I.bs b o e,gm I.ok.bsz I.sz,fun b o e hb=>?_,fun b hb z=>?_,I.stack,I.stkFree⟩,
  rfl,I.bare,Un.kept hk,⟨_,hns,fun i x v e1 e2 e3=>?_⟩,fun x c e=>?_,I.hok.fresh (gf _),fun x c e=>⟨fun z=>fT z,(I.freeC x c (hcl x c e)).2⟩,fun p hp=>absurd (show p∈([]:List (Addr × Obj)) from hp) (by simp),I.hok.kept hk,?_⟩
 ·show (relabel scope X.env).kind = .function
  exact T.kind
 ·exact hcl2 (x,.free) (T.look x hx) rfl
 ·obtain ⟨o,e⟩:=hfo b hb
  exact gl (gi e)
 ·rcases (hf b hb).2.2.2.1 with z | z
  ·exact I.ok.noex b o e z
  ·exact absurd (gc (gi e) (gm I.ok.bsz z)) (j6 _)
 ·rcases gs.mp (I.stkSub b z) with q | q
  ·exact (hf b hb).2.1 q
  ·exact (hf b hb).2.2.1 q
 ·-- the values of the block's names
  have w:N'[i]? = some x:=e1
  rw [T.hN] at w
  have d:(zwh own.length caps σ)[i]? = some (some v):=e2
  unfold zwh at d
  by_cases hi:i<own.length
  ·rw [List.getElem?_append_left (by simpa using hi),List.getElem?_replicate,if_pos hi] at d
   cases d
  ·rw [List.getElem?_append_right (by simpa using hi),List.length_replicate] at d
   rw [List.getElem?_append_right (by omega)] at w
   obtain ⟨j,hj,hx⟩:=zgn X.N caps T.cap _ _ w
   rw [List.getElem?_map,hj] at d
   have g:σ.getD j none=some v:=Option.some.inj d
   have hs:σ[j]? = some (some v):=by
    rw [List.getD_eq_getElem?_getD] at g
    cases q:σ[j]? with
    | none =>
     rw [q] at g
     cases g
    | some z =>
     rw [q] at g
     have:z=some v:=g
     rw [this]
   have f:=T.capk j (gj hj) x hx
   have t:(x,NameKind.free)∈scope.names:=PySem.mem_of_lookup f
   have ab:=T.free _ t rfl
   obtain ⟨m,hn,hl⟩:=I.loc
   obtain ⟨u,r,l⟩:=hl j x v hx hs (by
    rcases ab with z | z
    ·exact .inr (.inl z)
    ·exact .inr (.inr z))
   rcases l with ⟨q,_⟩ | ⟨_,c,hc,aa⟩
   ·rcases ab with z | z
    ·rw [show X.env.kindOf x=some .local from q] at z; cases z
    ·rw [show X.env.kindOf x=some .local from q] at z; cases z
   ·obtain ⟨c',ac⟩:=hcl2 _ t rfl
    have ad:=hcl x c' ac
    rw [hc] at ad
    cases ad
    refine ⟨u,r,.inr ⟨?_,c,ac,?_⟩⟩
    ·rcases e3 with z | z | z
     ·-- a free name does not become local
      exfalso
      have:(relabel scope X.env).names.lookup x=some .local:=z
      rw [show (relabel scope X.env).names=scope.names.map fun (n,k)=>if (k == .free && X.env.scope.kind == .function && X.env.kindOf n == some .cell) then (n,.cell) else (n,k) from rfl] at this
      exact absurd this (zhv f)
     ·exact .inl z
     ·exact .inr z
    ·obtain ⟨o,ho,hd⟩:=aa
     exact ⟨o,hk _ _ ho,hd⟩
 ·obtain ⟨v,o,ho,hd⟩:=I.cell x c (hcl x c e)
  exact ⟨v,o,hk _ _ ho,hd⟩
 ·show (zwh own.length caps σ).length=N'.length
  rw [ae]
  unfold zwh
  simp
theorem Inv.leaveComp {pins pins':List (Addr × Obj)}{σ σ':St}{H H':Hp}{s s':Shared}{cl:List (Str × Addr)}{fp:List Addr}{h2:Heap}(I:Inv X pins σ H s)(hf:∀ b∈fp,zp7 X pins H b)
  (J:Inv (zcr X N' scope cl s.heap.objs.size s H fp) pins' σ' H' s')(hs:Heap.SameBut s.heap.objs.size s'.heap h2):Inv X pins σ H' { s' with heap:=h2 }:=by
 have fr:H' s.heap.objs.size=none:=J.free
 have ne:∀ b o,s.heap.get? b=some o->b≠s.heap.objs.size:=fun b o e=>gl (gi e)
 have U:Un (frs X.stack) fp H H' s.heap s'.heap:=J.base
 refine I.call' (s':={ s' with heap:=h2 }) (ch:=fp) J.os ⟨fun b o e n hb hx=>(hs.2 b (ne b o e)).trans (U.keep b o e n hb hx),fun b o e n hb hx=>?_,U.free,fun b o e hx=>?_,U.tups,U.frzs,U.tbls⟩ (fun a o e=>?_) J.bare fun b hb=>?_
 ·obtain ⟨sl,q⟩:=U.slot b o e n hb hx
  exact ⟨sl,(hs.2 b (ne b o e)).trans q⟩
 ·obtain ⟨o',q⟩:=U.there b o e hx
  exact ⟨o',(hs.2 b (ne b o e)).trans q⟩
 ·refine (J.hok a o e).stay (fun b u hb q=>(hs.2 b ?_).trans q) (fun _ q=>q) fun _ _ q=>q
  intro z
  rcases hb with hb | hb
  ·rw [<- hb,z,fr] at e
   cases e
  ·rw [z,fr] at hb
   cases hb
 ·obtain ⟨f0,f1,f2,f3,f4,f5⟩:=hf b hb
  exact ⟨f3,f1,f4,f5⟩
theorem zmq {elt tg iter:Expr}{ifs:List Expr}{pos:Pos}{wi:TI}{g:TG}{tc:TT}{te:TE}(hc:X.calm=true)(T:zgc X scope own caps N')(hi:PI X tg iter wi)
  (hg:∀ cl C s H fp,PG (zcr X N' scope cl C s H fp) tg g)(ht:∀ cl C s H fp,PTs (zcr X N' scope cl C s H fp) ifs tc)(he:∀ cl C s H fp,PE (zcr X N' scope cl C s H fp) elt te)
  {pins:List (Addr × Obj)}{σ:St}{H:Hp}{s:Shared}{Q:VK}(I:Inv X pins σ H s)(h:zxx wi g tc te (zwh own.length caps) σ H Q){cl:List (Str × Addr)}
  (hcl:∀ x c,cl.lookup x=some c->X.env.cells.lookup x=some c)(hcl2:∀ y∈scope.names,y.2 = .free->∃ c,cl.lookup y.1=some c){RR:Value->Addr->Result->Shared->Prop}
  (k:∀ {s3:Shared} {H3:Hp} {D:Addr} {fp:List Addr} {σ5:St} {H5:Hp} {s6:Shared},Inv X pins σ H3 s3->(∀ b∈fp,zp7 X pins H3 b)->Inv (zcr X N' scope cl s3.heap.objs.size s3 H3 fp) [] σ5 H5 s6->Q (.ref D) H5->RR (.ref D) s3.heap.objs.size (.ok .next) s6) :
  wpAny (model X.prog X.w) X.A (eval iter X.env) (fun x s₁=>wpAny (model X.prog X.w) X.A (pyIter x) (fun it s₂=>wpAny (model X.prog X.w) X.A (newList []) (fun acc s₃ =>
   wpAny (model X.prog X.w) X.A (newFunctionEnv scope X.env.globals cl [] X.env.qual none .none (some X.env)) (fun cenv s₄ =>
    codeAny (model X.prog X.w) X.A (.compStart (.ListComp elt [⟨tg,iter,ifs,0⟩] scope pos) 0 it acc { cenv with scope:=relabel scope X.env }) (RR acc cenv.locals) s₄) X.xe s₃) X.xe s₂) X.xe s₁) X.xe s:=by
 refine thn (hi pins s σ H _ I h) fun xv s1 h1=>thn h1 fun aq s2 h2=>?_
 obtain ⟨it,fp,tn,J,H2,rfl,I2,TU,ab,f2,q2⟩:=h2
 have fo:∀ b∈fp,∃ o,s2.heap.get? b=some o:=fun b hb=>let ⟨o,e,_⟩:=TU.obj _ _ ab b hb; ⟨o,e⟩
 obtain ⟨W,⟨m0,w0⟩,turn⟩:=q2 s2.heap.objs.size I2.fresh
 refine wpAny_newObj_type ?_
 have I3:Inv X pins σ (upd H2 s2.heap.objs.size (.lst [])) { s2 with heap:=s2.heap.push { cls:= .type "list",data:= .seq ([]:List Value).toArray } }:=I2.lnew (t':=s2.toks) .nil (i9 _)
 generalize an:({ s2 with heap:=s2.heap.push { cls:= .type "list",data:= .seq ([]:List Value).toArray } }:Shared)=s3 at I3
 have k3:∀ b o,s2.heap.get? b=some o->s3.heap.get? b=some o:=fun b o e=>by rw [<- an]; exact Heap.get?_push_of_some _ e
 have f3:∀ b∈fp,zp7 X pins (upd H2 s2.heap.objs.size (.lst [])) b:=fun b hb=>by
  obtain ⟨o,e⟩:=fo b hb
  exact ⟨by rw [zab (gl (gi e))]; exact (f2 b hb).1,(f2 b hb).2⟩
 have t:∀ b∈fp,∃ o,s3.heap.get? b=some o:=fun b hb=>let ⟨o,e⟩:=fo b hb; ⟨o,k3 b o e⟩
 have ap:tn 0 s3.heap:=TU.keep _ _ _ ab fun b hb o e=>k3 b o e
 show wpAny _ _ _ _ _ s3
 refine wpAny_newFunctionEnv T.nocell (fun y hy=>(nomatch hy)) (fun h4 ag ae=>?_) T.kind
 have k4:∀ b o,s3.heap.get? b=some o->h4.get? b=some o:=fun b o e=>(ae.2 b (gl (gi e))).trans (Heap.get?_push_of_some _ e)
 have J4:Inv (zcr X N' scope cl s3.heap.objs.size s3 (upd H2 s2.heap.objs.size (.lst [])) fp) [] (zwh own.length caps σ) (upd H2 s2.heap.objs.size (.lst [])) { s3 with heap:=h4,toks:=s3.toks+0 } :=
  I3.enterComp T hcl hcl2 f3 t ag k4
 have ad:tn 0 h4:=TU.keep _ _ _ ap fun b hb o e=>k4 b o e
 have f:∀ {H':Hp},(∀ b∈fp,H' b=none)->∀ b∈fp,zp7 (zcr X N' scope cl s3.heap.objs.size s3 (upd H2 s2.heap.objs.size (.lst [])) fp) [] H' b:=fun hn b hb=>by
  obtain ⟨o,e⟩:=t b hb
  refine ⟨hn b hb,gl (gi e),fun z=>?_,.inl hb,fun x c q=>(f3 b hb).2.2.2.2.1 x c (hcl x c q),fun p hp=>absurd (show p∈([]:List (Addr × Obj)) from hp) (by simp)⟩
  rcases gs.mp (I3.stkSub b z) with q | q
  ·exact (f3 b hb).2.1 q
  ·exact (f3 b hb).2.2.1 q
 have j:codeAny (model X.prog X.w) X.A (.compLoop (.ListComp elt [⟨tg,iter,ifs,0⟩] scope pos) 0 (.ref it) (.ref s2.heap.objs.size) (compEnvC scope cl s3.heap.objs.size X.env))
   (RR (.ref s2.heap.objs.size) s3.heap.objs.size) { s3 with heap:=h4,toks:=s3.toks+0 }:=by
  refine zop (fun n s'=>∃ i σ' H',Inv (zcr X N' scope cl s3.heap.objs.size s3 (upd H2 s2.heap.objs.size (.lst [])) fp) [] σ' H' s'/\tn i s'.heap/\(∀ b∈fp,H' b=none)/\W i n σ' H') ?_ m0
   ⟨0,_,_,J4,ad,fun b hb=>(f3 b hb).1,w0⟩
  rintro n s5 ⟨i,σ5,H5,I5,aa,ac,w5⟩
  rcases turn i n σ5 H5 w5 with ⟨stop,qn⟩ | ⟨go,N,hN,step⟩
  ·refine thn (TU.done (zcr X N' scope cl s3.heap.objs.size s3 (upd H2 s2.heap.objs.size (.lst [])) fp) rfl rfl rfl hc i [] s5 σ5 H5 (fun _ _=>False) I5 (f ac) aa stop) fun r s6 ⟨hr,I6⟩=>?_
   subst hr
   exact k I3 f3 I6 qn
  ·refine thn (TU.item (zcr X N' scope cl s3.heap.objs.size s3 (upd H2 s2.heap.objs.size (.lst [])) fp) rfl rfl rfl hc i [] s5 σ5 H5 (fun _ _=>False) I5 (f ac) aa go) fun r s6 ⟨u,hr,h6⟩=>?_
   subst hr
   refine thn h6 fun _ s7 ⟨x,H7,I7,r7,y7,l,al⟩=>?_
   have ai:=I7.pinned (f al) (TU.obj _ _ l)
   have a:∀ {σ':St} {H':Hp} {s':Shared},Inv (zcr X N' scope cl s3.heap.objs.size s3 (upd H2 s2.heap.objs.size (.lst [])) fp) ([]++zmj fp s7.heap) σ' H' s'->N σ' H' ->
     ∃ m,m<n/\∃ i σ' H',Inv (zcr X N' scope cl s3.heap.objs.size s3 (upd H2 s2.heap.objs.size (.lst [])) fp) [] σ' H' s'/\tn i s'.heap/\(∀ b∈fp,H' b=none)/\W i m σ' H':=fun {σ' H' s'} I' n'=>by
    obtain ⟨m',hm,w'⟩:=hN σ' H' n'
    refine ⟨m',hm,i+1,σ',H',I'.unpinned,TU.keep _ _ _ l fun b hb o e=>(I'.pin (b,o) (fh _ (fh _ (zfo hb e)))).1,fun b hb=>?_,w'⟩
    obtain ⟨o,e,d⟩:=TU.obj _ _ l b hb
    exact (I'.pin (b,o) (fh _ (fh _ (zfo hb e)))).2.1
   refine thn (hg _ _ _ _ _ _ s7 σ5 H7 x u _ ai r7 (step x H7 y7)) fun _ s8 ⟨σ8,H8,I8,q8⟩=>?_
   refine thn (ht _ _ _ _ _ _ s8 σ8 H8 _ I8 q8) fun b s9 ⟨H9,I9,q9⟩=>?_
   cases b with
   | false =>
    rw [if_neg Bool.false_ne_true] at q9 |-
    exact a I9 q9
   | true =>
    rw [if_pos rfl] at q9 |-
    refine thn (he _ _ _ _ _ _ s9 σ8 H9 _ I9 q9) fun v ao ⟨y,af,ah,ak,acc,hD,hl,hn⟩=>?_
    refine thn (ze8 _ ao σ8 af (.ref s2.heap.objs.size) [y] (.ref s2.heap.objs.size) [v] (fun _ H'=>N σ8 H') ah rfl (.cons ak .nil) ⟨_,acc,y,rfl,rfl,hD,hl,hn⟩) fun _ au ⟨_,ar,am,_,aj⟩=>?_
    exact a am aj
 exact codeAny_compStart_list j (TU.self _ 0 _ _ _ ad j)
theorem zg6 {elt tg iter:Expr}{ifs:List Expr}{pos:Pos}{wi:TI}{g:TG}{tc:TT}{te:TE}(hc:X.calm=true)(T:zgc X scope own caps N')(hi:PI X tg iter wi)
  (hg:∀ cl C s H fp,PG (zcr X N' scope cl C s H fp) tg g)(ht:∀ cl C s H fp,PTs (zcr X N' scope cl C s H fp) ifs tc)(he:∀ cl C s H fp,PE (zcr X N' scope cl C s H fp) elt te)
  (hs:∀ x,foldedSetIterable iter X.env x=pure x:=by intro _; rfl):PE X (.ListComp elt [⟨tg,iter,ifs,0⟩] scope pos) (zxx wi g tc te (zwh own.length caps)):=by
 intro pins s σ H Q I h
 obtain ⟨cl,a,e,b⟩:=zgx (scope:=scope) (env:=X.env) (fun y hy hf=>I.ok.has y.1 (T.free y hy hf))
 rw [eval_ListComp]
 refine wpAny_comprehension_free (use:=none) rfl hs a T.kind T.names (zmq hc T hi hg ht he I h e b (RR:=fun d C=>compPost (model X.prog X.w) X.A X.xe none (EP X pins σ Q) d C) ?_)
 intro s3 H3 D fp σ5 H5 s6 I3 f3 I6 qn
 obtain ⟨m,hn,_⟩:=I6.loc
 exact ⟨m,hn,fun h' c=>⟨.ref D,H5,I3.leaveComp f3 I6 c,rfl,qn⟩⟩
theorem zim {elt tg iter:Expr}{ifs:List Expr}{pos spos py:Pos}{y:Str}{i:Nat}{wi:TI}{g:TG}{tc:TT}{te:TE}(hN:X.N.Nodup)(hi':X.N[i]? = some y)(hx:Loc X.env.scope y)(hc:X.calm=true)(T:zgc X scope own caps N')(hi:PI X tg iter wi)
  (hg:∀ cl C s H fp,PG (zcr X N' scope cl C s H fp) tg g)(ht:∀ cl C s H fp,PTs (zcr X N' scope cl C s H fp) ifs tc)(he:∀ cl C s H fp,PE (zcr X N' scope cl C s H fp) elt te)
  (hsw:swapsWith (.ListComp elt [⟨tg,iter,ifs,0⟩] scope pos) (some (.Name y py)) spos.line X.env=pure true:=by rfl)(hs:∀ x,foldedSetIterable iter X.env x=pure x:=by intro _; rfl)
  (hf:X.fn y=true\/X.env.scope.names.lookup y=some .local:=by first | exact .inl rfl | exact .inr rfl | assumption) :
  PS X (.Assign [.Name y py] (.ListComp elt [⟨tg,iter,ifs,0⟩] scope pos) spos) (z00 (zxx wi g tc te (zwh own.length caps)) (zmv i)):=by
 intro pins s σ H Dn I h
 obtain ⟨cl,a,o,d⟩:=zgx (scope:=scope) (env:=X.env) (fun y hy hf=>I.ok.has y.1 (T.free y hy hf))
 rw [exec_Assign_Name_used _ _ _ _ hsw]
 refine wpAny_bind (wpAny_standAt (wpAny_bind ?_))
 show wpAny _ X.A (do let _ <- comprehension (.ListComp elt [⟨tg,iter,ifs,0⟩] scope pos) scope X.env _ (newList []) false (eval iter X.env) (some (assign (.Name y py) X.env))) _ _ s
 refine wpAny_bind (wpAny_mono (wpAny_comprehension_free (use:=some (assign (.Name y py) X.env)) (Q:=fun _ s'=>SP X pins Dn .next s') rfl hs a T.kind T.names
  (zmq hc T hi hg ht he I h o d (RR:=fun j C=>compPost (model X.prog X.w) X.A X.xe (some (assign (.Name y py) X.env)) (fun _ s'=>SP X pins Dn .next s') j C) ?_)) (fun _ s' hq=>wpAny_pure (wpAny_pure hq)) fun _ _ e=>e)
 intro s3 H3 D fp σ5 H5 s6 I3 f3 I6 qn
 obtain ⟨m,⟨oC,es,ep,l,c,rC⟩,_⟩:=I6.loc
 have I7:Inv X pins σ H5 { s6 with heap:=s6.heap }:=I3.leaveComp f3 I6 (Heap.SameBut.refl _ _)
 have fC:zp7 X pins H5 s3.heap.objs.size:=I3.fpOk (gf _) I6.free
 have I8:Inv X (pins++[(s3.heap.objs.size,oC)]) σ H5 s6:=I7.pins_of fun p hp=>by
  rcases fq.mp hp with z | z
  ·exact I7.pin p (fh _ z)
  ·rw [fi.mp z]
   exact ⟨l,fC.1,fC.2.1,fC.2.2.1,fun v q=>by rw [c] at q; cases q⟩
 show wpAny _ X.A (assign (.Name y py) X.env (.ref D)) _ _ s6
 refine wpAny_assign_Name (zlm I8 hN hi' hx (v:= .ref D) rfl (fun s9 I9=>?_) hf)
 have r:=(I9.pin (s3.heap.objs.size,oC) (fh _ (fh _ gb))).1
 refine ⟨m,⟨oC,es,ep,r,c,rC⟩,fun h' f=>?_⟩
 have n:Inv X pins (σ.set i (some (.ref D))) H5 s9:=I9.unpinned
 exact ⟨_,H5,n.turnN (t':=s9.toks) (ch:=[s3.heap.objs.size]) (fun b u hb q=>(f.2 b (fun z=>hb (by simp [z]))).trans q) fun b hb=>by rw [fi.mp hb]; exact fC,qn⟩
end
def zw0 (outer:Scope)(N:List Str)(scope:Scope)(own:List Str)(caps:List Nat)(N':List Str):Bool :=
 (scope.kind == .function) && scope.names.all (fun y=>y.2 != .cell) && scope.names.all (fun y=>y.2 != .local || scope.names.lookup y.1 == some .local) &&
 scope.names.all (fun y=>y.2 != .free || (outer.names.lookup y.1 == some .cell || outer.names.lookup y.1 == some .free)) && decide (N'=own++caps.filterMap fun i=>N[i]?) &&
 caps.all (fun i=>match N[i]? with | some x=>scope.names.lookup x == some .free | none=>false)
theorem zhz {env:Env}:∀ {names:List (Str × NameKind)} {x:Str},(∀ y∈names,y.2≠ .cell) ->
  ((names.map fun (n,k)=>if (k == NameKind.free && env.scope.kind == .function && env.kindOf n == some .cell) then (n,NameKind.cell) else (n,k)).lookup x=some .cell \/
   (names.map fun (n,k)=>if (k == NameKind.free && env.scope.kind == .function && env.kindOf n == some .cell) then (n,NameKind.cell) else (n,k)).lookup x=some .free)->(x,NameKind.free)∈names
 | [],_,_,h=>by simp at h
 | (n,k) :: r,x,hn,h=>by
  have ih:=@zhz env r x (fun y hy=>hn y (fk _ hy))
  have hk:k≠ .cell:=hn (n,k) gb
  change List.lookup x ((if (k == NameKind.free && env.scope.kind == .function && env.kindOf n == some .cell)=true then (n,NameKind.cell) else (n,k)) :: _)=_ \/
   List.lookup x ((if (k == NameKind.free && env.scope.kind == .function && env.kindOf n == some .cell)=true then (n,NameKind.cell) else (n,k)) :: _)=_ at h
  cases hx:x == n with
  | true =>
   have e:=beq_iff_eq.mp hx
   subst e
   by_cases hc:(k == NameKind.free && env.scope.kind == .function && env.kindOf x == some .cell)=true
   ·have:k = .free:=by
     rw [ik,ik] at hc
     simpa using hc.1.1
    rw [this]
    exact gb
   ·rw [if_neg hc] at h
    simp only [i0,hx] at h
    rcases h with h | h
    ·exact absurd (Option.some.inj h) hk
    ·rw [Option.some.inj h]
     exact gb
  | false =>
   refine fk _ (ih ?_)
   by_cases hc:(k == NameKind.free && env.scope.kind == .function && env.kindOf n == some .cell)=true
   ·rw [if_pos hc] at h
    simpa only [i0,hx] using h
   ·rw [if_neg hc] at h
    simpa only [i0,hx] using h
theorem zbe {X:Cx}{scope:Scope}{own N':List Str}{caps:List Nat}(h:zw0 X.env.scope X.N scope own caps N'=true):zgc X scope own caps N':=by
 unfold zw0 at h
 simp only [ik] at h
 obtain ⟨⟨⟨⟨⟨h1,h2⟩,h3⟩,h4⟩,h5⟩,h6⟩:=h
 have nc:∀ y∈scope.names,y.2≠ .cell:=fun y hy=>by simpa using jg.mp h2 y hy
 have cp:∀ i∈caps,∃ x,X.N[i]? = some x/\scope.names.lookup x=some .free:=fun i hi=>by
  have q:=jg.mp h6 i hi
  cases e:X.N[i]? with
  | none =>
   rw [e] at q
   cases q
  | some x =>
   rw [e] at q
   exact ⟨x,rfl,by simpa using q⟩
 refine ⟨by simpa using h1,nc,fun y hy hl=>?_,fun y hy hf=>?_,of_decide_eq_true h5,fun i hi=>?_,fun i hi x e=>?_,fun x hx=>zhz nc hx⟩
 ·have q:=jg.mp h3 y hy
  rw [hl] at q
  simpa using q
 ·have q:=jg.mp h4 y hy
  rw [hf] at q
  simp at q
  exact q
 ·obtain ⟨x,e,_⟩:=cp i hi
  exact (List.getElem?_eq_some_iff.mp e).1
 ·obtain ⟨y,e',q⟩:=cp i hi
  rw [e] at e'
  cases e'
  exact q
theorem zdv {K:W.Frag}{a D:Addr}{xs:List V}{g:TG}{tc:TT}{te:TE}{Q:VK}{σ:St}{H:Hp}(Pv:Nat->St->Hp->Prop)(h0:Pv 0 σ H)(hl:∀ i σ H,i<=xs.length->Pv i σ H->SqL K H a xs)
  (hs:∀ i x σ H,xs[i]? = some x->Pv i σ H->g x σ H fun σ3 H3=>tc σ3 H3 fun b H4=>if b=true then te σ3 H4 fun y H5=>∃ acc,H5 D=some (.lst acc)/\acc.length<sizeLine/\Pv (i+1) σ3 (upd H5 D (.lst (acc++[y]))) else Pv (i+1) σ3 H4)
  (hd:∀ σ H,Pv xs.length σ H->Q (.ref D) H) :
  zs7 (Itl K a) g tc te Q D σ H:=by
 refine ⟨fun i m σ H=>m=xs.length - i/\i<=xs.length/\Pv i σ H,⟨xs.length,by simp,i9 _,h0⟩,?_⟩
 rintro i m σ H ⟨rfl,hi,p⟩
 have q:=hl i σ H hi p
 by_cases c:i<xs.length
 ·refine .inr ⟨⟨xs,xs[i],q,by simp [c]⟩,Pv (i+1),fun σ' H' p'=>⟨xs.length - (i+1),by omega,rfl,c,p'⟩,fun x H' y=>?_⟩
  obtain ⟨e,y⟩:=y
  subst e
  exact hs i x σ _ (y xs q) p
 ·have e:i=xs.length:=by omega
  subst e
  exact .inl ⟨⟨xs,q,gf _⟩,hd σ H p⟩
theorem zqj {lo:Int}{n:Nat}{D:Addr}{g:TG}{tc:TT}{te:TE}{Q:VK}{σ:St}{H:Hp}(Pv:Nat->St->Hp->Prop)(h0:Pv 0 σ H)
  (hs:∀ i σ H,i<n->Pv i σ H->g (.int (lo+i)) σ H fun σ3 H3=>tc σ3 H3 fun b H4=>if b=true then te σ3 H4 fun y H5=>∃ acc,H5 D=some (.lst acc)/\acc.length<sizeLine/\Pv (i+1) σ3 (upd H5 D (.lst (acc++[y]))) else Pv (i+1) σ3 H4)
  (hd:∀ σ H,Pv n σ H->Q (.ref D) H) :
  zs7 (Itr lo n) g tc te Q D σ H:=by
 refine ⟨fun i m σ H=>m=n - i/\i<=n/\Pv i σ H,⟨n,by simp,i9 _,h0⟩,?_⟩
 rintro i m σ H ⟨rfl,hi,p⟩
 by_cases a:i<n
 ·refine .inr ⟨a,Pv (i+1),fun σ' H' p'=>⟨n - (i+1),by omega,rfl,a,p'⟩,fun x H' y=>?_⟩
  obtain ⟨e,y⟩:=y
  subst e y
  exact hs i σ _ a p
 ·have e:i=n:=by omega
  subst e
  exact .inl ⟨gf _,hd σ H p⟩
mutual
def DV (K:W.Frag)(H:Hp):PyData->V->Prop
 | .none,v=>v = .non
 | .bool b,v=>v = .bl b
 | .int i,v=>v = .int i
 | .str x,v=>v = .str x
 | .list ds,v=>∃ a xs,v = .ref a/\SqL K H a xs/\DVs K H ds xs
 | .tuple ds,v=>∃ a xs,v = .ref a/\SqT K H a xs/\DVs K H ds xs
 | .dict _,_=>False
def DVs (K:W.Frag)(H:Hp):List PyData->List V->Prop
 | [],xs=>xs=[]
 | d :: ds,xs=>∃ x r,xs=x :: r/\DV K H d x/\DVs K H ds r
end
section
variable {X:Cx} {pins:List (Addr × Obj)} {σ:St} {H:Hp} {s:Shared}
mutual
theorem Inv.reads (I:Inv X pins σ H s):∀ (d:PyData) (v:V) (u:Value),DV X.K H d v->zbp v u->∃ as,Reads s.heap u d as
 | .none,v,u,h,r=>by
  unfold DV at h
  subst h
  cases (show u=Value.none from r)
  exact ⟨_,.none⟩
 | .bool b,v,u,h,r=>by
  unfold DV at h
  subst h
  cases (show u=Value.bool b from r)
  exact ⟨_,.bool b⟩
 | .int i,v,u,h,r=>by
  unfold DV at h
  subst h
  obtain ⟨t,rfl⟩:=(show ∃ t,u=Value.int i t from r)
  exact ⟨_,.int i t⟩
 | .str x,v,u,h,r=>by
  unfold DV at h
  subst h
  obtain ⟨t,rfl⟩:=(show ∃ t,u=Value.str x t from r)
  exact ⟨_,.str x t⟩
 | .list ds,v,u,h,r=>by
  unfold DV at h
  obtain ⟨a,xs,rfl,hq,hd⟩:=h
  cases (show u=Value.ref a from r)
  obtain ⟨its,rv,p,_⟩:=I.list hq
  obtain ⟨as,ra⟩:=Inv.readsAll I ds xs its hd rv
  obtain ⟨o,e,c,n,q⟩:=p.isList
  exact ⟨_,.list e c q (by simpa using ra)⟩
 | .tuple ds,v,u,h,r=>by
  unfold DV at h
  obtain ⟨a,xs,rfl,hq,hd⟩:=h
  cases (show u=Value.ref a from r)
  obtain ⟨its,rv,p,_⟩:=I.tuple hq
  obtain ⟨as,ra⟩:=Inv.readsAll I ds xs its hd rv
  obtain ⟨o,e,c,n,q⟩:=(show s.heap.IsTuple a its.toArray from p)
  exact ⟨_,.tuple e c q (by simpa using ra)⟩
 | .dict _,v,u,h,r=>by
  unfold DV at h
  exact h.elim
theorem Inv.readsAll (I:Inv X pins σ H s):∀ (ds:List PyData) (xs:List V) (us:List Value),DVs X.K H ds xs->zbq xs us->∃ as,ReadsAll s.heap us ds as
 | [],xs,us,h,r=>by
  unfold DVs at h
  subst h
  cases r
  exact ⟨_,.nil⟩
 | d :: ds,xs,us,h,r=>by
  unfold DVs at h
  obtain ⟨x,xr,rfl,h1,h2⟩:=h
  cases r with
  | cons r1 r2 =>
   obtain ⟨as,ra⟩:=Inv.reads I d x _ h1 r1
   obtain ⟨bs,rb⟩:=Inv.readsAll I ds xr _ h2 r2
   exact ⟨_,.cons ra rb⟩
end
end
def z2w (K:W.Frag)(neg:Bool):R2:=fun x y H Q=>∃ da db,DV K H da x/\DV K H db y/\da.canLay0=true/\db.canLay0=true/\da.depth<=64/\Q (.bl (if neg then !PyData.eqv da db else PyData.eqv da db)) H
theorem z1f {X:Cx}(hu:X.A.units+64<cLine):OpR X (compareOp .Eq) (z2w X.K false):=by
 intro pins s σ H x y v u Q I rx ry h
 obtain ⟨da,db,h1,h2,c1,c2,hd,q⟩:=h
 obtain ⟨as,ra⟩:=I.reads da x v h1 rx
 obtain ⟨bs,rb⟩:=I.reads db y u h2 ry
 exact SeqAt.compareEq_reads ra rb c1 c2 (by have:=Nat.min_le_left da.depth db.depth; omega) ⟨.bl _,H,I,rfl,q⟩
theorem zxi {X:Cx}(hu:X.A.units+64<cLine):OpR X (compareOp .NotEq) (z2w X.K true):=by
 intro pins s σ H x y v u Q I rx ry h
 obtain ⟨da,db,h1,h2,c1,c2,hd,q⟩:=h
 obtain ⟨as,ra⟩:=I.reads da x v h1 rx
 obtain ⟨bs,rb⟩:=I.reads db y u h2 ry
 exact SeqAt.compareNe_reads ra rb c1 c2 (by have:=Nat.min_le_left da.depth db.depth; omega) ⟨.bl _,H,I,rfl,q⟩
theorem zpt {K:W.Frag}{H:Hp}:∀ ns:List Int,DVs K H (ns.map PyData.int) (ns.map V.int)
 | []=>by unfold DVs; rfl
 | n :: r=>by
  unfold DVs
  exact ⟨_,_,rfl,by unfold DV; rfl,zpt r⟩
theorem ztb {K:W.Frag}{H:Hp}{a:Addr}{ns:List Int}(h:SqL K H a (ns.map V.int)):DV K H (.list (ns.map PyData.int)) (.ref a):=by
 unfold DV
 exact ⟨a,_,rfl,h,zpt ns⟩
theorem zlc:∀ ns:List Int,PyData.canLayAll0 (ns.map PyData.int)=true
 | []=>by unfold PyData.canLayAll0; rfl
 | n :: r=>by
  show PyData.canLayAll0 (PyData.int n :: r.map PyData.int)=true
  unfold PyData.canLayAll0
  rw [zlc r]
  unfold PyData.canLay0
  rfl
theorem zm6:∀ ns:List Int,PyData.depthAll (ns.map PyData.int)=0
 | []=>by unfold PyData.depthAll; rfl
 | n :: r=>by
  show PyData.depthAll (PyData.int n :: r.map PyData.int)=0
  unfold PyData.depthAll
  rw [zm6 r]
  unfold PyData.depth
  rfl
def z2o (K:W.Frag)(neg:Bool):R2:=fun x y H Q=>∃ (a b:Addr) (ns ms:List Int),x = .ref a/\y = .ref b/\SqL K H a (ns.map V.int)/\SqL K H b (ms.map V.int)/\Q (.bl (if neg then !decide (ns=ms) else decide (ns=ms))) H
theorem zxa {K:W.Frag}{neg:Bool}{x y:V}{H:Hp}{Q:VK}(h:z2o K neg x y H Q):z2w K neg x y H Q:=by
 obtain ⟨a,b,ns,ms,rfl,rfl,h1,h2,q⟩:=h
 have e:PyData.eqv (.list (ns.map PyData.int)) (.list (ms.map PyData.int))=decide (ns=ms):=by
  unfold PyData.eqv
  exact PySem.W.ked_eqvAll ns ms
 refine ⟨.list (ns.map PyData.int),.list (ms.map PyData.int),ztb h1,ztb h2,?_,?_,?_,?_⟩
 ·unfold PyData.canLay0
  exact zlc ns
 ·unfold PyData.canLay0
  exact zlc ms
 ·unfold PyData.depth
  rw [zm6]
  decide
 ·rw [e]
  exact q
theorem z1y {X:Cx}(hu:X.A.units+64<cLine):OpR X (compareOp .Eq) (z2o X.K false):=fun pins s σ H x y v u Q I rx ry h=>z1f hu pins s σ H x y v u Q I rx ry (zxa h)
theorem zw8 {X:Cx}(hu:X.A.units+64<cLine):OpR X (compareOp .NotEq) (z2o X.K true):=fun pins s σ H x y v u Q I rx ry h=>zxi hu pins s σ H x y v u Q I rx ry (zxa h)
theorem zsw {α:Type}{g:α->PyData}:∀ {xs:List α},(∀ x∈xs,(g x).canLay0=true)->PyData.canLayAll0 (xs.map g)=true
 | [],_=>by unfold PyData.canLayAll0; rfl
 | x :: r,h=>by
  show PyData.canLayAll0 (g x :: r.map g)=true
  unfold PyData.canLayAll0
  rw [h x gb,zsw fun y hy=>h y (fk _ hy)]
  rfl
theorem zp9 {α:Type}{g:α->PyData}{n:Nat}:∀ {xs:List α},(∀ x∈xs,(g x).depth<=n)->PyData.depthAll (xs.map g)<=n
 | [],_=>by unfold PyData.depthAll; exact i9 _
 | x :: r,h=>by
  show PyData.depthAll (g x :: r.map g)<=n
  unfold PyData.depthAll
  exact Nat.max_le.mpr ⟨h x gb,zp9 fun y hy=>h y (fk _ hy)⟩
theorem zt2 {X:Cx}:MtR X "int.bit_length" (fun x xs H Q=>∃ i,x = .int i/\xs=[]/\Q (.int (Builtin.Int.intBits i:Nat)) H):=by
 intro pins s σ H x xs v us Q I rx rs h
 obtain ⟨i,rfl,rfl,q⟩:=h
 obtain ⟨t,rfl⟩:=rx
 cases rs
 exact call_int_bit_length ⟨.int (Builtin.Int.intBits i:Nat),H,I.tok _,⟨_,rfl⟩,q⟩
theorem znr {X:Cx}{o:Expr}{to:TE}{apos cpos:Pos}(ho:PE X o to)(hbase:attributeBase o "bit_length" X.env (eval o X.env)=eval o X.env:=by rfl)(hline:(apos.endLine == cpos.line)=true:=by rfl) :
  PE X (.Call (.Attribute o "bit_length" apos) [] [] cpos) (z3g X.K "int" (fun x xs H Q=>∃ i,x = .int i/\xs=[]/\Q (.int (Builtin.Int.intBits i:Nat)) H) to) :=
 ztd PySem.F.plainAttrs_int PySem.F.slot_int_bit_length PySem.F.type_int_bit_length zt2 ho hbase hline
def zfx (H:Hp)(c:Addr)(v:V):Prop:=∃ o u k,H c=some (.frz o k)/\o.data = .cell (some u)/\zbp v u
theorem zfx.same {H H':Hp}{c:Addr}{v:V}(x:zfx H c v)(h:∀ o k,H c=some (.frz o k)->H' c=some (.frz o k)):zfx H' c v:=by
 obtain ⟨o,u,k,e,r⟩:=x
 exact ⟨o,u,k,h o k e,r⟩
section
variable {X:Cx} {pins:List (Addr × Obj)} {σ:St} {H:Hp} {s:Shared}
theorem Inv.freeze {x:Str}{c:Addr}{o:Obj}(I:Inv X pins σ H s)(hfn:X.fn x=false)(hc:X.env.cells.lookup x=some c)(hn:H c=none)(hab:X.s₀.heap.objs.size<=c)(ho:s.heap.get? c=some o) :
  Inv X pins σ (upd H c (.frz o (.own c))) s:=by
 have ne:∀ b u,H b=some u->b≠c:=fun b u e=>zae e hn
 obtain ⟨w,oc,a,h⟩:=I.cell x c hc
 rw [ho] at a
 cases a
 refine ⟨I.ok,I.os,I.bare,⟨I.base.keep,I.base.slot,fun b u e n hx=>?_,I.base.there,fun b xs e=>?_,fun b u k e=>?_,fun b ps e=>?_⟩,I.loc,I.cell,?_,fun y c' e=>?_,fun p hp=>?_,fun b u e=>?_,I.len⟩
 ·rw [zab (gl (gc (gi e) hab))]
  exact I.base.free b u e n hx
 ·have z:=I.base.tups b xs e
  rw [zab (ne b _ z)]
  exact z
 ·have z:=I.base.frzs b u k e
  rw [zab (ne b _ z)]
  exact z
 ·obtain ⟨m,z⟩:=I.base.tbls b ps e
  exact ⟨m,by rw [zab (ne b _ z)]; exact z⟩
 ·rw [zab (fun z=>I.cne x c hc z.symm)]
  exact I.free
 ·by_cases f:c'=c
  ·subst f
   have:=I.ok.inj _ _ _ e hc
   subst this
   exact ⟨fun z=>absurd (hfn.symm.trans z) Bool.false_ne_true,.inr ⟨o,_,zac⟩⟩
  ·rw [zab f]
   exact I.freeC y c' e
 ·obtain ⟨e,n,g,nf,d⟩:=I.pin p hp
  refine ⟨e,?_,g,nf,d⟩
  rw [zab]
  ·exact n
  ·intro z
   rw [z,ho] at e
   cases e
   exact d _ h
 ·by_cases hb:b=c
  ·subst hb
   rw [zac] at e
   cases e
   exact ⟨ho,o,ho⟩
  ·rw [zab hb] at e
   exact (I.hok b u e).stay (fun _ _ _ q=>q) (fun d q=>by rw [zab (ne d _ q)]; exact q) fun d xs q=>by rw [zab (ne d _ q)]; exact q
end
section
variable {P:Program} {w:World} {K:W.Frag} {mg:Str->Option Value} {base:Heap}
theorem zmp {X:Cx}{σ:St}{s:Shared}{Hb:Hp}(N ps:List Str)(vs:List V)(hps:∀ (i:Nat) x v,ps[i]? = some x->vs[i]? = some v->X.N[i]? = some x/\σ[i]? = some (some v))(hab:∀ x c,X.env.cells.lookup x=some c->X.s₀.heap.objs.size<=c) :
  ∀ (fz:List Str) (H:Hp),(∀ x∈fz,X.fn x=false/\X.env.scope.names.lookup x=some .cell)->Inv X [] σ H s->zau Hb H->(∀ x c,X.env.cells.lookup x=some c->Hb c=none) ->
   ∃ H1,Inv X [] σ H1 s/\zau Hb H1/\(∀ b o,H b=some o->H1 b=some o)/\∀ (i:Nat) x v,x∈fz->ps[i]? = some x->vs[i]? = some v->∃ c,X.env.cells.lookup x=some c/\zfx H1 c v
 | [],H,_,I,sm,_=>⟨H,I,sm,fun _ _ e=>e,fun _ _ _ hx=>(nomatch hx)⟩
 | x :: r,H,hf,I,sm,hb=>by
  have hx:=hf x gb
  obtain ⟨c,hc⟩:=I.ok.has x (.inl hx.2)
  obtain ⟨w',oc,hoc,hdc⟩:=I.cell x c hc
  obtain ⟨H2,I2,s2,k2,hz⟩:∃ H2,Inv X [] σ H2 s/\zau Hb H2/\(∀ b o,H b=some o->H2 b=some o)/\∃ k,H2 c=some (.frz oc k):=by
   rcases (I.freeC x c hc).2 with z | ⟨o,u,z⟩
   ·refine ⟨_,I.freeze hx.1 hc z (hab x c hc) hoc,fun b o e=>?_,fun b o e=>?_,_,zac⟩
    ·rw [zab (zae (sm b o e) z)]
     exact sm b o e
    ·rw [zab (zae e z)]
     exact e
   ·obtain ⟨z1,_⟩:=I.hok c _ z
    rw [hoc] at z1
    cases z1
    exact ⟨H,I,sm,fun _ _ e=>e,u,z⟩
  obtain ⟨H3,I3,s3,k3,h3⟩:=zmp N ps vs hps hab r H2 (fun y hy=>hf y (fk _ hy)) I2 s2 hb
  refine ⟨H3,I3,s3,fun b o e=>k3 b o (k2 b o e),fun i y v hy e1 e2=>?_⟩
  by_cases f:y=x
  ·subst f
   obtain ⟨hN,hσ⟩:=hps i y v e1 e2
   obtain ⟨m,hn,hl⟩:=I.loc
   obtain ⟨u,ru,l⟩:=hl i y v hN hσ (.inr (.inl hx.2))
   rcases l with ⟨q,_⟩ | ⟨_,c',d,o',a,g⟩
   ·rw [show X.env.kindOf y=some .cell from hx.2] at q
    cases q
   ·rw [hc] at d
    cases d
    rw [hoc] at a
    cases a
    obtain ⟨k,z⟩:=hz
    exact ⟨c,hc,oc,u,k,k3 c _ z,g,ru⟩
  ·rcases gs.mp hy with q | q
   ·exact absurd q f
   ·exact h3 i y v q e1 e2
theorem zw4 {k:Nat}{f:Addr}{name qual:Str}{params:Arguments}{body:List Stmt}{scope:Scope}{dV kV doc pm cdv ct oc:Value}{an od:Option Addr}
  {osl:Array (Option Value)}{N ps fz:List Str}{sp:Sp}(lk:K.lookup f=some ⟨oc,od,.func (PySem.W.fnOf name qual params body scope dV kV doc pm an cdv ct),osl⟩)(hcd:PySem.W.codeIn K cdv qual=true)(S:zal N ps scope)
  (hfz:∀ x∈fz,scope.names.lookup x=some .cell)(len:∀ vs H Q E,sp vs H Q E->vs.length=ps.length)
  (hbody:∀ (A:Around) (outer:List Env) (s:Shared) (H:Hp) (vs:List V) (Q:VK) (E:XK),zee k (A.deeper (envOfC qual scope s.heap.objs.size f cdv))->sp vs H Q E ->
   ∀ H1:Hp,zau H H1->(∀ (i:Nat) x v,x∈fz->ps[i]? = some x->vs[i]? = some v->∃ c,(envOfC qual scope s.heap.objs.size f cdv).cells.lookup x=some c/\zfx H1 c v) ->
   ∃ t,PSs (zq9 CX0 P w K mg base N qual scope f cdv A outer s H E (fun x=> !fz.contains x)).nox body t/\t { nx:=fun _ H'=>Q .non H',rt:=Q } (start N vs) H1) :
  zdl P w K mg base CX0 (k+1) f (PySem.W.fnOf name qual params body scope dV kV doc pm an cdv ct) ps sp:=by
 refine ⟨len,fun A outer s H args us vs Q E hr e0 hb r g=>?_⟩
 have hl:=len _ _ _ _ g
 have KX:K.In s.heap:=e0.mod.kin.keeps fun b o e=>(e0.bs b o e).1
 have l:s.heap.NoLimit:=e0.mod.nolimit.keeps fun b o e=>(e0.bs b o e).1
 have m:ps.length<=N.length:=by have:=congrArg kj S.pre; rw [gq] at this; omega
 have a:∀ y∈ps.zip us,scope.names.lookup y.1=some .local\/(scope.names.lookup y.1=some .cell/\((cellsFrom (s.heap.objs.size+1) scope.names []).lookup y.1).isSome=true):=fun ⟨n,v⟩ hy=>by
  rcases S.par n (jz hy).1 with q | q
  ·exact .inl q
  ·exact .inr ⟨q,kc _ _ _ (.inl q)⟩
 refine codeAny_call_function hr.depth (KX _ _ lk) rfl S.co S.gen rfl (mq KX hcd) (hb _ _ _ _ ?_)
 refine wpAny_newFunctionEnv_cells S.kind a fun env he s1 x=>?_
 subst he
 refine ⟨l.keeps x.toInCall.keep,codeAny_func ?_⟩
 have I:Inv (zq9 CX0 P w K mg base N qual scope f cdv A outer s H E (fun x=> !fz.contains x)) [] (start N vs) H s1:=zm7 S hr.hd e0 hl r x
 have h:∀ (i:Nat) y v,ps[i]? = some y->vs[i]? = some v->N[i]? = some y/\(start N vs)[i]? = some (some v):=fun i y v e1 e2=>by
  have hi:i<ps.length:=(List.getElem?_eq_some_iff.mp e1).1
  refine ⟨?_,?_⟩
  ·rw [<- S.pre,List.getElem?_take_of_lt hi] at e1
   exact e1
  ·unfold start
   rw [List.getElem?_append_left (by simp; omega),List.getElem?_map,e2]
   rfl
 obtain ⟨H1,I1,sm,_,j⟩:=zmp (X:=zq9 CX0 P w K mg base N qual scope f cdv A outer s H E (fun x=> !fz.contains x)) (Hb:=H) N ps vs h
  (fun y c e=>gx (x.above y c (PySem.mem_of_lookup e))) fz H (fun y hy=>⟨by show (!fz.contains y)=false; simp [hy],hfz y hy⟩) I (zau.refl H) (fun y c e=>e0.hok.fresh (gx (x.above y c (PySem.mem_of_lookup e))))
 obtain ⟨t,ht,hq⟩:=hbody A outer s H vs Q E (hr.deeper _) g H1 sm j
 refine wpAny_mono (ht.nox [] s1 (start N vs) H1 _ I1 hq) (fun fl s' hs=>?_) fun e s' hs=>hs
 have d:∀ {σ':St} {H':Hp} {v:V} {u:Value},Inv (zq9 CX0 P w K mg base N qual scope f cdv A outer s H E (fun x=> !fz.contains x)) [] σ' H' s'->zbp v u->Q v H'->CE outer P w H s Q u s' :=
  fun {σ' H' v u} J rv q=>⟨v,H',J.os,J.bare,J.base,J.hok,rv,q⟩
 cases fl with
 | ret u =>
  obtain ⟨v,σ',H',J,rv,q⟩:=hs
  exact d J rv q
 | next =>
  obtain ⟨σ',H',J,q⟩:=hs
  exact d (v:=V.non) (u:=Value.none) J rfl q
 | brk =>
  obtain ⟨_,_,_,q⟩:=hs
  exact False.elim q
 | cont =>
  obtain ⟨_,_,_,q⟩:=hs
  exact False.elim q
end
def zep (oc:Obj)(qual:Str):Prop:=∃ vs t,oc.data = .fields vs/\vs[1]? = some (.str qual t)
structure zgp (N ps fr:List Str)(sc:Scope):Prop where
 kind:sc.kind = .function
 co:sc.isCoroutine=false
 gen:sc.isGenerator=false
 nd:N.Nodup
 pre:N.take (ps++fr).length=ps++fr
 par:∀ x∈ps,sc.names.lookup x=some .local
 fre:∀ x∈fr,sc.names.lookup x=some .free
 nocell:∀ y∈sc.names,y.2≠ .cell
 allfr:∀ y∈sc.names,y.2 = .free->y.1∈fr
 look:∀ y∈sc.names,sc.names.lookup y.1=some y.2
def zps (qual:Str)(scope:Scope)(clos:List (Str × Addr))(L a:Addr)(cd:Value):Env :=
 { scope:=scope,locals:=L,globals:=mainGlobals,cells:=clos,qual:=qual ++ ".<locals>.",func:=some a,code:=cd,frame:=some L,builtins:=builtinsNs }
def zx5 (P:Program)(w:World)(K:W.Frag)(mg:Str->Option Value)(base:Heap)(N:List Str)(qual:Str)(scope:Scope)(clos:List (Str × Addr))(f:Addr)(cd:Value)(A:Around)(outer:List Env)(s:Shared)(H:Hp):Cx where
 prog:=P
 w:=w
 K:=K
 mg:=mg
 base:=base
 A:=A.deeper (zps qual scope clos s.heap.objs.size f cd)
 N:=N
 s₀:=s
 H₀:=H
 env:=zps qual scope clos s.heap.objs.size f cd
 outer:=outer
 stack:=zps qual scope clos s.heap.objs.size f cd :: outer
 ex:=[]
 calm:=true
 fn:=fun _=>false
 pn:=[]
 xe:=fun _ _=>False
theorem zkq {us:List Value}{x:Str}{u:Value}:∀ {ps:List Str} {us:List Value} {i:Nat},ps.Nodup->ps[i]? = some x->us[i]? = some u->(ps.zip us).reverse.lookup x=some u:=by
 intro ps us i nd h1 h2
 have mem:(x,u)∈(ps.zip us).reverse:=by
  rw [List.mem_reverse]
  refine gj (i:=i) ?_
  rw [List.getElem?_zip_eq_some]
  exact ⟨h1,h2⟩
 have a:∀ (l:List (Str × Value)),(∀ v,(x,v)∈l->v=u)->(x,u)∈l->l.lookup x=some u:=by
  intro l
  induction l with
  | nil=>intro _ h; cases h
  | cons p r ih =>
   intro hu hm
   obtain ⟨n,v⟩:=p
   rw [i0]
   by_cases e:(x == n)=true
   ·rw [e]
    have e':=beq_iff_eq.mp e
    subst e'
    exact congrArg some (hu v gb)
   ·rw [ji.mpr e]
    refine ih (fun v hv=>hu v (fk _ hv)) ?_
    rcases gs.mp hm with q | q
    ·cases q
     exact absurd (beq_self_eq_true x) e
    ·exact q
 refine a _ (fun v hv=>?_) mem
 rw [List.mem_reverse] at hv
 obtain ⟨j,hj⟩:=List.getElem?_of_mem hv
 rw [List.getElem?_zip_eq_some] at hj
 have:j=i:=zl1 nd hj.1 h1
 subst this
 rw [h2] at hj
 exact (Option.some.inj hj.2).symm
section
theorem zdo {env:Env}:∀ (names:List (Str × NameKind)) (acc cl:List (Str × Addr)),
  (forIn names acc fun (x:Str × NameKind) cs=>if (x.2 == NameKind.free)=true then (do let a <- cellOf env x.1; pure (ForInStep.yield ((x.1,a) :: cs))) else pure (ForInStep.yield cs):Sem (List (Str × Addr)))=pure cl ->
  (∀ y∈names,y.2 = .free->∃ c,env.cells.lookup y.1=some c)->∀ x c,cl.lookup x=some c->(x,NameKind.free)∈names\/∃ d,acc.lookup x=some d
 | [],acc,cl,e,_,x,c,h=>by
  have e':(pure acc:Sem (List (Str × Addr)))=pure cl:=e
  have:acc=cl:=by injection e'
  subst this
  exact .inr ⟨c,h⟩
 | (n,k) :: r,acc,cl,e,hn,x,c,h=>by
  rw [m6] at e
  by_cases hk:k = .free
  ·obtain ⟨d,hd⟩:=hn (n,k) gb hk
   rw [if_pos (by rw [hk]; rfl)] at e
   have f:cellOf env n=pure d:=by unfold cellOf; rw [hd]
   change ((cellOf env n >>= fun a=>pure (ForInStep.yield ((n,a) :: acc))) >>= _)=_ at e
   rw [f,pure_bind,pure_bind] at e
   rcases zdo r ((n,d) :: acc) cl e (fun y hy=>hn y (fk _ hy)) x c h with z | ⟨d',z⟩
   ·exact .inl (fk _ z)
   ·rw [i0] at z
    by_cases hx:(x == n)=true
    ·have b:=beq_iff_eq.mp hx
     subst b hk
     exact .inl gb
    ·rw [ji.mpr hx] at z
     exact .inr ⟨d',z⟩
  ·rw [if_neg (by simpa using hk),pure_bind] at e
   rcases zdo r acc cl e (fun y hy=>hn y (fk _ hy)) x c h with z | z
   ·exact .inl (fk _ z)
   ·exact .inr z
theorem zj5 {scope:Scope}{env:Env}(hn:∀ y∈scope.names,y.2 = .free->∃ c,env.cells.lookup y.1=some c) :
  ∃ cl,closureFor scope env=pure cl/\(∀ x c,cl.lookup x=some c->env.cells.lookup x=some c)/\(∀ y∈scope.names,y.2 = .free->∃ c,cl.lookup y.1=some c)/\∀ x c,cl.lookup x=some c->(x,NameKind.free)∈scope.names:=by
 obtain ⟨cl,e1,h1,h2,_⟩:=zfr (env:=env) scope.names [] hn (fun x c h=>by cases h)
 refine ⟨cl,?_,h1,h2,fun x c h=>?_⟩
 ·unfold closureFor
  rw [<- e1,bind_pure]
 ·rcases zdo scope.names [] cl e1 hn x c h with z | ⟨d,z⟩
  ·exact z
  ·cases z
end
def Tab (H:Hp)(P:Addr)(pos:Pos)(qual:Str):Prop:=∃ ps,H P=some (.tbl ps)/\TriplesOk ps.toList /\
 (codeAmong pos ps.toList=none\/∃ c' oc k,codeAmong pos ps.toList=some (.ref c')/\H c'=some (.frz oc k)/\zep oc qual)
theorem Tab.new {H:Hp}{P:Addr}{pos:Pos}{qual:Str}(h:H P=some (.tbl #[])):Tab H P pos qual:=⟨#[],h,trivial,.inl rfl⟩
def But (P:Addr)(H H':Hp):Prop:=(∀ b o,b≠P->H b=some o->H' b=some o)/\∀ pos qual,Tab H P pos qual->Tab H' P pos qual
theorem zhu {a b c:Value}{i j:Int}{t u:Tok}(ha:a = .int i t)(hb:b = .int j u):∀ {l:List Value},TriplesOk l->TriplesOk (l++[a,b,c])
 | [],_=>by rw [ha,hb]; exact trivial
 | .int _ _ :: .int _ _ :: _ :: r,h=>zhu (l:=r) ha hb h
theorem zau.but {H H':Hp}(P:Addr)(h:zau H H'):But P H H':=by
 refine ⟨fun b o _ e=>h b o e,fun pos qual t=>?_⟩
 obtain ⟨ps,e,ht,z⟩:=t
 refine ⟨ps,h _ _ e,ht,?_⟩
 rcases z with z | ⟨c',oc,k,z1,z2,z3⟩
 ·exact .inl z
 ·exact .inr ⟨c',oc,k,z1,h _ _ z2,z3⟩
theorem zry {P:Program}{w:World}{K:W.Frag}{mg mb:Str->Option Value}{k:Nat}{fa a:Addr}{fd:FuncData}{x:Str}{sp:Sp}{s₁:Shared}{vs:List Value}{ns:List Int}(tabs:List (Addr × Addr))
  (hT:PySem.W.TabsAt tabs s₁.heap)(hKT:∀ q∈tabs,K.lookup q.2=none)(hBm:∃ bm o,mg "__builtins__" = some (.ref bm)/\bm≠builtinsNs/\bm≠mainGlobals/\s₁.heap.get? bm=some o/\o.cls = .type "module" /\o.dict=some builtinsNs/\o.data = .plain)
  (KX:K.In s₁.heap)(hns:s₁.heap.Ns mainGlobals mg)(hb:s₁.heap.Ns builtinsNs mb)(hbb:∀ x:Str,x≠ "__name__" ->mb x=bootBuiltins x)(hlim:s₁.heap.NoLimit)(hg:s₁.gens = #[])
  (ha:s₁.heap.get? a=some { cls:= .type "list",data:= .seq vs.toArray })(hi:IntsAre vs ns)(hl:ns.length<=sizeLine)(hr:zee k callerA)
  (F:∀ base:Heap,K.In base->base.Ns mainGlobals mg->(∀ q∈tabs,base.BuiltinsAt mg q.2)->zdl P w K mg base CX0 k fa fd [x] sp)(hbind:∀ (s:Shared) (u:Value),BindsTo s fd ⟨[u],[]⟩ [(x,u)])
  (hsp:∀ H:Hp,SqL K H a (ns.map V.int)->(∀ q∈tabs,H q.2=some (.tbl #[]))->sp [.ref a] H (fun v _=>v = .bl true) fun _ _ _=>False) :
  codeAny (model P w) callerA (.call (.ref fa) ⟨[.ref a],[]⟩) (fun r s'=>r = .ok (.ret (.bool true))/\OldK s₁.heap s'.heap/\s'.os=s₁.os/\AllBare s'.gens) s₁:=by
 have rv:=zds hi
 have t:=hi.length
 have ac:∀ q∈tabs,a≠q.2:=fun q hq z=>by
  have e:=(hT q hq).2
  rw [<- z,ha] at e
  cases e
 have i:∀ (H0:Option HO),(H0=none\/∃ o xs,H0=some (.frz o (.lst xs)))->(∀ H:Hp,H a=H0->SqL K H a (ns.map V.int))->(∀ u,H0=some u->∀ H:Hp,zca P w H s₁.heap a u)->(H0≠none->K.lookup a=none) ->
   codeAny (model P w) callerA (.call (.ref fa) ⟨[.ref a],[]⟩) (fun r s'=>r = .ok (.ret (.bool true))/\OldK s₁.heap s'.heap/\s'.os=s₁.os/\AllBare s'.gens) s₁:=by
  intro H0 hO hS l ab
  let H:Hp:=fun b=>if b=a then H0 else if b∈tabs.map (·.2) then some (.tbl #[]) else none
  have Ha:H a=H0:=if_pos rfl
  have Ht:∀ q∈tabs,H q.2=some (.tbl #[]):=fun q hq=>by
   show (if q.2=a then H0 else _)=_
   rw [if_neg (ac q hq).symm,if_pos (List.mem_map_of_mem hq)]
  have Hn:∀ b,b≠a->b∉tabs.map (·.2)->H b=none:=fun b h1 h2=>by
   show (if b=a then H0 else _)=_
   rw [if_neg h1,if_neg h2]
  have aa:∀ {b:Addr} {o:Obj},s₁.heap.get? b=some o->o.cls≠ .none->b∉tabs.map (·.2):=fun {b o} e hc z=>by
   obtain ⟨q,hq,rfl⟩:=j7.mp z
   rw [(hT q hq).2] at e
   cases e
   exact hc rfl
  have hok:HOk P w H s₁.heap:=fun b u z=>by
   by_cases hb:b=a
   ·subst hb
    rw [Ha] at z
    exact l u z H
   ·by_cases f:b∈tabs.map (·.2)
    ·obtain ⟨q,hq,rfl⟩:=j7.mp f
     rw [Ht q hq] at z
     cases z
     exact (hT q hq).2
    ·rw [Hn b hb f] at z
     cases z
  have c:∀ {b:Addr} {o:Obj},s₁.heap.get? b=some o->H b=none->(zug s₁.heap H).get? b=some o:=fun e n=>zu3 e n
  have p:∀ {b:Addr} {o:Obj},s₁.heap.get? b=some o->(∀ xs n,o.data≠ .seq xs n)->(∀ xs,o.data≠ .fields xs)->H b=none:=fun {b o} e d1 d2=>by
   refine Hn b (fun z=>?_) (fun z=>?_)
   ·rw [z,ha] at e
    cases e
    exact d1 _ _ rfl
   ·obtain ⟨q,hq,rfl⟩:=j7.mp z
    rw [(hT q hq).2] at e
    cases e
    exact d2 _ rfl
  have g:∀ {b:Addr} {m:Str->Option Value},s₁.heap.Ns b m->(zug s₁.heap H).Ns b m:=fun {b m} ⟨o,es,ep,e,d,r⟩=>⟨o,es,ep,c e (p e (fun _ _ z=>by rw [d] at z; cases z) (fun _ z=>by rw [d] at z; cases z)),d,r⟩
  have y:K.In (zug s₁.heap H):=fun b o e=>c (KX b o e) (by
   by_cases hb:b=a
   ·subst hb
    rw [Ha]
    cases q:H0 with
    | none=>rfl
    | some u =>
     rw [ab (by rw [q]; simp)] at e
     cases e
   ·refine Hn b hb fun z=>?_
    obtain ⟨q,hq,rfl⟩:=j7.mp z
    rw [hKT q hq] at e
    cases e)
  have hM:Mod K mg (zug s₁.heap H):=⟨y,g hns,⟨mb,g hb,hbb⟩,let ⟨mc,h1,h2⟩:=hlim; ⟨mc,g h1,h2⟩⟩
  have e0:zui P w K mg (zug s₁.heap H) callerA [] s₁ H:=⟨rfl,hM,fun b o e=>zy4 e,jy (zsy _ _),trivial,fun b hb=>absurd (show b∈([]:List Addr) from hb) (by simp),hok,.of_eq hg⟩
  have ad:∀ q∈tabs,(zug s₁.heap H).BuiltinsAt mg q.2:=fun q hq=>by
   obtain ⟨bm,o,a1,a2,a3,a4,a5,a6,a7⟩:=hBm
   refine ⟨bm,o,a1,a2,a3,fun z=>?_,c a4 (p a4 (fun _ _ z=>by rw [a7] at z; cases z) (fun _ z=>by rw [a7] at z; cases z)),a5,a6,a7⟩
   rw [z,(hT q hq).2] at a4
   cases a4
   cases a7
  refine codeAny_mono ((F _ y (g hns) ad).run callerA [] s₁ H ⟨[.ref a],[]⟩ [.ref a] [.ref a] _ _ hr e0 (hbind s₁ (.ref a)) (.cons rfl .nil) (hsp H (hS H Ha) Ht)) fun r s' h=>?_
  cases r with
  | error e=>exact False.elim h
  | ok fl =>
   cases fl with
   | next=>exact False.elim h
   | brk=>exact False.elim h
   | cont=>exact False.elim h
   | ret u =>
    obtain ⟨v,H',os,bare,un,j,r',q⟩:=h
    have q':v = .bl true:=q
    subst q'
    obtain rfl:u=Value.bool true:=r'
    refine ⟨rfl,⟨fun b o e=>?_,fun b o e=>un.there b o e (by simp)⟩,os,bare⟩
    by_cases f:b∈tabs.map (·.2)
    ·obtain ⟨q,hq,rfl⟩:=j7.mp f
     obtain ⟨more,z⟩:=un.tbls q.2 _ (Ht q hq)
     have z2:s'.heap.get? q.2=some { cls:= .none,data:= .fields (#[]++more) }:=j q.2 _ z
     have e2:=(hT q hq).2
     rw [e] at e2
     cases e2
     exact .inr (.inl ⟨((hT q hq).1.tab (hT q hq).2).isCodeTable,rfl,#[],more,rfl,z2⟩)
    ·by_cases hb:b=a
     ·subst hb
      rcases hO with z | ⟨ob,xs,z⟩
      ·exact .inl (un.keep b o e (by rw [Ha]; exact z) (by intro z; exact absurd (show b∈([]:List Addr) from z) (by simp)) (by simp))
      ·have z1:H b=some (.frz ob (.lst xs)):=by rw [Ha]; exact z
       have z2:=un.frzs b ob _ z1
       obtain ⟨e1,_⟩:=hok b _ z1
       obtain ⟨e2,_⟩:=j b _ z2
       rw [e] at e1
       cases e1
       exact .inl e2
     ·exact .inl (un.keep b o e (Hn b hb f) (by intro z; exact absurd (show b∈([]:List Addr) from z) (by simp)) (by simp))
 cases hk:K.lookup a with
 | some o =>
  have e:=KX a o hk
  rw [ha] at e
  cases e
  exact i none (.inl rfl) (fun H _=> .inr ⟨_,vs.toArray,_,hk,rfl,rfl,rfl,by rw [fw,t]; exact hl,by simpa using rv⟩) (fun u z=>by cases z) fun z=>absurd rfl z
 | none =>
  exact i (some (.frz { cls:= .type "list",data:= .seq vs.toArray } (.lst (ns.map V.int)))) (.inr ⟨_,_,rfl⟩) (fun H e=> .inl (.inr ⟨_,e⟩)) (fun u z H=>by cases z; exact ⟨ha,by rw [fj]; exact hl,vs,_,rv,ha⟩) fun _=>hk
theorem walk_ofT {l:PySem.W.OpenLaw}{n k:Nat}{q:Program}{loose:List Str}{XP:(Str->Option Value)->Heap->Prop}{YP:World->Heap->Prop}{d:DefRec}{K:Params->PySem.W.Frag}{ts:List Addr}{sp:PySem.W.Frag->List (Addr × Addr)->Sp}{x:Str}
  (hn:l.most=some n)(hn2:n<=sizeLine)(hdf:d.params.defaults=[])(hr:zee k callerA)
  (hY:∀ (w:World) (h:Heap),YP w h->(K w.params).In h)(hYT:∀ (w:World) (h:Heap),YP w h->∀ P∈ts,h.get? P=some (nu #[]))
  (F:∀ (w:World) (mg:Str->Option Value) (fa:Addr) (h:Heap),(K w.params).In h->h.Ns mainGlobals mg->mg d.name=some (.ref fa) ->
   ∃ (fd:FuncData) (tabs:List (Addr × Addr)),(∀ q∈tabs,q.2∈ts/\PySem.W.codeHdIn (K w.params) q.1 q.2=true/\(K w.params).lookup q.2=none)/\(∀ (s:Shared) (u:Value),BindsTo s fd ⟨[u],[]⟩ [(x,u)]) /\
    ∀ base:Heap,(K w.params).In base->base.Ns mainGlobals mg->(∀ q∈tabs,base.BuiltinsAt mg q.2)->zdl l.prog w (K w.params) mg base CX0 k fa fd [x] (sp (K w.params) tabs))
  (hsp:∀ (K:W.Frag) (tabs:List (Addr × Addr)) (H:Hp) (a:Addr) (ns:List Int),ns.length<=n->SqL K H a (ns.map V.int)->(∀ q∈tabs,H q.2=some (.tbl #[]))->sp K tabs [.ref a] H (fun v _=>v = .bl true) fun _ _ _=>False) :
  PySem.W.WalkO q loose XP YP l.row.toRowW d [] (fun f vs=>PySem.call f vs):=by
 refine Att.attach_call hn hdf fun w s₀ s₁ mg mb fa o pm cd doc a vs ns G Y ho hd t m j i c hg=>?_
 have KX:=hY w _ Y
 obtain ⟨fd,tabs,hT,hb,hF⟩:=F w mg fa _ KX G.T.g m
 have r:∃ bm o,mg "__builtins__" = some (.ref bm)/\bm≠builtinsNs/\bm≠mainGlobals/\s₁.heap.get? bm=some o/\o.cls = .type "module" /\o.dict=some builtinsNs/\o.data = .plain:=by
  obtain ⟨bm,ob,b1,b2,b3,b4,b5,b6⟩:=G.T.bmain
  refine ⟨bm,ob,b1,b2,fun z=>?_,b3,b4,b5,b6⟩
  obtain ⟨o,es,ep,e,hd,_⟩:=G.T.g
  rw [z,e] at b3
  cases b3
  rw [hd] at b6
  cases b6
 exact zry tabs (fun q hq=>⟨lm KX (hT q hq).2.1,hYT w _ Y _ (hT q hq).1⟩) (fun q hq=>(hT q hq).2.2) r KX G.T.g G.T.b G.T.builtins G.T.nolimit hg j i (gm c hn2) hr hF hb (fun H hS p=>hsp _ tabs H a ns c hS p)
def NAs (K:W.Frag)(C:Addr):List Str->Prop
 | []=>True
 | a :: r=>zig K C a/\NAs K C r
structure DfC (K:W.Frag)(mg:Str->Option Value)(x:Str)(as:List Str) where
 C:Addr
 hm:mg x=some (.ref C)
 cl:Cls K C
 na:NAs K C as
 mks:PySem.W.makesIn K C=true
 kp:PySem.W.keepIn K (.ref C)=true
structure DfM (K:W.Frag)(C:Addr)(m qual:Str)(st:Stmt)(ps:List Str) where
 f:Addr
 fd:FuncData
 fn:Fun K m qual st f fd
 me:zz6 K C m f
 b:zce K fd ps []
theorem DfM.mk' {K:W.Frag}{mg:Str->Option Value}{x q:Str}{as ps:List Str}{st:Stmt}(D:DfC K mg x as)(I:DfM K D.C "__init__" q st ps):Mk K D.C I.f:=⟨D.mks,I.me.at_,I.me.fn,D.kp⟩
structure DfF (K:W.Frag)(mg:Str->Option Value)(x:Str)(st:Stmt)(ps:List Str) where
 f:Addr
 c:Addr
 P:Addr
 fd:FuncData
 ex:∃ (oc:Value) (od:Option Addr) (kV doc pm:Value) (an:Option Addr) (ct:Value) (osl:Array (Option Value)),
  fd=PySem.W.fnOf x x (zb6 st) (zbd st) (zai st) .none kV doc pm an (.ref c) ct/\K.lookup f=some ⟨oc,od,.func fd,osl⟩
 cd:PySem.W.codeIn K (.ref c) x=true
 ch:PySem.W.codeHdIn K c P=true
 nt:K.lookup P=none
 kp:PySem.W.keepIn K (.ref f)=true
 hm:mg x=some (.ref f)
 b:zce K fd ps []
section
variable {P:Program} {w:World} {K:W.Frag} {mg:Str->Option Value} {base:Heap}
theorem DfF.ok {x:Str}{st:Stmt}{N ps fz:List Str}{k:Nat}{sp:Sp}(D:DfF K mg x st ps)(hK:K.In base)(S:zal N ps (zai st))(hfz:∀ x∈fz,(zai st).names.lookup x=some .cell)(len:∀ vs H Q E,sp vs H Q E->vs.length=ps.length)
  (hbody:∀ (A:Around) (outer:List Env) (s:Shared) (H:Hp) (vs:List V) (Q:VK) (E:XK),zee k (A.deeper (envOfC x (zai st) s.heap.objs.size D.f (.ref D.c)))->sp vs H Q E ->
   ∀ H1:Hp,zau H H1->(∀ (i:Nat) y v,y∈fz->ps[i]? = some y->vs[i]? = some v->∃ c,(envOfC x (zai st) s.heap.objs.size D.f (.ref D.c)).cells.lookup y=some c/\zfx H1 c v)->PySem.W.CodeHd base D.c D.P ->
   ∃ t,PSs (zq9 CX0 P w K mg base N x (zai st) D.f (.ref D.c) A outer s H E (fun y=> !fz.contains y)).nox (zbd st) t/\t { nx:=fun _ H'=>Q .non H',rt:=Q } (start N vs) H1) :
  zdl P w K mg base CX0 (k+1) D.f D.fd ps sp:=by
 have hC:=lm hK D.ch
 obtain ⟨f,c,T,fd,⟨oc,od,kV,doc,pm,an,ct,osl,rfl,lk⟩,cd,ch,nt,kp,hm,b⟩:=D
 exact zw4 lk cd S hfz len fun A outer s H vs Q E hr a H1 sm hc=>hbody A outer s H vs Q E hr a H1 sm hc hC
end
def z1m (outer inner:Scope):Bool:=inner.names.all fun y=>y.2 != .free || (outer.names.lookup y.1 == some .cell || outer.names.lookup y.1 == some .free)
theorem zfj {X:Cx}{scope:Scope}(h:z1m X.env.scope scope=true):∀ y∈scope.names,y.2 = .free->X.env.kindOf y.1=some .cell\/X.env.kindOf y.1=some .free:=fun y hy hf=>by
 have q:=jg.mp h y hy
 rw [hf] at q
 simp at q
 exact q
theorem zpx {n:Int}:∀ {ns:List Int},n∈ns->ns.erase n=ns.eraseIdx (ns.idxOf n)
 | [],h=>nomatch h
 | a :: r,h=>by
  by_cases e:a=n
  ·subst e
   simp
  ·have h':n∈r:=by
    rcases gs.mp h with z | z
    ·exact absurd z.symm e
    ·exact z
   have e':(a == n)=false:=by simpa using e
   rw [List.erase_cons,if_neg (by simpa using e),List.idxOf_cons,e',cond_false,List.eraseIdx_cons_succ,zpx h']
theorem zng {n:Int}:∀ {ns:List Int} {i:Nat} (h:i<ns.length),i<ns.idxOf n->ns[i]≠n
 | [],_,h,_=>nomatch h
 | a :: r,i,h,hi=>by
  rw [List.idxOf_cons] at hi
  by_cases e:a=n
  ·subst e
   simp at hi
  ·rw [show (a == n)=false by simpa using e,cond_false] at hi
   cases i with
   | zero=>exact e
   | succ i=>exact zng (ns:=r) (i:=i) (by simpa using h) (by omega)
theorem zht {α β:Type}(f:α->β):∀ (l:List α) (i:Nat),(l.map f).eraseIdx i=(l.eraseIdx i).map f
 | [],_=>rfl
 | _ :: _,0=>rfl
 | a :: r,i+1=>by simp [zht f r i]
def zzj:V->List V->Hp->VK->Prop:=fun x vs H Q=>∃ (l:Addr) (ns:List Int) (n:Int),x = .ref l/\vs=[.int n]/\H l=some (.lst (ns.map V.int))/\n∈ns/\Q .non (upd H l (.lst ((ns.erase n).map V.int)))
theorem zne {X:Cx}:MtM X "list.remove" zzj:=by
 intro pins s σ H x vs v us Q I rx rv h
 obtain ⟨l,ns,n,rfl,rfl,hH,hn,q⟩:=h
 cases rx
 obtain ⟨u,rfl,t,rfl⟩:=rv.one
 obtain ⟨z,its,m,r,hl,e⟩:=I.lstM hH
 rw [fj] at hl
 have at_:∀ i (hi:i<its.length),∃ t,its[i]=Value.int (ns[i]'(by omega)) t:=fun i hi=>by
  have b:i<ns.length:=by omega
  obtain ⟨u,e1,e2⟩:=r.get (i:=i) (x:=V.int ns[i]) (by simp [b])
  obtain ⟨t,rfl⟩:=e2
  rw [List.getElem?_eq_getElem hi] at e1
  exact ⟨t,Option.some.inj e1⟩
 have hj:ns.idxOf n<ns.length:=List.idxOf_lt_length_of_mem hn
 refine call_meets F.slot_list_remove ⟨_,e,rfl⟩ F.entry_list_remove (F.args_list_remove_2 _ _)
  (MeetsSeq.list_remove l its.toArray m (.int n t) (fun y=>match y with | .int a _=>a == n | _=>false) (fun y hy=>?_) (ns.idxOf n) (by rw [fw]; omega) ?_ (fun i hi c=>?_) (by rw [fw,<- hl]; simpa using z)) ⟨e,?_⟩
 ·have d:y∈its:=by simpa using hy
  obtain ⟨i,hi,rfl⟩:=jm d
  obtain ⟨t',e'⟩:=at_ i hi
  rw [e']
  exact MeetsSeq.EqGives.int _ n t' t
 ·have hi:ns.idxOf n<its.length:=by omega
  obtain ⟨t',e'⟩:=at_ _ hi
  rw [List.getElem_toArray,e',List.getElem_idxOf]
  simp
 ·have b:i<its.length:=by simpa using hi
  obtain ⟨t',e'⟩:=at_ i b
  rw [List.getElem_toArray,e']
  have:=zng (by omega) c
  simpa using this
 ·refine ⟨.non,_,I.lset (its':=its.eraseIdx (ns.idxOf n)) hH e ?_ ?_ ?_,rfl,q⟩
  ·show its.toArray.eraseIdxIfInBounds (ns.idxOf n)=_
   rw [List.eraseIdxIfInBounds_toArray]
  ·rw [zpx hn,<- zht]
   exact r.eraseIdx _
  ·rw [fj]
   have:=im hn
   rw [fj] at z
   omega
theorem zau.put {H H2:Hp}{p:Addr}{o:HO}(h:zau H H2)(hp:H p=none):zau H (upd H2 p o):=fun b u e=>by
 rw [zab (zae e hp)]
 exact h b u e
theorem zin {n:Int}{ns:List Int}:inV (V.int n) (ns.map V.int)=decide (n∈ns):=by
 unfold inV
 induction ns with
 | nil=>rfl
 | cons a r ih =>
  rw [gz,kn,ih]
  by_cases h:a=n
  ·subst h
   simp [eqV]
  ·simp [eqV,h,Ne.symm h]
theorem zel:∀ ns:List Int,(ns.map V.int).all zlz=true
 | []=>rfl
 | a :: r=>by
  rw [gz,ml,zel r]
  rfl
theorem z3j (x:Int)(ns:List Int):zj8 ((x :: ns).map V.int) (some 1) none=ns.map V.int:=by
 unfold zj8
 have e1:HT.sIx ((x :: ns).map V.int).length 0 (some 1)=1:=by
  have:=HT.sIx_nat ((x :: ns).map V.int).length 0 1
  rw [show ((1:Nat):Int)=1 from rfl] at this
  rw [this]
  simp
 rw [e1,HT.sIx_none,gz,List.drop_succ_cons,lg]
 exact i3 (by simp)
def zqx (p:Addr)(H H':Hp):Prop:=∀ c o,H c=some o->c≠p->H' c=some o
structure zg3 (p:Prop):Prop where
 out:p
theorem zu9 {α:Type}(v:α)(vs:List α):atI (v :: vs) 0=some v:=zlo (xs:=v :: vs) (j:=0) rfl
def zc7 (ns:List Int):List Int:=firstMet (fun i=>ns.getD i 0) ns.length
theorem zcl {ns:List Int}{k:Int}:k∈zc7 ns↔k∈ns:=by
 have h:=firstMet_any (fun i=>ns.getD i 0) ns.length k
 have e:(js ns.length).map (fun i=>ns.getD i 0)=ns:=by
  apply lq
  ·simp
  ·intro i h1 h2
   simp at h1
   simp [h1]
 rw [e] at h
 have a:(zc7 ns).any (· == k)=true↔k∈zc7 ns:=by simp
 have b:ns.any (· == k)=true↔k∈ns:=by simp
 rw [<- a,<- b]
 unfold zc7
 rw [h]
theorem zqr {σ:List Int}{v:Int}(h:σ.Nodup):(step_dedup σ v).Nodup:=by
 unfold step_dedup
 split
 ·exact h
 ·rename_i hv
  have hv:v∉σ:=by simpa using hv
  rw [jt]
  refine ⟨h,by simp,?_⟩
  intro a ha b hb
  rw [fi.mp hb]
  rintro rfl
  exact hv ha
theorem zfy (val:Nat->Int):∀ i,(firstMet val i).Nodup
 | 0=>ii
 | i+1=>by rw [firstMet_succ]; exact zqr (zfy val i)
theorem zeu (ns:List Int):(zc7 ns).Nodup:=zfy _ _
theorem zis (ns:List Int):(zc7 ns).length<=ns.length:=firstMet_length_le _ _
theorem zf7 {K:W.Frag}{a D:Addr}{ns:List Int}{tc:TT}{Q:VK}{σr:St}{H:Hp}(p:Int->Bool)(hD:H D=none)(ha:SqL K H a (ns.map V.int))(hlen:ns.length<=1000)
  (ht:∀ x∈ns,∀ H' (Qt:Bool->Hp->Prop),zau H H'->(∀ H'',zau H' H''->Qt (p x) H'')->tc (some (.int x) :: σr) H' Qt)
  (hq:∀ H',zau H H'->H' D=some (.lst ((ns.filter p).map V.int))->Q (.ref D) H') :
  zs7 (Itl K a) (zmv 0) tc (zvw 0) Q D (none :: σr) (upd H D (.lst [])):=by
 refine zdv (xs:=ns.map V.int) (fun i σ H'=>∃ v,σ=v :: σr/\zau H H'/\H' D=some (.lst (((ns.take i).filter p).map V.int))) ⟨none,rfl,zau.new H hD,zac⟩ (fun i σ H' _ ⟨v,_,s,_⟩=>s.seq ha) ?_ ?_
 ·rintro i x σ H' hi ⟨v,rfl,s,hd⟩
  obtain ⟨h1,h2⟩:=List.getElem?_eq_some_iff.mp hi
  rw [List.getElem_map] at h2
  subst h2
  rw [fj] at h1
  have et:ns.take (i+1)=ns.take i++[ns[i]]:=by rw [gu h1]
  refine ht ns[i] (jp h1) H' _ s fun H'' s2=>?_
  have b:=s2 _ _ hd
  by_cases hp:p ns[i]=true
  ·rw [if_pos hp]
   refine ⟨_,rfl,_,b,?_,⟨_,rfl,(s.trans s2).put hD,?_⟩⟩
   ·rw [fj]
    have:=ib p (ns.take i)
    rw [gq] at this
    exact zar (by omega)
   ·rw [zac,et,jd,gy]
    simp [hp]
  ·rw [if_neg hp]
   refine ⟨_,rfl,s.trans s2,?_⟩
   rw [b,et,jd]
   simp [hp]
 ·rintro σ H' ⟨v,rfl,s,hd⟩
  rw [fj,gr] at hd
  exact hq H' s hd
section
variable {X:Cx} {K:W.Frag}
theorem zrx {e:Expr}{ta:TE}{f:Str}{pos:Pos}(h:X.K=K)(he:PE X e ta)(hb:attributeBase e f X.env (eval e X.env)=eval e X.env):PE X (.Attribute e f pos) (z3c K ta f):=h ▸ zav he hb
end
def Ris (xs:Array Nat):Prop:=∀ (i k:Nat) (hk:k<xs.size) (hi:i<k),xs[i]<xs[k]
theorem zlu {xs:Array Nat}{j:Nat}:∀ (fuel lo hi:Nat),hi - lo<=fuel->lo<=hi->hi<=xs.size->Ris xs->(∀ (i:Nat) (h:i<xs.size),i<lo->xs[i]<j)->(∀ (i:Nat) (h:i<xs.size),hi<=i->j<=xs[i]) ->
  SetTable.below.go xs j fuel lo hi<=xs.size/\(∀ (i:Nat) (h:i<xs.size),i<SetTable.below.go xs j fuel lo hi->xs[i]<j)/\∀ (i:Nat) (h:i<xs.size),SetTable.below.go xs j fuel lo hi<=i->j<=xs[i]
 | 0,lo,hi,hf,hl,hh,hr,h1,h2=>by
  unfold SetTable.below.go
  exact ⟨by omega,h1,fun i h hi'=>h2 i h (by omega)⟩
 | fuel+1,lo,hi,hf,hl,hh,hr,h1,h2=>by
  unfold SetTable.below.go
  by_cases h:lo<hi
  ·rw [if_pos h]
   have hm:(lo+hi) / 2<xs.size:=by omega
   have e:xs.getD ((lo+hi) / 2) j=xs[(lo+hi) / 2]:=by simp [getD,hm]
   dsimp only
   rw [e]
   by_cases a:xs[(lo+hi) / 2]<j
   ·rw [if_pos a]
    refine zlu fuel _ hi (by omega) (by omega) hh hr (fun i hi' c=>?_) h2
    by_cases e2:i=(lo+hi) / 2
    ·subst e2; exact a
    ·exact ma (hr i ((lo+hi) / 2) hm (by omega)) a
   ·rw [if_neg a]
    refine zlu fuel lo _ (by omega) (by omega) (by omega) hr h1 (fun i hi' b=>?_)
    by_cases e2:i=(lo+hi) / 2
    ·subst e2; omega
    ·have:=hr ((lo+hi) / 2) i hi' (by omega)
     omega
  ·rw [if_neg h]
   exact ⟨by omega,h1,fun i h hi'=>h2 i h (by omega)⟩
theorem zfq {xs:Array Nat}(hr:Ris xs)(j:Nat):SetTable.below xs j<=xs.size/\(∀ (i:Nat) (h:i<xs.size),i<SetTable.below xs j->xs[i]<j)/\∀ (i:Nat) (h:i<xs.size),SetTable.below xs j<=i->j<=xs[i]:=by
 unfold SetTable.below
 exact zlu xs.size 0 xs.size (by omega) (by omega) (by omega) hr (fun i _ h=>absurd h (by omega)) (fun i h h'=>absurd h (by omega))
theorem zus {xs:Array Nat}(hr:Ris xs){i:Nat}(h:i<xs.size):SetTable.below xs (xs[i]+1)=i+1:=by
 obtain ⟨h0,h1,h2⟩:=zfq hr (xs[i]+1)
 apply Classical.byContradiction
 intro ne
 rcases Nat.lt_or_gt_of_ne ne with z | z
 ·have:=h2 i h (by omega)
  omega
 ·have h3:i+1<xs.size:=by omega
  have:=h1 (i+1) h3 z
  have:=hr i (i+1) h3 (by omega)
  omega
theorem zqu {xs:Array Nat}(hr:Ris xs):SetTable.below xs 0=0:=by
 obtain ⟨h0,h1,_⟩:=zfq hr 0
 apply Classical.byContradiction
 intro ne
 have h:0<xs.size:=by omega
 have:=h1 0 h (by omega)
 omega
theorem zt9 {t:SetTable}(hr:Ris t.place){j:Nat}(h:∀ i,t.slot j≠ .live i):∀ (i:Nat) (hi:i<t.place.size),t.place[i]≠j:=by
 intro i hi e
 obtain ⟨h0,h1,h2⟩:=zfq hr j
 have hb:SetTable.below t.place j=i:=by
  apply Classical.byContradiction
  intro ne
  rcases Nat.lt_or_gt_of_ne ne with z | z
  ·have hz:SetTable.below t.place j<t.place.size:=by omega
   have:=h2 _ hz (gf _)
   have:=hr _ i hi z
   omega
  ·have:=h1 i hi z
   omega
 apply h (SetTable.below t.place j)
 unfold SetTable.slot
 dsimp only
 rw [if_pos]
 rw [hb]
 simp [hi,e]
theorem zlg {t:SetTable}{f:Nat->Int}{h:Int}:∀ (fuel:Nat) (p:SetTable.Probe) (j:Nat) (d:Option Nat),(∀ x,p.dummy=some x->t.slot x = .dummy)->SetTable.probe.go t f h fuel p=some (.empty j d)->t.slot j = .empty/\∀ x,d=some x->t.slot x = .dummy
 | 0,p,j,d,hp,e=>by cases e
 | fuel+1,p,j,d,hp,e=>by
  have adv:∀ q:SetTable.Probe,(t.advance q).dummy=q.dummy:=fun q=>by
   unfold SetTable.advance
   split <;> rfl
  unfold SetTable.probe.go at e
  split at e
  ·rename_i hs
   cases e
   exact ⟨hs,hp⟩
  ·rename_i hs
   refine zlg fuel _ j d (fun x hx=>?_) e
   rw [adv] at hx
   cases hx
   exact hs
  ·split at e
   ·cases e
   ·refine zlg fuel _ j d (fun x hx=>?_) e
    rw [adv] at hx
    exact hp x hx
theorem zlh {t:SetTable}{h:Int}{s:Nat}{b:Bool}(e:t.freeSlot h=some (s,b)):∀ i,t.slot s≠ .live i:=by
 unfold SetTable.freeSlot at e
 split at e
 ·rename_i j d hp
  obtain ⟨h1,h2⟩:=zlg _ _ j d (fun x hx=>by cases hx) hp
  have e1:d.getD j=s:=congrArg Prod.fst (Option.some.inj e)
  intro i
  cases d with
  | none =>
   have:j=s:=e1
   subst this
   rw [h1]
   exact fun z=>nomatch z
  | some x =>
   have:x=s:=e1
   subst this
   rw [h2 x rfl]
   exact fun z=>nomatch z
 ·cases e
theorem zrq {xs:Array Nat}(h:xs.toList.Pairwise (· < ·)):Ris xs:=fun i k hk hi=>by
 have:=List.pairwise_iff_getElem.mp h i k (by simpa using ma hi hk) (by simpa using hk) hi
 simpa using this
theorem Ris.list {xs:Array Nat}(h:Ris xs):xs.toList.Pairwise (· < ·):=List.pairwise_iff_getElem.mpr fun i k hi hk hik=>by
 have:=h i k (by simpa using hk) hik
 simpa using this
theorem zxn {t:SetTable}(hr:Ris t.place){j:Nat}(h:∀ i,t.slot j≠ .live i):Ris (t.put j).1.place:=by
 have nf:=zt9 hr h
 obtain ⟨h0,h1,h2⟩:=zfq hr j
 refine zrq ?_
 show (SetTable.insertAt t.place (SetTable.below t.place j) j).toList.Pairwise (· < ·)
 have e:(SetTable.insertAt t.place (SetTable.below t.place j) j).toList=t.place.toList.take (SetTable.below t.place j)++j :: t.place.toList.drop (SetTable.below t.place j):=by
  unfold SetTable.insertAt
  simp [Array.toList_extract,List.extract_eq_drop_take]
  rw [<- ie,i3 (by simp)]
 rw [e]
 have lp:=hr.list
 refine List.pairwise_append.mpr ⟨lp.sublist (l4 _ _),iy.mpr ⟨fun y hy=>?_,lp.sublist (List.drop_sublist _ _)⟩,fun x hx y hy=>?_⟩
 ·obtain ⟨k,hk,rfl⟩:=jm hy
  rw [ki] at hk
  have hs:t.place.toList.length=t.place.size:=by simp
  have x1:=h2 (SetTable.below t.place j+k) (by omega) (by omega)
  have x2:=nf (SetTable.below t.place j+k) (by omega)
  rw [List.getElem_drop,ke]
  omega
 ·have a:x<j:=by
   obtain ⟨k,hk,rfl⟩:=jm hx
   rw [gq] at hk
   have hs:t.place.toList.length=t.place.size:=by simp
   rw [List.getElem_take,ke]
   exact h1 k (by omega) (by omega)
  rcases gs.mp hy with z | z
  ·rw [z]; exact a
  ·obtain ⟨k,hk,rfl⟩:=jm z
   rw [ki] at hk
   have hs:t.place.toList.length=t.place.size:=by simp
   have x1:=h2 (SetTable.below t.place j+k) (by omega) (by omega)
   rw [List.getElem_drop,ke]
   omega
theorem zer (t:SetTable)(n:Nat):Ris (t.standIn n).place:=zrq (by
 show (Array.range n).toList.Pairwise (· < ·)
 rw [Array.toList_range]
 exact List.pairwise_lt_range)
structure zfv (led:Bool)(t:SetTable):Prop where
 ris:Ris t.place
 led:t.led=led
theorem zfv.plainOff {led:Bool}{t:SetTable}(h:zfv led t):zfv led { t with plain:=false }:=⟨h.ris,h.led⟩
theorem zfv.orStandIn {led:Bool}{t:SetTable}(h:zfv led t)(n:Nat):zfv led (t.orStandIn n):=by
 unfold SetTable.orStandIn
 split
 ·exact h
 ·exact ⟨zer t n,h.led⟩
theorem zt5 {led:Bool}{t:SetTable}(h:zfv led t)(es:Array (Int × Value))(k:Int)(x:Value):zfv led (layNew t es k x).2.1:=by
 unfold layNew
 split
 ·rename_i s b e
  exact zfv.orStandIn (t:=(t.put s).1) ⟨zxn h.ris (zlh e),h.led⟩ _
 ·exact ⟨zer t _,h.led⟩
theorem zst {led:Bool}{t t':SetTable}{order:Array Nat}{hs:Array Int}{n:Nat}(h:zfv led t)(e:t.relaid hs n=some (t',order)):zfv led t':=by
 unfold SetTable.relaid SetTable.laid at e
 cases q:SetTable.layClean (SetTable.sizeAbove n - 1) hs with
 | none=>rw [q] at e; cases e
 | some owner =>
  rw [q] at e
  have e':some _=some (t',order):=e
  have e1:=congrArg Prod.fst (Option.some.inj e')
  subst e1
  refine ⟨?_,h.led⟩
  have g:∀ (l:List Nat),l.Pairwise (· < ·)->((l.filterMap fun j=>(owner.getD j none).map (fun y=>(j,y))).map (·.1)).Pairwise (· < ·):=by
   intro l hl
   induction l with
   | nil=>exact List.Pairwise.nil
   | cons a r ih =>
    obtain ⟨h1,h2⟩:=iy.mp hl
    have ih:=ih h2
    rw [i4]
    cases z:owner.getD a none with
    | none=>simpa using ih
    | some y =>
     simp only [l8,gz]
     refine iy.mpr ⟨fun b hb=>?_,ih⟩
     obtain ⟨⟨c,d⟩,hc,rfl⟩:=j7.mp hb
     obtain ⟨j,hj,f⟩:=iw.mp hc
     cases zz:owner.getD j none with
     | none=>rw [zz] at f; cases f
     | some v =>
      rw [zz] at f
      cases f
      exact h1 _ hj
  refine zrq ?_
  have hp:=g (js (SetTable.sizeAbove n - 1+1)) List.pairwise_lt_range
  simpa using hp
theorem zn4 {led:Bool}{t:SetTable}(h:zfv led t)(es:Array (Int × Value))(n:Nat):zfv led (relayAll t es n).2.1:=by
 unfold relayAll
 split
 ·rename_i t' order e
  dsimp only
  split
  ·exact zst h e
  ·exact ⟨zer t _,h.led⟩
 ·exact ⟨zer t _,h.led⟩
def zou (w:World):Bool:= !w.params.followText "set-order"
def zme (P:Program)(w:World)(h:Heap)(a:Addr)(ks:List Int):Prop :=
 ∃ o es ep t,h.get? a=some o/\o.ExactSet/\o.data = .set es ep t/\ElemsOf (intKind P w) es.toList/\(∀ k,k∈ks↔∃ e∈es.toList,(intKind P w).is k e.2=true)/\es.size<scanBound/\t.fits es.size=true/\es.size=ks.length/\zfv (zou w) t
section
variable {P:Program} {w:World} {A:Around} {E:Value->Shared->Prop} {s:Shared}
theorem zme.keep {h h':Heap}{a:Addr}{ks:List Int}(x:zme P w h a ks)(k:∀ o,h.get? a=some o->h'.get? a=some o):zme P w h' a ks:=by
 obtain ⟨o,es,ep,t,ho,r⟩:=x
 exact ⟨o,es,ep,t,k o ho,r⟩
theorem zts {a:Addr}{o:Obj}{es es2:Array (Int × Value)}{ep:Nat}{t t2:SetTable}{ks:List Int}{Q:Unit->Shared->Prop}(ho:s.heap.get? a=some o)(hex:o.ExactSet)(hd:o.data = .set es ep t)
  (hel:ElemsOf (intKind P w) es2.toList)(hm:∀ k,k∈ks↔∃ e∈es2.toList,(intKind P w).is k e.2=true)(hb:es2.size<scanBound)(hf:t2.fits es2.size=true)(hn:es2.size=ks.length)(hT:zfv (zou w) t2)
  (q:∀ h' o',Heap.SameBut a s.heap h'->h'.get? a=some o'->o'.ExactSet->o'.data = .set es2 (ep+1) t2->zme P w h' a ks->Q () { s with heap:=h' }):wpAny (model P w) A (storeSet a es2 t2) Q E s:=by
 refine wpAny_storeSet_of ho hd ?_ (fits_of_scanBound hb)
 obtain ⟨g,_⟩:=SetOf_store (knd:=intKind P w) (S':=fun k=>decide (k∈ks)) ho hex hd hel (fun k=>by rw [decide_eq_true_eq]; exact hm k) hb hf
 exact q _ _ (Heap.SameBut.update ..) g hex rfl ⟨_,es2,ep+1,t2,g,hex,rfl,hel,hm,hb,hf,hn,hT⟩
theorem z29 {a:Addr}{ks:List Int}{v:Int}{tk:Tok}{Q:Bool->Shared->Prop}(hS:zme P w s.heap a ks)(hroom:ks.length+1<scanBound)
  (q:∀ b h',Heap.SameBut a s.heap h'->zme P w h' a (step_dedup ks v)->Q b { s with heap:=h' }):wpAny (model P w) A (setAddHashed a (.int v tk) ((intKind P w).hash v)) Q E s:=by
 obtain ⟨o,es,ep,t,ho,u,hd,g,hm,hb,hf,hn,hT⟩:=hS
 have hk:(intKind P w).is v (.int v tk)=true:=intKind_is _ _ _ _
 unfold setAddHashed setAddHashedIn
 refine wpAny_holding (wpAny_bind (wpAny_setState_of ho hd hf ?_))
 show wpAny _ _ (if byScan (.int v tk) es=true then _ else _) _ _ _
 rw [if_pos (byScan_of rfl hb g)]
 unfold setAddByScan
 refine wpAny_bind (wpAny_bind (wpAny_rule (wpAny_bind (wpAny_setScan_of hk ho hd hf g ?_))))
 cases hr:List.findIdx? (fun e=>(intKind P w).is v e.2) es.toList with
 | some j =>
  obtain ⟨hj,ab,_⟩:=List.findIdx?_eq_some_iff_getElem.mp hr
  have hv:v∈ks:=(hm v).mpr ⟨es.toList[j],jp hj,ab⟩
  have e2:step_dedup ks v=ks:=by
   unfold step_dedup
   rw [if_pos (by simpa using hv)]
  have z:=q false s.heap (Heap.SameBut.refl a s.heap)
  rw [e2] at z
  exact wpAny_pure (wpAny_pure (z ⟨o,es,ep,t,ho,u,hd,g,hm,hb,hf,hn,hT⟩))
 | none =>
  have hv:v∉ks:=fun hv=>by
   obtain ⟨e,he,hp⟩:=(hm v).mp hv
   have:=List.findIdx?_eq_none_iff.mp hr e he
   rw [hp] at this
   cases this
  have e2:step_dedup ks v=ks++[v]:=by
   unfold step_dedup
   rw [if_neg (by simpa using hv)]
  rw [e2] at q
  dsimp only
  have pm:=layNew_perm t es ((intKind P w).hash v) (.int v tk)
  have ft:=layNew_fits t es ((intKind P w).hash v) (.int v tk)
  have d:=zt5 hT es ((intKind P w).hash v) (.int v tk)
  generalize layNew t es ((intKind P w).hash v) (.int v tk)=L at pm ft d |-
  obtain ⟨c,t1,wd,ac⟩:=L
  dsimp only at pm ft d |-
  rw [lr] at pm
  have h:ElemsOf (intKind P w) c.toList:=(g.push hk rfl).perm pm
  have ad:c.size=es.size+1:=by
   have:=pm.length_eq
   simpa using this
  have p:∀ k,k∈ks++[v]↔∃ e∈c.toList,(intKind P w).is k e.2=true:=fun k=>by
   have z:=mem_push_iff (S:=fun k=>decide (k∈ks)) hk (fun k'=>by rw [decide_eq_true_eq]; exact hm k') pm k
   rw [<- z]
   simp
  have gw:∀ (b:Bool) {s1:Shared} {Q1:Unit->Shared->Prop},Q1 () s1->wpAny (model P w) A (match b with | true=>rule "set.scan.the-table-gave-way" | false=>pure ()) Q1 E s1 :=
   fun b s1 Q1 z=>by cases b <;> first | exact wpAny_pure z | exact wpAny_rule z
  have l:∀ t2:SetTable,t2.fits c.size=true->zfv (zou w) t2->wpAny (model P w) A (do
    storeSet a c t2
    if (!wd && t2.tooFull)=true then do
      (match (relayAll t2 c (SetTable.grown c.size)).2.2 with | true=>rule "set.scan.the-table-gave-way" | false=>pure ())
      storeSet a (relayAll t2 c (SetTable.grown c.size)).1 (relayAll t2 c (SetTable.grown c.size)).2.1
      pure (some true)
     else pure (some true)) (fun r s'=>∃ h',s'={ s with heap:=h' }/\r=some true/\Heap.SameBut a s.heap h'/\zme P w h' a (ks++[v])) E s:=fun t2 f2 n=>by
   refine wpAny_bind (zts ho u hd h p (by omega) f2 (by rw [fm,fu]; omega) n fun h1 o1 m g1 x1 d1 X1=>?_)
   split
   ·have f:=relayAll_perm t2 c (SetTable.grown c.size)
    have y:=relayAll_fits t2 c (SetTable.grown c.size)
    have aa:=zn4 n c (SetTable.grown c.size)
    refine wpAny_bind (gw _ (wpAny_bind ?_))
    have ae:(relayAll t2 c (SetTable.grown c.size)).1.size=c.size:=by
     have:=f.length_eq
     simpa using this
    refine zts (s:={ s with heap:=h1 }) g1 x1 d1 (h.perm f) (fun k=>?_) (by omega) y (by rw [fm,fu]; omega) aa fun h2 o2 x g2 x2 d2 X2=>wpAny_pure ⟨h2,rfl,rfl,m.trans x,X2⟩
    rw [p k]
    exact ⟨fun ⟨e,he,z⟩=>⟨e,f.mem_iff.mpr he,z⟩,fun ⟨e,he,z⟩=>⟨e,f.mem_iff.mp he,z⟩⟩
   ·exact wpAny_pure ⟨h1,rfl,rfl,m,X1⟩
  have i:∀ {r:Option Bool} {s':Shared},(∃ h',s'={ s with heap:=h' }/\r=some true/\Heap.SameBut a s.heap h'/\zme P w h' a (ks++[v]))->wpAny (model P w) A (match r with | some added=>pure added | none=>setAddHashedIn a (.int v tk) ((intKind P w).hash v) 99999) Q E s':=fun {r s'} z=>by
   obtain ⟨h',rfl,rfl,sb,X⟩:=z
   exact wpAny_pure (q true h' sb X)
  refine wpAny_bind (gw _ ?_)
  by_cases hp:t1.plain=true
  ·rw [if_pos hp]
   refine wpAny_bind ?_
   rw [hashByValue_scannable 8 rfl]
   refine wpAny_pure ?_
   refine wpAny_mono (l _ ?_ ?_) (fun r s' z=>i z) (fun _ _ e=>e)
   ·split
    ·exact ft
    ·exact SetTable.fits_plain_off ft
   ·split
    ·exact d
    ·exact d.plainOff
  ·rw [if_neg hp]
   refine wpAny_bind (wpAny_pure ?_)
   refine wpAny_mono (l _ ?_ ?_) (fun r s' z=>i z) (fun _ _ e=>e)
   ·rw [if_pos rfl]; exact ft
   ·rw [if_pos rfl]; exact d
theorem z07 {B:Around}{R:Result->Shared->Prop}{J S:Addr}{fp wr:List Addr}{G:Array GenState->Array GenState->Prop}{n:Nat}{Pt:Nat->Value->Prop}{St:Nat->Shared->Prop}(W:WalksS P w B.in1 J fp wr G n Pt St)(hSf:S∉fp)
  (val:Nat->Int)(hval:∀ i v,Pt i v->∃ t,v = .int (val i) t)(hb:n+1<scanBound):∀ (k i:Nat) (s:Shared),n - i=k->i<=n->St i s->zme P w s.heap S (firstMet val i) ->
   (∀ s',Moved (S :: wr) G s s'->zme P w s'.heap S (firstMet val n)->R (.ok (.ret .none)) s')->codeAny (model P w) B (.builtin "set.update.loop" ⟨[.ref S,.ref J],[]⟩) R s:=by
 have nw:S∉wr:=fun z=>hSf (W.sub _ z)
 have up:∀ b∈wr,b∈S :: wr:=fun b z=> .tail _ z
 intro k
 induction k with
 | zero =>
  intro i s e1 e2 st X a
  obtain rfl:i=n:=by omega
  refine codeAny_builtin F.entry_set_update_loop ?_
  rw [ig F.plain_set_update_loop _]
  refine wpAny_bind (W.done s _ _ st fun s' mv=>?_)
  exact wpAny_pure (a s' (mv.mono up) (X.keep fun o e=>mv.heap S o nw e))
 | succ k ih =>
  intro i s e1 e2 st X a
  have hi:i<n:=by omega
  refine codeAny_builtin F.entry_set_update_loop ?_
  rw [ig F.plain_set_update_loop _]
  refine wpAny_bind (W.item i s _ _ hi st fun v s1 hp d mv=>?_)
  obtain ⟨t,rfl⟩:=hval i v hp
  have X1:zme P w s1.heap S (firstMet val i):=X.keep fun o e=>mv.heap S o nw e
  refine wpAny_bind (wpAny_holding ?_)
  unfold setAdd
  refine wpAny_holding (wpAny_bind ((intKind P w).pyHash (k:=val i) (intKind_is _ _ _ _) ?_))
  have few:=firstMet_length_le val i
  refine z29 (s:={ s1 with toks:=s1.toks+1 }) X1 (by omega) fun b h' sb X2=>?_
  rw [<- firstMet_succ] at X2
  refine wpAny_pure ⟨plainId_quiet F.plain_set_update_loop _,ih (i+1) _ (by omega) hi (W.frame _ s1 _ _ d (j3 _) fun c hc o e=>?_) X2 fun s2 f X3=>?_⟩
  ·exact (sb.2 c fun z=>hSf (z ▸ hc)).trans e
  ·exact a s2 (Moved.trans W.gtrans ((mv.mono up).then_heap (j3 _) fun c o hc e=>(sb.2 c fun z=>hc (z ▸ .head _)).trans e) f) X3
theorem z2l (u:Value){Q1:Value->Shared->Prop}(q:Q1 (.ref s.heap.objs.size) { s with heap:=s.heap.push { cls:= .type "set",dict:=none,data:= .set #[] 0 (.fresh 0 0 (zou w)) } }) :
  codeAny (model P w) A (.call (.builtin "set.__new__") ⟨[.type "set",u],[]⟩) (wants Q1 E) s:=by
 refine codeAny_of_tree ?_
 refine wpAny_bind (wpAny_of_eq (F.newCall_set_1 u) (wpAny_pure ⟨plainId_quiet F.plain_set_new _,codeAny_builtin F.entry_set_new ?_⟩))
 rw [ig F.plain_set_new _]
 unfold Builtin.«set.__new__» Builtin.Frozenset.newClass
 have a:=sub_set_self
 obtain ⟨hp,g,d,tk,os⟩:=s
 dsimp only
 wp_walk
 refine wpAny_askSetting (wpAny_pure ?_)
 dsimp only
 simp only [newObj]
 refine wpAny_bind (wpAny_alloc (wpAny_pure ?_))
 exact wpAny_pure q
set_option maxHeartbeats 4000000 in
theorem zqq {l:Addr}{its:Array Value}{ns:List Int}{Q:Value->Shared->Prop}(hh:A.handled=none)(hl:s.heap.IsList l its)(hi:IntsAre its.toList ns)(hb:its.size+1<scanBound)
  (q:∀ (h':Heap) (tk:Nat),zme P w h' s.heap.objs.size (firstMet (fun i=>ns.getD i 0) its.size)->(∀ b o,s.heap.get? b=some o->h'.get? b=some o)->Q (.ref s.heap.objs.size) { s with heap:=h',toks:=tk }) :
  wpAny (model P w) A (call (.type "set") [.ref l]) Q E s:=by
 obtain ⟨c0,am,ac⟩:=F.called_set.mro
 have y:=F.called_set.made
 have ad:=F.called_set.sub
 refine wpAny_call (codeAny_of_tree (wpAny_pure ⟨Code.quiet_builtin _ (by decide +kernel),codeAny_builtin F.entry_type_call ?_⟩))
 rw [Around.under_plain (weight_type_call_type "set" [.ref l] []) rfl]
 have af:=F.called_set.notType
 have ak:=F.called_set.canCreate
 have al:=F.typeCall_set_1 (.ref l)
 repeat (any_goals (first | assumption | wp_step))
 obtain ⟨H0,d⟩:∃ H0:Heap,H0=s.heap.push { cls:= .type "set",dict:=none,data:= .set #[] 0 (.fresh 0 0 (zou w)) }:=⟨_,rfl⟩
 refine codeAny_mono (z2l (.ref l) (E:=E) (Q1:=fun ob s1=>ob = .ref s.heap.objs.size/\s1={ s with heap:=H0 }) ⟨rfl,by rw [d]⟩) fun r s1 hr=>?_
 cases r with
 | error e=>exact hr
 | ok fl =>
  cases fl with
  | next=>exact hr.elim
  | brk=>exact hr.elim
  | cont=>exact hr.elim
  | ret ob =>
   obtain ⟨rfl,rfl⟩:=hr
   have g0:H0.get? s.heap.objs.size=some { cls:= .type "set",dict:=none,data:= .set #[] 0 (.fresh 0 0 (zou w)) }:=by rw [d]; exact Heap.get?_push_size _ rfl
   have t:Shared.TypeIs { s with heap:=H0 } (.ref s.heap.objs.size) "set" :=⟨_,g0,rfl⟩
   have ai:=F.called_set.init.lookup
   have ah:=F.called_set.init.bind (.ref s.heap.objs.size)
   repeat (any_goals (first | assumption | wp_step))
   refine codeAny_mono (codeAny_call_builtin (R:=wants (fun r s2=>r = .none/\∃ h' tk,s2={ s with heap:=h',toks:=tk }/\zme P w h' s.heap.objs.size (firstMet (fun i=>ns.getD i 0) its.size)/\(∀ b o,s.heap.get? b=some o->h'.get? b=some o)) E)
    F.called_set.init.plain F.entry_set_init (check_set_init_1 t ?_)) fun r2 s2 a=>?_
   ·have k0:∀ b o,s.heap.get? b=some o->H0.get? b=some o:=fun b o e=>by rw [d]; exact Heap.get?_push_of_some _ e
    obtain ⟨ol,h,j,nl,m⟩:=hl
    obtain ⟨oc,od,ot,os⟩:=ol
    simp only at j m
    subst j
    subst m
    have g1:=k0 _ _ h
    have aj:=F.sub_list_set
    have ag:=F.sub_list_frozenset
    have ae:(nh "list" == nh "dict")=false:=by decide
    have g:H0.IsList l its:=⟨_,g1,rfl,nl,rfl⟩
    unfold Builtin.«set.__init__» noKeywords Builtin.Frozenset.updateFrom
    generalize eI:pyIter=PI
    wp_walk
    subst eI
    refine wpAny_pyIter_list g (wpAny_bind (wpAny_runValue ?_))
    have c:l<s.heap.objs.size:=gi h
    have f:H0.objs.size=s.heap.objs.size+1:=by rw [d]; exact jn ..
    have n:A.in1.in1.in1.handled=none:=by simp [hh]
    have ab:l≠H0.objs.size:=fun z=>by rw [z,f] at c; exact absurd c (mw.mpr (j3 _))
    have u:s.heap.objs.size≠H0.objs.size:=fun z=>by rw [f] at z; exact absurd z (gl (ic _))
    have x:s.heap.objs.size≠l:=fun z=>by rw [<- z] at c; exact absurd c (j6 _)
    refine z07 ((Walks.list n H0.objs.size l ab its).toS) (S:=s.heap.objs.size) ?_ (fun i=>ns.getD i 0) (fun i v hv=>IntsAre.int_at hi i v (by rw [Array.getElem?_toList]; exact hv)) hb (its.size - 0) 0 _ (by omega) (i9 _)
     ⟨⟨_,Heap.get?_push_size _ rfl,rfl,rfl⟩,g.push _⟩ ?_ ?_
    ·simp only [gs,jq,or_false,not_or]
     exact ⟨u,x⟩
    ·refine ⟨_,#[],0,_,Heap.get?_push_of_some _ g0,⟨rfl,rfl,rfl⟩,rfl,fun e he=>by simp at he,fun k=>?_,by decide,rfl,rfl,⟨fun i k hk=>absurd hk (by simp [SetTable.fresh]),rfl⟩⟩
     rw [firstMet_zero]
     simp
    ·intro s' mv X
     obtain ⟨h',g',d',aa,p⟩:=s'
     obtain rfl:g'=s.gens:=mv.gens
     obtain rfl:d'=s.drawn:=mv.drawn
     obtain rfl:p=s.os:=mv.os
     refine wpAny_pure (wpAny_pure ⟨rfl,h',aa,rfl,X,fun b o e=>?_⟩)
     have lt:=gi e
     exact mv.heap b o (by
      simp only [gs,jq,or_false,not_or]
      refine ⟨fun z=>?_,fun z=>?_⟩
      ·rw [z] at lt; exact absurd lt (j6 _)
      ·rw [z,f] at lt; exact absurd lt (mw.mpr (j3 _))) (Heap.get?_push_of_some _ (k0 b o e))
   ·cases r2 with
    | error e=>exact a
    | ok fl2 =>
     cases fl2 with
     | next=>exact a.elim
     | brk=>exact a.elim
     | cont=>exact a.elim
     | ret r =>
      obtain ⟨rfl,h',tk,rfl,X,k'⟩:=a
      repeat (any_goals (first | assumption | wp_step))
      exact q _ _ X k'
end
namespace SF
theorem slot_next:Slot "set_iterator" "__next__" "set_iterator.__next__" :=
 .of (owner:= "set_iterator") (n:= "__next__") (by rw [typeLookup_type,builtinLookup_eq_fast]; kernel_rfl) (by decide +kernel) (by decide +kernel) (by decide +kernel) (by first | exact .inl (by decide +kernel) | exact .inr (by decide +kernel)) (by rw [isSubtype_type]; kernel_rfl)
theorem entry_next:entryFor table "set_iterator.__next__" = some Builtin.«set_iterator.__next__» :=entryFor_of_tree (by kernel_rfl)
theorem args_next (a:Value):argsOk "set_iterator.__next__" ⟨[a],[]⟩:=by unfold argsOk; kernel_rfl
theorem entry_iter:entryFor table "set.__iter__" = some Builtin.«frozenset.__iter__» :=entryFor_alias (id':= "frozenset.__iter__") (by kernel_rfl) rfl (by decide +kernel) (by kernel_rfl)
theorem slot_self:Slot "set_iterator" "__iter__" "set_iterator.__iter__" :=
 .of (owner:= "set_iterator") (n:= "__iter__") (by rw [typeLookup_type,builtinLookup_eq_fast]; kernel_rfl) (by decide +kernel) (by decide +kernel) (by decide +kernel) (by first | exact .inl (by decide +kernel) | exact .inr (by decide +kernel)) (by rw [isSubtype_type]; kernel_rfl)
theorem entry_self:entryFor table "set_iterator.__iter__" = some Builtin.«dict_keyiterator.__iter__» :=entryFor_alias (id':= "dict_keyiterator.__iter__") (by kernel_rfl) rfl (by decide +kernel) (by kernel_rfl)
theorem args_self (a:Value):argsOk "set_iterator.__iter__" ⟨[a],[]⟩:=by unfold argsOk; kernel_rfl
theorem len_set:typeLookup (.type "set") "__len__" = pure (some (.builtin "set.__len__")):=by rw [typeLookup_type,builtinLookup_eq_fast]; kernel_rfl
end SF
def zod (h:Heap)(it a:Addr)(first:Value)(i n ep:Nat):Prop:=∃ o,h.get? it=some o/\o.cls = .type "set_iterator" /\o.data = .fields #[first,.int i 0,.ref a,.int n 0,.int ep 0]
def zq2 (h:Heap)(a:Addr)(es:Array (Int × Value))(ep:Nat)(t:SetTable):Prop:=∃ o,h.get? a=some o/\o.ExactSet/\o.data = .set es ep t/\t.fits es.size=true
section
variable {P:Program} {w:World} {A:Around} {E:Value->Shared->Prop} {s:Shared}
theorem zod.typeIs {it a:Addr}{f:Value}{i n ep:Nat}(x:zod s.heap it a f i n ep):s.TypeIs (.ref it) "set_iterator" :=let ⟨o,ho,hc,_⟩:=x; ⟨o,ho,hc⟩
theorem ztl {it a:Addr}{slot i ep:Nat}{es:Array (Int × Value)}{t:SetTable}{x:Value}{nx:Nat}{Q:Option Value->Shared->Prop}(hit:zod s.heap it a (.int slot 0) i es.size ep)(hS:zq2 s.heap a es ep t)(hne:a≠it)
  (hN:∀ (B:Around) (E':Value->Shared->Prop) (Q':Option (Value × Nat)->Shared->Prop),Q' (some (x,nx)) s->wpAny (model P w) B (setNext a slot i ep) Q' E' s)
  (q:∀ h',zod h' it a (.int nx 0) (i+1) es.size ep->Heap.SameBut it s.heap h'->Q (some x) { s with heap:=h' }):wpAny (model P w) A (pyNext (.ref it)) Q E s:=by
 obtain ⟨o,ho,hc,hd⟩:=id hit
 obtain ⟨os,c,d,b,hf⟩:=hS
 unfold pyNext
 refine wpAny_bind (wpAny_attempt (wpAny_callSpecial?_slot (name:=Str.ofString "__next__") hit.typeIs SF.slot_next (wpAny_call_entry SF.slot_next hit.typeIs SF.entry_next ?_ (SF.args_next _))))
 unfold Builtin.«set_iterator.__next__»
 refine wpAny_bind (m:=slotArgs "__next__" 0 ⟨[.ref it],[]⟩) (wpAny_pure ?_)
 refine wpAny_bind (wpAny_fieldsOf ho hd ?_)
 dsimp only
 refine wpAny_bind (wpAny_setEntries_of c b hf ?_)
 rw [if_neg (by simp)]
 refine wpAny_bind (hN _ _ _ ?_)
 dsimp only
 refine wpAny_bind (wpAny_setField ho hd (by simp) ?_)
 have o1:=Heap.get?_update_self (Obj.mapFields (·.setIfInBounds 0 (rawInt (nx:Int)))) ho (Obj.isFreed_of_fields (Obj.data_mapFields hd _))
 have d1:=Obj.data_mapFields hd (·.setIfInBounds 0 (rawInt (nx:Int)))
 refine wpAny_bind (wpAny_setField (s:={ s with heap:=_ }) o1 d1 (by simp) ?_)
 have o2:=Heap.get?_update_self (Obj.mapFields (·.setIfInBounds 1 (rawInt ((i:Int)+1)))) o1 (Obj.isFreed_of_fields (Obj.data_mapFields d1 _))
 refine wpAny_pure ⟨_,rfl,wpAny_pure (q _ ⟨_,o2,?_,?_⟩ ((Heap.SameBut.update ..).trans (Heap.SameBut.update ..)))⟩
 ·rw [Obj.cls_mapFields,Obj.cls_mapFields]
  exact hc
 ·rw [Obj.data_mapFields d1]
  simp [rawInt]
theorem zxf {B:Around}{it:Addr}{h1:Heap}{Q:Option Value->Shared->Prop}(hh:B.handled=none)(q:∀ h',(∀ b o,h1.get? b=some o->h'.get? b=some o)->Q none { s with heap:=h' }) :
  wpAny (model P w) B ((newExc (.type "StopIteration") [] >>= fun e=>raiseNew e:Sem PySem.Fin)) (fun _ _=>False) (fun e s'=>wpAny (model P w) A (isInstance e (.type "StopIteration") >>= fun b=>if b=true then pure none else throw e) Q E s') { s with heap:=h1 }:=by
 refine wpAny_bind ?_
 simp only [newExc,newTuple]
 refine wpAny_bind (wpAny_newObj_type ?_ (by size_fits))
 refine wpAny_bind (m:=firstArgMember _ _) (wpAny_of_eq (a:=Value.none) (by first | rfl | (simp only [firstArgMember]; rfl)) ?_)
 refine wpAny_newObj_type ?_ (by size_fits)
 simp only [raiseNew]
 refine wpAny_bind (wpAny_handled ?_)
 rw [hh]
 refine wpAny_bind (wpAny_pure (wpAny_throw ?_))
 refine wpAny_bind (wpAny_isInstance (T:= "StopIteration") (b:=true) ⟨_,Heap.get?_push_size _ rfl,rfl⟩ isSubtype_stop ?_)
 exact wpAny_pure (q _ fun b o e=>Heap.get?_push_of_some _ (Heap.get?_push_of_some _ e))
theorem zu2 {it a:Addr}{slot i ep:Nat}{es:Array (Int × Value)}{t:SetTable}{Q:Option Value->Shared->Prop}(hh:A.handled=none)(hit:zod s.heap it a (.int slot 0) i es.size ep)(hS:zq2 s.heap a es ep t)
  (hN:∀ (B:Around) (E':Value->Shared->Prop) (Q':Option (Value × Nat)->Shared->Prop),Q' none s->wpAny (model P w) B (setNext a slot i ep) Q' E' s)
  (q:∀ h',(∀ b o,b≠it->s.heap.get? b=some o->h'.get? b=some o)->Q none { s with heap:=h' }):wpAny (model P w) A (pyNext (.ref it)) Q E s:=by
 obtain ⟨o,ho,hc,hd⟩:=id hit
 obtain ⟨os,d,f,c,hf⟩:=hS
 unfold pyNext
 refine wpAny_bind (wpAny_attempt (wpAny_callSpecial?_slot (name:=Str.ofString "__next__") hit.typeIs SF.slot_next (wpAny_call_entry SF.slot_next hit.typeIs SF.entry_next ?_ (SF.args_next _))))
 unfold Builtin.«set_iterator.__next__»
 refine wpAny_bind (m:=slotArgs "__next__" 0 ⟨[.ref it],[]⟩) (wpAny_pure ?_)
 refine wpAny_bind (wpAny_fieldsOf ho hd ?_)
 dsimp only
 refine wpAny_bind (wpAny_setEntries_of d c hf ?_)
 rw [if_neg (by simp)]
 refine wpAny_bind (hN _ _ _ ?_)
 dsimp only
 refine wpAny_bind (wpAny_setField ho hd (by simp) ?_)
 refine wpAny_mono (zxf (A:=A) (E:=E) (it:=it) (by exact hh) fun h' k=>q h' fun b ob hb e=>k b ob ((Heap.get?_update_other _ _ (Ne.symm hb)).trans e)) (fun _ _ z=>z.elim) fun e s' z=>?_
 exact z
theorem zqg {it a tp:Addr}{i ep:Nat}{es:Array (Int × Value)}{t:SetTable}{ot:Obj}{ps:Array Value}{m p:Nat}{x:Value}{k:Int}{tk:Tok}{Q:Option Value->Shared->Prop}(hit:zod s.heap it a (.ref tp) i es.size ep)(hS:zq2 s.heap a es ep t)(ht:s.heap.get? tp=some ot)(hd':ot.data = .seq ps m)
  (hp:ps[i]? = some (.int (p:Int) tk))(hx:es[p]? = some (k,x))(q:∀ h',zod h' it a (.ref tp) (i+1) es.size ep->Heap.SameBut it s.heap h'->Q (some x) { s with heap:=h' }):wpAny (model P w) A (pyNext (.ref it)) Q E s:=by
 obtain ⟨o,ho,hc,hd⟩:=id hit
 obtain ⟨os,c,d,b,hf⟩:=hS
 unfold pyNext
 refine wpAny_bind (wpAny_attempt (wpAny_callSpecial?_slot (name:=Str.ofString "__next__") hit.typeIs SF.slot_next (wpAny_call_entry SF.slot_next hit.typeIs SF.entry_next ?_ (SF.args_next _))))
 unfold Builtin.«set_iterator.__next__»
 refine wpAny_bind (m:=slotArgs "__next__" 0 ⟨[.ref it],[]⟩) (wpAny_pure ?_)
 refine wpAny_bind (wpAny_fieldsOf ho hd ?_)
 dsimp only
 refine wpAny_bind (wpAny_setEntries_of c b hf ?_)
 rw [if_neg (by simp)]
 refine wpAny_bind (wpAny_seqItems ht hd' ?_)
 dsimp only
 rw [show ((i:Int)).toNat=i from ix i,hp]
 dsimp only
 unfold setNextDrawn
 refine wpAny_bind (wpAny_bind (wpAny_setState_of c b hf ?_))
 dsimp only
 rw [if_neg (by simp),show ((p:Int)).toNat=p from ix p,hx]
 refine wpAny_pure (wpAny_bind (wpAny_setField ho hd (by simp) ?_))
 have o1:=Heap.get?_update_self (Obj.mapFields (·.setIfInBounds 1 (rawInt ((i:Int)+1)))) ho (Obj.isFreed_of_fields (Obj.data_mapFields hd _))
 refine wpAny_pure ⟨_,rfl,wpAny_pure (q _ ⟨_,o1,?_,?_⟩ (Heap.SameBut.update ..))⟩
 ·rw [Obj.cls_mapFields]
  exact hc
 ·rw [Obj.data_mapFields hd]
  simp [rawInt]
theorem zsu {it a tp:Addr}{i ep:Nat}{es:Array (Int × Value)}{t:SetTable}{ot:Obj}{ps:Array Value}{m:Nat}{Q:Option Value->Shared->Prop}(hh:A.handled=none)(hit:zod s.heap it a (.ref tp) i es.size ep)(hS:zq2 s.heap a es ep t)(ht:s.heap.get? tp=some ot)(hd':ot.data = .seq ps m)
  (hp:ps[i]? = none)(q:∀ h',(∀ b o,b≠it->s.heap.get? b=some o->h'.get? b=some o)->Q none { s with heap:=h' }):wpAny (model P w) A (pyNext (.ref it)) Q E s:=by
 obtain ⟨o,ho,hc,hd⟩:=id hit
 obtain ⟨os,d,f,c,hf⟩:=hS
 unfold pyNext
 refine wpAny_bind (wpAny_attempt (wpAny_callSpecial?_slot (name:=Str.ofString "__next__") hit.typeIs SF.slot_next (wpAny_call_entry SF.slot_next hit.typeIs SF.entry_next ?_ (SF.args_next _))))
 unfold Builtin.«set_iterator.__next__»
 refine wpAny_bind (m:=slotArgs "__next__" 0 ⟨[.ref it],[]⟩) (wpAny_pure ?_)
 refine wpAny_bind (wpAny_fieldsOf ho hd ?_)
 dsimp only
 refine wpAny_bind (wpAny_setEntries_of d c hf ?_)
 rw [if_neg (by simp)]
 refine wpAny_bind (wpAny_seqItems ht hd' ?_)
 dsimp only
 rw [show ((i:Int)).toNat=i from ix i,hp]
 dsimp only
 refine wpAny_bind (wpAny_setField ho hd (by simp) ?_)
 have o1:=Heap.get?_update_self (Obj.mapFields (·.setIfInBounds 0 (rawInt 0))) ho (Obj.isFreed_of_fields (Obj.data_mapFields hd _))
 have d1:=Obj.data_mapFields hd (·.setIfInBounds 0 (rawInt 0))
 refine wpAny_bind (wpAny_setField (s:={ s with heap:=_ }) o1 d1 (by simp) ?_)
 refine wpAny_mono (zxf (A:=A) (E:=E) (it:=it) (by exact hh) fun h' k=>q h' fun b ob hb e=>k b ob ((Heap.get?_update_other _ _ (Ne.symm hb)).trans ((Heap.get?_update_other _ _ (Ne.symm hb)).trans e))) (fun _ _ z=>z.elim) fun e s' z=>?_
 exact z
theorem zxg {it a:Addr}{f:Value}{i n ep:Nat}{Q:Value->Shared->Prop}(hit:zod s.heap it a f i n ep)(q:Q (.ref it) s):wpAny (model P w) A (pyIter (.ref it)) Q E s:=by
 refine wpAny_pyIter_slot hit.typeIs SF.slot_self (wpAny_call_entry SF.slot_self hit.typeIs SF.entry_self ?_ (SF.args_self _))
 show wpAny _ _ (ret (.ref it)) _ _ s
 exact wpAny_pure ⟨_,rfl,"set_iterator",_,hit.typeIs,SF.slot_next.lookup,q⟩
end
theorem zd9 {α:Type}:∀ (l:List α) (i:Nat) (h:i<l.length),(l[i] :: l.eraseIdx i).Perm l
 | a :: r,0,h=>List.Perm.refl _
 | a :: r,i+1,h=>by
  have hi:i<r.length:=by simpa using h
  have ih:=zd9 r i hi
  show (r[i] :: a :: r.eraseIdx i).Perm (a :: r)
  exact (List.Perm.swap a r[i] _).trans (ih.cons a)
theorem zr_ {α:Type}(f:Nat->Nat):∀ (fuel k:Nat) (left:List α) (out:Array α),left.length=fuel->(pickOrder.go f fuel k left out).toList.Perm (out.toList++left)
 | 0,k,left,out,h=>by
  unfold pickOrder.go
  rw [iq.mp h]
  simp
 | fuel+1,k,left,out,h=>by
  unfold pickOrder.go
  have hlt:f k % left.length<left.length:=mod_lt _ (by omega)
  rw [List.getElem?_eq_getElem hlt]
  dsimp only
  have ih:=zr_ f fuel (k+1) (left.eraseIdx (f k % left.length)) (out.push left[f k % left.length]) (by rw [List.length_eraseIdx_of_lt hlt]; omega)
  refine ih.trans ?_
  rw [lr,List.append_assoc]
  refine List.Perm.append_left _ ?_
  exact zd9 left _ hlt
theorem zi1 {α:Type}(f:Nat->Nat)(xs:Array α):(pickOrder f xs).toList.Perm xs.toList:=by
 unfold pickOrder
 have:=zr_ f xs.size 0 xs.toList #[] (by simp)
 simpa using this
section
variable {P:Program} {w:World} {A:Around} {E:Value->Shared->Prop}
theorem zu5 {src:Source}{n:Nat}{s:Shared}{Q:Nat->Shared->Prop}(hn:n≠0)(h:Q (w.draws src (s.drawn.get src) % n) { s with drawn:=s.drawn.bump src }):wpAny (model P w) A (choose src n) Q E s:=fun _ _ _=>⟨hn,h⟩
theorem zxe {α:Type}:∀ (n:Nat) (xs:List α) (s:Shared) (Q:List α->Shared->Prop),xs.length=n->(∀ ys d,ys.Perm xs->Q ys { s with drawn:=d })->wpAny (model P w) A (drawOrder n xs) Q E s
 | 0,xs,s,Q,h,q=>by
  unfold drawOrder
  rw [iq.mp h] at q
  exact wpAny_pure (q [] s.drawn (List.Perm.refl _))
 | n+1,[],s,Q,h,q=>by cases h
 | n+1,x :: xs,s,Q,h,q=>by
  unfold drawOrder
  refine wpAny_bind (zu5 (by simp) ?_)
  have hlt:w.draws .order (s.drawn.get .order) % (x :: xs).length<(x :: xs).length:=mod_lt _ (by simp)
  rw [List.getElem?_eq_getElem hlt]
  dsimp only
  refine wpAny_bind (zxe n _ _ _ (by rw [List.length_eraseIdx_of_lt hlt]; omega) fun ys d hp=>wpAny_pure ?_)
  exact q _ d ((hp.cons _).trans (zd9 (x :: xs) _ hlt))
theorem zqh {es:List (Int × Value)}(h:ElemsOf (intKind P w) es):∃ ns:List Int,IntsAre (es.map (·.2)) ns/\∀ k,k∈ns↔∃ e∈es,(intKind P w).is k e.2=true:=by
 induction es with
 | nil=>exact ⟨[],.nil,fun k=>by simp⟩
 | cons e r ih =>
  obtain ⟨ns,hi,hm⟩:=ih h.tail
  obtain ⟨⟨k,hk,_⟩,_⟩:=h.head
  obtain ⟨t,ht⟩:∃ t,e.2 = .int k t:=by
   have a:e.2.isInt k=true:=hk
   cases q:e.2 with
   | int i t =>
    rw [q] at a
    have:i=k:=by simpa [Value.isInt] using a
    exact ⟨t,by rw [this]⟩
   | _=>rw [q] at a; cases a
  refine ⟨k :: ns,?_,fun j=>?_⟩
  ·rw [gz,ht]
   exact .cons k t hi
  ·rw [gs,hm j]
   constructor
   ·rintro (rfl | ⟨e',he,hj⟩)
    ·exact ⟨e,.head _,hk⟩
    ·exact ⟨e',.tail _ he,hj⟩
   ·rintro ⟨e',he,hj⟩
    rcases gs.mp he with rfl | he
    ·exact .inl ((intKind P w).inj e'.2 j k hj hk)
    ·exact .inr ⟨e',he,hj⟩
theorem zn_ {ks ns:List Int}:∀ (hd:ks.Nodup) (hs:∀ k∈ks,k∈ns) (hl:ns.length<=ks.length),ks.Perm ns:=by
 induction ks generalizing ns with
 | nil =>
  intro _ _ hl
  rw [iq.mp (Nat.le_zero.mp hl)]
 | cons a r ih =>
  intro hd hs hl
  obtain ⟨ha,hr⟩:=io.mp hd
  have hm:=hs a (.head _)
  have e:=List.perm_cons_erase hm
  refine List.Perm.trans (List.Perm.cons a (ih (ns:=ns.erase a) hr (fun k hk=>?_) ?_)) e.symm
  ·exact (List.mem_erase_of_ne (fun z:k=a=>ha (by rw [<- z]; exact hk))).mpr (hs k (.tail _ hk))
  ·rw [im hm]
   simp at hl
   omega
theorem zjl {vs us:List Value}(p:vs.Perm us):∀ {ns:List Int},IntsAre us ns->∃ ms,IntsAre vs ms/\ms.Perm ns:=by
 induction p with
 | nil=>intro ns h; exact ⟨ns,h,List.Perm.refl _⟩
 | cons x _ ih =>
  intro ns h
  cases h with
  | cons n t hr =>
   obtain ⟨ms,h1,h2⟩:=ih hr
   exact ⟨n :: ms,.cons n t h1,h2.cons n⟩
 | swap x y l =>
  intro ns h
  cases h with
  | cons n t hr =>
   cases hr with
   | cons m u hr =>
    exact ⟨_,.cons m u (.cons n t hr),List.Perm.swap _ _ _⟩
 | trans _ _ ih1 ih2 =>
  intro ns h
  obtain ⟨ms,h1,h2⟩:=ih2 h
  obtain ⟨ls,h3,h4⟩:=ih1 h1
  exact ⟨ls,h3,h4.trans h2⟩
theorem zeo {h h':Heap}{a:Addr}{es:Array (Int × Value)}{ep:Nat}{t:SetTable}(x:zq2 h a es ep t)(k:∀ o,h.get? a=some o->h'.get? a=some o):zq2 h' a es ep t:=by
 obtain ⟨o,ho,r⟩:=x
 exact ⟨o,k o ho,r⟩
theorem zt1 {h h':Heap}{it a:Addr}{f:Value}{i n ep:Nat}(x:zod h it a f i n ep)(k:∀ o,h.get? it=some o->h'.get? it=some o):zod h' it a f i n ep:=by
 obtain ⟨o,ho,r⟩:=x
 exact ⟨o,k o ho,r⟩
theorem zk7 {a it:Addr}{es:Array (Int × Value)}{ep:Nat}{t:SetTable}(hne:a≠it)(ord:List Value)(hl:ord.length=es.size)(slots:Nat->Nat)
  (hN:∀ (i:Nat) (x:Value),ord[i]? = some x->∀ (s:Shared) (B:Around) (E':Value->Shared->Prop) (Q':Option (Value × Nat)->Shared->Prop),zq2 s.heap a es ep t->Q' (some (x,slots (i+1))) s->wpAny (model P w) B (setNext a (slots i) i ep) Q' E' s)
  (hE:∀ (s:Shared) (B:Around) (E':Value->Shared->Prop) (Q':Option (Value × Nat)->Shared->Prop),zq2 s.heap a es ep t->Q' none s->wpAny (model P w) B (setNext a (slots es.size) es.size ep) Q' E' s)(hh:A.handled=none) :
  Walks P w A it [it,a] [it] ord.length (fun i v=>ord[i]? = some v) (fun i h=>zod h it a (.int (slots i) 0) i es.size ep/\zq2 h a es ep t) where
 sub:=fun b hb=>by simp at hb; simp [hb]
 frame:=fun i h h' st hk=>⟨zt1 st.1 fun o e=>hk it (by simp) o e,zeo st.2 fun o e=>hk a (by simp) o e⟩
 item:=fun i s Q E hi st hQ=>by
  refine ztl (x:=ord[i]) (nx:=slots (i+1)) st.1 st.2 hne (fun B E' Q' z=>hN i _ (by simp [hi]) s B E' Q' st.2 z) fun h' si sb=>?_
  exact hQ _ h' s.toks (by simp [hi]) ⟨si,zeo st.2 fun o e=>(sb.2 a hne).trans e⟩ fun b o hb e=>(sb.2 b (fun z=>hb (by simp [z]))).trans e
 done:=fun s Q E st hQ=>by
  have st1:=st.1
  rw [hl] at st1
  exact zu2 hh st1 st.2 (fun B E' Q' z=>hE s B E' Q' st.2 z) fun h' k=>hQ h' s.toks fun b o hb e=>k b o (fun z=>hb (by simp [z])) e
 self:=fun i s Q E st hQ=>zxg st.1 hQ
theorem zn1 {a it tp:Addr}{es:Array (Int × Value)}{ep m:Nat}{t:SetTable}{ot:Obj}{ps:Array Value}(hd:ot.data = .seq ps m)(hne:a≠it)(hnt:tp≠it)(ord:List Value)(hl:ord.length=ps.size)
  (hp:∀ (i:Nat) (x:Value),ord[i]? = some x->∃ (p:Nat) (k:Int) (tk:Tok),ps[i]? = some (.int (p:Int) tk)/\es[p]? = some (k,x))(hh:A.handled=none) :
  Walks P w A it [it,a,tp] [it] ord.length (fun i v=>ord[i]? = some v) (fun i h=>zod h it a (.ref tp) i es.size ep/\zq2 h a es ep t/\h.get? tp=some ot) where
 sub:=fun b hb=>by simp at hb; simp [hb]
 frame:=fun i h h' st hk=>⟨zt1 st.1 fun o e=>hk it (by simp) o e,zeo st.2.1 fun o e=>hk a (by simp) o e,hk tp (by simp) _ st.2.2⟩
 item:=fun i s Q E hi st hQ=>by
  obtain ⟨p,k,tk,h1,h2⟩:=hp i ord[i] (by simp [hi])
  refine zqg st.1 st.2.1 st.2.2 hd h1 h2 fun h' si sb=>?_
  exact hQ _ h' s.toks (by simp [hi]) ⟨si,zeo st.2.1 fun o e=>(sb.2 a hne).trans e,(sb.2 tp hnt).trans st.2.2⟩ fun b o hb e=>(sb.2 b (fun z=>hb (by simp [z]))).trans e
 done:=fun s Q E st hQ=>zsu hh st.1 st.2.1 st.2.2 hd (by rw [hl]; simp) fun h' k=>hQ h' s.toks fun b o hb e=>k b o (fun z=>hb (by simp [z])) e
 self:=fun i s Q E st hQ=>zxg st.1 hQ
def zxh (t:SetTable):Nat->Nat
 | 0=>0
 | i+1=>(t.place[i]?).getD 0+1
theorem zhp {t:SetTable}(hr:Ris t.place){i:Nat}(h:i<=t.place.size):SetTable.below t.place (zxh t i)=i:=by
 cases i with
 | zero=>exact zqu hr
 | succ j =>
  show SetTable.below t.place ((t.place[j]?).getD 0+1)=j+1
  rw [Array.getElem?_eq_getElem (by omega:j<t.place.size),n9]
  exact zus hr (by omega)
theorem zmi {s:Shared}{a:Addr}{es:Array (Int × Value)}{ep i:Nat}{t:SetTable}{Q:Option (Value × Nat)->Shared->Prop}(bt:w.params.followText "set-order" = true)(SQ:zq2 s.heap a es ep t)(q:Q (((pickOrder (w.params.setOrder a ep) es)[i]?).map fun e=>(e.2,0)) s):wpAny (model P w) A (setNext a 0 i ep) Q E s:=by
 obtain ⟨o,ho,b,hd,hf⟩:=SQ
 unfold setNext setsByText
 refine wpAny_bind (wpAny_setState_of ho hd hf ?_)
 dsimp only
 refine wpAny_bind (wpAny_bind (wpAny_askSetting (wpAny_pure ?_)))
 show wpAny _ _ (if w.params.followText "set-order" = true then _ else _) _ _ _
 rw [if_pos bt]
 rw [if_neg (by simp)]
 unfold setWalk setsByText
 refine wpAny_bind (wpAny_bind (wpAny_setState_of ho hd hf ?_))
 dsimp only
 refine wpAny_bind (wpAny_bind (wpAny_askSetting (wpAny_pure ?_)))
 show wpAny _ _ (if w.params.followText "set-order" = true then _ else _) _ _ _
 rw [if_pos bt]
 exact wpAny_bind (wpAny_askSetting (wpAny_pure (wpAny_pure q)))
theorem zk8 {s:Shared}{a:Addr}{es:Array (Int × Value)}{ep i slot:Nat}{t:SetTable}{Q:Option (Value × Nat)->Shared->Prop}(bt:w.params.followText "set-order" = false)(hdr:(!t.plain && decide (es.size > 1))=false)(hl:t.led=true)(SQ:zq2 s.heap a es ep t)
  (q:Q (match es[SetTable.below t.place slot]?,t.place[SetTable.below t.place slot]? with | some (_,x),some j=>some (x,j+1) | _,_=>none) s):wpAny (model P w) A (setNext a slot i ep) Q E s:=by
 obtain ⟨o,ho,b,hd,hf⟩:=SQ
 unfold setNext setsByText
 refine wpAny_bind (wpAny_setState_of ho hd hf ?_)
 dsimp only
 refine wpAny_bind (wpAny_bind (wpAny_askSetting (wpAny_pure ?_)))
 show wpAny _ _ (if w.params.followText "set-order" = true then _ else _) _ _ _
 rw [if_neg (by rw [bt]; exact Bool.false_ne_true)]
 show wpAny _ _ (if (!t.plain && decide (es.size > 1))=true then _ else _) _ _ _
 rw [if_neg (by rw [hdr]; exact Bool.false_ne_true)]
 refine wpAny_bind ?_
 show wpAny _ _ (if (!t.led && !es.isEmpty)=true then _ else _) _ _ _
 rw [if_neg (by rw [hl]; simp)]
 exact wpAny_pure (wpAny_pure q)
theorem z08 {s:Shared}{a:Addr}{ks:List Int}{Q:Value->Shared->Prop}(X:zme P w s.heap a ks)(hd:ks.Nodup)
  (q:∀ (it:Addr) (fp:List Addr) (ord:List Value) (ns:List Int) (St:Nat->Heap->Prop) (h':Heap) (d:Drawn),(∀ b o,s.heap.get? b=some o->h'.get? b=some o)->(∀ b∈fp,b=a\/s.heap.objs.size<=b)->s.heap.objs.size<=it->(∀ b∈fp,b<h'.objs.size)->it∈fp->IntsAre ord ns->ns.Perm ks ->
   (∀ B:Around,B.handled=none->Walks P w B it fp [it] ord.length (fun i v=>ord[i]? = some v) St)->St 0 h'->Q (.ref it) { s with heap:=h',drawn:=d }):wpAny (model P w) A (pyIter (.ref a)) Q E s:=by
 obtain ⟨o,es,ep,t,ho,af,h,ak,hm,hb,hf,hn,hT⟩:=X
 obtain ⟨ns,hi,al⟩:=zqh ak
 have y:ns.Perm ks:=by
  refine (zn_ hd (fun k hk=>(al k).mpr ((hm k).mp hk)) ?_).symm
  have:=hi.length
  simp at this
  omega
 have ab:s.TypeIs (.ref a) "set" :=⟨o,ho,af.1⟩
 have SQ:zq2 s.heap a es ep t:=⟨o,ho,af,h,hf⟩
 refine wpAny_pyIter_slot ab F.slot_set_iter (wpAny_call_entry F.slot_set_iter ab SF.entry_iter ?_ (F.args_set_iter_1 _))
 unfold Builtin.«frozenset.__iter__» Builtin.Frozenset.slot0
 refine wpAny_bind (wpAny_bind (m:=slotArgs "__iter__" 0 ⟨[.ref a],[]⟩) (wpAny_pure ?_))
 unfold Builtin.Frozenset.addrOf Builtin.Frozenset.sizeOf
 refine wpAny_pure (wpAny_bind (wpAny_bind (wpAny_setEntries_of ho h hf (wpAny_pure ?_))))
 unfold setDrawn setsByText
 refine wpAny_bind (wpAny_bind (wpAny_setState_of ho h hf (wpAny_bind (wpAny_bind (wpAny_askSetting (wpAny_pure (wpAny_pure ?_)))))))
 show wpAny _ _ (if (!w.params.followText "set-order" && (!t.plain && decide (es.size > 1)))=true then _ else _) _ _ _
 have lt:a<s.heap.objs.size:=gi ho
 by_cases n:(!w.params.followText "set-order" && (!t.plain && decide (es.size > 1)))=true
 ·rw [if_pos n]
  refine wpAny_bind (zxe es.size (js es.size) s _ (by simp) fun ys d hy=>?_)
  simp only [newTuple]
  refine wpAny_bind (wpAny_newObj_type ?_ ?sz)
  case sz =>
   show (ys.map fun (i:Nat)=>rawInt i).toArray.size<=sizeLine
   have:=hy.length_eq
   rw [fw,fj,this,List.length_range]
   exact fits_of_scanBound hb
  unfold setEpoch
  have k1:∀ b ob,s.heap.get? b=some ob->(s.heap.push { cls:= .type "tuple",data:= .seq (ys.map fun (i:Nat)=>rawInt i).toArray }).get? b=some ob:=fun b ob e=>Heap.get?_push_of_some _ e
  refine wpAny_bind (wpAny_bind (wpAny_setState_of (k1 _ _ ho) h hf (wpAny_pure ?_)))
  simp only [newFields]
  refine wpAny_bind (wpAny_newObj_type ?_ (by size_fits))
  have c:(s.heap.push { cls:= .type "tuple",data:= .seq (ys.map fun (i:Nat)=>rawInt i).toArray }).objs.size=s.heap.objs.size+1:=jn ..
  refine wpAny_pure ⟨_,rfl,"set_iterator",_,⟨_,Heap.get?_push_size _ rfl,rfl⟩,SF.slot_next.lookup,?_⟩
  have gt:(s.heap.push { cls:= .type "tuple",data:= .seq (ys.map fun (i:Nat)=>rawInt i).toArray }).get? s.heap.objs.size=some { cls:= .type "tuple",data:= .seq (ys.map fun (i:Nat)=>rawInt i).toArray }:=Heap.get?_push_size _ rfl
  generalize s.heap.push { cls:= .type "tuple",data:= .seq (ys.map fun (i:Nat)=>rawInt i).toArray }=H1 at k1 c gt |-
  have k2:∀ b ob,H1.get? b=some ob->(H1.push { cls:= .type "set_iterator",data:= .fields #[.ref s.heap.objs.size,rawInt 0,.ref a,rawInt es.size,rawInt ep] }).get? b=some ob:=fun b ob e=>Heap.get?_push_of_some _ e
  have aj:(H1.push { cls:= .type "set_iterator",data:= .fields #[.ref s.heap.objs.size,rawInt 0,.ref a,rawInt es.size,rawInt ep] }).objs.size=s.heap.objs.size+2:=by rw [jn,c]
  have l:zod (H1.push { cls:= .type "set_iterator",data:= .fields #[.ref s.heap.objs.size,rawInt 0,.ref a,rawInt es.size,rawInt ep] }) H1.objs.size a (.ref s.heap.objs.size) 0 es.size ep:=⟨_,Heap.get?_push_size _ rfl,rfl,rfl⟩
  have j:=zeo SQ fun ob e=>k2 _ _ (k1 _ _ e)
  have ah:∀ p∈ys,p<es.size:=fun p hp=>l9.mp (hy.mem_iff.mp hp)
  have er:(js es.size).map (fun p=>((es[p]?).map (·.2)).getD .none)=es.toList.map (·.2):=by
   apply lq
   ·simp
   ·intro i h1 h2
    simp at h1
    simp [h1]
  obtain ⟨ms,u,r⟩:=zjl (vs:=ys.map (fun p=>((es[p]?).map (·.2)).getD .none)) (us:=es.toList.map (·.2)) (by rw [<- er]; exact hy.map _) hi
  have ae:∀ b∈[H1.objs.size,a,s.heap.objs.size],b=H1.objs.size\/b=a\/b=s.heap.objs.size:=fun b hb=>by simpa using hb
  refine q H1.objs.size [H1.objs.size,a,s.heap.objs.size] _ ms _ _ d (fun b ob e=>k2 _ _ (k1 _ _ e)) (fun b hb=>?_) (by rw [c]; exact j3 _) (fun b hb=>?_) (by simp) u (r.trans y)
   (fun B hB=>zn1 (t:=t) (es:=es) (ep:=ep) (tp:=s.heap.objs.size) rfl (fun z=>?_) (fun z=>?_) _ (by simp) ?_ hB) ⟨l,j,k2 _ _ gt⟩
  ·rcases ae b hb with z | z | z
   ·rw [z,c]; exact .inr (j3 _)
   ·exact .inl z
   ·exact .inr (jy z.symm)
  ·rw [aj]
   rcases ae b hb with z | z | z
   ·rw [z,c]; exact ic _
   ·rw [z]; exact iz (iz lt)
   ·rw [z]; exact iz (ic _)
  ·rw [z,c] at lt
   exact absurd lt (mw.mpr (j3 _))
  ·rw [c] at z
   exact absurd z (gl (ic _))
  ·intro i x hx
   rw [List.getElem?_map] at hx
   cases g:ys[i]? with
   | none=>rw [g] at hx; cases hx
   | some p =>
    rw [g] at hx
    have hp:=ah p (gj g)
    have ag:es[p]? = some es[p]:=Array.getElem?_eq_getElem hp
    refine ⟨p,es[p].1,0,?_,?_⟩
    ·simp [g,rawInt]
    ·have aa:((es[p]?).map (·.2)).getD .none=x:=Option.some.inj hx
     rw [ag] at aa |-
     have ai:es[p].2=x:=aa
     rw [<- ai]
 ·rw [if_neg n]
  refine wpAny_bind (wpAny_pure ?_)
  unfold setEpoch
  refine wpAny_bind (wpAny_bind (wpAny_setState_of ho h hf (wpAny_pure ?_)))
  simp only [newFields]
  refine wpAny_bind (wpAny_newObj_type ?_ (by size_fits))
  refine wpAny_pure ⟨_,rfl,"set_iterator",_,⟨_,Heap.get?_push_size _ rfl,rfl⟩,SF.slot_next.lookup,?_⟩
  have k1:∀ b ob,s.heap.get? b=some ob->(s.heap.push { cls:= .type "set_iterator",data:= .fields #[rawInt 0,rawInt 0,.ref a,rawInt es.size,rawInt ep] }).get? b=some ob:=fun b ob e=>Heap.get?_push_of_some _ e
  have ne:a≠s.heap.objs.size:=gl lt
  have j:=zeo SQ (k1 a)
  have l:zod (s.heap.push { cls:= .type "set_iterator",data:= .fields #[rawInt 0,rawInt 0,.ref a,rawInt es.size,rawInt ep] }) s.heap.objs.size a (.int (0:Nat) 0) 0 es.size ep:=⟨_,Heap.get?_push_size _ rfl,rfl,rfl⟩
  have sz:(s.heap.push { cls:= .type "set_iterator",data:= .fields #[rawInt 0,rawInt 0,.ref a,rawInt es.size,rawInt ep] }).objs.size=s.heap.objs.size+1:=jn ..
  have ac:∀ b∈[s.heap.objs.size,a],b=a\/s.heap.objs.size<=b:=fun b hb=>by
   rcases (show b=s.heap.objs.size\/b=a by simpa using hb) with z | z
   ·exact .inr (jy z.symm)
   ·exact .inl z
  have ad:∀ b∈[s.heap.objs.size,a],b<(s.heap.push { cls:= .type "set_iterator",data:= .fields #[rawInt 0,rawInt 0,.ref a,rawInt es.size,rawInt ep] }).objs.size:=fun b hb=>by
   rw [sz]
   rcases (show b=s.heap.objs.size\/b=a by simpa using hb) with z | z
   ·rw [z]; exact ic _
   ·rw [z]; exact iz lt
  by_cases bt:w.params.followText "set-order" = true
  ·-- by the text's order
   obtain ⟨ms,u,r⟩:=zjl ((zi1 (w.params.setOrder a ep) es).map (·.2)) hi
   refine q s.heap.objs.size [s.heap.objs.size,a] _ ms _ _ s.drawn k1 ac (gf _) ad (by simp) u (r.trans y) (fun B hB=>zk7 (t:=t) (es:=es) (ep:=ep) ne _ (by have:=(zi1 (w.params.setOrder a ep) es).length_eq; simpa using this) (fun _=>0) ?_ ?_ hB) ⟨l,j⟩
   ·intro i x hx s' B' E' Q' f z
    refine zmi bt f ?_
    rw [List.getElem?_map] at hx
    cases g:(pickOrder (w.params.setOrder a ep) es).toList[i]? with
    | none=>rw [g] at hx; cases hx
    | some e =>
     rw [g] at hx
     cases hx
     rw [Array.getElem?_toList] at g
     rw [g]
     exact z
   ·intro s' B' E' Q' f z
    refine zmi bt f ?_
    have hsz:(pickOrder (w.params.setOrder a ep) es).size=es.size:=by have:=(zi1 (w.params.setOrder a ep) es).length_eq; simpa using this
    rw [Array.getElem?_eq_none (by omega)]
    exact z
  ·have bf:w.params.followText "set-order" = false:=ji.mpr bt
   have dr:(!t.plain && decide (es.size > 1))=false:=by
    rw [bf] at n
    simpa using n
   have ld:t.led=true:=by rw [hT.led]; unfold zou; rw [bf]; rfl
   have am:t.place.size=es.size:=by
    simp only [SetTable.fits,ik,beq_iff_eq] at hf
    exact hf.1
   refine q s.heap.objs.size [s.heap.objs.size,a] _ ns _ _ s.drawn k1 ac (gf _) ad (by simp) hi y (fun B hB=>zk7 (t:=t) (es:=es) (ep:=ep) ne _ (by simp) (zxh t) ?_ ?_ hB) ⟨l,j⟩
   ·intro i x hx s' B' E' Q' f z
    refine zk8 bf dr ld f ?_
    rw [List.getElem?_map] at hx
    cases g:es.toList[i]? with
    | none=>rw [g] at hx; cases hx
    | some e =>
     rw [g] at hx
     cases hx
     rw [Array.getElem?_toList] at g
     have an:i<es.size:=(Array.getElem?_eq_some_iff.mp g).1
     have eb:=zhp hT.ris (i:=i) (by omega)
     have gp:t.place[i]? = some (t.place[i]'(by omega)):=Array.getElem?_eq_getElem (by omega)
     rw [eb,g,gp]
     have z':Q' (some (e.2,(t.place[i]?).getD 0+1)) s':=z
     rw [gp] at z'
     exact z'
   ·intro s' B' E' Q' f z
    refine zk8 bf dr ld f ?_
    have eb:=zhp hT.ris (i:=es.size) (by omega)
    rw [eb,Array.getElem?_eq_none (gf _)]
    exact z
theorem zsh {s:Shared}{a:Addr}{ks:List Int}{Q:List Value->Shared->Prop}(hh:A.handled=none)(X:zme P w s.heap a ks)(hd:ks.Nodup)(hn:ks.length<=1000)
  (q:∀ s' vs ns,(∀ b o,s.heap.get? b=some o->s'.heap.get? b=some o)->s'.gens=s.gens->s'.os=s.os->s.heap.objs.size<=s'.heap.objs.size->IntsAre vs ns->ns.Perm ks->Q vs s'):wpAny (model P w) A (collect (.ref a)) Q E s:=by
 unfold collect
 refine wpAny_bind (wpAny_runValue (codeAny_builtin F.entry_proto_collect ?_))
 rw [ig F.plain_proto_collect _]
 refine wpAny_bind (m:=newList []) (wpAny_newObj_type (wpAny_pure ⟨plainId_quiet F.plain_list_iadd _,codeAny_builtin F.entry_list_iadd ?_⟩))
 rw [ig F.plain_list_iadd _]
 obtain ⟨H0,g⟩:∃ H0:Heap,H0=s.heap.push { cls:= .type "list",data:= .seq ([]:List Value).toArray }:=⟨_,rfl⟩
 have n:H0.objs.size=s.heap.objs.size+1:=by rw [g]; exact jn ..
 have k0:∀ b o,s.heap.get? b=some o->H0.get? b=some o:=fun b o e=>by rw [g]; exact Heap.get?_push_of_some _ e
 have g0:H0.get? s.heap.objs.size=some { cls:= .type "list",data:= .seq ([]:List Value).toArray }:=by rw [g]; exact Heap.get?_push_size _ rfl
 show wpAny _ A.in1 (Builtin.List.listExtendWith (.ref s.heap.objs.size) (.ref a) (.ref s.heap.objs.size)) _ _ { s with heap:=s.heap.push _ }
 rw [<- g]
 have X0:zme P w H0 a ks:=X.keep fun o e=>k0 _ _ e
 have la:a<s.heap.objs.size:=by
  obtain ⟨o,_,_,_,ho,_⟩:=X
  exact gi ho
 have t:Shared.TypeIs { s with heap:=H0 } (.ref a) "set" :=by
  obtain ⟨o,_,_,_,ho,ac,_⟩:=X0
  exact ⟨o,ho,ac.1⟩
 unfold Builtin.List.listExtendWith
 refine wpAny_bind (wpAny_typeOf t ?_)
 have n1:Builtin.List.listSameRef (.ref s.heap.objs.size) (.ref a)=false:=by
  show (s.heap.objs.size == a)=false
  exact beq_eq_false_iff_ne.mpr (j9 la)
 have n2:(nh "set" == nh "list")=false:=by decide
 have n3:(nh "set" == nh "tuple")=false:=by decide
 simp only [n1,n2,n3,Bool.or_false,je,if_false]
 refine wpAny_bind (z08 (s:={ s with heap:=H0 }) X0 hd fun it fp f ns St h1 d k1 ab p ad ae h hp W st=>?_)
 refine wpAny_bind (wpAny_holding ?_)
 have l:Shared.TypeIs { s with heap:=h1,drawn:=d } (.ref a) "set" :=by
  obtain ⟨o,ho,hc⟩:=t
  exact ⟨o,k1 _ _ ho,hc⟩
 unfold Builtin.List.listLengthHint
 refine wpAny_bind (wpAny_specialOf l SF.len_set ?_)
 wp_delta
 refine wpAny_bind (wpAny_isInstance (T:= "set") (b:=true) l (by rw [isSubtype_type]; kernel_rfl) ?_)
 show wpAny _ A.in1 (typeOf (Value.ref a) >>= _) _ _ _
 refine wpAny_bind (wpAny_typeOf l ?_)
 refine wpAny_pure ?_
 rw [if_pos (by decide)]
 refine wpAny_bind (wpAny_rule ?_)
 refine wpAny_bind ?_
 show wpAny _ A.in1 (updateSeq s.heap.objs.size (·.push .none) >>= fun _=>updateSeq s.heap.objs.size (·.pop)) _ _ _
 have y:h1.get? s.heap.objs.size=some { cls:= .type "list",data:= .seq ([]:List Value).toArray }:=k1 _ _ g0
 refine wpAny_bind (wpAny_updateSeq y rfl ?_)
 have u:=Heap.get?_update_self (Obj.mapSeq (·.push Value.none)) y rfl
 refine wpAny_updateSeq (hz:=by seq_fits) u rfl ?_
 have aa:=Heap.get?_update_self (Obj.mapSeq (·.pop)) u rfl
 have x:∀ b o,b≠s.heap.objs.size->h1.get? b=some o->((h1.update s.heap.objs.size (Obj.mapSeq (·.push Value.none))).update s.heap.objs.size (Obj.mapSeq (·.pop))).get? b=some o :=
  fun b o hb e=>(Heap.get?_update_other _ _ (Ne.symm hb)).trans ((Heap.get?_update_other _ _ (Ne.symm hb)).trans e)
 have v:s.heap.objs.size∉fp:=fun hm=>by
  rcases ab _ hm with e | e
  ·exact absurd e (j9 la)
  ·have e2:H0.objs.size<=s.heap.objs.size:=e
   rw [n] at e2
   omega
 have hl:f.length<=sizeLine:=by
  have e1:=h.length
  have e2:=hp.length_eq
  have:f.length<=1000:=by omega
  exact gm this (by decide)
 refine wpAny_pure ⟨plainId_quiet F.plain_extend_loop _,codeAny_extend_loopS (W A.in1 hh).toS hl _ v _ f.length 0 _ _ _ rfl (i9 _)
  ((W A.in1 hh).frame 0 _ _ st fun b hb o e=>x b o (fun z=>v (z ▸ hb)) e) aa (ItemsOf.nil _) fun s' c c' hm r j=>?_⟩
 show wpAny _ A (load s.heap.objs.size >>= _) _ _ s'
 refine wpAny_bind (wpAny_load r ?_)
 refine wpAny_pure (q s' c.toList ns (fun b ob e=>hm.heap b ob (fun hb=>?_) (x b ob (gl (gi e)) (k1 _ _ (k0 _ _ e)))) hm.gens hm.os (gx (gi r)) ?_ hp)
 ·have lb:=gi e
  rcases gs.mp hb with z | z
  ·exact j6 _ (z ▸ lb)
  ·rw [fi.mp z] at lb
   have e2:H0.objs.size<=it:=p
   rw [n] at e2
   exact j6 _ (gc lb (gm (j3 _) e2))
 ·have e:c.toList=f:=by
   apply List.ext_getElem?
   intro i
   rcases Nat.lt_or_ge i c.size with hi | hi
   ·have z:=j.2 i c[i] (by simp [hi])
    rw [z]
    simp [hi]
   ·rw [List.getElem?_eq_none (by simpa using hi),List.getElem?_eq_none (by rw [<- j.1]; exact hi)]
  rw [e]
  exact h
theorem zwp {s:Shared}{a:Addr}{ks:List Int}{Q:Value->Shared->Prop}(hh:A.handled=none)(X:zme P w s.heap a ks)(hd:ks.Nodup)(hn:ks.length<64)
  (q:∀ (s':Shared) (r:Addr) (vs:List Value) (ns:List Int),(∀ b o,s.heap.get? b=some o->s'.heap.get? b=some o)->s'.gens=s.gens->s'.os=s.os->s.heap.objs.size<=r ->
   (∃ e,s'.heap.get? r=some (seqObj "list" vs.toArray e))->IntsAre vs ns->ns.Perm ks->ns.Pairwise (· <= ·)->Q (.ref r) s') :
  wpAny (model P w) A (call (.builtin "sorted") [.ref a]) Q E s:=by
 refine Calls.call_function_entry kind_sorted plain_sorted entry_sorted (args_sorted1 _) ?_
 unfold Builtin.«sorted»
 refine wpAny_bind (m:=checkCount "sorted" 1 1 _) (wpAny_pure ?_)
 refine wpAny_bind (zsh (by exact hh) X hd (by omega) fun s1 vs ns k1 g1 o1 z1 hi hp=>?_)
 have f:vs.length<64:=by
  have e1:=hi.length
  have e2:=hp.length_eq
  omega
 refine wpAny_bind (wpAny_newList (hsz:=gm (gx f) (by decide)) ?_)
 have d:(s1.heap.push (seqObj "list" vs.toArray 0)).get? s1.heap.objs.size=some (seqObj "list" vs.toArray 0):=Heap.get?_push_size _ rfl
 show wpAny _ _ _ _ _ { s1 with heap:=s1.heap.push (seqObj "list" vs.toArray 0) }
 refine wpAny_bind (wpAny_holding (wpAny_call_entry slot_list_sort ⟨_,d,rfl⟩ entry_list_sort (list_sort_tree d hi f fun out g a1 a2 a3=>⟨_,rfl,?_⟩) (args_list_sort _)))
 obtain ⟨H1,c⟩:∃ H1,H1=s1.heap.push (seqObj "list" vs.toArray 0):=⟨_,rfl⟩
 have z2:H1.objs.size=s1.heap.objs.size+1:=by rw [c]; exact size_push' _ _
 have kk:∀ b o,s1.heap.get? b=some o->(sortedHeap H1 s1.heap.objs.size vs out).get? b=some o:=fun b o e=>by
  rw [sortedHeap_old (gl (gi e)) (by rw [z2]; exact iz (gi e)),c]
  exact Heap.get?_push_of_some _ e
 have ka:∃ e,(sortedHeap H1 s1.heap.objs.size vs out).get? s1.heap.objs.size=some (seqObj "list" out e):=sortedHeap_at (n:=0) (by rw [c]; exact d)
 rw [<- c]
 generalize sortedHeap H1 s1.heap.objs.size vs out=H2 at kk ka |-
 refine wpAny_pure ⟨_,rfl,q _ _ out.toList g (fun b o e=>?_) g1 o1 ?_ ?_ a1 (a2.trans hp) a3⟩
 ·exact kk _ _ (k1 _ _ e)
 ·exact z1
 ·exact ka
end
def zaq (ns:List Int):List Int:=ns.mergeSort (fun a b=>decide (a<=b))
theorem zam (ns:List Int):(zaq ns).Perm ns:=List.mergeSort_perm _ _
theorem zd6 (ns:List Int):(zaq ns).Pairwise (· <= ·):=by
 have h:=List.pairwise_mergeSort (le:=fun a b:Int=>decide (a<=b)) (by intro a b c h1 h2; simp at *; omega) (by intro a b; simp; omega) ns
 exact h.imp fun h=>by simpa using h
theorem zjk:∀ {a b:List Int},a.Perm b->a.Pairwise (· <= ·)->b.Pairwise (· <= ·)->a=b
 | [],b,p,_,_=>(md.mp p).symm
 | x :: r,[],p,_,_=>absurd p.symm (by intro z; exact absurd (md.mp z) (by simp))
 | x :: r,y :: q,p,h1,h2=>by
  obtain ⟨hx,hr⟩:=iy.mp h1
  obtain ⟨hy,hq⟩:=iy.mp h2
  have e:x=y:=by
   have m1:x∈y :: q:=p.subset (.head _)
   have m2:y∈x :: r:=p.symm.subset (.head _)
   rcases gs.mp m1 with e | m1
   ·exact e
   ·rcases gs.mp m2 with e | m2
    ·exact e.symm
    ·have:=hx y m2
     have:=hy x m1
     omega
  subst e
  rw [zjk (List.Perm.cons_inv p) hr hq]
theorem zib {a b:List Int}(p:a.Perm b)(h:a.Pairwise (· <= ·)):a=zaq b:=zjk (p.trans (zam b).symm) h (zd6 b)
theorem zbh (ns:List Int):(zaq ns).length=ns.length:=(zam ns).length_eq
section
variable {X:Cx}
theorem zow:zhf X (.builtin "sorted") (fun xs H Q=>∃ (p:Addr) (ns:List Int),xs=[.ref p]/\SqL X.K H p (ns.map V.int)/\ns.length<64/\∀ l,H l=none->Q (.ref l) (upd H l (.lst ((zaq ns).map V.int)))):=by
 intro pins s σ H xs us Q I r h
 obtain ⟨p,ns,rfl,hq,hl,q⟩:=h
 obtain ⟨u,rfl,ru⟩:=zf8 r
 cases (show u=Value.ref p from ru)
 obtain ⟨its,rv,pl,hz⟩:=I.list hq
 have hi:IntsAre its ns:=zhd rv
 have c:=hi.length
 refine sorted_ints (vs:=its) pl.isList hi (by omega) fun out d a1 a2 a3=>?_
 obtain ⟨e,he⟩:=sortedAll_at s.heap its out
 have e2:=zib a2 a3
 subst e2
 refine ⟨.ref (s.heap.objs.size+1),_,I.laid (a:=s.heap.objs.size+1) (o:= .lst ((zaq ns).map V.int)) (t':=s.toks) (fun b o e=>sortedAll_old e) (j3 _) ?_,rfl,q _ (I.hok.fresh (j3 _))⟩
 exact ⟨by rw [fj,zbh]; exact gm (gx hl) (by decide),out.toList,e,zds a1,he⟩
def stX (X:Cx)(l:Addr)(ks:List Int):HO:= .ext fun h=>zme X.prog X.w h l ks
theorem znm (hc:X.calm=true):zhf X (.type "set") (fun xs H Q=>∃ (p:Addr) (ns:List Int),xs=[.ref p]/\SqL X.K H p (ns.map V.int)/\ns.length<=1000/\∀ l,H l=none->Q (.ref l) (upd H l (stX X l (zc7 ns)))):=by
 intro pins s σ H xs us Q I r h
 obtain ⟨p,ns,rfl,hq,hl,q⟩:=h
 obtain ⟨u,rfl,ru⟩:=zf8 r
 cases (show u=Value.ref p from ru)
 obtain ⟨its,rv,pl,hz⟩:=I.list hq
 have hi:IntsAre its ns:=zhd rv
 have b:=hi.length
 refine zqq (its:=its.toArray) (ns:=ns) (I.ok.hd hc) pl.isList (by simpa using hi) (by rw [fw]; unfold scanBound; omega) fun h' tk hS hk=>?_
 refine ⟨.ref s.heap.objs.size,_,I.laid (a:=s.heap.objs.size) (o:=stX X s.heap.objs.size (zc7 ns)) (t':=tk) hk (gf _) ?_,rfl,q _ (I.hok.fresh (gf _))⟩
 have ez:its.toArray.size=ns.length:=by rw [fw,b]
 rw [ez] at hS
 refine ⟨hS,?_,fun h1 h2 x k=>x.keep k⟩
 obtain ⟨o,_,_,_,ho,_⟩:=hS
 exact ⟨o,ho⟩
theorem zho (hc:X.calm=true):zhf X (.builtin "sorted") (fun xs H Q=>∃ (p:Addr) (ks:List Int),xs=[.ref p]/\H p=some (stX X p ks)/\ks.Nodup/\ks.length<64/\∀ l,H l=none->Q (.ref l) (upd H l (.lst ((zaq ks).map V.int)))):=by
 intro pins s σ H xs us Q I r h
 obtain ⟨p,ks,rfl,hq,hd,hl,q⟩:=h
 obtain ⟨u,rfl,ru⟩:=zf8 r
 cases (show u=Value.ref p from ru)
 obtain ⟨hS,_⟩:=I.hok p _ hq
 refine zwp (I.ok.hd hc) hS hd hl fun s' l vs ns k1 g1 o1 z1 a hi hp hs=>?_
 obtain ⟨e,he⟩:=a
 have e2:=zib hp hs
 subst e2
 have fr:H l=none:=I.hok.fresh z1
 refine ⟨.ref l,upd H l (.lst ((zaq ks).map V.int)),I.call' (ch:=[]) o1 (Un.laid k1 z1 fr) ?_ (by rw [g1]; exact I.bare) (fun b hb=>absurd hb (by simp)),rfl,q _ fr⟩
 refine I.hok.laid k1 z1 ⟨by rw [fj,zbh]; exact gm (gx hl) (by decide),vs,e,zds hi,he⟩
def FnV (K:W.Frag)(H:Hp)(f:Addr)(fd:FuncData):Prop:=(∃ fo k0,H f=some (.frz fo k0)/\fo.data = .func fd)\/∃ oc od osl,K.lookup f=some ⟨oc,od,.func fd,osl⟩
theorem FnV.at {pins:List (Addr × Obj)}{σ:St}{H:Hp}{s:Shared}{f:Addr}{fd:FuncData}(I:Inv X pins σ H s)(h:FnV X.K H f fd):PySem.W.FnAt f s.heap:=by
 rcases h with ⟨fo,k0,h1,h2⟩ | ⟨oc,od,osl,h⟩
 ·obtain ⟨z,_⟩:=I.hok f _ h1
  obtain ⟨oc,od,dt,sl⟩:=fo
  cases (show dt=Data.func fd from h2)
  exact ⟨oc,od,fd,sl,z⟩
 ·exact ⟨oc,od,fd,osl,I.kIn _ _ h⟩
def z1x (K:W.Frag)(R:Addr->FuncData->Prop)(sp:Addr->FuncData->Sp)(tf:TE)(t:TA):TE:=fun σ H Q=>tf σ H fun v H1=>∃ f fd,v = .ref f/\FnV K H1 f fd/\R f fd/\t σ H1 fun vs H2=>FnV K H2 f fd/\sp f fd vs H2 Q E0
theorem zpr {x:Str}{p pos:Pos}{e:Expr}{es:List Expr}{tf:TE}{t:TA}{k:Nat}{ps:List Str}{R:Addr->FuncData->Prop}{sp:Addr->FuncData->Sp}(hfe:PE X (.Name x p) tf)
  (G:∀ f fd,R f fd->zdl X.prog X.w X.K X.mg X.base CX0 k f fd ps (sp f fd))(hb:∀ f fd,R f fd->zce X.K fd ps [])(hr:zee k X.A)(ha:PA X (e :: es) t)
  (he:starEach (e :: es) X.env=(false,eval e X.env) :: starEach es X.env:=by rfl)(hpl:(backTo pos (starEach es X.env)).any (·.1)=false:=by rfl) :
  PE X (.Call (.Name x p) (e :: es) [] pos) (z1x X.K R sp tf t):=by
 intro pins s σ H Q I h
 refine wpAny_Call_Name_kw (thn (hfe pins s σ H _ I h) fun u s1 ⟨v,H1,I1,r,f,fd,ev,hz,hR,q⟩=>?_)
 subst ev
 cases (show u=Value.ref f from r)
 refine PySem.W.callWith_F (hz.at I1) (thn (ha pos pins s1 σ H1 _ I1 q) fun us s2 ⟨vs,H2,I2,r2,a,q2⟩=>⟨a.at I2,?_⟩) he hpl
 exact znp (dvs:=[]) (ds:=[]) (G f fd hR) hr (hb f fd hR) .nil zb5 I2 r2 (by rw [iu]; exact q2)
end
structure zx7 (K:W.Frag)(C:Addr)(m qual:Str)(st:Stmt)(ps:List Str)(ds:List Value) where
 f:Addr
 fd:FuncData
 ex:∃ (oc:Value) (od:Option Addr) (dV kV doc pm:Value) (an:Option Addr) (cdv ct:Value) (osl:Array (Option Value)),
  fd=PySem.W.fnOf m qual (zb6 st) (zbd st) (zai st) dV kV doc pm an cdv ct/\K.lookup f=some ⟨oc,od,.func fd,osl⟩/\PySem.W.codeIn K cdv qual=true
 me:zz6 K C m f
 b:zce K fd ps []
 bd:zce K fd ps ds
theorem zx7.ok {P:Program}{w:World}{K:W.Frag}{mg:Str->Option Value}{base:Heap}{C:Addr}{x qual:Str}{st:Stmt}{N ps:List Str}{ds:List Value}{k:Nat}{sp:Sp}(D:zx7 K C x qual st ps ds)(S:zal N ps (zai st))(len:∀ vs H Q E,sp vs H Q E->vs.length=ps.length)
  (hbody:∀ (cdv:Value) (A:Around) (outer:List Env) (s:Shared) (H:Hp) (vs:List V) (Q:VK) (E:XK),zee k (A.deeper (envOfC qual (zai st) s.heap.objs.size D.f cdv))->sp vs H Q E ->
   ∃ t,PSs (zq9 CX0 P w K mg base N qual (zai st) D.f cdv A outer s H E).nox (zbd st) t/\t { nx:=fun _ H'=>Q .non H',rt:=Q } (start N vs) H):zdl P w K mg base CX0 (k+1) D.f D.fd ps sp:=by
 obtain ⟨f,fd,⟨oc,od,dV,kV,doc,pm,an,cdv,ct,osl,rfl,lk,a⟩,me,b,bd⟩:=D
 refine z1t lk a S len fun A outer s H vs Q E hr c=>?_
 obtain ⟨t,h,q⟩:=hbody cdv A outer s H vs Q E hr c
 exact ⟨t,h.nox,q⟩
theorem zyg {us:List Value}(h:(us++([]:List Value)).length=4):∃ a b c d,us=[a,b,c,d] :=
 us4 (R:=fun us=>∃ a b c d,us=[a,b,c,d]) (fun a b c d=>⟨a,b,c,d,rfl⟩) us (by rwa [iu] at h)
theorem z0h {us:List Value}(h:(us++([]:List Value)).length=3):∃ a b c,us=[a,b,c] :=
 us3 (R:=fun us=>∃ a b c,us=[a,b,c]) (fun a b c=>⟨a,b,c,rfl⟩) us (by rwa [iu] at h)
theorem zzd {us:List Value}{v:Value}(h:(us++[v]).length=4):∃ a b c,us=[a,b,c] :=
 us3 (R:=fun us=>∃ a b c,us=[a,b,c]) (fun a b c=>⟨a,b,c,rfl⟩) us (by rw [fm] at h; exact Nat.succ.inj h)
theorem zyl {us:List Value}{v:Value}(h:(us++[v]).length=3):∃ a b,us=[a,b] :=
 us2 (R:=fun us=>∃ a b,us=[a,b]) (fun a b=>⟨a,b,rfl⟩) us (by rw [fm] at h; exact Nat.succ.inj h)
def zio (key:Int->Int)(ns:List Int):List Int:=ns.mergeSort (fun a b=>decide (key a<=key b))
theorem zej (key:Int->Int)(ns:List Int):(zio key ns).Perm ns:=List.mergeSort_perm _ _
theorem zh1 (key:Int->Int)(ns:List Int):(zio key ns).Pairwise (fun a b=>key a<=key b):=by
 have h:=List.pairwise_mergeSort (le:=fun a b:Int=>decide (key a<=key b)) (by intro a b c h1 h2; simp at *; omega) (by intro a b; simp; omega) ns
 exact h.imp fun h=>by simpa using h
theorem zla {key:Int->Int}:∀ {a b:List Int},a.Perm b->(∀ x∈b,∀ y∈b,key x=key y->x=y)->a.Pairwise (fun x y=>key x<=key y)->b.Pairwise (fun x y=>key x<=key y)->a=b
 | [],b,p,_,_,_=>(md.mp p).symm
 | x :: r,[],p,_,_,_=>absurd p.symm (by intro z; exact absurd (md.mp z) (by simp))
 | x :: r,y :: q,p,hj,h1,h2=>by
  obtain ⟨hx,hr⟩:=iy.mp h1
  obtain ⟨hy,hq⟩:=iy.mp h2
  have e:x=y:=by
   have m1:x∈y :: q:=p.subset (.head _)
   have m2:y∈x :: r:=p.symm.subset (.head _)
   refine hj x m1 y (.head _) ?_
   rcases gs.mp m1 with e | m1
   ·rw [e]
   ·rcases gs.mp m2 with e | m2
    ·rw [e]
    ·have:=hx y m2
     have:=hy x m1
     omega
  subst e
  rw [zla (List.Perm.cons_inv p) (fun u hu v hv=>hj u (.tail _ hu) v (.tail _ hv)) hr hq]
theorem zl0 {key:Int->Int}{a b:List Int}(p:a.Perm b)(hj:∀ x∈b,∀ y∈b,key x=key y->x=y)(h:a.Pairwise (fun x y=>key x<=key y)):a=zio key b :=
 zla (p.trans (zej key b).symm) (fun x hx y hy=>hj x ((zej key b).subset hx) y ((zej key b).subset hy)) h (zh1 key b)
theorem zue (key:Int->Int)(ns:List Int):(zio key ns).length=ns.length:=(zej key ns).length_eq
theorem zu_ {vs:List Value}{a b:List Int}(h1:IntsAre vs a)(h2:IntsAre vs b):a=b:=h1.nums.symm.trans h2.nums
theorem zk3 {key:Int->Int}:∀ {ps:List (Int × Value)},(∀ p∈ps,∃ n t,p=(key n,.int n t))->∃ ns,IntsAre (ps.map Prod.snd) ns/\ps.map Prod.fst=ns.map key
 | [],_=>⟨[],.nil,rfl⟩
 | p :: r,h=>by
  obtain ⟨n,t,rfl⟩:=h p (.head _)
  obtain ⟨ns,h1,h2⟩:=zk3 (ps:=r) fun q hq=>h q (.tail _ hq)
  exact ⟨n :: ns,.cons n t h1,by rw [gz,gz,h2]⟩
theorem znc {key:Int->Int}:∀ {vs:List Value} {ns:List Int},IntsAre vs ns->∀ p∈(ns.map key).zip vs,∃ n t,p=(key n,Value.int n t)
 | _,_,.nil,p,hp=>by simp at hp
 | _,_,.cons n t h,p,hp=>by
  rw [gz,List.zip_cons_cons] at hp
  rcases gs.mp hp with rfl | hp
  ·exact ⟨n,t,rfl⟩
  ·exact znc h p hp
theorem zs0 {key:Int->Int}{vs out:List Value}{ns:List Int}(hi:IntsAre vs ns)(hj:∀ x∈ns,∀ y∈ns,key x=key y->x=y)(h:KskOut false (ns.map key) vs out):IntsAre out (zio key ns):=by
 obtain ⟨ps,hp,rfl,ho⟩:=h
 obtain ⟨ms,h1,h2⟩:=zk3 (ps:=ps) fun p q=>znc hi p (hp.subset q)
 have pv:(ps.map Prod.snd).Perm vs:=by
  have:=hp.map Prod.snd
  rw [List.map_snd_zip (by rw [fj]; exact jy hi.length)] at this
  exact this
 obtain ⟨ls,h3,h4⟩:=zjl pv hi
 have e:=zu_ h1 h3
 subst e
 have e2:=zl0 h4 hj (by
  have z:(ps.map Prod.fst).Pairwise (· <= ·):=by
   rw [jj]
   exact ho.imp fun h=>by simpa using h
  rw [h2,jj] at z
  exact z)
 rw [<- e2]
 exact h1
theorem z3v {P:Program}{w:World}{A:Around}{E:Value->Shared->Prop}{s:Shared}{a kS:Addr}{vs:List Value}{kz:List Int}{keys:Array Value}{e e1:Nat}{Q:PySem.Fin->Shared->Prop}(ho:s.heap.get? a=some (seqObj "list" #[] e1))(hs:s.heap.get? kS=some (seqObj "list" keys e))(hne:kS≠a)
  (hk:IntsAre keys.toList kz)(hlen:kz.length=vs.length)(h64:vs.length<64)
  (q:∀ (h':Heap) (out:Array Value),(∀ b o,b≠a->b≠kS->s.heap.get? b=some o->h'.get? b=some o)->(∃ c,h'.get? a=some (seqObj "list" out c))->(∃ o,h'.get? kS=some o)->KskOut false kz vs out.toList->Q (.done (.ret .none)) { s with heap:=h' }) :
  wpAny (model P w) A (ksk_end a false vs.toArray e1 (.ref kS) keys) Q E s:=by
 have hsz:keys.size=vs.length:=by
  have z:=hk.length
  rw [ie] at z
  omega
 have g:(keys.zip vs.toArray).size=vs.length:=by rw [Array.size_zip,hsz,fw,Nat.min_self]
 have tail:∀ st:SortSt,(arrOf st).Perm (keys.zip vs.toArray)->SortedTo (arrOf st) (arrOf st).size->failedOf st=none->wpAny (model P w) A (ksk_tail a false e1 (.ref kS) st) Q E s:=by
  intro st hp l hf
  have zo:(arrOf st).size=vs.length:=by rw [hp.size_eq,g]
  unfold ksk_tail
  dsimp only
  refine wpAny_bind (listUpdate_at hs rfl ?_ (by rw [hsz,sizeLine_eq]; omega) (i9 _))
  refine wpAny_bind (wpAny_letGo ?_)
  have d:∀ b,b≠kS->(s.heap.update kS (Obj.mapSeq fun _=>(#[]:Array Value))).get? b=s.heap.get? b:=fun b hb=>Heap.get?_update_ne _ _ _ _ hb
  have f:(s.heap.update kS (Obj.mapSeq fun _=>(#[]:Array Value))).get? a=some (seqObj "list" #[] e1):=by rw [d a hne.symm]; exact ho
  have m:=get?_update_seq hs (fun _=>(#[]:Array Value))
  generalize s.heap.update kS (Obj.mapSeq fun _=>(#[]:Array Value))=h1 at d f m |-
  refine wpAny_bind (seqEpoch_at f rfl ?_)
  refine wpAny_bind (listUpdate_at f rfl ?_ (i9 _) (by simp only [je,if_false,Array.size_map,zo,sizeLine_eq]; omega))
  have n:=get?_update_seq f (fun _=>if (false:Bool)=true then (map (fun x:Keyed=>x.2) (arrOf st)).reverse else map (fun x:Keyed=>x.2) (arrOf st))
  have h:∀ b,b≠a->(h1.update a (Obj.mapSeq fun _=>if (false:Bool)=true then (map (fun x:Keyed=>x.2) (arrOf st)).reverse else map (fun x:Keyed=>x.2) (arrOf st))).get? b=h1.get? b:=fun b hb=>Heap.get?_update_ne _ _ _ _ hb
  rw [hf]
  simp only [bne_self_eq_false]
  rw [if_neg Bool.false_ne_true]
  refine wpAny_pure (q _ _ (fun b o hb p eb=>?_) ⟨_,n⟩ ⟨_,(h kS hne).trans m⟩ (ksk_out (b:=false) hk hp l))
  rw [h b hb,d b p]
  exact eb
 unfold ksk_end
 dsimp only
 rw [if_neg Bool.false_ne_true]
 by_cases h2:vs.toArray.size<2
 ·rw [if_pos h2,if_pos h2]
  refine wpAny_bind (wpAny_pure ?_)
  rw [StateT.run_pure]
  refine wpAny_bind (wpAny_pure ?_)
  refine tail _ (Array.Perm.refl _) ?_ rfl
  intro i j t hj
  have r:j<(keys.zip vs.toArray).size:=hj
  rw [g] at r
  rw [fw] at h2
  have:i=j:=by omega
  subst this
  exact Int.le_refl _
 ·rw [if_neg h2,if_neg h2]
  rw [fw] at h2
  rw [ksk_kind hk (by rw [hsz]; omega)]
  refine wpAny_bind (wpAny_pure ?_)
  refine wpAny_bind (wpAny_mono (wpS_sortRuns (a₀:=keys.zip vs.toArray) (st:=SortSt.mk' oneType' (keys.zip vs.toArray) #[] 7 none) (Q:=fun _ z=>(arrOf z).Perm (keys.zip vs.toArray)/\failedOf z=none/\SortedTo (arrOf z) (keys.zip vs.toArray).size)
   (ksk_intKeys hk) ⟨Array.Perm.refl _,rfl,rfl,rfl⟩ (by rw [g]; omega) (by rw [g]; exact h64) fun z a1 a2 a3=>⟨a1,a2,a3⟩) ?_ fun _ _ z=>z)
  rintro ⟨⟨⟩,z⟩ s' ⟨rfl,hp,hf,l⟩
  exact tail z hp (by rw [hp.size_eq]; exact l) hf
section
variable {X:Cx}
theorem zl3 {pins:List (Addr × Obj)}{σ:St}{H:Hp}{s:Shared}{it:Addr}{o:Obj}{h':Heap}{t':Nat}(I:Inv X pins σ H s)(k:∀ b,b≠it->h'.get? b=s.heap.get? b)(hn:H it=none)(hL:it≠X.env.locals)(h1:X.s₀.heap.objs.size<=it)(ho:s.heap.get? it=some o)(hd:∀ v,o.data≠ .cell v)
  (h3:∀ p∈X.pn++pins,p.1≠it):Inv X pins σ H { s with heap:=h',toks:=t' }:=by
 refine I.turned (fun b o hb e=>(k b hb).trans e) hn hL (.inr h1) (fun x c e z=>?_) h3
 obtain ⟨v,oc,hc,a⟩:=I.cell x c e
 rw [z,ho] at hc
 cases hc
 exact hd _ a
theorem zrh {pins:List (Addr × Obj)}{σ:St}{H:Hp}{s:Shared}{p f:Addr}{ns:List Int}{key:Int->Int}{R:Hp->Prop}{Q:VK}(I:Inv X pins σ H s)(hq:SqL X.K H p (ns.map V.int))(hl:ns.length<64)(hj:∀ x∈ns,∀ y∈ns,key x=key y->x=y)
  (hR:R H)(turn:∀ (pl:List (Addr × Obj)) (s':Shared) (H':Hp) (n:Int) (t:Tok),n∈ns->Inv X pl σ H' s'->R H'->wpAny (model X.prog X.w) X.A.in1.in1 (call (.ref f) [.int n t]) (EP X pl σ fun v H2=>v = .int (key n)/\R H2) (fun _ _=>False) s')
  (q:∀ H' l,R H'->H' l=none->H l=none->Q (.ref l) (upd H' l (.lst ((zio key ns).map V.int)))) :
  wpAny (model X.prog X.w) X.A (call (.builtin "sorted") [.ref p] [(Str.ofString "key",.ref f)]) (EP X pins σ Q) X.xe s:=by
 obtain ⟨vs,rv,pl,hz⟩:=I.list hq
 have hi:IntsAre vs ns:=zhd rv
 have am:=hi.length
 have ae:vs.length<=sizeLine:=by rw [sizeLine_eq]; omega
 refine call_function_entry_kw kind_sorted plain_sorted entry_sorted (ksk_s1 _ _) ?_
 unfold Builtin.«sorted»
 refine wpAny_bind (m:=checkCount "sorted" 1 1 _) (wpAny_pure ?_)
 refine wpAny_bind (collect_list pl.isList ?_ ae)
 refine wpAny_bind (wpAny_newList ?_ ae)
 have z0:((s.heap.push (seqObj "list" #[] 0)).update s.heap.objs.size (Obj.mapSeq (· ++ vs.toArray))).objs.size=s.heap.objs.size+1:=by rw [lu,size_push']
 have k0:∀ b o,s.heap.get? b=some o->((s.heap.push (seqObj "list" #[] 0)).update s.heap.objs.size (Obj.mapSeq (· ++ vs.toArray))).get? b=some o:=fun b o e=>by
  rw [Heap.get?_update_ne _ _ _ _ (gl (gi e))]
  exact Heap.get?_push_of_some _ e
 generalize ((s.heap.push (seqObj "list" #[] 0)).update s.heap.objs.size (Obj.mapSeq (· ++ vs.toArray)))=h0 at z0 k0 |-
 obtain ⟨a,ea⟩:∃ a,a=h0.objs.size:=⟨_,rfl⟩
 obtain ⟨h1,ad⟩:∃ h1,h1=h0.push (seqObj "list" vs.toArray 0):=⟨_,rfl⟩
 show wpAny _ _ _ _ _ { s with heap:=h0.push (seqObj "list" vs.toArray 0) }
 rw [<- ad]
 have ac:h1.get? a=some (seqObj "list" vs.toArray 0):=by rw [ad,ea]; exact Heap.get?_push_size _ rfl
 have z1:h1.objs.size=h0.objs.size+1:=by rw [ad]; exact size_push' _ _
 have k1:∀ b o,s.heap.get? b=some o->h1.get? b=some o:=fun b o e=>by rw [ad]; exact Heap.get?_push_of_some _ (k0 _ _ e)
 have la:s.heap.objs.size<=a:=by rw [ea,z0]; exact j3 _
 rw [<- ea]
 refine wpAny_bind (wpAny_holding (wpAny_call_entry_kw slot_list_sort ⟨_,ac,rfl⟩ entry_list_sort ?body (ksk_l1 _ _)))
 show wpAny (model X.prog X.w) X.A.in1.in1 (Builtin.«list.sort» ⟨[.ref a],[(Str.ofString "key",.ref f)]⟩) _ _ _
 rw [ksk_t1]
 unfold ksk_tree
 refine wpAny_bind (listItems_at ac rfl ?_)
 refine wpAny_bind (listUpdate_at ac rfl ?_ (by rw [fw]; exact ae) (i9 _))
 obtain ⟨e1,ag⟩:∃ e1,(h1.update a (Obj.mapSeq fun _=>(#[]:Array Value))).get? a=some (seqObj "list" #[] e1):=⟨_,get?_update_seq ac fun _=> #[]⟩
 have k2:∀ b o,s.heap.get? b=some o->(h1.update a (Obj.mapSeq fun _=>(#[]:Array Value))).get? b=some o:=fun b o e=>by
  rw [Heap.get?_update_ne _ _ _ _ (gl (gc (gi e) la))]
  exact k1 _ _ e
 have z2:(h1.update a (Obj.mapSeq fun _=>(#[]:Array Value))).objs.size=a+1:=by rw [lu,z1,ea]
 show wpAny _ _ _ _ _ { s with heap:=h1.update a (Obj.mapSeq fun _=>(#[]:Array Value)) }
 generalize h1.update a (Obj.mapSeq fun _=>(#[]:Array Value))=h2 at ag k2 z2 |-
 refine wpAny_bind (seqEpoch_at ag rfl ?_)
 refine wpAny_bind (wpAny_newTuple ?_ (by show vs.length<=_; exact ae))
 refine wpAny_bind (wpAny_newList ?_ (i9 _))
 refine wpAny_holding ?_
 obtain ⟨h3,ah⟩:∃ h3,h3=h2.push (seqObj "tuple" vs.toArray 0):=⟨_,rfl⟩
 show wpAny _ _ (ksk_rest a (.ref f) false vs.toArray e1 (.ref (h2.push (seqObj "tuple" vs.toArray 0)).objs.size)) _ _ { s with heap:=(h2.push (seqObj "tuple" vs.toArray 0)).push (seqObj "list" #[] 0) }
 rw [<- ah]
 have z3:h3.objs.size=a+2:=by rw [ah,size_push',z2]
 have k3:∀ b o,h2.get? b=some o->(h3.push (seqObj "list" #[] 0)).get? b=some o:=fun b o e=>by rw [ah]; exact Heap.get?_push_of_some _ (Heap.get?_push_of_some _ e)
 have af:(h3.push (seqObj "list" #[] 0)).get? h3.objs.size=some (seqObj "list" #[] 0):=Heap.get?_push_size _ rfl
 obtain ⟨kS,au⟩:∃ kS,kS=h3.objs.size:=⟨_,rfl⟩
 rw [<- au] at af |-
 have ao:kS≠a:=by omega
 have lk:s.heap.objs.size<=kS:=by omega
 generalize h3.push (seqObj "list" #[] 0)=h4 at k3 af |-
 have I4:Inv X pins σ H { s with heap:=h4,toks:=s.toks }:=I.kept fun b o e=>k3 _ _ (k2 _ _ e)
 have aq:=k3 _ _ ag
 have aL:a≠X.env.locals:=j9 (gc I.lt la)
 have kL:kS≠X.env.locals:=j9 (gc I.lt lk)
 have ab:∀ (s':Shared) (H':Hp) (kA:Array Value) (e:Nat),s'.heap.get? kS=some (seqObj "list" kA e)->s'.heap.get? a=some (seqObj "list" #[] e1)->H' kS=none->H' a=none->Inv X pins σ H' s'->Inv X (pins++[(kS,seqObj "list" kA e),(a,seqObj "list" #[] e1)]) σ H' s':=fun s' H' kA e g1 g2 g3 g4 J=>by
  refine J.pins_of fun x hx=>?_
  rcases fq.mp hx with z | z
  ·exact J.pin x (fh _ z)
  ·rcases gs.mp z with rfl | z
   ·exact ⟨g1,g3,kL,I.nofs lk,fun v z=>by cases z⟩
   ·rw [fi.mp z]
    exact ⟨g2,g4,aL,I.nofs la,fun v z=>by cases z⟩
 unfold ksk_rest
 refine wpAny_bind (wpAny_rule ?_)
 rw [<- Array.forIn_toList]
 simp only [List.toList_toArray]
 refine wpAny_bind (ksk_fold (fun i s'=>∃ H' kA e,Inv X (pins++[(kS,seqObj "list" kA e),(a,seqObj "list" #[] e1)]) σ H' s'/\R H'/\IntsAre kA.toList ((ns.map key).take i)) vs 0 _
  ⟨H,#[],0,ab _ _ _ _ af aq (I.hok.fresh lk) (I.hok.fresh la) I4,hR,by simpa using IntsAre.nil⟩ ?step ?done)
 case step =>
  rintro j x s' hx ⟨H',kA,e,J,ai,hk⟩
  simp only [Nat.zero_add] at hk |-
  have aw:j<vs.length:=(List.getElem?_eq_some_iff.mp hx).1
  obtain ⟨n,hn⟩:∃ n,ns[j]? = some n:=⟨_,List.getElem?_eq_getElem (by omega)⟩
  obtain ⟨u,hu,t,rfl⟩:=rv.get (i:=j) (x:= .int n) (by rw [List.getElem?_map,hn]; rfl)
  rw [hx] at hu
  cases hu
  have ax:kA.size<=vs.length:=by
   have y:=hk.length
   rw [ie,gq,fj] at y
   omega
  refine wpAny_bind (wpAny_attempt (wpAny_mono (turn _ s' H' n t (gj hn) J ai) (fun v h he=>?_) fun _ _ z=>z.elim))
  obtain ⟨v',H2,J2,r2,rfl,ap⟩:=he
  obtain ⟨t2,rfl⟩:=r2
  have gk:=J2.pin (kS,seqObj "list" kA e) (fh _ (fh _ (.head _)))
  have ga:=J2.pin (a,seqObj "list" #[] e1) (fh _ (fh _ (.tail _ (.head _))))
  obtain ⟨c2,ak⟩:∃ c2,(h.heap.update kS (Obj.mapSeq (·.push (.int (key n) t2)))).get? kS=some (seqObj "list" (kA.push (.int (key n) t2)) c2):=⟨_,get?_update_seq gk.1 (·.push (.int (key n) t2))⟩
  refine wpAny_bind (listUpdate_at gk.1 rfl ?_ (by rw [sizeLine_eq]; omega) (gm (jy (Array.size_push ..)) (by rw [sizeLine_eq]; omega)))
  have aa:∀ b,b≠kS->(h.heap.update kS (Obj.mapSeq (·.push (.int (key n) t2)))).get? b=h.heap.get? b:=fun b hb=>Heap.get?_update_ne _ _ _ _ hb
  generalize h.heap.update kS (Obj.mapSeq (·.push (.int (key n) t2)))=h5 at ak aa |-
  have J3:Inv X pins σ H2 { h with heap:=h5,toks:=h.toks }:=zl3 J2.unpinned aa gk.2.1 kL (gm I.sz lk) gk.1 (fun v z=>by cases z) fun x hx=>gl (gc (gi (I.pin x hx).1) lk)
  refine wpAny_pure ⟨rfl,H2,kA.push (.int (key n) t2),c2,ab _ _ _ _ ak ((aa a ao.symm).trans ga.1) gk.2.1 ga.2.1 J3,ap,?_⟩
  have ek:(ns.map key).take (j+1)=(ns.map key).take j++[key n]:=by rw [jb,List.getElem?_map,hn]; rfl
  rw [lr,ek]
  exact ksk_snoc hk
 case done =>
  rintro s' ⟨H',kA,e,J,ai,hk⟩
  have ar:IntsAre kA.toList (ns.map key):=by
   rw [i3 (by rw [fj]; omega)] at hk
   exact hk
  have gk:=J.pin (kS,seqObj "list" kA e) (fh _ (fh _ (.head _)))
  have ga:=J.pin (a,seqObj "list" #[] e1) (fh _ (fh _ (.tail _ (.head _))))
  refine wpAny_bind (listItems_at gk.1 rfl ?_)
  refine z3v ga.1 gk.1 ao ar (by rw [fj]; exact am.symm) (by omega) fun h' out kp ⟨c,hc⟩ ⟨o,ay⟩ ko=>⟨_,rfl,?_⟩
  have al:=zs0 hi hj ko
  have n2:∀ x∈X.pn++pins,x.1≠a/\x.1≠kS:=fun x hx=>have y:=gi (I.pin x hx).1; ⟨gl (gc y la),gl (gc y lk)⟩
  have J3:Inv X pins σ (upd H' a (.lst ((zio key ns).map V.int))) { s' with heap:=h',toks:=s'.toks }:=by
   have an:∀ d od,s'.heap.get? d=some od->(∀ v,od.data≠ .cell v)->∀ x c,X.env.cells.lookup x=some c->c≠d:=fun d od hd hn x c e z=>by
    obtain ⟨v,oc,aj,av⟩:=J.cell x c e
    rw [z,hd] at aj
    cases aj
    exact hn _ av
   have up:∀ b u,H' b=some u->(upd H' a (.lst ((zio key ns).map V.int))) b=some u:=fun b u e=>by
    rw [zab (fun z=>by rw [z,ga.2.1] at e; cases e)]
    exact e
   have g:∀ b:Addr,b∉[a,kS]->b≠a/\b≠kS:=fun b hb=>⟨fun z=>hb (by simp [z]),fun z=>hb (by simp [z])⟩
   have trk:∀ b u,H' b=some u->b≠a/\b≠kS:=fun b u e=>⟨fun z=>by (rw [z,ga.2.1] at e; cases e),fun z=>by (rw [z,gk.2.1] at e; cases e)⟩
   refine J.unpinned.step (g':=s'.gens) (d':=s'.drawn) (ch:=[a,kS]) (fun b hb=>?_) (fun b o _ _ hb e _=>kp b o (g b hb).1 (g b hb).2 e) (fun b o _ _ hb e _=>⟨o.slots,kp b o (g b hb).1 (g b hb).2 e⟩) (fun b o hb e n=>by rw [zab (g b hb).1]; exact n)
    (fun b o hb e=>⟨o,kp b o (g b hb).1 (g b hb).2 e⟩) (fun b xs e=>up b _ e) (fun b o u e=>up b _ e) (fun b ps e=>⟨#[],by rw [up b _ e]; simp⟩) (fun m hm=>?_) (fun b u e=>?_) J.bare
   ·rcases gs.mp hb with rfl | hb
    ·exact ⟨.inr (gm I.sz la),aL,an _ _ ga.1 (fun v z=>by cases z),fun x hx=>(n2 x hx).1⟩
    ·rw [fi.mp hb]
     exact ⟨.inr (gm I.sz lk),kL,an _ _ gk.1 (fun v z=>by cases z),fun x hx=>(n2 x hx).2⟩
   ·obtain ⟨o,es,ep,ho,r⟩:=hm
    exact ⟨o,es,ep,kp _ o aL.symm kL.symm ho,r⟩
   ·by_cases hb:b=a
    ·subst hb
     rw [zac] at e
     cases e
     exact ⟨by rw [fj,zue,sizeLine_eq]; omega,out.toList,c,zds al,hc⟩
    ·rw [zab hb] at e
     refine (J.hok b u e).stay (fun d v hd qd=>?_) (fun d qd=>up d _ qd) fun d xs qd=>up d _ qd
     have y:d≠a/\d≠kS:=by
      rcases hd with z | z
      ·rw [z]; exact trk b u e
      ·exact trk d _ z
     exact kp d v y.1 y.2 qd
  exact wpAny_pure ⟨_,rfl,.ref a,_,J3,rfl,q H' a ai ga.2.1 (I.hok.fresh la)⟩
end
structure zg8 (name qual:Str)(params:Arguments)(body:Expr)(scope:Scope)(cells:List (Str × Addr))(fo:Obj)(clos:List (Str × Addr))(c':Addr):Prop where
 ob:∃ pm ctv,fo=kh name qual params body scope clos pm c' ctv
 sub:∀ x c,clos.lookup x=some c->cells.lookup x=some c
 free:∀ x c,clos.lookup x=some c->(x,NameKind.free)∈scope.names
 all:∀ y∈scope.names,y.2 = .free->∃ c,clos.lookup y.1=some c
 inj:∀ x y c,clos.lookup x=some c->clos.lookup y=some c->x=y
structure zvi (H:Hp)(f:Addr)(name qual:Str)(params:Arguments)(body:Expr)(scope:Scope)(fr:List Str)(cv:List V)(fd:FuncData):Prop where
 ex:∃ fo cells clos c' oc k k',H f=some (.frz fo k)/\zg8 name qual params body scope cells fo clos c'/\fo.data = .func fd/\fd.closure=clos/\fd.code = .ref c'/\H c'=some (.frz oc k')/\zep oc qual /\
  ∀ (i:Nat) x v,fr[i]? = some x->cv[i]? = some v->∃ c,clos.lookup x=some c/\zfx H c v
theorem zvi.same {H H':Hp}{f:Addr}{name qual:Str}{params:Arguments}{body:Expr}{scope:Scope}{fr:List Str}{cv:List V}{fd:FuncData}(x:zvi H f name qual params body scope fr cv fd)(h:∀ a o k,H a=some (.frz o k)->H' a=some (.frz o k)) :
  zvi H' f name qual params body scope fr cv fd:=by
 obtain ⟨fo,cells,clos,c',oc,k,k',e1,s,e2,e3,e4,e5,cs,hv⟩:=x.ex
 exact ⟨fo,cells,clos,c',oc,k,k',h _ _ _ e1,s,e2,e3,e4,h _ _ _ e5,cs,fun i y v a b=>let ⟨c,q,z⟩:=hv i y v a b; ⟨c,q,z.same fun o k=>h c o k⟩⟩
def z3f (cells:List (Str × Addr))(P:Addr)(name qual:Str)(params:Arguments)(body:Expr)(scope:Scope)(pos:Pos):TE:=fun σ H Q=>∃ ps,H P=some (.tbl ps)/\TriplesOk ps.toList /\
 ((codeAmong pos ps.toList=none/\∀ f c' fo oc clos,H f=none->H c'=none->f≠c'->f≠P->c'≠P->zg8 name qual params body scope cells fo clos c'->zep oc qual ->
   Q (.ref f) (upd (upd (upd H P (.tbl (ps ++ #[rawInt pos.line,rawInt pos.col,.ref c']))) c' (.frz oc (.own c'))) f (.frz fo (.own f)))) \/
  (∃ c' oc k,codeAmong pos ps.toList=some (.ref c')/\H c'=some (.frz oc k)/\zep oc qual/\∀ f fo clos,H f=none->zg8 name qual params body scope cells fo clos c'->Q (.ref f) (upd H f (.frz fo (.own f)))))
section
variable {X:Cx}
theorem zqa {params:Arguments}{body:Expr}{scope:Scope}{pos:Pos}{c P:Addr}(hcode:X.env.code = .ref c)(hC:PySem.W.CodeHd X.base c P)(hB:X.base.BuiltinsAt X.mg P)
  (hfr:∀ y∈scope.names,y.2 = .free->X.env.kindOf y.1=some .cell\/X.env.kindOf y.1=some .free)(hdef:defaultsOf params X.env=([],[]):=by rfl) :
  PE X (.Lambda params body scope pos) (z3f X.env.cells P "<lambda>" (X.env.qual ++ "<lambda>") params body scope pos):=by
 intro pins s σ H Q I h
 obtain ⟨ps,hP,ht,h⟩:=h
 obtain ⟨cl,g,ac,ak,ah⟩:=zj5 (scope:=scope) (env:=X.env) (fun y hy hf=>I.ok.has y.1 (hfr y hy hf))
 have w:s.heap.get? P=some (nu ps):=I.hok P _ hP
 have hg:s.heap.Ns mainGlobals X.mg:=I.ok.mod.glob.keeps I.bk
 have ap:mainGlobals≠P:=fun q=>by
  obtain ⟨o,es,ep,e,hd,_⟩:=hg
  rw [q,w] at e
  cases e
  cases hd
 have af:s.heap.BuiltinsAt X.mg P:=by
  obtain ⟨bm,o,a1,a2,a3,a4,a5,a6⟩:=hB
  exact ⟨bm,o,a1,a2,a3,a4,I.bk _ _ a5,a6⟩
 have al:∀ {ctv:Value} {c':Addr},zg8 "<lambda>" (X.env.qual ++ "<lambda>") params body scope X.env.cells (kh "<lambda>" (X.env.qual ++ "<lambda>") params body scope cl ((X.mg "__name__").getD .none) c' ctv) cl c' :=
  fun {ctv c'}=>⟨⟨_,ctv,rfl⟩,ac,ah,ak,fun x y d h1 h2=>I.ok.inj x y d (ac x d h1) (ac y d h2)⟩
 refine PySem.W.kla_eval hdef ?_
 rcases h with ⟨ad,h⟩ | ⟨c',oc,k,aa,au,av,h⟩
 ·refine PySem.W.kla_makeFunction g I.ok.glob hg hcode (hC.keeps I.bk) w ht ad ap af fun c' ctv h' tk ao p ab ai am=>?_
  obtain ⟨c2,oc,vs,t,e2,aj,ar,aq⟩:=ai
  cases e2
  have j:H c'=none:=I.hok.fresh p
  have l:H h'.objs.size=none:=I.hok.fresh (gm p (gx ab))
  have n1:h'.objs.size≠c':=j9 ab
  have n2:h'.objs.size≠P:=fun z=>by rw [z,hP] at l; cases l
  have n3:c'≠P:=fun z=>by rw [z,hP] at j; cases j
  have q:=h h'.objs.size c' _ oc cl l j n1 n2 n3 (al (ctv:=ctv)) ⟨vs,t,ar,aq⟩
  have i:∀ b,H b=none->b≠P:=fun b e z=>by rw [z,hP] at e; cases e
  have kp:∀ b o,b≠P->s.heap.get? b=some o->(h'.push (kh "<lambda>" (X.env.qual ++ "<lambda>") params body scope cl ((X.mg "__name__").getD .none) c' ctv)).get? b=some o:=fun b o hb e=>Heap.get?_push_of_some _ (ao b o hb e)
  have f:∀ b u,H b=some u->b≠P->(upd (upd (upd H P (.tbl (ps ++ #[rawInt pos.line,rawInt pos.col,.ref c']))) c' (.frz oc (.own c'))) h'.objs.size (.frz (kh "<lambda>" (X.env.qual ++ "<lambda>") params body scope cl ((X.mg "__name__").getD .none) c' ctv) (.own h'.objs.size))) b=some u:=fun b u e hb=>by
   rw [zab (zae e l),zab (zae e j),zab hb]
   exact e
  have I2:Inv X pins σ (upd (upd (upd H P (.tbl (ps ++ #[rawInt pos.line,rawInt pos.col,.ref c']))) c' (.frz oc (.own c'))) h'.objs.size (.frz (kh "<lambda>" (X.env.qual ++ "<lambda>") params body scope cl ((X.mg "__name__").getD .none) c' ctv) (.own h'.objs.size)))
    { s with heap:=h'.push (kh "<lambda>" (X.env.qual ++ "<lambda>") params body scope cl ((X.mg "__name__").getD .none) c' ctv),toks:=tk }:=by
   refine I.step (g':=s.gens) (d':=s.drawn) (ch:=[]) (fun _ z=>nomatch z) (fun b o _ _ _ e n=>kp b o (i b n) e) (fun b o _ _ _ e n=>⟨o.slots,kp b o (i b n) e⟩) (fun b o _ e n=>?_) (fun b o _ e=>?_)
    (fun b xs e=>f b _ e (fun z=>by rw [z,hP] at e; cases e)) (fun b o u e=>f b _ e (fun z=>by rw [z,hP] at e; cases e)) (fun b qs e=>?_) (fun m hm=>?_) (fun b u e=>?_) I.bare
   ·have lt:=gi e
    rw [zab (gl (gc lt (gm p (gx ab)))),zab (gl (gc lt p)),zab (i b n)]
    exact n
   ·by_cases hb:b=P
    ·exact ⟨_,by rw [hb]; exact Heap.get?_push_of_some _ am⟩
    ·exact ⟨o,kp b o hb e⟩
   ·by_cases hb:b=P
    ·subst hb
     rw [hP] at e
     cases e
     exact ⟨_,by rw [zab n2.symm,zab n3.symm,zac]⟩
    ·exact ⟨#[],by rw [f b _ e hb]; simp⟩
   ·obtain ⟨o,es,ep,ho,r⟩:=hm
    exact ⟨o,es,ep,kp _ o (i _ I.free) ho,r⟩
   ·by_cases ag:b=h'.objs.size
    ·subst ag
     rw [zac] at e
     cases e
     exact ⟨Heap.get?_push_size _ rfl,_,Heap.get?_push_size _ rfl⟩
    ·rw [zab ag] at e
     by_cases an:b=c'
     ·subst an
      rw [zac] at e
      cases e
      exact ⟨Heap.get?_push_of_some _ aj,_,Heap.get?_push_of_some _ aj⟩
     ·rw [zab an] at e
      by_cases ae:b=P
      ·subst ae
       rw [zac] at e
       cases e
       exact Heap.get?_push_of_some _ am
      ·rw [zab ae] at e
       refine (I.hok b u e).stay (fun d v hd qd=>kp d v ?_ qd) (fun d qd=>f d _ qd (fun z=>by rw [z,hP] at qd; cases qd)) fun d xs qd=>f d _ qd (fun z=>by rw [z,hP] at qd; cases qd)
       rcases hd with z | z
       ·rw [z]
        exact ae
       ·exact fun y=>by rw [y,hP] at z; cases z
  exact ⟨.ref h'.objs.size,_,I2,rfl,q⟩
 ·refine PySem.W.kla_makeFunctionHit g I.ok.glob hg hcode (hC.keeps I.bk) w ht aa af fun ctv h' tk hk hsz=>?_
  have q:=h h'.objs.size _ cl (I.hok.fresh hsz) (al (ctv:=ctv))
  have I2:=I.laid (a:=h'.objs.size) (o:= .frz (kh "<lambda>" (X.env.qual ++ "<lambda>") params body scope cl ((X.mg "__name__").getD .none) c' ctv) (.own h'.objs.size)) (t':=tk)
   (h':=h'.push (kh "<lambda>" (X.env.qual ++ "<lambda>") params body scope cl ((X.mg "__name__").getD .none) c' ctv)) (fun b u e=>Heap.get?_push_of_some _ (hk b u e)) hsz ⟨Heap.get?_push_size _ rfl,_,Heap.get?_push_size _ rfl⟩
  exact ⟨.ref h'.objs.size,_,I2,rfl,q⟩
end
theorem zlj {cells:List (Str × Addr)}{P:Addr}{name qual:Str}{params:Arguments}{body:Expr}{scope:Scope}{pos:Pos}{Q:VK}{σ:St}{H:Hp}(T:Tab H P pos qual)
  (k:∀ f H' fo clos c' oc k1 k2,(∀ b o,b≠P->H b=some o->H' b=some o)->Tab H' P pos qual->H f=none->H' f=some (.frz fo k1)->zg8 name qual params body scope cells fo clos c'->H' c'=some (.frz oc k2)->zep oc qual ->
   Q (.ref f) H'):z3f cells P name qual params body scope pos σ H Q:=by
 obtain ⟨ps,hP,ht,z⟩:=T
 refine ⟨ps,hP,ht,?_⟩
 rcases z with z | ⟨c',oc,k0,z1,z2,z3⟩
 ·refine .inl ⟨z,fun f c' fo oc clos hf hc n1 n2 n3 sh cs=>?_⟩
  refine k f _ fo clos c' oc _ _ (fun b o hb e=>?_) ⟨_,by rw [zab n2.symm,zab n3.symm,zac],?_,.inr ⟨c',oc,_,?_,by rw [zab n1.symm,zac],cs⟩⟩ hf zac sh (by rw [zab n1.symm,zac]) cs
  ·rw [zab (zae e hf),zab (zae e hc),zab hb]
   exact e
  ·rw [Array.toList_append]
   exact zhu rfl rfl ht
  ·rw [Array.toList_append]
   exact codeAmong_snoc _ ht z
 ·refine .inr ⟨c',oc,k0,z1,z2,z3,fun f fo clos hf sh=>?_⟩
  refine k f _ fo clos c' oc _ _ (fun b o _ e=>by rw [zab (zae e hf)]; exact e) ⟨ps,by rw [zab (zae hP hf)]; exact hP,ht,.inr ⟨c',oc,k0,z1,by rw [zab (zae z2 hf)]; exact z2,z3⟩⟩ hf zac sh (by rw [zab (zae z2 hf)]; exact z2) z3
def RLm (name qual:Str)(params:Arguments)(body:Expr)(scope:Scope)(_:Addr)(fd:FuncData):Prop:=∃ clos pm c' ct,fd=mx name qual params body scope clos pm (.ref c') ct
theorem zli {name qual:Str}{params:Arguments}{body:Expr}{scope:Scope}{cells clos:List (Str × Addr)}{fo oc:Obj}{c' f:Addr}{k1 k2:HO}{H':Hp}{fr:List Str}{cv:List V}(sh:zg8 name qual params body scope cells fo clos c')
  (hf:H' f=some (.frz fo k1))(hc':H' c'=some (.frz oc k2))(cs:zep oc qual)(hfr:∀ (i:Nat) x v,fr[i]? = some x->cv[i]? = some v->(x,NameKind.free)∈scope.names/\∃ c,cells.lookup x=some c/\zfx H' c v) :
  ∃ fd,fo.data = .func fd/\RLm name qual params body scope f fd/\zvi H' f name qual params body scope fr cv fd:=by
 obtain ⟨pm,ctv,a⟩:=id sh.ob
 have hd:fo.data = .func (mx name qual params body scope clos pm (.ref c') ctv):=by rw [a]
 refine ⟨_,hd,⟨clos,pm,c',ctv,rfl⟩,⟨fo,cells,clos,c',oc,k1,k2,hf,sh,hd,rfl,rfl,hc',cs,fun i x v h1 h2=>?_⟩⟩
 obtain ⟨hx,c,hc,hv⟩:=hfr i x v h1 h2
 obtain ⟨c2,e2⟩:=sh.all (x,.free) hx rfl
 have e3:=sh.sub x c2 e2
 rw [hc] at e3
 cases e3
 exact ⟨c,e2,hv⟩
section
variable {P:Program} {w:World} {K:W.Frag} {mg:Str->Option Value} {base:Heap}
theorem zpe {k:Nat}{f:Addr}{name qual:Str}{params:Arguments}{body:Expr}{scope:Scope}{fd:FuncData}{N ps fr:List Str}{sp:List V->Sp}(S:zgp N ps fr scope)
  (len:∀ cv vs H Q E,sp cv vs H Q E->vs.length=ps.length)
  (hbody:∀ (clos:List (Str × Addr)) (cdv:Value) (A:Around) (outer:List Env) (s:Shared) (H:Hp) (cv vs:List V) (Q:VK) (E:XK),zee k (A.deeper (zps qual scope clos s.heap.objs.size f cdv))->cv.length=fr.length->sp cv vs H Q E ->
   ∃ t,PE (zx5 P w K mg base N qual scope clos f cdv A outer s H) body t/\t ((vs++cv).map some++lc (N.length - (ps++fr).length) none) H Q) :
  zdl P w K mg base CX0 (k+1) f fd ps (fun vs H Q E=>∃ cv,cv.length=fr.length/\zvi H f name qual params body scope fr cv fd/\sp cv vs H Q E):=by
 refine ⟨fun vs H Q E h=>let ⟨cv,_,_,q⟩:=h; len cv vs H Q E q,fun A outer s H args us vs Q E hr e0 hb r j=>?_⟩
 obtain ⟨cv,m,FV,j⟩:=j
 obtain ⟨fo,cells,clos,c',oc,k1,k2,e1,SH,e2,e3,e4,e5,cs,hv⟩:=FV.ex
 obtain ⟨pm,ctv,aa⟩:=SH.ob
 have hl:=len _ _ _ _ _ j
 have ah:us.length=ps.length:=by rw [<- hl]; exact r.length.symm
 have ad:s.heap.NoLimit:=e0.mod.nolimit.keeps fun b o e=>(e0.bs b o e).1
 obtain ⟨hf,_⟩:=e0.hok f _ e1
 obtain ⟨hc,_⟩:=e0.hok c' _ e5
 have af:fd=mx name qual params body scope clos pm (.ref c') ctv:=by
  have z:Data.func fd=Data.func (mx name qual params body scope clos pm (.ref c') ctv):=by rw [<- e2,aa]
  exact Data.func.inj z
 obtain ⟨ae,t1,q1,q2⟩:=cs
 subst af
 have ab:ps.Nodup:=by
  have z:(ps++fr).Nodup:=by rw [<- S.pre]; exact S.nd.sublist (l4 _ _)
  exact (jt.mp z).1
 have ag:(ps++fr).length<=N.length:=by have:=congrArg kj S.pre; rw [gq] at this; omega
 refine PySem.W.kla_callFunE hr.depth hf e2 S.co S.gen rfl ⟨c',oc,ae,t1,rfl,hc,q1,q2⟩ (hb _ _ _ _ ?_)
 refine wpAny_newFunctionEnv S.nocell (fun y hy=>S.par y.1 (jz hy).1) (fun h1 ac n=>?_) S.kind
 have kp:∀ b o,s.heap.get? b=some o->h1.get? b=some o:=fun b o e=>(n.2 b (gl (gi e))).trans (Heap.get?_push_of_some _ e)
 refine ⟨ad.keeps kp,PySem.W.kla_codeExpr ?_⟩
 obtain ⟨t,ht,hq⟩:=hbody clos (.ref c') A outer s H cv vs Q E (hr.deeper _) m j
 have l:∀ b:Addr,b∉(zx5 P w K mg base N qual scope clos f (.ref c') A outer s H).ex:=fun b z=>absurd (show b∈([]:List Addr) from z) (by simp)
 have d:∀ x c,clos.lookup x=some c->∃ v,zfx H c v:=fun x c e=>by
  have hx:=S.allfr _ (SH.free x c e) rfl
  obtain ⟨i,hi⟩:=List.getElem?_of_mem hx
  have:i<cv.length:=by rw [m]; exact (List.getElem?_eq_some_iff.mp hi).1
  obtain ⟨c2,z1,z2⟩:=hv i x cv[i] hi (by simp [this])
  rw [e] at z1
  cases z1
  exact ⟨_,z2⟩
 have I:Inv (zx5 P w K mg base N qual scope clos f (.ref c') A outer s H) [] ((vs++cv).map some++lc (N.length - (ps++fr).length) none) H { s with heap:=h1,toks:=s.toks+(ps.zip us).length }:=by
  refine ⟨⟨e0.mod,S.kind,rfl,rfl,gf _,SH.inj,fun y hy=>?_,fun y c z=>fT z,fun _=>hr.hd,Around.frames_deeper e0.frames,.inr ⟨rfl,rfl⟩,fun b z=>absurd z (l b),e0.bs,e0.bsz,fun b _ _=>l b,fun b z=>absurd z (l b),e0.funs,e0.frf⟩,
   rfl,e0.bare,Un.kept kp,⟨_,ac,fun i y v g1 g2 g3=>?_⟩,fun y c e=>?_,e0.hok.fresh (gf _),fun y c e=>?_,fun p hp=>absurd (show p∈([]:List (Addr × Obj)) from hp) (by simp),e0.hok.kept kp,?_⟩
  ·have hy:scope.names.lookup y=some .cell\/scope.names.lookup y=some .free:=hy
   rcases hy with z | z
   ·exact absurd rfl (S.nocell _ (PySem.mem_of_lookup z))
   ·exact SH.all _ (PySem.mem_of_lookup z) rfl
  ·have g1:N[i]? = some y:=g1
   have hi:i<(vs++cv).length:=by
    by_cases hi:i<(vs++cv).length
    ·exact hi
    ·rw [List.getElem?_append_right (by simpa using hi),List.getElem?_replicate] at g2
     split at g2 <;> cases g2
   rw [List.getElem?_append_left (by simpa using hi),List.getElem?_map] at g2
   have g:(vs++cv)[i]? = some v:=by
    cases q:(vs++cv)[i]? with
    | none=>rw [q] at g2; cases g2
    | some z=>rw [q] at g2; cases g2; rfl
   have a:(ps++fr)[i]? = some y:=by
    rw [<- S.pre,List.getElem?_take_of_lt (by rw [fm] at hi |-; omega)]
    exact g1
   by_cases hp:i<ps.length
   ·rw [List.getElem?_append_left hp] at a
    rw [List.getElem?_append_left (by omega)] at g
    obtain ⟨u,hu,ru⟩:=r.get g
    exact ⟨u,ru,.inl ⟨S.par y (gj a),zkq (us:=us) ab a hu⟩⟩
   ·rw [List.getElem?_append_right (by omega)] at a
    rw [List.getElem?_append_right (by omega)] at g
    obtain ⟨c,z1,o,u,k,z2,z3,z4⟩:=hv (i - ps.length) y v a (by rw [<- hl]; exact g)
    obtain ⟨z5,_⟩:=e0.hok c _ z2
    exact ⟨u,z4,.inr ⟨.inr (S.fre y (gj a)),c,z1,o,kp _ _ z5,z3⟩⟩
  ·obtain ⟨v,o,u,k,z2,z3,z4⟩:=d y c e
   obtain ⟨z5,_⟩:=e0.hok c _ z2
   exact ⟨_,o,kp _ _ z5,z3⟩
  ·obtain ⟨v,o,u,k,z2,_⟩:=d y c e
   exact ⟨fun z=>fT z,.inr ⟨o,k,z2⟩⟩
  ·show _=N.length
   have z1:(ps++fr).length=ps.length+fr.length:=fm
   rw [fm,fj,List.length_replicate,fm]
   omega
 exact wpAny_mono (ht [] _ _ H _ I hq) (fun u s' ⟨v,H',J,rv,q⟩=>⟨v,H',J.os,J.bare,J.base,J.hok,rv,q⟩) fun e s' hs=>hs.elim
end
def z1g (K:W.Frag)(Rr:Addr->FuncData->Prop)(sp:Addr->FuncData->Sp)(te tl:TE):TE:=fun σ H Q=>zgk te zsi σ H fun vs H1=>zgk tl zsi σ H1 fun zs H2=>∃ (p f:Addr) (fd:FuncData) (ns:List Int) (key:Int->Int),vs=[.ref p]/\zs=[.ref f]/\SqL K H2 p (ns.map V.int)/\ns.length<64 /\
 (∀ x∈ns,∀ y∈ns,key x=key y->x=y)/\Rr f fd/\(∀ n∈ns,∀ Q':VK,Q' (.int (key n)) H2->sp f fd [.int n] H2 Q' E0)/\∀ l,H2 l=none->Q (.ref l) (upd H2 l (.lst ((zio key ns).map V.int)))
theorem zwb {X:Cx}{x:Str}{e lam:Expr}{te tl:TE}{p pos kpos:Pos}{k:Nat}{ps:List Str}{Rr:Addr->FuncData->Prop}{sp:Addr->FuncData->Sp}(hg:Gl X x)(hm:X.mg x=none)(hv:bootBuiltins x=some (.builtin "sorted"))(G:∀ f fd,Rr f fd->zdl X.prog X.w X.K X.mg X.base CX0 k f fd ps (sp f fd))(hb:∀ f fd,Rr f fd->zce X.K fd ps [])
  (hr:zee (k+2) X.A)(he:PE X e te)(hl:PE X lam tl)(hn:x≠ "__name__" :=by decide)(hdb:(x == ("__debug__" : Str))=false:=by decide)(hs:starEach [e] X.env=[(false,eval e X.env)]:=by rfl) :
  PE X (.Call (.Name x p) [e] [⟨some "key",lam,kpos⟩] pos) (z1g X.K Rr sp te tl):=by
 intro pins s σ H Q I h
 refine wpAny_Call_Name_kw (zjz I hg hm hv ?_ hn hdb)
 refine callWith_kw (thn (zaa he zag hs pos pins s σ H _ I h) fun us s1 ⟨vs,H1,I1,r1,q1⟩=>?_) (by rw [hs]; rfl) (by rw [hs]; rfl) rfl rfl
 ·refine thn (zo8 hl zw2 pos pins s1 σ H1 _ I1 q1) fun ws s2 ⟨zs,H2,I2,rz,a,f,fd,ns,d,e1,e2,hq,g,hj,hR,c,q⟩=>?_
  subst e1 e2
  obtain ⟨v',rfl,rv⟩:=zf8 r1
  obtain ⟨u',rfl,ru⟩:=zf8 rz
  cases (show v'=Value.ref a from rv)
  cases (show u'=Value.ref f from ru)
  show wpAny _ _ (call (.builtin "sorted") [.ref a] [(Str.ofString "key",.ref f)]) _ _ _
  refine zrh (R:=fun H'=>H'=H2) I2 hq g hj rfl (fun pl s' H' n t hn J e=>?_) (fun H' l e hl _=>by subst e; exact q l hl)
  subst e
  have F:=G f fd hR
  have b:=c n hn (fun v H2=>v = .int (d n)/\H2=H') ⟨rfl,rfl⟩
  refine wpAny_call (codeAny_mono (F.run X.A.in1.in1 X.stack s' H' ⟨[.int n t],[]⟩ [.int n t] [.int n] _ E0 hr.in1.in1 J.env0.in1.in1 (by have y:=hb f fd hR s' [.int n t] J.kIn (by rw [iu]; exact F.len _ _ _ _ b); rw [iu] at y; exact y) (.cons ⟨t,rfl⟩ .nil) b) fun r i hq=>?_)
  cases r with
  | error e=>exact False.elim hq
  | ok fl =>
   cases fl with
   | ret u=>exact J.after hq
   | next=>exact False.elim hq
   | brk=>exact False.elim hq
   | cont=>exact False.elim hq
abbrev bmV:List Value:=[.type "ValueError",.type "Exception",.type "BaseException",.type "object"]
structure DfE (K:W.Frag)(mg:Str->Option Value)(x:Str) where
 C:Addr
 hm:mg x=some (.ref C)
 ex:PySem.W.excIn K C bmV "ValueError.__new__" = true
theorem zy6 {K:W.Frag}{h:Heap}{C:Addr}{bmB:List Value}{newId:String}(X:K.In h)(q:PySem.W.excIn K C bmB newId=true) :
  ∃ bm N nm qn bs hdct sn sub ab col dd k0 k1 k2 k3 k5 mN,h.get? C=some (excClassObj nm qn C N bs bm hdct sn sub ab col dd k0 k1 k2 k3 k5 newId)/\h.Ns N mN/\mN "__init__" = none/\OwnTail h bmB bm:=by
 unfold PySem.W.excIn at q
 split at q
 ·rename_i dd cd sl ho
  split at q
  ·rename_i C1 bm k0 k1 k2 k3 n k5 hm hs
   simp only [ik,beq_iff_eq,ju] at q
   obtain ⟨⟨⟨⟨⟨e1,e2⟩,a⟩,ht⟩,hok⟩,b⟩:=q
   subst e1 e2
   obtain ⟨nm,bs,mro,ns,qn,hd,sn,sub,ab,col,c⟩:=cd
   dsimp only at hm a hok b
   subst hm a
   obtain ⟨l⟩:=sl
   simp only at hs
   subst hs
   exact ⟨bm,ns,nm,qn,bs,hd,sn,sub,ab,col,dd,k0,k1,k2,k3,k5,_,X _ _ ho,.of_isNs (PySem.W.isNs_of_in X hok),PySem.W.nsMap_none_of_in X hok b,PySem.W.tail_of_in X ht⟩
  ·cases q
 ·cases q
def z0y (W:Hp->Prop)(t:TA):TS:=fun D σ H=>t σ H fun vs H1=>vs.length<=sizeLine/\W H1
theorem zfm {X:Cx}{x:Str}{np cpos pos:Pos}{e:Expr}{es:List Expr}{t:TA}{W:Hp->Prop}(D:DfE X.K X.mg x)(hg:Gl X x)(hc:X.calm=true)(ha:PA X (e :: es) t)
  (hxe:∀ (pins:List (Addr × Obj)) (σ:St) (H:Hp) (s:Shared) (h':Heap) (ea:Addr) (vs:List Value),Inv X pins σ H s->Heap.MadeExcOf s.heap h' ea (.ref D.C) vs->W H->X.xe (.ref ea) { s with heap:=h' })
  (hs:starEach (e :: es) X.env=(false,eval e X.env) :: starEach es X.env:=by rfl)(hpl:(backTo cpos (starEach es X.env)).any (·.1)=false:=by rfl)(hdb:(x == ("__debug__" : Str))=false:=by decide) :
  PS X (.Raise (some (.Call (.Name x np) (e :: es) [] cpos)) none pos) (z0y W t):=by
 intro pins s σ H D' I h
 obtain ⟨bm,N,nm,q,bs,hdct,sn,sub,ab,col,dd,k0,k1,k2,k3,k5,mN,hC,hN,a,T⟩:=zy6 I.ok.mod.kin D.ex
 refine wpAny_Raise_call_subU (C:=D.C) (nm:=nm) (q:=q) (N:=N) (bs:=bs) (bm:=bm) (hdct:=hdct) (sn:=sn) (sub:=sub) (ab:=ab) (col:=col) (dd:=dd) (k0:=k0) (k1:=k1) (k2:=k2) (k3:=k3) (k5:=k5)
  jk (bmB:=bmV) (by decide +kernel) jk (mN:=mN) (T.hasType jk.hasBase) (I.ok.hd hc) (by rw [hs]; show (false || (backTo cpos (starEach es X.env)).any (·.1))=false; rw [hpl]; rfl) a (zlv I hg D.hm ⟨rfl,?_⟩ hdb)
 have A1:=ha cpos pins s σ H _ I h
 rw [hs] at A1 |-
 refine Calls.evalArgs_plain (wpAny_mono A1 (fun us s2 h2=>?_) fun _ _ y=>y)
 obtain ⟨vs,H1,I1,r,hz,hw⟩:=h2
 exact ⟨rfl,by rw [<- r.length]; exact hz,I1.bk _ _ hC,hN.keeps I1.bk,T.keeps I1.bk,fun h' ea hm=>hxe pins σ H1 s2 h' ea us I1 hm hw⟩
section
variable {κ:Type} [DecidableEq κ]
def zdy (kvs:List (κ × V))(k:κ):Option V:=(kvs.find? fun kv=>decide (kv.1=k)).map (·.2)
def zd3 (kvs:List (κ × V))(k:κ)(v:V):List (κ × V) :=
 if (kvs.any fun kv=>decide (kv.1=k))=true then kvs.map (fun kv=>if kv.1=k then (kv.1,v) else kv) else kvs++[(k,v)]
def zcw (kvs:List (κ × V))(k:κ):List (κ × V):=kvs.filter fun kv=>decide (kv.1≠k)
theorem ze1 {p:κ × V}{r:List (κ × V)}{k:κ}(e:p.1=k):zdy (p :: r) k=some p.2:=by simp [zdy,List.find?_cons,e]
theorem zd5 {p:κ × V}{r:List (κ × V)}{k:κ}(e:¬ p.1=k):zdy (p :: r) k=zdy r k:=by simp [zdy,List.find?_cons,e]
theorem zfu (k:κ):∀ kvs:List (κ × V),(kvs.any fun kv=>decide (kv.1=k))=(zdy kvs k).isSome
 | []=>rfl
 | p :: r=>by
  rw [kn]
  by_cases e:p.1=k
  ·simp only [ze1 e,decide_eq_true e,Bool.true_or,lv]
  ·rw [zd5 e,decide_eq_false e,Bool.false_or]; exact zfu k r
theorem ze3 (kvs:List (κ × V))(k:κ)(v:V):(zd3 kvs k v).length<=kvs.length+1:=by
 unfold zd3
 split
 ·rw [fj]; omega
 ·rw [fm,i8,jf]; omega
theorem zgh {kvs:List (κ × V)}{k:κ}(v:V)(h:zdy kvs k=none):zd3 kvs k v=kvs++[(k,v)]:=by
 unfold zd3
 rw [zfu,h]
 exact if_neg (by decide)
theorem zk_.isSome_eq {o:Option V}{u:Option Value}(r:zk_ o u):o.isSome=u.isSome:=by
 cases o with
 | none=>cases u with
  | none=>rfl
  | some _=>exact (show False from r).elim
 | some _=>cases u with
  | none=>exact (show False from r).elim
  | some _=>rfl
theorem zk_.getD {o:Option V}{u:Option Value}{d:V}{d':Value}(r:zk_ o u)(rd:zbp d d'):zbp (o.getD d) (u.getD d'):=by
 cases o with
 | none=>cases u with
  | none=>exact rd
  | some _=>exact (show False from r).elim
 | some _=>cases u with
  | none=>exact (show False from r).elim
  | some _=>exact r
theorem KV.val {kvs:List (κ × V)}{vs:List (κ × Value)}(r:KV kvs vs)(k:κ):zk_ (zdy kvs k) (valueAt vs k):=by
 unfold KV at r
 induction r with
 | nil=>exact True.intro
 | @cons p q ps qs h t ih =>
  obtain ⟨h1,h2⟩:=h
  by_cases e:p.1=k
  ·have e':q.1=k:=h1.symm.trans e
   have b:valueAt (q :: qs) k=some q.2:=by simp [valueAt,List.find?_cons,e']
   rw [ze1 e,b]; exact h2
  ·have e':¬ q.1=k:=fun z=>e (h1.trans z)
   have b:valueAt (q :: qs) k=valueAt qs k:=by simp [valueAt,List.find?_cons,e']
   rw [zd5 e,b]; exact ih
theorem KV.any {kvs:List (κ × V)}{vs:List (κ × Value)}(r:KV kvs vs)(k:κ):(kvs.any fun kv=>decide (kv.1=k))=vs.any fun kv=>decide (kv.1=k):=by
 unfold KV at r
 induction r with
 | nil=>rfl
 | cons h t ih=>rw [kn,kn,ih,h.1]
theorem KV.repl {kvs:List (κ × V)}{vs:List (κ × Value)}(r:KV kvs vs)(k:κ){y:V}{u:Value}(ry:zbp y u) :
  KV (kvs.map fun kv=>if kv.1=k then (kv.1,y) else kv) (vs.map fun kv=>if kv.1=k then (kv.1,u) else kv):=by
 unfold KV at r |-
 induction r with
 | nil=>exact .nil
 | @cons p q ps qs h t ih =>
  rw [gz,gz]
  refine .cons ?_ ih
  obtain ⟨h1,h2⟩:=h
  by_cases e:p.1=k
  ·rw [if_pos e,if_pos (h1.symm.trans e)]; exact ⟨h1,ry⟩
  ·rw [if_neg e,if_neg (fun z=>e (h1.trans z))]; exact ⟨h1,h2⟩
theorem KV.put {kvs:List (κ × V)}{vs:List (κ × Value)}(r:KV kvs vs)(k:κ){y:V}{u:Value}(ry:zbp y u):KV (zd3 kvs k y) (stored vs k u):=by
 unfold zd3 stored
 rw [r.any k]
 by_cases e:(vs.any fun kv=>decide (kv.1=k))=true
 ·rw [if_pos e,if_pos e]; exact r.repl k ry
 ·rw [if_neg e,if_neg e]; exact Paired.snoc r ⟨rfl,ry⟩
theorem KV.drop {kvs:List (κ × V)}{vs:List (κ × Value)}(r:KV kvs vs)(k:κ):KV (zcw kvs k) (without vs k):=by
 unfold KV at r |-
 unfold zcw without
 induction r with
 | nil=>exact .nil
 | @cons p q ps qs h t ih =>
  obtain ⟨h1,h2⟩:=h
  rw [lw,lw]
  by_cases e:p.1=k
  ·have a:¬ decide (p.1≠k)=true:=by simp [e]
   have b:¬ decide (q.1≠k)=true:=by simp [h1.symm.trans e]
   rw [if_neg a,if_neg b]; exact ih
  ·have e':¬ q.1=k:=fun z=>e (h1.trans z)
   have a:decide (p.1≠k)=true:=by simp [e]
   have b:decide (q.1≠k)=true:=by simp [e']
   rw [if_pos a,if_pos b]; exact .cons ⟨h1,h2⟩ ih
theorem KV.keys {kvs:List (κ × V)}{vs:List (κ × Value)}(r:KV kvs vs):kvs.map (·.1)=vs.map (·.1):=by
 unfold KV at r
 induction r with
 | nil=>rfl
 | cons h t ih=>rw [gz,gz,ih,h.1]
theorem KV.length {kvs:List (κ × V)}{vs:List (κ × Value)}(r:KV kvs vs):kvs.length=vs.length:=Paired.length r
theorem zvu (kvs:List (κ × V))(k:κ):(zcw kvs k).length<=kvs.length:=ib _ _
end
theorem zkf {P:Program}{w:World}{k:Key}{u:Value}(r:zbp (kV k) u):(za6 P w).is k u=true:=by
 cases k with
 | inl i=>obtain ⟨t,e⟩:=(show ∃ t,u=Value.int i t from r); subst e; exact zos P w i t
 | inr x=>obtain ⟨t,e⟩:=(show ∃ t,u=Value.str x t from r); subst e; exact zoa P w x t
theorem zm4 {P:Program}{w:World}:∀ {ks:List Key} {us:List Value},zbq (ks.map kV) us->ItemsAre (za6 P w) ks us
 | [],_,r=>by rw [mk] at r; cases r; exact .nil
 | k :: ks,_,r=>by
  rw [gz] at r
  cases r with
  | cons h t=>exact .cons (zkf h) (zm4 t)
abbrev KT (H:Hp):List (List Key × V)->List (List Key × Addr × Value)->Prop:=Paired fun p q=>p.1=q.1/\H q.2.1=some (.tup (p.1.map kV))/\zbp p.2 q.2.2
theorem KT.val {H:Hp}{kvs:List (List Key × V)}{xs:List (List Key × Addr × Value)}(r:KT H kvs xs)(k:List Key):zk_ (zdy kvs k) ((atKey xs k).map (·.2)):=by
 induction r with
 | nil=>exact True.intro
 | @cons p q ps qs h t ih =>
  obtain ⟨h1,_,h2⟩:=h
  by_cases e:p.1=k
  ·have e':q.1=k:=h1.symm.trans e
   have b:atKey (q :: qs) k=some q.2:=by simp [atKey,List.find?_cons,e']
   rw [ze1 e,b]; exact h2
  ·have e':¬ q.1=k:=fun z=>e (h1.trans z)
   have b:atKey (q :: qs) k=atKey qs k:=by simp [atKey,List.find?_cons,e']
   rw [zd5 e,b]; exact ih
theorem KT.repl {H:Hp}{kvs:List (List Key × V)}{xs:List (List Key × Addr × Value)}(r:KT H kvs xs)(k:List Key){y:V}{u:Value}(ry:zbp y u) :
  KT H (kvs.map fun kv=>if kv.1=k then (kv.1,y) else kv) (xs.map (putAt k u)):=by
 induction r with
 | nil=>exact .nil
 | @cons p q ps qs h t ih =>
  rw [gz,gz]
  refine .cons ?_ ih
  obtain ⟨h1,h2,h3⟩:=h
  unfold putAt
  by_cases e:p.1=k
  ·rw [if_pos e,if_pos (h1.symm.trans e)]; exact ⟨h1,h2,ry⟩
  ·rw [if_neg e,if_neg (fun z=>e (h1.trans z))]; exact ⟨h1,h2,h3⟩
theorem KT.put {H:Hp}{kvs:List (List Key × V)}{xs:List (List Key × Addr × Value)}(r:KT H kvs xs)(k:List Key){b:Addr}{y:V}{u:Value}(hb:H b=some (.tup (k.map kV)))(ry:zbp y u) :
  KT H (zd3 kvs k y) (storedH xs k b u):=by
 have e:(kvs.any fun kv=>decide (kv.1=k))=(atKey xs k).isSome:=by
  rw [zfu,(r.val k).isSome_eq,m7]
 unfold zd3 storedH
 rw [e]
 by_cases q:(atKey xs k).isSome=true
 ·rw [if_pos q,if_pos q]; exact r.repl k ry
 ·rw [if_neg q,if_neg q]; exact Paired.snoc r ⟨rfl,hb,ry⟩
theorem KT.keeps {H H':Hp}{kvs:List (List Key × V)}{xs:List (List Key × Addr × Value)}(r:KT H kvs xs)(ht:∀ b ys,H b=some (.tup ys)->H' b=some (.tup ys)):KT H' kvs xs :=
 Paired.mapP r fun _ _ z=>⟨z.1,ht _ _ z.2.1,z.2.2⟩
section
variable {P:Program} {w:World} {H:Hp} {h:Heap} {a:Addr}
theorem z1i {u:HO}(ok:HOk P w H h)(e:Rd H a u):zca P w H h a u:=e.ok ok
theorem zo1 {kvs:List (Key × V)}(ok:HOk P w H h)(e:Rd H a (.dK kvs)):kvs.length<=sizeLine/\(a == sysModules)=false/\∃ vs,KV kvs vs/\h.DictOf (za6 P w) a vs :=
 show zca P w H h a (.dK kvs) from z1i ok e
theorem zmz {kvs:List (Key × V)}(ok:HOk P w H h)(e:H a=some (.dK kvs)):kvs.length<=sizeLine/\(a == sysModules)=false/\∃ vs,KV kvs vs/\h.DictOf (za6 P w) a vs:=zo1 ok (.inl e)
theorem zkv {ks:List Key}(ok:HOk P w H h)(e:H a=some (.tup (ks.map kV))):(tupleKind (za6 P w)).is h ks a:=by
 obtain ⟨_,its,r,o,h1,h2,n,h3⟩:=(show zca P w H h a (.tup (ks.map kV)) from ok a _ e)
 exact ⟨o,its.toArray,n,h1,h2,h3,by simpa using zm4 r⟩
theorem zoe {kvs:List (List Key × V)}(ok:HOk P w H h)(e:Rd H a (.dT kvs)):kvs.length<=sizeLine/\(a == sysModules)=false /\
  ∃ xs,KT H kvs xs/\h.DictOfH (tupleKind (za6 P w)) a xs:=by
 obtain ⟨z,y,xs,r,o,es,ep,h1,h2,h3,h4,h5⟩:=(show zca P w H h a (.dT kvs) from z1i ok e)
 refine ⟨z,y,xs,r,o,es,ep,h1,h2,h3,h4,fun x hx=>?_,h5⟩
 have all:∀ {l:List (List Key × V)} {m:List (List Key × Addr × Value)},KT H l m->∀ x∈m,(tupleKind (za6 P w)).is h x.1 x.2.1:=by
  intro l m q
  induction q with
  | nil=>intro x hx; exact nomatch hx
  | @cons p q ps qs hq t ih =>
   intro x hx
   rcases gs.mp hx with e | hx
   ·subst e
    exact zkv ok (by rw [<- hq.1]; exact hq.2.1)
   ·exact ih x hx
 exact all r x hx
theorem z2j {kvs:List (List Key × V)}(ok:HOk P w H h)(e:H a=some (.dT kvs)):kvs.length<=sizeLine/\(a == sysModules)=false /\
  ∃ xs,KT H kvs xs/\h.DictOfH (tupleKind (za6 P w)) a xs:=zoe ok (.inl e)
end
def zgf (H:Hp)(a:Addr)(y:V)(r:Option V):Prop :=
 (∃ kvs k,Rd H a (.dK kvs)/\y=kV k/\r=zdy kvs k)\/∃ kvs k b,Rd H a (.dT kvs)/\y = .ref b/\H b=some (.tup (k.map kV))/\r=zdy kvs k
def zkl (H:Hp)(a:Addr)(y v:V)(H':Hp):Prop :=
 (∃ kvs k,H a=some (.dK kvs)/\y=kV k/\kvs.length<sizeLine/\H'=upd H a (.dK (zd3 kvs k v))) \/
 ∃ kvs k b,H a=some (.dT kvs)/\y = .ref b/\H b=some (.tup (k.map kV))/\kvs.length<sizeLine/\H'=upd H a (.dT (zd3 kvs k v))
theorem zgf.k {H:Hp}{a:Addr}{kvs:List (Key × V)}{k:Key}(e:H a=some (.dK kvs)):zgf H a (kV k) (zdy kvs k):= .inl ⟨kvs,k,.inl e,rfl,rfl⟩
theorem zkl.k {H:Hp}{a:Addr}{kvs:List (Key × V)}{k:Key}{v:V}(e:H a=some (.dK kvs))(hl:kvs.length<sizeLine):zkl H a (kV k) v (upd H a (.dK (zd3 kvs k v))):= .inl ⟨kvs,k,e,rfl,hl,rfl⟩
section
variable {X:Cx} {pins:List (Addr × Obj)} {σ:St} {H:Hp} {s:Shared} {a:Addr} {y v:V} {u r:Value} {o:Option V} {A:Around} {E:Value->Shared->Prop}
theorem Inv.big (I:Inv X pins σ H s):sysModules<s.heap.objs.size:=by
 have h:mainGlobals<s.heap.objs.size:=(I.mod.glob.keeps I.bk).lt
 exact ma (by decide) h
theorem zsx {Q:Value->Shared->Prop}(hu:A.units+1<cLine)(I:Inv X pins σ H s)(g:zgf H a y (some v))(ry:zbp y u)(h:∀ w' s',Inv X pins σ H s'->zbp v w'->Q w' s') :
  wpAny (model X.prog X.w) A (getItem (.ref a) u) Q E s:=by
 rcases g with ⟨kvs,k,e,ey,l⟩ | ⟨kvs,k,b,e,ey,eb,l⟩
 ·subst ey
  obtain ⟨z,hd,vs,d,dd⟩:=zo1 I.hok e
  obtain ⟨w',hw,c⟩:=zk_.some_of (v:=v) (o:=valueAt vs k) (by rw [l]; exact d.val k)
  exact wpAny_getItem_of (zkf ry) dd.mapOf hw (h w' _ (I.tok _) c)
 ·subst ey
  cases (show u=Value.ref b from ry)
  obtain ⟨z,hd,xs,d,dd⟩:=zoe I.hok e
  obtain ⟨w',hw,c⟩:=zk_.some_of (v:=v) (o:=(atKey xs k).map (·.2)) (by rw [l]; exact d.val k)
  obtain ⟨p,hp,f⟩:=jx.mp hw
  refine wpAny_getItem_heap (tupleKind_room_in1 hu) (zkv I.hok eb) dd hp ?_
  rw [f]
  exact h w' _ (I.tok _) c
theorem z3r {Q:Value->Shared->Prop}(hu:A.units+1<cLine)(I:Inv X pins σ H s)(g:zgf H a y o)(ry:zbp y u)(h:∀ s',Inv X pins σ H s'->Q (.bool o.isSome) s') :
  wpAny (model X.prog X.w) A (compareOp .In u (.ref a)) Q E s:=by
 rcases g with ⟨kvs,k,e,ey,l⟩ | ⟨kvs,k,b,e,ey,eb,l⟩
 ·subst ey
  obtain ⟨z,hd,vs,c,dd⟩:=zo1 I.hok e
  refine wpAny_in_of (zkf ry) hd dd.mapOf ?_
  rw [<- (c.val k).isSome_eq,<- l]
  exact h _ (I.tok _)
 ·subst ey
  cases (show u=Value.ref b from ry)
  obtain ⟨z,hd,xs,c,dd⟩:=zoe I.hok e
  refine wpAny_in_heap (tupleKind_room_in1 hu) (zkv I.hok eb) hd dd ?_
  have q:=(c.val k).isSome_eq
  rw [m7] at q
  rw [<- q,<- l]
  exact h _ (I.tok _)
theorem zys {Q:Value->Shared->Prop}(hu:A.units+1<cLine)(I:Inv X pins σ H s)(g:zgf H a y o)(ry:zbp y u)(h:∀ s',Inv X pins σ H s'->Q (.bool (!o.isSome)) s') :
  wpAny (model X.prog X.w) A (compareOp .NotIn u (.ref a)) Q E s:=by
 rcases g with ⟨kvs,k,e,ey,l⟩ | ⟨kvs,k,b,e,ey,eb,l⟩
 ·subst ey
  obtain ⟨z,hd,vs,c,dd⟩:=zo1 I.hok e
  refine wpAny_notIn_of (zkf ry) hd dd.mapOf ?_
  rw [<- (c.val k).isSome_eq,<- l]
  exact h _ (I.tok _)
 ·subst ey
  cases (show u=Value.ref b from ry)
  obtain ⟨z,hd,xs,c,dd⟩:=zoe I.hok e
  refine wpAny_notIn_heap (tupleKind_room_in1 hu) (zkv I.hok eb) hd dd ?_
  have q:=(c.val k).isSome_eq
  rw [m7] at q
  rw [<- q,<- l]
  exact h _ (I.tok _)
theorem zjc {h':Heap}{t':Nat}{ob:HO}(I:Inv X pins σ H s)(mu:Mut (H a))(hs:Heap.SameBut a s.heap h')(he:∃ q,h'.get? a=some q)(new:zca X.prog X.w (upd H a ob) h' a ob) :
  Inv X pins σ (upd H a ob) { s with heap:=h',toks:=t' } :=
 I.write (x:=a) (e:=a) mu (.inl rfl) (fun b q hb z=>(hs.2 b hb).trans z) he new
theorem zpp {P:Program}{w:World}{H':Hp}{h':Heap}{kvs:List (Key × V)}{vs:List (Key × Value)}(z:kvs.length<=sizeLine)(hd:(a == sysModules)=false)(rel:KV kvs vs)(dd:h'.DictOf (za6 P w) a vs) :
  zca P w H' h' a (.dK kvs):=⟨z,hd,vs,rel,dd⟩
theorem zs_ {H':Hp}{Q:Unit->Shared->Prop}(hu:A.units+1<cLine)(I:Inv X pins σ H s)(g:zkl H a y v H')(ry:zbp y u)(rv:zbp v r)(h:∀ s',Inv X pins σ H' s'->Q () s') :
  wpAny (model X.prog X.w) A (setItem (.ref a) u r) Q E s:=by
 rcases g with ⟨kvs,k,e,ey,l,eH⟩ | ⟨kvs,k,b,e,ey,eb,l,eH⟩
 ·subst ey eH
  obtain ⟨z,hd,vs,d,dd⟩:=zmz I.hok e
  have hz:vs.length<=sizeLine:=by rw [<- d.length]; exact z
  have hl:(zd3 kvs k v).length<=sizeLine:=by have:=ze3 kvs k v; omega
  refine wpAny_setItem_pairs (hsz:=hz) (zkf ry) dd fun h' f hs=>h _ ?_
  have he:∃ q,h'.get? a=some q:=let ⟨q,_,_,hq,_⟩:=f; ⟨q,hq⟩
  exact zjc I (by rw [e]; exact True.intro) hs he (zpp hl hd (d.put k rv) f)
 ·subst ey eH
  cases (show u=Value.ref b from ry)
  obtain ⟨z,hd,xs,d,dd⟩:=z2j I.hok e
  have hz:xs.length<=sizeLine:=by rw [<- Paired.length d]; exact z
  have hl:(zd3 kvs k v).length<=sizeLine:=by have:=ze3 kvs k v; omega
  refine wpAny_setItem_heap (hsz:=hz) (tupleKind_room_in1 hu) (zkv I.hok eb) dd fun h' f hs=>h _ ?_
  obtain ⟨q,es,ep,hq,h2,h3,h4,_,h5⟩:=f
  refine zjc I (by rw [e]; exact True.intro) hs ⟨q,hq⟩ ⟨hl,hd,_,(d.put k eb rv).keeps fun c ys ec=>?_,q,es,ep,hq,h2,h3,h4,h5⟩
  rw [zab (zck ec e (fun z=>nomatch z))]
  exact ec
end
section
variable {X:Cx} {pins:List (Addr × Obj)} {σ:St} {H:Hp} {s:Shared} {a:Addr} {kvs:List (Key × V)} {k:Key} {u:Value} {A:Around} {E:Value->Shared->Prop}
theorem z0l {v:V}{more:List Value}{Q:Value->Shared->Prop}(I:Inv X pins σ H s)(e:H a=some (.dK kvs))(ry:zbp (kV k) u)(l:zdy kvs k=some v)(hm:more=[]\/∃ x,more=[x])
  (h:∀ w' s',Inv X pins σ (upd H a (.dK (zcw kvs k))) s'->zbp v w'->Q w' s'):wpAny (model X.prog X.w) A (call (.builtin "dict.pop") (.ref a :: u :: more)) Q E s:=by
 obtain ⟨z,hd,vs,b,dd⟩:=zmz I.hok e
 obtain ⟨w',hw,d⟩:=zk_.some_of (v:=v) (o:=valueAt vs k) (by rw [<- l]; exact b.val k)
 have hp:(keyPart u).isSome=true:=by
  cases k with
  | inl i=>obtain ⟨t,q⟩:=(show ∃ t,u=Value.int i t from ry); subst q; rfl
  | inr x=>obtain ⟨t,q⟩:=(show ∃ t,u=Value.str x t from ry); subst q; rfl
 have ha:argsOk "dict.pop" ⟨.ref a :: u :: more,[]⟩:=by
  rcases hm with q | ⟨x,q⟩
  ·subst q; exact PySem.F.args_dict_pop_2 _ _
  ·subst q; exact PySem.F.args_dict_pop_3 _ _ _
 refine call_meetsIn jr dd.typeIs ly ha (meets_dict_pop_there (za6 X.prog X.w) a (zkf ry) more hm hp)
  ⟨vs,w',dd,by rw [<- b.length]; exact z,hw,fun h' c hs=>h w' _ ?_ d⟩
 have he:∃ q,h'.get? a=some q:=let ⟨q,_,_,hq,_⟩:=c; ⟨q,hq⟩
 exact zjc I (by rw [e]; exact True.intro) hs he (zpp (gm (zvu kvs k) z) hd (b.drop k) c)
theorem z0i {r:Value}{Q:Value->Shared->Prop}(I:Inv X pins σ H s)(e:H a=some (.dK kvs))(ry:zbp (kV k) u)(l:zdy kvs k=none)(h:∀ s',Inv X pins σ H s'->Q r s') :
  wpAny (model X.prog X.w) A (call (.builtin "dict.pop") [.ref a,u,r]) Q E s:=by
 obtain ⟨z,hd,vs,b,dd⟩:=zmz I.hok e
 have hn:valueAt vs k=none:=zk_.none_of (by rw [<- l]; exact b.val k)
 have hp:(keyPart u).isSome=true:=by
  cases k with
  | inl i=>obtain ⟨t,q⟩:=(show ∃ t,u=Value.int i t from ry); subst q; rfl
  | inr x=>obtain ⟨t,q⟩:=(show ∃ t,u=Value.str x t from ry); subst q; rfl
 exact call_meetsIn jr dd.typeIs ly (PySem.F.args_dict_pop_3 _ _ _) (meets_dict_pop_default (za6 X.prog X.w) a (zkf ry) hd hp r) ⟨vs,dd,hn,h _ (I.tok _)⟩
end
def z3p (i:Expr):Prop:=∀ ov iv,subscripted i false ov iv=operate [ov,iv] (getItem ov iv)
theorem zyf {prog:Program}{w:World}{A:Around}{E:Value->Shared->Prop}{s:Shared}{env:Env}{value slice:Expr}{pos:Pos}{T id:String}{Q:Value->Shared->Prop}
  (hl:typeLookup (.type T) "__getitem__" = pure (some (.builtin id)))(hs:z3p slice)
  (h:wpAny (model prog w) A (eval value env) (fun o s₁=>wpAny (model prog w) A (eval slice env) (fun i s₂=>s₂.TypeIs o T/\wpAny (model prog w) A (getItem o i) Q E s₂) E s₁) E s) :
  wpAny (model prog w) A (eval (.Subscript value slice pos) env) Q E s:=by
 refine Subscript_ (wpAny_mono h (fun o s₁ h₁=>wpAny_mono h₁ (fun i s₂ h₂=>?_) fun _ _ x=>x) fun _ _ x=>x)
 obtain ⟨hT,h₂⟩:=h₂
 unfold subscriptTail
 refine wpAny_bind ?_
 rw [getitemInPython_of_ne hT.not_modules]
 refine wpAny_bind (wpAny_specialOf hT hl ?_)
 have a:wpAny (model prog w) A (subscripted slice false o i) (fun r s₃=>wpAny (model prog w) A (letTemporaryGo value o r >>= fun _=>pure r) Q E s₃) E s₂:=by
  rw [hs o i]
  exact wpAny_operating (wpAny_mono h₂ (fun r s₃ h₃=>wpAny_bind (wpAny_letTemporaryGo (wpAny_pure h₃))) fun _ _ x=>x)
 first
  | exact wpAny_pure (wpAny_bind a)
  | exact wpAny_bind (wpAny_pure (wpAny_bind a))
  | exact wpAny_bind a
theorem znz {X:Cx}{pins:List (Addr × Obj)}{σ:St}{H:Hp}{s:Shared}{a:Addr}{y:V}{o:Option V}(I:Inv X pins σ H s)(g:zgf H a y o):s.TypeIs (.ref a) "dict" :=by
 rcases g with ⟨kvs,k,e,_,_⟩ | ⟨kvs,k,b,e,_,_,_⟩
 ·obtain ⟨_,_,vs,_,dd⟩:=zo1 I.hok e
  exact dd.typeIs
 ·obtain ⟨_,_,xs,_,dd⟩:=zoe I.hok e
  exact dd.typeIs
def z2v (td ty:TE):TE:=fun σ H Q=>td σ H fun x H1=>ty σ H1 fun y H2=>∃ a v,x = .ref a/\zgf H2 a y (some v)/\Q v H2
def z36 (ty td:TE):TE:=fun σ H Q=>ty σ H fun y H1=>td σ H1 fun x H2=>∃ a o,x = .ref a/\zgf H2 a y o/\Q (.bl o.isSome) H2
def zxv (ty td:TE):TE:=fun σ H Q=>ty σ H fun y H1=>td σ H1 fun x H2=>∃ a o,x = .ref a/\zgf H2 a y o/\Q (.bl (!o.isSome)) H2
def z19 (td ty tv:TE):TS:=fun D σ H=>tv σ H fun v H1=>td σ H1 fun x H2=>ty σ H2 fun y H3=>∃ a H4,x = .ref a/\zkl H3 a y v H4/\D.nx σ H4
section
variable {X:Cx} {o i value:Expr} {pos pos':Pos} {td ty tv:TE}
theorem zcp (hu:X.A.units+1<cLine)(ho:PE X o td)(hi:PE X i ty)(hs:z3p i):PE X (.Subscript o i pos) (z2v td ty):=by
 intro pins s σ H Q I h
 refine zyf PySem.F.slot_dict_getitem.lookup hs (thn (ho pins s σ H _ I h) fun u s1 ⟨x,H1,I1,rx,q1⟩=>thn (hi pins s1 σ H1 _ I1 q1) fun iv s2 ⟨y,H2,I2,ry,a,v,ex,g,q2⟩=>?_)
 subst ex
 obtain rfl:u=Value.ref a:=rx
 exact ⟨znz I2 g,zsx hu I2 g ry fun w' s3 I3 b=>⟨v,H2,I3,b,q2⟩⟩
theorem zr3 (hu:X.A.units+1<cLine)(hi:PE X i ty)(ho:PE X o td):PC X .In i o (z36 ty td):=by
 intro pins s σ H Q I h
 refine thn (hi pins s σ H _ I h) fun iv s1 ⟨y,H1,I1,ry,q1⟩=>thn (ho pins s1 σ H1 _ I1 q1) fun u s2 ⟨x,H2,I2,rx,a,ov,ex,g,q2⟩=>?_
 subst ex
 obtain rfl:u=Value.ref a:=rx
 exact z3r hu I2 g ry fun s3 I3=>⟨.bl ov.isSome,H2,I3,rfl,q2⟩
theorem znu (hu:X.A.units+1<cLine)(hi:PE X i ty)(ho:PE X o td):PC X .NotIn i o (zxv ty td):=by
 intro pins s σ H Q I h
 refine thn (hi pins s σ H _ I h) fun iv s1 ⟨y,H1,I1,ry,q1⟩=>thn (ho pins s1 σ H1 _ I1 q1) fun u s2 ⟨x,H2,I2,rx,a,ov,ex,g,q2⟩=>?_
 subst ex
 obtain rfl:u=Value.ref a:=rx
 exact zys hu I2 g ry fun s3 I3=>⟨.bl (!ov.isSome),H2,I3,rfl,q2⟩
theorem zf2 (hu:X.A.units+1<cLine)(ho:PE X o td)(hi:PE X i ty)(hv:PE X value tv)(hs:swapsWith value (some (.Subscript o i pos')) pos.line X.env=pure false) :
  PS X (.Assign [.Subscript o i pos'] value pos) (z19 td ty tv):=by
 intro pins s σ H D I h
 refine wpAny_Assign_Subscript (thn (hv pins s σ H _ I h) fun r s1 ⟨v,H1,I1,rv,q1⟩=>thn (ho pins s1 σ H1 _ I1 q1) fun u s2 ⟨x,H2,I2,rx,q2⟩=>thn (hi pins s2 σ H2 _ I2 q2) fun iv s3 ⟨y,H3,I3,ry,a,H4,ex,g,q3⟩=>?_) hs
 subst ex
 obtain rfl:u=Value.ref a:=rx
 exact zs_ hu I3 g ry rv fun s4 I4=>⟨σ,H4,I4,q3⟩
end
theorem zqb {P:Program}{w:World}{H:Hp}(h:Heap)(hb:sysModules<h.objs.size):zca P w H (h.push { cls:= .type "dict",data:= .dict #[] }) h.objs.size (.dK []) :=
 ⟨i9 _,beq_eq_false_iff_ne.mpr (Ne.symm (gl hb)),[],.nil,Heap.DictOf.new h⟩
def z1b:TE:=fun _ H Q=>∀ p,H p=none->Q (.ref p) (upd H p (.dK []))
section
variable {X:Cx} {pos:Pos}
theorem zd4:PE X (.Dict [] [] pos) z1b:=fun pins s σ H Q I h =>
 wpAny_Dict_empty ⟨.ref s.heap.objs.size,_,I.laid (a:=s.heap.objs.size) (o:= .dK []) (t':=s.toks) (fun _ _ q=>Heap.get?_push_of_some _ q) (gf _) (zqb s.heap I.big),rfl,h _ (I.hok.fresh (gf _))⟩
end
def ztt:List (TE × TE)->St->Hp->(List (V × V)->Hp->Prop)->Prop
 | [],_,H,Q=>Q [] H
 | (tk,tv) :: r,σ,H,Q=>tk σ H fun x H1=>tv σ H1 fun y H2=>ztt r σ H2 fun ps H3=>Q ((x,y) :: ps) H3
abbrev VV:List (V × V)->List (Value × Value)->Prop:=Paired fun p q=>zbp p.1 q.1/\zbp p.2 q.2
def PPs (X:Cx)(pos:Pos)(keys:List (Option Expr))(values:List Expr)(trs:List (TE × TE)):Prop :=
 ∀ (pins:List (Addr × Obj)) (s:Shared) (σ:St) (H:Hp) (Q:List (V × V)->Hp->Prop),Inv X pins σ H s->ztt trs σ H Q ->
  wpAny (model X.prog X.w) X.A (evalPairs (pairTrees keys values X.env pos)) (fun vs s'=>∃ ps H',Inv X pins σ H' s'/\VV ps vs/\Q ps H') X.xe s
theorem zxu {X:Cx}{pos:Pos}:PPs X pos [] [] []:=fun pins s σ H Q I h=>pairTrees_nil_walk ⟨[],H,I,.nil,h⟩
theorem zva {X:Cx}{pos:Pos}{k v:Expr}{ks:List (Option Expr)}{vs:List Expr}{tk tv:TE}{trs:List (TE × TE)}(hk:PE X k tk)(hv:PE X v tv)(hr:PPs X pos ks vs trs) :
  PPs X pos (some k :: ks) (v :: vs) ((tk,tv) :: trs):=fun pins s σ H Q I h =>
 pairTrees_cons_walk (thn (hk pins s σ H _ I h) fun u s1 ⟨x,H1,I1,rx,q1⟩=>thn (hv pins s1 σ H1 _ I1 q1) fun w2 s2 ⟨y,H2,I2,ry,q2⟩ =>
  thn (hr pins s2 σ H2 _ I2 q2) fun ws s3 ⟨ps,H3,I3,rel,q3⟩=>⟨(x,y) :: ps,H3,I3,.cons ⟨rx,ry⟩ rel,q3⟩)
def zhq (kvs more:List (Key × V)):List (Key × V):=more.foldl (fun acc kv=>zd3 acc kv.1 kv.2) kvs
theorem KV.merge:∀ {more:List (Key × V)} {rs:List (Key × Value)} {kvs:List (Key × V)} {vs:List (Key × Value)},KV more rs->KV kvs vs->KV (zhq kvs more) (merged vs rs):=by
 intro more rs kvs vs r
 unfold KV at r
 induction r generalizing kvs vs with
 | nil=>intro q; exact q
 | @cons p q ps qs h t ih =>
  intro r0
  have e:KV (zd3 kvs p.1 p.2) (stored vs q.1 q.2):=by
   have:=r0.put p.1 h.2
   rw [<- h.1]; exact this
  exact ih e
theorem zga:∀ (more kvs:List (Key × V)),(zhq kvs more).length<=kvs.length+more.length
 | [],kvs=>by show kvs.length<=kvs.length+0; omega
 | p :: r,kvs=>by
  have h1:=zga r (zd3 kvs p.1 p.2)
  have h2:=ze3 kvs p.1 p.2
  show (zhq (zd3 kvs p.1 p.2) r).length<=_
  rw [i8]; omega
theorem zks {P:Program}{w:World}:∀ {kvs:List (Key × V)} {ws:List (Value × Value)},VV (kvs.map fun kv=>(kV kv.1,kv.2)) ws->∃ rs,Carries (za6 P w) ws rs/\KV kvs rs
 | [],_,r=>by rw [mk] at r; cases r; exact ⟨[],True.intro,.nil⟩
 | p :: kvs,_,r=>by
  rw [gz] at r
  cases r with
  | @cons a b as bs h t =>
   obtain ⟨rs,c,q⟩:=zks (P:=P) (w:=w) t
   obtain ⟨b1,b2⟩:=b
   exact ⟨(p.1,b2) :: rs,⟨zkf h.1,rfl,c⟩,.cons ⟨rfl,h.2⟩ q⟩
def z2n (trs:List (TE × TE)):TE:=fun σ H Q=>∀ p,H p=none->ztt trs σ (upd H p (.dK [])) fun ps H2=>H2 p=some (.dK [])/\∃ kvs:List (Key × V),ps=kvs.map (fun kv=>(kV kv.1,kv.2))/\kvs.length<=15/\Q (.ref p) (upd H2 p (.dK (zhq [] kvs)))
theorem zx2 {X:Cx}{pos:Pos}{keys:List (Option Expr)}{values:List Expr}{trs:List (TE × TE)}(h:PPs X pos keys values trs)(hall:keys.all (·.isSome)=true)(hl:keys.length=values.length)(h0:keys≠[])
  (h15:keys.length<=15):PE X (.Dict keys values pos) (z2n trs):=by
 intro pins s σ H Q I q
 have hn:=I.hok.fresh (gf s.heap.objs.size)
 have I1:=I.laid (a:=s.heap.objs.size) (o:= .dK []) (h':=s.heap.push { cls:= .type "dict",data:= .dict #[] }) (t':=s.toks) (fun _ _ q=>Heap.get?_push_of_some _ q) (gf _) (zqb s.heap I.big)
 refine wpAny_Dict_walk (knd:=za6 X.prog X.w) hall hl h0 h15 (thn (h pins _ σ _ _ I1 (q _ hn)) fun ws s2 ⟨ps,H2,I2,d,e,kvs,ep,lk,q2⟩=>?_)
 subst ep
 obtain ⟨rs,c,rk⟩:=zks (P:=X.prog) (w:=X.w) d
 obtain ⟨z,hd,f,r0,dd⟩:=zmz I2.hok e
 cases r0
 refine ⟨rs,c,dd,fun h' b hs=>⟨.ref s.heap.objs.size,_,?_,rfl,q2⟩⟩
 have hz:(zhq [] kvs).length<=sizeLine:=by
  have h1:=zga kvs []
  rw [jf] at h1
  rw [sizeLine_eq]; omega
 have he:∃ q,h'.get? s.heap.objs.size=some q:=let ⟨q,_,_,hq,_⟩:=b; ⟨q,hq⟩
 exact zjc I2 (by rw [e]; exact True.intro) hs he (zpp hz hd (rk.merge .nil) b)
structure M1 (X:Cx)(o:Expr)(m:Str)(apos:Pos)(e:Expr)(cpos:Pos):Prop where
 base:attributeBase o m X.env (eval o X.env)=eval o X.env
 few:((backTo cpos (starEach [e] X.env)).all (fun x=> !x.1) && (backToKw cpos (keywordEach [] X.env)).all (fun x=>x.1.isSome)
  && decide (([e]:List Expr).length+([]:List Keyword).length+(if ([]:List Keyword).isEmpty then 0 else 1)<30))=true
 line:(apos.endLine == cpos.line)=true
 trees:backTo cpos (starEach [e] X.env)=[(false,eval e X.env)]
structure M2 (X:Cx)(o:Expr)(m:Str)(apos:Pos)(e f:Expr)(cpos:Pos):Prop where
 base:attributeBase o m X.env (eval o X.env)=eval o X.env
 few:((backTo cpos (starEach [e,f] X.env)).all (fun x=> !x.1) && (backToKw cpos (keywordEach [] X.env)).all (fun x=>x.1.isSome)
  && decide (([e,f]:List Expr).length+([]:List Keyword).length+(if ([]:List Keyword).isEmpty then 0 else 1)<30))=true
 line:(apos.endLine == cpos.line)=true
 trees:backTo cpos (starEach [e,f] X.env)=[(false,eval e X.env),(false,eval f X.env)]
def IsD (H:Hp)(a:Addr):Prop:=(∃ kvs,Rd H a (.dK kvs))\/∃ kvs,Rd H a (.dT kvs)
theorem zpu {X:Cx}{pins:List (Addr × Obj)}{σ:St}{H:Hp}{s:Shared}{a:Addr}(I:Inv X pins σ H s)(d:IsD H a) :
  s.TypeIs (.ref a) "dict" /\(∀ b,Value.ref a = .ref b->∃ ob,s.heap.get? b=some ob/\ob.dict=none)/\(a == sysModules)=false:=by
 rcases d with ⟨kvs,e⟩ | ⟨kvs,e⟩
 ·obtain ⟨_,hd,vs,_,dd⟩:=zo1 I.hok e
  refine ⟨dd.typeIs,fun b q=>?_,hd⟩
  cases q
  obtain ⟨ob,_,_,h1,h2,_⟩:=dd
  exact ⟨ob,h1,h2.2.1⟩
 ·obtain ⟨_,hd,xs,_,dd⟩:=zoe I.hok e
  refine ⟨dd.typeIs,fun b q=>?_,hd⟩
  cases q
  obtain ⟨ob,_,_,h1,h2,_⟩:=dd
  exact ⟨ob,h1,h2.2.1⟩
section
variable {X:Cx} {pins:List (Addr × Obj)} {σ:St} {H:Hp} {s:Shared} {a:Addr} {y d:V} {u r:Value} {o:Option V} {A:Around} {E:Value->Shared->Prop}
theorem z0a {Q:Value->Shared->Prop}(hu:A.units+1<cLine)(I:Inv X pins σ H s)(g:zgf H a y o)(ry:zbp y u)(rd:zbp d r)(h:∀ w' s',Inv X pins σ H s'->zbp (o.getD d) w'->Q w' s') :
  wpAny (model X.prog X.w) A (call (.builtin "dict.get") [.ref a,u,r]) Q E s:=by
 rcases g with ⟨kvs,k,e,ey,l⟩ | ⟨kvs,k,b,e,ey,eb,l⟩
 ·subst ey
  obtain ⟨z,hd,vs,c,dd⟩:=zo1 I.hok e
  refine call_meetsIn kr dd.typeIs lz (PySem.F.args_dict_get_3 _ _ _) (meets_dict_get_default (za6 X.prog X.w) a (zkf ry) hd r) ⟨_,dd.mapOf,h _ _ (I.tok _) ?_⟩
  rw [l]
  exact (c.val k).getD rd
 ·subst ey
  cases (show u=Value.ref b from ry)
  obtain ⟨z,hd,xs,c,dd⟩:=zoe I.hok e
  refine call_meetsIn kr dd.typeIs lz (PySem.F.args_dict_get_3 _ _ _) (meetsH_dict_get_default (tupleKind (za6 X.prog X.w)) a b hd r) ⟨tupleKind_room_in1 hu,k,xs,zkv I.hok eb,dd,h _ _ (I.tok _) ?_⟩
  rw [l]
  exact (c.val k).getD rd
end
def z03 (td ty tx:TE):TE:=fun σ H Q=>td σ H fun x H1=>∃ a,x = .ref a/\IsD H1 a/\ty σ H1 fun y H2=>tx σ H2 fun z H3=>∃ o,zgf H3 a y o/\Q (o.getD z) H3
def z0q (td ty:TE):TE:=fun σ H Q=>td σ H fun x H1=>∃ a,x = .ref a/\IsD H1 a/\ty σ H1 fun y H2=>∃ kvs k v,H2 a=some (.dK kvs)/\y=kV k/\zdy kvs k=some v/\Q v (upd H2 a (.dK (zcw kvs k)))
def z1s (td ty tx:TE):TE:=fun σ H Q=>td σ H fun x H1=>∃ a,x = .ref a/\IsD H1 a/\ty σ H1 fun y H2=>tx σ H2 fun z H3=>∃ kvs k,H3 a=some (.dK kvs)/\y=kV k /\
 (∀ v,zdy kvs k=some v->Q v (upd H3 a (.dK (zcw kvs k))))/\(zdy kvs k=none->Q z H3)
section
variable {X:Cx} {o e f:Expr} {apos cpos:Pos} {td ty tx:TE}
theorem zuw (hu:X.A.units+1<cLine)(ho:PE X o td)(he:PE X e ty)(hf:PE X f tx)(m:M2 X o "get" apos e f cpos):PE X (.Call (.Attribute o "get" apos) [e,f] [] cpos) (z03 td ty tx):=by
 intro pins s σ H Q I h
 refine wpAny_Call_method m.base m.few m.line jh kr PySem.F.type_dict_get (thn (ho pins s σ H _ I h) fun u s1 ⟨x,H1,I1,rx,a,ex,d,q1⟩=>?_)
 subst ex
 obtain rfl:u=Value.ref a:=rx
 obtain ⟨t1,t2,_⟩:=zpu I1 d
 refine ⟨t1,t2,?_⟩
 rw [m.trees]
 refine Calls.callWith_builtin rfl (Calls.evalArgs_plain (Calls.spliced_cons (thn (he pins s1 σ H1 _ I1 q1) fun iv s2 ⟨y,H2,I2,ry,q2⟩ =>
  Calls.spliced_cons (thn (hf pins s2 σ H2 _ I2 q2) fun fv s3 ⟨z,H3,I3,rz,ov,g,q3⟩=>Calls.spliced_nil ?_))))
 exact z0a hu I3 g ry rz fun w' s4 I4 b=>⟨_,H3,I4,b,q3⟩
theorem zp_ (ho:PE X o td)(he:PE X e ty)(m:M1 X o "pop" apos e cpos):PE X (.Call (.Attribute o "pop" apos) [e] [] cpos) (z0q td ty):=by
 intro pins s σ H Q I h
 refine wpAny_Call_method m.base m.few m.line jh jr mi (thn (ho pins s σ H _ I h) fun u s1 ⟨x,H1,I1,rx,a,ex,d,q1⟩=>?_)
 subst ex
 obtain rfl:u=Value.ref a:=rx
 obtain ⟨t1,t2,_⟩:=zpu I1 d
 refine ⟨t1,t2,?_⟩
 rw [m.trees]
 refine Calls.callWith_builtin rfl (Calls.evalArgs_plain (Calls.spliced_cons (thn (he pins s1 σ H1 _ I1 q1) fun iv s2 ⟨y,H2,I2,ry,kvs,k,v,ea,ey,l,q2⟩=>Calls.spliced_nil ?_)))
 subst ey
 exact z0l I2 ea ry l (.inl rfl) fun w' s3 I3 b=>⟨v,_,I3,b,q2⟩
theorem zpz (ho:PE X o td)(he:PE X e ty)(hf:PE X f tx)(m:M2 X o "pop" apos e f cpos):PE X (.Call (.Attribute o "pop" apos) [e,f] [] cpos) (z1s td ty tx):=by
 intro pins s σ H Q I h
 refine wpAny_Call_method m.base m.few m.line jh jr mi (thn (ho pins s σ H _ I h) fun u s1 ⟨x,H1,I1,rx,a,ex,d,q1⟩=>?_)
 subst ex
 obtain rfl:u=Value.ref a:=rx
 obtain ⟨t1,t2,_⟩:=zpu I1 d
 refine ⟨t1,t2,?_⟩
 rw [m.trees]
 refine Calls.callWith_builtin rfl (Calls.evalArgs_plain (Calls.spliced_cons (thn (he pins s1 σ H1 _ I1 q1) fun iv s2 ⟨y,H2,I2,ry,q2⟩ =>
  Calls.spliced_cons (thn (hf pins s2 σ H2 _ I2 q2) fun fv s3 ⟨z,H3,I3,rz,kvs,k,ea,ey,q3,q4⟩=>Calls.spliced_nil ?_))))
 subst ey
 cases l:zdy kvs k with
 | some v=>exact z0l I3 ea ry l (.inr ⟨fv,rfl⟩) fun w' s4 I4 b=>⟨v,_,I4,b,q3 v l⟩
 | none=>exact z0i I3 ea ry l fun s4 I4=>⟨z,H3,I4,rz,q4 l⟩
end
end L2
namespace L2
open PySem PySem.Spec PyProof.Rows
theorem zrw {ks:List Int}:∀ {us:List Value},us.length=ks.length->(∀ (j:Nat) (k:Int),ks[j]? = some k->∀ v:Value,us[j]? = some v->∃ t,v=Value.int k t)->IntsAre us ks:=by
 induction ks with
 | nil =>
  intro us hl _
  cases us with
  | nil=>exact .nil
  | cons _ _=>cases hl
 | cons k t ih =>
  intro us hl h
  cases us with
  | nil=>cases hl
  | cons u r =>
   obtain ⟨tk,rfl⟩:=h 0 k rfl u rfl
   exact .cons k tk (ih (by simpa using hl) fun j k' hk v hv=>h (j+1) k' hk v hv)
section
variable {P:Program} {w:World} {A:Around} {E:Value->Shared->Prop}
theorem zrr {s:Shared}{a:Addr}{kvs:List (Key × Value)}{ks:List Int}{ep:Nat}{Q:List Value->Shared->Prop}(hh:A.handled=none)(lo:(a == sysModules)=false)(D:s.heap.DictAt (za6 P w) a kvs ep)(hk:kvs.map (·.1)=ks.map Sum.inl)(hn:ks.length<=1000)
  (q:∀ (h':Heap) (tk:Nat) (vs:List Value),(∀ b o,s.heap.get? b=some o->h'.get? b=some o)->s.heap.objs.size<=h'.objs.size->IntsAre vs ks->Q vs { s with heap:=h',toks:=tk }):wpAny (model P w) A (collect (.ref a)) Q E s:=by
 have hl:kvs.length=ks.length:=by
  have:=congrArg kj hk
  simpa using this
 have la:a<s.heap.objs.size:=D.lt_size
 unfold collect
 refine wpAny_bind (wpAny_runValue (codeAny_builtin F.entry_proto_collect ?_))
 rw [ig F.plain_proto_collect _]
 refine wpAny_bind (m:=newList []) (wpAny_newObj_type (wpAny_pure ⟨plainId_quiet F.plain_list_iadd _,codeAny_builtin F.entry_list_iadd ?_⟩))
 rw [ig F.plain_list_iadd _]
 obtain ⟨H0,g⟩:∃ H0:Heap,H0=s.heap.push { cls:= .type "list",data:= .seq ([]:List Value).toArray }:=⟨_,rfl⟩
 have k0:∀ b o,s.heap.get? b=some o->H0.get? b=some o:=fun b o e=>by rw [g]; exact Heap.get?_push_of_some _ e
 have g0:H0.get? s.heap.objs.size=some { cls:= .type "list",data:= .seq #[] }:=by rw [g]; exact Heap.get?_push_size _ rfl
 show wpAny _ A.in1 (Builtin.List.listExtendWith (.ref s.heap.objs.size) (.ref a) (.ref s.heap.objs.size)) _ _ { s with heap:=s.heap.push _ }
 rw [<- g]
 have Kd:=nq (prog:=P) (w:=w) (knd:=za6 P w) (kvs:=kvs) (ep:=ep) lo
 have D0:H0.DictAt (za6 P w) a kvs ep:=Kd.keep _ _ D fun b _ o e=>k0 b o e
 have h:∀ (h':Heap) (tk:Nat) (d:Array Value),(∀ b o,b≠s.heap.objs.size->H0.get? b=some o->h'.get? b=some o)->s.heap.objs.size<h'.objs.size->ItemsOf (fun i v=>∃ k x,kvs[i]? = some (k,x)/\(za6 P w).is k v=true) d kvs.length->Q d.toList { s with heap:=h',toks:=tk }:=fun h' tk d k1 z it=>by
  refine q h' tk d.toList (fun b o e=>k1 b o (gl (gi e)) (k0 b o e)) (gx z) (zrw (by rw [ie,it.1,hl]) fun j k hj v hv=>?_)
  obtain ⟨k',x,e1,e2⟩:=it.2 j v (by rw [<- Array.getElem?_toList]; exact hv)
  have e3:(kvs.map (·.1))[j]? = some k':=by rw [List.getElem?_map,e1]; rfl
  rw [hk,List.getElem?_map,hj] at e3
  cases e3
  exact ll e2
 have l:=PySem.W.kdl_extend (A:=A) (s:={ s with heap:=H0 }) (R:=fun r s'=>∃ h' tk d c,r = .ok (.ret (.ref s.heap.objs.size))/\s'={ s with heap:=h',toks:=tk }/\h'.get? s.heap.objs.size=some { cls:= .type "list",data:= .seq d c }/\Q d.toList { s with heap:=h',toks:=tk })
  Kd hh D0 s.heap.objs.size (j9 la) (j9 la) (.ref s.heap.objs.size) 0 g0 (fun h' tk d c k1 hS it=>⟨h',tk,d,c,rfl,rfl,hS,h h' tk d k1 (gi hS) it⟩) (by rw [hl]; exact gx (zar hn))
 refine wpAny_mono l (fun f s' y=>?_) fun e s' y=>?_
 ·cases f with
  | done f =>
   obtain ⟨h',tk,d,c,e,rfl,hS,z⟩:=y
   cases e
   exact wpAny_bind (wpAny_load hS (wpAny_pure z))
  | again c1 =>
   refine ⟨y.1,codeAny_mono y.2 fun r s2 y2=>?_⟩
   obtain ⟨h',tk,d,c,rfl,rfl,hS,z⟩:=y2
   exact wpAny_bind (wpAny_load hS (wpAny_pure z))
 ·obtain ⟨_,_,_,_,e',_⟩:=y
  cases e'
theorem zuv {s:Shared}{a:Addr}{kvs:List (Key × Value)}{ks:List Int}{Q:Value->Shared->Prop}(hh:A.handled=none)(lo:(a == sysModules)=false)(D:s.heap.DictOf (za6 P w) a kvs)(hk:kvs.map (·.1)=ks.map Sum.inl)(hn:ks.length<64)
  (q:∀ (s':Shared) (r:Addr) (vs:List Value) (ns:List Int),(∀ b o,s.heap.get? b=some o->s'.heap.get? b=some o)->s'.gens=s.gens->s'.os=s.os->s.heap.objs.size<=r ->
   (∃ e,s'.heap.get? r=some (seqObj "list" vs.toArray e))->IntsAre vs ns->ns.Perm ks->ns.Pairwise (· <= ·)->Q (.ref r) s') :
  wpAny (model P w) A (call (.builtin "sorted") [.ref a]) Q E s:=by
 have hl:kvs.length=ks.length:=by
  have:=congrArg kj hk
  simpa using this
 obtain ⟨ep,h⟩:=D.dictAt
 refine Calls.call_function_entry kind_sorted plain_sorted entry_sorted (args_sorted1 _) ?_
 unfold Builtin.«sorted»
 refine wpAny_bind (m:=checkCount "sorted" 1 1 _) (wpAny_pure ?_)
 refine wpAny_bind (zrr (by exact hh) lo h hk (by omega) fun h' tk c k1 z0 hi=>?_)
 have g:c.length<64:=by
  have e1:=hi.length
  omega
 refine wpAny_bind (wpAny_newList (hsz:=gm (gx g) (by decide)) ?_)
 have f:(h'.push (seqObj "list" c.toArray 0)).get? h'.objs.size=some (seqObj "list" c.toArray 0):=Heap.get?_push_size _ rfl
 show wpAny _ _ _ _ _ { s with heap:=h'.push (seqObj "list" c.toArray 0),toks:=tk }
 refine wpAny_bind (wpAny_holding (wpAny_call_entry slot_list_sort ⟨_,f,rfl⟩ entry_list_sort (list_sort_tree f hi g fun out i a1 a2 a3=>⟨_,rfl,?_⟩) (args_list_sort _)))
 obtain ⟨H1,d⟩:∃ H1,H1=h'.push (seqObj "list" c.toArray 0):=⟨_,rfl⟩
 have z2:H1.objs.size=h'.objs.size+1:=by rw [d]; exact size_push' _ _
 have kk:∀ b o,h'.get? b=some o->(sortedHeap H1 h'.objs.size c out).get? b=some o:=fun b o e=>by
  rw [sortedHeap_old (gl (gi e)) (by rw [z2]; exact iz (gi e)),d]
  exact Heap.get?_push_of_some _ e
 have ka:∃ e,(sortedHeap H1 h'.objs.size c out).get? h'.objs.size=some (seqObj "list" out e):=sortedHeap_at (n:=0) (by rw [d]; exact f)
 rw [<- d]
 generalize sortedHeap H1 h'.objs.size c out=H2 at kk ka |-
 refine wpAny_pure ⟨_,rfl,q _ _ out.toList i (fun b o e=>?_) rfl rfl ?_ ?_ a1 a2 a3⟩
 ·exact kk _ _ (k1 _ _ e)
 ·exact z0
 ·exact ka
end
section
variable {X:Cx}
theorem zch (hc:X.calm=true):zhf X (.builtin "sorted") (fun xs H Q=>∃ (p:Addr) (kvs:List (Key × V)) (ks:List Int),xs=[.ref p]/\H p=some (.dK kvs)/\kvs.map (·.1)=ks.map Sum.inl/\ks.length<64/\∀ l,H l=none->Q (.ref l) (upd H l (.lst ((zaq ks).map V.int)))):=by
 intro pins s σ H xs us Q I r h
 obtain ⟨p,kvs,ks,rfl,hq,hk,hl,q⟩:=h
 obtain ⟨u,rfl,ru⟩:=zf8 r
 cases (show u=Value.ref p from ru)
 obtain ⟨_,lo,vs,kv,dd⟩:=zmz I.hok hq
 refine zuv (I.ok.hd hc) lo dd (kv.keys.symm.trans hk) hl fun s' l us ns k1 g1 o1 z1 a hi hp hs=>?_
 obtain ⟨e,he⟩:=a
 have e2:=zib hp hs
 subst e2
 have fr:H l=none:=I.hok.fresh z1
 refine ⟨.ref l,upd H l (.lst ((zaq ks).map V.int)),I.call' (ch:=[]) o1 (Un.laid k1 z1 fr) ?_ (by rw [g1]; exact I.bare) (fun b hb=>absurd hb (by simp)),rfl,q _ fr⟩
 refine I.hok.laid k1 z1 ⟨by rw [fj,zbh]; exact gm (gx hl) (by decide),us,e,zds hi,he⟩
end
structure zuh (K:W.Frag)(C:Addr)(m qual:Str)(st:Stmt)(ps:List Str) where
 f:Addr
 c:Addr
 P:Addr
 fd:FuncData
 ex:∃ (oc:Value) (od:Option Addr) (kV doc pm:Value) (an:Option Addr) (ct:Value) (osl:Array (Option Value)),
  fd=PySem.W.fnOf m qual (zb6 st) (zbd st) (zai st) .none kV doc pm an (.ref c) ct/\K.lookup f=some ⟨oc,od,.func fd,osl⟩
 cd:PySem.W.codeIn K (.ref c) qual=true
 ch:PySem.W.codeHdIn K c P=true
 nt:K.lookup P=none
 me:zz6 K C m f
 b:zce K fd ps []
section
variable {P:Program} {w:World} {K:W.Frag} {mg:Str->Option Value} {base:Heap}
theorem zuh.ok {C:Addr}{m qual:Str}{st:Stmt}{N ps fz:List Str}{k:Nat}{sp:Sp}(D:zuh K C m qual st ps)(hK:K.In base)(S:zal N ps (zai st))(hfz:∀ x∈fz,(zai st).names.lookup x=some .cell)(len:∀ vs H Q E,sp vs H Q E->vs.length=ps.length)
  (hbody:∀ (A:Around) (outer:List Env) (s:Shared) (H:Hp) (vs:List V) (Q:VK) (E:XK),zee k (A.deeper (envOfC qual (zai st) s.heap.objs.size D.f (.ref D.c)))->sp vs H Q E ->
   ∀ H1:Hp,zau H H1->(∀ (i:Nat) y v,y∈fz->ps[i]? = some y->vs[i]? = some v->∃ c,(envOfC qual (zai st) s.heap.objs.size D.f (.ref D.c)).cells.lookup y=some c/\zfx H1 c v)->PySem.W.CodeHd base D.c D.P ->
   ∃ t,PSs (zq9 CX0 P w K mg base N qual (zai st) D.f (.ref D.c) A outer s H E (fun y=> !fz.contains y)).nox (zbd st) t/\t { nx:=fun _ H'=>Q .non H',rt:=Q } (start N vs) H1) :
  zdl P w K mg base CX0 (k+1) D.f D.fd ps sp:=by
 have hC:=lm hK D.ch
 obtain ⟨f,c,T,fd,⟨oc,od,kV,doc,pm,an,ct,osl,rfl,lk⟩,cd,ch,nt,me,b⟩:=D
 exact zw4 lk cd S hfz len fun A outer s H vs Q E hr a H1 sm hc=>hbody A outer s H vs Q E hr a H1 sm hc hC
end
def z2p (a:Addr)(o:Obj)(kvs:List (Key × V)):It :=
 ⟨fun i H=>H a=some (.frz o (.dK kvs))/\i<kvs.length,fun i H x H'=>H'=H/\∃ kv,kvs[i]? = some kv/\x=kV kv.1,fun i H=>H a=some (.frz o (.dK kvs))/\kvs.length<=i⟩
theorem zso {P:Program}{w:World}{K:W.Frag}{tg:Expr}{a it:Addr}{o:Obj}{kvs:List (Key × V)}{vs:List (Key × Value)}{ep:Nat}(rel:KV kvs vs)(hat:∀ h:Heap,h.get? a=some o->h.DictAt (za6 P w) a vs ep) :
  z1p P w K tg (z2p a o kvs) [it] it (fun i h=>h.IsKeyIter it a i vs.length ep) where
 mem:=by simp
 obj:=fun i h st b hb=>by
  have e:b=it:=by simpa using hb
  subst e
  obtain ⟨o,e,c,d⟩:=st
  exact ⟨o,e,fun v z=>by rw [d] at z; cases z⟩
 keep:=fun i h h' st k=>by
  obtain ⟨o,e,c,d⟩:=st
  exact ⟨o,k it (by simp) o e,c,d⟩
 item:=by
  intro X hP hw hK hc i pins s σ H E I hf st hg
  subst hP hw hK
  obtain ⟨hz,r⟩:=hg
  obtain ⟨f0,f1,f2,f3,f4,f5⟩:=hf it (by simp)
  obtain ⟨ho,_⟩:=I.hok a _ hz
  have g:=rel.length
  obtain ⟨⟨k,x⟩,hx⟩:∃ p,vs[i]? = some p:=⟨vs[i],by simp⟩
  obtain ⟨⟨k',x'⟩,f⟩:∃ p,kvs[i]? = some p:=⟨kvs[i],by simp⟩
  have ek:k'=k:=by
   have e1:=congrArg (fun l=>l[i]?) rel.keys
   simp only [List.getElem?_map,hx,f,l8] at e1
   exact Option.some.inj e1
  refine wpAny_pyNext_dict_item st (hat _ ho) hx fun n h' q m sb=>?_
  have I1:Inv X pins σ H { s with heap:=h' }:=I.turned (t':=s.toks) (fun b o hb e=>(sb.2 b hb).trans e) f0 f1 f3 f4 f5
  obtain ⟨o',e,c,d⟩:=id m
  have rk:zbp (kV k') n:=by
   rw [ek]
   rcases zbi q with ⟨j,t,rfl,rfl⟩ | ⟨y,t,rfl,rfl⟩
   ·exact ⟨t,rfl⟩
   ·exact ⟨t,rfl⟩
  exact ⟨n,rfl,zyz (s:={ s with heap:=h' }) e c d (by decide) ⟨kV k',H,I1,rk,⟨rfl,_,f,rfl⟩,m,fun b hb=>(hf b hb).1⟩⟩
 done:=by
  intro X hP hw hK hc i pins s σ H E I hf st hg
  subst hP hw hK
  obtain ⟨hz,u⟩:=hg
  obtain ⟨f0,f1,f2,f3,f4,f5⟩:=hf it (by simp)
  obtain ⟨ho,_⟩:=I.hok a _ hz
  have g:=rel.length
  exact wpAny_pyNext_dict_end (I.ok.hd hc) st (hat _ ho) (by simp; omega) fun h' eb=>⟨rfl,I.turned (t':=s.toks) (fun b o hb e=>eb b o hb e) f0 f1 f3 f4 f5⟩
 self:=fun _ _ _ _ _ st h=>wpAny_pyIter_keyiter st h
theorem Inv.ice {X:Cx}{pins:List (Addr × Obj)}{σ:St}{H:Hp}{s:Shared}{a:Addr}{kvs:List (Key × V)}(I:Inv X pins σ H s)(e:H a=some (.dK kvs)):∃ o,s.heap.get? a=some o/\Inv X pins σ (upd H a (.frz o (.dK kvs))) s:=by
 obtain ⟨z1,z2,vs,g,dd⟩:=zmz I.hok e
 obtain ⟨o,es,ep,ho,r⟩:=id dd
 refine ⟨o,ho,I.ok,I.os,I.bare,⟨I.base.keep,I.base.slot,fun b u q n hx=>?_,I.base.there,fun b xs q=>?_,fun b u k q=>?_,fun b ps q=>?_⟩,I.loc,I.cell,?_,fun y c q=>?_,fun p hp=>?_,fun b u q=>?_,I.len⟩
 ·have z:=I.base.free b u q n hx
  rw [zab (fun y=>by rw [y,e] at z; cases z)]
  exact z
 ·have z:=I.base.tups b xs q
  rw [zab (fun y=>by rw [y,e] at z; cases z)]
  exact z
 ·have z:=I.base.frzs b u k q
  rw [zab (fun y=>by rw [y,e] at z; cases z)]
  exact z
 ·obtain ⟨m,z⟩:=I.base.tbls b ps q
  exact ⟨m,by rw [zab (fun y=>by rw [y,e] at z; cases z)]; exact z⟩
 ·rw [zab (fun y=>by have z:=I.free; rw [y,e] at z; cases z)]
  exact I.free
 ·have z:=I.freeC y c q
  have f:c≠a:=fun y=>by
   rcases z.2 with w | ⟨_,_,w⟩
   ·rw [y,e] at w; cases w
   ·rw [y,e] at w; cases w
  rw [zab f]
  exact z
 ·obtain ⟨q,n,r⟩:=I.pin p hp
  refine ⟨q,?_,r⟩
  rw [zab (fun y=>by rw [y,e] at n; cases n)]
  exact n
 ·have own:∀ d x,H d=some (.own x)->upd H a (.frz o (.dK kvs)) d=some (.own x):=fun d x w=>by
   rw [zab (fun y=>by rw [y,e] at w; cases w)]
   exact w
  have tup:∀ d xs,H d=some (.tup xs)->upd H a (.frz o (.dK kvs)) d=some (.tup xs):=fun d x w=>by
   rw [zab (fun y=>by rw [y,e] at w; cases w)]
   exact w
  by_cases hb:b=a
  ·subst hb
   rw [zac] at q
   cases q
   exact ⟨ho,(I.hok b _ e).stay (fun _ _ _ q=>q) (fun d q=>own d _ q) fun d xs q=>tup d xs q⟩
  ·rw [zab hb] at q
   exact (I.hok b u q).stay (fun _ _ _ q=>q) (fun d q=>own d _ q) fun d xs q=>tup d xs q
def z2y (td:TE):TI:=fun σ H R=>td σ H fun x H1=>∃ a kvs,x = .ref a/\Rd H1 a (.dK kvs)/\∀ o H2,H2 a=some (.frz o (.dK kvs))->(∀ b,b≠a->H2 b=H1 b)->(∀ ob u,H1 a=some (.frz ob u)->H2 a=H1 a)->R (z2p a o kvs) H2
theorem zzx {X:Cx}{tg l:Expr}{tl:TE}(hl:PE X l tl):PI X tg l (z2y tl):=by
 intro pins s σ H R I h
 refine thn (hl pins s σ H _ I h) fun v s1 ⟨x,H1,I1,r1,q1⟩=>?_
 obtain ⟨a,kvs,e,hr,q⟩:=q1
 subst e
 cases r1
 obtain ⟨o,H2,I2,hz,he,hi⟩:∃ o H2,Inv X pins σ H2 s1/\H2 a=some (.frz o (.dK kvs))/\(∀ b,b≠a->H2 b=H1 b)/\∀ ob u,H1 a=some (.frz ob u)->H2 a=H1 a:=by
  rcases hr with z | ⟨o,z⟩
  ·obtain ⟨o,ho,I2⟩:=I1.ice z
   exact ⟨o,_,I2,zac,fun b hb=>zab hb,fun ob u y=>by rw [z] at y; cases y⟩
  ·exact ⟨o,H1,I1,z,fun _ _=>rfl,fun _ _ _=>rfl⟩
 obtain ⟨ho,z1,z2,vs,f,dd⟩:=(show zca X.prog X.w H2 s1.heap a (.frz o (.dK kvs)) from I2.hok a _ hz)
 obtain ⟨ep,c⟩:=dd.dictAt
 have d:∀ h:Heap,h.get? a=some o->h.DictAt (za6 X.prog X.w) a vs ep:=fun h e=>by
  obtain ⟨o',es,e',r⟩:=id c
  rw [ho] at e'
  cases e'
  exact ⟨o,es,e,r⟩
 refine wpAny_pyIter_dict z2 c ?_
 refine ⟨s1.heap.objs.size,[s1.heap.objs.size],_,_,H2,rfl,I2.kept (t':=s1.toks) fun b o e=>Heap.get?_push_of_some _ e,zso f d,⟨_,Heap.get?_push_size _ rfl,rfl,rfl⟩,fun b hb=>?_,q o H2 hz he hi⟩
 have e:b=s1.heap.objs.size:=by simpa using hb
 subst e
 exact I2.fpOk (gf _) (I2.hok.fresh (gf _))
def z1e (td ty tx:TE):TE:=fun σ H Q=>td σ H fun x H1=>∃ a,x = .ref a/\IsD H1 a/\ty σ H1 fun y H2=>tx σ H2 fun z H3=>∃ kvs k,H3 a=some (.dK kvs)/\y=kV k/\kvs.length<sizeLine /\
 (∀ v,zdy kvs k=some v->Q v H3)/\(zdy kvs k=none->Q z (upd H3 a (.dK (zd3 kvs k z))))
theorem zp0 {X:Cx}{o e f:Expr}{apos cpos:Pos}{td ty tx:TE}(ho:PE X o td)(he:PE X e ty)(hf:PE X f tx)(m:M2 X o "setdefault" apos e f cpos):PE X (.Call (.Attribute o "setdefault" apos) [e,f] [] cpos) (z1e td ty tx):=by
 intro pins s σ H Q I h
 refine wpAny_Call_method m.base m.few m.line jh PySem.F.slot_dict_setdefault PySem.F.type_dict_setdefault (thn (ho pins s σ H _ I h) fun u s1 ⟨x,H1,I1,rx,a,ex,d,q1⟩=>?_)
 subst ex
 obtain rfl:u=Value.ref a:=rx
 obtain ⟨t1,t2,_⟩:=zpu I1 d
 refine ⟨t1,t2,?_⟩
 rw [m.trees]
 refine Calls.callWith_builtin rfl (Calls.evalArgs_plain (Calls.spliced_cons (thn (he pins s1 σ H1 _ I1 q1) fun iv s2 ⟨y,H2,I2,ry,q2⟩ =>
  Calls.spliced_cons (thn (hf pins s2 σ H2 _ I2 q2) fun fv s3 ⟨z,H3,I3,rz,kvs,k,ea,ey,hl,q3,q4⟩=>Calls.spliced_nil ?_))))
 subst ey
 obtain ⟨zz,hd,vs,b,dd⟩:=zmz I3.hok ea
 refine call_meetsIn PySem.F.slot_dict_setdefault dd.typeIs PySem.F.entry_dict_setdefault (PySem.F.args_dict_setdefault_3 _ _ _) (kt_meets_setdefault (za6 X.prog X.w) a (zkf ry) hd fv) ⟨vs,dd,by rw [<- b.length]; exact zz,fun v hv=>?_,fun hn h' c hs=>?_⟩
 ·have r:=b.val k
  rw [hv] at r
  cases l:zdy kvs k with
  | none=>rw [l] at r; exact False.elim r
  | some v'=>rw [l] at r; exact ⟨v',H3,I3.tok _,r,q3 v' l⟩
 ·have l:zdy kvs k=none:=by
   have r:=b.val k
   rw [hn] at r
   cases l:zdy kvs k with
   | none=>rfl
   | some v'=>rw [l] at r; exact False.elim r
  have he:∃ q,h'.get? a=some q:=let ⟨q,_,_,hq,_⟩:=c; ⟨q,hq⟩
  have g:(zd3 kvs k z).length<=sizeLine:=by have:=ze3 kvs k z; omega
  exact ⟨z,_,zjc I3 (by rw [ea]; exact True.intro) hs he (zpp g hd (b.put k rz) c),rz,q4 l⟩
theorem Inv.thaw {X:Cx}{pins:List (Addr × Obj)}{σ:St}{H:Hp}{s:Shared}{a:Addr}{o:Obj}{kvs:List (Key × V)}(I:Inv X pins σ H s)(e:H a=some (.frz o (.dK kvs)))(h0:∀ ob u,X.H₀ a≠some (.frz ob u)):Inv X pins σ (upd H a (.dK kvs)) s:=by
 obtain ⟨ho,hd⟩:=(show zca X.prog X.w H s.heap a (.frz o (.dK kvs)) from I.hok a _ e)
 obtain ⟨z1,z2,vs,l,dd⟩:=id hd
 obtain ⟨oo,es,ep,j,_,h,_⟩:=id dd
 have f:∀ y c,X.env.cells.lookup y=some c->c≠a:=fun y c q z=>by
  obtain ⟨v,oc,g,i⟩:=I.cell y c q
  rw [z,j] at g
  cases g
  rw [h] at i
  cases i
 refine ⟨I.ok,I.os,I.bare,⟨I.base.keep,I.base.slot,fun b u q n hx=>?_,I.base.there,fun b xs q=>?_,fun b u k q=>?_,fun b ps q=>?_⟩,I.loc,I.cell,?_,fun y c q=>?_,fun p hp=>?_,fun b u q=>?_,I.len⟩
 ·have z:=I.base.free b u q n hx
  rw [zab (fun y=>by rw [y,e] at z; cases z)]
  exact z
 ·have z:=I.base.tups b xs q
  rw [zab (fun y=>by rw [y,e] at z; cases z)]
  exact z
 ·have z:=I.base.frzs b u k q
  rw [zab (fun y=>h0 _ _ (y ▸ q))]
  exact z
 ·obtain ⟨m,z⟩:=I.base.tbls b ps q
  exact ⟨m,by rw [zab (fun y=>by rw [y,e] at z; cases z)]; exact z⟩
 ·rw [zab (fun y=>by have z:=I.free; rw [y,e] at z; cases z)]
  exact I.free
 ·rw [zab (f y c q)]
  exact I.freeC y c q
 ·obtain ⟨q,n,r⟩:=I.pin p hp
  refine ⟨q,?_,r⟩
  rw [zab (fun y=>by rw [y,e] at n; cases n)]
  exact n
 ·have own:∀ d x,H d=some (.own x)->upd H a (.dK kvs) d=some (.own x):=fun d x w=>by
   rw [zab (fun y=>by rw [y,e] at w; cases w)]
   exact w
  have tup:∀ d xs,H d=some (.tup xs)->upd H a (.dK kvs) d=some (.tup xs):=fun d x w=>by
   rw [zab (fun y=>by rw [y,e] at w; cases w)]
   exact w
  by_cases hb:b=a
  ·subst hb
   rw [zac] at q
   cases q
   exact zca.stay (H:=H) hd (fun _ _ _ q=>q) (fun d q=>own d _ q) fun d xs q=>tup d xs q
  ·rw [zab hb] at q
   exact (I.hok b u q).stay (fun _ _ _ q=>q) (fun d q=>own d _ q) fun d xs q=>tup d xs q
theorem zzz {X:Cx}{e:Expr}{t:TE}{H0:Hp}(hH:X.H₀=H0)(h:PE X e t):PE X e (fun σ H Q=>t σ H fun v H1=>∃ a kvs o,H1 a=some (.frz o (.dK kvs))/\(∀ ob u,H0 a≠some (.frz ob u))/\Q v (upd H1 a (.dK kvs))):=by
 intro pins s σ H Q I hw
 refine thn (h pins s σ H _ I hw) fun v s1 ⟨x,H1,I1,r1,a,kvs,o,e1,e2,q⟩=>?_
 subst hH
 exact ⟨x,_,I1.thaw e1 e2,r1,q⟩
theorem zrp {a D:Addr}{o:Obj}{kvs:List (Key × V)}{ns:List Int}{tc:TT}{Q:VK}{σr:St}{H:Hp}(p:Int->Bool)(hk:kvs.map (·.1)=ns.map Sum.inl)(hD:H D=none)(ha:H a=some (.frz o (.dK kvs)))(hlen:ns.length<=1000)
  (ht:∀ x∈ns,∀ H' (Qt:Bool->Hp->Prop),zau H H'->(∀ H'',zau H' H''->Qt (p x) H'')->tc (some (.int x) :: σr) H' Qt)
  (hq:∀ H',zau H H'->H' D=some (.lst ((ns.filter p).map V.int))->Q (.ref D) H') :
  zs7 (z2p a o kvs) (zmv 0) tc (zvw 0) Q D (none :: σr) (upd H D (.lst [])):=by
 have hl:kvs.length=ns.length:=by
  have:=congrArg kj hk
  simpa using this
 refine ⟨fun i m σ H'=>m=ns.length - i/\i<=ns.length/\∃ v,σ=v :: σr/\zau H H'/\H' D=some (.lst (((ns.take i).filter p).map V.int)),⟨ns.length,by simp,i9 _,none,rfl,zau.new H hD,zac⟩,?_⟩
 rintro i m σ H' ⟨rfl,hi,v,rfl,s,hd⟩
 by_cases b:i<ns.length
 ·refine .inr ⟨⟨s _ _ ha,by omega⟩,fun σ' H''=>i+1<=ns.length/\∃ v,σ'=v :: σr/\zau H H''/\H'' D=some (.lst (((ns.take (i+1)).filter p).map V.int)),fun σ' H'' z=>⟨ns.length - (i+1),by omega,rfl,z⟩,fun x H'' y=>?_⟩
  obtain ⟨rfl,kv,d,rfl⟩:=y
  have ek:kv.1=Sum.inl ns[i]:=by
   have e1:=congrArg (fun l=>l[i]?) hk
   simp only [List.getElem?_map,d,l8] at e1
   rw [List.getElem?_eq_getElem b] at e1
   exact Option.some.inj e1
  have et:ns.take (i+1)=ns.take i++[ns[i]]:=by rw [gu b]
  rw [ek]
  show zmv 0 (V.int ns[i]) _ _ _
  refine ht ns[i] (jp b) H'' _ s fun H3 s2=>?_
  have c:=s2 _ _ hd
  by_cases hp:p ns[i]=true
  ·rw [if_pos hp]
   refine ⟨_,rfl,_,c,?_,⟨by omega,_,rfl,(s.trans s2).put hD,?_⟩⟩
   ·rw [fj]
    have:=ib p (ns.take i)
    rw [gq] at this
    exact zar (by omega)
   ·rw [zac,et,jd,gy]
    simp [hp]
  ·rw [if_neg hp]
   refine ⟨by omega,_,rfl,s.trans s2,?_⟩
   rw [c,et,jd]
   simp [hp]
 ·have e:i=ns.length:=by omega
  subst e
  rw [gr] at hd
  exact .inl ⟨⟨s _ _ ha,by omega⟩,hq H' s hd⟩
theorem zti {X:Cx}{K:W.Frag}{pos:Pos}{es:List Expr}{k:Nat}{t:TGs}{n:Nat}(hK:X.K=K)(hc:X.calm=true)(h:PGs X es t)
  (hn:(assignEach es X.env).length=n:=by rfl)(hst:(assignEach es X.env).findIdx? (·.1)=none:=by rfl):PG X (.Tuple es k pos) (z3i K n t):=hK ▸ zm0 hc h hn hst
section
variable {X:Cx}
theorem zqk (hc:X.calm=true):zhf X (.type "list") (fun xs H Q=>∃ (p:Addr) (kvs:List (Key × V)) (ks:List Int),xs=[.ref p]/\H p=some (.dK kvs)/\kvs.map (·.1)=ks.map Sum.inl/\ks.length<=1000/\∀ l,H l=none->Q (.ref l) (upd H l (.lst (ks.map V.int)))):=by
 intro pins s σ H xs us Q I r h
 obtain ⟨p,kvs,ks,rfl,hq,hk,hl,q⟩:=h
 obtain ⟨u,rfl,ru⟩:=zf8 r
 cases (show u=Value.ref p from ru)
 obtain ⟨_,lo,vs,kv,dd⟩:=zmz I.hok hq
 obtain ⟨ep,e⟩:=dd.dictAt
 have b:vs.map (·.1)=ks.map Sum.inl:=kv.keys.symm.trans hk
 have a:vs.length=ks.length:=by
  have:=congrArg kj b
  simpa using this
 refine PySem.W.kdl_call (nq lo) (I.ok.hd hc) e (by rw [a]; exact gx (zar hl)) fun h' tk d c k1 hD it=>?_
 have hi:IntsAre d.toList ks:=zrw (by rw [ie,it.1,a]) fun j k hj v hv=>by
  obtain ⟨k',x,e1,e2⟩:=it.2 j v (by rw [<- Array.getElem?_toList]; exact hv)
  have e3:(vs.map (·.1))[j]? = some k':=by rw [List.getElem?_map,e1]; rfl
  rw [b,List.getElem?_map,hj] at e3
  cases e3
  exact ll e2
 refine ⟨.ref s.heap.objs.size,_,I.laid (t':=tk) k1 (gf _) (show zca X.prog X.w _ h' _ (.lst (ks.map V.int)) from ⟨by rw [fj]; exact gx (zar hl),d.toList,c,zds hi,by simpa using hD⟩),rfl,q _ (I.hok.fresh (gf _))⟩
end
def z2c (_ j:Int):Prop:=0<j/\j<=2 ^ 60
theorem zdj {X:Cx}:OpR X (binaryOp .FloorDiv) (rI z2c fun i j=> .int (i / j)):=opI fun i j _ _ _ _ _ hc q=>by
 have h1:(0:Int)<j:=hc.1
 have h2:j<=2 ^ 60:=hc.2
 refine floordiv_int (by omega) (by rw [Int.fdiv_eq_ediv_of_nonneg i (by omega)]; exact q) (.inl (PyProof.noPylong_of_log2 ?_))
 have h3:j.natAbs<2 ^ 61:=by omega
 exact ma ((Nat.log2_lt (by omega)).mpr h3) (by decide)
theorem oL {α:Sort _}{a:α}{p:Prop}:a=a\/p:= .inl rfl
section
variable {X:Cx} {k k':Nat} {C:Addr} {st:Stmt} {ps:List Str} {sp:Sp} {x m q:Str} {p pos apos:Pos} {e o:Expr} {es:List Expr} {ta:TE} {t:TA}
theorem pmD {pl:Sem Bool}(he:PE X o ta)(c:Cls X.K C)(D:DfM X.K C m q st ps)(F:zdl X.prog X.w X.K X.mg X.base CX0 k D.f D.fd ps sp)(hr:zee k' X.A)(ha:PA X (e :: es) t)(hk:k<=k':=by decide)
  (hst:starEach (e :: es) X.env=(false,eval e X.env) :: starEach es X.env:=by rfl)(hpl:(backTo pos (starEach es X.env)).any (·.1)=false:=by rfl)
  (ht:eval (.Call (.Attribute o m apos) (e :: es) [] pos) X.env=(do
   let ov <- eval o X.env
   standAt apos.atName
   let (f,first) <- holding [ov] (getMethod ov m pl)
   callWith pos f first (backTo pos (starEach (e :: es) X.env)) (backToKw pos (keywordEach [] X.env))):=by rfl) :
  PE X (.Call (.Attribute o m apos) (e :: es) [] pos) (zzs C m sp [] E0 ta t):=ze0 he c D.me F (hr.mono hk) D.b .nil zb5 ha hst hpl ht
theorem pfD (D:Df X.K X.mg x st ps)(F:zdl X.prog X.w X.K X.mg X.base CX0 k D.f D.fd ps sp)(hr:zee k' X.A)(hg:Gl X x)(ha:PA X (e :: es) t)(hk:k<=k':=by decide)(hdb:(x == ("__debug__" : Str))=false:=by decide)
  (he:starEach (e :: es) X.env=(false,eval e X.env) :: starEach es X.env:=by rfl)(hpl:(backTo pos (starEach es X.env)).any (·.1)=false:=by rfl):PE X (.Call (.Name x p) (e :: es) [] pos) (zs1 sp [] E0 t):=zhc F (hr.mono hk) hg D.hm D.fn.kp D.b .nil zb5 ha hdb he hpl
end
structure zve (K:W.Frag)(C:Addr)(m:Str)(f:Addr):Prop where
 sg:PySem.W.specialIn K (.ref C) "__getattribute__" = some (some (.builtin "type.__getattribute__"))
 rd:PySem.W.readsIn K C (.type "type")=true
 fc:PySem.W.findCls K (.ref C) (.type "type") m=some (.val (.ref f))
 kp:PySem.W.keepIn K (.ref f)=true
section
variable {X:Cx} {CX:CXT} {k:Nat} {f C:Addr} {fd:FuncData} {ps:List Str} {sp:Sp} {dvs:List V} {ds:List Value} {E:XK} {x m:Str} {p pos apos:Pos} {e:Expr} {es:List Expr} {t:TA}
theorem zwj {pl:Sem Bool}(hg:Gl X x)(hm:X.mg x=some (.ref C))(hM:zve X.K C m f)(F:zdl X.prog X.w X.K X.mg X.base CX k f fd ps sp)(hr:zee k X.A)(hb:zce X.K fd ps ds)(hd:zbq dvs ds)(hx:zhw CX X E)(ha:PA X (e :: es) t)
  (hdb:(x == ("__debug__" : Str))=false:=by decide)(hst:starEach (e :: es) X.env=(false,eval e X.env) :: starEach es X.env:=by rfl)(hpl:(backTo pos (starEach es X.env)).any (·.1)=false:=by rfl)
  (ht:eval (.Call (.Attribute (.Name x p) m apos) (e :: es) [] pos) X.env=(do
   let ov <- eval (.Name x p) X.env
   standAt apos.atName
   let (f,first) <- holding [ov] (getMethod ov m pl)
   callWith pos f first (backTo pos (starEach (e :: es) X.env)) (backToKw pos (keywordEach [] X.env))):=by rfl) :
  PE X (.Call (.Attribute (.Name x p) m apos) (e :: es) [] pos) (zs1 sp dvs E t):=by
 intro pins s σ H Q I h
 refine kq (pl:=pl) (thn (zyw (v:= .ref C) hg hm rfl hdb pins s σ H (fun v H'=>v = .ref C/\H'=H) I ⟨rfl,rfl⟩) fun u s1 ⟨y,H1,I1,ry,e1,e2⟩=>?_) ht
 subst e1 e2
 obtain rfl:u=Value.ref C:=ry
 refine PySem.W.method_cls I1.kIn hM.sg (PySem.W.cls_value I1.kIn hM.rd hM.fc rfl ?_)
 refine ku (first:=[]) (h₀:=X.base) I.ok.mod.kin hM.kp (thn (ha pos pins _ σ _ _ (I1.tok (s1.toks+1)) h) fun us s2 ⟨vs,H2,I2,r,q2⟩=>⟨I2.kIn,?_⟩) hst hpl
 exact znp (us:=us) (vs:=vs) F hr hb hd hx I2 r q2
end
theorem zq_ (a v d:Value):argsOk "max" ⟨[a],[(Str.ofString "key",v),(Str.ofString "default",d)]⟩:=by unfold argsOk; kernel_rfl
def zn3 (kf:Nat->Int):Option (Nat × Value × Tok)->Array Value
 | none=> #[]
 | some (i,vb,tb)=> #[vb,.int (kf i) tb]
theorem zg5 {kf:Nat->Int}:∀ {b:Option (Nat × Value × Tok)},(zn3 kf b).size<=sizeLine
 | none=>i9 _
 | some (_,_,_)=>by
  show 2<=sizeLine
  rw [sizeLine_eq]
  decide
section
variable {X:Cx} {pins:List (Addr × Obj)} {σ:St} {H:Hp} {p f S it:Addr} {xs:List V} {Q:VK} {R:Result->Shared->Prop} {kf:Nat->Int}
theorem zu0 (hh:X.A.handled=none)(hq:SqL X.K H p xs)(hpi:p≠it)(hSi:S≠it)(hi0:X.s₀.heap.objs.size<=it)(hS0:X.s₀.heap.objs.size<=S)(hn:∀ x∈X.pn++pins,x.1≠it/\x.1≠S)
  (turn:∀ (pl:List (Addr × Obj)) (s':Shared) (i:Nat) (x:V) (v:Value),xs[i]? = some x->zbp x v->Inv X pl σ H s'->wpAny (model X.prog X.w) X.A.in1 (call (.ref f) [v]) (EP X pl σ fun y H2=>y = .int (kf i)/\H2=H) (fun _ _=>False) s')
  (hR:∀ v s',EP X pins σ Q v s'->R (.ok (.ret v)) s')(q0:xs=[]->Q .non H)(q1:∀ i x,xs[i]? = some x->(∀ j,j<xs.length->kf j<=kf i)->Q x H) :
  ∀ (r j:Nat) (s:Shared) (b:Option (Nat × Value × Tok)) (c:Nat) (oI:Obj),xs.length - j=r->j<=xs.length->Inv X (pins++[(S,seqObj "list" (zn3 kf b) c),(it,oI)]) σ H s->s.heap.IsListIter it p j ->
   (b=none->j=0)->(∀ i vb tb,b=some (i,vb,tb)->(∃ x,xs[i]? = some x/\zbp x vb)/\∀ j',j'<j->kf j'<=kf i) ->
   codeAny (model X.prog X.w) X.A (.builtin "max.loop" ⟨[.ref it,.ref f,.ref S],[(Str.ofString "default",.none)]⟩) R s:=by
 have g:(toString "max" ++ toString ".loop" : String) = "max.loop" :=by decide
 intro r
 induction r with
 | zero =>
  intro j s b c oI hr hj J ae ad ac
  have ej:j=xs.length:=by omega
  obtain ⟨its,rv,pl,hz⟩:=J.list hq
  have hsz:its.toArray.size=xs.length:=by rw [fw,<- rv.length]
  have W:=Walks.list (prog:=X.prog) (w:=X.w) (A:=X.A.in1) (by exact hh) it p hpi its.toArray
  have gS:=J.pin (S,seqObj "list" (zn3 kf b) c) (fh _ (fh _ (.head _)))
  have gI:=J.pin (it,oI) (fh _ (fh _ (.tail _ (.head _))))
  refine codeAny_builtin m5 ?_
  rw [ig j5 _]
  show wpAny _ X.A.in1 (seqItems? (.ref S) >>= _) _ _ _
  refine wpAny_bind (wpAny_seqItems gS.1 rfl ?_)
  show wpAny _ X.A.in1 (tryCatch (pyNext (.ref it)) _ >>= _) _ _ _
  refine wpAny_bind (wpAny_tryCatch (W.done _ _ _ ⟨by rw [hsz,<- ej]; exact ae,pl.isList⟩ fun h' ai af=>?_))
  have m:∀ b o,b≠it->s.heap.get? b=some o->h'.get? b=some o:=fun b o hb e=>af b o (by simpa using hb) e
  have J1:Inv X pins σ H { s with heap:=h',toks:=ai }:=J.unpinned.turned m gI.2.1 gI.2.2.1 (.inr hi0) (fun x c e z=>by
   obtain ⟨v,oc,hc,ak⟩:=J.cell x c e
   rw [z,gI.1] at hc
   cases hc
   exact gI.2.2.2.2 _ ak) fun x hx=>(hn x hx).1
  cases b with
  | none =>
   have e0:=ad rfl
   have ex:xs=[]:=List.eq_nil_of_length_eq_zero (by omega)
   show wpAny _ X.A.in1 (rule _ >>= _) _ _ _
   refine wpAny_bind (wpAny_rule (wpAny_pure ?_))
   exact hR _ _ ⟨.non,H,J1,rfl,q0 ex⟩
  | some b =>
   obtain ⟨i,vb,tb⟩:=b
   obtain ⟨⟨x,hx,rx⟩,hm⟩:=ac i vb tb rfl
   have ao:=m S _ hSi gS.1
   show wpAny _ X.A.in1 (updateSeq S (fun _=> #[]) >>= _) _ _ _
   refine wpAny_bind ?_
   refine wpAny_updateSeq ao rfl (wpAny_bind (wpAny_letGo (wpAny_pure ?_))) (hz:=zg5)
   refine hR _ _ ⟨x,H,?_,rx,q1 i x hx fun j' l=>hm j' (by omega)⟩
   exact zl3 J1 (fun b hb=>Heap.get?_update_ne _ _ _ _ hb) gS.2.1 gS.2.2.1 hS0 ao (fun v z=>by cases z) fun x hx=>(hn x hx).2
 | succ r ih =>
  intro j s b c oI hr hj J ae ad ac
  obtain ⟨its,rv,pl,hz⟩:=J.list hq
  have hsz:its.toArray.size=xs.length:=by rw [fw,<- rv.length]
  have aa:j<xs.length:=by omega
  have W:=Walks.list (prog:=X.prog) (w:=X.w) (A:=X.A.in1) (by exact hh) it p hpi its.toArray
  have gS:=J.pin (S,seqObj "list" (zn3 kf b) c) (fh _ (fh _ (.head _)))
  have gI:=J.pin (it,oI) (fh _ (fh _ (.tail _ (.head _))))
  refine codeAny_builtin m5 ?_
  rw [ig j5 _]
  show wpAny _ X.A.in1 (seqItems? (.ref S) >>= _) _ _ _
  refine wpAny_bind (wpAny_seqItems gS.1 rfl ?_)
  show wpAny _ X.A.in1 (tryCatch (pyNext (.ref it)) _ >>= _) _ _ _
  refine wpAny_bind (wpAny_tryCatch (W.item j _ _ _ (by rw [hsz]; exact aa) ⟨ae,pl.isList⟩ fun v h' ai hP ap af=>?_))
  have hv:its[j]? = some v:=by simpa using hP
  obtain ⟨x,hx⟩:∃ x,xs[j]? = some x:=⟨_,List.getElem?_eq_getElem aa⟩
  obtain ⟨u,hu,rx⟩:=rv.get (i:=j) (x:=x) hx
  rw [hv] at hu
  cases hu
  obtain ⟨a,am,an,ah⟩:=id ap.1
  have m:∀ b o,b≠it->s.heap.get? b=some o->h'.get? b=some o:=fun b o hb e=>af b o (by simpa using hb) e
  have J1:Inv X pins σ H { s with heap:=h',toks:=ai }:=J.unpinned.turned m gI.2.1 gI.2.2.1 (.inr hi0) (fun x c e z=>by
   obtain ⟨v,oc,hc,ak⟩:=J.cell x c e
   rw [z,gI.1] at hc
   cases hc
   exact gI.2.2.2.2 _ ak) fun x hx=>(hn x hx).1
  have q:∀ (s':Shared) (kA:Array Value) (e:Nat) (o:Obj),(∀ v,o.data≠ .cell v)->s'.heap.get? S=some (seqObj "list" kA e)->s'.heap.get? it=some o->Inv X pins σ H s'->Inv X (pins++[(S,seqObj "list" kA e),(it,o)]) σ H s':=fun s' kA e o ho g1 g2 J=>by
   refine J.pins_of fun x hx=>?_
   rcases fq.mp hx with z | z
   ·exact J.pin x (fh _ z)
   ·rcases gs.mp z with rfl | z
    ·exact ⟨g1,gS.2.1,gS.2.2.1,gS.2.2.2.1,fun v z=>by cases z⟩
    ·rw [fi.mp z]
     exact ⟨g2,gI.2.1,gI.2.2.1,gI.2.2.2.1,ho⟩
  have ab:∀ v,a.data≠ .cell v:=fun v z=>by rw [ah] at z; cases z
  have J2:=q _ _ c a ab (m S _ hSi gS.1) am J1
  show wpAny _ X.A.in1 (tryCatch (holding [v] (call (.ref f) [v])) _ >>= _) _ _ _
  refine wpAny_bind (wpAny_tryCatch (wpAny_holding (wpAny_mono (turn _ _ j x v hx rx J2) (fun y s2 he=>?_) fun _ _ hF=>hF.elim)))
  obtain ⟨y',H2,J3,ry,rfl,rfl⟩:=he
  obtain ⟨t2,rfl⟩:=ry
  have d:=J3.pin (S,seqObj "list" (zn3 kf b) c) (fh _ (fh _ (.head _)))
  have ag:=J3.pin (it,a) (fh _ (fh _ (.tail _ (.head _))))
  have next:∀ (h5:Heap) (c2:Nat) (aj:Nat),h5.get? S=some (seqObj "list" (zn3 kf (some (j,v,t2))) c2)->(∀ b,b≠S->h5.get? b=s2.heap.get? b)->(∀ j',j'<j->kf j'<=kf j) ->
    codeAny (model X.prog X.w) X.A (.builtin "max.loop" ⟨[.ref it,.ref f,.ref S],[(Str.ofString "default",.none)]⟩) R { s2 with heap:=h5,toks:=aj }:=fun h5 c2 aj g5 n hm=>by
   have J4:Inv X pins σ H2 { s2 with heap:=h5,toks:=aj }:=zl3 J3.unpinned n d.2.1 d.2.2.1 hS0 d.1 (fun v z=>by cases z) fun x hx=>(hn x hx).2
   refine ih (j+1) _ (some (j,v,t2)) c2 a (by omega) aa (q _ _ _ _ ab g5 ((n it hSi.symm).trans ag.1) J4) ⟨a,(n it hSi.symm).trans ag.1,an,ah⟩ (fun z=>nomatch z) fun i vb tb e=>?_
   cases e
   refine ⟨⟨x,hx,rx⟩,fun j' l=>?_⟩
   by_cases e:j'=j
   ·rw [e]
    exact Int.le_refl _
   ·exact hm j' (by omega)
  cases b with
  | none =>
   have e0:=ad rfl
   show wpAny _ X.A.in1 (updateSeq S (fun _=> #[v,.int (kf j) t2]) >>= _) _ _ _
   refine wpAny_bind ?_
   refine wpAny_updateSeq d.1 rfl ?_ (hz:=zg5)
   rw [g]
   refine wpAny_pure ⟨plainId_quiet j5 _,?_⟩
   exact next _ _ s2.toks (get?_update_seq d.1 fun _=> #[v,.int (kf j) t2]) (fun b hb=>Heap.get?_update_ne _ _ _ _ hb) fun j' l=>absurd l (by omega)
  | some b =>
   obtain ⟨i,vb,tb⟩:=b
   obtain ⟨aq,hm⟩:=ac i vb tb rfl
   show wpAny _ X.A.in1 (tryCatch (holding [v,.int (kf j) t2] (richCompare .Gt (.int (kf j) t2) (.int (kf i) tb) >>= _)) _ >>= _) _ _ _
   refine wpAny_bind (wpAny_tryCatch (wpAny_holding (wpAny_bind (CmpOf.ints_gt (prog:=X.prog) (w:=X.w) (A:=X.A.in1) (P:=fun i v=>∃ t,v = .int (kf i) t) kf (fun i v h=>h) j i _ _ _ _ _ ⟨t2,rfl⟩ ⟨tb,rfl⟩ ?_))))
   refine wpAny_bind (wpAny_holding (wpAny_truthy_bool ?_))
   refine wpAny_bind (wpAny_letGo (wpAny_pure ?_))
   by_cases al:kf j > kf i
   ·simp only [al,decide_true,if_true]
    refine wpAny_bind ?_
    refine wpAny_updateSeq d.1 rfl (wpAny_bind (wpAny_letGo ?_)) (hz:=zg5)
    rw [g]
    refine wpAny_pure ⟨plainId_quiet j5 _,?_⟩
    exact next _ _ _ (get?_update_seq d.1 fun _=> #[v,.int (kf j) t2]) (fun b hb=>Heap.get?_update_ne _ _ _ _ hb) fun j' l=>by
     have:=hm j' l
     omega
   ·simp only [al,decide_false,je,if_false]
    refine wpAny_bind (wpAny_letGo ?_)
    rw [g]
    refine wpAny_pure ⟨plainId_quiet j5 _,ih (j+1) _ (some (i,vb,tb)) c a (by omega) aa J3 ⟨a,ag.1,an,ah⟩ (fun z=>nomatch z) fun i' ar au e=>?_⟩
    cases e
    refine ⟨aq,fun j' l=>?_⟩
    by_cases e:j'=j
    ·rw [e]
     omega
    ·exact hm j' (by omega)
theorem zyk {s:Shared}(I:Inv X pins σ H s)(hh:X.A.handled=none)(hq:SqL X.K H p xs)
  (turn:∀ (pl:List (Addr × Obj)) (s':Shared) (i:Nat) (x:V) (v:Value),xs[i]? = some x->zbp x v->Inv X pl σ H s'->wpAny (model X.prog X.w) X.A.in1 (call (.ref f) [v]) (EP X pl σ fun y H2=>y = .int (kf i)/\H2=H) (fun _ _=>False) s')
  (q0:xs=[]->Q .non H)(q1:∀ i x,xs[i]? = some x->(∀ j,j<xs.length->kf j<=kf i)->Q x H) :
  wpAny (model X.prog X.w) X.A (call (.builtin "max") [.ref p] [(Str.ofString "key",.ref f),(Str.ofString "default",.none)]) (EP X pins σ Q) X.xe s:=by
 have c:(toString "max" ++ toString ".loop" : String) = "max.loop" :=by decide
 obtain ⟨its,rv,pl,hz⟩:=I.list hq
 refine kmk_tree PySem.F.kind_max PySem.F.plain_max PySem.F.entry_max (zq_ _ _ _) ?_
 show wpAny _ X.A.in1 (Builtin.Builtins.bindParams "max" ["key","default"] 0 ⟨[],[(Str.ofString "key",.ref f),(Str.ofString "default",.none)]⟩ >>= _) _ _ s
 refine wpAny_bind (wpAny_of_eq (show Builtin.Builtins.bindParams "max" ["key","default"] 0 ⟨[],[(Str.ofString "key",.ref f),(Str.ofString "default",.none)]⟩=pure [some (.ref f),some .none] from rfl) ?_)
 refine wpAny_bind (wpAny_pure ?_)
 refine wpAny_bind (wpAny_pyIter_list pl.isList ?_)
 refine wpAny_bind (wpAny_newList ?_ (i9 _))
 rw [c]
 obtain ⟨h1,a⟩:∃ h1,h1=s.heap.push { cls:= .type "list_iterator",data:= .fields #[.ref p,.int 0 0] }:=⟨_,rfl⟩
 have z1:h1.objs.size=s.heap.objs.size+1:=by rw [a]; exact size_push' ..
 have gI:h1.get? s.heap.objs.size=some { cls:= .type "list_iterator",data:= .fields #[.ref p,.int 0 0] }:=by rw [a]; exact Heap.get?_push_size _ rfl
 have k1:∀ b o,s.heap.get? b=some o->h1.get? b=some o:=fun b o e=>by rw [a]; exact Heap.get?_push_of_some _ e
 rw [<- a]
 have gS:(h1.push (seqObj "list" #[] 0)).get? h1.objs.size=some (seqObj "list" #[] 0):=Heap.get?_push_size _ rfl
 have k2:∀ b o,h1.get? b=some o->(h1.push (seqObj "list" #[] 0)).get? b=some o:=fun b o e=>Heap.get?_push_of_some _ e
 have I2:Inv X pins σ H { s with heap:=h1.push (seqObj "list" #[] 0),toks:=s.toks }:=I.kept fun b o e=>k2 _ _ (k1 _ _ e)
 have lS:s.heap.objs.size<=h1.objs.size:=by omega
 have d:=I.lt
 refine wpAny_pure ⟨plainId_quiet j5 _,?_⟩
 refine zu0 (Q:=Q) (pins:=pins) (σ:=σ) (H:=H) (xs:=xs) (kf:=kf) hh hq (gl pl.lt) (fun z=>Nat.succ_ne_self _ (z1.symm.trans z)) I.sz (gm I.sz lS) (fun x hx=>have y:=gi (I.pin x hx).1; ⟨gl y,gl (gc y lS)⟩) turn (fun v s' h=>h) q0 q1 _ 0 _ none 0 _ rfl (i9 _) (I2.pins_of (pins':=pins++[(h1.objs.size,seqObj "list" (zn3 kf none) 0),(s.heap.objs.size,{ cls:= .type "list_iterator",data:= .fields #[.ref p,.int 0 0] })]) fun x hx=>?_) ⟨_,k2 _ _ gI,rfl,rfl⟩ (fun _=>rfl) (fun _ _ _ z=>nomatch z)
 rcases fq.mp hx with z | z
 ·exact I2.pin x (fh _ z)
 ·rcases gs.mp z with rfl | z
  ·exact ⟨gS,I.hok.fresh lS,j9 (gc d lS),I.nofs lS,fun v z=>by cases z⟩
  ·rw [fi.mp z]
   exact ⟨k2 _ _ gI,I.hok.fresh (gf _),j9 d,I.nofs (gf _),fun v z=>by cases z⟩
def z3a (K:W.Frag)(Rr:Addr->FuncData->Prop)(sp:Addr->FuncData->Sp)(te tl:TE):TE:=fun σ H Q=>zgk te zsi σ H fun vs H1=>zgk tl (zgk (tC .non) zsi) σ H1 fun zs H2=>∃ (p f:Addr) (fd:FuncData) (xs:List V) (kf:Nat->Int),vs=[.ref p]/\zs=[.ref f,.non]/\SqL K H2 p xs /\
 Rr f fd/\(∀ i x,xs[i]? = some x->∀ Q':VK,Q' (.int (kf i)) H2->sp f fd [x] H2 Q' E0)/\(xs=[]->Q .non H2)/\∀ i x,xs[i]? = some x->(∀ j,j<xs.length->kf j<=kf i)->Q x H2
theorem zxl {x:Str}{e lam dn:Expr}{te tl:TE}{p pos kpos dpos:Pos}{k:Nat}{ps:List Str}{Rr:Addr->FuncData->Prop}{sp:Addr->FuncData->Sp}(hc:X.calm=true)(hg:Gl X x)(hm:X.mg x=none)(hv:bootBuiltins x=some (.builtin "max"))(G:∀ f fd,Rr f fd->zdl X.prog X.w X.K X.mg X.base CX0 k f fd ps (sp f fd))(hb:∀ f fd,Rr f fd->zce X.K fd ps [])
  (hr:zee (k+1) X.A)(he:PE X e te)(hl:PE X lam tl)(hdn:PE X dn (tC .non))(hn:x≠ "__name__" :=by decide)(hdb:(x == ("__debug__" : Str))=false:=by decide)(hs:starEach [e] X.env=[(false,eval e X.env)]:=by rfl) :
  PE X (.Call (.Name x p) [e] [⟨some "key",lam,kpos⟩,⟨some "default",dn,dpos⟩] pos) (z3a X.K Rr sp te tl):=by
 intro pins s σ H Q I h
 refine wpAny_Call_Name_kw (zjz I hg hm hv ?_ hn hdb)
 refine callWith_kw (thn (zaa he zag hs pos pins s σ H _ I h) fun us s1 ⟨vs,H1,I1,r1,q1⟩=>?_) (by rw [hs]; rfl) (by rw [hs]; rfl) rfl rfl
 refine thn (zo8 hl (zo8 hdn zw2) pos pins s1 σ H1 _ I1 q1) fun ws s2 ⟨zs,H2,I2,rz,a,f,fd,xs,kf,e1,e2,hq,hR,j,q0,q2⟩=>?_
 subst e1 e2
 obtain ⟨v',rfl,rv⟩:=zf8 r1
 cases (show v'=Value.ref a from rv)
 obtain ⟨u1,u2,rfl,m,l⟩:∃ u1 u2,ws=[u1,u2]/\zbp (.ref f) u1/\zbp .non u2:=by
  cases rz with
  | cons a b=>cases b with | cons c d=>cases d; exact ⟨_,_,rfl,a,c⟩
 cases (show u1=Value.ref f from m)
 cases (show u2=Value.none from l)
 show wpAny _ _ (call (.builtin "max") [.ref a] [(Str.ofString "key",.ref f),(Str.ofString "default",.none)]) _ _ _
 refine zyk I2 (I2.ok.hd hc) hq (fun pl s' i y v hy ry J=>?_) q0 q2
 have F:=G f fd hR
 have g:=j i y hy (fun v H3=>v = .int (kf i)/\H3=H2) ⟨rfl,rfl⟩
 refine wpAny_call (codeAny_mono (F.run X.A.in1 X.stack s' H2 ⟨[v],[]⟩ [v] [y] _ E0 hr.in1 J.env0.in1 (by have z:=hb f fd hR s' [v] J.kIn (by rw [iu]; exact F.len _ _ _ _ g); rw [iu] at z; exact z) (.cons ry .nil) g) fun r n hq=>?_)
 cases r with
 | error e=>exact False.elim hq
 | ok fl =>
  cases fl with
  | ret u=>exact J.after hq
  | next=>exact False.elim hq
  | brk=>exact False.elim hq
  | cont=>exact False.elim hq
end
end L2
namespace L2
open PySem PySem.Spec PyProof.Rows PySem.W
def KOk (ky:Nat->Int)(n:Nat){α:Type}:KasT α->(α->Prop)->Prop
 | .ret a,R=>R a
 | .ask i j k,R=>i<n/\j<n/\KOk ky n (k (decide (ky i<ky j))) R
theorem KOk.mono {ky:Nat->Int}{n:Nat}{α:Type}:∀ {t:KasT α} {R R':α->Prop},KOk ky n t R->(∀ a,R a->R' a)->KOk ky n t R'
 | .ret _,_,_,h,hr=>hr _ h
 | .ask _ _ _,_,_,h,hr=>⟨h.1,h.2.1,KOk.mono h.2.2 hr⟩
theorem KOk.bind {ky:Nat->Int}{n:Nat}{α β:Type}{f:α->KasT β}{R:β->Prop}:∀ {t:KasT α},KOk ky n t (fun a=>KOk ky n (f a) R)->KOk ky n (t.bind f) R
 | .ret _,h=>h
 | .ask _ _ _,h=>⟨h.1,h.2.1,KOk.bind h.2.2⟩
theorem KOk.wp {ky:Nat->Int}{n:Nat}{α:Type}{cmp:Nat->Nat->(Bool->Shared->Prop)->Shared->Prop}{s:Shared}(h:∀ i j (C:Bool->Shared->Prop),i<n->j<n->C (decide (ky i<ky j)) s->cmp i j C s):∀ {t:KasT α} {Q:α->Shared->Prop},KOk ky n t (fun a=>Q a s)->t.kasWp cmp Q s
 | .ret _,_,q=>q
 | .ask i j _,_,q=>h i j _ q.1 q.2.1 (KOk.wp h q.2.2)
section
variable {ky:Nat->Int} {n:Nat}
def kAt (ky:Nat->Int)(p:Array Nat)(i:Nat):Int:=ky (p.getD i 0)
structure KA (ky:Nat->Int)(n:Nat)(p:Array Nat):Prop where
 sz:p.size=n
 rg:∀ i,p.getD i 0<n
 inj:∀ i j,i<n->j<n->kAt ky p i=kAt ky p j->i=j
def zny (ky:Nat->Int)(p:Array Nat)(m:Nat):Prop:=∀ i j,i<j->j<m->kAt ky p i<kAt ky p j
theorem zny.snoc {p:Array Nat}{m:Nat}(a:zny ky p m)(hm:1<=m)(h:kAt ky p (m - 1)<kAt ky p m):zny ky p (m+1):=fun i j hij hj=>by
 by_cases e:j=m
 ·subst e
  by_cases e2:i=j - 1
  ·rw [e2]
   exact h
  ·have:=a i (j - 1) (by omega) (by omega)
   omega
 ·exact a i j hij (by omega)
theorem zte {p:Array Nat}(K:KA ky n p):∀ (f m:Nat),1<=m->m+f<=n->zny ky p m->KOk ky n (kas_asc p f m) fun m'=>m<=m'/\m'<=m+f/\zny ky p m'/\(m'<m+f->kAt ky p m'<kAt ky p (m' - 1))
 | 0,m,h1,_,ha=>⟨gf _,gf _,ha,fun z=>absurd z (by omega)⟩
 | f+1,m,h1,h2,ha=>by
  refine ⟨K.rg _,K.rg _,?_⟩
  by_cases c:ky (p.getD m 0)<ky (p.getD (m - 1) 0)
  ·rw [decide_eq_true c]
   show KOk ky n (ite _ _ _) _
   rw [if_pos rfl]
   exact ⟨gf _,by omega,ha,fun _=>c⟩
  ·rw [decide_eq_false c]
   show KOk ky n (ite _ _ _) _
   rw [if_neg Bool.false_ne_true]
   have hne:kAt ky p (m - 1)≠kAt ky p m:=fun e=>by
    have:=K.inj _ _ (by omega) (by omega) e
    omega
   have c':¬ kAt ky p m<kAt ky p (m - 1):=c
   refine (zte K f (m+1) (by omega) (by omega) (ha.snoc h1 (by omega))).mono fun m' h=>⟨by omega,by omega,h.2.2.1,fun z=>h.2.2.2 (by omega)⟩
def zzf (ky:Nat->Int)(p:Array Nat)(m:Nat):Prop:=∀ i j,i<j->j<m->kAt ky p j<kAt ky p i
theorem ztz {p:Array Nat}(K:KA ky n p):∀ (f m:Nat),2<=m->m+f<=n->zzf ky p m->KOk ky n (kas_desc f p m 0) fun r=>r.1=p/\r.2.2=0/\m<=r.2.1/\r.2.1<=m+f/\zzf ky p r.2.1
 | 0,m,h1,_,ha=>⟨rfl,rfl,gf _,gf _,ha⟩
 | f+1,m,h1,h2,ha=>by
  refine ⟨K.rg _,K.rg _,?_⟩
  by_cases c:ky (p.getD m 0)<ky (p.getD (m - 1) 0)
  ·rw [decide_eq_true c]
   show KOk ky n (ite _ _ _) _
   rw [if_pos rfl,if_neg (by decide)]
   refine (ztz K f (m+1) (by omega) (by omega) fun i j hij hj=>?_).mono fun r h=>⟨h.1,h.2.1,by omega,by omega,h.2.2.2.2⟩
   have c':kAt ky p m<kAt ky p (m - 1):=c
   by_cases e:j=m
   ·subst e
    by_cases e2:i=j - 1
    ·rw [e2]
     exact c
    ·have:=ha i (j - 1) (by omega) (by omega)
     omega
   ·exact ha i j hij (by omega)
  ·rw [decide_eq_false c]
   show KOk ky n (ite _ _ _) _
   rw [if_neg Bool.false_ne_true]
   have c':¬ kAt ky p m<kAt ky p (m - 1):=c
   have hne:kAt ky p (m - 1)≠kAt ky p m:=fun e=>by
    have:=K.inj _ _ (by omega) (by omega) e
    omega
   have d:ky (p.getD (m - 1) 0)<ky (p.getD m 0):=by
    show kAt ky p (m - 1)<kAt ky p m
    omega
   refine ⟨K.rg _,K.rg _,?_⟩
   rw [decide_eq_true d]
   show KOk ky n (ite _ _ _) _
   rw [if_pos rfl]
   exact ⟨rfl,rfl,gf _,Nat.le_add_right _ _,ha⟩
theorem zea {p:Array Nat}{i:Nat}:p.getD i 0=(p[i]?).getD 0:=by
 rw [Array.getD_eq_getD_getElem?]
theorem zr4 {p:Array Nat}{m i:Nat}(hm:m<=p.size)(hi:i<m):(kas_rev p 0 m).getD i 0=p.getD (m - 1 - i) 0:=by
 rw [zea,zea]
 unfold kas_rev
 rw [getElem?_mirror hm _ (by omega)]
 split
 ·congr 2
  omega
 ·have:i=m - 1 - i:=by omega
  rw [<- this]
theorem zyo {p:Array Nat}{m i:Nat}(hm:m<=p.size)(hi:m<=i):(kas_rev p 0 m).getD i 0=p.getD i 0:=by
 rw [zea,zea]
 unfold kas_rev
 rw [getElem?_mirror hm _ (by omega),if_neg (by omega)]
theorem KA.rev {p:Array Nat}(K:KA ky n p){m:Nat}(hm:m<=n):KA ky n (kas_rev p 0 m):=by
 have at_:∀ i,(kas_rev p 0 m).getD i 0=p.getD (if i<m then m - 1 - i else i) 0:=fun i=>by
  split
  ·exact zr4 (by rw [K.sz]; exact hm) (by assumption)
  ·exact zyo (by rw [K.sz]; exact hm) (by omega)
 refine ⟨(mirror_size _ _ _ _).trans K.sz,fun i=>?_,fun i j hi hj e=>?_⟩
 ·rw [at_]
  exact K.rg _
 ·unfold kAt at e
  rw [at_,at_] at e
  have:=K.inj _ _ (by split <;> omega) (by split <;> omega) e
  split at this <;> split at this <;> omega
theorem zuq {p:Array Nat}(K:KA ky n p)(h2:2<=n):KOk ky n (kas_count n p) fun r=>1<=r.1/\r.1<=n/\KA ky n r.2/\zny ky r.2 r.1/\r.2.Perm p:=by
 have tail:∀ m,1<=m->m<=n->zzf ky p m->KOk ky n (kas_tail3 m n p) fun r=>1<=r.1/\r.1<=n/\KA ky n r.2/\zny ky r.2 r.1/\r.2.Perm p:=fun m h1 hm hd=>by
  refine KOk.bind ((zte (K.rev hm) (n - m) m h1 (by omega) fun i j a hj=>?_).mono fun m' h=>⟨by omega,by omega,K.rev hm,h.2.2.1,mirror_perm _ _ _ _⟩)
  unfold kAt
  rw [zr4 (by rw [K.sz]; exact hm) (by omega),zr4 (by rw [K.sz]; exact hm) hj]
  exact hd (m - 1 - j) (m - 1 - i) (by omega) (by omega)
 refine KOk.bind ((zte K (n - 1) 1 (gf _) (by omega) fun i j a hj=>absurd hj (by omega)).mono fun m h=>?_)
 obtain ⟨h1,h3,ha,hs⟩:=h
 by_cases e:m=n
 ·rw [if_pos (by rw [e]; exact beq_self_eq_true n)]
  exact ⟨h1,by omega,K,ha,Array.Perm.refl _⟩
 ·rw [if_neg (by rw [beq_iff_eq]; exact e)]
  by_cases g:m > 1
  ·rw [if_pos g]
   refine ⟨K.rg _,K.rg _,?_⟩
   have c:ky (p.getD 0 0)<ky (p.getD (m - 1) 0):=ha 0 (m - 1) (by omega) (by omega)
   rw [decide_eq_true c]
   show KOk ky n (ite _ _ _) _
   rw [if_pos rfl]
   exact ⟨h1,by omega,K,ha,Array.Perm.refl _⟩
  ·rw [if_neg g]
   have em:m=1:=by omega
   subst em
   have c:=hs (by omega)
   refine KOk.bind ((ztz K (n - (1+1)) 2 (gf _) (by omega) fun i j a hj=>?_).mono fun r h=>?_)
   ·have e1:i=0:=by omega
    have e2:j=1:=by omega
    rw [e1,e2]
    exact c
   ·obtain ⟨⟩:=r
    obtain ⟨r1,r2,r3,r4,r5⟩:=h
    dsimp only at r1 r2 r3 r4 r5 |-
    rw [r2,if_neg (by decide),r1]
    exact tail _ (by omega) (by omega) r5
theorem zl4 {p:Array Nat}(K:KA ky n p){k:Nat}(hk:k<n)(ha:zny ky p k):∀ (f l r:Nat),r - l<=f->l<=r->r<=k->(∀ i,i<l->kAt ky p i<kAt ky p k)->(∀ i,r<=i->i<k->kAt ky p k<kAt ky p i) ->
  KOk ky n (kas_place p k f l r) fun l'=>l'<=k/\(∀ i,i<l'->kAt ky p i<kAt ky p k)/\∀ i,l'<=i->i<k->kAt ky p k<kAt ky p i
 | 0,l,r,h1,h2,h3,a,b=>by
  have e:l=r:=by omega
  exact ⟨by omega,a,fun i hi=>b i (by omega)⟩
 | f+1,l,r,h1,h2,h3,a,b=>by
  unfold kas_place
  by_cases g:l ≥ r
  ·rw [if_pos g]
   exact ⟨by omega,a,fun i hi=>b i (by omega)⟩
  ·rw [if_neg g]
   refine ⟨K.rg _,K.rg _,?_⟩
   by_cases c:ky (p.getD k 0)<ky (p.getD ((l+r) / 2) 0)
   ·rw [decide_eq_true c]
    show KOk ky n (ite _ _ _) _
    rw [if_pos rfl]
    have c':kAt ky p k<kAt ky p ((l+r) / 2):=c
    refine zl4 K hk ha f l _ (by omega) (by omega) (by omega) a fun i hi d=>?_
    by_cases e:i=(l+r) / 2
    ·rw [e]
     exact c
    ·have:=ha ((l+r) / 2) i (by omega) d
     omega
   ·rw [decide_eq_false c]
    show KOk ky n (ite _ _ _) _
    rw [if_neg Bool.false_ne_true]
    have c':¬ kAt ky p k<kAt ky p ((l+r) / 2):=c
    have h:kAt ky p ((l+r) / 2)≠kAt ky p k:=fun e=>by
     have:=K.inj _ _ (by omega) hk e
     omega
    refine zl4 K hk ha f _ r (by omega) (by omega) h3 (fun i hi=>?_) b
    by_cases e:i=(l+r) / 2
    ·rw [e]
     omega
    ·have:=ha i ((l+r) / 2) (by omega) (by omega)
     omega
theorem z0c {p:Array Nat}{k l i:Nat}(hk:k<p.size)(hl:l<=k):(bubble p k (k - l)).getD i 0=p.getD (if i=l then k else if l<i/\i<=k then i - 1 else i) 0:=by
 rw [zea,zea,getElem?_bubble hk _ (by omega)]
 have e:k - (k - l)=l:=by omega
 rw [e]
 split
 ·rfl
 ·split <;> rfl
theorem zxd:∀ (f:Nat) {p:Array Nat} (k:Nat),KA ky n p->k+f=n->zny ky p k->KOk ky n (kas_bin f p k) fun q=>KA ky n q/\zny ky q n/\q.Perm p
 | 0,p,k,K,e,ha=>by
  have e:k=n:=by omega
  subst e
  exact ⟨K,ha,Array.Perm.refl _⟩
 | f+1,p,k,K,e,ha=>by
  have hk:k<n:=by omega
  refine KOk.bind ((zl4 K hk ha k 0 k (by omega) (i9 _) (gf _) (fun i hi=>absurd hi (by omega)) fun i h1 h2=>absurd h2 (by omega)).mono fun l h=>?_)
  obtain ⟨hl,h1,h2⟩:=h
  have at_:∀ i,(bubble p k (k - l)).getD i 0=p.getD (if i=l then k else if l<i/\i<=k then i - 1 else i) 0:=fun i=>z0c (by rw [K.sz]; exact hk) hl
  have K2:KA ky n (bubble p k (k - l)):=by
   refine ⟨(bubble_size _ _ _).trans K.sz,fun i=>?_,fun i j hi hj e=>?_⟩
   ·rw [at_]
    exact K.rg _
   ·unfold kAt at e
    rw [at_,at_] at e
    have a:∀ i,i<n->(if i=l then k else if l<i/\i<=k then i - 1 else i)<n:=fun i hi=>by
     split
     ·exact hk
     ·split <;> omega
    have:=K.inj _ _ (a i hi) (a j hj) e
    repeat' split at this
    all_goals omega
  refine (zxd f (k+1) K2 (by omega) fun i j b hj=>?_).mono fun q h=>⟨h.1,h.2.1,h.2.2.trans (bubble_perm _ _ _)⟩
  unfold kAt
  rw [at_,at_]
  by_cases e1:j=l
  ·rw [if_pos e1,if_neg (by omega),if_neg (by omega)]
   exact h1 i (by omega)
  ·rw [if_neg e1]
   by_cases e2:i=l
   ·rw [if_pos e2,if_pos (by omega)]
    exact h2 (j - 1) (by omega) (by omega)
   ·rw [if_neg e2]
    by_cases g1:l<i/\i<=k
    ·rw [if_pos g1,if_pos (by omega)]
     exact ha (i - 1) (j - 1) (by omega) (by omega)
    ·rw [if_neg g1]
     by_cases g2:l<j/\j<=k
     ·rw [if_pos g2]
      by_cases e3:i=j - 1
      ·omega
      ·exact ha i (j - 1) (by omega) (by omega)
     ·rw [if_neg g2]
      exact ha i j b (by omega)
theorem zo6 (h2:2<=n)(hi:∀ i j,i<n->j<n->ky i=ky j->i=j):KOk ky n (kas_sort n) fun p=>zny ky p n/\p.Perm (jc (js n))/\p.size=n:=by
 have at_:∀ i,i<n->(jc (js n)).getD i 0=i:=fun i h=>by
  rw [zea]
  simp [h]
 have K:KA ky n (jc (js n)):=by
  refine ⟨by simp,fun i=>?_,fun i j h1 h2 e=>?_⟩
  ·rw [zea]
   by_cases g:i<n
   ·simp [g]
   ·simp [g]
    omega
  ·unfold kAt at e
   rw [at_ i h1,at_ j h2] at e
   exact hi i j h1 h2 e
 refine KOk.bind ((zuq K h2).mono fun r h=>?_)
 obtain ⟨m,p⟩:=r
 obtain ⟨h1,h3,K2,ha,hp⟩:=h
 dsimp only at h1 h3 K2 ha hp |-
 by_cases g:m<n
 ·rw [if_pos g]
  have e:max m 1=m:=by omega
  rw [e]
  exact (zxd (n - m) m K2 (by omega) ha).mono fun q h=>⟨h.2.1,h.2.2.trans hp,h.1.sz⟩
 ·rw [if_neg g]
  have e:m=n:=by omega
  rw [e] at ha
  exact ⟨ha,hp,K2.sz⟩
end
section
variable {prog:Program} {w:World} {A:Around} {E:Value->Shared->Prop} {s:Shared}
def zpq (h:Heap)(v:Value)(a b:Int):Prop:=∃ x o k t u,v = .ref x/\h.get? x=some o/\o.cls = .type "tuple" /\o.data = .seq #[.int a t,.int b u] k
theorem zyd {ky kb:Nat->Int}{vs:List Value}{i j:Nat}{C:Bool->Shared->Prop}(hT:∀ i,i<vs.length->zpq s.heap (vs.getD i .none) (ky i) (kb i))(hi:i<vs.length)(hj:j<vs.length)(hinj:ky i=ky j->i=j)(h:C (decide (ky i<ky j)) s):kas_ask prog w A (tuples' true) vs i j C s:=by
 obtain ⟨x,o,k,t,u,e1,g1,c1,d1⟩:=hT i hi
 obtain ⟨x',o',k',t',u',e2,g2,c2,d2⟩:=hT j hj
 unfold kas_ask
 rw [e1,e2]
 refine kat_lt g1 d1 g2 d2 (kat_cons (wpAny_eqBool_int ?_))
 by_cases e:ky i=ky j
 ·have ij:=hinj e
  subst ij
  rw [beq_self_eq_true]
  rw [e1] at e2
  cases e2
  rw [g1] at g2
  cases g2
  rw [decide_eq_false (Int.lt_irrefl _)] at h
  exact kat_yes (kat_cons (wpAny_eqBool_int (by rw [beq_self_eq_true]; exact kat_yes (kat_nil h))))
 ·rw [beq_eq_false_iff_ne.mpr e]
  exact kat_no (oneLt_int h)
theorem zk4 {h:Heap}:∀ {vs:List Value} {as:List (Int × Tok)},vs.length=as.length->(∀ (i:Nat) (v:Value),vs[i]? = some v->∃ (x:Addr) (o:Obj) (xs:Array Value) (k:Nat),v = .ref x/\h.get? x=some o/\o.cls = .type "tuple" /\o.data = .seq xs k/\xs[0]? = as[i]?.map fun p:Int × Tok=>Value.int p.1 p.2)->KatTups h vs (as.map fun p=>Value.int p.1 p.2)
 | [],[],_,_=>KatTups.nil
 | [],_ :: _,e,_=>by cases e
 | _ :: _,[],e,_=>by cases e
 | v :: vs,a :: as,e,hv=>by
  obtain ⟨x,o,xs,k,rfl,g,c,d,f⟩:=hv 0 v rfl
  exact KatTups.cons g c d f (zk4 (Nat.succ.inj e) fun i v hi=>by
   have:=hv (i+1) v (by simpa using hi)
   simpa using this)
theorem zi2 {a:Addr}{vs:List Value}{ky kb:Nat->Int}{n:Nat}{P:PySem.Fin->Shared->Prop}(ho:s.heap.get? a=some (seqObj "list" vs.toArray n))(hT:∀ i,i<vs.length->zpq s.heap (vs.getD i .none) (ky i) (kb i))(hne:∀ i,i<vs.length->vs.getD i .none≠ .ref a)
  (hinj:∀ i j,i<vs.length->j<vs.length->ky i=ky j->i=j)(h64:vs.length<64)
  (h:∀ p:Array Nat,zny ky p vs.length->p.Perm (jc (js vs.length))->p.size=vs.length->P (.done (.ret .none)) { s with heap:=sortedHeap s.heap a vs (jc (p.toList.map fun i=>vs.getD i .none)) }) :
  wpAny (model prog w) A (Builtin.«list.sort» ⟨[.ref a],[]⟩) P E s:=by
 rw [list_sort_plain]
 have ha:a<s.heap.objs.size:=gi ho
 have m:vs.length<=sizeLine:=by rw [sizeLine_eq]; omega
 refine wpAny_bind (listItems_at ho rfl ?_)
 refine wpAny_bind (listUpdate_at ho rfl ?_ (by rw [fw]; exact m) (i9 _))
 obtain ⟨e1,q⟩:∃ e1,(s.heap.update a (Obj.mapSeq fun _=>(#[]:Array Value))).get? a=some (seqObj "list" #[] e1):=⟨_,get?_update_seq ho fun _=> #[]⟩
 refine wpAny_bind (seqEpoch_at q rfl ?_)
 refine wpAny_bind (wpAny_newTuple ?_ (by show vs.length<=_; exact m))
 refine wpAny_bind (wpAny_newList ?_ (i9 _))
 refine wpAny_holding ?_
 have aa:(((s.heap.update a (Obj.mapSeq fun _=>(#[]:Array Value))).push (seqObj "tuple" vs.toArray 0)).push (seqObj "list" #[] 0)).get? a=some (seqObj "list" #[] e1):=Heap.get?_push_of_some _ (Heap.get?_push_of_some _ q)
 have y:∀ i,i<vs.length->zpq (((s.heap.update a (Obj.mapSeq fun _=>(#[]:Array Value))).push (seqObj "tuple" vs.toArray 0)).push (seqObj "list" #[] 0)) (vs.getD i .none) (ky i) (kb i):=fun i hi=>by
  obtain ⟨x,o,k,t,u,e,g,c,d⟩:=hT i hi
  have hx:x≠a:=fun z=>hne i hi (by rw [e,z])
  exact ⟨x,o,k,t,u,e,Heap.get?_push_of_some _ (Heap.get?_push_of_some _ (by rw [Heap.get?_update_ne _ _ _ _ hx]; exact g)),c,d⟩
 show wpAny (model prog w) A _ P E { s with heap:=((s.heap.update a (Obj.mapSeq fun _=>(#[]:Array Value))).push (seqObj "tuple" vs.toArray 0)).push (seqObj "list" #[] 0) }
 dsimp only
 have tail:∀ (st:SortSt) (p:Array Nat),arrOf st=p.map (kas_item (vs.toArray.zip vs.toArray))->failedOf st=none->zny ky p vs.length->p.Perm (jc (js vs.length))->p.size=vs.length ->
   wpAny (model prog w) A (do
    let touched:=(<- seqEpoch a) != e1
    Builtin.List.listUpdate (.ref a) fun _=>(arrOf st).map (·.2)
    if let some e:=failedOf st then rule "list.sort.comparison-raised"; throw e
    if touched then rule "list.sort.modified"; raiseError "ValueError" "list modified during sort"
    ret .none) P E { s with heap:=((s.heap.update a (Obj.mapSeq fun _=>(#[]:Array Value))).push (seqObj "tuple" vs.toArray 0)).push (seqObj "list" #[] 0) }:=fun st p l hf ab hp hz=>by
  have r:=kat_snds (ks:=vs) (vs:=vs) rfl l
  have hsz:(jc (p.toList.map fun i=>vs.getD i Value.none)).size=vs.length:=by rw [fw,fj,ie,hz]
  rw [r,hf]
  refine wpAny_bind (seqEpoch_at aa rfl ?_)
  refine wpAny_bind (listUpdate_at aa rfl ?_ (i9 _) (gm (jy hsz) (by rw [sizeLine_eq]; omega)))
  simp only [bne_self_eq_false,je,if_false]
  exact wpAny_pure (h p ab hp hz)
 by_cases h2:vs.toArray.size<2
 ·rw [if_pos h2,if_pos h2]
  refine wpAny_bind (wpAny_pure ?_)
  rw [StateT.run_pure]
  refine wpAny_bind (wpAny_pure ?_)
  rw [fw] at h2
  refine tail (SortSt.mk' general' (vs.toArray.zip vs.toArray) #[] 7 none) (jc (js vs.length)) ?_ rfl (fun i j ad hj=>absurd hj (by omega)) (Array.Perm.refl _) (by simp)
  have e:=kas_range (vs.toArray.zip vs.toArray)
  rw [show (vs.toArray.zip vs.toArray).size=vs.length by simp] at e
  exact e.symm
 ·rw [if_neg h2,if_neg h2]
  rw [fw] at h2
  have tk:∃ as:List (Int × Tok),vs.length=as.length/\KatTups (((s.heap.update a (Obj.mapSeq fun _=>(#[]:Array Value))).push (seqObj "tuple" vs.toArray 0)).push (seqObj "list" #[] 0)) vs (as.map fun p=>Value.int p.1 p.2):=by
   have hx:∀ i:Nat,∃ t:Tok,i<vs.length->∃ x o xs k,vs.getD i .none = .ref x/\(((s.heap.update a (Obj.mapSeq fun _=>(#[]:Array Value))).push (seqObj "tuple" vs.toArray 0)).push (seqObj "list" #[] 0)).get? x=some o/\o.cls = .type "tuple" /\o.data = .seq xs k/\xs[0]? = some (Value.int (ky i) t):=fun i=>by
    by_cases hi:i<vs.length
    ·obtain ⟨x,o,k,t,u,e,g,c,d⟩:=y i hi
     exact ⟨t,fun _=>⟨x,o,_,k,e,g,c,d,rfl⟩⟩
    ·exact ⟨0,fun z=>absurd z hi⟩
   refine ⟨(js vs.length).map fun i=>(ky i,(hx i).choose),by simp,zk4 (by simp) fun i v hv=>?_⟩
   have hi:i<vs.length:=(List.getElem?_eq_some_iff.mp hv).1
   obtain ⟨x,o,xs,k,e,g,c,d,f⟩:=(hx i).choose_spec hi
   have ev:vs.getD i .none=v:=by rw [List.getD_eq_getElem?_getD,hv]; rfl
   rw [ev] at e
   refine ⟨x,o,xs,k,e,g,c,d,?_⟩
   rw [f]
   simp [hi]
  obtain ⟨as,ac,kt⟩:=tk
  refine wpAny_bind (kat_kind (T:= .type "int") kt (by rw [fj]; omega) (fun v hv=>?_) rfl ?_)
  ·obtain ⟨p,_,rfl⟩:=j7.mp hv
   exact .now
  ·have hb:(nh "int" != nh "tuple")=true:=by decide
   rw [hb]
   refine wpAny_bind (wpAny_mono (kat_run (Q:=fun b s'=>s'={ s with heap:=((s.heap.update a (Obj.mapSeq fun _=>(#[]:Array Value))).push (seqObj "tuple" vs.toArray 0)).push (seqObj "list" #[] 0) }/\∃ p:Array Nat,p.size=vs.length/\arrOf b=p.map (kas_item (vs.toArray.zip vs.toArray))/\failedOf b=none/\zny ky p vs.length/\p.Perm (jc (js vs.length)))
    (G:=fun p s'=>s'={ s with heap:=((s.heap.update a (Obj.mapSeq fun _=>(#[]:Array Value))).push (seqObj "tuple" vs.toArray 0)).push (seqObj "list" #[] 0) }/\zny ky p vs.length/\p.Perm (jc (js vs.length))) rfl (by omega) h64 (fun p b s' a1 a2 a3 a4=>⟨a4.1,p,a1,a2,a3,a4.2⟩)
    (KOk.wp (ky:=ky) (n:=vs.length) (fun i j C hi hj hC=>zyd y hi hj (hinj i j hi hj) hC) ((zo6 (by omega) hinj).mono fun p hp=>⟨rfl,hp.1,hp.2.1⟩))) ?_ fun _ _ e=>e)
   rintro ⟨⟨⟩,b⟩ s' ⟨rfl,p,hp,l,hf,h3,h4⟩
   exact tail b p l hf h3 h4 hp
theorem zmu {l:Addr}{vs:List Value}{ky kb:Nat->Int}{Q:Value->Shared->Prop}(hl:s.heap.IsList l vs.toArray)(hT:∀ i,i<vs.length->zpq s.heap (vs.getD i .none) (ky i) (kb i))(hinj:∀ i j,i<vs.length->j<vs.length->ky i=ky j->i=j)(h64:vs.length<64)
  (h:∀ p:Array Nat,zny ky p vs.length->p.Perm (jc (js vs.length))->p.size=vs.length->Q (.ref (s.heap.objs.size+1)) { s with heap:=sortedAll s.heap vs (jc (p.toList.map fun i=>vs.getD i .none)) }) :
  wpAny (model prog w) A (call (.builtin "sorted") [.ref l]) Q E s:=by
 have a:vs.length<=sizeLine:=by rw [sizeLine_eq]; omega
 refine Calls.call_function_entry kind_sorted plain_sorted entry_sorted (args_sorted1 _) ?_
 unfold Builtin.«sorted»
 refine wpAny_bind (m:=checkCount "sorted" 1 1 _) (wpAny_pure ?_)
 refine wpAny_bind (collect_list hl ?_ a)
 refine wpAny_bind (wpAny_newList ?_ a)
 have hsz:((s.heap.push (seqObj "list" #[] 0)).update s.heap.objs.size (Obj.mapSeq (· ++ vs.toArray))).objs.size=s.heap.objs.size+1:=by rw [lu,size_push']
 have f:(((s.heap.push (seqObj "list" #[] 0)).update s.heap.objs.size (Obj.mapSeq (· ++ vs.toArray))).push (seqObj "list" vs.toArray 0)).get? (s.heap.objs.size+1)=some (seqObj "list" vs.toArray 0):=by rw [<- hsz]; exact Heap.get?_push_size _ rfl
 have keep:∀ b o,s.heap.get? b=some o->(((s.heap.push (seqObj "list" #[] 0)).update s.heap.objs.size (Obj.mapSeq (· ++ vs.toArray))).push (seqObj "list" vs.toArray 0)).get? b=some o:=fun b o q=>by
  refine Heap.get?_push_of_some _ ?_
  rw [Heap.get?_update_ne _ _ _ _ (gl (gi q))]
  exact Heap.get?_push_of_some _ q
 show wpAny _ _ _ _ _ { s with heap:=((s.heap.push (seqObj "list" #[] 0)).update s.heap.objs.size (Obj.mapSeq (· ++ vs.toArray))).push (seqObj "list" vs.toArray 0) }
 rw [hsz]
 refine wpAny_bind (wpAny_holding (wpAny_call_entry slot_list_sort ⟨_,f,rfl⟩ entry_list_sort (zi2 (ky:=ky) (kb:=kb) f (fun i hi=>?_) (fun i hi=>?_) hinj h64 fun p h1 h2 h3=>⟨_,rfl,?_⟩) (args_list_sort _)))
 ·obtain ⟨x,o,k,t,u,e,g,c,d⟩:=hT i hi
  exact ⟨x,o,k,t,u,e,keep _ _ g,c,d⟩
 ·obtain ⟨x,o,k,t,u,e,g,c,d⟩:=hT i hi
  rw [e]
  intro z
  have z:x=s.heap.objs.size+1:=by injection z
  rw [z] at g
  exact absurd (gi g) (mw.mpr (j3 _))
 ·exact wpAny_pure ⟨_,rfl,h p h1 h2 h3⟩
end
section
variable {X:Cx}
theorem zmo:∀ ts:List Addr,zbq (ts.map V.ref) (ts.map Value.ref)
 | []=> .nil
 | _ :: r=> .cons rfl (zmo r)
theorem zms:zhf X (.builtin "sorted") (fun xs H Q=>∃ (p:Addr) (ts:List Addr) (fa fb:Addr->Int),xs=[.ref p]/\SqL X.K H p (ts.map V.ref)/\ts.length<64/\(∀ t∈ts,H t=some (.tup [.int (fa t),.int (fb t)]))/\(ts.map fa).Nodup /\
  ∀ (l:Addr) (us:List Addr),H l=none->us.Perm ts->us.Pairwise (fun a b=>fa a<fa b)->Q (.ref l) (upd H l (.lst (us.map V.ref)))):=by
 intro pins s σ H xs us Q I r h
 obtain ⟨p,ts,fa,fb,rfl,hq,hl,ht,hn,q⟩:=h
 obtain ⟨u,rfl,ru⟩:=zf8 r
 cases (show u=Value.ref p from ru)
 obtain ⟨its,rv,pl,hz⟩:=I.list hq
 have f:its.length=ts.length:=by
  have:=rv.length
  rw [fj] at this
  exact this.symm
 have z:∀ (i:Nat) (t:Addr),ts[i]? = some t->its[i]? = some (.ref t):=fun i t e=>by
  obtain ⟨u,hu,ru⟩:=rv.get (i:=i) (x:= .ref t) (by rw [List.getElem?_map,e]; rfl)
  cases (show u=Value.ref t from ru)
  exact hu
 have m:∀ i,i<ts.length->its.getD i .none = .ref (ts.getD i 0):=fun i hi=>by
  have e:ts[i]? = some ts[i]:=List.getElem?_eq_getElem hi
  rw [List.getD_eq_getElem?_getD,List.getD_eq_getElem?_getD,z i _ e,e]
  rfl
 have w:∀ i,i<ts.length->ts.getD i 0∈ts:=fun i hi=>by
  rw [List.getD_eq_getElem?_getD,List.getElem?_eq_getElem hi]
  exact jp hi
 refine zmu (vs:=its) (ky:=fun i=>fa (ts.getD i 0)) (kb:=fun i=>fb (ts.getD i 0)) pl.isList (fun i hi=>?_) (fun i j hi hj e=>?_) (by omega) fun P h1 h2 h3=>?_
 ·rw [f] at hi
  rw [m i hi]
  obtain ⟨us,y,⟨o,ho,hc,k,hd⟩,_⟩:=I.tuple (SqT.of (ht _ (w i hi)))
  cases y with
  | cons a b =>
   cases b with
   | cons c d =>
    cases d
    obtain ⟨t1,rfl⟩:=a
    obtain ⟨t2,rfl⟩:=c
    exact ⟨_,o,k,t1,t2,rfl,ho,hc,hd⟩
 ·rw [f] at hi hj
  have a:(ts.map fa)[i]? = some (fa (ts.getD i 0)):=by rw [List.getElem?_map,List.getD_eq_getElem?_getD,List.getElem?_eq_getElem hi]; rfl
  have b:(ts.map fa)[j]? = some (fa (ts.getD j 0)):=by rw [List.getElem?_map,List.getD_eq_getElem?_getD,List.getElem?_eq_getElem hj]; rfl
  have e:fa (ts.getD i 0)=fa (ts.getD j 0):=e
  rw [<- e] at b
  obtain ⟨h1,e1⟩:=List.getElem?_eq_some_iff.mp a
  obtain ⟨h2,e2⟩:=List.getElem?_eq_some_iff.mp b
  exact (jo hn).mp (e1.trans e2.symm)
 ·rw [f] at h1 h2 h3
  have hp:P.toList.Perm (js ts.length):=Array.perm_iff_toList_perm.mp h2
  have v:(P.toList.map fun i=>its.getD i .none)=(P.toList.map fun i=>ts.getD i 0).map Value.ref:=by
   rw [j8]
   refine i5 fun i hi=>?_
   exact m i (l9.mp (hp.subset hi))
  have g:(P.toList.map fun i=>ts.getD i 0).Perm ts:=by
   have e:(js ts.length).map (fun i=>ts.getD i 0)=ts:=by
    refine lq (by simp) fun i h1 h2=>?_
    simp [List.getD_eq_getElem?_getD,h2]
   have:=hp.map fun i=>ts.getD i 0
   rw [e] at this
   exact this
  have n:(P.toList.map fun i=>ts.getD i 0).Pairwise (fun a b=>fa a<fa b):=by
   rw [jj,List.pairwise_iff_getElem]
   intro i j hi hj aa
   have hl:P.toList.length=ts.length:=by rw [ie,h3]
   have:=h1 i j aa (by omega)
   unfold kAt at this
   rw [zea,zea] at this
   have e1:P[i]? = some P.toList[i]:=by rw [<- Array.getElem?_toList,List.getElem?_eq_getElem hi]
   have e2:P[j]? = some P.toList[j]:=by rw [<- Array.getElem?_toList,List.getElem?_eq_getElem hj]
   rw [e1,e2] at this
   exact this
  obtain ⟨e,he⟩:=sortedAll_at s.heap its (jc (P.toList.map fun i=>its.getD i .none))
  rw [v] at he |-
  refine ⟨.ref (s.heap.objs.size+1),_,I.laid (a:=s.heap.objs.size+1) (o:= .lst ((P.toList.map fun i=>ts.getD i 0).map V.ref)) (t':=s.toks) (fun b o e=>sortedAll_old e) (j3 _) ?_,rfl,q _ _ (I.hok.fresh (j3 _)) g n⟩
  refine ⟨by rw [fj,g.length_eq]; exact gm (gx hl) (by decide),_,e,zmo _,he⟩
end
end L2
namespace NN
theorem zo5:∀ (a b:Nat),(a ^^^ b)+2 * (a &&& b)=a+b:=by
 intro a
 induction a using Nat.strongRecOn with
 | ind a ih =>
  intro b
  by_cases h:a=0
  ·subst h; simp
  ·have i:=ih (a / 2) (by omega) (b / 2)
   have x1:=Nat.xor_div_two (a:=a) (b:=b)
   have x2:=Nat.and_div_two (a:=a) (b:=b)
   have y1:=Nat.xor_mod_two_eq_one (a:=a) (b:=b)
   have y2:=Nat.and_mod_two_eq_one (a:=a) (b:=b)
   omega
theorem zzw (a b:Nat):a ^^^ b=2 * (a / 2 ^^^ b / 2)+(if a % 2=b % 2 then 0 else 1):=by
 have x1:=Nat.xor_div_two (a:=a) (b:=b)
 have y1:=Nat.xor_mod_two_eq_one (a:=a) (b:=b)
 split <;> omega
theorem zj1 (a b:Nat):a ^^^ b=0↔a=b:=by
 constructor
 ·intro h
  have:(a ^^^ b) ^^^ b=0 ^^^ b:=by rw [h]
  rw [Nat.xor_assoc,mf,Nat.xor_zero,Nat.zero_xor] at this
  exact this
 ·rintro rfl; exact mf _
theorem zh_ (a b:Nat):a ^^^ (a ^^^ b)=b:=by
 rw [<- Nat.xor_assoc,mf,Nat.zero_xor]
end NN
namespace NN
def zeq (a b:Nat):Nat->Option Nat
 | 0=>none
 | i+1=>if a / 2 ^ i % 2=b / 2 ^ i % 2 then zeq a b i else some i
theorem zv9 {m k:Nat}(hm:m≠0):m.log2=k↔m / 2 ^ k=1:=by
 constructor
 ·intro h
  subst h
  have h1:=Nat.log2_self_le hm
  have h2:=@Nat.lt_log2_self m
  rw [mn] at h2
  have hp:0<2 ^ m.log2:=mz (by decide)
  refine (Nat.div_eq_iff hp).mpr ?_
  omega
 ·intro h
  have hp:0<2 ^ k:=mz (by decide)
  have h':=(Nat.div_eq_iff hp).mp h
  refine (Nat.log2_eq_iff hm).mpr ⟨by omega,?_⟩
  rw [mn]
  omega
theorem zzy (a b k:Nat):(a ^^^ b) / 2 ^ k=a / 2 ^ k ^^^ b / 2 ^ k:=Nat.xor_div_two_pow
theorem zk2 {a b:Nat}:a ^^^ b=1↔b=a ^^^ 1:=by
 constructor
 ·intro h
  have:a ^^^ (a ^^^ b)=a ^^^ 1:=by rw [h]
  rw [zh_] at this
  exact this
 ·rintro rfl
  exact zh_ a 1
theorem zre (a:Nat):a ^^^ 1≠a:=by
 intro h
 have:=(zk2 (a:=a) (b:=a)).mpr h.symm
 rw [mf] at this
 cases this
theorem zwe {a b k:Nat}(h:a≠b):(a ^^^ b).log2=k↔b / 2 ^ k=a / 2 ^ k ^^^ 1:=by
 have hm:a ^^^ b≠0:=fun z=>h ((zj1 a b).mp z)
 rw [zv9 hm,zzy,zk2]
theorem zyy {a b k:Nat}(h:b / 2 ^ k=a / 2 ^ k ^^^ 1):a≠b:=fun e=>by
 subst e
 exact zre _ h.symm
theorem zd1 (a i:Nat):a / 2 ^ (i+1)=a / 2 ^ i / 2:=by
 rw [mn,Nat.div_div_eq_div_mul]
theorem znj {a b:Nat}:∀ (w:Nat),a / 2 ^ w=b / 2 ^ w->zeq a b w=none->a=b
 | 0,h,_=>by simpa using h
 | i+1,h,e=>by
  unfold zeq at e
  split at e
  ·rename_i hb
   rw [zd1,zd1] at h
   exact znj i (by omega) e
  ·cases e
theorem zjn {a b:Nat}:∀ (w k:Nat),a / 2 ^ w=b / 2 ^ w->zeq a b w=some k->k<w/\b / 2 ^ k=a / 2 ^ k ^^^ 1
 | 0,k,_,e=>by cases e
 | i+1,k,h,e=>by
  unfold zeq at e
  rw [zd1,zd1] at h
  split at e
  ·rename_i hb
   have:=zjn i k (by omega) e
   exact ⟨by omega,this.2⟩
  ·rename_i hb
   cases e
   refine ⟨by omega,?_⟩
   have x:=zzw (a / 2 ^ i) 1
   simp at x
   split at x <;> omega
theorem zx4 {a b w:Nat}(ha:a<2 ^ w)(hb:b<2 ^ w):zeq a b w=if a=b then none else some (a ^^^ b).log2:=by
 have h:a / 2 ^ w=b / 2 ^ w:=by rw [jv ha,jv hb]
 cases e:zeq a b w with
 | none=>rw [if_pos (znj w h e)]
 | some k =>
  have q:=(zjn w k h e).2
  have ne:=zyy q
  rw [if_neg ne,(zwe ne).mpr q]
theorem log2_lt {a b w:Nat}(ha:a<2 ^ w)(hb:b<2 ^ w)(h:a≠b):(a ^^^ b).log2<w:=by
 have e:=zx4 ha hb
 rw [if_neg h] at e
 exact (zjn w _ (by rw [jv ha,jv hb]) e).1
end NN
set_option maxHeartbeats 4000000
open PySem L2
theorem eI1 {A:Type}{p q:A->Prop}(a:A)(y:p a)(z:q a):∃ a,p a/\q a:=⟨a,y,z⟩
theorem eI2 {A B:Type}{p q:A->B->Prop}(a:A)(b:B)(y:p a b)(z:q a b):∃ a b,p a b/\q a b:=⟨a,b,y,z⟩
theorem eI3 {A B C:Type}{p q:A->B->C->Prop}(a:A)(b:B)(c:C)(y:p a b c)(z:q a b c):∃ a b c,p a b c/\q a b c:=⟨a,b,c,y,z⟩
theorem eI4 {A B C D:Type}{p q:A->B->C->D->Prop}(a:A)(b:B)(c:C)(d:D)(y:p a b c d)(z:q a b c d):∃ a b c d,p a b c d/\q a b c d:=⟨a,b,c,d,y,z⟩
theorem eI5 {A B C D E:Type}{p q:A->B->C->D->E->Prop}(a:A)(b:B)(c:C)(d:D)(e:E)(y:p a b c d e)(z:q a b c d e):∃ a b c d e,p a b c d e/\q a b c d e:=⟨a,b,c,d,e,y,z⟩
theorem eI6 {A B C D E F:Type}{p q:A->B->C->D->E->F->Prop}(a:A)(b:B)(c:C)(d:D)(e:E)(f:F)(y:p a b c d e f)(z:q a b c d e f):∃ a b c d e f,p a b c d e f/\q a b c d e f:=⟨a,b,c,d,e,f,y,z⟩
theorem eI7 {A B C D E F G:Type}{p q:A->B->C->D->E->F->G->Prop}(a:A)(b:B)(c:C)(d:D)(e:E)(f:F)(g:G)(y:p a b c d e f g)(z:q a b c d e f g):∃ a b c d e f g,p a b c d e f g/\q a b c d e f g:=⟨a,b,c,d,e,f,g,y,z⟩
theorem eI8 {A B C D E F G H:Type}{p q:A->B->C->D->E->F->G->H->Prop}(a:A)(b:B)(c:C)(d:D)(e:E)(f:F)(g:G)(h:H)(y:p a b c d e f g h)(z:q a b c d e f g h):∃ a b c d e f g h,p a b c d e f g h/\q a b c d e f g h:=⟨a,b,c,d,e,f,g,h,y,z⟩
local macro_rules | `(tactic| walk_at "ne") => `(tactic| first | assumption | (apply Ne.symm; assumption) | (intro z; subst z; simp_all; done) | grind [upd, zau])
local macro_rules | `(tactic| walk_at "hp") => `(tactic| first | assumption | exact zac | (refine (zab ?_).trans ?_; (focus (walk_at "ne")); walk_at "hp"))
local macro_rules | `(tactic| walk_at "fld") => `(tactic| fail)
local macro_rules | `(tactic| walk_at "ty") => `(tactic| first | exact zk9.int _ | exact zk9.bl _ | exact zk9.str _ | exact zk9.non | exact zk9.lst (by walk_at "hp") | exact zk9.tup (by walk_at "hp") | exact kit_int_int _ | exact kit_int_bool _ | exact kit_bool_bool _ | exact kit_bool_int _ | exact kit_list_list _ | exact kit_tuple_tuple _ | exact kit_str_str _ | exact kit_str_int _ | exact kit_none_int _ | exact kit_none_str _ | exact kit_int_str _ | exact kit_bool_str _ | exact kit_list_str _ | exact kit_list_int _ | exact kit_tuple_str _ | exact kit_tuple_int _ | exact kit_dict_str _ | exact kit_dict_int _)
local macro_rules | `(tactic| walk_at "ar") => `(tactic| (try dsimp only); first | decide | omega | (refine ⟨?_, ?_⟩ <;> first | decide | omega) | (refine ⟨?_, ?_, ?_⟩ <;> first | decide | omega) | (refine Or.inl ⟨?_, ?_⟩ <;> first | decide | omega) | (refine Or.inr ⟨?_, ?_⟩ <;> first | decide | omega))
local macro_rules | `(tactic| walk_at "c") => `(tactic| first | exact rfl | assumption | (walk_at "hp") | exact SqL.of (by walk_at "hp") | exact Or.inl (SqL.of (by walk_at "hp")) | exact Or.inl (by assumption) | exact SqT.of (by walk_at "hp") | exact Or.inr (SqT.of (by walk_at "hp")) | exact Or.inl ⟨rfl, _, SqL.of (by walk_at "hp")⟩ | exact ⟨_, SqL.of (by walk_at "hp")⟩ | (walk_at "fld") | (walk_at "ty") | exact zu9 _ _ | exact j0 rfl | (walk_at "ar"))
local macro_rules | `(tactic| walk_at "e") => `(tactic| first | (apply And.intro; focus (walk_at "c"; done)) | (apply eI1; focus (walk_at "c"; done)) | (apply eI2; focus (walk_at "c"; done)) | (apply eI3; focus (walk_at "c"; done)) | (apply eI4; focus (walk_at "c"; done)) | (apply eI5; focus (walk_at "c"; done)) | (apply eI6; focus (walk_at "c"; done)) | (apply eI7; focus (walk_at "c"; done)) | (apply eI8; focus (walk_at "c"; done)) | (apply Exists.intro; walk_at "e") | assumption | (refine fun (C : Prop) f => ?_; apply f <;> try (focus (walk_at "c"; done))))
local macro_rules | `(tactic| kt_k) => `(tactic| (repeat (walk_at "e")); (first | (with_reducible refine z2q ?_; kt_k) | (with_reducible refine z23 ?_; kt_k) | skip))
local macro_rules | `(tactic| kd_p) => `(tactic| (intro _ _ _ _ h; first | (refine h _ ?_; intros; subst_vars; rfl) | (repeat (first | (obtain ⟨e, _⟩ := h; subst e; rfl) | (obtain ⟨_, h⟩ := h)))))
namespace NN
def top (i:Nat):Stmt:=PySem.Challenge.pw_nearnames_k51_laid_at_the_nearest.main.body.getD i (.Pass ⟨0,0,0,0⟩)
theorem fS{N P:List Str}{s:Scope}(a:s.kind=.function:=by rfl)(b:s.isCoroutine=false:=by rfl)(c:s.isGenerator=false:=by rfl)(d:N.Nodup:=by decide +kernel)(e:N.take P.length=P:=by rfl)(f:∀ x∈P,s.names.lookup x=some .local\/s.names.lookup x=some .cell:=by decide +kernel)(g:∀ y∈s.names,y.2≠ .free:=by decide +kernel):zal N P s:=⟨a,b,c,d,e,f,g⟩
structure Txt (mg:Str->Option Value):Prop where
 n_len:mg "len" = none
 n_abs:mg "abs" = none
 n_isinstance:mg "isinstance" = none
 n_int:mg "int" = none
 n_bool:mg "bool" = none
 n_str:mg "str" = none
 n_list:mg "list" = none
 n_range:mg "range" = none
 n_min:mg "min" = none
 n_sorted:mg "sorted" = none
 n_sum:mg "sum" = none
 n_enumerate:mg "enumerate" = none
 n_set:mg "set" = none
 n_max:mg "max" = none
 n_all:mg "all" = none
 n_tuple:mg "tuple" = none
structure ZZ (P:Program)(w:World)(K:W.Frag)(mg:Str->Option Value)(base:Heap) where
 ba:DfC K mg "Bucket" ["room","order"]
 bb:DfC K mg "Table" ["own","wide","room","buckets"]
 bc:DfC K mg "Market" ["wide","room","tables","silent","things","layings"]
 bd:DfC K mg "Town" []
 be:DfM K ba.C "__init__" "Bucket.__init__" (zaf (top 20) 0) ["self","room"]
 bf:DfM K ba.C "names" "Bucket.names" (zaf (top 20) 4) ["self"]
 bg:DfM K ba.C "hears_when_full" "Bucket.hears_when_full" (zaf (top 20) 2) ["self","name","answers"]
 bh:DfM K ba.C "hears" "Bucket.hears" (zaf (top 20) 1) ["self","name","answers"]
 bi:Df K mg "far" (top 11) ["one","other"]
 bj:Df K mg "step" (top 13) ["one","other"]
 bk:DfF K mg "by_nearness" (top 12) ["goal","names"]
 bl:DfM K bb.C "__init__" "Table.__init__" (zaf (top 22) 0) ["self","own","wide","room"]
 bm:DfM K bb.C "bucket_of" "Table.bucket_of" (zaf (top 22) 3) ["self","name"]
 bn:DfM K bb.C "hears" "Table.hears" (zaf (top 22) 1) ["self","name","answers"]
 bo:DfM K bb.C "keeps" "Table.keeps" (zaf (top 22) 5) ["self"]
 bp:Df K mg "is_whole" (top 9) ["thing"]
 bq:Df K mg "is_name" (top 10) ["thing","wide"]
 br:DfM K bc.C "is_house" "Town.is_house" (zaf (top 25) 4) ["self","thing"]
 bs:DfM K bc.C "answers" "Town.answers" (zaf (top 25) 3) ["self","name"]
 bt:DfE K mg "NoHouse"
 bu:DfM K bc.C "check_house" "Town.check_house" (zaf (top 25) 16) ["self","thing"]
 bv:DfE K mg "NoName"
 bw:DfM K bc.C "check_name" "Town.check_name" (zaf (top 25) 15) ["self","thing"]
 bx:DfE K mg "Silent"
 bz:DfM K bc.C "check_answering" "Town.check_answering" (zaf (top 25) 17) ["self","thing"]
 b0:DfM K bc.C "houses" "Town.houses" (zaf (top 25) 1) ["self"]
 b1:Df K mg "is_size" (top 24) ["thing","most"]
 b2:DfE K mg "NoSize"
 b3:DfM K bd.C "__init__" "Town.__init__" (zaf (top 25) 0) ["self","wide","room"]
 b4:DfM K bc.C "__init__" "Market.__init__" (zaf (top 27) 0) ["self","wide","room"]
 b5:DfM K bc.C "answering" "Town.answering" (zaf (top 25) 2) ["self"]
 b6:zuh K bc.C "hears_of" "Town.hears_of" (zaf (top 25) 25) ["self","house","name"]
 b7:DfM K bc.C "meet" "Town.meet" (zaf (top 25) 24) ["self","one","other"]
 b8:DfM K bc.C "come_to" "Town.come_to" (zaf (top 25) 8) ["self","house"]
 b9:DfM K bc.C "visits" "Town.visits" (zaf (top 25) 23) ["self","house","door"]
 ca:DfE K mg "Taken"
 cb:DfM K bc.C "settles" "Market.settles" (zaf (top 27) 9) ["self","house","visited"]
 cc:zx7 K bc.C "come" "Town.come" (zaf (top 25) 11) ["self","name","door"] [Value.none]
 cd:DfM K bc.C "hush" "Town.hush" (zaf (top 25) 13) ["self","house"]
 ce:DfM K bc.C "leaves" "Market.leaves" (zaf (top 27) 10) ["self","house"]
 cf:DfM K bc.C "go" "Town.go" (zaf (top 25) 12) ["self","house"]
 cg:zx7 K bb.C "nearest" "Table.nearest" (zaf (top 22) 6) ["self","goal","many","but"] [Value.none]
 ch:DfM K bc.C "puts" "Market.puts" (zaf (top 27) 7) ["self","house","key","thing"]
 ci:zuh K bc.C "newest" "Market.newest" (zaf (top 27) 8) ["self","key","houses"]
 cj:DfM K bc.C "kept" "Market.kept" (zaf (top 27) 3) ["self","house"]
 ck:DfM K bc.C "tells" "Town.tells" (zaf (top 25) 7) ["self","house","goal","asker"]
 cl:Df K mg "note_told" (top 16) ["seen","start","house","told"]
 cm:Df K mg "standing" (top 17) ["seen","goal","room"]
 cn:Df K mg "first_unasked" (top 18) ["names","row"]
 co:Df K mg "asked" (top 15) ["start","goal","room","tells"]
 cp:DfM K ba.C "drops" "Bucket.drops" (zaf (top 20) 3) ["self","name"]
 cq:DfM K bb.C "drops" "Table.drops" (zaf (top 22) 2) ["self","name"]
 cr:DfM K bc.C "learns" "Town.learns" (zaf (top 25) 21) ["self","start","row"]
 cs:zuh K bc.C "teller" "Town.teller" (zaf (top 25) 18) ["self"]
 ct:DfM K bc.C "ask" "Town.ask" (zaf (top 25) 9) ["self","start","goal"]
 cu:DfM K bc.C "lays" "Market.lays" (zaf (top 27) 5) ["self","start","key","thing"]
 cv:DfM K bc.C "lay" "Market.lay" (zaf (top 27) 1) ["self","start","key","text"]
 cw:Df K mg "_law_nearest" (top 35) ["_law_key","_law_names","_law_many"]
 cx:Df K mg "_law_kept" (top 36) ["_law_market","_law_shelves"]
 cz:Df K mg "_law_text" (top 37) ["_law_x"]
 c0:Df K mg "_law_cell_at" (top 29) ["_law_script","_law_k"]
 c1:Df K mg "_law_mixed" (top 30) ["_law_cell","_law_k"]
 c2:Df K mg "_law_draw" (top 31) ["_law_cell","_law_k","_law_plain"]
 c3:Df K mg "_law_sizes" (top 32) ["_law_script"]
 c4:Df K mg "_law_name" (top 33) ["_law_x","_law_wide","_law_base"]
 c5:Df K mg "_law_come" (top 34) ["_law_town","_law_x","_law_base","_law_most"]
 c6:Df K mg "_law_both" (top 38) ["_law_one","_law_other","_law_word","_law_house","_law_key"]
 c7:Df K mg "_law_laid" (top 39) ["_law_one","_law_other","_law_shelves","_law_start","_law_key","_law_thing"]
 c8:Df K mg "_law_turn" (top 40) ["_law_one","_law_other","_law_shelves","_law_x","_law_base","_law_count"]
 c9:Df K mg "law" (top 41) ["_law_script"]
 da:Txt mg
 db:K.In base
 dc:base.BuiltinsAt mg bk.P
 dd:base.BuiltinsAt mg b6.P
 de:base.BuiltinsAt mg ci.P
 df:bk.P≠ci.P
 dg:base.BuiltinsAt mg cs.P
 dh:bk.P≠cs.P
 di:bk.P≠b6.P
 dj:cs.P≠b6.P
 dk:b6.P≠ci.P
 dl:cs.P≠ci.P
abbrev zj2 {P:Program}{w:World}{K:W.Frag}{mg:Str->Option Value}{base:Heap}(_:ZZ P w K mg base)(n:Nat){x:Str}{st:Stmt}{ps:List Str}(D:Df K mg x st ps)(sp:Sp):Prop:=zdl P w K mg base CX0 n D.f D.fd ps sp
abbrev z2b {P:Program}{w:World}{K:W.Frag}{mg:Str->Option Value}{base:Heap}(_:ZZ P w K mg base)(n:Nat){x:Str}{st:Stmt}{ps:List Str}(D:DfF K mg x st ps)(sp:Sp):Prop:=zdl P w K mg base CX0 n D.f D.fd ps sp
abbrev zbu {P:Program}{w:World}{K:W.Frag}{mg:Str->Option Value}{base:Heap}(_:ZZ P w K mg base)(n:Nat){C:Addr}{m q:Str}{st:Stmt}{ps:List Str}(D:DfM K C m q st ps)(sp:Sp):Prop:=zdl P w K mg base CX0 n D.f D.fd ps sp
abbrev zw9 {P:Program}{w:World}{K:W.Frag}{mg:Str->Option Value}{base:Heap}(_:ZZ P w K mg base)(n:Nat){C:Addr}{m q:Str}{st:Stmt}{ps:List Str}(D:zuh K C m q st ps)(sp:Sp):Prop:=zdl P w K mg base CX0 n D.f D.fd ps sp
abbrev zw3 {P:Program}{w:World}{K:W.Frag}{mg:Str->Option Value}{base:Heap}(_:ZZ P w K mg base)(n:Nat){C:Addr}{m q:Str}{st:Stmt}{ps:List Str}{ds:List Value}(D:zx7 K C m q st ps ds)(sp:Sp):Prop:=zdl P w K mg base CX0 n D.f D.fd ps sp
def bF (r:Int)(l:Addr):List (Str × V):=[(("room" : Str),V.int r),(("order" : Str),V.ref l)]
theorem zz8 (r:Int)(l l':Addr):zct "order" (V.ref l') (bF r l)=bF r l':=by kernel_rfl
theorem z0r (r:Int)(l:Addr):zct "order" (V.ref l) (zct "room" (V.int r) [])=bF r l:=by kernel_rfl
structure zcv (C:Addr)(H:Hp)(p l:Addr)(r:Int)(ns:List Int):Prop where
 ob:∃ dx,H p=some (.ins C dx (bF r l))
 li:H l=some (.lst (ns.map V.int))
def zzm (C:Addr):Sp:=fun vs H Q _=>∃ (p dx:Addr) (r:Int),vs=[.ref p,.int r]/\H p=some (.ins C dx [])/\∀ (l:Addr) (H':Hp),H l=none->zcv C H' p l r []->zqx p H H'->Q .non H'
@[irreducible] def zp3 (K:W.Frag) (C:Addr) (R:Addr->FuncData->Prop) (spA:Addr->FuncData->Sp):Sp:=fun vs H Q _=>∃ (p l f:Addr) (r n x:Int) (ns:List Int) (fd:FuncData),vs=[.ref p,.int n,.ref f]/\zcv C H p l r (x :: ns)/\ns.length<=1000 /\
 FnV K H f fd/\R f fd/\spA f fd [.int x] H (fun v H1=>∃ b,v = .bl b/\zcv C H1 p l r (x :: ns)/\∀ (l':Addr) (H2:Hp),H1 l'=none->zcv C H2 p l' r (ns++[if b then x else n])->zqx p H1 H2->Q (.str (if b then "full" else "instead")) H2) E0
@[irreducible] def zls (K:W.Frag) (C:Addr) (R:Addr->FuncData->Prop) (spA:Addr->FuncData->Sp):Sp:=fun vs H Q E=>∃ (p l f:Addr) (r n:Int) (ns:List Int),vs=[.ref p,.int n,.ref f]/\zcv C H p l r ns/\ns.length<=1000/\1<=r /\
 (n∈ns->∀ H',zcv C H' p l r (ns.erase n++[n])->zqx l H H'->Q (.str "again") H') /\
 (n∉ns->(ns.length:Int)<r->∀ H',zcv C H' p l r (ns++[n])->zqx l H H'->Q (.str "new") H') /\
 (n∉ns->r<=(ns.length:Int)->zp3 K C R spA vs H Q E0)
def zy9 (C:Addr):Sp:=fun vs H Q _=>∃ (p l:Addr) (r n:Int) (ns:List Int),vs=[.ref p,.int n]/\zcv C H p l r ns /\
 ∀ H',zcv C H' p l r (ns.erase n)->zqx l H H'->Q (.bl (decide (n∈ns))) H'
def zwo (C:Addr):Sp:=fun vs H Q _=>∃ (p l:Addr) (r:Int) (ns:List Int),vs=[.ref p]/\zcv C H p l r ns /\
 ∀ (m:Addr) (H':Hp),H m=none->H' m=some (.lst (ns.map V.int))->zau H H'->Q (.ref m) H'

section
variable {P:Program} {w:World} {K:W.Frag} {mg:Str->Option Value} {base:Heap}
local macro_rules | `(tactic| walk_at "fld") => `(tactic| first | exact bF_room _ _ | exact bF_order _ _ | exact bF_full _ _ | exact bF_hears _ _ | exact bF_drops _ _ | exact bF_names _ _ | exact zel _)
theorem zgt:zal ["self","room"] ["self","room"] (zai (zaf (top 20) 0)):=fS
theorem zkg (Z:ZZ P w K mg base):zbu Z 1 Z.be (zzm Z.ba.C):=by
 have f:=Z.ba.cl
 obtain ⟨d,b,-⟩:=Z.ba.na
 refine Z.be.fn.ok zgt (by kd_p) (fun cdv A outer s H vs Q E hr h=>?_)
 obtain ⟨p,dx,r,rfl,hp,k⟩:=h
 refine ⟨_,(zad (zdt (pv 0) (pv 1) rfl)
  (zah (zdt (pv 0) (zcn zag) rfl))),?_⟩
 kt_k
 intro l hl
 have nl:l≠p:=(zae zac hl).symm
 have a:H l=none:=by rw [zab nl] at hl; exact hl
 kt_k
 show Q .non (upd (upd (upd H p (.ins _ dx (zct "room" (V.int r) []))) l (.lst [])) p (.ins _ dx (zct "order" (V.ref l) (zct "room" (V.int r) []))))
 rw [z0r]
 refine k l _ a ⟨⟨dx,zac⟩,?_⟩ fun c o e hc=>?_
 ·rw [zab nl,zac]
  rfl
 ·rw [zab hc,zab (zae e a),zab hc]
  exact e
theorem zje:zal ["self"] ["self"] (zai (zaf (top 20) 4)):=fS
theorem zi4 (Z:ZZ P w K mg base):zbu Z 1 Z.bf (zwo Z.ba.C):=by
 have c:=Z.ba.cl
 obtain ⟨b,a,-⟩:=Z.ba.na
 refine Z.bf.fn.ok zje (by kd_p) (fun cdv A outer s H vs Q E hr h=>?_)
 obtain ⟨p,l,r,ns,rfl,⟨⟨dx,hp⟩,hl⟩,k⟩:=h
 refine ⟨_,(zah (zas (zdu zhl rfl Z.da.n_list zjp (zaa (zav (pv 0) rfl) zag)))),?_⟩
 kt_k
 intro m hm
 exact k m _ hm zac (zau.new H hm)
def zup (spA:Addr->FuncData->Sp):Prop:=∀ f fd vs H (Q Q':VK) E,(∀ v H',Q v H'->Q' v H')->spA f fd vs H Q E->spA f fd vs H Q' E
theorem zcb:zal ["self","name","answers","first"] ["self","name","answers"] (zai (zaf (top 20) 2)):=fS
theorem zka {psA:List Str}{R:Addr->FuncData->Prop}{spA:Addr->FuncData->Sp}(GA:∀ f fd,R f fd->zdl P w K mg base CX0 5 f fd psA (spA f fd))(bA:∀ f fd,R f fd->zce K fd psA [])(mA:zup spA)(Z:ZZ P w K mg base):zbu Z 6 Z.bg (zp3 K Z.ba.C R spA):=by
 have ag:=Z.ba.cl
 obtain ⟨ad,ac,-⟩:=Z.ba.na
 refine Z.bg.fn.ok zcb (fun vs H Q E h=>?_) (fun cdv A outer s H vs Q E hr h=>?_) <;> unfold zp3 at h
 ·obtain ⟨p,l,f,r,n,x,ns,fd,rfl,_⟩:=h
  rfl
 ·obtain ⟨p,l,f,r,n,x,ns,fd,rfl,⟨⟨dx,hp⟩,hl⟩,u,af,hR,k⟩:=h
  refine ⟨_,(zad (zax (i:=3) zcb.nd rfl oL (zfw zey (zav (pv 0) rfl) zan (fun _ _=>rfl)))
   (zad (zbw (zcm (zpr (pv 2) GA bA hr.mm (zaa (pv 3) zag)))
    (zad (zdt (pv 0) (za0 zjo (zc3 zeb (zav (pv 0) rfl) (zdd zan) zfi) (zcn (zaa (pv 3) zag))) rfl)
    (zah (zas zbr)))
    zay)
   (zad (zdt (pv 0) (za0 zjo (zc3 zeb (zav (pv 0) rfl) (zdd zan) zfi) (zcn (zaa (pv 1) zag))) rfl)
   (zah (zas zbr))))),?_⟩
  have hsz:ns.length+1<=sizeLine:=gx (zar (by omega)) |> fun _=>gm (Nat.succ_le_succ u) (by decide)
  kt_k
  refine mA _ _ _ _ _ _ _ (fun v H1 q=>?_) k
  obtain ⟨b,rfl,⟨⟨z,a⟩,ae⟩,k2⟩:=q
  refine ⟨b,rfl,?_⟩
  have t:∀ (y:Int) (p1 p2 p3:Addr),H1 p1=none->upd H1 p1 (.lst (zj8 ((x :: ns).map V.int) (some 1) none)) p2=none ->
    upd (upd H1 p1 (.lst (zj8 ((x :: ns).map V.int) (some 1) none))) p2 (.lst [V.int y]) p3=none->y=(if b then x else n) ->
    Q (.str (if b then "full" else "instead")) (upd (upd (upd (upd H1 p1 (.lst (zj8 ((x :: ns).map V.int) (some 1) none))) p2 (.lst [V.int y])) p3 (.lst (zj8 ((x :: ns).map V.int) (some 1) none++[V.int y]))) p (.ins Z.ba.C z (zct "order" (V.ref p3) (bF r l)))):=fun y p1 p2 p3 h1 h2 h3 hy=>by
   have n2:p1≠p2:=zae zac h2
   have aa:H1 p2=none:=by rw [zab n2.symm] at h2; exact h2
   have n3:p2≠p3:=zae zac h3
   have n4:p1≠p3:=by rintro rfl; rw [zab n2,zac] at h3; cases h3
   have m:H1 p3=none:=by rw [zab n3.symm,zab n4.symm] at h3; exact h3
   have g:p≠p3:=zae a m
   refine k2 p3 _ m ⟨⟨z,?_⟩,?_⟩ fun c o e hc=>?_
   ·rw [zac,zz8]
   ·rw [zab g.symm,zac,z3j,hy]
    simp
   ·rw [zab hc,zab (zae e m),zab (zae e aa),zab (zae e h1)]
    exact e
  have ab:(zj8 ((x :: ns).map V.int) (some 1) none).length+1<=sizeLine:=by rw [z3j,fj]; exact hsz
  cases b with
  | true =>
   kt_k
   intro p1 h1
   kt_k
   intro p2 h2
   kt_k
   intro p3 h3
   have d:p≠p1:=zae a h1
   have j:p≠p2:=by rintro rfl; rw [zab d,a] at h2; cases h2
   have g:p≠p3:=by rintro rfl; rw [zab j,zab d,a] at h3; cases h3
   kt_k
   exact t x p1 p2 p3 h1 h2 h3 rfl
  | false =>
   kt_k
   intro p1 h1
   kt_k
   intro p2 h2
   kt_k
   intro p3 h3
   have d:p≠p1:=zae a h1
   have j:p≠p2:=by rintro rfl; rw [zab d,a] at h2; cases h2
   have g:p≠p3:=by rintro rfl; rw [zab j,zab d,a] at h3; cases h3
   kt_k
   exact t n p1 p2 p3 h1 h2 h3 rfl
theorem zij:zal ["self","name","answers"] ["self","name","answers"] (zai (zaf (top 20) 1)):=fS
theorem zix (Z:ZZ P w K mg base){psA:List Str}{R:Addr->FuncData->Prop}{spA:Addr->FuncData->Sp}(GA:∀ f fd,R f fd->zdl P w K mg base CX0 5 f fd psA (spA f fd))(bA:∀ f fd,R f fd->zce K fd psA [])(mA:zup spA):zbu Z 7 Z.bh (zls K Z.ba.C R spA):=by
 have m:=Z.ba.cl
 obtain ⟨i,g,-⟩:=Z.ba.na
 have b:=zka GA bA mA Z
 refine Z.bh.fn.ok zij (fun vs H Q E h=>?_) (fun cdv A outer s H vs Q E hr h=>?_) <;> unfold zls at h
 ·obtain ⟨p,l,f,r,n,ns,rfl,_⟩:=h
  rfl
 ·obtain ⟨p,l,f,r,n,ns,rfl,⟨⟨dx,hp⟩,hl⟩,d,q,kA,kN,kF⟩:=h
  have a:p≠l:=zck hp hl (by intro z; cases z)
  refine ⟨_,(zad (zbw (zaz zns (pv 1) (zav (pv 0) rfl) (by with_unfolding_all rfl))
    (zad (zat (zot i6 PySem.F.slot_list_remove PySem.F.type_list_remove zne (zav (pv 0) rfl) (zaa (pv 1) zag)))
    (zad (zat (zot i6 PySem.F.slot_list_append PySem.F.type_list_append ze8 (zav (pv 0) rfl) (zaa (pv 1) zag)))
    (zah (zas zbr))))
    zay)
   (zad (zbw (zaz zty (za2 zbz rfl Z.da.n_len zi_ (zaa (zav (pv 0) rfl) zag)) (zav (pv 0) rfl) (zbb _))
    (zad (zat (zot i6 PySem.F.slot_list_append PySem.F.type_list_append ze8 (zav (pv 0) rfl) (zaa (pv 1) zag)))
    (zah (zas zbr)))
    zay)
   (zah (zas (pmD (pv 0) Z.ba.cl Z.bg b hr (zaa (pv 1) (zaa (pv 2) zag))))))),?_⟩
  kt_k
  show if inV (V.int n) (ns.map V.int)=true then _ else _
  rw [zin]
  by_cases hn:n∈ns
  ·refine zpm hn ?_
   have j:=im hn
   have hsz:((ns.erase n).map V.int).length<sizeLine:=by rw [fj]; exact zar (by omega)
   kt_k
   refine kA hn _ ⟨⟨dx,by rw [zab a,zab a]; exact hp⟩,by rw [zac]; simp⟩ fun c o e hc=>by rw [zab hc,zab hc]; exact e
  ·refine zhh hn ?_
   kt_k
   show if decide (((ns.map V.int).length:Int)<r)=true then _ else _
   rw [fj]
   by_cases h2:(ns.length:Int)<r
   ·refine zpm h2 ?_
    have hsz:(ns.map V.int).length<sizeLine:=by rw [fj]; exact zar (by omega)
    kt_k
    exact kN hn h2 _ ⟨⟨dx,by rw [zab a]; exact hp⟩,by rw [zac]; simp⟩ fun c o e hc=>by rw [zab hc]; exact e
   ·refine zhh h2 ?_
    have hf:=kF hn (by omega)
    kt_k
local macro_rules | `(tactic| walk_at "fld") => `(tactic| first | exact bF_room _ _ | exact bF_order _ _ | exact bF_full _ _ | exact bF_hears _ _ | exact bF_drops _ _ | exact bF_names _ _ | exact zel _)
theorem bx {i j:Int}(hi:0<=i)(hj:0<=j):Builtin.bitXor i j=((i.toNat ^^^ j.toNat:Nat):Int):=by
 have e:=zo5 i.toNat j.toNat
 rw [PyProof.Rows.bitXor_and,PyProof.Rows.bitAnd_pp hi hj]
 omega
def z2i:Sp:=fun vs H Q _=>∃ i j:Int,vs=[.int i,.int j]/\Q (.int (Builtin.bitXor i j)) H
theorem zv0 (k:Nat):((2 ^ k:Nat):Int)=2 ^ k:=by simp
theorem zut {i j:Int}(hi:0<=i)(hj:0<=j)(h:i≠j):((Builtin.Int.intBits (Builtin.bitXor i j):Nat):Int) - 1=((i.toNat ^^^ j.toNat).log2:Nat):=by
 have hm:i.toNat ^^^ j.toNat≠0:=fun z=>h (by
  have:=(zj1 _ _).mp z
  omega)
 rw [bx hi hj]
 unfold Builtin.Int.intBits
 rw [if_neg (by simpa using hm),Int.natAbs_natCast]
 omega
def z1l:Sp:=fun vs H Q _=>∃ i j:Int,vs=[.int i,.int j]/\Q (.int ((Builtin.Int.intBits (Builtin.bitXor i j):Nat) - 1)) H
theorem z01:zal ["one","other"] ["one","other"] (zai (top 11)):=fS
theorem zxc (Z:ZZ P w K mg base):zj2 Z 1 Z.bi z2i:=by
 refine Z.bi.fn.ok z01 (by kd_p) (fun cdv A outer s H vs Q E hr h=>?_)
 obtain ⟨i,j,rfl,k⟩:=h
 refine ⟨_,(zah (zas (za0 zru (pv 0) (pv 1)))),?_⟩
 exact ⟨_,rfl,_,rfl,_,_,rfl,rfl,k⟩
theorem ziu (n:Nat):(0:Int)<2 ^ n:=by
 have h:=mz (n:=n) (show 0<2 by decide)
 have e:((2 ^ n:Nat):Int)=2 ^ n:=by simp
 omega
theorem zl8 {ns:List Int}{y:Int}{p:Int->Prop}(h:∀ x∈ns,p x)(hy:p y):∀ x∈ns++[y],p x:=fun x hx=>by
 rcases fq.mp hx with z | z
 ·exact h x z
 ·rw [fi.mp z]
  exact hy
theorem zze:zal ["one","other"] ["one","other"] (zai (top 13)):=fS
theorem zzg (Z:ZZ P w K mg base):zj2 Z 2 Z.bj z1l:=by
 have a:=zxc Z
 refine Z.bj.fn.ok zze (by kd_p) (fun cdv A outer s H vs Q E hr h=>?_)
 obtain ⟨i,j,rfl,k⟩:=h
 refine ⟨_,(zah (zas (za0 zww (znr (pfD Z.bi a hr rfl (zaa (pv 0) (zaa (pv 1) zag)))) zan))),?_⟩
 exact ⟨_,rfl,_,rfl,_,_,rfl,rfl,_,rfl,rfl,_,_,rfl,rfl,k⟩
theorem zpg {g a b:Int}(hg:0<=g)(ha:0<=a)(hb:0<=b)(h:Builtin.bitXor g a=Builtin.bitXor g b):a=b:=by
 rw [bx hg ha,bx hg hb] at h
 have e1:=zh_ g.toNat a.toNat
 have e2:=zh_ g.toNat b.toNat
 have e3:g.toNat ^^^ a.toNat=g.toNat ^^^ b.toNat:=by omega
 rw [e3] at e1
 omega
def zsn:Pos:=⟨0,0,0,0⟩
def z35 (st:Stmt):Expr:=match (zbd st).getD 0 (.Pass zsn) with | .Return (some (.Call _ _ (k :: _) _)) _=>k.value | _=> .Constant .none 0 zsn
def zde:Expr->Arguments | .Lambda a _ _ _=>a | _=>zb6 (.Pass zsn)
def zdh:Expr->Expr | .Lambda _ b _ _=>b | e=>e
def zb7:Expr->Scope | .Lambda _ _ s _=>s | _=>zai (.Pass zsn)
def zap:Expr->Pos | .Lambda _ _ _ p=>p | _=>zsn
def zc5:Expr:=z35 (top 12)
def quL:Str:=(("by_nearness" : Str) ++ ".<locals>.") ++ "<lambda>"
abbrev RL:Addr->FuncData->Prop:=RLm "<lambda>" quL (zde zc5) (zdh zc5) (zb7 zc5)
abbrev z4c (H:Hp)(f:Addr)(cv:List V)(fd:FuncData):Prop:=zvi H f "<lambda>" quL (zde zc5) (zdh zc5) (zb7 zc5) ["goal"] cv fd
def z1j (cv:List V):Sp:=fun vs H Q _=>∃ g n:Int,vs=[.int n]/\cv=[.int g]/\Q (.int (Builtin.bitXor g n)) H
def spL (f:Addr)(fd:FuncData):Sp:=fun vs H Q E=>∃ cv,cv.length=(["goal"]:List Str).length/\z4c H f cv fd/\z1j cv vs H Q E
def zcs (g:Int)(ns:List Int):List Int:=zio (Builtin.bitXor g) (zaq (zc7 ns))
def z37 (K:W.Frag)(T:Addr):Sp:=fun vs H Q _=>∃ (g:Int) (p:Addr) (ns:List Int),vs=[.int g,.ref p]/\SqL K H p (ns.map V.int)/\ns.length<64/\0<=g/\(∀ n∈ns,0<=n)/\Tab H T (zap zc5) quL /\
 ∀ (l:Addr) (H':Hp),(∀ b o,b≠T->H b=some o->H' b=some o)->Tab H' T (zap zc5) quL->H l=none->H' l=some (.lst ((zcs g ns).map V.int))->Q (.ref l) H'
theorem zx1 {f:Addr}{fd:FuncData}(h:RL f fd):zce K fd ["name"] []:=by
 obtain ⟨clos,pm,c',ct,rfl⟩:=h
 exact .all (us1 fun _=>rfl)
theorem z0e:zgp ["name","goal"] ["name"] ["goal"] (zb7 zc5):=⟨rfl,rfl,rfl,by decide +kernel,by decide +kernel,by decide +kernel,by decide +kernel,by decide +kernel,by decide +kernel,by decide +kernel⟩
theorem z04 (Z:ZZ P w K mg base){f:Addr}{fd:FuncData}:zdl P w K mg base CX0 2 f fd ["name"] (spL f fd):=by
 have a:=zxc Z
 refine zpe (name:= "<lambda>") (qual:=quL) (params:=zde zc5) (body:=zdh zc5) (sp:=z1j) z0e (fun cv vs H Q E h=>?_) (fun clos cdv A outer s H cv vs Q E hr c h=>?_)
 ·obtain ⟨g,n,rfl,_⟩:=h
  rfl
 ·obtain ⟨g,n,rfl,rfl,k⟩:=h
  refine ⟨_,(zhc a hr.mm rfl Z.bi.hm Z.bi.fn.kp Z.bi.b .nil zb5 (zaa (pv 1) (zaa (pv 0) zag))),?_⟩
  exact ⟨_,rfl,_,rfl,g,n,rfl,k⟩
theorem zj9:zal ["goal","names"] ["goal","names"] (zai (top 12)):=fS
theorem zwk (Z:ZZ P w K mg base):z2b Z 5 Z.bk (z37 K Z.bk.P):=by
 refine Z.bk.ok Z.db zj9 (fz:=["goal"]) (by decide +kernel) (by kd_p) (fun A outer s H vs Q E hr h H1 sm ac hC=>?_)
 obtain ⟨g,p,ns,rfl,hS,hl,hg,hn,hT,k⟩:=h
 have GL:∀ f fd,RL f fd->zdl P w K mg base CX0 2 f fd ["name"] (spL f fd):=fun f fd _=>z04 Z
 have bL:∀ f fd,RL f fd->zce K fd ["name"] []:=fun f fd h=>zx1 h
 refine ⟨_,(zah (zas (zwb rfl Z.da.n_sorted zby GL bL hr.mm (za2 (zho rfl) rfl Z.da.n_sorted zby (zaa (zdu (znm rfl) rfl Z.da.n_set zwv (zaa (pv 1) zag)) zag)) (zqa rfl hC Z.dc (zfj (by kernel_rfl)))))),?_⟩
 obtain ⟨c1,ab,v1⟩:=ac 0 "goal" (.int g) (by decide +kernel) rfl rfl
 have af:Tab H1 Z.bk.P (zap zc5) quL:=(sm.but Z.bk.P).2 _ _ hT
 have ag:=sm.seq hS
 refine ⟨_,rfl,p,ns,rfl,ag,by omega,fun l1 t=>?_⟩
 have ah:=zis ns
 refine ⟨l1,zc7 ns,rfl,zac,zeu ns,by omega,fun l2 aa=>?_⟩
 generalize j:upd (upd H1 l1 _) l2 _=H3
 have s3:zau H1 H3:=by
  rw [<- j]
  exact ((zau.refl H1).lay t).lay aa
 have r:H3 l2=some (.lst ((zaq (zc7 ns)).map V.int)):=by rw [<- j,zac]
 have d:Tab H3 Z.bk.P (zap zc5) quL:=(s3.but Z.bk.P).2 _ _ af
 have nP:∀ {b:Addr} {xs:List V},H3 b=some (.lst xs)->b≠Z.bk.P:=fun {b xs} e z=>by
  obtain ⟨ps,hP,_⟩:=d
  rw [z,hP] at e
  cases e
 dsimp only [zsi,zgk]
 refine zlj d fun f H' fo clos c' oc k1 k2 hb m hf ad sh ae cs=>?_
 have keep:∀ c v,zfx H3 c v->zfx H' c v:=fun c v hv=>hv.same fun o k e=>hb c _ (fun z=>by
  obtain ⟨ps,hP,_⟩:=d
  rw [z,hP] at e
  cases e) e
 obtain ⟨fd,hd,hR,hF⟩:=zli (qual:=quL) (params:=zde zc5) (body:=zdh zc5) (scope:=zb7 zc5) (fr:=["goal"]) (cv:=[.int g]) sh ad ae cs (fun i x v h1 h2=>by
  match i,h1,h2 with
  | 0,h1,h2 =>
   cases h1
   cases h2
   exact ⟨by decide +kernel,c1,ab,keep _ _ (v1.same fun o k e=>s3 _ _ e)⟩)
 have nn:∀ x∈zaq (zc7 ns),0<=x:=fun x hx=>hn x (zcl.mp ((zam _).subset hx))
 refine ⟨l2,f,fd,zaq (zc7 ns),Builtin.bitXor g,rfl,rfl,SqL.of (hb _ _ (nP r) r),by rw [zbh]; omega,fun x hx y hy e=>zpg hg (nn x hx) (nn y hy) e,hR,fun n _ Q' q=>⟨[.int g],rfl,hF,g,n,rfl,rfl,q⟩,fun l a=>?_⟩
 have s5:zau H' (upd H' l (.lst ((zio (Builtin.bitXor g) (zaq (zc7 ns))).map V.int))):=(zau.refl H').lay a
 refine k l _ (fun b o u e=>s5 _ _ (hb _ _ u (s3 _ _ (sm _ _ e)))) ((s5.but Z.bk.P).2 _ _ m) ?_ zac
 cases e:H l with
 | none=>rfl
 | some o =>
  by_cases z:l=Z.bk.P
  ·obtain ⟨ps,hP,_⟩:=m
   rw [z,hP] at a
   cases a
  ·rw [hb _ _ z (s3 _ _ (sm _ _ e))] at a
   cases a
theorem zfp (g:Int)(ns:List Int):(zcs g ns).Perm (zc7 ns):=(zej _ _).trans (zam _)
theorem zfb {g:Int}{ns:List Int}{x:Int}:x∈zcs g ns↔x∈ns:=(zfp g ns).mem_iff.trans zcl
theorem zsp (g:Int)(ns:List Int):(zcs g ns).length<=ns.length:=by
 rw [(zfp g ns).length_eq]
 exact zis ns
def Nx (T:Addr)(H H':Hp):Prop:=(∀ b o,b≠T->H b=some o->H' b=some o)/\Tab H' T (zap zc5) quL
theorem Nx.same {T:Addr}{H H1 H2:Hp}(a:Nx T H H1)(s:zau H1 H2):Nx T H H2:=⟨fun b o hb e=>s _ _ (a.1 b o hb e),(s.but T).2 _ _ a.2⟩
theorem Nx.trans {T:Addr}{H H1 H2:Hp}(a:Nx T H H1)(b:Nx T H1 H2):Nx T H H2:=⟨fun c o hc e=>b.1 c o hc (a.1 c o hc e),b.2⟩
theorem Nx.of {T:Addr}{H H1:Hp}(t:Tab H T (zap zc5) quL)(s:zau H H1):Nx T H H1:=⟨fun b o _ e=>s _ _ e,(s.but T).2 _ _ t⟩
theorem Nx.free {T b:Addr}{H H1:Hp}(a:Nx T H H1)(e:H1 b=none):H b=none:=by
 cases q:H b with
 | none=>rfl
 | some o =>
  by_cases z:b=T
  ·obtain ⟨ps,hP,_⟩:=a.2
   rw [z,hP] at e
   cases e
  ·rw [a.1 b o z q] at e
   cases e
def zri {α:Type}(f:Nat->α)(i:Nat)(x:α):Nat->α:=fun j=>if j=i then x else f j
theorem za4 {α:Type}{f:Nat->α}{i:Nat}{x:α}:zri f i x i=x:=if_pos rfl
theorem za8 {α:Type}{f:Nat->α}{i j:Nat}{x:α}(h:j≠i):zri f i x j=f j:=if_neg h
abbrev zpi (n:Nat)(f:Nat->Addr):List V:=(js n).map fun k=>V.ref (f k)
theorem zmb {n:Nat}{f:Nat->Addr}:(zpi n f).length=n:=by simp
theorem zpn {n:Nat}{f:Nat->Addr}{i:Nat}(h:i<n):(zpi n f)[i]? = some (V.ref (f i)):=by
 unfold zpi
 rw [List.getElem?_map,List.getElem?_range h]
 rfl
theorem zyu {n:Nat}{f:Nat->Addr}{i:Nat}{v:V}(h:(zpi n f)[i]? = some v):i<n/\v=V.ref (f i):=by
 obtain ⟨h1,_⟩:=List.getElem?_eq_some_iff.mp h
 rw [zmb] at h1
 rw [zpn h1] at h
 exact ⟨h1,(Option.some.inj h).symm⟩
theorem zxq {n:Nat}{f:Nat->Addr}{i:Int}(h0:0<=i)(h:i.toNat<n):atI (zpi n f) i=some (V.ref (f i.toNat)):=by
 have e:((i.toNat:Nat):Int)=i:=by omega
 have z:=zlo (xs:=zpi n f) (j:=i.toNat) (v:=V.ref (f i.toNat)) (zpn h)
 rwa [e] at z
theorem ztk {n:Nat}{f:Nat->Addr}{b:Addr}:zpi n f++[V.ref b]=zpi (n+1) (zri f n b):=by
 unfold zpi
 rw [List.range_succ,gy]
 congr 1
 ·refine i5 fun k hk=>?_
  rw [za8 (gl (l9.mp hk))]
 ·simp [za4]
def zfa (ns:Nat->List Int)(k:Nat):List Int:=((js k).map ns).flatten
theorem zff {ns:Nat->List Int}{k:Nat}:zfa ns (k+1)=zfa ns k++ns k:=by
 unfold zfa
 rw [List.range_succ]
 simp
theorem zsr {ns:Nat->List Int}:∀ {j k:Nat},j<=k->(zfa ns j).length<=(zfa ns k).length
 | j,0,h=>by
  have:j=0:=by omega
  subst this
  exact gf _
 | j,k+1,h=>by
  by_cases e:j=k+1
  ·subst e
   exact gf _
  ·have:=zsr (ns:=ns) (j:=j) (k:=k) (by omega)
   rw [zff,fm]
   omega
def tF (own z r:Int)(l:Addr):List (Str × V):=[(("own" : Str),V.int own),(("wide" : Str),V.int z),(("room" : Str),V.int r),(("buckets" : Str),V.ref l)]
theorem z1c (o z r:Int)(l:Addr):zct "buckets" (V.ref l) (zct "room" (V.int r) (zct "wide" (V.int z) (zct "own" (V.int o) [])))=tF o z r l:=by kernel_rfl
structure zc_ (CB CT:Addr)(H:Hp)(t bl:Addr)(own z r:Int)(n:Nat)(bA lA:Nat->Addr)(ns:Nat->List Int):Prop where
 ob:∃ dx,H t=some (.ins CT dx (tF own z r bl))
 li:H bl=some (.lst (zpi n bA))
 bk:∀ k,k<n->zcv CB H (bA k) (lA k) r (ns k)
 bi:∀ i j,i<n->j<n->i≠j->bA i≠bA j
 lj:∀ i j,i<n->j<n->i≠j->lA i≠lA j
 nl:∀ k,k<n->lA k≠bl
structure z33 (n:Nat)(bl:Addr)(lA:Nat->Addr)(x:Addr):Prop where
 b:x≠bl
 l:∀ j,j<n->x≠lA j
section
variable {CB CT t bl:Addr} {own z r:Int} {n:Nat} {bA lA:Nat->Addr} {ns:Nat->List Int} {H H':Hp}
theorem zc_.keep (T:zc_ CB CT H t bl own z r n bA lA ns)(s:∀ q o,(∀ ps,o≠ .tbl ps)->H q=some o->H' q=some o):zc_ CB CT H' t bl own z r n bA lA ns:=by
 obtain ⟨⟨dx,h1⟩,h2,h3,h4,h5,h6⟩:=T
 refine ⟨⟨dx,s _ _ (fun _ z=>nomatch z) h1⟩,s _ _ (fun _ z=>nomatch z) h2,fun k hk=>?_,h4,h5,h6⟩
 obtain ⟨⟨dx,b1⟩,b2⟩:=h3 k hk
 exact ⟨⟨dx,s _ _ (fun _ z=>nomatch z) b1⟩,s _ _ (fun _ z=>nomatch z) b2⟩
theorem zc_.same (T:zc_ CB CT H t bl own z r n bA lA ns)(s:zau H H'):zc_ CB CT H' t bl own z r n bA lA ns:=T.keep fun q o _ e=>s q o e
theorem zc_.bne (T:zc_ CB CT H t bl own z r n bA lA ns){k:Nat}(hk:k<n):bA k≠t:=fun e=>by
 obtain ⟨dx,h1⟩:=T.ob
 obtain ⟨dy,h2⟩:=(T.bk k hk).ob
 rw [e,h1] at h2
 have:=Option.some.inj h2
 injection this with _ _ h3
 exact absurd (congrArg kj h3) (by simp [tF,bF])
theorem zc_.turn (T:zc_ CB CT H t bl own z r n bA lA ns){k:Nat}(hk:k<n){l':Addr}{xs:List Int}(P:Addr->Prop)(hB:zcv CB H' (bA k) l' r xs)(hl:l'=lA k\/H l'=none)
  (fr:∀ q o,(∀ ps,o≠ .tbl ps)->H q=some o->q≠bA k->q≠lA k->¬ P q->H' q=some o)(hP:∀ q,P q->z33 n bl lA q/\∃ ys,H q=some (.lst ys)):zc_ CB CT H' t bl own z r n bA (zri lA k l') (zri ns k xs):=by
 have nP:∀ q C dx fs,H q=some (.ins C dx fs)->¬ P q:=fun q C dx fs e hp=>by
  obtain ⟨_,ys,e2⟩:=hP q hp
  rw [e] at e2
  cases e2
 obtain ⟨dx,h1⟩:=T.ob
 obtain ⟨⟨dk,c⟩,d⟩:=T.bk k hk
 refine ⟨⟨dx,fr _ _ (fun _ z=>nomatch z) h1 (T.bne hk).symm (fun e=>by rw [e,d] at h1; cases h1) (nP _ _ _ _ h1)⟩,?_,fun j hj=>?_,T.bi,fun i j hi hj a=>?_,fun j hj=>?_⟩
 ·exact fr _ _ (fun _ z=>nomatch z) T.li (fun e=>by have:=T.li; rw [e,c] at this; cases this) (T.nl k hk).symm (fun hp=>(hP _ hp).1.b rfl)
 ·by_cases e:j=k
  ·subst e
   rw [za4,za4]
   exact hB
  ·rw [za8 e,za8 e]
   obtain ⟨⟨dj,j1⟩,j2⟩:=T.bk j hj
   refine ⟨⟨dj,fr _ _ (fun _ z=>nomatch z) j1 (T.bi j k hj hk e) (fun z=>by rw [z,d] at j1; cases j1) (nP _ _ _ _ j1)⟩,fr _ _ (fun _ z=>nomatch z) j2 (fun z=>by rw [z,c] at j2; cases j2) (T.lj j k hj hk e) (fun hp=>(hP _ hp).1.l j hj rfl)⟩
 ·have new:∀ m,m<n->m≠k->l'≠lA m:=fun m hm e=>by
   rcases hl with z | z
   ·rw [z]
    exact T.lj k m hk hm e.symm
   ·intro y
    rw [y,(T.bk m hm).li] at z
    cases z
  by_cases e1:i=k
  ·subst e1
   rw [za4,za8 a.symm]
   exact new j hj a.symm
  ·by_cases e2:j=k
   ·subst e2
    rw [za4,za8 e1]
    exact (new i hi e1).symm
   ·rw [za8 e1,za8 e2]
    exact T.lj i j hi hj a
 ·by_cases e:j=k
  ·subst e
   rw [za4]
   rcases hl with z | z
   ·rw [z]
    exact T.nl j hj
   ·intro y
    rw [y,T.li] at z
    cases z
  ·rw [za8 e]
   exact T.nl j hj
end
local macro_rules | `(tactic| walk_at "fld") => `(tactic| first | exact tF_own _ _ _ _ | exact tF_wide _ _ _ _ | exact tF_room _ _ _ _ | exact tF_buckets _ _ _ _ | exact tF_n1 _ _ _ _ | exact tF_n2 _ _ _ _ | exact tF_n3 _ _ _ _ | exact tF_n4 _ _ _ _ | exact tF_n5 _ _ _ _ | exact tF_n6 _ _ _ _)
def zbj (a b:Int):Nat:=(a.toNat ^^^ b.toNat).log2
theorem zg1 {a b:Int}{n:Nat}(ha:0<=a)(hb:0<=b)(h1:a<2 ^ n)(h2:b<2 ^ n)(h:a≠b):zbj a b<n:=by
 have e:=zv0 n
 exact log2_lt (by omega) (by omega) (by omega)
def zzq (CB CT:Addr):Sp:=fun vs H Q _=>∀ CC:Prop,(∀ (t dx:Addr) (own z r:Int),vs=[.ref t,.int own,.int z,.int r]->H t=some (.ins CT dx [])->0<=z->z<=60->(∀ (bl:Addr) (bA lA:Nat->Addr) (H':Hp),zc_ CB CT H' t bl own z r z.toNat bA lA (fun _=>[])->H bl=none->(∀ k,k<z.toNat->H (bA k)=none/\H (lA k)=none)->zqx t H H'->Q .non H')->CC)->CC
def z1u (CB CT:Addr):Sp:=fun vs H Q _=>∀ CC:Prop,(∀ (t bl:Addr) (own z r m:Int) (n:Nat) (bA lA:Nat->Addr) (ns:Nat->List Int),vs=[.ref t,.int m]->zc_ CB CT H t bl own z r n bA lA ns->own≠m->0<=own->0<=m->own<2 ^ n->m<2 ^ n->(Q (.ref (bA (zbj own m))) H)->CC)->CC
def zvq (K:W.Frag)(CB CT:Addr)(R:Addr->FuncData->Prop)(spA:Addr->FuncData->Sp):Sp:=fun vs H Q _=>∃ (t bl f:Addr) (own z r m:Int) (n:Nat) (bA lA:Nat->Addr) (ns:Nat->List Int),vs=[.ref t,.int m,.ref f]/\zc_ CB CT H t bl own z r n bA lA ns /\
 0<=own/\0<=m/\own<2 ^ n/\m<2 ^ n/\(own=m->Q (.str "own") H)/\(own≠m->zls K CB R spA [.ref (bA (zbj own m)),.int m,.ref f] H Q E0)
def zwc (CB CT:Addr):Sp:=fun vs H Q _=>∀ CC:Prop,(∀ (t bl:Addr) (own z r m:Int) (n:Nat) (bA lA:Nat->Addr) (ns:Nat->List Int),vs=[.ref t,.int m]->zc_ CB CT H t bl own z r n bA lA ns->0<=own->0<=m->own<2 ^ n->m<2 ^ n->((own=m->Q (.bl false) H)/\(own≠m->∀ H',zcv CB H' (bA (zbj own m)) (lA (zbj own m)) r ((ns (zbj own m)).erase m)->zqx (lA (zbj own m)) H H'->Q (.bl (decide (m∈ns (zbj own m)))) H'))->CC)->CC
def zwr (CB CT:Addr):Sp:=fun vs H Q _=>∀ CC:Prop,(∀ (t bl:Addr) (own z r:Int) (n:Nat) (bA lA:Nat->Addr) (ns:Nat->List Int),vs=[.ref t]->zc_ CB CT H t bl own z r n bA lA ns->(zfa ns n).length<64->(∀ (m:Addr) (H':Hp),H m=none->H' m=some (.lst ((zaq (zfa ns n)).map V.int))->zau H H'->Q (.ref m) H')->CC)->CC
theorem zg_:zal ["self","own","wide","room"] ["self","own","wide","room"] (zai (zaf (top 22) 0)):=fS
theorem zlq (Z:ZZ P w K mg base):zbu Z 3 Z.bl (zzq Z.ba.C Z.bb.C):=by
 have a1:=Z.bb.cl
 obtain ⟨aq,az,aw,ar,-⟩:=Z.bb.na
 have al:=zkg Z
 refine Z.bl.fn.ok zg_ (by kd_p) (fun cdv A outer s H vs Q E hr an=>?_)
 refine an _ fun t dx own z r ak ht hz ax k=>?_
 subst ak
 refine ⟨_,(zad (zdt (pv 0) (pv 1) rfl)
  (zad (zdt (pv 0) (pv 2) rfl)
  (zad (zdt (pv 0) (pv 3) rfl)
  (zah (zdt (pv 0) (zg6 rfl (zbe (own:=["k"]) (caps:=[3]) (N':=["k","room"]) (by kernel_rfl)) (ztr rfl Z.da.n_range (zaa (pv 2) zag)) (fun _ _ _ _ _=>(zaw (i:=0) (show (["k","room"]:List Str).Nodup by decide +kernel) rfl oL)) (fun _ _ _ _ _=>zik) (fun _ _ _ _ _=>(zld (DfM.mk' Z.ba Z.be) al hr.mm rfl Z.ba.hm Z.be.b .nil zb5 (zaa (pv 1) zag)))) rfl))))),?_⟩
 kt_k
 generalize x:upd (upd (upd H t _) t _) t _=H3
 have ab:H3 t=some (.ins Z.bb.C dx (zct "room" (V.int r) (zct "wide" (V.int z) (zct "own" (V.int own) [])))):=by rw [<- x]; exact zac
 have ag:∀ c,c≠t->H3 c=H c:=fun c hc=>by rw [<- x,zab hc,zab hc,zab hc]
 clear x
 intro D hD
 have aj:D≠t:=(zae ab hD).symm
 refine zqj (lo:=0) (n:=z.toNat) (fun i σ H2=>zg3 (∃ (bA lA:Nat->Addr) (v0:Option V),σ=[v0,some (.int r)]/\H2 D=some (.lst (zpi i bA))/\(∀ k,k<i->zcv Z.ba.C H2 (bA k) (lA k) r [])/\(∀ k,k<i->H3 (bA k)=none/\H3 (lA k)=none/\lA k≠D) /\
   (∀ i' j',i'<i->j'<i->i'≠j'->bA i'≠bA j'/\lA i'≠lA j')/\zau H3 H2)) ⟨⟨fun _=>0,fun _=>0,none,rfl,zac,fun _ h=>absurd h (by omega),fun _ h=>absurd h (by omega),fun _ _ h=>absurd h (by omega),zau.new H3 hD⟩⟩ ?_ ?_
 ·rintro i σ H2 hi ⟨bA,lA,v0,rfl,d,u,f,p,s2⟩
  kt_k
  intro b ad hb ai a0
  have a:∀ {q:Addr} {o:HO},H2 q=some o->q≠b/\q≠ad:=fun e=>⟨zae e hb,zae e ai⟩
  refine ⟨b,ad,r,rfl,zac,fun l H5 hl B5 af=>⟨rfl,zpi i bA,?_,by rw [zmb]; exact zar (by omega),?_⟩⟩
  ·exact af _ _ (by rw [zab (a d).1,zab (a d).2]; exact d) (a d).1
  have s5:zau H2 H5:=fun q o e=>af _ _ (by rw [zab (a e).1,zab (a e).2]; exact e) (a e).1
  have y:H2 l=none:=by
   cases q:H2 l with
   | none=>rfl
   | some o=>rw [zab (a q).1,zab (a q).2,q] at hl; cases hl
  have ac:l≠D:=(zae d y).symm
  have ap:b≠D:=(zae d hb).symm
  obtain ⟨⟨ae,am⟩,ao⟩:=B5
  refine ⟨⟨zri bA i b,zri lA i l,_,rfl,by rw [zac,ztk],fun k hk=>?_,fun k hk=>?_,fun i' j' a2 ay g=>?_,(s2.trans s5).put hD⟩⟩
  ·by_cases e:k=i
   ·rw [e,za4,za4]
    exact ⟨⟨ae,by rw [zab ap]; exact am⟩,by rw [zab ac]; exact ao⟩
   ·rw [za8 e,za8 e]
    obtain ⟨⟨v,b1⟩,b2⟩:=u k (by omega)
    have ah:bA k≠D:=zck b1 d (by intro z; cases z)
    exact ⟨⟨v,by rw [zab ah]; exact s5 _ _ b1⟩,by rw [zab (f k (by omega)).2.2]; exact s5 _ _ b2⟩
  ·by_cases e:k=i
   ·rw [e,za4,za4]
    exact ⟨s2.free hb,s2.free y,ac⟩
   ·rw [za8 e,za8 e]
    exact f k (by omega)
  ·have nb:∀ m,m<i->b≠bA m/\l≠lA m:=fun m hm=>by
    obtain ⟨⟨au,b1⟩,b2⟩:=u m hm
    exact ⟨(zae b1 hb).symm,(zae b2 y).symm⟩
   by_cases e1:i'=i
   ·subst e1
    rw [za4,za4,za8 g.symm,za8 g.symm]
    exact nb j' (by omega)
   ·by_cases e2:j'=i
    ·subst e2
     rw [za4,za4,za8 e1,za8 e1]
     have:=nb i' (by omega)
     exact ⟨this.1.symm,this.2.symm⟩
    ·rw [za8 e1,za8 e1,za8 e2,za8 e2]
     exact p i' j' (by omega) (by omega) g
 ·rintro σ H2 ⟨bA,lA,v0,rfl,d,u,f,p,s2⟩
  have av:=s2 _ _ ab
  kt_k
  show Q .non (upd H2 t (.ins Z.bb.C dx (zct "buckets" (V.ref D) (zct "room" (V.int r) (zct "wide" (V.int z) (zct "own" (V.int own) []))))))
  rw [z1c]
  have n3:∀ {q:Addr},H3 q=none->q≠t:=fun h=>(zae ab h).symm
  have aa:∀ {q:Addr},H3 q=none->H q=none:=fun h=>by rw [<- ag _ (n3 h)]; exact h
  refine k D bA lA _ ⟨⟨dx,zac⟩,by rw [zab aj]; exact d,fun k hk=>?_,fun i j hi hj h=>(p i j hi hj h).1,fun i j hi hj h=>(p i j hi hj h).2,fun k hk=>(f k hk).2.2⟩ (aa hD) (fun k hk=>⟨aa (f k hk).1,aa (f k hk).2.1⟩) fun c o e hc=>?_
  ·obtain ⟨⟨v,b1⟩,b2⟩:=u k hk
   exact ⟨⟨v,by rw [zab (n3 (f k hk).1)]; exact b1⟩,by rw [zab (n3 (f k hk).2.1)]; exact b2⟩
  ·rw [zab hc]
   exact s2 _ _ (by rw [ag _ hc]; exact e)
theorem zgq:zal ["self","name"] ["self","name"] (zai (zaf (top 22) 3)):=fS
theorem zhr (Z:ZZ P w K mg base){CB:Addr}:zbu Z 3 Z.bm (z1u CB Z.bb.C):=by
 have o:=Z.bb.cl
 obtain ⟨h,g,l,j,-⟩:=Z.bb.na
 have f:=zzg Z
 refine Z.bm.fn.ok zgq (by kd_p) (fun cdv A outer s H vs Q E hr d=>?_)
 refine d _ fun t bl own z r m n bA lA ns b hT a h1 h2 h3 h4 k=>?_
 subst b
 obtain ⟨⟨dx,p⟩,q,-⟩:=id hT
 refine ⟨_,(zah (zas (zfw zey (zav (pv 0) rfl) (pfD Z.bj f hr rfl (zaa (zav (pv 0) rfl) (zaa (pv 1) zag))) (fun _ _=>rfl)))),?_⟩
 have e:=zut h1 h2 a
 have c:=zg1 h1 h2 h3 h4 a
 have i:atI (zpi n bA) (((Builtin.Int.intBits (Builtin.bitXor own m):Nat):Int) - 1)=some (V.ref (bA (zbj own m))):=by
  rw [e]
  exact zxq (by omega) (by rw [ix]; exact c)
 kt_k
theorem zkk:zal ["self","name","answers"] ["self","name","answers"] (zai (zaf (top 22) 1)):=fS
theorem zkj (Z:ZZ P w K mg base){psA:List Str}{R:Addr->FuncData->Prop}{spA:Addr->FuncData->Sp}(GA:∀ f fd,R f fd->zdl P w K mg base CX0 5 f fd psA (spA f fd))(bA':∀ f fd,R f fd->zce K fd psA [])(mA:zup spA):zbu Z 8 Z.bn (zvq K Z.ba.C Z.bb.C R spA):=by
 have v:=Z.bb.cl
 obtain ⟨l,j,q,p,-⟩:=Z.bb.na
 have i:=zhr (CB:=Z.ba.C) Z
 have d:=zix Z GA bA' mA
 refine Z.bn.fn.ok zkk (by kd_p) (fun cdv A outer s H vs Q E hr h=>?_)
 obtain ⟨t,bl,f,own,z,r,m,n,bA,lA,ns,rfl,hT,h1,h2,h3,h4,k1,k2⟩:=h
 obtain ⟨⟨dx,x⟩,y,g,-⟩:=id hT
 refine ⟨_,(zad (zbw (zaz zmc (pv 1) (zav (pv 0) rfl) (zbb _))
   (zah (zas zbr))
   zay)
  (zah (zas (pmD (pmD (pv 0) Z.bb.cl Z.bm i hr (zaa (pv 1) zag)) Z.ba.cl Z.bh d hr (zaa (pv 1) (zaa (pv 2) zag)))))),?_⟩
 kt_k
 by_cases b:m=own
 ·subst b
  refine zpm rfl ?_
  exact k1 rfl
 ·have a:own≠m:=fun e=>b e.symm
  refine zhh (fun e=>b (by injection e)) ?_
  have c:=zg1 h1 h2 h3 h4 a
  obtain ⟨⟨dk,u⟩,o⟩:=g _ c
  have hf:=k2 a
  kt_k
theorem zd_:zal ["self","names","bucket"] ["self"] (zai (zaf (top 22) 5)):=fS
theorem zf1 (Z:ZZ P w K mg base):zbu Z 2 Z.bo (zwr Z.ba.C Z.bb.C):=by
 have aj:=Z.bb.cl
 obtain ⟨ae,ad,ah,af,-⟩:=Z.bb.na
 have q:=zi4 Z
 refine Z.bo.fn.ok zd_ (by kd_p) (fun cdv A outer s H vs Q E hr h=>?_)
 refine h _ fun t bl own z r n bA lA ns g hT x k=>?_
 subst g
 obtain ⟨⟨dx,u⟩,f,o,-⟩:=id hT
 refine ⟨_,(zad (zax (i:=1) zd_.nd rfl oL (zcn zag))
  (zad (zdf PassesOwn.never rfl (zbf (zav (pv 0) rfl)) (zaw (i:=2) zd_.nd rfl oL)
   (zah (zat (zot i6 PySem.F.slot_list_extend PySem.F.type_list_extend zt8 (pv 1) (zaa (zcd (pv 2) Z.ba.cl Z.bf.me q hr.mm Z.bf.b .nil zb5) zag)))))
  (zah (zas (za2 zow rfl Z.da.n_sorted zby (zaa (pv 1) zag)))))),?_⟩
 kt_k
 intro p hp
 have s0:zau H (upd H p (.lst [])):=zau.new H hp
 have ac:=s0 _ _ u
 have aa:=s0 _ _ f
 kt_k
 refine zbs (K:=K) (a:=bl) (xs:=zpi n bA) (fun i σ H2=>zg3 (∃ v:Option V,σ=[some (.ref t),some (.ref p),v]/\zau H H2/\H2 p=some (.lst ((zfa ns i).map V.int))))
  ⟨⟨none,rfl,s0,zac⟩⟩ (fun i σ H2 _ ⟨_,_,s2,_⟩=>SqL.of (s2 _ _ f)) ?_ ?_
 ·rintro i y σ H2 hi ⟨v,rfl,s2,c⟩
  obtain ⟨d,rfl⟩:=zyu hi
  obtain ⟨⟨dk,e⟩,l⟩:=o _ d
  have hB:zcv Z.ba.C H2 (bA i) (lA i) r (ns i):=⟨⟨dk,s2 _ _ e⟩,s2 _ _ l⟩
  have ab:=s2 _ _ e
  kt_k
  intro m H3 hm ai s3
  have ag:=s3 _ _ c
  have hsz:((zfa ns i).map V.int).length+((ns i).map V.int).length<=sizeLine:=by
   have e1:=zsr (ns:=ns) (j:=i+1) (k:=n) d
   rw [zff,fm] at e1
   rw [fj,fj]
   exact gx (zar (by omega))
  kt_k
  refine ⟨⟨_,rfl,(s2.trans s3).put hp,?_⟩⟩
  rw [zac,zff,gy]
 ·rintro σ H2 ⟨v,rfl,s2,c⟩
  rw [zmb] at c
  kt_k
  intro m hm
  exact k m _ (s2.free hm) zac (s2.put (s2.free hm))
theorem zo9:zal ["thing"] ["thing"] (zai (top 9)):=fS
def zgj (K:W.Frag)(H:Hp)(v:V):Prop:=(∃ b,v = .bl b)\/∃ t,zk9 K H v t/\nr K t (.type "int")=some false
def zv7 (K:W.Frag):Sp:=fun vs H Q _=>∃ v,vs=[v]/\((∃ i,v = .int i)/\Q (.bl true) H\/zgj K H v/\Q (.bl false) H)
theorem zii (Z:ZZ P w K mg base):zj2 Z 1 Z.bp (zv7 K):=by
 refine Z.bp.fn.ok zo9 (by kd_p) (fun cdv A outer s H vs Q E hr h=>?_)
 obtain ⟨v,rfl,h⟩:=h
 refine ⟨_,(zah (zas (zky (za2 zes rfl Z.da.n_isinstance zbl (zaa (pv 0) (zaa (zn7 rfl Z.da.n_int zw_) zag))) (zm8 (z0f (za2 zes rfl Z.da.n_isinstance zbl (zaa (pv 0) (zaa (zn7 rfl Z.da.n_bool zon) zag)))))))),?_⟩
 rcases h with ⟨⟨i,rfl⟩,k⟩ | ⟨⟨b,rfl⟩ | ⟨t,ht,hk⟩,k⟩
 ·kt_k
 ·kt_k
 ·kt_k
theorem zqo:zal ["thing","wide"] ["thing","wide"] (zai (top 10)):=fS
def zwa (K:W.Frag):Sp:=fun vs H Q _=>∃ (v:V) (z:Int),vs=[v,.int z]/\((∃ i,v = .int i/\Q (.bl (decide (0<=i) && decide (((Builtin.Int.intBits i:Nat):Int)<=z))) H)\/zgj K H v/\Q (.bl false) H)
theorem zlb (Z:ZZ P w K mg base):zj2 Z 2 Z.bq (zwa K):=by
 have a:=zii Z
 refine Z.bq.fn.ok zqo (by kd_p) (fun cdv A outer s H vs Q E hr h=>?_)
 obtain ⟨v,z,rfl,h⟩:=h
 refine ⟨_,(zah (zas (zky (pfD Z.bp a hr rfl (zaa (pv 0) zag)) (zky (zl7 z2h (pv 0) zan (zbb _)) (zm8 (zl7 zyi (znr (pv 0)) (pv 1) (zbb _))))))),?_⟩
 rcases h with ⟨i,rfl,k⟩ | ⟨hw,k⟩
 ·refine ⟨_,rfl,_,rfl,.inl ⟨⟨i,rfl⟩,?_⟩⟩
  kt_k
  by_cases hi:0<=i
  ·refine zpm hi ?_
   rw [decide_eq_true hi,Bool.true_and] at k
   kt_k
  ·refine zhh hi ?_
   rw [decide_eq_false hi,Bool.false_and] at k
   exact k
 ·refine ⟨_,rfl,_,rfl,.inr ⟨hw,?_⟩⟩
  kt_k
def z1o (sp:Sp):Prop:=∀ vs H Q Q' E,(∀ v H,Q v H->Q' v H)->sp vs H Q E->sp vs H Q' E
structure Th where
 a:Addr
 n:Int
 s:Str
def inD (l:List (Int × Th)):List (Key × V):=l.map fun e=>(Sum.inl e.1,V.ref e.2.a)
def thD (ks:List Int)(ad:Int->Addr):List (Key × V):=ks.map fun k=>(Sum.inl k,V.ref (ad k))
def zb8 (l:List (Int × Th))(h:Int):Option Th:=(l.find? fun e=>decide (e.1=h)).map (·.2)
def zf3 (l:List (Int × Th))(h:Int)(t:Th):List (Int × Th):=if (zb8 l h).isSome then l.map (fun e=>if e.1=h then (h,t) else e) else l++[(h,t)]
def zia (l:List (Int × Th))(h:Int):List (Int × Th):=l.filter fun e=> !decide (e.1=h)
theorem ziv {l:List (Int × Th)}{h:Int}:zdy (inD l) (Sum.inl h)=(zb8 l h).map fun t=>V.ref t.a:=by
 unfold zdy inD zb8
 rw [List.find?_map]
 have e:((fun kv:Key × V=>decide (kv.1=Sum.inl h)) ∘ fun e:Int × Th=>((Sum.inl e.1:Key),V.ref e.2.a))=fun e=>decide (e.1=h):=by
  funext e
  show decide ((Sum.inl e.1:Key)=Sum.inl h)=decide (e.1=h)
  exact decide_eq_decide.mpr ⟨fun z=>by injection z,fun z=>by rw [z]⟩
 rw [e]
 cases l.find? fun e=>decide (e.1=h) <;> rfl
theorem zo4 {l:List (Int × Th)}{h:Int}{t:Th}:zd3 (inD l) (Sum.inl h) (V.ref t.a)=inD (zf3 l h t):=by
 unfold zd3 zf3
 rw [zfu,ziv]
 cases e:zb8 l h with
 | none =>
  simp only [Option.map_none,Option.isSome_none,je,if_false]
  unfold inD
  rw [gy]
  rfl
 | some u =>
  simp only [l8,lv,if_true]
  unfold inD
  rw [j8,j8]
  refine i5 fun x _=>?_
  show (if (Sum.inl x.1:Key)=Sum.inl h then ((Sum.inl x.1:Key),V.ref t.a) else ((Sum.inl x.1:Key),V.ref x.2.a))=(Sum.inl (if x.1=h then (h,t) else x).1,V.ref (if x.1=h then (h,t) else x).2.a)
  by_cases z:x.1=h
  ·rw [if_pos (by rw [z]),if_pos z,z]
  ·rw [if_neg (fun y=>z (by injection y)),if_neg z]
theorem zvy {l:List (Int × Th)}{h:Int}:zcw (inD l) (Sum.inl h)=inD (zia l h):=by
 unfold zcw inD zia
 rw [kx]
 congr 1
 refine jw fun x _=>?_
 show decide ((Sum.inl x.1:Key)≠Sum.inl h) = !decide (x.1=h)
 by_cases e:x.1=h
 ·rw [e]
  simp
 ·rw [decide_eq_false e]
  simp [e]
theorem zdp {ks:List Int}{ad:Int->Addr}{k:Int}:zdy (thD ks ad) (Sum.inl k)=if k∈ks then some (V.ref (ad k)) else none:=by
 induction ks with
 | nil=>rfl
 | cons h t ih =>
  by_cases e:h=k
  ·subst e
   rw [if_pos (gb ..)]
   exact ze1 rfl
  ·have z:zdy (thD (h :: t) ad) (Sum.inl k)=zdy (thD t ad) (Sum.inl k):=zd5 (by simpa using e)
   rw [z,ih]
   by_cases m:k∈t
   ·rw [if_pos m,if_pos (fk _ m)]
   ·rw [if_neg m,if_neg (by simp [m,Ne.symm e])]
theorem zie {ks:List Int}{ad:Int->Addr}:(thD ks ad).map (·.1)=ks.map Sum.inl:=by
 unfold thD
 rw [j8]
 rfl
theorem zpa {l:List (Int × Th)}{h g:Int}{t:Th}:zb8 (zf3 l h t) g=if g=h then some t else zb8 l g:=by
 unfold zf3
 by_cases e:(zb8 l h).isSome=true
 ·rw [if_pos e]
  unfold zb8 at e |-
  induction l with
  | nil=>simp at e
  | cons x r ih =>
   rw [gz,List.find?_cons,List.find?_cons]
   by_cases z:x.1=h
   ·rw [if_pos z]
    by_cases y:g=h
    ·rw [if_pos y]
     simp [y]
    ·rw [if_neg y]
     have n1:decide (h=g)=false:=decide_eq_false (Ne.symm y)
     have n2:decide (x.1=g)=false:=decide_eq_false (fun w=>y (w.symm.trans z))
     simp only [n1,n2]
     clear ih e
     induction r with
     | nil=>rfl
     | cons u r ih =>
      rw [gz,List.find?_cons,List.find?_cons]
      by_cases z':u.1=h
      ·rw [if_pos z']
       have n3:decide (u.1=g)=false:=decide_eq_false (fun w=>y (w.symm.trans z'))
       simp only [n1,n3]
       exact ih
      ·rw [if_neg z']
       cases decide (u.1=g) with
       | true=>rfl
       | false=>exact ih
   ·rw [if_neg z]
    have e':(map (fun x:Int × Th=>x.2) (find? (fun e=>decide (e.1=h)) r)).isSome=true:=by
     rw [List.find?_cons,decide_eq_false z] at e
     exact e
    have:=ih e'
    by_cases y:g=h
    ·rw [if_pos y] at this |-
     have n1:decide (x.1=g)=false:=decide_eq_false (fun w=>z (w.trans y))
     simp only [n1]
     exact this
    ·rw [if_neg y] at this |-
     cases decide (x.1=g) with
     | true=>rfl
     | false=>exact this
 ·rw [if_neg e]
  have e:zb8 l h=none:=by
   cases q:zb8 l h with
   | none=>rfl
   | some u=>rw [q] at e; exact absurd rfl e
  unfold zb8 at e |-
  rw [List.find?_append]
  by_cases y:g=h
  ·subst y
   rw [if_pos rfl]
   rw [ir] at e
   rw [e]
   simp
  ·rw [if_neg y]
   cases q:find? (fun e=>decide (e.1=g)) l with
   | some u=>rfl
   | none=>simp [Ne.symm y]
theorem zuy {l:List (Int × Th)}{h g:Int}:zb8 (zia l h) g=if g=h then none else zb8 l g:=by
 unfold zb8 zia
 rw [List.find?_filter]
 by_cases y:g=h
 ·rw [if_pos y,ir,List.find?_eq_none]
  intro x _
  by_cases z:x.1=g
  ·simp [z,y]
  ·simp [z]
 ·rw [if_neg y]
  congr 2
  funext x
  by_cases z:x.1=g
  ·simp [z,y]
  ·simp [z]
theorem zex {l:List (Int × Th)}{h:Int}{t:Th}(e:zb8 l h=some t):(h,t)∈l:=by
 unfold zb8 at e
 obtain ⟨x,h1,h2⟩:=jx.mp e
 have a:=List.mem_of_find?_eq_some h1
 have b:=List.find?_some h1
 obtain ⟨x1,x2⟩:=x
 have b:x1=h:=by simpa using b
 subst b
 subst h2
 exact a
theorem zfk {l:List (Int × Th)}{h:Int}{t:Th}{e:Int × Th}(m:e∈zf3 l h t):e∈l\/e=(h,t):=by
 unfold zf3 at m
 split at m
 ·obtain ⟨x,hx,rfl⟩:=j7.mp m
  by_cases z:x.1=h
  ·rw [if_pos z]
   exact .inr rfl
  ·rw [if_neg z]
   exact .inl hx
 ·exact (fq.mp m).elim .inl fun y=> .inr (fi.mp y)
theorem zqe {l:List (Int × Th)}{h:Int}{t:Th}:(zf3 l h t).length<=l.length+1:=by
 unfold zf3
 split
 ·rw [fj]
  omega
 ·rw [fm,fu]
  omega
structure zb_ (H:Hp)(gd:Addr)(ks:List Int)(ad:Int->Addr)(G:Int->List (Int × Th)):Prop where
 tg:H gd=some (.dK (thD ks ad))
 it:∀ k∈ks,H (ad k)=some (.dK (inD (G k)))
 tu:∀ k∈ks,∀ e∈G k,H e.2.a=some (.tup [.int k,.int e.2.n,.str e.2.s])
 nk:ks.Nodup
 ni:∀ k∈ks,∀ k'∈ks,ad k=ad k'->k=k'
 ne:∀ k∈ks,ad k≠gd
 go:∀ k,k∉ks->G k=[]
theorem zb_.keep {H H':Hp}{gd:Addr}{ks:List Int}{ad:Int->Addr}{G:Int->List (Int × Th)}(M:zb_ H gd ks ad G)(s:∀ q o,(q=gd\/(∃ k∈ks,q=ad k)\/∃ xs,o = .tup xs)->H q=some o->H' q=some o):zb_ H' gd ks ad G :=
 ⟨s _ _ (.inl rfl) M.tg,fun k hk=>s _ _ (.inr (.inl ⟨k,hk,rfl⟩)) (M.it k hk),fun k hk e he=>s _ _ (.inr (.inr ⟨_,rfl⟩)) (M.tu k hk e he),M.nk,M.ni,M.ne,M.go⟩
theorem zb_.same {H H':Hp}{gd:Addr}{ks:List Int}{ad:Int->Addr}{G:Int->List (Int × Th)}(M:zb_ H gd ks ad G)(s:zau H H'):zb_ H' gd ks ad G:=M.keep fun q o _ e=>s _ _ e
def wF (z r:Int)(td sd:Addr)(d:Addr × Addr × Int):List (Str × V):=[(("wide" : Str),V.int z),(("room" : Str),V.int r),(("tables" : Str),V.ref td),(("silent" : Str),V.ref sd),(("things" : Str),V.ref d.2.1),(("layings" : Str),V.int d.2.2)]
theorem zz_ (z r:Int)(a b:Addr)(d:Addr × Addr × Int)(n:Int):zct "layings" (V.int n) (wF z r a b d)=wF z r a b (d.1,d.2.1,n):=by kernel_rfl
theorem z1w (z r:Int)(a b x g:Addr):zct "layings" (V.int 0) (zct "things" (V.ref g) (zct "silent" (V.ref b) (zct "tables" (V.ref a) (zct "room" (V.int r) (zct "wide" (V.int z) [])))))=wF z r a b (x,g,0):=by kernel_rfl
theorem z2f (m:Str)(h:m∉(["wide","room","tables","silent","things","layings"]:List Str))(z r:Int)(a b:Addr)(d:Addr × Addr × Int):(wF z r a b d).lookup m=none:=by
 simp only [gs,jq,or_false,not_or] at h
 obtain ⟨h1,h2,h3,h4,h5,h6⟩:=h
 have e1:(m == "wide")=false:=beq_eq_false_iff_ne.mpr h1
 have e2:(m == "room")=false:=beq_eq_false_iff_ne.mpr h2
 have e3:(m == "tables")=false:=beq_eq_false_iff_ne.mpr h3
 have e4:(m == "silent")=false:=beq_eq_false_iff_ne.mpr h4
 have e5:(m == "things")=false:=beq_eq_false_iff_ne.mpr h5
 have e6:(m == "layings")=false:=beq_eq_false_iff_ne.mpr h6
 unfold wF
 simp only [List.lookup,e1,e2,e3,e4,e5,e6]
structure zbk where
 t:Addr
 bl:Addr
 bA:Nat->Addr
 lA:Nat->Addr
 ns:Nat->List Int
def zcj (hs:List Int)(T:Int->zbk):List (Key × V):=hs.map fun h=>(Sum.inl h,V.ref (T h).t)
def zfh (sil:List Int):List (Key × V):=sil.map fun h=>(Sum.inl h,V.bl true)
structure zak (CB CT CW:Addr)(H:Hp)(w td sd:Addr)(z r:Int)(hs sil:List Int)(T:Int->zbk):Prop where
 ob:∃ dx:Addr × Addr × Int,H w=some (.ins CW dx.1 (wF z r td sd dx))
 tb:H td=some (.dK (zcj hs T))
 si:H sd=some (.dK (zfh sil))
 ta:∀ h∈hs,zc_ CB CT H (T h).t (T h).bl h z r z.toNat (T h).bA (T h).lA (T h).ns
 nd:hs.Nodup
 hb:∀ h∈hs,0<=h/\h<2 ^ z.toNat
 z1:1<=z
 z2:z<=60
 r1:1<=r
 r2:r<=8
 ln:hs.length<=60
 ts:td≠sd
theorem zak.keep {CB CT CW:Addr}{H H':Hp}{w td sd:Addr}{z r:Int}{hs sil:List Int}{T:Int->zbk}(W:zak CB CT CW H w td sd z r hs sil T)(s:∀ q o,(∀ ps,o≠ .tbl ps)->H q=some o->H' q=some o):zak CB CT CW H' w td sd z r hs sil T:=by
 obtain ⟨⟨dx,h1⟩,h2,h3,h4,h5,h6,h7,h8,h9,c,a,b⟩:=W
 exact ⟨⟨dx,s _ _ (fun _ z=>nomatch z) h1⟩,s _ _ (fun _ z=>nomatch z) h2,s _ _ (fun _ z=>nomatch z) h3,fun h hh=>(h4 h hh).keep s,h5,h6,h7,h8,h9,c,a,b⟩
theorem zdm {hs:List Int}{T:Int->zbk}{i:Int}:zdy (zcj hs T) (Sum.inl i)=if i∈hs then some (V.ref (T i).t) else none:=by
 induction hs with
 | nil=>rfl
 | cons h t ih =>
  by_cases e:h=i
  ·subst e
   rw [if_pos (gb ..)]
   exact ze1 rfl
  ·have z:zdy (zcj (h :: t) T) (Sum.inl i)=zdy (zcj t T) (Sum.inl i):=zd5 (by simpa using e)
   rw [z,ih]
   by_cases m:i∈t
   ·rw [if_pos m,if_pos (fk _ m)]
   ·rw [if_neg m,if_neg (by simp [m,Ne.symm e])]
theorem zge {sil:List Int}{i:Int}:(zdy (zfh sil) (Sum.inl i)).isSome=decide (i∈sil):=by
 induction sil with
 | nil=>rfl
 | cons h t ih =>
  by_cases e:h=i
  ·subst e
   have z:zdy (zfh (h :: t)) (Sum.inl h)=some (V.bl true):=ze1 rfl
   rw [z]
   simp
  ·have z:zdy (zfh (h :: t)) (Sum.inl i)=zdy (zfh t) (Sum.inl i):=zd5 (by simpa using e)
   rw [z,ih]
   simp [Ne.symm e]
theorem zzi {i z:Int}(hi:0<=i)(hz:0<=z):decide (((Builtin.Int.intBits i:Nat):Int)<=z)=decide (i<2 ^ z.toNat):=by
 have c:((2 ^ z.toNat:Nat):Int)=2 ^ z.toNat:=by simp
 have hp:=ziu z.toNat
 by_cases h0:i=0
 ·subst h0
  have e:Builtin.Int.intBits 0=0:=by decide +kernel
  rw [e,decide_eq_true (by omega),decide_eq_true hp]
 ·have e:Builtin.Int.intBits i=i.natAbs.log2+1:=by
   unfold Builtin.Int.intBits
   rw [if_neg (by simpa using h0)]
  rw [e]
  have l:=Nat.log2_lt (n:=i.natAbs) (k:=z.toNat) (by omega)
  refine decide_eq_decide.mpr ⟨fun h=>?_,fun h=>?_⟩
  ·have:=l.mp (by omega)
   omega
  ·have:=l.mpr (by omega)
   omega
def zgi (z i:Int):Bool:=decide (0<=i) && decide (((Builtin.Int.intBits i:Nat):Int)<=z)
theorem zfn {z i:Int}(h0:0<=i)(h1:i<2 ^ z.toNat)(hz:1<=z):zgi z i=true:=by
 unfold zgi
 rw [decide_eq_true h0,zzi h0 (by omega),decide_eq_true h1]
 rfl
local macro_rules | `(tactic| walk_at "fld") => `(tactic| first | exact wF_wide _ _ _ _ _ | exact wF_room _ _ _ _ _ | exact wF_tables _ _ _ _ _ | exact wF_silent _ _ _ _ _ | exact wF_things _ _ _ _ _ | exact wF_layings _ _ _ _ _ | exact z2f _ (by decide +kernel) _ _ _ _ _ | exact zgf.k (k := Sum.inl _) (by walk_at "hp"))
def zr8 (K:W.Frag)(CB CT CW:Addr):Sp:=fun vs H Q _=>∃ (w td sd:Addr) (z r:Int) (hs sil:List Int) (T:Int->zbk) (v:V),vs=[.ref w,v]/\zak CB CT CW H w td sd z r hs sil T/\((∃ i,v = .int i/\Q (.bl (zgi z i && decide (i∈hs))) H)\/zgj K H v/\Q (.bl false) H)
def znl (K:W.Frag)(CB CT CW:Addr):Sp:=fun vs H Q _=>∃ (w td sd:Addr) (z r:Int) (hs sil:List Int) (T:Int->zbk) (v:V),vs=[.ref w,v]/\zak CB CT CW H w td sd z r hs sil T/\((∃ i,v = .int i/\Q (.bl (zgi z i && decide (i∈hs) && !decide (i∈sil))) H)\/zgj K H v/\Q (.bl false) H)
theorem zh7:zal ["self","thing"] ["self","thing"] (zai (zaf (top 25) 4)):=fS
theorem zc9 (Z:ZZ P w K mg base){CB CT:Addr}:zbu Z 3 Z.br (zr8 K CB CT Z.bc.C):=by
 have f:=Z.bc.cl
 obtain ⟨e,b,c,g,-⟩:=Z.bc.na
 have a:=zlb Z
 refine Z.br.fn.ok zh7 (by kd_p) (fun cdv A outer s H vs Q E hr h=>?_)
 obtain ⟨w,td,sd,z,r,hs,sil,TT,v,rfl,hW,h⟩:=h
 obtain ⟨⟨dx,l⟩,d,j,-⟩:=id hW
 refine ⟨_,(zah (zas (zky (pfD Z.bq a hr rfl (zaa (pv 1) (zaa (zav (pv 0) rfl) zag))) (zm8 (zwu (zr3 (zcz hr) (pv 1) (zav (pv 0) rfl))))))),?_⟩
 kt_k
 rcases h with ⟨i,rfl,k⟩ | ⟨hw,k⟩
 ·refine .inl ⟨i,rfl,?_⟩
  refine ⟨_,rfl,?_⟩
  change if zgi z i=true then _ else _
  cases hn:zgi z i with
  | true =>
   rw [hn,Bool.true_and] at k
   kt_k
   rw [zdm]
   by_cases m:i∈hs
   ·rw [if_pos m]
    rw [decide_eq_true m] at k
    exact k
   ·rw [if_neg m]
    rw [decide_eq_false m] at k
    exact k
  | false =>
   rw [hn,Bool.false_and] at k
   kt_k
 ·refine .inr ⟨hw,?_⟩
  kt_k
theorem ziz:zal ["self","name"] ["self","name"] (zai (zaf (top 25) 3)):=fS
theorem zbx (Z:ZZ P w K mg base){CB CT:Addr}:zbu Z 4 Z.bs (znl K CB CT Z.bc.C):=by
 have f:=Z.bc.cl
 obtain ⟨e,b,c,g,-⟩:=Z.bc.na
 have a:=zc9 (CB:=CB) (CT:=CT) Z
 refine Z.bs.fn.ok ziz (by kd_p) (fun cdv A outer s H vs Q E hr h=>?_)
 obtain ⟨w,td,sd,z,r,hs,sil,TT,v,rfl,hW,h⟩:=h
 obtain ⟨⟨dx,l⟩,d,j,-⟩:=id hW
 refine ⟨_,(zah (zas (zky (pmD (pv 0) Z.bc.cl Z.br a hr (zaa (pv 1) zag)) (zm8 (zwu (znu (zcz hr) (pv 1) (zav (pv 0) rfl))))))),?_⟩
 kt_k
 rcases h with ⟨i,rfl,k⟩ | ⟨hw,k⟩
 ·refine .inl ⟨i,rfl,?_⟩
  refine ⟨_,rfl,?_⟩
  cases hn:(zgi z i && decide (i∈hs)) with
  | true =>
   rw [hn,Bool.true_and] at k
   kt_k
   rw [zge]
   exact k
  | false =>
   rw [hn,Bool.false_and] at k
   kt_k
 ·refine .inr ⟨hw,?_⟩
  kt_k
theorem zf9:zal ["self","thing"] ["self","thing"] (zai (zaf (top 25) 16)):=fS
def zmw (CB CT CW:Addr):Sp:=fun vs H Q _=>∀ CC:Prop,(∀ (w td sd:Addr) (z r:Int) (hs sil:List Int) (T:Int->zbk) (i:Int),vs=[.ref w,.int i]->zak CB CT CW H w td sd z r hs sil T->i∈hs->(Q .non H)->CC)->CC
theorem zbo (Z:ZZ P w K mg base){CB CT:Addr}:zbu Z 4 Z.bu (zmw CB CT Z.bc.C):=by
 have e:=Z.bc.cl
 have b:=zc9 (CB:=CB) (CT:=CT) Z
 refine Z.bu.fn.ok zf9 (by kd_p) (fun cdv A outer s H vs Q E hr c=>?_)
 refine c _ fun w td sd z r hs sil TT i a hW hi k=>?_
 subst a
 obtain ⟨⟨dx,g⟩,d,f,-⟩:=id hW
 have hn:zgi z i=true:=zfn (hW.hb i hi).1 (hW.hb i hi).2 hW.z1
 refine ⟨_,(zah (zbw (ze9 (zcm (pmD (pv 0) Z.bc.cl Z.br b hr (zaa (pv 1) zag))))
   (zah (zfm (W:=fun _=>False) Z.bt rfl rfl (zaa zbr zag) (fun _ _ _ _ _ _ _ _ _ hw=>hw.elim)))
   zay)),?_⟩
 kt_k
 refine .inl ⟨i,rfl,?_⟩
 rw [hn,decide_eq_true hi]
 kt_k
theorem zgd:zal ["self","thing"] ["self","thing"] (zai (zaf (top 25) 15)):=fS
def zom (CB CT CW:Addr):Sp:=fun vs H Q _=>∀ CC:Prop,(∀ (w td sd:Addr) (z r:Int) (hs sil:List Int) (T:Int->zbk) (i:Int),vs=[.ref w,.int i]->zak CB CT CW H w td sd z r hs sil T->0<=i->i<2 ^ z.toNat->(Q .non H)->CC)->CC
theorem zd2 (Z:ZZ P w K mg base){CB CT:Addr}:zbu Z 3 Z.bw (zom CB CT Z.bc.C):=by
 have h:=Z.bc.cl
 obtain ⟨g,d,e,j,-⟩:=Z.bc.na
 have c:=zlb Z
 refine Z.bw.fn.ok zgd (by kd_p) (fun cdv A outer s H vs Q E hr b=>?_)
 refine b _ fun w td sd z r hs sil TT i a hW h0 h1 k=>?_
 subst a
 obtain ⟨⟨dx,m⟩,f,l,-⟩:=id hW
 have hn:zgi z i=true:=zfn h0 h1 hW.z1
 refine ⟨_,(zah (zbw (ze9 (zcm (pfD Z.bq c hr rfl (zaa (pv 1) (zaa (zav (pv 0) rfl) zag)))))
   (zah (zfm (W:=fun _=>False) Z.bv rfl rfl (zaa zbr zag) (fun _ _ _ _ _ _ _ _ _ hw=>hw.elim)))
   zay)),?_⟩
 kt_k
 refine .inl ⟨i,rfl,?_⟩
 unfold zgi at hn
 rw [hn]
 kt_k
theorem zew:zal ["self","thing"] ["self","thing"] (zai (zaf (top 25) 17)):=fS
def zqn (CB CT CW:Addr):Sp:=fun vs H Q _=>∀ CC:Prop,(∀ (w td sd:Addr) (z r:Int) (hs sil:List Int) (T:Int->zbk) (i:Int),vs=[.ref w,.int i]->zak CB CT CW H w td sd z r hs sil T->i∈hs->i∉sil->(Q .non H)->CC)->CC
theorem zbm (Z:ZZ P w K mg base){CB CT:Addr}:zbu Z 5 Z.bz (zqn CB CT Z.bc.C):=by
 have g:=Z.bc.cl
 have d:=zbo (CB:=CB) (CT:=CT) Z
 have b:=zbx (CB:=CB) (CT:=CT) Z
 refine Z.bz.fn.ok zew (by kd_p) (fun cdv A outer s H vs Q E hr e=>?_)
 refine e _ fun w td sd z r hs sil TT i a hW hi c k=>?_
 subst a
 obtain ⟨⟨dx,j⟩,f,h,-⟩:=id hW
 have hn:zgi z i=true:=zfn (hW.hb i hi).1 (hW.hb i hi).2 hW.z1
 refine ⟨_,(zad (zat (pmD (pv 0) Z.bc.cl Z.bu d hr (zaa (pv 1) zag)))
  (zah (zbw (ze9 (zcm (pmD (pv 0) Z.bc.cl Z.bs b hr (zaa (pv 1) zag))))
   (zah (zfm (W:=fun _=>False) Z.bx rfl rfl (zaa zbr zag) (fun _ _ _ _ _ _ _ _ _ hw=>hw.elim)))
   zay))),?_⟩
 kt_k
 refine .inl ⟨i,rfl,?_⟩
 rw [hn,decide_eq_true hi,decide_eq_false c]
 kt_k
theorem zj_:zal ["self"] ["self"] (zai (zaf (top 25) 1)):=fS
def zvo (CB CT CW:Addr):Sp:=fun vs H Q _=>∀ CC:Prop,(∀ (w td sd:Addr) (z r:Int) (hs sil:List Int) (T:Int->zbk),vs=[.ref w]->zak CB CT CW H w td sd z r hs sil T->(∀ l,H l=none->Q (.ref l) (upd H l (.lst ((zaq hs).map V.int))))->CC)->CC
theorem zc2 (Z:ZZ P w K mg base){CB CT:Addr}:zbu Z 1 Z.b0 (zvo CB CT Z.bc.C):=by
 have i:=Z.bc.cl
 obtain ⟨h,d,e,j,-⟩:=Z.bc.na
 refine Z.b0.fn.ok zj_ (by kd_p) (fun cdv A outer s H vs Q E hr c=>?_)
 refine c _ fun w td sd z r hs sil TT a hW k=>?_
 subst a
 obtain ⟨⟨dx,m⟩,g,l,-⟩:=id hW
 have f:=hW.ln
 have b:(zcj hs TT).map (·.1)=hs.map Sum.inl:=by
  unfold zcj
  rw [j8]
  rfl
 have n:hs.length<64:=by omega
 refine ⟨_,(zah (zas (za2 (zch rfl) rfl Z.da.n_sorted zby (zaa (zav (pv 0) rfl) zag)))),?_⟩
 kt_k
def zu8 (v:V)(most:Int):Bool:=match v with | .int i=>decide (1<=i) && decide (i<=most) | _=>false
def zs5 (K:W.Frag)(H:Hp)(v:V):Prop:=(∃ i,v = .int i)\/zgj K H v/\∀ i,v≠ .int i
def zwd (K:W.Frag):Sp:=fun vs H Q _=>∃ (v:V) (m:Int),vs=[v,.int m]/\zs5 K H v/\Q (.bl (zu8 v m)) H
theorem zqw:zal ["thing","most"] ["thing","most"] (zai (top 24)):=fS
theorem zqf (Z:ZZ P w K mg base):zj2 Z 2 Z.b1 (zwd K):=by
 have b:=zii Z
 refine Z.b1.fn.ok zqw (by kd_p) (fun cdv A outer s H vs Q E hr h=>?_)
 obtain ⟨v,m,rfl,hk,k⟩:=h
 refine ⟨_,(zah (zas (zky (pfD Z.bp b hr rfl (zaa (pv 0) zag)) (zm8 (zvb zyi zyi zan (pv 0) (pv 1)))))),?_⟩
 rcases hk with ⟨i,rfl⟩ | ⟨hw,a⟩
 ·refine ⟨_,rfl,_,rfl,.inl ⟨⟨i,rfl⟩,?_⟩⟩
  kt_k
  have k:Q (.bl (decide (1<=i) && decide (i<=m))) H:=k
  by_cases h1:1<=i
  ·rw [decide_eq_true h1,Bool.true_and] at k
   refine zpm h1 ?_
   kt_k
  ·rw [decide_eq_false h1,Bool.false_and] at k
   refine zhh h1 ?_
   exact k
 ·have e:zu8 v m=false:=by
   cases v <;> first | rfl | exact absurd rfl (a _)
  rw [e] at k
  refine ⟨_,rfl,_,rfl,.inr ⟨hw,?_⟩⟩
  kt_k
theorem zh6:zal ["self","wide","room"] ["self","wide","room"] (zai (zaf (top 25) 0)):=fS
def zv1 (CW:Addr):Sp:=fun vs H Q _=>∀ CC:Prop,(∀ (w dx:Addr) (z r:Int),vs=[.ref w,.int z,.int r]->H w=some (.ins CW dx [])->1<=z->z<=60->1<=r->r<=8->(∀ (td sd:Addr) (H':Hp),H' w=some (.ins CW dx (zct "silent" (V.ref sd) (zct "tables" (V.ref td) (zct "room" (V.int r) (zct "wide" (V.int z) [])))))->H' td=some (.dK [])->H' sd=some (.dK [])->H td=none->H sd=none->td≠sd->td≠w->sd≠w->zqx w H H'->Q .non H')->CC)->CC
theorem zlf (Z:ZZ P w K mg base):zbu Z 3 Z.b3 (zv1 Z.bc.C):=by
 have ac:=Z.bc.cl
 obtain ⟨v,u,aa,x,-⟩:=Z.bc.na
 have j:=zqf Z
 refine Z.b3.fn.ok zh6 (by kd_p) (fun cdv A outer s H vs Q E hr m=>?_)
 refine m _ fun w dx z r l hw q p t n k=>?_
 subst l
 have e1:zu8 (.int z) 60=true:=by
  show (decide (1<=z) && decide (z<=60))=true
  rw [decide_eq_true q,decide_eq_true p]
  rfl
 have e2:zu8 (.int r) 8=true:=by
  show (decide (1<=r) && decide (r<=8))=true
  rw [decide_eq_true t,decide_eq_true n]
  rfl
 have y:zs5 K H (.int z):= .inl ⟨z,rfl⟩
 have ab:zs5 K H (.int r):= .inl ⟨r,rfl⟩
 refine ⟨_,(zad (zbw (ze9 (zcm (pfD Z.b1 j hr rfl (zaa (pv 1) (zaa zan zag)))))
   (zah (zfm (W:=fun _=>False) Z.b2 rfl rfl (zaa zbr zag) (fun _ _ _ _ _ _ _ _ _ hw=>hw.elim)))
   zay)
  (zad (zbw (ze9 (zcm (pfD Z.b1 j hr rfl (zaa (pv 2) (zaa zan zag)))))
   (zah (zfm (W:=fun _=>False) Z.b2 rfl rfl (zaa zbr zag) (fun _ _ _ _ _ _ _ _ _ hw=>hw.elim)))
   zay)
  (zad (zdt (pv 0) (pv 1) rfl)
  (zad (zdt (pv 0) (pv 2) rfl)
  (zad (zdt (pv 0) zd4 rfl)
  (zah (zdt (pv 0) zd4 rfl))))))),?_⟩
 kt_k
 rw [e1]
 kt_k
 rw [e2]
 kt_k
 intro td i
 have a:td≠w:=(zae zac i).symm
 have f:H td=none:=by rw [zab a,zab a] at i; exact i
 kt_k
 intro sd b
 have d:sd≠w:=fun e=>by rw [e,zac] at b; cases b
 have h:td≠sd:=fun e=>by rw [<- e,zab a,zac] at b; cases b
 have g:H sd=none:=by rw [zab d,zab h.symm,zab d,zab d] at b; exact b
 kt_k
 refine k td sd _ zac ?_ ?_ f g h a d fun c o e hc=>?_
 ·rw [zab a,zab h,zab a,zac]
 ·rw [zab d,zac]
 ·rw [zab hc,zab (zae e g),zab hc,zab (zae e f),zab hc,zab hc]
  exact e
theorem zgs:zal ["self","wide","room"] ["self","wide","room"] (zai (zaf (top 27) 0)):=fS
def zzo (CB CT CW:Addr):Sp:=fun vs H Q _=>∀ CC:Prop,(∀ (w dx:Addr) (z r:Int),vs=[.ref w,.int z,.int r]->H w=some (.ins CW dx [])->1<=z->z<=60->1<=r->r<=8->(∀ (td sd gd:Addr) (H':Hp) (T:Int->zbk),zak CB CT CW H' w td sd z r [] [] T->H' w=some (.ins CW dx (wF z r td sd (dx,gd,0)))->zb_ H' gd [] (fun _=>0) (fun _=>[])->H td=none->H sd=none->H gd=none->td≠sd->gd≠td->gd≠sd->zqx w H H'->Q .non H')->CC)->CC
theorem zkb (Z:ZZ P w K mg base){CB CT:Addr}(hM_Town___init__:zve K Z.bd.C "__init__" Z.b3.f):zbu Z 4 Z.b4 (zzo CB CT Z.bc.C):=by
 have ap:=Z.bc.cl
 obtain ⟨al,aj,ao,am,ak,an,-⟩:=Z.bc.na
 have a:=Z.bd.hm
 have ab:=zlf Z
 refine Z.b4.fn.ok zgs (by kd_p) (fun cdv A outer s H vs Q E hr aa=>?_)
 refine aa _ fun w dx z r v hw ah ag ai ac k=>?_
 subst v
 refine ⟨_,(zad (zat (zwj rfl a hM_Town___init__ ab hr.mm Z.b3.b .nil zb5 (zaa (pv 0) (zaa (pv 1) (zaa (pv 2) zag)))))
  (zad (zdt (pv 0) zd4 rfl)
  (zah (zdt (pv 0) zan rfl)))),?_⟩
 kt_k
 intro td sd H1 af i g y ae u m t n
 kt_k
 intro gd d
 have l:gd≠w:=(zae af d).symm
 have q:gd≠td:=(zae i d).symm
 have p:gd≠sd:=(zae g d).symm
 have j:H gd=none:=by
  cases e:H gd with
  | none=>rfl
  | some o =>
   rw [n _ _ e l] at d
   cases d
 kt_k
 have ad:∀ H2:Hp,H2=upd (upd (upd H1 gd (.dK [])) w (.ins Z.bc.C dx (zct "things" (V.ref gd) (zct "silent" (V.ref sd) (zct "tables" (V.ref td) (zct "room" (V.int r) (zct "wide" (V.int z) []))))))) w (.ins Z.bc.C dx (zct "layings" (V.int 0) (zct "things" (V.ref gd) (zct "silent" (V.ref sd) (zct "tables" (V.ref td) (zct "room" (V.int r) (zct "wide" (V.int z) [])))))))->Q .non H2:=fun H2 e2=>by
  have ew:H2 w=some (.ins Z.bc.C dx (wF z r td sd (dx,gd,0))):=by rw [e2,zac,z1w (x:=dx)]
  have et:H2 td=some (.dK []):=by rw [e2,zab m,zab m,zab q.symm]; exact i
  have es:H2 sd=some (.dK []):=by rw [e2,zab t,zab t,zab p.symm]; exact g
  have eg:H2 gd=some (.dK []):=by rw [e2,zab l,zab l,zac]
  refine k td sd gd H2 (fun _=>⟨0,0,fun _=>0,fun _=>0,fun _=>[]⟩) ⟨⟨(dx,gd,0),ew⟩,et,es,fun h hh=>(nomatch hh),ii,fun h hh=>(nomatch hh),ah,ag,ai,ac,by decide,u⟩ ew ⟨eg,fun _ h=>(nomatch h),fun _ h=>(nomatch h),ii,fun _ h=>(nomatch h),fun _ h=>(nomatch h),fun _ _=>rfl⟩ y ae j u q p fun c o e hc=>?_
  rw [e2,zab hc,zab hc,zab (zae e j)]
  exact n _ _ e hc
 exact ad _ rfl
theorem zc_.keepD {CB CT t bl:Addr}{own z r:Int}{n:Nat}{bA lA:Nat->Addr}{ns:Nat->List Int}{H H':Hp}(T:zc_ CB CT H t bl own z r n bA lA ns)(s:∀ q o,(∀ ps,o≠ .tbl ps)->(∀ d,o≠ .dK d)->H q=some o->H' q=some o):zc_ CB CT H' t bl own z r n bA lA ns:=by
 obtain ⟨⟨dx,h1⟩,h2,h3,h4,h5,h6⟩:=T
 refine ⟨⟨dx,s _ _ (fun _ z=>nomatch z) (fun _ z=>nomatch z) h1⟩,s _ _ (fun _ z=>nomatch z) (fun _ z=>nomatch z) h2,fun k hk=>?_,h4,h5,h6⟩
 obtain ⟨⟨dx,b1⟩,b2⟩:=h3 k hk
 exact ⟨⟨dx,s _ _ (fun _ z=>nomatch z) (fun _ z=>nomatch z) b1⟩,s _ _ (fun _ z=>nomatch z) (fun _ z=>nomatch z) b2⟩
theorem zhk:zal ["self"] ["self"] (zai (zaf (top 25) 2)):=fS
def zoi (CB CT CW:Addr):Sp:=fun vs H Q _=>∀ CC:Prop,(∀ (w td sd:Addr) (z r:Int) (hs sil:List Int) (T:Int->zbk),vs=[.ref w]->zak CB CT CW H w td sd z r hs sil T->(∀ (l:Addr) (H':Hp),zau H H'->H l=none->H' l=some (.lst (((zaq hs).filter fun h=> !decide (h∈sil)).map V.int))->Q (.ref l) H')->CC)->CC
theorem zem (Z:ZZ P w K mg base){CB CT:Addr}:zbu Z 5 Z.b5 (zoi CB CT Z.bc.C):=by
 have aa:=Z.bc.cl
 have j:=zc2 (CB:=CB) (CT:=CT) Z
 have m:=zbx (CB:=CB) (CT:=CT) Z
 refine Z.b5.fn.ok zhk (by kd_p) (fun cdv A outer s H vs Q E hr f=>?_)
 refine f _ fun w td sd z r hs sil TT d hW k=>?_
 subst d
 obtain ⟨⟨dx,ab⟩,t,u,-⟩:=id hW
 have v:=hW.ln
 refine ⟨_,(zah (zas (zg6 rfl (zbe (own:=["house"]) (caps:=[0]) (N':=["house","self"]) (by kernel_rfl)) (zbf (zcd (pv 0) Z.bc.cl Z.b0.me j hr.mm Z.b0.b .nil zb5)) (fun _ _ _ _ _=>(zaw (i:=0) (show (["house","self"]:List Str).Nodup by decide +kernel) rfl oL)) (fun _ _ _ _ _=>(zhi (zcm (pmD (pv 1) Z.bc.cl Z.bs m hr (zaa (pv 0) zag))))) (fun _ _ _ _ _=>(pv 0))))),?_⟩
 kt_k
 intro l hl
 kt_k
 intro D hD
 have s1:zau H (upd H l (.lst ((zaq hs).map V.int))):=zau.new H hl
 have c:upd H l (.lst ((zaq hs).map V.int)) l=some (.lst ((zaq hs).map V.int)):=zac
 generalize upd H l (.lst ((zaq hs).map V.int))=H1 at s1 c hD |-
 refine zf7 (fun h=> !decide (h∈sil)) hD (SqL.of c) (by rw [zbh]; omega) (fun x hx H2 Qt s2 q=>?_) fun H2 s2 g=>?_
 ·have a:x∈hs:=(zam hs).subset hx
  have n:zak CB CT Z.bc.C H2 w td sd z r hs sil TT:=hW.keep fun q o _ e=>s2 _ _ (s1 _ _ e)
  obtain ⟨y,p⟩:=n.ob
  have hn:zgi z x=true:=zfn (hW.hb x a).1 (hW.hb x a).2 hW.z1
  kt_k
  refine .inl ⟨x,rfl,?_⟩
  rw [hn,decide_eq_true a,Bool.true_and,Bool.true_and]
  kt_k
  exact q H2 (zau.refl H2)
 ·exact k D H2 (s1.trans s2) (s1.free hD) g
theorem Tab.hold {T1:Addr}{po:Pos}{qu:Str}{H H':Hp}(t:Tab H T1 po qu)(s:∀ q o,((∃ x k,o = .frz x k)\/q=T1)->H q=some o->H' q=some o):Tab H' T1 po qu:=by
 obtain ⟨ps,h1,h2,z⟩:=t
 refine ⟨ps,s _ _ (.inr rfl) h1,h2,?_⟩
 rcases z with z | ⟨c',oc,k,z1,z2,z3⟩
 ·exact .inl z
 ·exact .inr ⟨c',oc,k,z1,s _ _ (.inl ⟨_,_,rfl⟩) z2,z3⟩
def zjj (r:Int)(aw:Int->Bool)(ns:List Int)(n:Int):List Int :=
 if n∈ns then ns.erase n++[n] else if (ns.length:Int)<r then ns++[n] else match ns with | []=>[] | x :: t=>t++[if aw x then x else n]
def zcu {α:Type}(N:Int->α)(h:Int)(x:α):Int->α:=fun g=>if g=h then x else N g
theorem zaj {α:Type}{N:Int->α}{h:Int}{x:α}:zcu N h x h=x:=if_pos rfl
theorem zao {α:Type}{N:Int->α}{h g:Int}{x:α}(e:g≠h):zcu N h x g=N g:=if_neg e
def znb (r:Int)(aw:Int->Bool)(N:Int->Nat->List Int)(h n:Int):Int->Nat->List Int:=zcu N h (zri (N h) (zbj h n) (zjj r aw (N h (zbj h n)) n))
def zql (r:Int)(aw:Int->Bool)(N:Int->Nat->List Int)(a b:Int):Int->Nat->List Int:=znb r aw (znb r aw N a b) b a
def zc6 (r:Int)(aw:Int->Bool)(N:Int->Nat->List Int)(a:Int):List Int->Int->Nat->List Int
 | []=>N
 | b :: t=>zc6 r aw (zql r aw N a b) a t
theorem zhm {r:Int}{aw:Int->Bool}{a b:Int}:∀ {l:List Int} {N:Int->Nat->List Int},zc6 r aw N a (l++[b])=zql r aw (zc6 r aw N a l) a b
 | [],_=>rfl
 | _ :: t,_=>zhm (l:=t)
theorem zt_ {r:Int}{aw:Int->Bool}{ns:List Int}{n m:Int}(h:m∈zjj r aw ns n):m∈ns\/m=n:=by
 unfold zjj at h
 split at h
 ·rcases fq.mp h with h | h
  ·exact .inl (List.mem_of_mem_erase h)
  ·exact .inr (fi.mp h)
 ·split at h
  ·rcases fq.mp h with h | h
   ·exact .inl h
   ·exact .inr (fi.mp h)
  ·split at h
   ·cases h
   ·rename_i x t _ _
    rcases fq.mp h with h | h
    ·exact .inl (fk _ h)
    ·have e:=fi.mp h
     split at e
     ·exact .inl (e ▸ gb ..)
     ·exact .inr e
theorem zbc {l:List Int}{x:Int}(h:l.Nodup)(hx:x∉l):(l++[x]).Nodup:=jt.mpr ⟨h,by simp,fun a ha b hb e=>hx (by rw [<- fi.mp hb,<- e]; exact ha)⟩
theorem zox {r:Int}{aw:Int->Bool}{ns:List Int}{n:Int}(h:ns.Nodup):(zjj r aw ns n).Nodup:=by
 unfold zjj
 split
 ·exact zbc (h.erase n) (List.Nodup.not_mem_erase h)
 ·rename_i hn
  split
  ·exact zbc h hn
  ·split
   ·exact ii
   ·obtain ⟨h1,h2⟩:=io.mp h
    split
    ·exact zbc h2 h1
    ·exact zbc h2 fun z=>hn (fk _ z)
theorem zuc {r:Int}{aw:Int->Bool}{ns:List Int}{n:Int}(hr:1<=r)(h:(ns.length:Int)<=r):((zjj r aw ns n).length:Int)<=r:=by
 unfold zjj
 split
 ·rename_i hn
  have:=im hn
  have:=List.length_pos_of_mem hn
  rw [fm,fu]
  omega
 ·split
  ·rw [fm,fu]
   omega
  ·split
   ·simp only [jf]
    omega
   ·rw [fm,fu]
    rw [i8] at h
    exact h
structure NOk (pool:List Int)(z:Nat)(r:Int)(hs:List Int)(N:Int->Nat->List Int):Prop where
 nd:∀ h∈hs,∀ k,(N h k).Nodup
 le:∀ h∈hs,∀ k,((N h k).length:Int)<=r
 st:∀ h∈hs,∀ k,∀ m∈N h k,m∈pool/\m≠h/\zbj h m=k
theorem NOk.hear {pool:List Int}{z:Nat}{r:Int}{hs:List Int}{N:Int->Nat->List Int}(O:NOk pool z r hs N)(hr:1<=r){aw:Int->Bool}{a b:Int}(hb:b∈pool)(hne:b≠a):NOk pool z r hs (znb r aw N a b):=by
 unfold znb
 refine ⟨fun h hh k=>?_,fun h hh k=>?_,fun h hh k m hm=>?_⟩
 ·by_cases e:h=a
  ·subst e
   rw [zaj]
   by_cases e2:k=zbj h b
   ·subst e2
    rw [za4]
    exact zox (O.nd h hh _)
   ·rw [za8 e2]
    exact O.nd h hh _
  ·rw [zao e]
   exact O.nd h hh _
 ·by_cases e:h=a
  ·subst e
   rw [zaj]
   by_cases e2:k=zbj h b
   ·subst e2
    rw [za4]
    exact zuc hr (O.le h hh _)
   ·rw [za8 e2]
    exact O.le h hh _
  ·rw [zao e]
   exact O.le h hh _
 ·by_cases e:h=a
  ·subst e
   rw [zaj] at hm
   by_cases e2:k=zbj h b
   ·subst e2
    rw [za4] at hm
    rcases zt_ hm with y | rfl
    ·exact O.st h hh _ m y
    ·exact ⟨hb,hne,rfl⟩
   ·rw [za8 e2] at hm
    exact O.st h hh _ m hm
  ·rw [zao e] at hm
   exact O.st h hh _ m hm
theorem NOk.meet {pool:List Int}{z:Nat}{r:Int}{hs:List Int}{N:Int->Nat->List Int}(O:NOk pool z r hs N)(hr:1<=r){aw:Int->Bool}{a b:Int}(ha:a∈pool)(hb:b∈pool)(hne:b≠a):NOk pool z r hs (zql r aw N a b):=(O.hear hr hb hne).hear hr ha hne.symm
theorem zgl {ns:Nat->List Int}{m:Int}:∀ {n:Nat},m∈zfa ns n↔∃ k,k<n/\m∈ns k
 | 0=>⟨fun h=>(nomatch h),fun ⟨k,h,_⟩=>absurd h (Nat.not_lt_zero k)⟩
 | n+1=>by
  rw [zff,fq,zgl (n:=n)]
  constructor
  ·rintro (⟨k,h1,h2⟩ | h)
   ·exact ⟨k,iz h1,h2⟩
   ·exact ⟨n,ic n,h⟩
  ·rintro ⟨k,h1,h2⟩
   by_cases e:k=n
   ·subst e
    exact .inr h2
   ·exact .inl ⟨k,by omega,h2⟩
theorem zkt {ns:Nat->List Int}{st:Int->Nat}(h1:∀ k,(ns k).Nodup)(h2:∀ k,∀ m∈ns k,st m=k):∀ {n:Nat},(zfa ns n).Nodup
 | 0=>ii
 | n+1=>by
  rw [zff]
  refine jt.mpr ⟨zkt h1 h2,h1 n,fun a ha b hb e=>?_⟩
  subst e
  obtain ⟨k,hk,hm⟩:=zgl.mp ha
  have:=h2 k a hm
  have:=h2 n a hb
  omega
theorem NOk.cat {pool:List Int}{z:Nat}{r:Int}{hs:List Int}{N:Int->Nat->List Int}(O:NOk pool z r hs N){h:Int}(hh:h∈hs)(n:Nat):(zfa (N h) n).Nodup:=zkt (st:=zbj h) (O.nd h hh) fun k m hm=>(O.st h hh k m hm).2.2
theorem zbg:∀ {a b:List Int},a.Nodup->(∀ x∈a,x∈b)->a.length<=b.length
 | [],_,_,_=>i9 _
 | x :: a,b,h,s=>by
  obtain ⟨h1,h2⟩:=io.mp h
  have hx:=s x (gb ..)
  have:=zbg (b:=b.erase x) h2 fun y hy=>(List.mem_erase_of_ne (fun (e:y=x)=>h1 (by rw [<- e]; exact hy))).mpr (s y (fk _ hy))
  have e:=im hx
  have:=List.length_pos_of_mem hx
  rw [i8]
  omega
theorem NOk.len {pool:List Int}{z:Nat}{r:Int}{hs:List Int}{N:Int->Nat->List Int}(O:NOk pool z r hs N){h:Int}(hh:h∈hs)(n:Nat):(zfa (N h) n).length<=pool.length :=
 zbg (O.cat hh n) fun x hx=>by
  obtain ⟨k,_,hm⟩:=zgl.mp hx
  exact (O.st h hh k x hm).1
theorem zpj {a b:List Int}(p:a.Perm b):zaq a=zaq b:=zib ((zam a).trans p) (zd6 a)
theorem zyc {a b:List Int}(ha:a.Nodup)(hb:b.Nodup)(h:∀ x,x∈a↔x∈b):a.Perm b:=(List.perm_ext_iff_of_nodup ha hb).mpr h
inductive Rch (E:Int->Int->Prop) (d:Int):Int->Prop where
 | own:Rch E d d
 | go {a b:Int}:Rch E d a->E a b->Rch E d b
theorem Rch.of_closed {E:Int->Int->Prop}{d:Int}{ks:List Int}(hd:d∈ks)(hc:∀ a∈ks,∀ b,E a b->b∈ks){x:Int}(h:Rch E d x):x∈ks:=by
 induction h with
 | own=>exact hd
 | go _ e ih=>exact hc _ ih _ e
def zwy (z:Nat)(aw:Int->Bool)(N:Int->Nat->List Int)(a b:Int):Prop:=b∈zfa (N a) z/\aw b=true
theorem zcc {l:List Int}{j:Nat}{x:Int}(h:l[j]? = some x):l.take (j+1)=l.take j++[x]:=by
 obtain ⟨h1,h2⟩:=List.getElem?_eq_some_iff.mp h
 rw [gu h1,h2]
theorem zqp {l:List Nat}{j:Nat}{x:Nat}(h:l[j]? = some x):l.take (j+1)=l.take j++[x]:=by
 obtain ⟨h1,h2⟩:=List.getElem?_eq_some_iff.mp h
 rw [gu h1,h2]
structure zbv (z:Nat)(hs:List Int)(T:Int->zbk):Prop where
 b:∀ h∈hs,∀ g∈hs,h≠g->∀ i j,i<z->j<z->(T h).bA i≠(T g).bA j
 l:∀ h∈hs,∀ g∈hs,h≠g->∀ i j,i<z->j<z->(T h).lA i≠(T g).lA j
 n:∀ h∈hs,∀ g∈hs,h≠g->∀ j,j<z->(T h).bl≠(T g).lA j
def zni (T:Int->zbk)(h:Int)(k:Nat)(l':Addr)(xs:List Int):Int->zbk:=zcu T h ⟨(T h).t,(T h).bl,(T h).bA,zri (T h).lA k l',zri (T h).ns k xs⟩
def Own (td sd:Addr)(z:Nat)(hs:List Int)(T:Int->zbk)(q:Addr):Prop:=q=td\/q=sd\/∃ h∈hs,q=(T h).bl\/∃ k,k<z/\(q=(T h).bA k\/q=(T h).lA k)
structure zd0 (T1:Addr)(H H':Hp)(O O':Addr->Prop):Prop where
 k:∀ q o,(∀ ps,o≠ .tbl ps)->H q=some o->¬ O q->H' q=some o
 o:∀ q,O' q->O q\/H q=none
 e:∀ q,H' q=none->H q=none
 t:∀ q ps,H q=some (.tbl ps)->q≠T1->H' q=some (.tbl ps)
theorem zd0.refl {T1:Addr}(H:Hp)(O:Addr->Prop):zd0 T1 H H O O:=⟨fun _ _ _ e _=>e,fun _ h=> .inl h,fun _ h=>h,fun _ _ e _=>e⟩
theorem zd0.same {T1:Addr}{H H':Hp}{O:Addr->Prop}(s:zau H H'):zd0 T1 H H' O O:=⟨fun _ _ _ e _=>s _ _ e,fun _ h=> .inl h,fun q h=>s.free h,fun _ _ e _=>s _ _ e⟩
theorem zd0.trans {T1:Addr}{H H1 H2:Hp}{O O1 O2:Addr->Prop}(a:zd0 T1 H H1 O O1)(b:zd0 T1 H1 H2 O1 O2):zd0 T1 H H2 O O2:=by
 refine ⟨fun q o ho e hn=>b.k q o ho (a.k q o ho e hn) fun z=>?_,fun q z=>?_,fun q h=>a.e q (b.e q h),fun q ps e hq=>b.t q ps (a.t q ps e hq) hq⟩
 ·rcases a.o q z with y | y
  ·exact hn y
  ·rw [e] at y
   cases y
 ·rcases b.o q z with y | y
  ·exact a.o q y
  ·exact .inr (a.e q y)
theorem zc_.only {CB CT t bl:Addr}{own z r:Int}{n:Nat}{bA lA:Nat->Addr}{ns:Nat->List Int}{H H':Hp}(T:zc_ CB CT H t bl own z r n bA lA ns)(s1:∀ o,H t=some o->H' t=some o)(s2:∀ o,H bl=some o->H' bl=some o)
  (s3:∀ k,k<n->∀ o,H (bA k)=some o->H' (bA k)=some o)(s4:∀ k,k<n->∀ o,H (lA k)=some o->H' (lA k)=some o):zc_ CB CT H' t bl own z r n bA lA ns:=by
 obtain ⟨⟨dx,h1⟩,h2,h3,h4,h5,h6⟩:=T
 refine ⟨⟨dx,s1 _ h1⟩,s2 _ h2,fun k hk=>?_,h4,h5,h6⟩
 obtain ⟨⟨dx,b1⟩,b2⟩:=h3 k hk
 exact ⟨⟨dx,s3 k hk _ b1⟩,s4 k hk _ b2⟩
theorem zm2 {C C' dx dx':Addr}{f g:List (Str × V)}{H:Hp}{p q:Addr}(h1:H p=some (.ins C dx f))(h2:H q=some (.ins C' dx' g))(hl:f.length≠g.length):p≠q:=fun e=>by
 rw [e,h2] at h1
 have:=Option.some.inj h1
 injection this with _ _ h3
 exact hl (congrArg kj h3.symm)
theorem zsq {T:Int->zbk}{h:Int}{k:Nat}{l':Addr}{xs:List Int}:(fun g=>(zni T h k l' xs g).ns)=zcu (fun g=>(T g).ns) h (zri (T h).ns k xs):=by
 funext g
 unfold zni
 by_cases e:g=h
 ·subst e
  rw [zaj,zaj]
 ·rw [zao e,zao e]
theorem z1h {T:Int->zbk}{h g:Int}{k:Nat}{l':Addr}{xs:List Int}:(zni T h k l' xs g).t=(T g).t:=by
 unfold zni
 by_cases e:g=h
 ·subst e
  rw [zaj]
 ·rw [zao e]
theorem zs3 {T:Int->zbk}{h g:Int}{k:Nat}{l':Addr}{xs:List Int}:(zni T h k l' xs g).bl=(T g).bl:=by
 unfold zni
 by_cases e:g=h
 ·subst e
  rw [zaj]
 ·rw [zao e]
theorem zok {T:Int->zbk}{h g:Int}{k:Nat}{l':Addr}{xs:List Int}:(zni T h k l' xs g).bA=(T g).bA:=by
 unfold zni
 by_cases e:g=h
 ·subst e
  rw [zaj]
 ·rw [zao e]
theorem zlr {T:Int->zbk}{h g:Int}{k j:Nat}{l':Addr}{xs:List Int}:(g=h/\j=k/\(zni T h k l' xs g).lA j=l')\/(¬ (g=h/\j=k)/\(zni T h k l' xs g).lA j=(T g).lA j):=by
 unfold zni
 by_cases e:g=h
 ·subst e
  rw [zaj]
  by_cases e2:j=k
  ·subst e2
   exact .inl ⟨rfl,rfl,za4⟩
  ·exact .inr ⟨fun z=>e2 z.2,za8 e2⟩
 ·rw [zao e]
  exact .inr ⟨fun z=>e z.1,rfl⟩
theorem zra {hs:List Int}{T:Int->zbk}{h:Int}{k:Nat}{l':Addr}{xs:List Int}:zcj hs (zni T h k l' xs)=zcj hs T:=by
 unfold zcj
 exact i5 fun g _=>by rw [z1h]
section
variable {CB CT CW w td sd:Addr} {H H':Hp} {z r:Int} {hs sil:List Int} {T:Int->zbk}
theorem zak.turn {T1:Addr}(W:zak CB CT CW H w td sd z r hs sil T)(A:zbv z.toNat hs T){h:Int}(hh:h∈hs){k:Nat}(hk:k<z.toNat){l':Addr}{xs:List Int}(hB:zcv CB H' ((T h).bA k) l' r xs)(hl:l'=(T h).lA k\/H l'=none)
  (fr:∀ q o,(∀ ps,o≠ .tbl ps)->H q=some o->q≠(T h).bA k->q≠(T h).lA k->H' q=some o)(he:∀ q,H' q=none->H q=none)(ft:∀ q ps,H q=some (.tbl ps)->q≠T1->H' q=some (.tbl ps)) :
  zak CB CT CW H' w td sd z r hs sil (zni T h k l' xs)/\zbv z.toNat hs (zni T h k l' xs)/\zd0 T1 H H' (Own td sd z.toNat hs T) (Own td sd z.toNat hs (zni T h k l' xs)):=by
 obtain ⟨⟨dx,ab⟩,x,aa,u,an,aj,am,al,ao,ai,ak,ag⟩:=id W
 have ae:=u h hh
 obtain ⟨⟨dk,f⟩,p⟩:=ae.bk k hk
 have ah:∀ g∈hs,∀ j,j<z.toNat->∃ ys,H ((T g).lA j)=some (.lst ys):=fun g hg j hj=>⟨_,((u g hg).bk j hj).li⟩
 refine ⟨⟨⟨dx,?_⟩,?_,?_,fun g hg=>?_,an,aj,am,al,ao,ai,ak,ag⟩,⟨?_,?_,?_⟩,⟨fun q o ho e hn=>?_,fun q hq=>?_,fun q hq=>?_,ft⟩⟩
 ·exact fr _ _ (fun _ z=>nomatch z) ab (zm2 ab f (by simp [wF,bF])) (zck ab p (by intro z; cases z))
 ·rw [zra]
  exact fr _ _ (fun _ z=>nomatch z) x (zck x f (by intro z; cases z)) (zck x p (by intro z; cases z))
 ·exact fr _ _ (fun _ z=>nomatch z) aa (zck aa f (by intro z; cases z)) (zck aa p (by intro z; cases z))
 ·by_cases e:g=h
  ·subst e
   have:=ae.turn hk (fun _=>False) hB hl (fun q o ho e a b _=>fr q o ho e a b) (fun _ z=>z.elim)
   unfold zni
   rw [zaj]
   exact this
  ·unfold zni
   rw [zao e]
   have t:=u g hg
   obtain ⟨dg,af⟩:=t.ob
   refine t.only (fun o eo=>?_) (fun o eo=>?_) (fun j hj o eo=>?_) (fun j hj o eo=>?_)
   ·have e1:=af.symm.trans eo
    cases e1
    exact fr _ _ (fun _ z=>nomatch z) eo (zm2 eo f (by simp [tF,bF])) (zck eo p (by intro z; cases z))
   ·have e1:=t.li.symm.trans eo
    cases e1
    exact fr _ _ (fun _ z=>nomatch z) eo (zck eo f (by intro z; cases z)) (A.n g hg h hh e k hk)
   ·obtain ⟨⟨dj,ac⟩,ad⟩:=t.bk j hj
    have e1:=ac.symm.trans eo
    cases e1
    exact fr _ _ (fun _ z=>nomatch z) eo (A.b g hg h hh e j k hj hk) (zck eo p (by intro z; cases z))
   ·obtain ⟨⟨dj,ac⟩,ad⟩:=t.bk j hj
    have e1:=ad.symm.trans eo
    cases e1
    exact fr _ _ (fun _ z=>nomatch z) eo (zck eo f (by intro z; cases z)) (A.l g hg h hh e j k hj hk)
 ·intro g hg g' d c i j hi hj
  rw [zok,zok]
  exact A.b g hg g' d c i j hi hj
 ·intro g hg g' d c i j hi hj
  have fresh:∀ s∈hs,s≠h->∀ m,m<z.toNat->l'≠(T s).lA m:=fun s v hn m hm=>by
   rcases hl with y | y
   ·rw [y]
    exact A.l h hh s v (Ne.symm hn) k m hk hm
   ·obtain ⟨ys,hy⟩:=ah s v m hm
    exact (zae hy y).symm
  rcases zlr (T:=T) (h:=h) (g:=g) (k:=k) (j:=i) (l':=l') (xs:=xs) with ⟨a1,a2,a3⟩ | ⟨a1,a3⟩ <;> rcases zlr (T:=T) (h:=h) (g:=g') (k:=k) (j:=j) (l':=l') (xs:=xs) with ⟨b1,b2,b3⟩ | ⟨b1,b3⟩
  ·exact absurd (a1.trans b1.symm) c
  ·rw [a3,b3]
   exact fresh g' d (fun y=>c (a1.trans y.symm)) j hj
  ·rw [a3,b3]
   exact (fresh g hg (fun y=>c (y.trans b1.symm)) i hi).symm
  ·rw [a3,b3]
   exact A.l g hg g' d c i j hi hj
 ·intro g hg g' d c j hj
  rw [zs3]
  rcases zlr (T:=T) (h:=h) (g:=g') (k:=k) (j:=j) (l':=l') (xs:=xs) with ⟨b1,b2,b3⟩ | ⟨b1,b3⟩
  ·rw [b3]
   rcases hl with y | y
   ·rw [y]
    exact A.n g hg h hh (fun y=>c (y.trans b1.symm)) k hk
   ·exact zae (u g hg).li y
  ·rw [b3]
   exact A.n g hg g' d c j hj
 ·exact fr q o ho e (fun y=>hn (.inr (.inr ⟨h,hh,.inr ⟨k,hk,.inl y⟩⟩))) (fun y=>hn (.inr (.inr ⟨h,hh,.inr ⟨k,hk,.inr y⟩⟩)))
 ·rcases hq with y | y | ⟨g,hg,y | ⟨j,hj,y⟩⟩
  ·exact .inl (.inl y)
  ·exact .inl (.inr (.inl y))
  ·rw [zs3] at y
   exact .inl (.inr (.inr ⟨g,hg,.inl y⟩))
  ·rw [zok] at y
   rcases y with y | y
   ·exact .inl (.inr (.inr ⟨g,hg,.inr ⟨j,hj,.inl y⟩⟩))
   ·rcases zlr (T:=T) (h:=h) (g:=g) (k:=k) (j:=j) (l':=l') (xs:=xs) with ⟨b1,b2,b3⟩ | ⟨b1,b3⟩
    ·rw [b3] at y
     subst y
     rcases hl with y | y
     ·exact .inl (.inr (.inr ⟨h,hh,.inr ⟨k,hk,.inr y⟩⟩))
     ·exact .inr y
    ·rw [b3] at y
     exact .inl (.inr (.inr ⟨g,hg,.inr ⟨j,hj,.inr y⟩⟩))
 ·exact he q hq
end
def zdx:Expr:=match (zbd (zaf (top 25) 25)).getD 0 (.Pass zsn) with | .Expr (.Call _ (_ :: e :: _) _ _) _=>e | _=> .Constant .none 0 zsn
def quH:Str:=(("Town.hears_of" : Str) ++ ".<locals>.") ++ "<lambda>"
abbrev RH:Addr->FuncData->Prop:=RLm "<lambda>" quH (zde zdx) (zdh zdx) (zb7 zdx)
abbrev z34 (H:Hp)(f:Addr)(cv:List V)(fd:FuncData):Prop:=zvi H f "<lambda>" quH (zde zdx) (zdh zdx) (zb7 zdx) ["self"] cv fd
def z3n (K:W.Frag)(CB CT CW:Addr)(cv:List V):Sp:=fun vs H Q E=>∃ (w:Addr) (i:V),vs=[i]/\cv=[.ref w]/\(∃ dx fs,H w=some (.ins CW dx fs)/\fs.lookup ("answers" : Str)=none)/\znl K CB CT CW [.ref w,i] H Q E
def spH (K:W.Frag)(CB CT CW:Addr)(f:Addr)(fd:FuncData):Sp:=fun vs H Q E=>∃ cv,cv.length=(["self"]:List Str).length/\z34 H f cv fd/\z3n K CB CT CW cv vs H Q E
theorem zvf {K:W.Frag}{CB CT CW:Addr}:zup (spH K CB CT CW):=fun f fd vs H Q Q' E hq h=>by
 obtain ⟨cv,h1,h2,w,i,e1,e2,h3,w',td,sd,z,r,hs,sil,T,v,e3,hW,k⟩:=h
 refine ⟨cv,h1,h2,w,i,e1,e2,h3,w',td,sd,z,r,hs,sil,T,v,e3,hW,?_⟩
 rcases k with ⟨j,e,k⟩ | ⟨a,k⟩
 ·exact .inl ⟨j,e,hq _ _ k⟩
 ·exact .inr ⟨a,hq _ _ k⟩
def awB (hs sil:List Int)(x:Int):Bool:=decide (x∈hs) && !decide (x∈sil)
theorem zpv {z:Int}{hs sil:List Int}(hb:∀ h∈hs,0<=h/\h<2 ^ z.toNat)(z1:1<=z)(x:Int):(zgi z x && decide (x∈hs) && !decide (x∈sil))=awB hs sil x:=by
 unfold awB
 by_cases e:x∈hs
 ·rw [zfn (hb x e).1 (hb x e).2 z1,Bool.true_and]
 ·rw [decide_eq_false e,Bool.and_false,Bool.false_and]
theorem zzl {f:Addr}{fd:FuncData}(h:RH f fd):zce K fd ["first"] []:=by
 obtain ⟨clos,pm,c',ct,rfl⟩:=h
 exact .all (us1 fun _=>rfl)
theorem zxz:zgp ["first","self"] ["first"] ["self"] (zb7 zdx):=⟨rfl,rfl,rfl,by decide +kernel,by decide +kernel,by decide +kernel,by decide +kernel,by decide +kernel,by decide +kernel,by decide +kernel⟩
theorem zzt (Z:ZZ P w K mg base){CB CT:Addr}{f:Addr}{fd:FuncData}:zdl P w K mg base CX0 5 f fd ["first"] (spH K CB CT Z.bc.C f fd):=by
 have a:=zbx (CB:=CB) (CT:=CT) Z
 refine zpe (name:= "<lambda>") (qual:=quH) (params:=zde zdx) (body:=zdh zdx) (sp:=z3n K CB CT Z.bc.C) zxz (fun cv vs H Q E h=>?_) (fun clos cdv A outer s H cv vs Q E hr d h=>?_)
 ·obtain ⟨w,i,rfl,_⟩:=h
  rfl
 ·obtain ⟨w,i,rfl,rfl,⟨dx,fs,hw,c⟩,k⟩:=h
  refine ⟨_,(ze0 (pv 1) Z.bc.cl Z.bs.me a hr.mm Z.bs.b .nil zb5 (zaa (pv 0) zag)),?_⟩
  exact ⟨_,rfl,w,dx,fs,rfl,hw,c,_,rfl,k⟩
def ztf (K:W.Frag)(CB CT CW T1:Addr):Sp:=fun vs H Q _=>∀ CC:Prop,(∀ (w td sd:Addr) (z r:Int) (hs sil:List Int) (T:Int->zbk) (h n:Int),vs=[.ref w,.int h,.int n]->zak CB CT CW H w td sd z r hs sil T->zbv z.toNat hs T->h∈hs->0<=n->n<2 ^ z.toNat->n≠h->((∀ k,((T h).ns k).length<=1000))->Tab H T1 (zap zdx) quH->(∀ (H':Hp) (T':Int->zbk),zak CB CT CW H' w td sd z r hs sil T'->zbv z.toNat hs T'->(fun g=>(T' g).ns)=znb r (awB hs sil) (fun g=>(T g).ns) h n->zd0 T1 H H' (Own td sd z.toNat hs T) (Own td sd z.toNat hs T')->Tab H' T1 (zap zdx) quH->Q .non H')->CC)->CC
theorem zh2:zal ["self","house","name"] ["self","house","name"] (zai (zaf (top 25) 25)):=fS
theorem zh5 (Z:ZZ P w K mg base):zw9 Z 9 Z.b6 (ztf K Z.ba.C Z.bb.C Z.bc.C Z.b6.P):=by
 have br:=Z.bc.cl
 obtain ⟨a8,bj,be,a9,-⟩:=Z.bc.na
 have GA:∀ f fd,RH f fd->zdl P w K mg base CX0 5 f fd ["first"] (spH K Z.ba.C Z.bb.C Z.bc.C f fd):=fun f fd _=>zzt Z
 have bA:∀ f fd,RH f fd->zce K fd ["first"] []:=fun f fd h=>zzl h
 have av:=zkj Z GA bA zvf
 refine Z.b6.ok Z.db zh2 (fz:=["self"]) (by decide +kernel) (by kd_p) (fun A outer s H vs Q E hr az H1 sm au hC=>?_)
 refine az _ fun w td sd z r hs sil TT h n ax am hA hh ah ai an aa hT k0=>?_
 subst ax
 have hW:zak Z.ba.C Z.bb.C Z.bc.C H1 w td sd z r hs sil TT:=am.keep fun q o _ e=>sm _ _ e
 have k:∀ (H':Hp) (T':Int->zbk),zak Z.ba.C Z.bb.C Z.bc.C H' w td sd z r hs sil T'->zbv z.toNat hs T'->(fun g=>(T' g).ns)=znb r (awB hs sil) (fun g=>(TT g).ns) h n->zd0 Z.b6.P H1 H' (Own td sd z.toNat hs TT) (Own td sd z.toNat hs T')->Tab H' Z.b6.P (zap zdx) quH->Q .non H':=fun H' T' a b c d e=>k0 H' T' a b c ((zd0.same sm).trans d) e
 have ap:Tab H1 Z.b6.P (zap zdx) quH:=(sm.but _).2 _ _ hT
 clear k0 am
 obtain ⟨⟨dx,bi⟩,ay,bd,aq,bh,l,a2,bf,a3,bo,bp,bm⟩:=id hW
 have aw:=aq h hh
 obtain ⟨bq,a5⟩:=aw.ob
 have hg:zgf H1 td (V.int h) (some (V.ref (TT h).t)):=by
  have:=zgf.k (k:=Sum.inl h) ay
  rw [zdm,if_pos hh] at this
  exact this
 obtain ⟨c1,ar,v1⟩:=au 0 "self" (.ref w) (by decide +kernel) rfl rfl
 refine ⟨_,(zah (zat (pmD (zcp (zcz hr) (zav (pv 0) rfl) (pv 1) (fun _ _=>rfl)) Z.bb.cl Z.bn av hr (zaa (pv 2) (zaa (zqa rfl hC Z.dd (zfj (by kernel_rfl))) zag))))),?_⟩
 kt_k
 refine zlj ap fun f H2 fo clos c' oc k1 k2 hb u hf ak sh a0 cs=>?_
 have nP:∀ {b:Addr} {o:HO},(∀ ps,o≠ .tbl ps)->H1 b=some o->H2 b=some o:=fun {b o} ho e=>hb b o (fun y=>by
  obtain ⟨ps,hP,_⟩:=ap
  rw [y,hP] at e
  cases e
  exact ho _ rfl) e
 have keep:∀ c v,zfx H1 c v->zfx H2 c v:=fun c v hv=>hv.same fun o k e=>nP (fun _ z=>nomatch z) e
 obtain ⟨fd,hd,hR,hF⟩:=zli (qual:=quH) (params:=zde zdx) (body:=zdh zdx) (scope:=zb7 zdx) (fr:=["self"]) (cv:=[.ref w]) sh ak a0 cs (fun i x v h1 h2=>by
  match i,h1,h2 with
  | 0,h1,h2 =>
   cases h1
   cases h2
   exact ⟨by decide +kernel,c1,ar,keep _ _ v1⟩)
 have ae:zak Z.ba.C Z.bb.C Z.bc.C H2 w td sd z r hs sil TT:=hW.keep fun q o ho e=>nP ho e
 have d2:zd0 Z.b6.P H1 H2 (Own td sd z.toNat hs TT) (Own td sd z.toNat hs TT):=⟨fun q o ho e _=>nP ho e,fun _ y=> .inl y,(fun q e=>by
  by_cases y:q=Z.b6.P
  ·obtain ⟨ps,hP,_⟩:=u
   rw [y,hP] at e
   cases e
  ·cases eq:H1 q with
   | none=>rfl
   | some o =>
    rw [hb q o y eq] at e
    cases e),fun q ps e y=>hb q _ y e⟩
 obtain ⟨⟨bg,af⟩,a4,a7,ag,-⟩:=id ae
 have p:=ag h hh
 obtain ⟨a6,a1⟩:=p.ob
 have al:zbj h n<z.toNat:=zg1 (l h hh).1 ah (l h hh).2 ai (Ne.symm an)
 have j:=p.bk _ al
 have ad:∀ (H3:Hp) (l':Addr) (xs:List Int),xs=zjj r (awB hs sil) ((TT h).ns (zbj h n)) n->zcv Z.ba.C H3 ((TT h).bA (zbj h n)) l' r xs->(l'=(TT h).lA (zbj h n)\/H2 l'=none)->(zqx ((TT h).lA (zbj h n)) H2 H3/\l'=(TT h).lA (zbj h n)\/zqx ((TT h).bA (zbj h n)) H2 H3)->Q .non H3:=fun H3 l' xs m B3 ac ab=>by
  have fr:∀ q o,H2 q=some o->q≠(TT h).bA (zbj h n)->q≠(TT h).lA (zbj h n)->H3 q=some o:=fun q o e a b=>by
   rcases ab with ⟨y,_⟩ | y
   ·exact y q o e b
   ·exact y q o e a
  have he:∀ q,H3 q=none->H2 q=none:=fun q e=>by
   cases eq:H2 q with
   | none=>rfl
   | some o =>
    exfalso
    obtain ⟨⟨db,y1⟩,y2⟩:=B3
    rcases ab with ⟨y,rfl⟩ | y
    ·by_cases e2:q=(TT h).lA (zbj h n)
     ·rw [e2,y2] at e
      cases e
     ·rw [y q o eq e2] at e
      cases e
    ·by_cases e2:q=(TT h).bA (zbj h n)
     ·rw [e2,y1] at e
      cases e
     ·rw [y q o eq e2] at e
      cases e
  obtain ⟨W3,A3,d3⟩:=ae.turn hA hh al B3 ac (fun q o _ e a b=>fr q o e a b) he (fun q ps e _=>fr q _ e (fun y=>by
   obtain ⟨⟨db,y1⟩,_⟩:=id j
   rw [y,y1] at e
   cases e) (fun y=>by
   rw [y,j.li] at e
   cases e))
  refine k H3 _ W3 A3 ?_ (d2.trans d3) (Tab.hold u fun q o ho e=>?_)
  ·rw [zsq,m]
   rfl
  ·obtain ⟨⟨db,y1⟩,y2⟩:=id j
   refine fr q o e (fun y=>?_) (fun y=>?_)
   ·subst y
    rcases ho with ⟨x,kk,rfl⟩ | y
    ·rw [y1] at e
     cases e
    ·obtain ⟨ps,hP,_⟩:=u
     rw [<- y,y1] at hP
     cases hP
   ·subst y
    rcases ho with ⟨x,kk,rfl⟩ | y
    ·rw [y2] at e
     cases e
    ·obtain ⟨ps,hP,_⟩:=u
     rw [<- y,y2] at hP
     cases hP
 refine ⟨(TT h).t,(TT h).bl,f,h,z,r,n,z.toNat,(TT h).bA,(TT h).lA,(TT h).ns,rfl,p,(l h hh).1,ah,(l h hh).2,ai,fun y=>absurd y.symm an,fun _=>?_⟩
 unfold zls
 refine ⟨_,_,f,r,n,_,rfl,j,aa _,a3,fun hm H3 B3 b3=>?_,fun hm hl H3 B3 b3=>?_,fun hm hl=>?_⟩
 ·exact ad H3 _ _ (by unfold zjj; rw [if_pos hm]) B3 (.inl rfl) (.inl ⟨b3,rfl⟩)
 ·exact ad H3 _ _ (by unfold zjj; rw [if_neg hm,if_pos hl]) B3 (.inl rfl) (.inl ⟨b3,rfl⟩)
 ·have ao:∃ x xs,(TT h).ns (zbj h n)=x :: xs:=by
   cases e:(TT h).ns (zbj h n) with
   | nil =>
    rw [e] at hl
    exact absurd hl (by simp only [jf]; omega)
   | cons x xs=>exact ⟨x,xs,rfl⟩
  obtain ⟨x,xs,m⟩:=ao
  have aj:xs.length<=1000:=by
   have:=aa (zbj h n)
   rw [m,i8] at this
   omega
  rw [m] at j
  unfold zp3
  refine ⟨_,_,f,r,n,x,xs,fd,rfl,j,aj,.inl ⟨fo,k1,ak,hd⟩,hR,[.ref w],rfl,hF,w,.int x,rfl,rfl,⟨_,_,af,z2f _ (by decide +kernel) _ _ _ _ _⟩,w,td,sd,z,r,hs,sil,TT,.int x,rfl,ae,.inl ⟨x,rfl,_,rfl,j,fun l' H3 ac B3 b3=>?_⟩⟩
  rw [zpv l a2 x] at B3
  refine ad H3 l' _ ?_ B3 (.inr ac) (.inr b3)
  unfold zjj
  rw [if_neg hm,if_neg (show ¬ (((TT h).ns (zbj h n)).length:Int)<r by omega),m]
def z0s (K:W.Frag)(CB CT CW T1:Addr):Sp:=fun vs H Q _=>∀ CC:Prop,(∀ (w td sd:Addr) (z r:Int) (hs sil:List Int) (T:Int->zbk) (h n:Int),vs=[.ref w,.int h,.int n]->zak CB CT CW H w td sd z r hs sil T->zbv z.toNat hs T->h∈hs->n∈hs->n≠h->((∀ g∈hs,∀ k,((T g).ns k).length<=1000))->Tab H T1 (zap zdx) quH->(∀ (H':Hp) (T':Int->zbk),zak CB CT CW H' w td sd z r hs sil T'->zbv z.toNat hs T'->(fun g=>(T' g).ns)=zql r (awB hs sil) (fun g=>(T g).ns) h n->zd0 T1 H H' (Own td sd z.toNat hs T) (Own td sd z.toNat hs T')->Tab H' T1 (zap zdx) quH->Q .non H')->CC)->CC
theorem znq:zal ["self","one","other"] ["self","one","other"] (zai (zaf (top 25) 24)):=fS
theorem zhx (Z:ZZ P w K mg base):zbu Z 10 Z.b7 (z0s K Z.ba.C Z.bb.C Z.bc.C Z.b6.P):=by
 have aa:=Z.bc.cl
 have f:=zh5 Z
 refine Z.b7.fn.ok znq (by kd_p) (fun cdv A outer s H vs Q E hr l=>?_)
 refine l _ fun w td sd z r hs sil TT h n i hW hA hh hn e a hT k=>?_
 subst i
 obtain ⟨dx,u⟩:=hW.ob
 have d:=hW.hb n hn
 have ab:=d.1
 have p:=d.2
 have v:=a h hh
 refine ⟨_,(zad (zat (ze0 (pv 0) Z.bc.cl Z.b6.me f hr.mm Z.b6.b .nil zb5 (zaa (pv 1) (zaa (pv 2) zag))))
  (zah (zat (ze0 (pv 0) Z.bc.cl Z.b6.me f hr.mm Z.b6.b .nil zb5 (zaa (pv 2) (zaa (pv 1) zag)))))),?_⟩
 kt_k
 intro H1 T1 W1 A1 e1 d1 ac
 obtain ⟨y,o⟩:=W1.ob
 have c:=W1.hb h hh
 have q:=c.1
 have t:=c.2
 have m:h≠n:=Ne.symm e
 have x:∀ k,((T1 n).ns k).length<=1000:=fun k=>by
  have e2:=congrFun (congrFun e1 n) k
  have e2:(T1 n).ns k=znb r (awB hs sil) (fun g=>(TT g).ns) h n n k:=e2
  unfold znb at e2
  rw [zao e] at e2
  rw [e2]
  exact a n hn k
 kt_k
 intro H2 T2 W2 A2 e2 d2 j
 refine k H2 T2 W2 A2 ?_ (d1.trans d2) j
 unfold zql
 rw [e2,e1]
structure CT (E:Int->Int->Prop)(d:Int)(ks ws:List Int):Prop where
 nd:ks.Nodup
 dm:d∈ks
 re:∀ x∈ks,Rch E d x
 ws:∀ x∈ws,x∈ks
theorem zp6 {ks:List Int}{x:Int}(h:x∉ks):zd3 (zfh ks) (Sum.inl x) (V.bl true)=zfh (ks++[x]):=by
 have e:zdy (zfh ks) (Sum.inl x)=none:=by
  have:=zge (sil:=ks) (i:=x)
  rw [decide_eq_false h] at this
  exact Option.isSome_eq_false_iff.mp this |> fun z=>by simpa using z
 rw [zgh _ e]
 unfold zfh
 rw [gy]
 rfl
theorem zq7 (l:List Int):l=[]\/∃ t a,l=t++[a]:=by
 rcases List.eq_nil_or_concat l with h | ⟨t,a,h⟩
 ·exact .inl h
 ·exact .inr ⟨t,a,by rw [h,List.concat_eq_append]⟩
theorem zfs {l:List Int}{a:Int}:(l++[a]).map V.int=l.map V.int++[V.int a]:=by simp
theorem zr1 {l:List Int}{a:Int}:((l++[a]).map V.int).dropLast=l.map V.int:=by
 rw [zfs,List.dropLast_concat]
theorem zb0:zal ["self","house","reached","waiting","here","name"] ["self","house"] (zai (zaf (top 25) 8)):=fS
def zwf (CB CT CW:Addr):Sp:=fun vs H Q _=>∀ CC:Prop,(∀ (w td sd:Addr) (z r:Int) (hs sil:List Int) (T:Int->zbk) (i:Int),vs=[.ref w,.int i]->zak CB CT CW H w td sd z r hs sil T->i∈hs->i∉sil->((∀ g∈hs,(zfa (T g).ns z.toNat).length<64))->(∀ (l:Addr) (ks:List Int) (H':Hp),zau H H'->H l=none->H' l=some (.lst ((zaq ks).map V.int))->ks.Nodup->(∀ x,x∈ks↔Rch (zwy z.toNat (awB hs sil) (fun g=>(T g).ns)) i x)->Q (.ref l) H')->CC)->CC
theorem zjs (Z:ZZ P w K mg base):zbu Z 6 Z.b8 (zwf Z.ba.C Z.bb.C Z.bc.C):=by
 have cm:=Z.bc.cl
 obtain ⟨b7,cj,ch,b9,-⟩:=Z.bc.na
 have be:=zf1 Z
 have bn:=zbx (CB:=Z.ba.C) (CT:=Z.bb.C) Z
 have bw:=zbm (CB:=Z.ba.C) (CT:=Z.bb.C) Z
 refine Z.b8.fn.ok zb0 (by kd_p) (fun cdv A outer s H vs Q E hr bh=>?_)
 refine bh _ fun w td sd z r hs sil TT i av hW hi cb az k=>?_
 subst av
 obtain ⟨⟨dx,bg⟩,bt,cg,bm,-⟩:=id hW
 have ck:=hW.ln
 generalize hE:zwy z.toNat (awB hs sil) (fun g=>(TT g).ns)=E at k
 have ac:∀ x,Rch E i x->x∈hs:=fun x hx=>by
  subst hE
  cases hx with
  | own=>exact hi
  | go _ e =>
   have e2:=e.2
   unfold awB at e2
   simp only [ik,decide_eq_true_eq] at e2
   exact e2.1
 have ao:∀ {ks ws:List Int},CT E i ks ws->ks.length<=hs.length:=fun c=>zbg c.nd fun x hx=>ac x (c.re x hx)
 refine ⟨_,(zad (zat (pmD (pv 0) Z.bc.cl Z.bz bw hr (zaa (pv 1) zag)))
  (zad (zax (i:=2) zb0.nd rfl oL (zx2 (zva (pv 1) ze7 zxu) rfl rfl (fun z=>nomatch z) (j0 rfl)))
  (zad (zax (i:=3) zb0.nd rfl oL (zcn (zaa (pv 1) zag)))
  (zad (zph PassesOwn.never (zaz z0n (za2 zbz rfl Z.da.n_len zi_ (zaa (pv 3) zag)) zan (zbb _))
   (zad (zax (i:=4) zb0.nd rfl oL (ztd i6 PySem.F.slot_list_pop PySem.F.type_list_pop z09 (pv 3)))
   (zah (zdf PassesOwn.never rfl (zbf (zcd (zcp (zcz hr) (zav (pv 0) rfl) (pv 4) (fun _ _=>rfl)) Z.bb.cl Z.bo.me be hr.mm Z.bo.b .nil zb5)) (zaw (i:=5) zb0.nd rfl oL)
    (zah (zbw (PW.pt (zr7 (zr5 (znu (zcz hr) (pv 5) (pv 2))) (zog (zcm (pmD (pv 0) Z.bc.cl Z.bs bn hr (zaa (pv 5) zag))))))
     (zad (zf2 (zcz hr) (pv 2) (pv 5) ze7 rfl)
     (zah (zat (zot i6 PySem.F.slot_list_append PySem.F.type_list_append ze8 (pv 3) (zaa (pv 5) zag)))))
     zay))))))
  (zah (zas (za2 (zch rfl) rfl Z.da.n_sorted zby (zaa (pv 2) zag)))))))),?_⟩
 kt_k
 intro rc aw
 refine ⟨_,rfl,?_⟩
 refine ⟨zac,[(Sum.inl i,V.bl true)],rfl,(show 1<=15 by decide),?_⟩
 have s1:zau H (upd (upd H rc (.dK [])) rc (.dK (zhq [] [(Sum.inl i,V.bl true)]))):=((zau.refl H).lay aw).put aw
 have aj:upd (upd H rc (.dK [])) rc (.dK (zhq [] [(Sum.inl i,V.bl true)])) rc=some (.dK (zfh [i])):=zac
 generalize upd (upd H rc (.dK [])) rc (.dK (zhq [] [(Sum.inl i,V.bl true)]))=H1 at s1 aj |-
 kt_k
 intro wt ay
 have s2:zau H (upd H1 wt (.lst [V.int i])):=s1.put (s1.free ay)
 have aq:upd H1 wt (.lst [V.int i]) wt=some (.lst [V.int i]):=zac
 have ap:upd H1 wt (.lst [V.int i]) rc=some (.dK (zfh [i])):=by rw [zab (zae aj ay)]; exact aj
 have au:H wt=none:=s1.free ay
 generalize upd H1 wt (.lst [V.int i])=H2 at s2 aq ap |-
 have c0:CT E i [i] [i]:=⟨by simp,fi.mpr rfl,fun x hx=>fi.mp hx ▸ Rch.own,fun x hx=>hx⟩
 kt_k
 refine ⟨fun m σ H3=>zg3 (∃ (v4 v5:Option V) (ks ws:List Int),σ=[some (.ref w),some (.int i),some (.ref rc),some (.ref wt),v4,v5]/\zau H H3/\H3 rc=some (.dK (zfh ks))/\H3 wt=some (.lst (ws.map V.int))/\CT E i ks ws/\(∀ a∈ks,a∉ws->∀ b,E a b->b∈ks)/\m=2 * (hs.length - ks.length)+ws.length/\ws.length<=2 * ks.length),⟨_,⟨none,none,[i],[i],rfl,s2,ap,aq,c0,fun a ha hn=>absurd ha hn,rfl,by simp⟩⟩,?_⟩
 rintro m σ H3 ⟨v4,v5,ks,ws,rfl,s3,ar,ak,c3,a3,hm,bp⟩
 have ci:=ao c3
 rcases zq7 ws with rfl | ⟨u,a,rfl⟩
 ·have bf:map (fun x:Key × V=>x.fst) (zfh ks)=map Sum.inl ks:=by
   unfold zfh
   rw [j8]
   rfl
  have cc:ks.length<64:=by omega
  kt_k
  intro l hl
  refine k l ks _ (s3.put (s3.free hl)) (s3.free hl) zac c3.nd fun x=>⟨c3.re x,fun h=>Rch.of_closed c3.dm (fun a ha b e=>a3 a ha (fun z=>nomatch z) b e) h⟩
 ·have ak:H3 wt=some (.lst ((u++[a]).map V.int)):=ak
  have ha:a∈ks:=c3.ws a (fh _ (fi.mpr rfl))
  have ax:=ac a (c3.re a ha)
  have s4:zau H (upd H3 wt (.lst (((u++[a]).map V.int).dropLast))):=s3.put au
  have b1:=s4 _ _ bg
  have a1:=(bm a ax).same s4
  obtain ⟨cf,b5⟩:=a1.ob
  have ce:zgf (upd H3 wt (.lst (((u++[a]).map V.int).dropLast))) td (V.int a) (some (V.ref (TT a).t)):=by
   have:=zgf.k (k:=Sum.inl a) (s4 _ _ bt)
   rw [zdm,if_pos ax] at this
   exact this
  have an:upd H3 wt (.lst (((u++[a]).map V.int).dropLast)) rc=some (.dK (zfh ks)):=by rw [zab (zck ar ak (by intro z; cases z))]; exact ar
  have a4:upd H3 wt (.lst (((u++[a]).map V.int).dropLast)) wt=some (.lst (u.map V.int)):=by rw [zac,zr1]
  have ca:=az a ax
  have b0:((u++[a]).map V.int).length=u.length+1:=by simp
  have bi:((u++[a]).map V.int)[((u++[a]).map V.int).length - 1]? = some (V.int a):=by rw [zfs]; simp
  have a8:(0:Int)<((((u++[a]).map V.int).length:Nat):Int):=by rw [b0]; omega
  kt_k
  refine zpm a8 ?_
  refine ⟨fun σ' H'=>zg3 (∃ (v4 v5:Option V) (ks ws:List Int),σ'=[some (.ref w),some (.int i),some (.ref rc),some (.ref wt),v4,v5]/\zau H H'/\H' rc=some (.dK (zfh ks))/\H' wt=some (.lst (ws.map V.int))/\CT E i ks ws/\(∀ a∈ks,a∉ws->∀ b,E a b->b∈ks)/\2 * (hs.length - ks.length)+ws.length<m/\ws.length<=2 * ks.length),fun σ' H' ⟨v4,v5,ks,ws,e,a,b,c,d,f,g,h⟩=>⟨_,g,⟨v4,v5,ks,ws,e,a,b,c,d,f,rfl,h⟩⟩,?_⟩
  kt_k
  intro kl H5 al bd s5
  have br:kl≠wt:=fun e=>by rw [e,zac] at al; cases al
  have bv:kl≠rc:=(zae an al).symm
  have a6:=s5 _ _ an
  have a0:=s5 _ _ a4
  kt_k
  refine zbs (K:=K) (a:=kl) (xs:=(zaq (zfa (TT a).ns z.toNat)).map V.int) (fun j σ H6=>zg3 (∃ (v5:Option V) (n p:List Int),σ=[some (.ref w),some (.int i),some (.ref rc),some (.ref wt),some (.int a),v5]/\zau H H6/\H6 kl=some (.lst ((zaq (zfa (TT a).ns z.toNat)).map V.int))/\H6 rc=some (.dK (zfh n))/\H6 wt=some (.lst (p.map V.int))/\CT E i n p/\a∈n /\
    (∀ g∈n,g∉p->g=a\/∀ b,E g b->b∈n)/\(∀ x∈(zaq (zfa (TT a).ns z.toNat)).take j,awB hs sil x=true->x∈n)/\2 * (hs.length - n.length)+p.length<m/\p.length<=2 * n.length)) ?_ (fun j σ H6 _ ⟨_,_,_,_,_,e,_⟩=>SqL.of e) ?_ ?_
  ·refine ⟨⟨_,ks,u,rfl,s4.trans s5,bd,a6,a0,⟨c3.nd,c3.dm,c3.re,fun x hx=>c3.ws x (gg _ hx)⟩,ha,fun g hg hn=>?_,fun x hx=>absurd hx (by simp),?_,?_⟩⟩
   ·by_cases e:g=a
    ·exact .inl e
    ·exact .inr fun b=>a3 g hg (fun y=>by
      rcases fq.mp y with y | y
      ·exact hn y
      ·exact e (fi.mp y)) b
   ·rw [hm,fm,fu]
    omega
   ·rw [fm,fu] at bp
    omega
  ·rintro j y σ H6 hj ⟨v5,n,p,rfl,s6,ae,v,aa,c6,ag,ai,ah,am,ad⟩
   obtain ⟨x,hx,rfl⟩:∃ x,(zaq (zfa (TT a).ns z.toNat))[j]? = some x/\y=V.int x:=by
    rw [List.getElem?_map] at hj
    cases e:(zaq (zfa (TT a).ns z.toNat))[j]? with
    | none=>rw [e] at hj; cases hj
    | some x=>rw [e] at hj; exact ⟨x,rfl,(Option.some.inj hj).symm⟩
   have bj:x∈zfa (TT a).ns z.toNat:=(zam _).subset (gj hx)
   have htk:(zaq (zfa (TT a).ns z.toNat)).take (j+1)=(zaq (zfa (TT a).ns z.toNat)).take j++[x]:=zcc hx
   have bq:zak Z.ba.C Z.bb.C Z.bc.C H6 w td sd z r hs sil TT:=hW.keep fun q o _ e=>s6 _ _ e
   obtain ⟨cd,b2⟩:=bq.ob
   have bu:=ao c6
   have av:=zge (sil:=n) (i:=x)
   kt_k
   rw [av]
   by_cases af:x∈n
   ·rw [decide_eq_true af]
    refine ⟨⟨_,n,p,rfl,s6,ae,v,aa,c6,ag,ai,fun y hy ab=>?_,am,ad⟩⟩
    rw [htk] at hy
    rcases fq.mp hy with hy | hy
    ·exact ah y hy ab
    ·exact fi.mp hy ▸ af
   ·rw [decide_eq_false af]
    kt_k
    refine .inl ⟨x,rfl,?_⟩
    rw [zpv hW.hb hW.z1 x]
    cases a9:awB hs sil x with
    | false =>
     kt_k
     refine ⟨⟨_,n,p,rfl,s6,ae,v,aa,c6,ag,ai,fun y hy ab=>?_,am,ad⟩⟩
     rw [htk] at hy
     rcases fq.mp hy with hy | hy
     ·exact ah y hy ab
     ·rw [fi.mp hy,a9] at ab
      cases ab
    | true =>
     have a5:(zfh n).length<sizeLine:=by
      unfold zfh
      rw [fj]
      exact zar (by omega)
     have b3:zkl H6 rc (V.int x) (V.bl true) (upd H6 rc (.dK (zd3 (zfh n) (Sum.inl x) (V.bl true)))):=zkl.k (k:=Sum.inl x) v a5
     have a2:wt≠rc:=zck aa v (by intro z; cases z)
     have b4:upd H6 rc (.dK (zd3 (zfh n) (Sum.inl x) (V.bl true))) wt=some (.lst (p.map V.int)):=by rw [zab a2]; exact aa
     have b6:(p.map V.int).length<sizeLine:=by
      rw [fj]
      exact zar (by omega)
     kt_k
     have a7:Rch E i x:=by
      subst hE
      exact .go (c6.re a ag) ⟨bj,a9⟩
     refine ⟨⟨_,n++[x],p++[x],rfl,(s6.put aw).put au,?_,?_,?_,⟨zbc c6.nd af,gg _ c6.dm,fun y hy=>?_,fun y hy=>?_⟩,gg _ ag,fun g hg hn=>?_,fun y hy ab=>?_,?_,?_⟩⟩
     ·rw [zab br,zab bv]
      exact ae
     ·rw [zab a2.symm,zac,zp6 af]
     ·rw [zac,zfs]
     ·rcases fq.mp hy with y1 | y1
      ·exact c6.re y y1
      ·exact fi.mp y1 ▸ a7
     ·rcases fq.mp hy with y1 | y1
      ·exact gg _ (c6.ws y y1)
      ·exact fh _ y1
     ·rcases fq.mp hg with y1 | y1
      ·rcases ai g y1 (fun z=>hn (gg _ z)) with e | e
       ·exact .inl e
       ·exact .inr fun b hb=>gg _ (e b hb)
      ·exact absurd (fh _ y1) hn
     ·rw [htk] at hy
      rcases fq.mp hy with hy | hy
      ·exact gg _ (ah y hy ab)
      ·exact fh _ hy
     ·have:=zbg (zbc c6.nd af) (b:=hs) fun y hy=>(fq.mp hy).elim (fun z=>ac y (c6.re y z)) fun z=>ac y (fi.mp z ▸ a7)
      rw [fm,fu] at this |-
      rw [fm,fu]
      omega
     ·rw [fm,fu,fm,fu]
      omega
  ·rintro σ H6 ⟨v5,n,p,rfl,s6,ae,v,aa,c6,ag,ai,ah,am,ad⟩
   refine ⟨⟨_,_,n,p,rfl,s6,v,aa,c6,fun g hg hn b hb=>?_,am,ad⟩⟩
   rcases ai g hg hn with rfl | e
   ·subst hE
    refine ah b ?_ hb.2
    rw [i3 (by rw [fj]; exact gf _)]
    exact (zam _).symm.subset hb.1
   ·exact e b hb
theorem zak.ex {CB CT CW w td sd:Addr}{H:Hp}{z r:Int}{hs sil:List Int}{T:Int->zbk}(W:zak CB CT CW H w td sd z r hs sil T){q:Addr}(h:Own td sd z.toNat hs T q):∃ o,H q=some o:=by
 rcases h with rfl | rfl | ⟨g,hg,rfl | ⟨k,hk,rfl | rfl⟩⟩
 ·exact ⟨_,W.tb⟩
 ·exact ⟨_,W.si⟩
 ·exact ⟨_,(W.ta g hg).li⟩
 ·obtain ⟨⟨d,e⟩,_⟩:=(W.ta g hg).bk k hk
  exact ⟨_,e⟩
 ·exact ⟨_,((W.ta g hg).bk k hk).li⟩
theorem zak.notOwn {CB CT CW w td sd:Addr}{H:Hp}{z r:Int}{hs sil:List Int}{T:Int->zbk}(W:zak CB CT CW H w td sd z r hs sil T){q:Addr}(h:H q=none):¬ Own td sd z.toNat hs T q:=fun y=>by
 obtain ⟨o,e⟩:=W.ex y
 rw [h] at e
 cases e
def z17 (h:Int)(y:Int):Bool:= !decide (V.int y=V.int h)
theorem zy_ {h y:Int}(e:z17 h y=true):y≠h:=fun z=>by
 subst z
 unfold z17 at e
 rw [decide_eq_true rfl] at e
 cases e
def zmf (h:Int)(ks:List Int):List Int:=(zaq ks).filter (z17 h)
theorem zl_ {h x:Int}{ks:List Int}(hx:x∈zmf h ks):x∈ks/\x≠h:=by
 obtain ⟨a,b⟩:=gv.mp hx
 exact ⟨(zam _).subset a,zy_ b⟩
theorem NOk.meets {pool:List Int}{z:Nat}{r:Int}{hs:List Int}(hr:1<=r){aw:Int->Bool}{a:Int}(ha:a∈pool):∀ {l:List Int} {N:Int->Nat->List Int},(∀ x∈l,x∈pool/\x≠a)->NOk pool z r hs N->NOk pool z r hs (zc6 r aw N a l)
 | [],_,_,O=>O
 | b :: t,N,h,O=>NOk.meets (l:=t) hr ha (fun x hx=>h x (fk _ hx)) (O.meet hr ha (h b (gb ..)).1 (h b (gb ..)).2)
theorem zd8:zal ["self","house","door","visited","name"] ["self","house","door"] (zai (zaf (top 25) 23)):=fS
def zuo (CB CT CW T1:Addr):Sp:=fun vs H Q _=>∀ CC:Prop,(∀ (w td sd:Addr) (z r:Int) (hs sil pool:List Int) (T:Int->zbk) (h d:Int),vs=[.ref w,.int h,.int d]->zak CB CT CW H w td sd z r hs sil T->zbv z.toNat hs T->h∈hs->d∈hs->d∉sil->NOk pool z.toNat r hs (fun g=>(T g).ns)->pool.length<64->((∀ x∈hs,x∈pool))->Tab H T1 (zap zdx) quH->(∀ (l:Addr) (ks:List Int) (H':Hp) (T':Int->zbk),ks.Nodup->(∀ x,x∈ks↔Rch (zwy z.toNat (awB hs sil) (fun g=>(T g).ns)) d x)->zak CB CT CW H' w td sd z r hs sil T'->zbv z.toNat hs T'->(fun g=>(T' g).ns)=zc6 r (awB hs sil) (fun g=>(T g).ns) h (zmf h ks)->zd0 T1 H H' (Own td sd z.toNat hs T) (Own td sd z.toNat hs T')->Tab H' T1 (zap zdx) quH->H l=none->¬ Own td sd z.toNat hs T' l->H' l=some (.lst ((zmf h ks).map V.int))->Q (.ref l) H')->CC)->CC
theorem zkc (Z:ZZ P w K mg base):zbu Z 11 Z.b9 (zuo Z.ba.C Z.bb.C Z.bc.C Z.b6.P):=by
 have az:=Z.bc.cl
 have ae:=zjs Z
 have af:=zhx Z
 refine Z.b9.fn.ok zd8 (by kd_p) (fun cdv A outer s H vs Q E hr ah=>?_)
 refine ah _ fun w td sd z r hs sil pool TT h d ag hW hA hh hd ar hO aj n hT k=>?_
 subst ag
 obtain ⟨dx,aq⟩:=hW.ob
 have ay:=hW.ln
 have ak:=hW.r1
 have aw:=hW.r2
 have al:∀ g∈hs,(zfa (TT g).ns z.toNat).length<64:=fun g hg=>j4 (hO.len hg z.toNat) aj
 refine ⟨_,(zad (zim (i:=3) zd8.nd rfl oL rfl (zbe (own:=["name"]) (caps:=[1]) (N':=["name","house"]) (by kernel_rfl)) (zbf (pmD (pv 0) Z.bc.cl Z.b8 ae hr (zaa (pv 2) zag))) (fun _ _ _ _ _=>(zaw (i:=0) (show (["name","house"]:List Str).Nodup by decide +kernel) rfl oL)) (fun _ _ _ _ _=>(zhi (zaz zxj (pv 0) (pv 1) (zbb _)))) (fun _ _ _ _ _=>(pv 0)))
  (zad (zdf PassesOwn.never rfl (zbf (pv 3)) (zaw (i:=4) zd8.nd rfl oL)
   (zah (zat (pmD (pv 0) Z.bc.cl Z.b7 af hr (zaa (pv 1) (zaa (pv 4) zag))))))
  (zah (zas (pv 3))))),?_⟩
 kt_k
 intro l ks H1 s1 hl ac t f
 have au:zak Z.ba.C Z.bb.C Z.bc.C H1 w td sd z r hs sil TT:=hW.keep fun q o _ e=>s1 _ _ e
 have c:∀ x∈ks,x∈hs:=fun x hx=>by
  have hx:=(f x).mp hx
  cases hx with
  | own=>exact hd
  | go _ e =>
   have e2:=e.2
   unfold awB at e2
   simp only [ik,decide_eq_true_eq] at e2
   exact e2.1
 have ap:ks.length<=hs.length:=zbg t c
 kt_k
 intro D hD
 refine zf7 (z17 h) hD (SqL.of ac) (by rw [zbh]; omega) (fun x hx H2 Qt s2 q=>?_) fun H2 s2 b=>?_
 ·kt_k
  exact q H2 (zau.refl H2)
 ·have b:H2 D=some (.lst ((zmf h ks).map V.int)):=b
  have m:zau H H2:=s1.trans s2
  have ai:zak Z.ba.C Z.bb.C Z.bc.C H2 w td sd z r hs sil TT:=hW.keep fun q o _ e=>m _ _ e
  have ab:Tab H2 Z.b6.P (zap zdx) quH:=(m.but _).2 _ _ hT
  have u:H D=none:=s1.free hD
  have nD:=hW.notOwn u
  kt_k
  refine zbs (K:=K) (a:=D) (xs:=(zmf h ks).map V.int) (fun j σ H6=>zg3 (∃ (v:Option V) (T6:Int->zbk),σ=[some (.ref w),some (.int h),some (.int d),some (.ref D),v]/\zak Z.ba.C Z.bb.C Z.bc.C H6 w td sd z r hs sil T6/\zbv z.toNat hs T6/\(fun g=>(T6 g).ns)=zc6 r (awB hs sil) (fun g=>(TT g).ns) h ((zmf h ks).take j)/\zd0 Z.b6.P H2 H6 (Own td sd z.toNat hs TT) (Own td sd z.toNat hs T6)/\Tab H6 Z.b6.P (zap zdx) quH)) ?_ (fun j σ H6 _ ⟨_,_,_,_,_,_,e,_⟩=>SqL.of (e.k _ _ (fun _ z=>nomatch z) b nD)) ?_ ?_
  ·exact ⟨⟨_,TT,rfl,ai,hA,rfl,zd0.refl _ _,ab⟩⟩
  ·rintro j y σ H6 hj ⟨v,T6,rfl,W6,A6,e6,d6,p⟩
   obtain ⟨x,hx,rfl⟩:∃ x,(zmf h ks)[j]? = some x/\y=V.int x:=by
    rw [List.getElem?_map] at hj
    cases e:(zmf h ks)[j]? with
    | none=>rw [e] at hj; cases hj
    | some x=>rw [e] at hj; exact ⟨x,rfl,(Option.some.inj hj).symm⟩
   have aa:=zl_ (gj hx)
   have ao:=c x aa.1
   have av:=aa.2
   have O6:NOk pool z.toNat r hs (fun g=>(T6 g).ns):=by
    rw [e6]
    exact NOk.meets ak (n h hh) (fun y hy=>by
     have:=zl_ (ia hy)
     exact ⟨n y (c y this.1),this.2⟩) hO
   have am:∀ g∈hs,∀ k,((T6 g).ns k).length<=1000:=fun g hg k=>by
    have:(((T6 g).ns k).length:Int)<=r:=O6.le g hg k
    omega
   obtain ⟨ax,an⟩:=W6.ob
   kt_k
   intro H7 T7 W7 A7 e7 d7 ad
   refine ⟨⟨_,T7,rfl,W7,A7,?_,d6.trans d7,ad⟩⟩
   rw [e7,e6,zcc hx,zhm]
  ·rintro σ H6 ⟨v,T6,rfl,W6,A6,e6,d6,p⟩
   rw [fj,gr] at e6
   kt_k
   refine k D ks H6 T6 t f W6 A6 e6 ((zd0.same m).trans d6) p u (fun y=>?_) (d6.k _ _ (fun _ z=>nomatch z) b nD)
   rcases d6.o D y with y | y
   ·exact nD y
   ·rw [b] at y
    cases y
theorem zhy:zal ["self","name","door","visited"] ["self","name","door"] (zai (zaf (top 25) 11)):=fS
def zq3 (N:Int->Nat->List Int)(i:Int):Int->Nat->List Int:=zcu N i (fun _=>[])
def zyh (spS:Sp)(CB CT CW T1:Addr):Sp:=fun vs H Q _=>∀ CC:Prop,(∀ (w td sd:Addr) (z r:Int) (hs sil pool:List Int) (T:Int->zbk) (i:Int) (dv:V),vs=[.ref w,.int i,dv]->zak CB CT CW H w td sd z r hs sil T->zbv z.toNat hs T->0<=i->i<2 ^ z.toNat->i∉hs->hs.length<60->NOk pool z.toNat r hs (fun g=>(T g).ns)->pool.length<64->((∀ x∈hs,x∈pool))->i∈pool->((dv = .non\/∃ d,dv = .int d/\d∈hs/\d∉sil))->Tab H T1 (zap zdx) quH->(∀ (l:Addr) (vis:List Int) (H':Hp) (T':Int->zbk),(dv = .non->vis=[])->(∀ d,dv = .int d->∃ ks:List Int,ks.Nodup/\(∀ x,x∈ks↔Rch (zwy z.toNat (awB (hs++[i]) sil) (zq3 (fun g=>(T g).ns) i)) d x)/\vis=zmf i ks)->zak CB CT CW H' w td sd z r (hs++[i]) sil T'->zbv z.toNat (hs++[i]) T'->(fun g=>(T' g).ns)=zc6 r (awB (hs++[i]) sil) (zq3 (fun g=>(T g).ns) i) i vis->zd0 T1 H H' (Own td sd z.toNat hs T) (Own td sd z.toNat (hs++[i]) T')->Tab H' T1 (zap zdx) quH->H l=none->¬ Own td sd z.toNat (hs++[i]) T' l->H' l=some (.lst (vis.map V.int))->spS [.ref w,.int i,.ref l] H' (fun _ H2=>Q (.ref l) H2) E0)->CC)->CC
theorem zmt (Z:ZZ P w K mg base){spS:Sp}(mS:z1o spS)(zc8:zbu Z 11 Z.cb spS):zw3 Z 12 Z.cc (zyh spS Z.ba.C Z.bb.C Z.bc.C Z.b6.P):=by
 have cf:=Z.bc.cl
 obtain ⟨bv,cd,b8,b0,-⟩:=Z.bc.na
 have a0:=zlq Z
 have a1:=zd2 (CB:=Z.ba.C) (CT:=Z.bb.C) Z
 have a2:=zc9 (CB:=Z.ba.C) (CT:=Z.bb.C) Z
 have bo:=zbm (CB:=Z.ba.C) (CT:=Z.bb.C) Z
 have bn:=zkc Z
 refine Z.cc.ok zhy (by kd_p) (fun cdv A outer s H vs Q E hr a7=>?_)
 refine a7 _ fun w td sd z r hs sil pool TT i dv a5 hW hA h0 h1 ak bt hO b5 be bi a6 bm k=>?_
 subst a5
 obtain ⟨⟨dx,a4⟩,ay,bf,aw,bh,a8,au,bg,bp,bj,ce,aq⟩:=id hW
 have hn:zgi z i=true:=zfn h0 h1 au
 have ax:∀ (t c:Addr),H t=none->H c=none->c≠t->∀ (bl:Addr) (bA lA:Nat->Addr) (H1:Hp),zc_ Z.ba.C Z.bb.C H1 t bl i z r z.toNat bA lA (fun _=>[])->upd (upd H c (.own t)) t (.ins Z.bb.C c []) bl=none ->
   (∀ k,k<z.toNat->upd (upd H c (.own t)) t (.ins Z.bb.C c []) (bA k)=none/\upd (upd H c (.own t)) t (.ins Z.bb.C c []) (lA k)=none)->zqx t (upd (upd H c (.own t)) t (.ins Z.bb.C c [])) H1 ->
   ∃ (H2:Hp) (T2:Int->zbk),H2=upd H1 td (.dK (zd3 (zcj hs TT) (Sum.inl i) (V.ref t)))/\H1 td=some (.dK (zcj hs TT))/\H1 w=some (.ins Z.bc.C dx.1 (wF z r td sd dx))/\zak Z.ba.C Z.bb.C Z.bc.C H2 w td sd z r (hs++[i]) sil T2/\zbv z.toNat (hs++[i]) T2/\(fun g=>(T2 g).ns)=zq3 (fun g=>(TT g).ns) i/\zd0 Z.b6.P H H2 (Own td sd z.toNat hs TT) (Own td sd z.toNat (hs++[i]) T2)/\Tab H2 Z.b6.P (zap zdx) quH:=fun t c ht ae am bl bA lA H1 ac ad u af=>by
  have s1:zau H H1:=fun q o e=>af q o (by rw [zab (zae e ht),zab (zae e ae)]; exact e) (zae e ht)
  have al:∀ {q:Addr},upd (upd H c (.own t)) t (.ins Z.bb.C c []) q=none->H q=none:=fun {q} e=>by
   cases eq:H q with
   | none=>rfl
   | some o =>
    rw [zab (zae eq ht),zab (zae eq ae),eq] at e
    cases e
  have f:=s1 _ _ ay
  have ab:=s1 _ _ a4
  have b7:w≠td:=zck ab f (by intro z; cases z)
  let T2:Int->zbk:=zcu TT i ⟨t,bl,bA,lA,fun _=>[]⟩
  have eT:∀ h∈hs,T2 h=TT h:=fun h hh=>zao (fun e=>ak (by rw [<- e]; exact hh))
  have aa:T2 i=⟨t,bl,bA,lA,fun _=>[]⟩:=zaj
  have fr:∀ q o,(∀ ps,o≠ .tbl ps)->(∀ d,o≠ .dK d)->H1 q=some o->upd H1 td (.dK (zd3 (zcj hs TT) (Sum.inl i) (V.ref t))) q=some o:=fun q o _ hd e=>by
   rw [zab (fun y=>by rw [y,f] at e; exact hd _ (Option.some.inj e).symm)]
   exact e
  have mem:∀ {h:Int},h∈hs++[i]->h∈hs/\T2 h=TT h\/h=i:=fun {h} hh=>by
   rcases fq.mp hh with m | m
   ·exact .inl ⟨m,eT h m⟩
   ·exact .inr (fi.mp m)
  have ah:∀ h∈hs,∀ j,j<z.toNat->(∃ o,H ((TT h).bA j)=some o)/\(∃ o,H ((TT h).lA j)=some o):=fun h hh j hj=>⟨hW.ex (.inr (.inr ⟨h,hh,.inr ⟨j,hj,.inl rfl⟩⟩)),hW.ex (.inr (.inr ⟨h,hh,.inr ⟨j,hj,.inr rfl⟩⟩))⟩
  have nb:∀ k,k<z.toNat->H (bA k)=none/\H (lA k)=none:=fun k hk=>⟨al (u k hk).1,al (u k hk).2⟩
  refine ⟨_,T2,rfl,f,ab,⟨⟨dx,?_⟩,?_,?_,fun h hh=>?_,zbc bh ak,fun h hh=>?_,au,bg,bp,bj,?_,aq⟩,⟨?_,?_,?_⟩,?_,⟨?_,?_,?_,fun q ps e _=>by
   rw [zab (fun y=>by rw [y,ay] at e; cases e)]
   exact s1 _ _ e⟩,?_⟩
  ·exact fr _ _ (fun _ z=>nomatch z) (fun _ z=>nomatch z) ab
  ·rw [zac,zgh _ (by rw [zdm,if_neg ak])]
   unfold zcj
   rw [gy]
   congr 2
   congr 1
   ·exact i5 fun h hh=>by rw [eT h hh]
   ·show [(Sum.inl i,V.ref t)]=[(Sum.inl i,V.ref (T2 i).t)]
    rw [aa]
  ·rw [zab aq.symm]
   exact s1 _ _ bf
  ·rcases mem hh with ⟨m,e⟩ | rfl
   ·rw [e]
    exact (((aw h m).same s1).keepD fr)
   ·rw [aa]
    exact ac.keepD fr
  ·rcases fq.mp hh with m | m
   ·exact a8 h m
   ·rw [fi.mp m]
    exact ⟨h0,h1⟩
  ·rw [fm,fu]
   omega
  ·intro h hh g hg p a b ha hb
   rcases mem hh with ⟨m1,e1⟩ | rfl <;> rcases mem hg with ⟨m2,e2⟩ | rfl
   ·rw [e1,e2]
    exact hA.b h m1 g m2 p a b ha hb
   ·rw [e1,aa]
    obtain ⟨o,eo⟩:=(ah h m1 a ha).1
    exact zae eo (nb b hb).1
   ·rw [e2,aa]
    obtain ⟨o,eo⟩:=(ah g m2 b hb).1
    exact (zae eo (nb a ha).1).symm
   ·exact absurd rfl p
  ·intro h hh g hg p a b ha hb
   rcases mem hh with ⟨m1,e1⟩ | rfl <;> rcases mem hg with ⟨m2,e2⟩ | rfl
   ·rw [e1,e2]
    exact hA.l h m1 g m2 p a b ha hb
   ·rw [e1,aa]
    obtain ⟨o,eo⟩:=(ah h m1 a ha).2
    exact zae eo (nb b hb).2
   ·rw [e2,aa]
    obtain ⟨o,eo⟩:=(ah g m2 b hb).2
    exact (zae eo (nb a ha).2).symm
   ·exact absurd rfl p
  ·intro h hh g hg p b hb
   rcases mem hh with ⟨m1,e1⟩ | rfl <;> rcases mem hg with ⟨m2,e2⟩ | rfl
   ·rw [e1,e2]
    exact hA.n h m1 g m2 p b hb
   ·rw [e1,aa]
    exact zae (aw h m1).li (nb b hb).2
   ·rw [e2,aa]
    obtain ⟨o,eo⟩:=(ah g m2 b hb).2
    exact (zae eo (al ad)).symm
   ·exact absurd rfl p
  ·funext g
   show (zcu TT i ⟨t,bl,bA,lA,fun _=>[]⟩ g).ns=zcu (fun g=>(TT g).ns) i (fun _=>[]) g
   by_cases e:g=i
   ·subst e
    rw [zaj,zaj]
   ·rw [zao e,zao e]
  ·intro q o ho e a9
   rw [zab (fun y=>a9 (.inl y))]
   exact s1 _ _ e
  ·intro q hq
   rcases hq with y | y | ⟨h,hh,y⟩
   ·exact .inl (.inl y)
   ·exact .inl (.inr (.inl y))
   ·rcases mem hh with ⟨m,e⟩ | rfl
    ·rw [e] at y
     exact .inl (.inr (.inr ⟨h,m,y⟩))
    ·rw [aa] at y
     rcases y with rfl | ⟨j,hj,rfl | rfl⟩
     ·exact .inr (al ad)
     ·exact .inr (nb j hj).1
     ·exact .inr (nb j hj).2
  ·intro q hq
   by_cases e:q=td
   ·rw [e,zac] at hq
    cases hq
   ·rw [zab e] at hq
    exact s1.free hq
  ·have av:Tab H1 Z.b6.P (zap zdx) quH:=(s1.but _).2 _ _ bm
   refine Tab.hold av fun q o ho e=>?_
   rw [zab (fun y=>?_)]
   ·exact e
   ·rw [y,f] at e
    cases e
    rcases ho with ⟨x,kk,e2⟩ | e2
    ·cases e2
    ·obtain ⟨ps,hP,_⟩:=av
     rw [<- e2,y,f] at hP
     cases hP
 have an:(zcj hs TT).length<sizeLine:=by
  unfold zcj
  rw [fj]
  exact zar (by omega)
 refine ⟨_,(zad (zat (pmD (pv 0) Z.bc.cl Z.bw a1 hr (zaa (pv 1) zag)))
  (zad (zbw (zcm (pmD (pv 0) Z.bc.cl Z.br a2 hr (zaa (pv 1) zag)))
   (zah (zfm (W:=fun _=>False) Z.ca rfl rfl (zaa zbr zag) (fun _ _ _ _ _ _ _ _ _ hw=>hw.elim)))
   zay)
  (zad (zbw (zaz zoo (pv 2) zen (zbb _))
   (zah (zat (pmD (pv 0) Z.bc.cl Z.bz bo hr (zaa (pv 2) zag))))
   zay)
  (zad (zf2 (zcz hr) (zav (pv 0) rfl) (pv 1) (zld (DfM.mk' Z.bb Z.bl) a0 hr.mm rfl Z.bb.hm Z.bl.b .nil zb5 (zaa (pv 1) (zaa (zav (pv 0) rfl) (zaa (zav (pv 0) rfl) zag)))) rfl)
  (zad (zax (i:=3) zhy.nd rfl oL (zpb (zaz zpw (pv 2) zen (zbb _)) (zcn zag) (pmD (pv 0) Z.bc.cl Z.b9 bn hr (zaa (pv 1) (zaa (pv 2) zag)))))
  (zad (zat (pmD (pv 0) Z.bc.cl Z.cb zc8 hr (zaa (pv 1) (zaa (pv 3) zag))))
  (zah (zas (pv 3))))))))),?_⟩
 kt_k
 refine .inl ⟨i,rfl,?_⟩
 rw [hn,decide_eq_false ak]
 rcases a6 with rfl | ⟨d,rfl,hd,b3⟩
 ·kt_k
  intro t c ht ae am
  kt_k
  intro bl bA lA H1 ac ad u af
  obtain ⟨H2,T2,rfl,f,ab,W2,A2,e2,d2,ai⟩:=ax t c ht ae am bl bA lA H1 ac ad u af
  have ag:zkl H1 td (V.int i) (V.ref t) (upd H1 td (.dK (zd3 (zcj hs TT) (Sum.inl i) (V.ref t)))):=zkl.k (k:=Sum.inl i) f an
  generalize upd H1 td (.dK (zd3 (zcj hs TT) (Sum.inl i) (V.ref t)))=H2 at ag W2 d2 ai |-
  kt_k
  intro l hl
  have s3:zau H2 (upd H2 l (.lst [])):=zau.new H2 hl
  have aj:upd H2 l (.lst []) l=some (.lst []):=zac
  generalize upd H2 l (.lst [])=H3 at s3 aj |-
  have W3:zak Z.ba.C Z.bb.C Z.bc.C H3 w td sd z r (hs++[i]) sil T2:=W2.keep fun q o _ e=>s3 _ _ e
  obtain ⟨az,ar⟩:=W3.ob
  kt_k
  refine mS _ _ _ _ _ (fun v H4 hq=>?_) (k l [] H3 T2 (fun _=>rfl) (fun d y=>(nomatch y)) W3 A2 e2 (d2.trans (zd0.same s3)) ((s3.but _).2 _ _ ai) (d2.e _ hl) (W2.notOwn hl) aj)
  kt_k
 ·kt_k
  intro t c ht ae am
  kt_k
  intro bl bA lA H1 ac ad u af
  obtain ⟨H2,T2,rfl,f,ab,W2,A2,e2,d2,ai⟩:=ax t c ht ae am bl bA lA H1 ac ad u af
  have ag:zkl H1 td (V.int i) (V.ref t) (upd H1 td (.dK (zd3 (zcj hs TT) (Sum.inl i) (V.ref t)))):=zkl.k (k:=Sum.inl i) f an
  generalize upd H1 td (.dK (zd3 (zcj hs TT) (Sum.inl i) (V.ref t)))=H2 at ag W2 d2 ai |-
  have O2:NOk pool z.toNat r (hs++[i]) (fun g=>(T2 g).ns):=by
   rw [e2]
   unfold zq3
   refine ⟨fun h hh k=>?_,fun h hh k=>?_,fun h hh k m hm=>?_⟩
   ·by_cases e:h=i
    ·rw [e,zaj]
     exact ii
    ·rw [zao e]
     exact hO.nd h ((fq.mp hh).elim id fun y=>absurd (fi.mp y) e) k
   ·by_cases e:h=i
    ·rw [e,zaj]
     simp only [jf]
     omega
    ·rw [zao e]
     exact hO.le h ((fq.mp hh).elim id fun y=>absurd (fi.mp y) e) k
   ·by_cases e:h=i
    ·rw [e,zaj] at hm
     cases hm
    ·rw [zao e] at hm
     exact hO.st h ((fq.mp hh).elim id fun y=>absurd (fi.mp y) e) k m hm
  have bu:∀ x∈hs++[i],x∈pool:=fun x hx=>(fq.mp hx).elim (be x) fun y=>fi.mp y ▸ bi
  have b4:i∈hs++[i]:=fh _ (fi.mpr rfl)
  have b1:d∈hs++[i]:=gg _ hd
  obtain ⟨b2,bq⟩:=W2.ob
  kt_k
  intro l ks H3 T3 ap ao W3 A3 e3 d3 a3 hl bd aj
  obtain ⟨az,ar⟩:=W3.ob
  rw [e2] at ao e3
  kt_k
  refine mS _ _ _ _ _ (fun v H4 hq=>?_) (k l (zmf i ks) H3 T3 (fun y=>(nomatch y)) (fun d' y=>⟨ks,ap,by cases y; exact ao,rfl⟩) W3 A3 e3 (d2.trans d3) a3 (d2.e _ hl) bd aj)
  kt_k
def zef (h:Int)(l:List Int):List Int:=l.filter fun x=> !decide (x=h)
def zcx (h:Int)(l:List Int):List Int:=if h∈l then l else l++[h]
theorem zbt {h x:Int}{l:List Int}:x∈zef h l↔x∈l/\x≠h:=by
 unfold zef
 rw [gv]
 simp
theorem zft {h:Int}{l:List Int}(hn:l.Nodup):(zef h l).Nodup:=hn.filter _
theorem zsj {h:Int}{l:List Int}:(zef h l).length<=l.length:=ib _ _
theorem zxp {h:Int}{l:List Int}(hh:h∉l):zef h l=l:=by
 unfold zef
 refine List.filter_eq_self.mpr fun x hx=>?_
 rw [decide_eq_false (fun (e:x=h)=>hh (by rw [<- e]; exact hx))]
 rfl
theorem zs2 {h:Int}{hs:List Int}{T:Int->zbk}:zcw (zcj hs T) (Sum.inl h)=zcj (zef h hs) T:=by
 unfold zcw zcj zef
 rw [kx]
 congr 1
 refine jw fun x _=>?_
 show decide ((Sum.inl x:Key)≠Sum.inl h) = !decide (x=h)
 by_cases e:x=h
 ·subst e
  simp
 ·rw [decide_eq_false e]
  simp [e]
theorem zv8 {h:Int}{sil:List Int}:zcw (zfh sil) (Sum.inl h)=zfh (zef h sil):=by
 unfold zcw zfh zef
 rw [kx]
 congr 1
 refine jw fun x _=>?_
 show decide ((Sum.inl x:Key)≠Sum.inl h) = !decide (x=h)
 by_cases e:x=h
 ·subst e
  simp
 ·rw [decide_eq_false e]
  simp [e]
theorem zzv {h:Int}{sil:List Int}:zd3 (zfh sil) (Sum.inl h) (V.bl true)=zfh (zcx h sil):=by
 unfold zcx
 by_cases e:h∈sil
 ·rw [if_pos e]
  unfold zd3
  rw [if_pos (by rw [zfu,zge,decide_eq_true e])]
  unfold zfh
  rw [j8]
  refine i5 fun x _=>?_
  show (if (Sum.inl x:Key)=Sum.inl h then ((Sum.inl x:Key),V.bl true) else ((Sum.inl x:Key),V.bl true))=_
  split <;> rfl
 ·rw [if_neg e]
  exact zp6 e
section
variable {CB CT CW w td sd:Addr} {H H':Hp} {z r:Int} {hs sil:List Int} {T:Int->zbk}
theorem zak.dicts (W:zak CB CT CW H w td sd z r hs sil T){hs' sil':List Int}(k:∀ q o,H q=some o->q≠td->q≠sd->H' q=some o)(e1:H' td=some (.dK (zcj hs' T)))(e2:H' sd=some (.dK (zfh sil')))(hn:hs'.Nodup)(hm:∀ x∈hs',x∈hs)(hl:hs'.length<=60):zak CB CT CW H' w td sd z r hs' sil' T:=by
 obtain ⟨⟨dx,h1⟩,h2,h3,h4,h5,h6,h7,h8,h9,b,c,a⟩:=W
 have up:∀ q o,(∀ d,o≠ .dK d)->H q=some o->H' q=some o:=fun q o hd e=>k q o e (fun y=>by rw [y,h2] at e; exact hd _ (Option.some.inj e).symm) (fun y=>by rw [y,h3] at e; exact hd _ (Option.some.inj e).symm)
 exact ⟨⟨dx,up _ _ (fun _ z=>nomatch z) h1⟩,e1,e2,fun h hh=>(h4 h (hm h hh)).keepD fun q o _ hd e=>up q o hd e,hn,fun h hh=>h6 h (hm h hh),h7,h8,h9,b,hl,a⟩
theorem zbv.sub {n:Nat}{hs':List Int}(A:zbv n hs T)(hm:∀ x∈hs',x∈hs):zbv n hs' T:=⟨fun h hh g hg=>A.b h (hm h hh) g (hm g hg),fun h hh g hg=>A.l h (hm h hh) g (hm g hg),fun h hh g hg=>A.n h (hm h hh) g (hm g hg)⟩
theorem NOk.sub {pool:List Int}{n:Nat}{hs':List Int}{N:Int->Nat->List Int}(O:NOk pool n r hs N)(hm:∀ x∈hs',x∈hs):NOk pool n r hs' N:=⟨fun h hh=>O.nd h (hm h hh),fun h hh=>O.le h (hm h hh),fun h hh=>O.st h (hm h hh)⟩
theorem zd0.dicts {T1:Addr}(W:zak CB CT CW H w td sd z r hs sil T){hs':List Int}(k:∀ q o,H q=some o->q≠td->q≠sd->H' q=some o)(x1:∃ o,H' td=some o)(x2:∃ o,H' sd=some o)(hm:∀ x∈hs',x∈hs):zd0 T1 H H' (Own td sd z.toNat hs T) (Own td sd z.toNat hs' T):=by
 refine ⟨fun q o _ e hn=>k q o e (fun y=>hn (.inl y)) (fun y=>hn (.inr (.inl y))),fun q hq=>?_,fun q hq=>?_,fun q ps e _=>k q _ e (fun y=>by rw [y,W.tb] at e; cases e) (fun y=>by rw [y,W.si] at e; cases e)⟩
 ·rcases hq with y | y | ⟨g,hg,y⟩
  ·exact .inl (.inl y)
  ·exact .inl (.inr (.inl y))
  ·exact .inl (.inr (.inr ⟨g,hm g hg,y⟩))
 ·cases e:H q with
  | none=>rfl
  | some o =>
   exfalso
   by_cases y1:q=td
   ·obtain ⟨o1,e1⟩:=x1
    rw [y1,e1] at hq
    cases hq
   ·by_cases y2:q=sd
    ·obtain ⟨o1,e1⟩:=x2
     rw [y2,e1] at hq
     cases hq
    ·rw [k q o e y1 y2] at hq
     cases hq
theorem Tab.dicts {T1:Addr}{po:Pos}{qu:Str}(W:zak CB CT CW H w td sd z r hs sil T)(t:Tab H T1 po qu)(k:∀ q o,H q=some o->q≠td->q≠sd->H' q=some o):Tab H' T1 po qu:=Tab.hold t fun q o ho e=>by
 have key:∀ d,o≠ .dK d:=fun d y=>by
  subst y
  rcases ho with ⟨x,kk,e2⟩ | e2
  ·cases e2
  ·obtain ⟨ps,hP,_⟩:=t
   rw [<- e2,e] at hP
   cases hP
 exact k q o e (fun y=>by rw [y,W.tb] at e; exact key _ (Option.some.inj e).symm) (fun y=>by rw [y,W.si] at e; exact key _ (Option.some.inj e).symm)
end
theorem znd:zal ["self","house"] ["self","house"] (zai (zaf (top 25) 13)):=fS
def z1d (CB CT CW:Addr):Sp:=fun vs H Q _=>∀ CC:Prop,(∀ (w td sd:Addr) (z r:Int) (hs sil:List Int) (T:Int->zbk) (i:Int),vs=[.ref w,.int i]->zak CB CT CW H w td sd z r hs sil T->i∈hs->sil.length<=900->(∀ (H':Hp),zak CB CT CW H' w td sd z r hs (zcx i sil) T->(∀ q o,H q=some o->q≠td->q≠sd->H' q=some o)->Q .non H')->CC)->CC
theorem znv (Z:ZZ P w K mg base){CB CT:Addr}:zbu Z 5 Z.cd (z1d CB CT Z.bc.C):=by
 have t:=Z.bc.cl
 obtain ⟨l,j,p,n,-⟩:=Z.bc.na
 have d:=zbo (CB:=CB) (CT:=CT) Z
 refine Z.cd.fn.ok znd (by kd_p) (fun cdv A outer s H vs Q E hr f=>?_)
 refine f _ fun w td sd z r hs sil TT i b hW hi m k=>?_
 subst b
 obtain ⟨⟨dx,u⟩,c,g,-⟩:=id hW
 have a:(zfh sil).length<sizeLine:=by
  unfold zfh
  rw [fj]
  exact zar (by omega)
 have h:zkl H sd (V.int i) (V.bl true) (upd H sd (.dK (zd3 (zfh sil) (Sum.inl i) (V.bl true)))):=zkl.k (k:=Sum.inl i) g a
 have kk:∀ q o,H q=some o->q≠td->q≠sd->upd H sd (.dK (zd3 (zfh sil) (Sum.inl i) (V.bl true))) q=some o:=fun q o e _ y=>by rw [zab y]; exact e
 have hk:=k _ (hW.dicts kk (by rw [zab hW.ts]; exact c) (by rw [zac,zzv]) hW.nd (fun x hx=>hx) hW.ln) kk
 refine ⟨_,(zad (zat (pmD (pv 0) Z.bc.cl Z.bu d hr (zaa (pv 1) zag)))
  (zah (zf2 (zcz hr) (zav (pv 0) rfl) (pv 1) ze7 rfl))),?_⟩
 kt_k
theorem zqv:zal ["self","house"] ["self","house"] (zai (zaf (top 25) 12)):=fS
def z4h (spS:Sp)(CB CT CW:Addr):Sp:=fun vs H Q _=>∀ CC:Prop,(∀ (w td sd:Addr) (z r:Int) (hs sil:List Int) (T:Int->zbk) (i:Int),vs=[.ref w,.int i]->zak CB CT CW H w td sd z r hs sil T->i∈hs->(∀ (H':Hp),zak CB CT CW H' w td sd z r (zef i hs) (zef i sil) T->(∀ q o,H q=some o->q≠td->q≠sd->H' q=some o)->spS [.ref w,.int i] H' (fun _ H2=>Q .non H2) E0)->CC)->CC
theorem zqz (Z:ZZ P w K mg base){CB CT:Addr}{spS:Sp}(zdr:zbu Z 4 Z.ce spS):zbu Z 5 Z.cf (z4h spS CB CT Z.bc.C):=by
 have ad:=Z.bc.cl
 obtain ⟨aa,u,ac,ab,-⟩:=Z.bc.na
 have j:=zbo (CB:=CB) (CT:=CT) Z
 refine Z.cf.fn.ok zqv (by kd_p) (fun cdv A outer s H vs Q E hr l=>?_)
 refine l _ fun w td sd z r hs sil TT i g hW hi k=>?_
 subst g
 obtain ⟨⟨dx,f⟩,d,m,-⟩:=id hW
 have n:zdy (zcj hs TT) (Sum.inl i)=some (V.ref (TT i).t):=by rw [zdm,if_pos hi]
 refine ⟨_,(zad (zat (pmD (pv 0) Z.bc.cl Z.bu j hr (zaa (pv 1) zag)))
  (zad (zat (zp_ (zav (pv 0) rfl) (pv 1) ⟨rfl,rfl,rfl,rfl⟩))
  (zad (zat (zpz (zav (pv 0) rfl) (pv 1) zen ⟨rfl,rfl,rfl,rfl⟩))
  (zah (zat (pmD (pv 0) Z.bc.cl Z.ce zdr hr (zaa (pv 1) zag))))))),?_⟩
 kt_k
 refine ⟨.inl ⟨_,.inl d⟩,_,rfl,_,Sum.inl i,_,d,rfl,n,?_⟩
 have nw:w≠td:=zck f d (by intro z; cases z)
 have c:upd H td (.dK (zcw (zcj hs TT) (Sum.inl i))) w=some (.ins Z.bc.C dx.1 (wF z r td sd dx)):=by rw [zab nw]; exact f
 have a:upd H td (.dK (zcw (zcj hs TT) (Sum.inl i))) sd=some (.dK (zfh sil)):=by rw [zab hW.ts.symm]; exact m
 have b:upd H td (.dK (zcw (zcj hs TT) (Sum.inl i))) td=some (.dK (zcj (zef i hs) TT)):=by rw [zac,zs2]
 have k1:∀ q o,H q=some o->q≠td->upd H td (.dK (zcw (zcj hs TT) (Sum.inl i))) q=some o:=fun q o e y=>by rw [zab y]; exact e
 generalize upd H td (.dK (zcw (zcj hs TT) (Sum.inl i)))=H1 at c a b k1 |-
 kt_k
 refine ⟨.inl ⟨_,.inl a⟩,_,rfl,_,Sum.inl i,a,rfl,fun v hv=>?_,fun hv=>?_⟩
 ·have k2:∀ q o,H q=some o->q≠td->q≠sd->upd H1 sd (.dK (zcw (zfh sil) (Sum.inl i))) q=some o:=fun q o e y1 y2=>by rw [zab y2]; exact k1 q o e y1
  have hk:=k _ (hW.dicts k2 (by rw [zab hW.ts]; exact b) (by rw [zac,zv8]) (zft hW.nd) (fun x hx=>(zbt.mp hx).1) (gm zsj hW.ln)) k2
  have p:upd H1 sd (.dK (zcw (zfh sil) (Sum.inl i))) w=some (.ins Z.bc.C dx.1 (wF z r td sd dx)):=by rw [zab (zck c a (by intro z; cases z))]; exact c
  kt_k
 ·have h:i∉sil:=fun y=>by
   have:=zge (sil:=sil) (i:=i)
   rw [hv,decide_eq_true y] at this
   cases this
  have hk:=k H1 (hW.dicts (fun q o e y1 _=>k1 q o e y1) b (by rw [zxp h]; exact a) (zft hW.nd) (fun x hx=>(zbt.mp hx).1) (gm zsj hW.ln)) (fun q o e y1 _=>k1 q o e y1)
  kt_k
theorem zic (ns:List Int){m:Int}(hm:0<=m):zj8 (ns.map V.int) none (some m)=(ns.take m.toNat).map V.int:=by
 obtain ⟨k,rfl⟩:∃ k:Nat,m=k:=⟨m.toNat,by omega⟩
 unfold zj8
 rw [HT.sIx_none,HT.sIx_nat,lg,Nat.sub_zero,fj,<- mh,ix]
 congr 1
 rcases Nat.le_total k ns.length with h | h
 ·rw [Nat.min_eq_left h]
 ·rw [Nat.min_eq_right h,gr,i3 h]
def zyp (K:W.Frag)(CB CT T0:Addr):Sp:=fun vs H Q _=>∀ CC:Prop,(∀ (t bl:Addr) (own z r g many:Int) (bv:V) (n:Nat) (bA lA:Nat->Addr) (ns:Nat->List Int),vs=[.ref t,.int g,.int many,bv]->zc_ CB CT H t bl own z r n bA lA ns->(zfa ns n).length<64->((∀ y∈zfa ns n,0<=y))->0<=g->0<=many->((bv = .non\/∃ b,bv = .int b))->Tab H T0 (zap zc5) quL->(∀ (l:Addr) (H':Hp),Nx T0 H H'->H l=none->H' l=some (.lst (((zcs g ((zaq (zfa ns n)).filter fun y=> !decide (V.int y=bv))).take many.toNat).map V.int))->Q (.ref l) H')->CC)->CC
theorem ze5:zal ["self","goal","many","but","names"] ["self","goal","many","but"] (zai (zaf (top 22) 6)):=fS
theorem zh8 (Z:ZZ P w K mg base):zw3 Z 6 Z.cg (zyp K Z.ba.C Z.bb.C Z.bk.P):=by
 have ag:=Z.bb.cl
 have o:=zwk Z
 have e:=zf1 Z
 refine Z.cg.ok ze5 (by kd_p) (fun cdv A outer s H vs Q E hr h=>?_)
 refine h _ fun t bl own z r g ac bv n bA lA ns f hT d p hg c u a k=>?_
 subst f
 obtain ⟨dx,ah⟩:=hT.ob
 refine ⟨_,(zad (zim (i:=4) ze5.nd rfl oL rfl (zbe (own:=["name"]) (caps:=[3]) (N':=["name","but"]) (by kernel_rfl)) (zbf (zcd (pv 0) Z.bb.cl Z.bo.me e hr.mm Z.bo.b .nil zb5)) (fun _ _ _ _ _=>(zaw (i:=0) (show (["name","but"]:List Str).Nodup by decide +kernel) rfl oL)) (fun _ _ _ _ _=>(zhi (zaz zxj (pv 0) (pv 1) (zbb _)))) (fun _ _ _ _ _=>(pv 0)))
  (zah (zas (zc3 zeb (zhc o hr.mm rfl Z.bk.hm Z.bk.kp Z.bk.b .nil zb5 (zaa (pv 1) (zaa (pv 4) zag))) zfi (zdd (pv 2)))))),?_⟩
 kt_k
 intro m H1 hm v s1
 kt_k
 intro D hD
 refine zf7 (fun y=> !decide (V.int y=bv)) hD (SqL.of v) (by rw [zbh]; omega) (fun x hx H2 Qt s2 q=>?_) fun H2 s2 af=>?_
 ·have sc:z27 (V.int x) bv=true:=by rcases u with rfl | ⟨b,rfl⟩ <;> rfl
  exact ⟨_,rfl,_,rfl,sc,_,rfl,q H2 (zau.refl H2)⟩
 ·have ae:Tab H2 Z.bk.P (zap zc5) quL:=((s1.trans s2).but _).2 _ _ a
  have j:((zaq (zfa ns n)).filter fun y=> !decide (V.int y=bv)).length<64:=j4 (ib _ _) (by rw [zbh]; exact d)
  have ab:∀ y∈(zaq (zfa ns n)).filter fun y=> !decide (V.int y=bv),0<=y:=fun y hy=>p y ((zam _).subset (gv.mp hy).1)
  kt_k
  intro l H3 nb aa hl ad
  have N3:Nx Z.bk.P H H3:=(Nx.of a (s1.trans s2)).trans ⟨nb,aa⟩
  kt_k
  rw [zic _ c]
  intro q hq
  exact k q _ (N3.same (zau.new H3 hq)) (N3.free hq) zac
def Ng (gd:Addr)(ks:List Int)(ad:Int->Addr)(q:Addr):Prop:=q=gd\/∃ k∈ks,q=ad k
theorem zb_.bounds {H:Hp}{gd:Addr}{ks:List Int}{ad:Int->Addr}{G:Int->List (Int × Th)}(M:zb_ H gd ks ad G){q:Addr}(h:Ng gd ks ad q):∃ d,H q=some (.dK d):=by
 rcases h with rfl | ⟨k,hk,rfl⟩
 ·exact ⟨_,M.tg⟩
 ·exact ⟨_,M.it k hk⟩
theorem zpk {h x:Int}{l:List Int}:x∈zcx h l↔x∈l\/x=h:=by
 unfold zcx
 split
 ·exact ⟨.inl,fun y=>y.elim id fun e=>by rw [e]; assumption⟩
 ·rw [fq,fi]
theorem zzb {ks:List Int}{ad:Int->Addr}{k:Int}{d:Addr}(hk:k∉ks):zd3 (thD ks ad) (Sum.inl k) (V.ref d)=thD (ks++[k]) (zcu ad k d):=by
 rw [zgh _ (by rw [zdp,if_neg hk])]
 unfold thD
 rw [gy]
 congr 1
 ·exact i5 fun x hx=>by rw [zao (fun e=>hk (by rw [<- e]; exact hx))]
 ·show [(Sum.inl k,V.ref d)]=[(Sum.inl k,V.ref (zcu ad k d k))]
  rw [zaj]
theorem zb_.put {H:Hp}{gd:Addr}{ks:List Int}{ad:Int->Addr}{G:Int->List (Int × Th)}(M:zb_ H gd ks ad G){k h:Int}{t:Th}(hk:k∈ks)(ht:H t.a=some (.tup [.int k,.int t.n,.str t.s])):zb_ (upd H (ad k) (.dK (inD (zf3 (G k) h t)))) gd ks ad (zcu G k (zf3 (G k) h t)):=by
 have tup:∀ {a:Addr} {xs:List V},H a=some (.tup xs)->upd H (ad k) (.dK (inD (zf3 (G k) h t))) a=some (.tup xs):=fun e=>by
  rw [zab (fun z=>by rw [z,M.it k hk] at e; cases e)]
  exact e
 refine ⟨?_,fun x hx=>?_,fun x hx e he=>?_,M.nk,M.ni,M.ne,fun x hx=>?_⟩
 ·rw [zab (M.ne k hk).symm]
  exact M.tg
 ·by_cases e:x=k
  ·rw [e,zac,zaj]
  ·rw [zab (fun z=>e (M.ni x hx k hk z)),zao e]
   exact M.it x hx
 ·by_cases z:x=k
  ·rw [z,zaj] at he
   rw [z]
   rcases zfk he with y | rfl
   ·exact tup (M.tu k hk e y)
   ·exact tup ht
  ·rw [zao z] at he
   exact tup (M.tu x hx e he)
 ·rw [zao (fun e=>hx (by rw [e]; exact hk))]
  exact M.go x hx
theorem zb_.new {H:Hp}{gd:Addr}{ks:List Int}{ad:Int->Addr}{G:Int->List (Int × Th)}(M:zb_ H gd ks ad G){k h:Int}{t:Th}{d:Addr}(hk:k∉ks)(ht:H t.a=some (.tup [.int k,.int t.n,.str t.s]))(hd:H d=none){H':Hp}(e1:H' gd=some (.dK (thD (ks++[k]) (zcu ad k d))))(e2:H' d=some (.dK (inD (zf3 (G k) h t))))(e3:∀ q o,H q=some o->q≠gd->H' q=some o):zb_ H' gd (ks++[k]) (zcu ad k d) (zcu G k (zf3 (G k) h t)):=by
 have f:d≠gd:=(zae M.tg hd).symm
 have c:∀ x∈ks,zcu ad k d x=ad x:=fun x hx=>zao (fun e=>hk (by rw [<- e]; exact hx))
 have tup:∀ {a:Addr} {xs:List V},H a=some (.tup xs)->H' a=some (.tup xs):=fun e=>e3 _ _ e (fun z=>by rw [z,M.tg] at e; cases e)
 have mem:∀ {x:Int},x∈ks++[k]->x∈ks\/x=k:=fun hx=>(fq.mp hx).imp id fi.mp
 refine ⟨e1,fun x hx=>?_,fun x hx e he=>?_,zbc M.nk hk,fun x hx y hy e=>?_,fun x hx=>?_,fun x hx=>?_⟩
 ·rcases mem hx with y | rfl
  ·rw [c x y,zao (fun e=>hk (by rw [<- e]; exact y))]
   exact e3 _ _ (M.it x y) (M.ne x y)
  ·rw [zaj,zaj]
   exact e2
 ·rcases mem hx with y | rfl
  ·rw [zao (fun e=>hk (by rw [<- e]; exact y))] at he
   exact tup (M.tu x y e he)
  ·rw [zaj,M.go _ hk] at he
   rcases zfk he with y | rfl
   ·cases y
   ·exact tup ht
 ·rcases mem hx with a | rfl <;> rcases mem hy with b | rfl
  ·rw [c x a,c y b] at e
   exact M.ni x a y b e
  ·rw [c x a,zaj] at e
   exact absurd e (zae (M.it x a) hd)
  ·rw [c y b,zaj] at e
   exact absurd e.symm (zae (M.it y b) hd)
  ·rfl
 ·rcases mem hx with y | rfl
  ·rw [c x y]
   exact M.ne x y
  ·rw [zaj]
   exact f
 ·have hx:x∉ks/\x≠k:=⟨fun y=>hx (gg _ y),fun y=>hx (fh _ (fi.mpr y))⟩
  rw [zao hx.2]
  exact M.go x hx.1
theorem zf0:zal ["self","house","key","thing","keepers"] ["self","house","key","thing"] (zai (zaf (top 27) 7)):=fS
def z0v (CW:Addr):Sp:=fun vs H Q _=>∀ CC:Prop,(∀ (w td sd:Addr) (z r:Int) (dx:Addr × Addr × Int) (ks:List Int) (ad:Int->Addr) (G:Int->List (Int × Th)) (h k:Int) (t:Th),vs=[.ref w,.int h,.int k,.ref t.a]->H w=some (.ins CW dx.1 (wF z r td sd dx))->zb_ H dx.2.1 ks ad G->H t.a=some (.tup [.int k,.int t.n,.str t.s])->ks.length<=900->(G k).length<=900->(∀ (H':Hp) (ad':Int->Addr),zb_ H' dx.2.1 (zcx k ks) ad' (zcu G k (zf3 (G k) h t))->(∀ T1,zd0 T1 H H' (Ng dx.2.1 ks ad) (Ng dx.2.1 (zcx k ks) ad'))->(k∈ks->ad'=ad)->Q .non H')->CC)->CC
theorem zfz (Z:ZZ P w K mg base):zbu Z 1 Z.ch (z0v Z.bc.C):=by
 have al:=Z.bc.cl
 obtain ⟨ag,ae,ak,ai,af,aj,-⟩:=Z.bc.na
 refine Z.ch.fn.ok zf0 (by kd_p) (fun cdv A outer s H vs Q E hr ab=>?_)
 refine ab _ fun w td sd z r dx ks ad G h kk t u g M ht ah ac k=>?_
 subst u
 have aa:(thD ks ad).length<sizeLine:=by
  unfold thD
  rw [fj]
  exact zar (by omega)
 have p:∀ l:List (Int × Th),l.length<=900->(inD l).length<sizeLine:=fun l hl=>by
  unfold inD
  rw [fj]
  exact zar (by omega)
 refine ⟨_,(zad (zax (i:=4) zf0.nd rfl oL (zp0 (zav (pv 0) rfl) (pv 2) zd4 ⟨rfl,rfl,rfl,rfl⟩))
  (zah (zf2 (zcz hr) (pv 4) (pv 1) (pv 3) rfl))),?_⟩
 kt_k
 refine ⟨.inl ⟨_,.inl M.tg⟩,?_⟩
 kt_k
 intro d hd
 have j:d≠dx.2.1:=(zae M.tg hd).symm
 refine ⟨_,Sum.inl kk,by rw [zab j.symm]; exact M.tg,rfl,aa,fun v hv=>?_,fun hv=>?_⟩
 ·rw [zdp] at hv
  by_cases hk:kk∈ks
  ·rw [if_pos hk] at hv
   cases hv
   have s1:zau H (upd H d (.dK [])):=zau.new H hd
   have M1:=M.same s1
   have n:=s1 _ _ ht
   have f:=s1 _ _ g
   have b:=M1.it kk hk
   generalize upd H d (.dK [])=H1 at s1 M1 n f b |-
   have c:zkl H1 (ad kk) (V.int h) (V.ref t.a) (upd H1 (ad kk) (.dK (zd3 (inD (G kk)) (Sum.inl h) (V.ref t.a)))):=zkl.k (k:=Sum.inl h) b (p _ ac)
   rw [zo4] at c
   kt_k
   have ea:zcx kk ks=ks:=by
    unfold zcx
    rw [if_pos hk]
   refine k _ ad (by rw [ea]; exact M1.put hk n) (fun T1=>?_) fun _=>rfl
   rw [ea]
   refine ⟨fun q o _ e hn=>?_,fun q y=> .inl y,fun q e=>?_,fun q ps e _=>?_⟩
   ·rw [zab (fun y=>hn (.inr ⟨kk,hk,y⟩))]
    exact s1 _ _ e
   ·by_cases y:q=ad kk
    ·rw [y,zac] at e
     cases e
    ·rw [zab y] at e
     exact s1.free e
   ·rw [zab (fun y=>by rw [y,M.it kk hk] at e; cases e)]
    exact s1 _ _ e
  ·rw [if_neg hk] at hv
   cases hv
 ·rw [zdp] at hv
  by_cases hk:kk∈ks
  ·rw [if_pos hk] at hv
   cases hv
  ·rw [zzb hk]
   have ea:zcx kk ks=ks++[kk]:=by
    unfold zcx
    rw [if_neg hk]
   have b:upd (upd H d (.dK [])) dx.2.1 (.dK (thD (ks++[kk]) (zcu ad kk d))) d=some (.dK (inD [])):=by
    rw [zab j,zac]
    rfl
   have f:upd (upd H d (.dK [])) dx.2.1 (.dK (thD (ks++[kk]) (zcu ad kk d))) w=some (.ins Z.bc.C dx.1 (wF z r td sd dx)):=by
    rw [zab (zck g M.tg (by intro z; cases z)),zab (zae g hd)]
    exact g
   have g1:upd (upd H d (.dK [])) dx.2.1 (.dK (thD (ks++[kk]) (zcu ad kk d))) dx.2.1=some (.dK (thD (ks++[kk]) (zcu ad kk d))):=zac
   have o1:∀ q o,H q=some o->q≠dx.2.1->upd (upd H d (.dK [])) dx.2.1 (.dK (thD (ks++[kk]) (zcu ad kk d))) q=some o:=fun q o e y=>by
    rw [zab y,zab (zae e hd)]
    exact e
   have f1:∀ q,upd (upd H d (.dK [])) dx.2.1 (.dK (thD (ks++[kk]) (zcu ad kk d))) q=none->H q=none:=fun q e=>by
    by_cases y:q=dx.2.1
    ·rw [y,zac] at e
     cases e
    ·rw [zab y] at e
     by_cases y2:q=d
     ·rw [y2]
      exact hd
     ·rw [zab y2] at e
      exact e
   generalize upd (upd H d (.dK [])) dx.2.1 (.dK (thD (ks++[kk]) (zcu ad kk d)))=H1 at b f g1 o1 f1 |-
   have c:zkl H1 d (V.int h) (V.ref t.a) (upd H1 d (.dK (zd3 (inD []) (Sum.inl h) (V.ref t.a)))):=zkl.k (k:=Sum.inl h) b (p _ (i9 _))
   rw [zo4] at c
   kt_k
   refine k _ (zcu ad kk d) ?_ (fun T1=>?_) fun y=>absurd y hk
   ·rw [ea]
    refine M.new hk ht hd ?_ ?_ fun q o e y=>?_
    ·rw [zab j.symm]
     exact g1
    ·rw [zac,M.go kk hk]
    ·rw [zab (zae e hd)]
     exact o1 q o e y
   ·rw [ea]
    refine ⟨fun q o _ e hn=>?_,fun q y=>?_,fun q e=>?_,fun q ps e _=>?_⟩
    ·rw [zab (zae e hd)]
     exact o1 q o e fun y=>hn (.inl y)
    ·rcases y with y | ⟨x,hx,y⟩
     ·exact .inl (.inl y)
     ·rcases fq.mp hx with m | m
      ·rw [zao (fun e=>hk (by rw [<- e]; exact m))] at y
       exact .inl (.inr ⟨x,m,y⟩)
      ·rw [fi.mp m,zaj] at y
       exact .inr (by rw [y]; exact hd)
    ·by_cases y:q=d
     ·rw [y]
      exact hd
     ·rw [zab y] at e
      exact f1 q e
    ·rw [zab (zae e hd)]
     exact o1 q _ e (fun y=>by rw [y,M.tg] at e; cases e)
def zf_:Expr:=match (zbd (zaf (top 27) 8)).getD 2 (.Pass zsn) with | .Return (some (.Call _ _ (k :: _) _)) _=>k.value | _=> .Constant .none 0 zsn
def quN:Str:=(("Market.newest" : Str) ++ ".<locals>.") ++ "<lambda>"
abbrev RN:Addr->FuncData->Prop:=RLm "<lambda>" quN (zde zf_) (zdh zf_) (zb7 zf_)
abbrev z4e (H:Hp)(f:Addr)(cv:List V)(fd:FuncData):Prop:=zvi H f "<lambda>" quN (zde zf_) (zdh zf_) (zb7 zf_) [] cv fd
def z3l (cv:List V):Sp:=fun vs H Q _=>∃ (a:Addr) (x y:V) (n:Int),vs=[.ref a]/\cv=[]/\H a=some (.tup [x,.int n,y])/\Q (.int n) H
def spN (f:Addr)(fd:FuncData):Sp:=fun vs H Q E=>∃ cv,cv.length=([]:List Str).length/\z4e H f cv fd/\z3l cv vs H Q E
def Ny (T:Addr)(H H':Hp):Prop:=(∀ b o,b≠T->H b=some o->H' b=some o)/\Tab H' T (zap zf_) quN
def thV (ts:List Th):List V:=ts.map fun t=>V.ref t.a
theorem zi8 {α:Type}{f:Int->Option α}{cs:List Int}{i:Nat}{c:Int}(h:cs[i]? = some c):(cs.take (i+1)).filterMap f=(cs.take i).filterMap f++(f c).toList:=by
 rw [jb,h,List.filterMap_append]
 congr 1
theorem zxy {f:Addr}{fd:FuncData}(h:RN f fd):zce K fd ["thing"] []:=by
 obtain ⟨clos,pm,c',ct,rfl⟩:=h
 exact .all (us1 fun _=>rfl)
theorem zxk:zgp ["thing"] ["thing"] [] (zb7 zf_):=⟨rfl,rfl,rfl,by decide +kernel,by decide +kernel,by decide +kernel,by decide +kernel,by decide +kernel,by decide +kernel,by decide +kernel⟩
theorem zyq {f:Addr}{fd:FuncData}:zdl P w K mg base CX0 1 f fd ["thing"] (spN f fd):=by
 refine zpe (name:= "<lambda>") (qual:=quN) (params:=zde zf_) (body:=zdh zf_) (sp:=z3l) zxk (fun cv vs H Q E h=>?_) (fun clos cdv A outer s H cv vs Q E hr b h=>?_)
 ·obtain ⟨a,x,y,n,rfl,_⟩:=h
  rfl
 ·obtain ⟨a,x,y,n,rfl,rfl,ha,k⟩:=h
  refine ⟨_,(zfw zjv (pv 0) zan (fun _ _=>rfl)),?_⟩
  kt_k
theorem zdc:zal ["self","key","houses","keepers","things"] ["self","key","houses"] (zai (zaf (top 27) 8)):=fS
def zvn (K:W.Frag)(CW T4:Addr):Sp:=fun vs H Q _=>∀ CC:Prop,(∀ (w td sd:Addr) (z r:Int) (dx:Addr × Addr × Int) (ks:List Int) (ad:Int->Addr) (G:Int->List (Int × Th)) (k:Int) (cl:Addr) (cs:List Int),vs=[.ref w,.int k,.ref cl]->H w=some (.ins CW dx.1 (wF z r td sd dx))->zb_ H dx.2.1 ks ad G->SqL K H cl (cs.map V.int)->cs.length<=900->Tab H T4 (zap zf_) quN->(∀ H',Ny T4 H H'->((∀ c∈cs,zb8 (G k) c=none)->Q .non H')/\∀ t c,c∈cs->zb8 (G k) c=some t->(∀ c'∈cs,∀ t',zb8 (G k) c'=some t'->t'.n<=t.n)->Q (.ref t.a) H')->CC)->CC
theorem zh4 (Z:ZZ P w K mg base):zw9 Z 3 Z.ci (zvn K Z.bc.C Z.ci.P):=by
 have az:=Z.bc.cl
 obtain ⟨ao,av,aq,ap,aw,ax,-⟩:=Z.bc.na
 have GL:∀ f fd,RN f fd->zdl P w K mg base CX0 1 f fd ["thing"] (spN f fd):=fun f fd _=>zyq
 have bL:∀ f fd,RN f fd->zce K fd ["thing"] []:=fun f fd h=>zxy h
 refine Z.ci.ok Z.db zdc (fz:=[]) (by decide +kernel) (by kd_p) (fun A outer s H vs Q E hr ak H1 sm ar hC=>?_)
 refine ak _ fun w td sd z r dx ks ad G kk cl cs ai aa M0 af hl ae k=>?_
 subst ai
 have au:=sm _ _ aa
 have M:=M0.same sm
 have hq:=sm.seq af
 have hT:=(sm.but Z.ci.P).2 _ _ ae
 refine ⟨_,(zad (zax (i:=3) zdc.nd rfl (Or.inr rfl) (zuw (zcz hr) (zav (pv 0) rfl) (pv 1) zd4 ⟨rfl,rfl,rfl,rfl⟩))
  (zad (zim (i:=4) zdc.nd rfl oL rfl (zbe (own:=["house"]) (caps:=[3]) (N':=["house","keepers"]) (by kernel_rfl)) (zbf (pv 2)) (fun _ _ _ _ _=>(zaw (i:=0) (show (["house","keepers"]:List Str).Nodup by decide +kernel) rfl oL)) (fun _ _ _ _ _=>(zhi (zr5 (zr3 (zcz hr) (pv 0) (pv 1))))) (fun _ _ _ _ _=>(zcp (zcz hr) (pv 1) (pv 0) (fun _ _=>rfl))))
  (zah (zas (zxl rfl rfl Z.da.n_max z1q GL bL hr.mm (pv 4) (zqa rfl hC Z.de (zfj (by kernel_rfl))) zen))))),?_⟩
 kt_k
 refine ⟨.inl ⟨_,.inl M.tg⟩,?_⟩
 kt_k
 intro d hd
 have s1:zau H1 (upd H1 d (.dK [])):=zau.new H1 hd
 have u:upd H1 d (.dK []) d=some (.dK []):=zac
 generalize upd H1 d (.dK [])=H2 at s1 u |-
 have M2:=M.same s1
 have hg:=zgf.k (k:=Sum.inl kk) M2.tg
 obtain ⟨kd,am,aj⟩:∃ kd,(zdy (thD ks ad) (Sum.inl kk)).getD (V.ref d)=V.ref kd/\H2 kd=some (.dK (inD (G kk))):=by
  rw [zdp]
  by_cases hk:kk∈ks
  ·rw [if_pos hk]
   exact ⟨_,rfl,M2.it kk hk⟩
  ·rw [if_neg hk,M.go kk hk]
   exact ⟨d,rfl,u⟩
 refine ⟨_,hg,?_⟩
 rw [am]
 have p:=s1.seq hq
 kt_k
 refine ⟨⟨_,p⟩,fun D hD=>?_⟩
 refine zdv (K:=K) (a:=cl) (xs:=cs.map V.int) (fun i σ H3=>zg3 (∃ v,σ=[v,some (.ref kd)]/\zau H2 H3/\H3 D=some (.lst (thV ((cs.take i).filterMap (zb8 (G kk))))))) ⟨⟨none,rfl,zau.new H2 hD,zac⟩⟩ (fun i σ H3 _ ⟨v,_,s3,_⟩=>s3.seq p) ?_ ?_
 ·rintro i y σ H3 hi ⟨v,rfl,s3,g⟩
  obtain ⟨c,hc,rfl⟩:∃ c,cs[i]? = some c/\y=V.int c:=by
   rw [List.getElem?_map] at hi
   cases e:cs[i]? with
   | none=>rw [e] at hi; cases hi
   | some x=>rw [e] at hi; exact ⟨x,rfl,(Option.some.inj hi).symm⟩
  have l:=zgf.k (k:=Sum.inl c) (s3 _ _ aj)
  rw [ziv] at l
  have an:(thV ((cs.take i).filterMap (zb8 (G kk)))).length<sizeLine:=by
   unfold thV
   rw [fj]
   have:=List.length_filterMap_le (zb8 (G kk)) (cs.take i)
   have:(cs.take i).length<=cs.length:=by rw [gq]; omega
   exact zar (by omega)
  cases e:zb8 (G kk) c with
  | none =>
   rw [e] at l
   kt_k
   refine ⟨⟨_,rfl,s3,?_⟩⟩
   rw [g,zi8 hc,e]
   rw [show (none:Option Th).toList=[] from rfl,iu]
  | some t =>
   rw [e] at l
   kt_k
   refine ⟨⟨_,rfl,s3.put hD,?_⟩⟩
   rw [zac,zi8 hc,e]
   unfold thV
   rw [gy]
   rfl
 ·rintro σ H3 ⟨v,rfl,s3,g⟩
  rw [fj,gr] at g
  have q:Tab H3 Z.ci.P (zap zf_) quN:=((s1.trans s3).but _).2 _ _ hT
  refine ⟨_,rfl,?_⟩
  dsimp only [zsi,zgk]
  refine zlj q fun f H' fo clos c' oc k1 k2 hb al hf ah sh m ag=>?_
  obtain ⟨fd,ay,hR,hF⟩:=zli (qual:=quN) (params:=zde zf_) (body:=zdh zf_) (scope:=zb7 zf_) (fr:=[]) (cv:=[]) sh ah m ag (fun i x v h1 h2=>by cases h1)
  have nP:∀ {b:Addr} {o:HO},(∀ ps,o≠ .tbl ps)->H3 b=some o->H' b=some o:=fun {b o} ho e=>hb _ _ (fun y=>by
   obtain ⟨ps,hP,_⟩:=q
   rw [y,hP] at e
   cases e
   exact ho _ rfl) e
  have M3:=M2.same s3
  have ny:Ny Z.ci.P H H':=⟨fun b o ab e=>hb _ _ ab (s3 _ _ (s1 _ _ (sm _ _ e))),al⟩
  have at_:∀ (i:Nat) (x:V),(thV (cs.filterMap (zb8 (G kk))))[i]? = some x->∃ t c,x=V.ref t.a/\c∈cs/\zb8 (G kk) c=some t/\(cs.filterMap (zb8 (G kk)))[i]? = some t:=fun i x hx=>by
   unfold thV at hx
   rw [List.getElem?_map] at hx
   obtain ⟨t,ht,rfl⟩:=jx.mp hx
   obtain ⟨c,hc,e⟩:=iw.mp (gj ht)
   exact ⟨t,c,rfl,hc,e,ht⟩
  obtain ⟨q0,q1⟩:=k H' ny
  refine ⟨D,f,fd,thV (cs.filterMap (zb8 (G kk))),fun i=>((cs.filterMap (zb8 (G kk)))[i]?.map (·.n)).getD 0,rfl,rfl,SqL.of (nP (fun _ z=>nomatch z) g),hR,fun i x hx Q' q'=>?_,fun e=>?_,fun i x hx hm=>?_⟩
  ·obtain ⟨t,c,rfl,hc,e,ht⟩:=at_ i x hx
   have hk:kk∈ks:=by
    refine Decidable.byContradiction fun hk=>?_
    rw [M.go kk hk] at e
    cases e
   have ac:H' t.a=some (.tup [.int kk,.int t.n,.str t.s]):=nP (fun _ z=>nomatch z) (M3.tu kk hk _ (zex e))
   replace q':Q' (.int (((cs.filterMap (zb8 (G kk)))[i]?.map (·.n)).getD 0)) H':=q'
   rw [ht] at q'
   exact ⟨[],rfl,hF,_,_,_,_,rfl,rfl,ac,q'⟩
  ·refine q0 fun c hc=>?_
   cases e2:zb8 (G kk) c with
   | none=>rfl
   | some t =>
    have:=iw.mpr ⟨c,hc,e2⟩
    unfold thV at e
    rw [List.map_eq_nil_iff] at e
    rw [e] at this
    cases this
  ·obtain ⟨t,c,rfl,hc,e,ht⟩:=at_ i x hx
   refine q1 t c hc e fun c' m t' e'=>?_
   obtain ⟨j,hj⟩:=List.getElem?_of_mem (iw.mpr ⟨c',m,e'⟩)
   have:=hm j (by
    unfold thV
    rw [fj]
    exact (List.getElem?_eq_some_iff.mp hj).1)
   simp only [ht,hj,l8,n9] at this
   exact this
theorem zb_.set {H:Hp}{gd:Addr}{ks:List Int}{ad:Int->Addr}{G:Int->List (Int × Th)}(M:zb_ H gd ks ad G){k:Int}{l:List (Int × Th)}(hk:k∈ks)(hl:∀ e∈l,e∈G k):zb_ (upd H (ad k) (.dK (inD l))) gd ks ad (zcu G k l):=by
 have tup:∀ {a:Addr} {xs:List V},H a=some (.tup xs)->upd H (ad k) (.dK (inD l)) a=some (.tup xs):=fun e=>by
  rw [zab (fun z=>by rw [z,M.it k hk] at e; cases e)]
  exact e
 refine ⟨?_,fun x hx=>?_,fun x hx e he=>?_,M.nk,M.ni,M.ne,fun x hx=>?_⟩
 ·rw [zab (M.ne k hk).symm]
  exact M.tg
 ·by_cases e:x=k
  ·rw [e,zac,zaj]
  ·rw [zab (fun z=>e (M.ni x hx k hk z)),zao e]
   exact M.it x hx
 ·by_cases z:x=k
  ·rw [z,zaj] at he
   rw [z]
   exact tup (M.tu k hk e (hl e he))
  ·rw [zao z] at he
   exact tup (M.tu x hx e he)
 ·rw [zao (fun e=>hx (by rw [e]; exact hk))]
  exact M.go x hx
theorem zgv {l:List (Int × Th)}{h:Int}:∀ e∈zia l h,e∈l:=fun e he=>(gv.mp he).1
theorem zy8 {l:List (Int × Th)}{h:Int}(e:zb8 l h=none):zia l h=l:=by
 unfold zia
 refine List.filter_eq_self.mpr fun x hx=>?_
 unfold zb8 at e
 rw [ir,List.find?_eq_none] at e
 have:=e x hx
 simpa using this
theorem zy2 {H H':Hp}{gd:Addr}{ks:List Int}{ad:Int->Addr}{k:Int}{o:HO}{d:List (Key × V)}(hk:k∈ks)(hd:H (ad k)=some (.dK d))(e:H'=upd H (ad k) o)(T1:Addr):zd0 T1 H H' (Ng gd ks ad) (Ng gd ks ad):=by
 subst e
 refine ⟨fun q o _ e hn=>?_,fun q y=> .inl y,fun q e=>?_,fun q ps e _=>?_⟩
 ·rw [zab (fun y=>hn (.inr ⟨k,hk,y⟩))]
  exact e
 ·by_cases y:q=ad k
  ·rw [y,zac] at e
   cases e
  ·rw [zab y] at e
   exact e
 ·rw [zab (fun y=>by rw [y,hd] at e; cases e)]
  exact e
theorem ze4:zal ["self","house","key"] ["self","house"] (zai (zaf (top 27) 10)):=fS
def zsf (CW:Addr):Sp:=fun vs H Q _=>∀ CC:Prop,(∀ (w td sd:Addr) (z r:Int) (dx:Addr × Addr × Int) (ks:List Int) (ad:Int->Addr) (G:Int->List (Int × Th)) (h:Int),vs=[.ref w,.int h]->H w=some (.ins CW dx.1 (wF z r td sd dx))->zb_ H dx.2.1 ks ad G->ks.length<=900->(∀ H',zb_ H' dx.2.1 ks ad (fun k=>zia (G k) h)->(∀ T1,zd0 T1 H H' (Ng dx.2.1 ks ad) (Ng dx.2.1 ks ad))->Q .non H')->CC)->CC
theorem zh9 (Z:ZZ P w K mg base):zbu Z 1 Z.ce (zsf Z.bc.C):=by
 have am:=Z.bc.cl
 obtain ⟨ae,ah,ag,af,ai,al,-⟩:=Z.bc.na
 refine Z.ce.fn.ok ze4 (by kd_p) (fun cdv A outer s H vs Q E hr aa=>?_)
 refine aa _ fun w td sd z r dx ks ad G h q p M aj k=>?_
 subst q
 have o:=zie (ks:=ks) (ad:=ad)
 have ak:=M.tg
 have ac:ks.length<=1000:=by omega
 refine ⟨_,(zah (zdf PassesOwn.never rfl (zbf (zdu (zqk rfl) rfl Z.da.n_list zjp (zaa (zav (pv 0) rfl) zag))) (zaw (i:=2) ze4.nd rfl oL)
   (zah (zat (zpz (zcp (zcz hr) (zav (pv 0) rfl) (pv 2) (fun _ _=>rfl)) (pv 1) zen ⟨rfl,rfl,rfl,rfl⟩))))),?_⟩
 kt_k
 intro l hl
 have s1:zau H (upd H l (.lst (ks.map V.int))):=zau.new H hl
 have g:upd H l (.lst (ks.map V.int)) l=some (.lst (ks.map V.int)):=zac
 generalize upd H l (.lst (ks.map V.int))=H1 at s1 g |-
 have M1:=M.same s1
 have f:=s1 _ _ p
 have nl:¬ Ng dx.2.1 ks ad l:=fun y=>by
  obtain ⟨d,e⟩:=M1.bounds y
  rw [g] at e
  cases e
 have nw:¬ Ng dx.2.1 ks ad w:=fun y=>by
  obtain ⟨d,e⟩:=M1.bounds y
  rw [f] at e
  cases e
 kt_k
 refine zbs (K:=K) (a:=l) (xs:=ks.map V.int) (fun j σ H2=>zg3 (∃ v,σ=[some (.ref w),some (.int h),v]/\zb_ H2 dx.2.1 ks ad (fun k=>if k∈ks.take j then zia (G k) h else G k)/\∀ T1,zd0 T1 H1 H2 (Ng dx.2.1 ks ad) (Ng dx.2.1 ks ad))) ?_ (fun j σ H2 _ ⟨_,_,_,d2⟩=>SqL.of ((d2 0).k _ _ (fun _ z=>nomatch z) g nl)) ?_ ?_
 ·refine ⟨⟨_,rfl,?_,fun T1=>zd0.refl _ _⟩⟩
  have e:(fun k=>if k∈ks.take 0 then zia (G k) h else G k)=G:=by
   funext k
   rw [List.take_zero,if_neg (fun z=>nomatch z)]
  rw [e]
  exact M1
 ·rintro j y σ H2 hj ⟨v,rfl,M2,d2⟩
  obtain ⟨x,hx,rfl⟩:∃ x,ks[j]? = some x/\y=V.int x:=by
   rw [List.getElem?_map] at hj
   cases e:ks[j]? with
   | none=>rw [e] at hj; cases hj
   | some x=>rw [e] at hj; exact ⟨x,rfl,(Option.some.inj hj).symm⟩
  have c:x∈ks:=gj hx
  have n:x∉ks.take j:=fun y=>by
   obtain ⟨i,hi,e⟩:=List.mem_take_iff_getElem.mp y
   obtain ⟨h2,e2⟩:=List.getElem?_eq_some_iff.mp hx
   have:=(jo M.nk).mp (e.trans e2.symm)
   omega
  have ab:H2 w=some (.ins Z.bc.C dx.1 (wF z r td sd dx)):=(d2 0).k _ _ (fun _ z=>nomatch z) f nw
  have t:=zgf.k (k:=Sum.inl x) M2.tg
  rw [zdp,if_pos c] at t
  have b:=M2.it x c
  rw [if_neg n] at b
  have ek:(fun k=>if k∈ks.take (j+1) then zia (G k) h else G k)=zcu (fun k=>if k∈ks.take j then zia (G k) h else G k) x (zia (G x) h):=by
   funext k
   rw [zcc hx]
   by_cases e:k=x
   ·rw [e,zaj,if_pos (fh _ (fi.mpr rfl))]
   ·rw [zao e]
    by_cases m:k∈ks.take j
    ·rw [if_pos m,if_pos (gg _ m)]
    ·rw [if_neg m,if_neg (fun y=>(fq.mp y).elim m fun z=>e (fi.mp z))]
  kt_k
  refine ⟨.inl ⟨_,.inl b⟩,_,rfl,_,Sum.inl h,b,rfl,fun u hu=>?_,fun hu=>?_⟩
  ·rw [zvy]
   refine ⟨⟨_,rfl,?_,fun T1=>(d2 T1).trans (zy2 c b rfl T1)⟩⟩
   rw [ek]
   exact M2.set c fun e he=>by
    rw [if_neg n]
    exact zgv e he
  ·refine ⟨⟨_,rfl,?_,d2⟩⟩
   rw [ziv,ir] at hu
   rw [ek,zy8 hu]
   have e:zcu (fun k=>if k∈ks.take j then zia (G k) h else G k) x (G x)=fun k=>if k∈ks.take j then zia (G k) h else G k:=by
    funext k
    by_cases e:k=x
    ·rw [e,zaj,if_neg n]
    ·rw [zao e]
   rw [e]
   exact M2
 ·rintro σ H2 ⟨v,rfl,M2,d2⟩
  have e:(fun k=>if k∈ks.take (ks.map V.int).length then zia (G k) h else G k)=fun k=>zia (G k) h:=by
   funext k
   rw [fj,gr]
   by_cases m:k∈ks
   ·rw [if_pos m]
   ·rw [if_neg m,M.go k m]
    rfl
  rw [e] at M2
  exact k H2 M2 fun T1=>(zd0.same s1).trans (d2 T1)
theorem zj4:zal ["self","house"] ["self","house"] (zai (zaf (top 27) 3)):=fS
def zz1 (ks:List Int)(G:Int->List (Int × Th))(h:Int):List Th:=(zaq ks).filterMap fun k=>zb8 (G k) h
def z0o (CB CT CW:Addr):Sp:=fun vs H Q _=>∀ CC:Prop,(∀ (w td sd:Addr) (z r:Int) (hs sil:List Int) (T:Int->zbk) (dx:Addr × Addr × Int) (ks:List Int) (ad:Int->Addr) (G:Int->List (Int × Th)) (h:Int),vs=[.ref w,.int h]->zak CB CT CW H w td sd z r hs sil T->h∈hs->H w=some (.ins CW dx.1 (wF z r td sd dx))->zb_ H dx.2.1 ks ad G->ks.length<64->(∀ (l:Addr) (H':Hp),zau H H'->H l=none->H' l=some (.lst (thV (zz1 ks G h)))->Q (.ref l) H')->CC)->CC
theorem zko (Z:ZZ P w K mg base){CB CT:Addr}:zbu Z 5 Z.cj (z0o CB CT Z.bc.C):=by
 have ak:=Z.bc.cl
 obtain ⟨af,ac,aj,ag,ae,ai,-⟩:=Z.bc.na
 have n:=zbo (CB:=CB) (CT:=CT) Z
 refine Z.cj.fn.ok zj4 (by kd_p) (fun cdv A outer s H vs Q E hr o=>?_)
 refine o _ fun w td sd z r hs sil TT dx ks ad G h m hW hh u M al k=>?_
 subst m
 have q:=zie (ks:=ks) (ad:=ad)
 have ah:=M.tg
 refine ⟨_,(zad (zat (pmD (pv 0) Z.bc.cl Z.bu n hr (zaa (pv 1) zag)))
  (zah (zas (zg6 rfl (zbe (own:=["key"]) (caps:=[1,0]) (N':=["key","house","self"]) (by kernel_rfl)) (zbf (za2 (zch rfl) rfl Z.da.n_sorted zby (zaa (zav (pv 0) rfl) zag))) (fun _ _ _ _ _=>(zaw (i:=0) (show (["key","house","self"]:List Str).Nodup by decide +kernel) rfl oL)) (fun _ _ _ _ _=>(zhi (zr5 (zr3 (zcz hr) (pv 1) (zcp (zcz hr) (zrx (K:=K) rfl (pv 2) rfl) (pv 0) (fun _ _=>rfl)))))) (fun _ _ _ _ _=>(zcp (zcz hr) (zcp (zcz hr) (zrx (K:=K) rfl (pv 2) rfl) (pv 0) (fun _ _=>rfl)) (pv 1) (fun _ _=>rfl))))))),?_⟩
 kt_k
 intro l hl
 have s1:zau H (upd H l (.lst ((zaq ks).map V.int))):=zau.new H hl
 have g:upd H l (.lst ((zaq ks).map V.int)) l=some (.lst ((zaq ks).map V.int)):=zac
 generalize upd H l (.lst ((zaq ks).map V.int))=H1 at s1 g |-
 kt_k
 intro D hD
 refine zdv (K:=K) (a:=l) (xs:=(zaq ks).map V.int) (fun i σ H3=>zg3 (∃ v,σ=[v,some (.int h),some (.ref w)]/\zau H1 H3/\H3 D=some (.lst (thV (((zaq ks).take i).filterMap fun k=>zb8 (G k) h))))) ⟨⟨none,rfl,zau.new H1 hD,zac⟩⟩ (fun i σ H3 _ ⟨v,_,s3,_⟩=>s3.seq (SqL.of g)) ?_ ?_
 ·rintro i y σ H3 hi ⟨v,rfl,s3,b⟩
  obtain ⟨c,hc,rfl⟩:∃ c,(zaq ks)[i]? = some c/\y=V.int c:=by
   rw [List.getElem?_map] at hi
   cases e:(zaq ks)[i]? with
   | none=>rw [e] at hi; cases hi
   | some x=>rw [e] at hi; exact ⟨x,rfl,(Option.some.inj hi).symm⟩
  have f:c∈ks:=(zam _).subset (gj hc)
  have j:=s1.trans s3
  have M3:=M.same j
  have ab:=j _ _ u
  have p:=zgf.k (k:=Sum.inl c) M3.tg
  rw [zdp,if_pos f] at p
  have d:=zgf.k (k:=Sum.inl h) (M3.it c f)
  rw [ziv] at d
  have aa:(thV (((zaq ks).take i).filterMap fun k=>zb8 (G k) h)).length<sizeLine:=by
   unfold thV
   rw [fj]
   have:=List.length_filterMap_le (fun k=>zb8 (G k) h) ((zaq ks).take i)
   have:((zaq ks).take i).length<=(zaq ks).length:=by rw [gq]; omega
   have:=zbh ks
   exact zar (by omega)
  cases e:zb8 (G c) h with
  | none =>
   rw [e] at d
   kt_k
   refine ⟨⟨_,rfl,s3,?_⟩⟩
   rw [b,zi8 hc,e]
   rw [show (none:Option Th).toList=[] from rfl,iu]
  | some t =>
   rw [e] at d
   kt_k
   refine ⟨⟨_,rfl,s3.put hD,?_⟩⟩
   rw [zac,zi8 hc,e]
   unfold thV
   rw [gy]
   rfl
 ·rintro σ H3 ⟨v,rfl,s3,b⟩
  rw [fj,gr] at b
  exact k D H3 (s1.trans s3) (s1.free hD) b
structure Kw (T0 T4:Addr)(O:Addr->Prop)(H H':Hp):Prop where
 k:∀ q o,q≠T0->q≠T4->¬ O q->H q=some o->H' q=some o
 t0:Tab H' T0 (zap zc5) quL
 t4:Tab H' T4 (zap zf_) quN
 e:∀ q,H' q=none->H q=none
theorem Kw.refl {T0 T4:Addr}{O:Addr->Prop}{H:Hp}(t0:Tab H T0 (zap zc5) quL)(t4:Tab H T4 (zap zf_) quN):Kw T0 T4 O H H:=⟨fun _ _ _ _ _ e=>e,t0,t4,fun _ e=>e⟩
theorem Kw.trans {T0 T4:Addr}{O:Addr->Prop}{H H1 H2:Hp}(a:Kw T0 T4 O H H1)(b:Kw T0 T4 O H1 H2):Kw T0 T4 O H H2:=⟨fun q o h0 h4 hn e=>b.k q o h0 h4 hn (a.k q o h0 h4 hn e),b.t0,b.t4,fun q e=>a.e q (b.e q e)⟩
theorem za1 {H:Hp}{T:Addr}{po:Pos}{qu:Str}(t:Tab H T po qu):∃ ps,H T=some (.tbl ps):=by
 obtain ⟨ps,h,_⟩:=t
 exact ⟨ps,h⟩
theorem Tab.past {H H':Hp}{Ta Tb:Addr}{po:Pos}{qu:Str}(t:Tab H Ta po qu)(n:Ta≠Tb)(hb:∃ ps,H Tb=some (.tbl ps))(k:∀ b o,b≠Tb->H b=some o->H' b=some o):Tab H' Ta po qu:=Tab.hold t fun q o ho e=>k q o (fun y=>by
 rcases ho with ⟨x,kk,rfl⟩ | y2
 ·obtain ⟨ps,hp⟩:=hb
  rw [y,hp] at e
  cases e
 ·exact n (y2.symm.trans y)) e
theorem Tab.deed {H H':Hp}{O O':Addr->Prop}{Ta:Addr}{po:Pos}{qu:Str}(t:Tab H Ta po qu)(d:∀ T1,zd0 T1 H H' O O')(hO:∀ q,O q->∃ x,H q=some (.dK x)):Tab H' Ta po qu:=Tab.hold t fun q o ho e=>by
 rcases ho with ⟨x,kk,rfl⟩ | y
 ·exact (d 0).k q _ (fun _ z=>nomatch z) e fun y=>by
   obtain ⟨x,e2⟩:=hO q y
   rw [e] at e2
   cases e2
 ·obtain ⟨ps,hp⟩:=za1 t
  rw [y,hp] at e
  cases e
  rw [y]
  exact (d (Ta+1)).t Ta ps hp (gl (ic _))
theorem ziy {H H':Hp}{T:Addr}(h:∃ ps,H' T=some (.tbl ps))(k:∀ b o,b≠T->H b=some o->H' b=some o):∀ q,H' q=none->H q=none:=fun q e=>by
 cases eq:H q with
 | none=>rfl
 | some o =>
  by_cases y:q=T
  ·obtain ⟨ps,hp⟩:=h
   rw [y,hp] at e
   cases e
  ·rw [k q o y eq] at e
   cases e
theorem Kw.same {T0 T4:Addr}{O:Addr->Prop}{H H1 H2:Hp}(a:Kw T0 T4 O H H1)(s:zau H1 H2):Kw T0 T4 O H H2:=⟨fun q o h0 h4 hn e=>s _ _ (a.k q o h0 h4 hn e),(s.but T0).2 _ _ a.t0,(s.but T4).2 _ _ a.t4,fun q e=>a.e q (s.free e)⟩
theorem Kw.ny {T0 T4:Addr}{O:Addr->Prop}{H H1 H2:Hp}(a:Kw T0 T4 O H H1)(n:T0≠T4)(b:Ny T4 H1 H2):Kw T0 T4 O H H2:=⟨fun q o h0 h4 hn e=>b.1 _ _ h4 (a.k q o h0 h4 hn e),Tab.past a.t0 n (za1 a.t4) b.1,b.2,fun q e=>a.e q (ziy (za1 b.2) b.1 q e)⟩
theorem Kw.nx {T0 T4:Addr}{O:Addr->Prop}{H H1 H2:Hp}(a:Kw T0 T4 O H H1)(n:T0≠T4)(b:∀ b o,b≠T0->H1 b=some o->H2 b=some o)(t:Tab H2 T0 (zap zc5) quL):Kw T0 T4 O H H2:=⟨fun q o h0 h4 hn e=>b _ _ h0 (a.k q o h0 h4 hn e),t,Tab.past a.t4 n.symm (za1 a.t0) b,fun q e=>a.e q (ziy (za1 t) b q e)⟩
theorem Kw.deed {T0 T4:Addr}{O:Addr->Prop}{H H1 H2:Hp}(a:Kw T0 T4 O H H1)(d:∀ T1,zd0 T1 H1 H2 O O)(hO:∀ q,O q->∃ x,H1 q=some (.dK x)):Kw T0 T4 O H H2:=⟨fun q o h0 h4 hn e=>by
 have e1:=a.k q o h0 h4 hn e
 by_cases z:∃ ps,o = .tbl ps
 ·obtain ⟨ps,rfl⟩:=z
  exact (d (q+1)).t q ps e1 (gl (ic _))
 ·exact (d 0).k q o (fun ps y=>z ⟨ps,y⟩) e1 hn,Tab.deed a.t0 d hO,Tab.deed a.t4 d hO,fun q e=>a.e q ((d 0).e q e)⟩
theorem Kw.ob {T0 T4:Addr}{O:Addr->Prop}{H H1:Hp}(a:Kw T0 T4 O H H1)(t0:∃ ps,H T0=some (.tbl ps))(t4:∃ ps,H T4=some (.tbl ps))(hO:∀ q,O q->∃ x,H q=some (.dK x)){q:Addr}{o:HO}(h1:∀ ps,o≠ .tbl ps)(h2:∀ d,o≠ .dK d)(e:H q=some o):H1 q=some o:=a.k q o (fun y=>by
 obtain ⟨ps,hp⟩:=t0
 rw [y,hp] at e
 exact h1 ps (Option.some.inj e).symm) (fun y=>by
 obtain ⟨ps,hp⟩:=t4
 rw [y,hp] at e
 exact h1 ps (Option.some.inj e).symm) (fun y=>by
 obtain ⟨d,hd⟩:=hO q y
 rw [hd] at e
 exact h2 d (Option.some.inj e).symm) e
def zhg (r:Int)(h:Int)(vis:List Int)(k:Int)(l l':List (Int × Th)):Prop :=
 ((∀ c∈vis++[h],zb8 l c=none)\/h∉(zcs k (vis++[h])).take r.toNat)/\l'=l \/
 ∃ t c,c∈vis++[h]/\zb8 l c=some t/\(∀ c'∈vis++[h],∀ t',zb8 l c'=some t'->t'.n<=t.n)/\h∈(zcs k (vis++[h])).take r.toNat/\l'=zf3 l h t
theorem zb4:zal ["self","house","visited","circle","key","thing"] ["self","house","visited"] (zai (zaf (top 27) 9)):=fS
def zk5 (K:W.Frag)(CW T0 T4:Addr):Sp:=fun vs H Q _=>∃ (w td sd:Addr) (z r:Int) (dx:Addr × Addr × Int) (ks:List Int) (ad:Int->Addr) (G:Int->List (Int × Th)) (h:Int) (vl:Addr) (vis:List Int),vs=[.ref w,.int h,.ref vl]/\H w=some (.ins CW dx.1 (wF z r td sd dx))/\zb_ H dx.2.1 ks ad G/\H vl=some (.lst (vis.map V.int))/\vis.length<60/\0<=h/\(∀ x∈vis,0<=x)/\ks.length<64/\(∀ k∈ks,0<=k)/\(∀ k,(G k).length<=800)/\1<=r/\Tab H T0 (zap zc5) quL/\Tab H T4 (zap zf_) quN /\
 ∀ (H':Hp) (G':Int->List (Int × Th)),zb_ H' dx.2.1 ks ad G'->(∀ k∈ks,zhg r h vis k (G k) (G' k))->Kw T0 T4 (Ng dx.2.1 ks ad) H H'->Q .non H'
theorem zjq {K:W.Frag}{CW T0 T4:Addr}:z1o (zk5 K CW T0 T4):=fun vs H Q Q' E hq h=>by
 obtain ⟨w,td,sd,z,r,dx,ks,ad,G,h,vl,vis,a1,a2,a3,a4,a5,a6,a7,a8,a9,a10,a11,a12,a13,k⟩:=h
 exact ⟨w,td,sd,z,r,dx,ks,ad,G,h,vl,vis,a1,a2,a3,a4,a5,a6,a7,a8,a9,a10,a11,a12,a13,fun H' G' b1 b2 b3=>hq _ _ (k H' G' b1 b2 b3)⟩
theorem zg4 (Z:ZZ P w K mg base):zbu Z 6 Z.cb (zk5 K Z.bc.C Z.bk.P Z.ci.P):=by
 have cj:=Z.bc.cl
 obtain ⟨bt,ca,b7,bv,bz,ce,-⟩:=Z.bc.na
 have a5:=zwk Z
 have bb:=zfz Z
 have bg:=zh4 Z
 refine Z.cb.fn.ok zb4 (by kd_p) (fun cdv A outer s H vs Q E hr h=>?_)
 obtain ⟨w,td,sd,z,r,dx,ks,ad,G,h,vl,d,rfl,am,M,hq,bu,be,a1,bw,a4,a7,ck,av,ak,k⟩:=h
 have a2:=zie (ks:=ks) (ad:=ad)
 have x0:=za1 av
 have x4:=za1 ak
 have cc:∀ q,Ng dx.2.1 ks ad q->∃ x,H q=some (.dK x):=fun q y=>M.bounds y
 refine ⟨_,(zad (zax (i:=3) zb4.nd rfl oL (za0 zjo (pv 2) (zcn (zaa (pv 1) zag))))
  (zah (zdf PassesOwn.never rfl (zbf (za2 (zch rfl) rfl Z.da.n_sorted zby (zaa (zav (pv 0) rfl) zag))) (zaw (i:=4) zb4.nd rfl oL)
   (zad (zax (i:=5) zb4.nd rfl oL (ze0 (pv 0) Z.bc.cl Z.ci.me bg hr.mm Z.ci.b .nil zb5 (zaa (pv 4) (zaa (pv 3) zag))))
   (zah (zbw (PW.pt (zr7 (zaz zoo (pv 5) zen (zbb _)) (zog (zaz zns (pv 1) (zc3 zeb (zhc a5 hr.mm rfl Z.bk.hm Z.bk.kp Z.bk.b .nil zb5 (zaa (pv 4) (zaa (pv 3) zag))) zfi (zdd (zav (pv 0) rfl))) (by with_unfolding_all rfl)))))
    (zah (zat (pmD (pv 0) Z.bc.cl Z.ch bb hr (zaa (pv 1) (zaa (pv 4) (zaa (pv 5) zag))))))
    zay)))))),?_⟩
 kt_k
 intro l1 a9
 generalize aw:upd H l1 _=H1
 obtain ⟨s1,e1⟩:=nw a9 aw
 clear aw
 have b2:=s1 _ _ hq
 have hsz:(d.map V.int).length+[V.int h].length<=sizeLine:=by
  rw [fj]
  exact gx (zar (by simp only [fu]; omega))
 kt_k
 intro cl az
 rw [<- zfs]
 generalize ax:upd H1 cl _=H2
 obtain ⟨s2,e2⟩:=nw az ax
 clear ax
 have ag:=s1.trans s2
 have M2:=M.same ag
 have bo:=M2.tg
 have bn:=ag _ _ am
 kt_k
 intro sl bd
 generalize al:upd H2 sl _=H3
 obtain ⟨s3,e3⟩:=nw bd al
 clear al
 have m:=ag.trans s3
 have M3:=M.same m
 have p:=m _ _ am
 have ab:=s3 _ _ e2
 have l:∃ ps,H3 Z.bk.P=some (.tbl ps):=let ⟨ps,e⟩:=x0; ⟨ps,m _ _ e⟩
 have g:∃ ps,H3 Z.ci.P=some (.tbl ps):=let ⟨ps,e⟩:=x4; ⟨ps,m _ _ e⟩
 have f:∀ q,Ng dx.2.1 ks ad q->∃ x,H3 q=some (.dK x):=fun q y=>M3.bounds y
 have ae:Kw Z.bk.P Z.ci.P (Ng dx.2.1 ks ad) H H3:=(Kw.refl av ak).same m
 have cpos:∀ n∈d++[h],0<=n:=fun n hn=>(fq.mp hn).elim (a1 n) fun y=>fi.mp y ▸ be
 have br:(d++[h]).length<64:=by
  rw [fm,fu]
  omega
 have bh:(d++[h]).length<=900:=by omega
 kt_k
 refine zbs (K:=K) (a:=sl) (xs:=(zaq ks).map V.int) (fun j σ H6=>zg3 (∃ (v4 v5:Option V) (G6:Int->List (Int × Th)),σ=[some (.ref w),some (.int h),some (.ref vl),some (.ref cl),v4,v5]/\zb_ H6 dx.2.1 ks ad G6/\(∀ k∈(zaq ks).take j,zhg r h d k (G k) (G6 k))/\(∀ k,k∉(zaq ks).take j->G6 k=G k)/\Kw Z.bk.P Z.ci.P (Ng dx.2.1 ks ad) H3 H6)) ?_ (fun j σ H6 _ ⟨_,_,_,_,_,_,_,k6⟩=>SqL.of (k6.ob l g f (fun _ z=>nomatch z) (fun _ z=>nomatch z) e3)) ?_ ?_
 ·exact ⟨⟨_,_,G,rfl,M3,fun k hk=>absurd hk (by simp),fun _ _=>rfl,Kw.refl ae.t0 ae.t4⟩⟩
 ·rintro j y σ H6 hj ⟨v4,v5,G6,rfl,M6,v,ai,k6⟩
  obtain ⟨x,hx,rfl⟩:∃ x,(zaq ks)[j]? = some x/\y=V.int x:=by
   rw [List.getElem?_map] at hj
   cases e:(zaq ks)[j]? with
   | none=>rw [e] at hj; cases hj
   | some x=>rw [e] at hj; exact ⟨x,rfl,(Option.some.inj hj).symm⟩
  have u:x∈ks:=(zam _).subset (gj hx)
  have a6:(zaq ks).Nodup:=(zam ks).nodup_iff.mpr M.nk
  have bf:x∉(zaq ks).take j:=fun y=>by
   obtain ⟨i,hi,e⟩:=List.mem_take_iff_getElem.mp y
   obtain ⟨h2,e2⟩:=List.getElem?_eq_some_iff.mp hx
   have:=(jo a6).mp (e.trans e2.symm)
   omega
  have eG:=ai x bf
  have bl:H6 w=some (.ins Z.bc.C dx.1 (wF z r td sd dx)):=k6.ob l g f (fun _ z=>nomatch z) (fun _ z=>nomatch z) p
  have aq:H6 cl=some (.lst ((d++[h]).map V.int)):=k6.ob l g f (fun _ z=>nomatch z) (fun _ z=>nomatch z) ab
  have b9:SqL K H6 cl ((d++[h]).map V.int):=SqL.of aq
  have cf:=k6.t4
  have ah:∀ (H7:Hp) (G7:List (Int × Th)) (v5:Option V),zb_ H7 dx.2.1 ks ad (zcu G6 x G7)->zhg r h d x (G x) G7->Kw Z.bk.P Z.ci.P (Ng dx.2.1 ks ad) H3 H7->∃ (v4 v5':Option V) (G6:Int->List (Int × Th)),[some (V.ref w),some (V.int h),some (V.ref vl),some (V.ref cl),some (V.int x),v5]=[some (.ref w),some (.int h),some (.ref vl),some (.ref cl),v4,v5']/\zb_ H7 dx.2.1 ks ad G6/\(∀ k∈(zaq ks).take (j+1),zhg r h d k (G k) (G6 k))/\(∀ k,k∉(zaq ks).take (j+1)->G6 k=G k)/\Kw Z.bk.P Z.ci.P (Ng dx.2.1 ks ad) H3 H7:=fun H7 G7 v5 M7 ba k7=>by
   refine ⟨_,_,_,rfl,M7,fun k hk=>?_,fun k hk=>?_,k7⟩
   ·rw [zcc hx] at hk
    by_cases e:k=x
    ·rw [e,zaj]
     exact ba
    ·rw [zao e]
     exact v k ((fq.mp hk).elim id fun z=>absurd (fi.mp z) e)
   ·rw [zcc hx] at hk
    have hk:k∉(zaq ks).take j/\k≠x:=⟨fun y=>hk (gg _ y),fun y=>hk (fh _ (fi.mpr y))⟩
    rw [zao hk.2]
    exact ai k hk.1
  have eS:zcu G6 x (G x)=G6:=by
   funext k
   by_cases e:k=x
   ·rw [e,zaj,eG]
   ·rw [zao e]
  kt_k
  intro H7 ap
  have k7:=k6.ny Z.df ap
  rw [eG]
  have bi:=za1 k6.t4
  have M7:zb_ H7 dx.2.1 ks ad G6:=M6.keep fun q o ho e=>ap.1 q o (fun y=>by
   obtain ⟨ps,hp⟩:=bi
   rw [y,hp] at e
   cases e
   rcases ho with z | ⟨kk,af,z⟩ | ⟨xs,z⟩
   ·rw [y] at z
    rw [z,M6.tg] at hp
    cases hp
   ·rw [y] at z
    rw [z,M6.it kk af] at hp
    cases hp
   ·cases z) e
  refine ⟨fun aj=>?_,fun t c hc ht ay=>?_⟩
  ·kt_k
   exact ⟨ah H7 (G x) _ (by rw [eS]; exact M7) (.inl ⟨.inl aj,rfl⟩) k7⟩
  ·have bp:H7 w=some (.ins Z.bc.C dx.1 (wF z r td sd dx)):=k7.ob l g f (fun _ z=>nomatch z) (fun _ z=>nomatch z) p
   have ar:H7 cl=some (.lst ((d++[h]).map V.int)):=k7.ob l g f (fun _ z=>nomatch z) (fun _ z=>nomatch z) ab
   have b1:SqL K H7 cl ((d++[h]).map V.int):=SqL.of ar
   have b3:=k7.t0
   have b5:=a4 x u
   have b0:H7 t.a=some (.tup [.int x,.int t.n,.str t.s]):=M7.tu x u (c,t) (by rw [eG]; exact zex ht)
   kt_k
   intro nl H8 b8 t8 b6 e8
   have k8:=k7.nx Z.df b8 t8
   have a8:=za1 k7.t0
   have M8:zb_ H8 dx.2.1 ks ad G6:=M7.keep fun q o ho e=>b8 q o (fun y=>by
    obtain ⟨ps,hp⟩:=a8
    rw [y,hp] at e
    cases e
    rcases ho with z | ⟨kk,af,z⟩ | ⟨xs,z⟩
    ·rw [y] at z
     rw [z,M7.tg] at hp
     cases hp
    ·rw [y] at z
     rw [z,M7.it kk af] at hp
     cases hp
    ·cases z) e
   have au:H8 w=some (.ins Z.bc.C dx.1 (wF z r td sd dx)):=k8.ob l g f (fun _ z=>nomatch z) (fun _ z=>nomatch z) p
   kt_k
   intro l2 a0
   rw [zic _ (by omega)]
   generalize ao:upd H8 l2 _=H9
   obtain ⟨s9,e9⟩:=nw a0 ao
   clear ao
   have M9:=M8.same s9
   have k9:=k8.same s9
   have bj:=s9 _ _ au
   have bq:H9 t.a=some (.tup [.int x,.int t.n,.str t.s]):=M9.tu x u (c,t) (by rw [eG]; exact zex ht)
   have b4:=zel ((zcs x (d++[h])).take r.toNat)
   have cg:(G6 x).length<=900:=by
    rw [eG]
    have:=a7 x
    omega
   have cd:ks.length<=900:=by omega
   kt_k
   rw [zin]
   by_cases aa:h∈(zcs x (d++[h])).take r.toNat
   ·rw [decide_eq_true aa]
    kt_k
    intro a3 bm ac an ea
    have el:zcx x ks=ks:=by
     unfold zcx
     rw [if_pos u]
    rw [el] at ac an
    obtain rfl:=ea u
    rw [eG] at ac
    exact ⟨ah a3 (zf3 (G x) h t) _ ac (.inr ⟨t,c,hc,ht,ay,aa,rfl⟩) (k9.deed an fun q y=>M9.bounds y)⟩
   ·rw [decide_eq_false aa]
    kt_k
    exact ⟨ah H9 (G x) _ (by rw [eS]; exact M9) (.inl ⟨.inr aa,rfl⟩) k9⟩
 ·rintro σ H6 ⟨v4,v5,G6,rfl,M6,v,ai,k6⟩
  rw [fj,gr] at v
  exact k H6 G6 M6 (fun k hk=>v k ((zam _).symm.subset hk)) (ae.trans k6)
structure Nz (ex:Addr->Prop)(TB:Hp->Prop)(H H':Hp):Prop where
 k:∀ q o,¬ ex q->H q=some o->H' q=some o
 t:TB H'
structure TBO (T0:Addr)(ex:Addr->Prop)(TB:Hp->Prop):Prop where
 hold:∀ {H H':Hp},TB H->(∀ q o,((∃ x k,o=HO.frz x k)\/ex q)->H q=some o->H' q=some o)->TB H'
 is:∀ {H:Hp} {q:Addr},TB H->ex q->∃ ps,H q=some (.tbl ps)
 t0:∀ {H:Hp},TB H->Tab H T0 (zap zc5) quL
 e0:ex T0
 up:∀ {H H':Hp},TB H->(∀ b o,b≠T0->H b=some o->H' b=some o)->Tab H' T0 (zap zc5) quL->TB H'
section
variable {T0:Addr} {ex:Addr->Prop} {TB:Hp->Prop} {H H1 H2:Hp}
theorem Nz.of (B:TBO T0 ex TB)(t:TB H)(s:zau H H1):Nz ex TB H H1:=⟨fun q o _ e=>s _ _ e,B.hold t fun q o _ e=>s _ _ e⟩
theorem Nz.trans (a:Nz ex TB H H1)(b:Nz ex TB H1 H2):Nz ex TB H H2:=⟨fun q o h e=>b.k q o h (a.k q o h e),b.t⟩
theorem Nz.keep (B:TBO T0 ex TB)(t:TB H)(a:Nz ex TB H H1):∀ q o,(∀ ps,o≠ .tbl ps)->H q=some o->H1 q=some o:=fun q o ho e=>a.k q o (fun y=>by
 obtain ⟨ps,hP⟩:=B.is t y
 rw [hP] at e
 cases e
 exact ho _ rfl) e
theorem Nz.lst (B:TBO T0 ex TB)(t:TB H)(a:Nz ex TB H H1){b:Addr}{xs:List V}(e:H b=some (.lst xs)):H1 b=some (.lst xs):=a.keep B t _ _ (fun _ z=>nomatch z) e
theorem Nz.free (B:TBO T0 ex TB)(a:Nz ex TB H H1){b:Addr}(e:H1 b=none):H b=none:=by
 cases eq:H b with
 | none=>rfl
 | some o =>
  rcases Classical.em (ex b) with y | y
  ·obtain ⟨ps,hP⟩:=B.is a.t y
   rw [hP] at e
   cases e
  ·rw [a.k _ _ y eq] at e
   cases e
theorem Nz.putO (B:TBO T0 ex TB)(a:Nz ex TB H H1){b:Addr}{o u:HO}(e:H b=none)(e1:H1 b=some o)(n1:∀ ps,o≠ .tbl ps)(n2:∀ x k,o≠ .frz x k):Nz ex TB H (upd H1 b u):=by
 refine ⟨fun q o' h z=>?_,B.hold a.t fun q o' ho z=>?_⟩
 ·rw [zab (zae z e)]
  exact a.k q o' h z
 ·rw [zab (fun y=>?_)]
  ·exact z
  ·rw [y,e1] at z
   cases z
   rcases ho with ⟨x,k,z2⟩ | z2
   ·exact n2 _ _ z2
   ·obtain ⟨ps,hP⟩:=B.is a.t z2
    rw [y,e1] at hP
    exact n1 _ (Option.some.inj hP)
theorem Nz.put (B:TBO T0 ex TB)(a:Nz ex TB H H1){b:Addr}{xs ys:List V}(e:H b=none)(e1:H1 b=some (.lst xs)):Nz ex TB H (upd H1 b (.lst ys)):=a.putO B e e1 (fun _ z=>nomatch z) (fun _ _ z=>nomatch z)
theorem Nz.putD (B:TBO T0 ex TB)(a:Nz ex TB H H1){b:Addr}{xs ys:List (Key × V)}(e:H b=none)(e1:H1 b=some (.dK xs)):Nz ex TB H (upd H1 b (.dK ys)):=a.putO B e e1 (fun _ z=>nomatch z) (fun _ _ z=>nomatch z)
theorem Nz.by (B:TBO T0 ex TB)(t:TB H)(kp:∀ b o,b≠T0->H b=some o->H1 b=some o)(t':Tab H1 T0 (zap zc5) quL):Nz ex TB H H1:=⟨fun q o h e=>kp q o (fun y=>h (y ▸ B.e0)) e,B.up t kp t'⟩
theorem z1n:TBO T0 (fun q=>q=T0) (fun H=>Tab H T0 (zap zc5) quL):=⟨fun t h=>Tab.hold t h,fun {H q} t y=>by
 obtain ⟨ps,hP,_⟩:=t
 exact ⟨ps,by rw [y]; exact hP⟩,fun t=>t,rfl,fun _ _ t'=>t'⟩
theorem Nz.nx (a:Nz (fun q=>q=T0) (fun H=>Tab H T0 (zap zc5) quL) H H1):Nx T0 H H1:=⟨fun b o h e=>a.k b o h e,a.t⟩
theorem Nz.ofNx (a:Nx T0 H H1):Nz (fun q=>q=T0) (fun H=>Tab H T0 (zap zc5) quL) H H1:=⟨fun b o h e=>a.1 b o h e,a.2⟩
end
theorem zfd {ns:List Int}{i:Nat}{y:V}(h:(ns.map V.int)[i]? = some y):∃ n,ns[i]? = some n/\y=V.int n:=by
 rw [List.getElem?_map] at h
 cases e:ns[i]? with
 | none=>rw [e] at h; cases h
 | some n=>rw [e] at h; cases h; exact ⟨n,rfl,rfl⟩
def ovI:Option Int->V
 | none=> .non
 | some n=> .int n
structure z3m (K:W.Frag)(ex:Addr->Prop)(TB:Hp->Prop)(f:Addr)(fd:FuncData)(spA:Sp)(hs:List Int)(tell:Int->Int->Option (List Int))(g:Int)(St:Hp->Prop):Prop where
 nx:∀ H H',St H->Nz ex TB H H'->St H'
 tb:∀ H,St H->TB H
 fn:∀ H,St H->FnV K H f fd
 ca:∀ (H:Hp) (Q:VK) (i a:Int),St H->(tell i a=none->∀ H',Nz ex TB H H'->Q .non H')->(∀ xs,tell i a=some xs->∀ (l:Addr) (H':Hp),Nz ex TB H H'->H l=none->H' l=some (.lst (xs.map V.int))->Q (.ref l) H')->spA [.int i,.int g,.int a] H Q E0
 su:∀ i a xs,tell i a=some xs->xs.length<64/\∀ y∈xs,0<=y
 aw:∀ i a,(tell i a).isSome=true->i∈hs
 sa:∀ i a b,(tell i a).isSome=(tell i b).isSome
def za9 (z r:Int)(hs sil:List Int)(N:Int->Nat->List Int)(g i a:Int):Option (List Int):=if awB hs sil i=true then some ((zcs g ((zaq (zfa (N i) z.toNat)).filter fun y=> !decide (V.int y=V.int a))).take r.toNat) else none
def zqd (z:Int)(hs:List Int)(N:Int->Nat->List Int):Prop:=∀ h∈hs,(zfa (N h) z.toNat).length<64/\∀ y∈zfa (N h) z.toNat,0<=y
def zpl (CB CT CW T0:Addr):Sp:=fun vs H Q _=>∃ (w td sd:Addr) (z r:Int) (hs sil:List Int) (T:Int->zbk) (i g a:Int),vs=[.ref w,.int i,.int g,.int a]/\zak CB CT CW H w td sd z r hs sil T/\zqd z hs (fun h=>(T h).ns)/\0<=g/\Tab H T0 (zap zc5) quL /\
 (za9 z r hs sil (fun h=>(T h).ns) g i a=none->Q .non H)/\(∀ xs,za9 z r hs sil (fun h=>(T h).ns) g i a=some xs->∀ (l:Addr) (H':Hp),Nx T0 H H'->H l=none->H' l=some (.lst (xs.map V.int))->Q (.ref l) H')
theorem ziw {hs sil:List Int}{x:Int}(h:awB hs sil x=true):x∈hs/\x∉sil:=by
 unfold awB at h
 simp only [ik,decide_eq_true_eq,ju,decide_eq_false_iff_not] at h
 exact h
theorem zlt:zal ["self","house","goal","asker"] ["self","house","goal","asker"] (zai (zaf (top 25) 7)):=fS
theorem zln (Z:ZZ P w K mg base):zbu Z 7 Z.ck (zpl Z.ba.C Z.bb.C Z.bc.C Z.bk.P):=by
 have aj:=Z.bc.cl
 obtain ⟨v,u,ac,aa,-⟩:=Z.bc.na
 have f:=zh8 Z
 have j:=zbx (CB:=Z.ba.C) (CT:=Z.bb.C) Z
 refine Z.ck.fn.ok zlt (by kd_p) (fun cdv A outer s H vs Q E hr h=>?_)
 obtain ⟨w,td,sd,z,r,hs,sil,TT,i,g,a,rfl,hW,n,hg,q,k1,k2⟩:=h
 obtain ⟨⟨dx,ak⟩,e,ab,d,-⟩:=id hW
 refine ⟨_,(zad (zbw (ze9 (zcm (pmD (pv 0) Z.bc.cl Z.bs j hr (zaa (pv 1) zag))))
   (zah (zas zen))
   zay)
  (zah (zas (ze0 (zcp (zcz hr) (zav (pv 0) rfl) (pv 1) (fun _ _=>rfl)) Z.bb.cl Z.cg.me f hr.mm Z.cg.b .nil zb5 (zaa (pv 2) (zaa (zav (pv 0) rfl) (zaa (pv 3) zag))))))),?_⟩
 cases c:awB hs sil i with
 | false =>
  kt_k
  refine .inl ⟨i,rfl,?_⟩
  rw [zpv hW.hb hW.z1 i,c]
  have hk:=k1 (by unfold za9; rw [c]; rfl)
  kt_k
 | true =>
  obtain ⟨hi,ad⟩:=ziw c
  have m:=d i hi
  obtain ⟨ae,p⟩:=m.ob
  have ah:zgf H td (V.int i) (some (V.ref (TT i).t)):=by
   have:=zgf.k (k:=Sum.inl i) e
   rw [zdm,if_pos hi] at this
   exact this
  have ai:0<=r:=by have:=hW.r1; omega
  have ag:V.int a=V.non\/∃ x,V.int a=V.int x:= .inr ⟨a,rfl⟩
  obtain ⟨o,af⟩:=n i hi
  have k3:∀ (l:Addr) (H':Hp),Nx Z.bk.P H H'->H l=none->H' l=some (.lst (((zcs g ((zaq (zfa (TT i).ns z.toNat)).filter fun y=> !decide (V.int y=V.int a))).take r.toNat).map V.int))->Q (.ref l) H':=k2 _ (by unfold za9; rw [if_pos c])
  kt_k
  refine .inl ⟨i,rfl,?_⟩
  rw [zpv hW.hb hW.z1 i,c]
  kt_k
def zg0:Expr:=match (zbd (zaf (top 25) 18)).getD 0 (.Pass zsn) with | .Return (some e) _=>e | _=> .Constant .none 0 zsn
def quT:Str:=(("Town.teller" : Str) ++ ".<locals>.") ++ "<lambda>"
abbrev RT:Addr->FuncData->Prop:=RLm "<lambda>" quT (zde zg0) (zdh zg0) (zb7 zg0)
abbrev z22 (H:Hp)(f:Addr)(cv:List V)(fd:FuncData):Prop:=zvi H f "<lambda>" quT (zde zg0) (zdh zg0) (zb7 zg0) ["self"] cv fd
def z3h (CB CT CW T0:Addr)(cv:List V):Sp:=fun vs H Q E=>∃ (w:Addr) (i g a:V),vs=[i,g,a]/\cv=[.ref w]/\(∃ dx fs,H w=some (.ins CW dx fs)/\fs.lookup ("tells" : Str)=none)/\zpl CB CT CW T0 [.ref w,i,g,a] H Q E
def spT (CB CT CW T0:Addr)(f:Addr)(fd:FuncData):Sp:=fun vs H Q E=>∃ cv,cv.length=(["self"]:List Str).length/\z22 H f cv fd/\z3h CB CT CW T0 cv vs H Q E
theorem zx_ {f:Addr}{fd:FuncData}(h:RT f fd):zce K fd ["house","goal","asker"] []:=by
 obtain ⟨clos,pm,c',ct,rfl⟩:=h
 exact .all (us3 fun _ _ _=>rfl)
theorem zyt:zgp ["house","goal","asker","self"] ["house","goal","asker"] ["self"] (zb7 zg0):=⟨rfl,rfl,rfl,by decide +kernel,by decide +kernel,by decide +kernel,by decide +kernel,by decide +kernel,by decide +kernel,by decide +kernel⟩
theorem zxr (Z:ZZ P w K mg base){f:Addr}{fd:FuncData}:zdl P w K mg base CX0 8 f fd ["house","goal","asker"] (spT Z.ba.C Z.bb.C Z.bc.C Z.bk.P f fd):=by
 have d:=zln Z
 refine zpe (name:= "<lambda>") (qual:=quT) (params:=zde zg0) (body:=zdh zg0) (sp:=z3h Z.ba.C Z.bb.C Z.bc.C Z.bk.P) zyt (fun cv vs H Q E h=>?_) (fun clos cdv A outer s H cv vs Q E hr e h=>?_)
 ·obtain ⟨w,i,g,a,rfl,_⟩:=h
  rfl
 ·obtain ⟨w,i,g,a,rfl,rfl,⟨dx,fs,hw,c⟩,k⟩:=h
  refine ⟨_,(ze0 (pv 3) Z.bc.cl Z.ck.me d hr.mm Z.ck.b .nil zb5 (zaa (pv 0) (zaa (pv 1) (zaa (pv 2) zag)))),?_⟩
  exact ⟨_,rfl,w,dx,fs,rfl,hw,c,_,rfl,_,rfl,_,rfl,k⟩
def zu6 (T1:Addr):Sp:=fun vs H Q _=>∃ w:Addr,vs=[.ref w]/\Tab H T1 (zap zg0) quT /\
 ∀ (f:Addr) (fd:FuncData) (fo:Obj) (k:HO) (H':Hp),(∀ b o,b≠T1->H b=some o->H' b=some o)->Tab H' T1 (zap zg0) quT->H f=none->RT f fd->H' f=some (.frz fo k)->fo.data = .func fd->z22 H' f [.ref w] fd->Q (.ref f) H'
theorem zj6:zal ["self"] ["self"] (zai (zaf (top 25) 18)):=fS
theorem zke (Z:ZZ P w K mg base){CW:Addr}(D:zuh K CW "teller" "Town.teller" (zaf (top 25) 18) ["self"])(hB:base.BuiltinsAt mg D.P):zdl P w K mg base CX0 1 D.f D.fd ["self"] (zu6 D.P):=by
 refine D.ok Z.db zj6 (fz:=["self"]) (by decide +kernel) (by kd_p) (fun A outer s H vs Q E hr h H1 sm m hC=>?_)
 obtain ⟨w,rfl,hT,k⟩:=h
 refine ⟨_,(zah (zas (zqa rfl hC hB (zfj (by kernel_rfl))))),?_⟩
 obtain ⟨c1,l,v1⟩:=m 0 "self" (.ref w) (by decide +kernel) rfl rfl
 have d:Tab H1 D.P (zap zg0) quT:=(sm.but D.P).2 _ _ hT
 refine zlj d fun f H' fo clos c' oc k1 k2 hb j hf a sh g cs=>?_
 have keep:∀ c v,zfx H1 c v->zfx H' c v:=fun c v hv=>hv.same fun o k e=>hb c _ (fun z=>by
  obtain ⟨ps,hP,_⟩:=d
  rw [z,hP] at e
  cases e) e
 obtain ⟨fd,hd,hR,hF⟩:=zli (qual:=quT) (params:=zde zg0) (body:=zdh zg0) (scope:=zb7 zg0) (fr:=["self"]) (cv:=[.ref w]) sh a g cs (fun i x v h1 h2=>by
  match i,h1,h2 with
  | 0,h1,h2 =>
   cases h1
   cases h2
   exact ⟨by decide +kernel,c1,l,keep _ _ v1⟩)
 exact k f fd fo k1 H' (fun b o h e=>hb b o h (sm b o e)) j (sm.free hf) hR a hd hF
theorem Nx.keep {T:Addr}{H H1:Hp}(a:Nx T H H1)(t:Tab H T (zap zc5) quL):∀ q o,(∀ ps,o≠ .tbl ps)->H q=some o->H1 q=some o:=fun q o ho e=>a.1 q o (fun z=>by
 obtain ⟨ps,hP,_⟩:=t
 rw [z,hP] at e
 cases e
 exact ho _ rfl) e
theorem zy5 {z r:Int}{hs sil:List Int}{N:Int->Nat->List Int}{g i a:Int}{xs:List Int}(hk:zqd z hs N)(e:za9 z r hs sil N g i a=some xs):xs.length<64/\∀ y∈xs,0<=y:=by
 unfold za9 at e
 split at e
 ·rename_i b
  cases e
  obtain ⟨h1,h2⟩:=hk i (ziw b).1
  constructor
  ·have a1:=zsp g ((zaq (zfa (N i) z.toNat)).filter fun y=> !decide (V.int y=V.int a))
   have a2:=ib (fun y=> !decide (V.int y=V.int a)) (zaq (zfa (N i) z.toNat))
   rw [zbh] at a2
   rw [gq]
   omega
  ·intro y hy
   have y1:=(zfp g _).subset (ia hy)
   have y2:=(gv.mp (zcl.mp y1)).1
   exact h2 y ((zam _).subset y2)
 ·cases e
theorem zhb {z r:Int}{hs sil:List Int}{N:Int->Nat->List Int}{g i a:Int}:(za9 z r hs sil N g i a).isSome=awB hs sil i:=by
 unfold za9
 cases awB hs sil i <;> rfl
structure z3x (CB CT CW T0:Addr)(w td sd:Addr)(z r:Int)(hs sil:List Int)(T:Int->zbk)(f:Addr)(fd:FuncData)(fo:Obj)(k:HO)(H:Hp):Prop where
 W:zak CB CT CW H w td sd z r hs sil T
 t:Tab H T0 (zap zc5) quL
 o:H f=some (.frz fo k)
 l:z22 H f [.ref w] fd
theorem zzu {K:W.Frag}{CB CT CW T0:Addr}{w td sd:Addr}{z r:Int}{hs sil:List Int}{T:Int->zbk}{f:Addr}{fd:FuncData}{fo:Obj}{k:HO}(hk:zqd z hs (fun h=>(T h).ns))(hfd:fo.data = .func fd){g:Int}(hg:0<=g) :
  z3m K (fun q=>q=T0) (fun H=>Tab H T0 (zap zc5) quL) f fd (spT CB CT CW T0 f fd) hs (za9 z r hs sil (fun h=>(T h).ns) g) g (z3x CB CT CW T0 w td sd z r hs sil T f fd fo k):=by
 refine ⟨fun H H' S N=>⟨S.W.keep (N.keep z1n S.t),N.t,N.keep z1n S.t _ _ (fun _ z=>nomatch z) S.o,S.l.same fun a o k e=>N.keep z1n S.t _ _ (fun _ z=>nomatch z) e⟩,fun H S=>S.t,fun H S=> .inl ⟨fo,k,S.o,hfd⟩,fun H Q i a S h1 h2=>?_,fun i a xs e=>zy5 hk e,fun i a e=>?_,fun i a b=>by rw [zhb,zhb]⟩
 ·obtain ⟨dx,c⟩:=S.W.ob
  exact ⟨[.ref w],rfl,S.l,w,.int i,.int g,.int a,rfl,rfl,⟨_,_,c,z2f _ (by decide +kernel) _ _ _ _ _⟩,w,td,sd,z,r,hs,sil,T,i,g,a,rfl,S.W,hk,hg,S.t,fun e=>h1 e H (Nz.of z1n S.t (zau.refl H)),fun xs e l H' n=>h2 xs e l H' (Nz.ofNx n)⟩
 ·rw [zhb] at e
  exact (ziw e).1
structure Kx (T0 T1:Addr)(H H':Hp):Prop where
 k:∀ q o,(∀ ps,o≠ .tbl ps)->H q=some o->H' q=some o
 t0:Tab H' T0 (zap zc5) quL
 t1:Tab H' T1 (zap zg0) quT
 b:∀ q ps,H q=some (.tbl ps)->q≠T0->q≠T1->H' q=some (.tbl ps)
 e:∀ q,H' q=none->H q=none
theorem Kx.trans {T0 T1:Addr}{H H1 H2:Hp}(a:Kx T0 T1 H H1)(b:Kx T0 T1 H1 H2):Kx T0 T1 H H2:=⟨fun q o h e=>b.k q o h (a.k q o h e),b.t0,b.t1,fun q ps e y1 y2=>b.b q ps (a.b q ps e y1 y2) y1 y2,fun q e=>a.e q (b.e q e)⟩
theorem Kx.nx {T0 T1:Addr}{H H':Hp}(hne:T0≠T1)(a:Tab H T0 (zap zc5) quL)(b:Tab H T1 (zap zg0) quT)(n:Nx T0 H H'):Kx T0 T1 H H':=by
 refine ⟨n.keep a,n.2,Tab.hold b fun q o h e=>n.1 q o (fun y=>?_) e,fun q ps e y _=>n.1 q _ y e,fun q e=>n.free e⟩
 rcases h with ⟨x,k,rfl⟩ | h
 ·obtain ⟨ps,hP,_⟩:=a
  rw [y,hP] at e
  cases e
 ·exact hne (y.symm.trans h)
theorem Kx.tab {T0 T1 Ti:Addr}{H H':Hp}{po:Pos}{qu:Str}(a:Kx T0 T1 H H')(t:Tab H Ti po qu)(h0:Ti≠T0)(h1:Ti≠T1):Tab H' Ti po qu:=Tab.hold t fun q o ho e=>by
 rcases ho with ⟨x,k,rfl⟩ | rfl
 ·exact a.k q _ (fun _ z=>nomatch z) e
 ·obtain ⟨ps,hP,_⟩:=t
  rw [hP] at e
  cases e
  exact a.b _ _ hP h0 h1
def zsa (T3:Addr)(H H':Hp):Prop:=∀ (Ti:Addr) (po:Pos) (qu:Str),Ti≠T3->Tab H Ti po qu->Tab H' Ti po qu
theorem zak.kind {CB CT CW w td sd:Addr}{H:Hp}{z r:Int}{hs sil:List Int}{T:Int->zbk}(W:zak CB CT CW H w td sd z r hs sil T){q:Addr}{x:Obj}{k:HO}(e:H q=some (.frz x k)):¬ Own td sd z.toNat hs T q:=fun y=>by
 rcases y with rfl | rfl | ⟨g,hg,rfl | ⟨j,hj,rfl | rfl⟩⟩
 ·rw [W.tb] at e
  cases e
 ·rw [W.si] at e
  cases e
 ·rw [(W.ta g hg).li] at e
  cases e
 ·obtain ⟨⟨d,e1⟩,_⟩:=(W.ta g hg).bk j hj
  rw [e1] at e
  cases e
 ·rw [((W.ta g hg).bk j hj).li] at e
  cases e
theorem zsa.deed {CB CT CW w td sd T3:Addr}{H H':Hp}{z r:Int}{hs sil:List Int}{T:Int->zbk}{O':Addr->Prop}(W:zak CB CT CW H w td sd z r hs sil T)(d:zd0 T3 H H' (Own td sd z.toNat hs T) O'):zsa T3 H H':=fun Ti po qu hn t=>Tab.hold t fun q o ho e=>by
 rcases ho with ⟨x,k,rfl⟩ | rfl
 ·exact d.k q _ (fun _ z=>nomatch z) e (W.kind e)
 ·obtain ⟨ps,hP,_⟩:=t
  rw [hP] at e
  cases e
  exact d.t _ _ hP hn
def tv (L:Int->Addr)(tl:Int->Option (List Int))(n:Int):V:=match tl n with | none=>V.non | some _=>V.ref (L n)
theorem zrv {L:Int->Addr}{tl:Int->Option (List Int)}{n:Int}(h:tl n=none):tv L tl n=V.non:=by
 unfold tv
 rw [h]
theorem ztc {L:Int->Addr}{tl:Int->Option (List Int)}{n:Int}{ns:List Int}(h:tl n=some ns):tv L tl n=V.ref (L n):=by
 unfold tv
 rw [h]
structure zjb (pool:List Int)(tl:Int->Option (List Int)):Prop where
 le:pool.length<=60
 nn:∀ n∈pool,0<=n
 ns:∀ n∈pool,∀ ns,tl n=some ns->ns.length<=12/\∀ m∈ns,m∈pool
theorem zov:∀ {l m:List Int},l.Nodup->(∀ x∈l,x∈m)->l.length<=m.length:=fun {l m} a b=>zbg a b
theorem zq6 {g:Int}{ns l:List Int}(hg:0<=g)(hn:∀ y∈ns,0<=y)(hd:l.Nodup)(hm:∀ y,y∈l↔y∈ns)(hs:l.Pairwise (fun x y=>Builtin.bitXor g x<=Builtin.bitXor g y)):l=zcs g ns:=by
 have p:l.Perm (zc7 ns):=(List.perm_ext_iff_of_nodup hd (zeu ns)).mpr fun y=>(hm y).trans zcl.symm
 exact zl0 (p.trans (zam _).symm) (fun x hx y hy e=>zpg hg (hn x (zcl.mp ((zam _).subset hx))) (hn y (zcl.mp ((zam _).subset hy))) e) hs
theorem zo3 (g:Int)(ns:List Int):(zcs g ns).Nodup:=(zfp g ns).nodup_iff.mpr (zeu ns)
theorem _root_.PySem.Paired.mp {α β:Type}{F G:α->β->Prop}{a:List α}{b:List β}(h:Paired F a b)(f:∀ x y,F x y->G x y):Paired G a b:=L2.Paired.mapP h f
theorem _root_.PySem.Paired.len {α β:Type}{F:α->β->Prop}:∀ {a:List α} {b:List β},Paired F a b->a.length=b.length
 | _,_,.nil=>rfl
 | _,_,.cons _ t=>by rw [i8,i8,PySem.Paired.len t]
theorem zjr {α β:Type}{F:α->β->Prop}{x:α}{y:β}(h:F x y):∀ {a:List α} {b:List β},Paired F a b->Paired F (a++[x]) (b++[y])
 | _,_,.nil=> .cons h .nil
 | _,_,.cons r t=> .cons r (zjr h t)
def zz5 (p:Int->Bool):List Int->List Int
 | []=>[]
 | x :: r=>if p x then [x] else x :: zz5 p r
theorem zna {p:Int->Bool}:∀ {l:List Int} {i:Nat} {n:Int},(∀ x∈l.take i,p x=false)->l[i]? = some n->p n=true->l.find? p=some n/\zz5 p l=l.take (i+1)
 | [],i,n,_,h,_=>by simp at h
 | x :: r,0,n,_,h,hp=>by
  cases h
  exact ⟨by simp [hp],by simp [zz5,hp]⟩
 | x :: r,i+1,n,h,hi,hp=>by
  have hx:=h x (by simp)
  obtain ⟨h1,h2⟩:=zna (l:=r) (i:=i) (fun y hy=>h y (by simp [hy])) hi hp
  exact ⟨by simp [hx,h1],by simp [zz5,hx,h2]⟩
theorem zp1 {p:Int->Bool}:∀ {l:List Int},(∀ x∈l,p x=false)->l.find? p=none/\zz5 p l=l
 | [],_=>⟨rfl,rfl⟩
 | x :: r,h=>by
  have hx:=h x (by simp)
  obtain ⟨h1,h2⟩:=zp1 (l:=r) fun y hy=>h y (by simp [hy])
  exact ⟨by simp [hx,h1],by simp [zz5,hx,h2]⟩
theorem zfl {α β:Type}{F:α->β->Prop}{f:α->V}:∀ {ps:List α} {R:List β} {j:Nat} {x:V},Paired F ps R->(ps.map f)[j]? = some x->∃ p h,ps[j]? = some p/\R[j]? = some h/\x=f p/\F p h
 | _,_,j,x,.nil,e=>by simp at e
 | _,_,0,x,.cons (a:=p) (b:=h) r t,e=>by
  simp at e
  exact ⟨p,h,rfl,rfl,e.symm,r⟩
 | _,_,j+1,x,.cons (a:=p) (b:=h) r t,e=>by
  obtain ⟨p',h',a1,a2,a3,a4⟩:=zfl t (f:=f) (j:=j) (x:=x) (by simpa using e)
  exact ⟨p',h',a1,a2,a3,a4⟩
def zth (tl:Int->Option (List Int))(st h:Int):List Int:=((tl h).getD []).filter fun n=> !decide (n=st)
def zi5 (tl:Int->Option (List Int))(st:Int)(R:List Int):List Int:=R.flatMap (zth tl st)
def zk0 (tl:Int->Option (List Int))(R:List Int):List Int:=R.filter fun h=> !(tl h).isSome
def flR (tl:Int->Option (List Int))(R:List Int)(n:Int):Bool:= !decide (n∈zk0 tl R)
def zcg (tl:Int->Option (List Int))(st g:Int)(rm:Nat)(R:List Int):List Int:=((zcs g (zi5 tl st R)).filter (flR tl R)).take rm
def zwt (R:List Int)(n:Int):Bool:= !decide (n∈R)
def zdz (tl:Int->Option (List Int))(st g:Int)(rm:Nat)(R:List Int):Option Int:=(zcg tl st g rm R).find? (zwt R)
inductive Row (tl:Int->Option (List Int)) (st g:Int) (rm:Nat):List Int->Prop
 | one:Row tl st g rm [st]
 | more {R:List Int} {h:Int}:Row tl st g rm R->zdz tl st g rm R=some h->Row tl st g rm (R++[h])
section
variable {tl:Int->Option (List Int)} {st g:Int} {rm:Nat} {R R':List Int} {pool:List Int}
theorem Row.pos (x:Row tl st g rm R):0<R.length:=by
 cases x
 ·simp
 ·simp
theorem Row.head (x:Row tl st g rm R):R[0]? = some st:=by
 induction x with
 | one=>rfl
 | @more R h x _ ih=>rw [List.getElem?_append_left x.pos]; exact ih
theorem Row.get (x:Row tl st g rm R):∀ {i:Nat} {h:Int},R[i+1]? = some h->zdz tl st g rm (R.take (i+1))=some h:=by
 induction x with
 | one=>intro i h e; simp at e
 | @more R n x e ih =>
  intro i h hi
  by_cases z:i+1<R.length
  ·rw [List.getElem?_append_left z] at hi
   rw [List.take_append_of_le_length (by omega)]
   exact ih hi
  ·have hl:=(List.getElem?_eq_some_iff.mp hi).1
   rw [fm,fu] at hl
   have e1:i+1=R.length:=by omega
   rw [e1,List.getElem?_append_right (gf _),Nat.sub_self] at hi
   cases hi
   rw [e1,List.take_left]
   exact e
theorem Row.pre (x:Row tl st g rm R)(y:Row tl st g rm R'):∀ k,k<=R.length->k<=R'.length->R.take k=R'.take k
 | 0,_,_=>by simp
 | 1,h1,h2=>by
  have e1:=x.head
  have e2:=y.head
  cases R with
  | nil=>cases e1
  | cons a r =>
   cases R' with
   | nil=>cases e2
   | cons b s =>
    cases e1
    cases e2
    rfl
 | k+2,h1,h2=>by
  have ih:=Row.pre x y (k+1) (by omega) (by omega)
  have e1:=x.get (i:=k) (h:=R[k+1]) (by simp)
  have e2:=y.get (i:=k) (h:=R'[k+1]) (by simp)
  rw [ih,e2] at e1
  rw [gu (show k+1<R.length by omega),gu (show k+1<R'.length by omega),ih,Option.some.inj e1]
theorem Row.det (x:Row tl st g rm R)(y:Row tl st g rm R')(hx:zdz tl st g rm R=none)(hy:zdz tl st g rm R'=none):R=R':=by
 have a:∀ {A B:List Int},Row tl st g rm A->Row tl st g rm B->zdz tl st g rm A=none->¬ A.length<B.length:=fun {A B} x y hx lt=>by
  have e:=Row.pre x y A.length (gf _) (gx lt)
  rw [gr] at e
  obtain ⟨i,hi⟩:∃ i,A.length=i+1:=⟨A.length - 1,by have:=x.pos; omega⟩
  obtain ⟨v,hv⟩:∃ v,B[i+1]? = some v:=⟨B[i+1],by simp⟩
  have e2:=y.get hv
  rw [<- hi,<- e,hx] at e2
  cases e2
 have h1:=a x y hx
 have h2:=a y x hy
 have e:=Row.pre x y R.length (gf _) (by omega)
 rw [gr,i3 (by omega)] at e
 exact e
theorem zfc (o:zjb pool tl)(hR:∀ h∈R,h∈pool):∀ n∈zi5 tl st R,n∈pool/\n≠st:=fun n hn=>by
 obtain ⟨h,hh,hm⟩:=List.mem_flatMap.mp hn
 unfold zth at hm
 obtain ⟨h1,h2⟩:=gv.mp hm
 refine ⟨?_,by simpa using h2⟩
 cases e:tl h with
 | none=>rw [e] at h1; cases h1
 | some ns=>rw [e] at h1; exact (o.ns h (hR h hh) ns e).2 n h1
theorem zhj:∀ n∈zcg tl st g rm R,n∈zi5 tl st R/\flR tl R n=true:=fun n hn=>by
 obtain ⟨h1,h2⟩:=gv.mp (ia hn)
 exact ⟨zfb.mp h1,h2⟩
theorem zs9 {h:Int}(e:zdz tl st g rm R=some h):h∈zcg tl st g rm R/\¬ h∈R:=by
 have h1:=List.find?_some e
 have h2:=List.mem_of_find?_eq_some e
 unfold zwt at h1
 exact ⟨h2,by simpa using h1⟩
theorem Row.ok (o:zjb pool tl)(hst:st∈pool)(x:Row tl st g rm R):(∀ h∈R,h∈pool)/\R.Nodup:=by
 induction x with
 | one=>exact ⟨fun h hh=>by rw [fi.mp hh]; exact hst,by simp⟩
 | more x e ih =>
  obtain ⟨h1,h2⟩:=zs9 e
  exact ⟨zl8 ih.1 (zfc o ih.1 _ (zhj _ h1).1).1,zbc ih.2 h2⟩
theorem zmn {ns ks:List Int}{p:Int->Bool}(hg:0<=g)(hn:∀ y∈ns,0<=y)(hk:∀ y,y∈ks↔y∈ns):(zcs g ns).filter p=zcs g (ks.filter p):=by
 refine zq6 hg (fun y hy=>hn y ((hk y).mp (gv.mp hy).1)) ((zo3 g ns).filter _) (fun y=>?_) ((zh1 _ _).filter _)
 rw [gv,gv,zfb,hk]
end
def zb9 (ks:List Int)(fl:Int->Bool):List (Key × V):=ks.map fun n=>(Sum.inl n,V.bl (fl n))
theorem zgz {fl:Int->Bool}{n:Int}:∀ {ks:List Int},n∈ks->zdy (zb9 ks fl) (Sum.inl n)=some (V.bl (fl n))
 | [],h=>nomatch h
 | m :: r,h=>by
  by_cases e:m=n
  ·subst e
   exact ze1 rfl
  ·have hr:n∈r:=by
    rcases gs.mp h with z | z
    ·exact absurd z.symm e
    ·exact z
   have z:zdy (zb9 (m :: r) fl) (Sum.inl n)=zdy (zb9 r fl) (Sum.inl n):=zd5 fun z=>e (Sum.inl.inj z)
   rw [z,zgz hr]
theorem zm3 {fl:Int->Bool}{n:Int}:∀ {ks:List Int},¬ n∈ks->zdy (zb9 ks fl) (Sum.inl n)=none
 | [],_=>rfl
 | m :: r,h=>by
  have z:zdy (zb9 (m :: r) fl) (Sum.inl n)=zdy (zb9 r fl) (Sum.inl n):=zd5 fun z=>h (by
   have:=Sum.inl.inj z
   rw [<- this]
   exact gb ..)
  rw [z,zm3 fun y=>h (fk _ y)]
theorem zrj {ks:List Int}{fl:Int->Bool}{h:Int}{b:Bool}(hh:h∈ks):zd3 (zb9 ks fl) (Sum.inl h) (V.bl b)=zb9 ks (fun n=>if n=h then b else fl n):=by
 have a:((zb9 ks fl).any fun kv=>decide (kv.1=(Sum.inl h:Key)))=true:=by rw [zfu,zgz hh]; rfl
 unfold zd3
 rw [if_pos a]
 unfold zb9
 rw [j8]
 refine i5 fun n hn=>?_
 show (if (Sum.inl n:Key)=Sum.inl h then ((Sum.inl n:Key),V.bl b) else (Sum.inl n,V.bl (fl n)))=(Sum.inl n,V.bl (if n=h then b else fl n))
 by_cases e:n=h
 ·rw [if_pos (by rw [e]),if_pos e]
 ·rw [if_neg fun z=>e (Sum.inl.inj z),if_neg e]
theorem zy1 {H:Hp}{p:Addr}{a b:HO}:upd (upd H p a) p b=upd H p b:=funext fun q=>by
 by_cases e:q=p
 ·rw [e,zac,zac]
 ·rw [zab e,zab e,zab e]
def z25 (tl:Int->Option (List Int))(Lr:Int->Addr)(H:Hp)(p:Addr)(h:Int):Prop:=H p=some (.tup [.int h,tv Lr tl h])
structure zek (H:Hp)(rl:Addr)(R:List Int)(tl:Int->Option (List Int))(Lr:Int->Addr):Prop where
 ex:∃ ps:List Addr,H rl=some (.lst (ps.map V.ref))/\Paired (z25 tl Lr H) ps R
def z0d:Sp:=fun vs H Q _=>∃ (sd:Addr) (st h:Int) (v:V) (ks:List Int) (fl:Int->Bool),vs=[.ref sd,.int st,.int h,v]/\H sd=some (.dK (zb9 ks fl))/\ks.Nodup/\ks.length<=100 /\
 ((v = .non/\h∈ks/\Q .non (upd H sd (.dK (zb9 ks (fun n=>if n=h then false else fl n))))) \/
  ∃ (p:Addr) (ns:List Int),v = .ref p/\H p=some (.lst (ns.map V.int))/\ns.length<=12/\(∀ n∈ns,n≠st->¬ n∈ks->fl n=true) /\
  ∀ ks':List Int,ks'.Nodup->(∀ n,n∈ks'↔n∈ks\/(n∈ns/\n≠st))->Q .non (upd H sd (.dK (zb9 ks' fl))))
def zkw (T0:Addr):Sp:=fun vs H Q _=>∃ (sd:Addr) (g rm:Int) (ks:List Int) (fl:Int->Bool),vs=[.ref sd,.int g,.int rm]/\H sd=some (.dK (zb9 ks fl))/\ks.length<=60/\0<=g/\0<=rm/\(∀ n∈ks,0<=n)/\Tab H T0 (zap zc5) quL /\
 ∀ (l:Addr) (H':Hp),(∀ b o,b≠T0->H b=some o->H' b=some o)->Tab H' T0 (zap zc5) quL->H l=none->H' l=some (.lst (((zcs g (ks.filter fl)).take rm.toNat).map V.int))->Q (.ref l) H'
def zsc:Sp:=fun vs H Q _=>∃ (nl rl:Addr) (names R:List Int) (tl:Int->Option (List Int)) (Lr:Int->Addr),vs=[.ref nl,.ref rl]/\H nl=some (.lst (names.map V.int))/\zek H rl R tl Lr/\R.length<=100/\∀ H',zau H H'->Q (ovI (names.find? (zwt R))) H'
theorem zhn:zal ["seen","start","house","told","name"] ["seen","start","house","told"] (zai (top 16)):=fS
theorem zx8 (Z:ZZ P w K mg base):zj2 Z 1 Z.cl z0d:=by
 refine Z.cl.fn.ok zhn (by kd_p) (fun cdv A outer s H vs Q E hr h=>?_)
 obtain ⟨sd,st,h,v,ks,fl,rfl,o,ad,hl,hc⟩:=h
 refine ⟨_,(zad (zbw (zaz zpw (pv 3) zen (zbb _))
   (zad (zf2 (zcz hr) (pv 0) (pv 2) ze7 rfl)
   (zah zz4))
   zay)
  (zah (zdf PassesOwn.never rfl (zbf (pv 3)) (zaw (i:=4) zhn.nd rfl oL)
   (zah (zbw (zaz zxj (pv 4) (pv 1) (zbb _))
    (zah (zat (zp0 (pv 0) (pv 4) ze7 ⟨rfl,rfl,rfl,rfl⟩)))
    zay))))),?_⟩
 have u:∀ {ks:List Int},ks.length<=200->(zb9 ks fl).length<sizeLine:=fun {ks} h=>by
  unfold zb9
  rw [fj]
  exact zar (by omega)
 rcases hc with ⟨rfl,hh,q⟩ | ⟨p,ns,rfl,hp,af,x,q⟩
 ·refine ⟨_,rfl,rfl,_,rfl,?_⟩
  refine zpm rfl ?_
  refine ⟨_,rfl,_,rfl,sd,_,rfl,zkl.k (k:=Sum.inl h) o (u (by omega)),?_⟩
  rw [zrj hh]
  exact q
 ·refine ⟨_,rfl,rfl,_,rfl,?_⟩
  refine zhh (fun z=>nomatch z) ?_
  refine ⟨_,rfl,p,rfl,⟨_,SqL.of hp⟩,?_⟩
  have t:p≠sd:=fun z=>by rw [z,o] at hp; cases hp
  refine zbs (K:=K) (a:=p) (xs:=ns.map V.int) (fun i σ H2=>zg3 (∃ (v4:Option V) (c:List Int),σ=[some (.ref sd),some (.int st),some (.int h),some (.ref p),v4]/\H2=upd H sd (.dK (zb9 c fl))/\c.Nodup/\c.length<=ks.length+i/\∀ n,n∈c↔n∈ks\/(n∈ns.take i/\n≠st)))
   ⟨⟨none,ks,rfl,funext fun q=>?_,ad,gf _,fun n=>by simp⟩⟩ (fun i σ H2 _ ⟨_,_,_,e,_⟩=>SqL.of (by rw [e,zab t]; exact hp)) ?_ ?_
  ·by_cases e:q=sd
   ·rw [e,zac,o]
   ·rw [zab e]
  ·rintro i y σ H2 hi ⟨v4,c,rfl,rfl,d,aa,f⟩
   obtain ⟨n,hn,rfl⟩:=zfd hi
   have ae:i<ns.length:=(List.getElem?_eq_some_iff.mp hn).1
   have et:ns.take (i+1)=ns.take i++[n]:=by rw [jb,hn]; rfl
   have j:∀ m,(m∈ks\/(m∈ns.take (i+1)/\m≠st))↔m∈c\/(m=n/\m≠st):=fun m=>by
    rw [f,et,fq,fi]
    constructor
    ·rintro (z | ⟨z | z,y⟩)
     ·exact .inl (.inl z)
     ·exact .inl (.inr ⟨z,y⟩)
     ·exact .inr ⟨z,y⟩
    ·rintro ((z | ⟨z,y⟩) | ⟨z,y⟩)
     ·exact .inl z
     ·exact .inr ⟨.inl z,y⟩
     ·exact .inr ⟨.inr z,y⟩
   refine ⟨_,rfl,_,rfl,rfl,_,rfl,?_⟩
   by_cases g:n=st
   ·refine zu7 (by rw [g]) ?_
    refine ⟨⟨_,c,rfl,rfl,d,by omega,fun m=>?_⟩⟩
    rw [j]
    exact ⟨.inl,fun z=>z.elim id fun ⟨a,b⟩=>absurd (a.trans g) b⟩
   ·refine zuj (zz0 g) ?_
    have r:upd H sd (.dK (zb9 c fl)) sd=some (.dK (zb9 c fl)):=zac
    refine ⟨_,rfl,sd,rfl,.inl ⟨_,.inl r⟩,_,rfl,zb9 c fl,Sum.inl n,r,rfl,u (by omega),fun v e=>?_,fun e=>?_⟩
    ·have l:n∈c:=by
      by_cases z:n∈c
      ·exact z
      ·rw [zm3 z] at e; cases e
     refine ⟨⟨_,c,rfl,rfl,d,by omega,fun m=>?_⟩⟩
     rw [j]
     exact ⟨.inl,fun z=>z.elim id fun ⟨a,_⟩=>a ▸ l⟩
    ·have l:¬ n∈c:=fun z=>by rw [zgz z] at e; cases e
     have ab:¬ n∈ks:=fun z=>l ((f n).mpr (.inl z))
     have ac:=x n (gj hn) g ab
     refine ⟨⟨_,c++[n],rfl,?_,zbc d l,by simp; omega,fun m=>?_⟩⟩
     ·rw [zgh _ e,zy1]
      unfold zb9
      rw [gy,<- ac]
      rfl
     ·rw [j,fq,fi]
      exact ⟨fun z=>z.imp id fun a=>⟨a,a ▸ g⟩,fun z=>z.imp id fun a=>a.1⟩
  ·rintro σ H2 ⟨v4,c,rfl,rfl,d,aa,f⟩
   rw [fj,gr] at f
   exact q c d f
theorem zn9:zal ["seen","goal","room"] ["seen","goal","room"] (zai (top 17)):=fS
theorem zn6 (Z:ZZ P w K mg base):zj2 Z 6 Z.cm (zkw Z.bk.P):=by
 have v:=zwk Z
 refine Z.cm.fn.ok zn9 (by kd_p) (fun cdv A outer s H vs Q E hr h=>?_)
 obtain ⟨sd,g,rm,ks,fl,rfl,f,hl,hg,t,y,hT,k⟩:=h
 refine ⟨_,(zah (zas (zc3 zeb (zhc v hr.mm rfl Z.bk.hm Z.bk.kp Z.bk.b .nil zb5 (zaa (pv 1) (zaa (zzz (H0:=H) rfl (zg6 rfl (zbe (own:=["name"]) (caps:=[0]) (N':=["name","seen"]) (by kernel_rfl)) (zzx (pv 0)) (fun _ _ _ _ _=>(zaw (i:=0) (show (["name","seen"]:List Str).Nodup by decide +kernel) rfl oL)) (fun _ _ _ _ _=>(zhi (zcm (zcp (zcz hr) (pv 1) (pv 0) (fun _ _=>rfl))))) (fun _ _ _ _ _=>(pv 0)))) zag))) zfi (zdd (pv 2))))),?_⟩
 refine ⟨_,rfl,_,rfl,sd,zb9 ks fl,rfl,.inl f,fun o H1 h1 p ab Dl c=>?_⟩
 have hk:(zb9 ks fl).map (·.1)=ks.map Sum.inl:=by unfold zb9; rw [j8]; rfl
 have d:Dl≠sd:=fun z=>by rw [z,h1] at c; cases c
 have ae:H Dl=none:=by rw [<- p Dl d]; exact c
 refine zrp fl hk c h1 (by omega) (fun x hx H' Qt s q=>?_) fun H2 s2 r=>?_
 ·refine ⟨_,rfl,_,rfl,sd,_,rfl,.inl ⟨_,Sum.inl x,.inr ⟨o,s _ _ h1⟩,rfl,(zgz hx).symm⟩,_,rfl,q H' (zau.refl H')⟩
 ·refine ⟨sd,zb9 ks fl,o,s2 _ _ h1,fun ob u e=>(by rw [f] at e; cases e),?_⟩
  have s3:zau H (upd H2 sd (.dK (zb9 ks fl))):=fun b u e=>by
   by_cases z:b=sd
   ·subst z
    rw [zac,<- e,f]
   ·rw [zab z]
    refine s2 _ _ ?_
    rw [p b z]
    exact e
  have m:upd H2 sd (.dK (zb9 ks fl)) Dl=some (.lst ((ks.filter fl).map V.int)):=by rw [zab d]; exact r
  generalize upd H2 sd (.dK (zb9 ks fl))=H3 at s3 m
  have ac:(ks.filter fl).length<=ks.length:=ib _ _
  refine ⟨g,Dl,ks.filter fl,rfl,SqL.of m,by omega,hg,fun n hn=>y n (gv.mp hn).1,(s3.but _).2 _ _ hT,fun l H4 kp j ad aa=>?_⟩
  kt_k
  rw [zic _ t]
  intro l2 a
  have s5:zau H4 (upd H4 l2 (.lst (((zcs g (ks.filter fl)).take rm.toNat).map V.int))):=zau.new H4 a
  refine k l2 _ (fun b u hb e=>s5 _ _ (kp b u hb (s3 _ _ e))) ((s5.but _).2 _ _ j) ?_ zac
  cases e:H l2 with
  | none=>rfl
  | some u =>
   by_cases z:l2=Z.bk.P
   ·obtain ⟨ps,hP,_⟩:=j
    rw [z,hP] at a
    cases a
   ·rw [kp _ _ z (s3 _ _ e)] at a
    cases a
theorem zda:zal ["names","row","done","name"] ["names","row"] (zai (top 18)):=fS
theorem zvk (Z:ZZ P w K mg base):zj2 Z 1 Z.cn zsc:=by
 refine Z.cn.fn.ok zda (by kd_p) (fun cdv A outer s H vs Q E hr h=>?_)
 obtain ⟨nl,rl,names,R,tl,Lr,rfl,l,hR,u,k⟩:=h
 refine ⟨_,(zad (zim (i:=2) zda.nd rfl oL rfl (zbe (own:=["house","told"]) (caps:=[]) (N':=["house","told"]) (by kernel_rfl)) (zbf (pv 1)) (fun _ _ _ _ _=>(zti (K:=K) (n:=2) rfl rfl (zb3 (zaw (i:=0) (show (["house","told"]:List Str).Nodup by decide +kernel) rfl oL) (zb3 (zaw (i:=1) (show (["house","told"]:List Str).Nodup by decide +kernel) rfl oL) zg7)))) (fun _ _ _ _ _=>zik) (fun _ _ _ _ _=>(pv 0)))
  (zad (zdf PassesOwn.never rfl (zbf (pv 0)) (zaw (i:=3) zda.nd rfl oL)
   (zah (zbw (zaz zfg (pv 3) (pv 2) (by with_unfolding_all rfl))
    (zah (zas (pv 3)))
    zay)))
  (zah (zas zen)))),?_⟩
 obtain ⟨ps,o,g⟩:=hR.ex
 have t:=g.len
 kt_k
 intro Dl f
 refine zdv (xs:=ps.map V.ref) (fun j σ H'=>zg3 (∃ v1 v2:Option V,σ=[v1,v2]/\zau H H'/\H' Dl=some (.lst ((R.take j).map V.int)))) ⟨⟨none,none,rfl,zau.new H f,zac⟩⟩ (fun j σ H' _ ⟨_,_,_,s,_⟩=>SqL.of (s _ _ o)) ?_ ?_
 ·rintro j x σ H' hj ⟨v1,v2,rfl,s,hD⟩
  have aa:j<R.length:=by
   have:=(List.getElem?_eq_some_iff.mp hj).1
   rw [fj] at this
   omega
  obtain ⟨p,h,hp,hh,rfl,m⟩:=zfl g hj
  have v:=s _ _ (show H p=_ from m)
  have hsz:((R.take j).map V.int).length<sizeLine:=by rw [fj,gq]; exact zar (by omega)
  kt_k
  refine ⟨⟨_,_,rfl,s.put f,?_⟩⟩
  rw [zac,jb,hh]
  simp
 rintro σ H2 ⟨v1,v2,rfl,s2,q⟩
 rw [fj,t,gr] at q
 have d:=s2 _ _ l
 have r:=zel R
 kt_k
 refine zbs (K:=K) (a:=nl) (xs:=names.map V.int) (fun i σ H'=>zg3 (∃ v3:Option V,σ=[some (.ref nl),some (.ref rl),some (.ref Dl),v3]/\H'=H2/\∀ x∈names.take i,zwt R x=false))
  ⟨⟨none,rfl,rfl,fun _ h=>(nomatch h)⟩⟩ (fun i σ H' _ ⟨_,_,e,_⟩=>by rw [e]; exact SqL.of d) ?_ ?_
 ·rintro i y σ H' hi ⟨v3,rfl,rfl,b⟩
  obtain ⟨n,hn,rfl⟩:=zfd hi
  have et:names.take (i+1)=names.take i++[n]:=by rw [jb,hn]; rfl
  kt_k
  show if (!inV (V.int n) (R.map V.int))=true then _ else _
  rw [zin]
  by_cases c:n∈R
  ·refine zu7 c ?_
   refine ⟨⟨_,rfl,rfl,fun x hx=>?_⟩⟩
   rw [et,fq,fi] at hx
   rcases hx with z | z
   ·exact b x z
   ·rw [z]
    unfold zwt
    simp [c]
  ·refine zuj c ?_
   refine ⟨_,rfl,?_⟩
   have e:=(zna (p:=zwt R) b hn (by unfold zwt; simp [c])).1
   have z:=k _ s2
   rw [e] at z
   exact z
 ·rintro σ H' ⟨v3,rfl,rfl,b⟩
  rw [fj,gr] at b
  have e:=(zp1 (p:=zwt R) b).1
  have z:=k _ s2
  rw [e] at z
  exact z
theorem zek.same {H H1:Hp}{rl:Addr}{R:List Int}{tl:Int->Option (List Int)}{Lr:Int->Addr}(c:zek H rl R tl Lr)(s:zau H H1):zek H1 rl R tl Lr:=by
 obtain ⟨ps,h,hp⟩:=c.ex
 exact ⟨ps,s _ _ h,hp.mp fun p t e=>s _ _ e⟩
theorem zek.more {H:Hp}{rl p:Addr}{R:List Int}{n:Int}{tl:Int->Option (List Int)}{Lr Lr':Int->Addr}{ps:List Addr}(h:H rl=some (.lst (ps.map V.ref)))(hp:Paired (z25 tl Lr H) ps R)(hn:H p=none)(hL:∀ m∈R,tv Lr' tl m=tv Lr tl m) :
  zek (upd (upd H p (.tup [.int n,tv Lr' tl n])) rl (.lst (ps.map V.ref++[.ref p]))) rl (R++[n]) tl Lr':=by
 have d:p≠rl:=fun z=>by rw [z,h] at hn; cases hn
 have c:Paired (z25 tl Lr' H) ps R:=by
  clear h hn
  induction hp with
  | nil=>exact .nil
  | @cons a b ps R e _ ih =>
   refine .cons ?_ (ih fun m hm=>hL m (fk _ hm))
   show H a=some (.tup [.int b,tv Lr' tl b])
   rw [hL b (gb ..)]
   exact e
 refine ⟨ps++[p],by rw [zac]; simp,zjr ?_ (c.mp fun a b e=>?_)⟩
 ·show upd _ _ _ p=_
  rw [zab d,zac]
 ·have e:H a=some (.tup [.int b,tv Lr' tl b]):=e
  show upd _ _ _ a=_
  rw [zab (fun z=>by rw [z,h] at e; cases e),zab (zae e hn)]
  exact e
theorem zk6 {tl:Int->Option (List Int)}{R:List Int}{h:Int}:zk0 tl (R++[h])=zk0 tl R++if (tl h).isSome then [] else [h]:=by
 unfold zk0
 rw [jd]
 cases e:tl h with
 | none=>simp [e]
 | some ns=>simp [e]
theorem zv5 {tl:Int->Option (List Int)}{R:List Int}{h:Int}{ns:List Int}(e:tl h=some ns):flR tl (R++[h])=flR tl R:=funext fun n=>by
 unfold flR
 rw [zk6,e]
 simp
theorem zvc {tl:Int->Option (List Int)}{R:List Int}{h:Int}(e:tl h=none):flR tl (R++[h])=fun n=>if n=h then false else flR tl R n:=funext fun n=>by
 unfold flR
 rw [zk6,e]
 by_cases z:n=h
 ·simp [z]
 ·simp [z]
theorem zmr {tl:Int->Option (List Int)}{st:Int}{R:List Int}{h:Int}:zi5 tl st (R++[h])=zi5 tl st R++zth tl st h:=by
 unfold zi5
 simp
theorem zu4 {pool:List Int}{tl:Int->Option (List Int)}{st g:Int}{rm:Nat}{R ks:List Int}(o:zjb pool tl)(hR:∀ h∈R,h∈pool)(hg:0<=g)(hm:∀ n,n∈ks↔n∈zi5 tl st R):(zcs g (ks.filter (flR tl R))).take rm=zcg tl st g rm R:=by
 unfold zcg
 rw [zmn hg (fun y hy=>o.nn y (zfc o hR y hy).1) hm]
theorem zp4 {pool:List Int}{tl:Int->Option (List Int)}{st:Int}{R ks:List Int}(o:zjb pool tl)(hR:∀ h∈R,h∈pool)(hd:ks.Nodup)(hm:∀ n,n∈ks↔n∈zi5 tl st R):ks.length<=60 :=
 gm (zov hd fun n hn=>(zfc o hR n ((hm n).mp hn)).1) o.le
structure z2u (ex:Addr->Prop)(TB:Hp->Prop)(H:Hp)(tl:Int->Option (List Int))(st:Int)(rl sd:Addr)(R ks:List Int)(Lr:Int->Addr)(H2:Hp):Prop where
 nx:Nz ex TB H H2
 row:zek H2 rl R tl Lr
 ls:∀ m∈R,∀ ns,tl m=some ns->H (Lr m)=none/\Lr m≠rl/\H2 (Lr m)=some (.lst (ns.map V.int))
 seen:H2 sd=some (.dK (zb9 ks (flR tl R)))
 nd:ks.Nodup
 mem:∀ n,n∈ks↔n∈zi5 tl st R
 qs:∀ x∈R,tl x=none->x∈ks
def zu1 (K:W.Frag)(ex:Addr->Prop)(TB:Hp->Prop)(RR:Addr->FuncData->Prop)(spA:Addr->FuncData->Sp):Sp:=fun vs H Q _=>∃ (st g rm:Int) (f:Addr) (fd:FuncData) (hs pool:List Int) (tell:Int->Int->Option (List Int)) (St:Hp->Prop),vs=[.int st,.int g,.int rm,.ref f]/\z3m K ex TB f fd (spA f fd) hs tell g St/\St H/\RR f fd/\zjb pool (fun h=>tell h st)/\st∈pool/\(tell st st).isSome=true/\0<=g/\0<=rm /\
 ∀ (t rl fl:Addr) (R:List Int) (Lr:Int->Addr) (H':Hp),Row (fun h=>tell h st) st g rm.toNat R->zdz (fun h=>tell h st) st g rm.toNat R=none->Nz ex TB H H'->H' t=some (.tup [.ref rl,.ref fl])->zek H' rl R (fun h=>tell h st) Lr->(∀ m∈R,∀ ns,tell m st=some ns->H (Lr m)=none/\Lr m≠rl/\H' (Lr m)=some (.lst (ns.map V.int)))->H rl=none->H fl=none->fl≠rl->H' fl=some (.lst ((zcg (fun h=>tell h st) st g rm.toNat R).map V.int))->Q (.ref t) H'
theorem zek.nx {T0:Addr}{ex:Addr->Prop}{TB:Hp->Prop}{H H1:Hp}{rl:Addr}{R:List Int}{tl:Int->Option (List Int)}{Lr:Int->Addr}(c:zek H rl R tl Lr)(B:TBO T0 ex TB)(t:TB H)(a:Nz ex TB H H1):zek H1 rl R tl Lr:=by
 obtain ⟨ps,h,hp⟩:=c.ex
 exact ⟨ps,a.lst B t h,hp.mp fun p _ e=>a.keep B t _ _ (fun _ z=>nomatch z) e⟩
theorem zd7:zal ["start","goal","room","tells","row","seen","found","house","told"] ["start","goal","room","tells"] (zai (top 15)):=fS
theorem zsm (Z:ZZ P w K mg base){ex:Addr->Prop}{TB:Hp->Prop}{psA:List Str}{RR:Addr->FuncData->Prop}{spA:Addr->FuncData->Sp}(GA:∀ f fd,RR f fd->zdl P w K mg base CX0 8 f fd psA (spA f fd))(bA:∀ f fd,RR f fd->zce K fd psA [])(B:TBO Z.bk.P ex TB):zj2 Z 9 Z.co (zu1 K ex TB RR spA):=by
 have ch:=zx8 Z
 have b9:=zn6 Z
 have cc:=zvk Z
 refine Z.co.fn.ok zd7 (by kd_p) (fun cdv A outer s H vs Q E hr h=>?_)
 obtain ⟨st,g,rm,f,fd,hs,pool,tell,St,rfl,W,u,hR,hP,bv,ay,hg,b6,k⟩:=h
 refine ⟨_,(zad (zax (i:=4) zd7.nd rfl oL (zcn zag))
  (zad (zax (i:=5) zd7.nd rfl oL zd4)
  (zad (zax (i:=6) zd7.nd rfl oL (zcn zag))
  (zad (zax (i:=7) zd7.nd rfl oL (pv 0))
  (zad (zph PassesOwn.never (zaz zoo (pv 7) zen (zbb _))
   (zad (zax (i:=8) zd7.nd rfl oL (zpr (pv 3) GA bA hr.mm (zaa (pv 7) (zaa (pv 1) (zaa (pv 0) zag)))))
   (zad (zat (zot i6 PySem.F.slot_list_append PySem.F.type_list_append ze8 (pv 4) (zaa (zi0 (zaa (pv 7) (zaa (zpb (zaz zpw (pv 8) zen (zbb _)) zen (zdu zhl rfl Z.da.n_list zjp (zaa (pv 8) zag))) zag))) zag)))
   (zad (zat (pfD Z.cl ch hr rfl (zaa (pv 5) (zaa (pv 0) (zaa (pv 7) (zaa (pv 8) zag))))))
   (zad (zax (i:=6) zd7.nd rfl oL (pfD Z.cm b9 hr rfl (zaa (pv 5) (zaa (pv 1) (zaa (pv 2) zag)))))
   (zah (zax (i:=7) zd7.nd rfl oL (pfD Z.cn cc hr rfl (zaa (pv 6) (zaa (pv 4) zag))))))))))
  (zah (zas (zi0 (zaa (pv 4) (zaa (pv 6) zag)))))))))),?_⟩
 have h9:=hP.le
 generalize cg:(fun h=>tell h st)=tl at hP k
 have aq:∀ h,tell h st=tl h:=fun h=>by rw [<- cg]
 have hT:=W.tb _ u
 kt_k
 intro rl ap
 have s1:zau H (upd H rl (.lst [])):=zau.new H ap
 have e1:upd H rl (.lst []) rl=some (.lst []):=zac
 generalize upd H rl (.lst [])=H1 at s1 e1
 kt_k
 intro sd ar
 have s2:zau H1 (upd H1 sd (.dK [])):=zau.new H1 ar
 have e2:upd H1 sd (.dK []) sd=some (.dK []):=zac
 generalize upd H1 sd (.dK [])=H2 at s2 e2
 kt_k
 intro bc ag
 have s3:zau H2 (upd H2 bc (.lst [])):=zau.new H2 ag
 generalize upd H2 bc (.lst [])=H3 at s3
 have a4:H sd=none:=s1.free ar
 have v:rl≠sd:=fun z=>by rw [<- z,e1] at ar; cases ar
 have b5:=s1.trans (s2.trans s3)
 kt_k
 refine ⟨fun m σ H4=>zg3 (∃ (o:Option Int) (fl:Addr) (R ks:List Int) (Lr:Int->Addr) (v8:Option V),σ=[some (.int st),some (.int g),some (.int rm),some (.ref f),some (.ref rl),some (.ref sd),some (.ref fl),some (ovI o),v8]/\z2u ex TB H tl st rl sd R ks Lr H4 /\
   ((R=[]/\o=some st)\/(Row tl st g rm.toNat R/\o=zdz tl st g rm.toNat R/\H fl=none/\fl≠rl/\H4 fl=some (.lst ((zcg tl st g rm.toNat R).map V.int))))/\m=61 - R.length),
  ⟨_,⟨some st,bc,[],[],fun _=>0,none,rfl,⟨Nz.of B hT b5,⟨[],s3 _ _ (s2 _ _ e1),.nil⟩,fun _ z=>(nomatch z),s3 _ _ e2,ii,fun n=>by simp [zi5],fun _ z=>(nomatch z)⟩,.inl ⟨rfl,rfl⟩,rfl⟩⟩,?_⟩
 rintro m σ H4 ⟨o,fl,R,ks,Lr,v8,rfl,I,aw,rfl⟩
 cases o with
 | none =>
  obtain ⟨ab,ce,ag,b0,br⟩:Row tl st g rm.toNat R/\none=zdz tl st g rm.toNat R/\H fl=none/\fl≠rl/\H4 fl=some (.lst ((zcg tl st g rm.toNat R).map V.int)):=by
   rcases aw with ⟨_,z⟩ | z
   ·cases z
   ·exact z
  refine ⟨_,rfl,rfl,_,rfl,?_⟩
  refine zu7 rfl ?_
  refine ⟨_,rfl,_,rfl,(j0 rfl),fun t ht=>?_⟩
  have s5:zau H4 (upd H4 t (.tup [V.ref rl,V.ref fl])):=zau.new H4 ht
  exact k t rl fl R Lr _ ab ce.symm (I.nx.trans (Nz.of B (W.tb _ (W.nx _ _ u I.nx)) s5)) zac (I.row.same s5) (fun m hm ns e=>by
   rw [aq] at e
   obtain ⟨a,b,c⟩:=I.ls m hm ns e
   exact ⟨a,b,s5 _ _ c⟩) ap ag b0 (s5 _ _ br)
 | some h =>
  have af:(∀ x∈R,x∈pool)/\R.Nodup/\h∈pool/\¬ h∈R/\(tl h=none->h∈ks)/\(Row tl st g rm.toNat (R++[h])):=by
   rcases aw with ⟨rfl,z⟩ | ⟨ab,z,_⟩
   ·cases z
    exact ⟨fun _ z=>(nomatch z),ii,bv,jq,fun z=>(by rw [aq,z] at ay; cases ay),.one⟩
   ·obtain ⟨a1,a2⟩:=ab.ok hP bv
    obtain ⟨b1,b2⟩:=zs9 z.symm
    have b3:=(zhj _ b1).1
    exact ⟨a1,a2,(zfc hP a1 _ b3).1,b2,fun _=>(I.mem h).mpr b3,.more ab z.symm⟩
  obtain ⟨af,b4,a7,bp,bq,a9⟩:=af
  have b8:(R++[h]).length<=60:=gm (zov (zbc b4 bp) (zl8 af a7)) h9
  rw [fm,fu] at b8
  have a8:=W.nx _ _ u I.nx
  have T4:=W.tb _ a8
  refine ⟨_,rfl,rfl,_,rfl,?_⟩
  refine zuj (fun z=>nomatch z) ?_
  refine ⟨fun σ' H'=>∃ m',m'<61 - R.length/\zg3 (∃ (o:Option Int) (fl:Addr) (R ks:List Int) (Lr:Int->Addr) (v8:Option V),σ'=[some (.int st),some (.int g),some (.int rm),some (.ref f),some (.ref rl),some (.ref sd),some (.ref fl),some (ovI o),v8]/\z2u ex TB H tl st rl sd R ks Lr H' /\
   ((R=[]/\o=some st)\/(Row tl st g rm.toNat R/\o=zdz tl st g rm.toNat R/\H fl=none/\fl≠rl/\H' fl=some (.lst ((zcg tl st g rm.toNat R).map V.int))))/\m'=61 - R.length),fun _ _ z=>z,?_⟩
  have cr:=zp4 hP af I.nd I.mem
  have a3:∀ (H8:Hp) (v8:V) (Lr':Int->Addr) (j:List Int),Nz ex TB H H8->zek H8 rl (R++[h]) tl Lr'->(∀ m∈R++[h],∀ ns,tl m=some ns->H (Lr' m)=none/\Lr' m≠rl/\H8 (Lr' m)=some (.lst (ns.map V.int)))->H8 sd=some (.dK (zb9 j (flR tl (R++[h]))))->j.Nodup->(∀ n,n∈j↔n∈zi5 tl st (R++[h]))->(∀ x∈R++[h],tl x=none->x∈j) ->
    z3e (z00 (zs1 (zkw Z.bk.P) [] E0 (zgk (zvw 5) (zgk (zvw 1) (zgk (zvw 2) zsi)))) (zmv 6)) (z00 (zs1 zsc [] E0 (zgk (zvw 6) (zgk (zvw 4) zsi))) (zmv 7))
     { nx:=fun σ' H'=>∃ m',m'<61 - R.length/\zg3 (∃ (o:Option Int) (fl:Addr) (R ks:List Int) (Lr:Int->Addr) (v8:Option V),σ'=[some (.int st),some (.int g),some (.int rm),some (.ref f),some (.ref rl),some (.ref sd),some (.ref fl),some (ovI o),v8]/\z2u ex TB H tl st rl sd R ks Lr H' /\
      ((R=[]/\o=some st)\/(Row tl st g rm.toNat R/\o=zdz tl st g rm.toNat R/\H fl=none/\fl≠rl/\H' fl=some (.lst ((zcg tl st g rm.toNat R).map V.int))))/\m'=61 - R.length),rt:=Q }
     [some (.int st),some (.int g),some (.int rm),some (.ref f),some (.ref rl),some (.ref sd),some (.ref fl),some (.int h),some v8] H8:=fun H8 v8 Lr' j K8 R8 L8 bn ad ac cd=>by
   have al:=zl8 af a7
   have cj:=zp4 hP al ad ac
   have T8:=W.tb _ (W.nx _ _ u K8)
   refine ⟨_,rfl,_,rfl,_,rfl,sd,g,rm,j,_,rfl,bn,by omega,hg,b6,fun n hn=>hP.nn n (zfc hP al n ((ac n).mp hn)).1,B.t0 T8,fun lf H9 cb cf bd ak=>?_⟩
   rw [zu4 hP al hg ac] at ak
   have au:Nz ex TB H8 H9:=Nz.by B T8 cb cf
   have ax:=au.keep B T8
   have b7:H9 sd=some (.dK (zb9 j (flR tl (R++[h])))):=ax _ _ (fun _ z=>nomatch z) bn
   have R9:zek H9 rl (R++[h]) tl Lr':=R8.nx B T8 au
   have L9:∀ m∈R++[h],∀ ns,tl m=some ns->H (Lr' m)=none/\Lr' m≠rl/\H9 (Lr' m)=some (.lst (ns.map V.int)):=fun m hm ns e=>by
    obtain ⟨a,b,c⟩:=L8 m hm ns e
    exact ⟨a,b,ax _ _ (fun _ z=>nomatch z) c⟩
   have bh:lf≠rl:=fun z=>by
    obtain ⟨_,y,_⟩:=R8.ex
    rw [z,y] at bd
    cases bd
   have bt:H lf=none:=K8.free B bd
   refine ⟨_,rfl,_,rfl,lf,rl,_,R++[h],tl,Lr',rfl,ak,R9,by simp; omega,fun ck ao=>?_⟩
   exact ⟨61 - (R++[h]).length,by simp; omega,⟨zdz tl st g rm.toNat (R++[h]),lf,R++[h],j,Lr',_,rfl,⟨(K8.trans au).trans (Nz.of B au.t ao),R9.same ao,fun m hm ns e=>by
    obtain ⟨a,b,c⟩:=L9 m hm ns e
    exact ⟨a,b,ao _ _ c⟩,ao _ _ b7,ad,ac,cd⟩,.inr ⟨a9,rfl,bt,bh,ao _ _ ak⟩,rfl⟩⟩
  have bo:=W.fn _ a8
  refine ⟨_,rfl,f,fd,rfl,bo,hR,_,rfl,_,rfl,_,rfl,bo,W.ca H4 _ h st a8 (fun en H5 r=>?_) fun ns en l0 H5 r bj a0=>?_⟩
  ·-- silent
   have d:tl h=none:=(aq h).symm.trans en
   have N5:=I.nx.trans r
   have a6:=I.row.nx B T4 r
   have ah:=r.keep B T4
   have aa:H5 sd=some (.dK (zb9 ks (flR tl R))):=ah _ _ (fun _ z=>nomatch z) I.seen
   have L5:∀ m∈R,∀ ns,tl m=some ns->H (Lr m)=none/\Lr m≠rl/\H5 (Lr m)=some (.lst (ns.map V.int)):=fun m hm ns e=>by
    obtain ⟨a,b,c⟩:=I.ls m hm ns e
    exact ⟨a,b,ah _ _ (fun _ z=>nomatch z) c⟩
   obtain ⟨ps,p,ai⟩:=a6.ex
   have am:(ps.map V.ref).length<sizeLine:=by rw [fj,ai.len]; exact zar (by omega)
   refine ⟨_,rfl,.inl ⟨rfl,_,SqL.of p⟩,_,rfl,_,rfl,rfl,_,rfl,?_⟩
   refine zpm rfl ?_
   refine ⟨(j0 rfl),fun t ht=>?_⟩
   have an:t≠rl:=fun z=>by rw [z,p] at ht; cases ht
   refine ⟨rl,_,_,rfl,rfl,(zab an.symm).trans p,am,?_⟩
   have T5:=W.tb _ (W.nx _ _ u N5)
   have K6:Nz ex TB H (upd (upd H5 t (.tup [ovI (some h),V.non])) rl (.lst (ps.map V.ref++[V.ref t]))):=(N5.trans (Nz.of B T5 (zau.new H5 ht))).put B ap (xs:=ps.map V.ref) ((zab an.symm).trans p)
   have R6:zek (upd (upd H5 t (.tup [ovI (some h),V.non])) rl (.lst (ps.map V.ref++[V.ref t]))) rl (R++[h]) tl Lr:=by
    have z:=zek.more (n:=h) (Lr':=Lr) p ai ht fun _ _=>rfl
    rw [zrv d] at z
    exact z
   have bf:∀ q o,q≠rl->H5 q=some o->upd (upd H5 t (.tup [ovI (some h),V.non])) rl (.lst (ps.map V.ref++[V.ref t])) q=some o:=fun q o hq e=>by
    rw [zab hq,zab (zae e ht)]
    exact e
   generalize upd (upd H5 t (.tup [ovI (some h),V.non])) rl (.lst (ps.map V.ref++[V.ref t]))=H6 at K6 R6 bf
   have be:=bf _ _ v.symm aa
   refine ⟨_,rfl,_,rfl,_,rfl,_,rfl,sd,st,h,V.non,ks,flR tl R,rfl,be,I.nd,by omega,.inl ⟨rfl,bq d,?_⟩⟩
   rw [<- zvc d]
   refine a3 _ V.non Lr ks (K6.putD B a4 be) ?_ (fun m hm ns e=>?_) zac I.nd (fun n=>?_) (fun x hx e=>?_)
   ·obtain ⟨qs,a5,bg⟩:=R6.ex
    refine ⟨qs,(zab v).trans a5,bg.mp fun a b e=>?_⟩
    have e:H6 a=_:=e
    exact (zab (fun z=>by rw [z,be] at e; cases e)).trans e
   ·rw [fq,fi] at hm
    rcases hm with z | z
    ·obtain ⟨a,b,c⟩:=L5 m z ns e
     exact ⟨a,b,by rw [zab (fun y=>by rw [y,aa] at c; cases c)]; exact bf _ _ b c⟩
    ·rw [z,d] at e
     cases e
   ·rw [I.mem,zmr]
    unfold zth
    rw [d]
    simp
   ·rw [fq,fi] at hx
    rcases hx with z | z
    ·exact I.qs x z e
    ·rw [z]
     exact bq d
  ·have d:tl h=some ns:=(aq h).symm.trans en
   have N5:=I.nx.trans r
   have ah:=r.keep B T4
   obtain ⟨bu,cq⟩:=hP.ns h a7 ns d
   have aa:H5 sd=some (.dK (zb9 ks (flR tl R))):=ah _ _ (fun _ z=>nomatch z) I.seen
   have a6:zek H5 rl R tl Lr:=I.row.nx B T4 r
   have L5:∀ m∈R,∀ ns,tl m=some ns->H (Lr m)=none/\Lr m≠rl/\H5 (Lr m)=some (.lst (ns.map V.int)):=fun m hm ns e=>by
    obtain ⟨a,b,c⟩:=I.ls m hm ns e
    exact ⟨a,b,ah _ _ (fun _ z=>nomatch z) c⟩
   obtain ⟨ps,p,ai⟩:=a6.ex
   have am:(ps.map V.ref).length<sizeLine:=by rw [fj,ai.len]; exact zar (by omega)
   have ba:l0≠rl:=fun z=>by
    obtain ⟨_,y,_⟩:=I.row.ex
    rw [z,y] at bj
    cases bj
   refine ⟨_,rfl,.inl ⟨rfl,_,SqL.of p⟩,_,rfl,_,rfl,rfl,_,rfl,?_⟩
   refine zhh (fun z=>nomatch z) ?_
   refine ⟨_,rfl,l0,ns.map V.int,rfl,.inl (SqL.of a0),fun l hl=>?_⟩
   refine ⟨(j0 rfl),fun t ht=>?_⟩
   have s6:zau H5 (upd H5 l (.lst (ns.map V.int))):=zau.new H5 hl
   have e6:upd H5 l (.lst (ns.map V.int)) l=some (.lst (ns.map V.int)):=zac
   have T5:=W.tb _ (W.nx _ _ u N5)
   have az:l≠rl:=fun z=>by rw [z,p] at hl; cases hl
   have bl:H l=none:=N5.free B hl
   generalize upd H5 l (.lst (ns.map V.int))=H6 at s6 ht e6 |-
   have ae:=s6 _ _ p
   have an:t≠rl:=fun z=>by rw [z,ae] at ht; cases ht
   refine ⟨rl,_,_,rfl,rfl,(zab an.symm).trans ae,am,?_⟩
   have N6:=N5.trans (Nz.of B T5 s6)
   have T6:=W.tb _ (W.nx _ _ u N6)
   have K7:Nz ex TB H (upd (upd H6 t (.tup [ovI (some h),V.ref l])) rl (.lst (ps.map V.ref++[V.ref t]))):=(N6.trans (Nz.of B T6 (zau.new H6 ht))).put B ap (xs:=ps.map V.ref) ((zab an.symm).trans ae)
   let Lr':Int->Addr:=fun m=>if m=h then l else Lr m
   have bz:Lr' h=l:=if_pos rfl
   have bw:∀ m∈R,Lr' m=Lr m:=fun m hm=>if_neg fun (z:m=h)=>bp (z ▸ hm)
   have R7:zek (upd (upd H6 t (.tup [ovI (some h),V.ref l])) rl (.lst (ps.map V.ref++[V.ref t]))) rl (R++[h]) tl Lr':=by
    have z:=zek.more (n:=h) (Lr':=Lr') ae (ai.mp fun a b e=>s6 _ _ e) ht fun m hm=>by unfold tv; rw [bw m hm]
    rw [ztc d,bz] at z
    exact z
   have aj:∀ q o,q≠rl->H6 q=some o->upd (upd H6 t (.tup [ovI (some h),V.ref l])) rl (.lst (ps.map V.ref++[V.ref t])) q=some o:=fun q o hq e=>by
    rw [zab hq,zab (zae e ht)]
    exact e
   have L7:∀ m∈R++[h],∀ ns,tl m=some ns->H (Lr' m)=none/\Lr' m≠rl/\upd (upd H6 t (.tup [ovI (some h),V.ref l])) rl (.lst (ps.map V.ref++[V.ref t])) (Lr' m)=some (.lst (ns.map V.int)):=fun m hm bb e=>by
    rw [fq,fi] at hm
    rcases hm with z | z
    ·rw [bw m z]
     obtain ⟨a,b,c⟩:=L5 m z bb e
     exact ⟨a,b,aj _ _ b (s6 _ _ c)⟩
    ·subst z
     rw [d] at e
     cases e
     rw [bz]
     exact ⟨bl,az,aj _ _ az e6⟩
   generalize upd (upd H6 t (.tup [ovI (some h),V.ref l])) rl (.lst (ps.map V.ref++[V.ref t]))=H7 at K7 R7 aj L7
   have av:=aj _ _ v.symm (s6 _ _ aa)
   have bi:=aj _ _ ba (s6 _ _ a0)
   refine ⟨_,rfl,_,rfl,_,rfl,_,rfl,sd,st,h,V.ref l0,ks,flR tl R,rfl,av,I.nd,by omega,.inr ⟨l0,ns,rfl,bi,bu,fun n _ cp ci=>?_,fun j ad bm=>?_⟩⟩
   ·unfold flR
    rw [ju,decide_eq_false_iff_not]
    intro z
    unfold zk0 at z
    obtain ⟨z1,z2⟩:=gv.mp z
    refine ci (I.qs n z1 ?_)
    cases e:tl n with
    | none=>rfl
    | some _=>rw [e] at z2; cases z2
   ·rw [<- zv5 (R:=R) d]
    refine a3 _ (V.ref l0) Lr' j (K7.putD B a4 av) ?_ (fun m hm bb e=>?_) zac ad (fun n=>?_) fun x hx e=>?_
    ·obtain ⟨qs,a5,bg⟩:=R7.ex
     refine ⟨qs,(zab v).trans a5,bg.mp fun a b e=>?_⟩
     have e:H7 a=_:=e
     exact (zab (fun z=>by rw [z,av] at e; cases e)).trans e
    ·obtain ⟨a,b,c⟩:=L7 m hm bb e
     exact ⟨a,b,by rw [zab (fun y=>by rw [y,av] at c; cases c)]; exact c⟩
    ·rw [bm,I.mem,zmr,fq]
     unfold zth
     rw [d]
     simp
    ·rw [fq,fi] at hx
     rcases hx with z | z
     ·exact (bm x).mpr (.inl (I.qs x z e))
     ·rw [z,d] at e
      cases e
def zrc (N:Int->Nat->List Int)(h n:Int):Int->Nat->List Int:=zcu N h (zri (N h) (zbj h n) ((N h (zbj h n)).erase n))
def learn1 (r:Int)(aw:Int->Bool)(tl:Int->Option (List Int))(N:Int->Nat->List Int)(st h:Int):Int->Nat->List Int:=if (tl h).isSome=true then zql r aw N st h else zrc N st h
def zdq (r:Int)(aw:Int->Bool)(tl:Int->Option (List Int))(N:Int->Nat->List Int)(st:Int):List Int->Int->Nat->List Int
 | []=>N
 | h :: t=>zdq r aw tl (learn1 r aw tl N st h) st t
theorem zf4 {r:Int}{aw:Int->Bool}{tl:Int->Option (List Int)}{st h:Int}:∀ {l:List Int} {N:Int->Nat->List Int},zdq r aw tl N st (l++[h])=learn1 r aw tl (zdq r aw tl N st l) st h
 | [],_=>rfl
 | _ :: t,_=>zf4 (l:=t)
theorem NOk.drop {pool:List Int}{z:Nat}{r:Int}{hs:List Int}{N:Int->Nat->List Int}(O:NOk pool z r hs N){a b:Int}:NOk pool z r hs (zrc N a b):=by
 have sub:∀ h k,∃ m,zrc N a b h k=N h k\/zrc N a b h k=(N h k).erase m:=fun h k=>by
  unfold zrc
  by_cases e:h=a
  ·subst e
   rw [zaj]
   by_cases e2:k=zbj h b
   ·subst e2
    rw [za4]
    exact ⟨b,.inr rfl⟩
   ·rw [za8 e2]
    exact ⟨b,.inl rfl⟩
  ·rw [zao e]
   exact ⟨b,.inl rfl⟩
 refine ⟨fun h hh k=>?_,fun h hh k=>?_,fun h hh k m hm=>?_⟩
 ·obtain ⟨m,e | e⟩:=sub h k
  ·rw [e]
   exact O.nd h hh k
  ·rw [e]
   exact (O.nd h hh k).erase m
 ·obtain ⟨m,e | e⟩:=sub h k
  ·rw [e]
   exact O.le h hh k
  ·rw [e]
   have:=O.le h hh k
   have:=List.length_erase_le (a:=m) (l:=N h k)
   omega
 ·obtain ⟨n,e | e⟩:=sub h k
  ·rw [e] at hm
   exact O.st h hh k m hm
  ·rw [e] at hm
   exact O.st h hh k m (List.mem_of_mem_erase hm)
theorem NOk.learn1 {pool:List Int}{z:Nat}{r:Int}{hs:List Int}{N:Int->Nat->List Int}(O:NOk pool z r hs N)(hr:1<=r){aw:Int->Bool}{tl:Int->Option (List Int)}{a b:Int}(ha:a∈pool)(hb:b∈pool)(hne:b≠a):NOk pool z r hs (learn1 r aw tl N a b):=by
 unfold NN.learn1
 split
 ·exact O.meet hr ha hb hne
 ·exact O.drop
theorem NOk.learn {pool:List Int}{z:Nat}{r:Int}{hs:List Int}(hr:1<=r){aw:Int->Bool}{tl:Int->Option (List Int)}{a:Int}(ha:a∈pool):∀ {l:List Int} {N:Int->Nat->List Int},NOk pool z r hs N->(∀ x∈l,x∈pool/\x≠a)->NOk pool z r hs (zdq r aw tl N a l)
 | [],_,O,_=>O
 | x :: t,_,O,h=>NOk.learn (l:=t) hr ha (O.learn1 hr ha (h x (gb ..)).1 (h x (gb ..)).2) fun y hy=>h y (fk _ hy)
theorem zak.tupN {CB CT CW w td sd:Addr}{H:Hp}{z r:Int}{hs sil:List Int}{T:Int->zbk}(W:zak CB CT CW H w td sd z r hs sil T){q:Addr}{xs:List V}(e:H q=some (.tup xs)):¬ Own td sd z.toNat hs T q:=fun y=>by
 rcases y with rfl | rfl | ⟨g,hg,rfl | ⟨j,hj,rfl | rfl⟩⟩
 ·rw [W.tb] at e
  cases e
 ·rw [W.si] at e
  cases e
 ·rw [(W.ta g hg).li] at e
  cases e
 ·obtain ⟨⟨d,e1⟩,_⟩:=(W.ta g hg).bk j hj
  rw [e1] at e
  cases e
 ·rw [((W.ta g hg).bk j hj).li] at e
  cases e
theorem zta (x:V)(xs:List V):zj8 (x :: xs) (some 1) none=xs:=by
 unfold zj8
 have e1:HT.sIx (x :: xs).length 0 (some 1)=1:=by
  have:=HT.sIx_nat (x :: xs).length 0 1
  rw [show ((1:Nat):Int)=1 from rfl] at this
  rw [this]
  simp
 rw [e1,HT.sIx_none,List.drop_succ_cons,lg]
 exact i3 (by simp)
theorem zak.dropped {CB CT CW w td sd T1:Addr}{H H':Hp}{z r:Int}{hs sil:List Int}{T:Int->zbk}(W:zak CB CT CW H w td sd z r hs sil T)(A:zbv z.toNat hs T)(t:Tab H T1 (zap zdx) quH){h n:Int}(hh:h∈hs)(hst:zbj h n<z.toNat)
  (B:zcv CB H' ((T h).bA (zbj h n)) ((T h).lA (zbj h n)) r (((T h).ns (zbj h n)).erase n))(b:zqx ((T h).lA (zbj h n)) H H') :
  ∃ T',zak CB CT CW H' w td sd z r hs sil T'/\zbv z.toNat hs T'/\(fun g=>(T' g).ns)=zrc (fun g=>(T g).ns) h n/\zd0 T1 H H' (Own td sd z.toNat hs T) (Own td sd z.toNat hs T')/\Tab H' T1 (zap zdx) quH:=by
 have a:=(W.ta h hh).bk _ hst
 have he:∀ q,H' q=none->H q=none:=fun q e=>by
  cases eq:H q with
  | none=>rfl
  | some o =>
   exfalso
   by_cases e2:q=(T h).lA (zbj h n)
   ·rw [e2,B.li] at e
    cases e
   ·rw [b q o eq e2] at e
    cases e
 obtain ⟨W3,A3,d3⟩:=W.turn (T1:=T1) A hh hst B (.inl rfl) (fun q o _ e _ y=>b q o e y) he (fun q ps e _=>b q _ e (fun y=>by
  rw [y,a.li] at e
  cases e))
 refine ⟨_,W3,A3,?_,d3,Tab.hold t fun q o ho e=>b q o e (fun y=>?_)⟩
 ·rw [zsq]
  rfl
 ·subst y
  rcases ho with ⟨x,kk,rfl⟩ | y
  ·rw [a.li] at e
   cases e
  ·obtain ⟨ps,hP,_⟩:=t
   rw [<- y,a.li] at hP
   cases hP
def zvp (CB CT CW T1:Addr):Sp:=fun vs H Q _=>∀ CC:Prop,(∀ (w td sd rl:Addr) (z r:Int) (hs sil pool rest:List Int) (T:Int->zbk) (st:Int) (tl:Int->Option (List Int)) (Lr:Int->Addr),vs=[.ref w,.int st,.ref rl]->zak CB CT CW H w td sd z r hs sil T->zbv z.toNat hs T->NOk pool z.toNat r hs (fun g=>(T g).ns)->st∈hs->st∈pool->zek H rl (st :: rest) tl Lr->rest.length<=60->((∀ h∈rest,h∈pool/\h≠st/\0<=h/\h<2 ^ z.toNat/\((tl h).isSome=true->h∈hs)))->Tab H T1 (zap zdx) quH->(∀ (H':Hp) (T':Int->zbk),zak CB CT CW H' w td sd z r hs sil T'->zbv z.toNat hs T'->(fun g=>(T' g).ns)=zdq r (awB hs sil) tl (fun g=>(T g).ns) st rest->zd0 T1 H H' (Own td sd z.toNat hs T) (Own td sd z.toNat hs T')->Tab H' T1 (zap zdx) quH->Q .non H')->CC)->CC
theorem zjf:zal ["self","name"] ["self","name"] (zai (zaf (top 20) 3)):=fS
theorem zi6 (Z:ZZ P w K mg base):zbu Z 1 Z.cp (zy9 Z.ba.C):=by
 have f:=Z.ba.cl
 obtain ⟨d,b,-⟩:=Z.ba.na
 refine Z.cp.fn.ok zjf (by kd_p) (fun cdv A outer s H vs Q E hr h=>?_)
 obtain ⟨p,l,r,n,ns,rfl,⟨⟨dx,hp⟩,hl⟩,k⟩:=h
 have a:p≠l:=zck hp hl (by intro z; cases z)
 refine ⟨_,(zad (zbw (zaz zfg (pv 1) (zav (pv 0) rfl) (by with_unfolding_all rfl))
   (zah (zas ze7))
   zay)
  (zad (zat (zot i6 PySem.F.slot_list_remove PySem.F.type_list_remove zne (zav (pv 0) rfl) (zaa (pv 1) zag)))
  (zah (zas ze7)))),?_⟩
 kt_k
 show if (!inV (V.int n) (ns.map V.int))=true then _ else _
 rw [zin]
 by_cases hn:n∈ns
 ·refine zu7 hn ?_
  kt_k
  have q:=k (upd H l (.lst ((ns.erase n).map V.int))) ⟨⟨dx,by rw [zab a]; exact hp⟩,zac⟩ fun c o e hc=>by rw [zab hc]; exact e
  rw [decide_eq_true hn] at q
  exact q
 ·refine zuj hn ?_
  have q:=k H ⟨⟨dx,hp⟩,by rw [List.erase_of_not_mem hn]; exact hl⟩ fun c o e hc=>e
  rw [decide_eq_false hn] at q
  exact q
theorem zkh:zal ["self","name"] ["self","name"] (zai (zaf (top 22) 2)):=fS
theorem zkd (Z:ZZ P w K mg base):zbu Z 4 Z.cq (zwc Z.ba.C Z.bb.C):=by
 have x:=Z.bb.cl
 obtain ⟨o,l,u,q,-⟩:=Z.bb.na
 have i:=zhr (CB:=Z.ba.C) Z
 have j:=zi6 Z
 refine Z.cq.fn.ok zkh (by kd_p) (fun cdv A outer s H vs Q E hr g=>?_)
 refine g _ fun t bl own z r m n bA lA ns d hT h1 h2 h3 h4 c=>?_
 subst d
 obtain ⟨k1,k2⟩:=c
 obtain ⟨⟨dx,y⟩,aa,h,-⟩:=id hT
 refine ⟨_,(zad (zbw (zaz zmc (pv 1) (zav (pv 0) rfl) (zbb _))
   (zah (zas ze7))
   zay)
  (zah (zas (pmD (pmD (pv 0) Z.bb.cl Z.bm i hr (zaa (pv 1) zag)) Z.ba.cl Z.cp j hr (zaa (pv 1) zag))))),?_⟩
 kt_k
 by_cases b:m=own
 ·subst b
  refine zpm rfl ?_
  exact k1 rfl
 ·have a:own≠m:=fun e=>b e.symm
  refine zhh (fun e=>b (by injection e)) ?_
  have f:=zg1 h1 h2 h3 h4 a
  have hB:=h _ f
  obtain ⟨⟨dk,v⟩,p⟩:=id hB
  have kk:=k2 a
  kt_k
theorem zec:zal ["self","start","row","house","told"] ["self","start","row"] (zai (zaf (top 25) 21)):=fS
theorem zj7 (Z:ZZ P w K mg base):zbu Z 11 Z.cr (zvp Z.ba.C Z.bb.C Z.bc.C Z.b6.P):=by
 have a8:=Z.bc.cl
 obtain ⟨ax,a6,a2,ay,-⟩:=Z.bc.na
 have ai:=zhx Z
 have af:=zkd Z
 refine Z.cr.fn.ok zec (by kd_p) (fun cdv A outer s H vs Q E hr an=>?_)
 refine an _ fun w td sd rl z r hs sil pool c TT st tl Lr aj hW hA hO m j ab aw b hT k=>?_
 subst aj
 obtain ⟨ps,az,ah⟩:=ab.ex
 cases ah with
 | @cons p0 _ pt _ hp0 hpt =>
 have aq:=hW.r1
 have a7:=hW.r2
 refine ⟨_,(zah (zdf PassesOwn.never rfl (zbf (zc3 zeb (pv 2) (zdd zan) zfi)) (zm0 (n:=2) rfl (zb3 (zaw (i:=3) zec.nd rfl oL) (zb3 (zaw (i:=4) zec.nd rfl oL) zg7)))
   (zah (zbw (zaz zpw (pv 4) zen (zbb _))
    (zah (zat (pmD (zcp (zcz hr) (zav (pv 0) rfl) (pv 1) (fun _ _=>rfl)) Z.bb.cl Z.cq af hr (zaa (pv 3) zag))))
    (zah (zat (pmD (pv 0) Z.bc.cl Z.b7 ai hr (zaa (pv 1) (zaa (pv 3) zag))))))))),?_⟩
 kt_k
 rw [gz,zta]
 intro sl ad
 have s1:zau H (upd H sl (.lst (pt.map V.ref))):=zau.new H ad
 have e1:upd H sl (.lst (pt.map V.ref)) sl=some (.lst (pt.map V.ref)):=zac
 generalize upd H sl (.lst (pt.map V.ref))=H1 at s1 e1 |-
 have W1:=hW.keep (H':=H1) fun q o _ e=>s1 _ _ e
 have ag:¬ Own td sd z.toNat hs TT sl:=hW.notOwn ad
 have ae:=hpt.len
 kt_k
 refine zbs (K:=K) (a:=sl) (xs:=pt.map V.ref) (fun i σ H2=>zg3 (∃ (v3 v4:Option V) (T2:Int->zbk),σ=[some (.ref w),some (.int st),some (.ref rl),v3,v4]/\zak Z.ba.C Z.bb.C Z.bc.C H2 w td sd z r hs sil T2/\zbv z.toNat hs T2/\(fun g=>(T2 g).ns)=zdq r (awB hs sil) tl (fun g=>(TT g).ns) st (c.take i)/\zd0 Z.b6.P H1 H2 (Own td sd z.toNat hs TT) (Own td sd z.toNat hs T2)/\Tab H2 Z.b6.P (zap zdx) quH))
  ⟨⟨_,_,TT,rfl,W1,hA,rfl,zd0.refl _ _,(s1.but _).2 _ _ hT⟩⟩ (fun i σ H2 _ ⟨_,_,_,_,_,_,_,d,_⟩=>SqL.of (d.k _ _ (fun _ z=>nomatch z) e1 ag)) ?_ ?_
 ·rintro i y σ H2 hi ⟨v3,v4,T2,rfl,W2,A2,e2,d2,t2⟩
  obtain ⟨p,h,hp,hh,rfl,l⟩:=zfl hpt hi
  have l:H p=some (.tup [.int h,tv Lr tl h]):=l
  have v:H2 p=some (.tup [.int h,tv Lr tl h]):=d2.k _ _ (fun _ z=>nomatch z) (s1 _ _ l) (hW.tupN l)
  obtain ⟨a5,ao,ak,al,ap⟩:=b h (gj hh)
  have et:c.take (i+1)=c.take i++[h]:=by rw [jb,hh]; rfl
  have O2:NOk pool z.toNat r hs (fun g=>(T2 g).ns):=by
   rw [e2]
   exact NOk.learn aq j hO fun x hx=>⟨(b x (ia hx)).1,(b x (ia hx)).2.1⟩
  have a0:∀ g∈hs,∀ k,((T2 g).ns k).length<=1000:=fun g hg k=>by
   have:(((T2 g).ns k).length:Int)<=r:=O2.le g hg k
   omega
  obtain ⟨⟨a4,ar⟩,u,av,ac,-⟩:=id W2
  have am:=ac st m
  obtain ⟨a1,au⟩:=am.ob
  have hg:zgf H2 td (V.int st) (some (V.ref (T2 st).t)):=by
   have:=zgf.k (k:=Sum.inl st) u
   rw [zdm,if_pos m] at this
   exact this
  have aa:=W2.hb st m
  cases f:tl h with
  | none =>
   rw [zrv f] at v
   have j:zbj st h<z.toNat:=zg1 aa.1 ak aa.2 al (Ne.symm ao)
   kt_k
   intro _ H3 B3 b3
   obtain ⟨T3,W3,A3,e3,d3,t3⟩:=W2.dropped A2 t2 m j B3 b3
   refine ⟨⟨_,_,T3,rfl,W3,A3,?_,d2.trans d3,t3⟩⟩
   rw [e3,e2,et,zf4]
   unfold learn1
   rw [f]
   rfl
  | some ns =>
   rw [ztc f] at v
   have a3:=ap (by rw [f]; rfl)
   kt_k
   intro H3 T3 W3 A3 e3 d3 t3
   refine ⟨⟨_,_,T3,rfl,W3,A3,?_,d2.trans d3,t3⟩⟩
   rw [e3,e2,et,zf4]
   unfold learn1
   rw [f]
   rfl
 ·rintro σ H2 ⟨v3,v4,T2,rfl,W2,A2,e2,d2,t2⟩
  rw [fj,ae,gr] at e2
  exact k H2 T2 W2 A2 e2 ((zd0.same s1).trans d2) t2
theorem zhe {z r:Int}{hs sil pool:List Int}{N:Int->Nat->List Int}{g st:Int}(O:NOk pool z.toNat r hs N)(hr:r<=8)(hl:pool.length<=60)(hn:∀ x∈pool,0<=x):zjb pool (fun h=>za9 z r hs sil N g h st):=by
 refine ⟨hl,hn,fun n _ ns e=>?_⟩
 have e:za9 z r hs sil N g n st=some ns:=e
 unfold za9 at e
 split at e
 ·rename_i a
  cases e
  refine ⟨?_,fun m hm=>?_⟩
  ·rw [gq]
   omega
  ·have y2:=(gv.mp (zfb.mp (ia hm))).1
   obtain ⟨k,_,hm⟩:=zgl.mp ((zam _).subset y2)
   exact (O.st n (ziw a).1 k m hm).1
 ·cases e
structure zz7 (T0 T1 T3:Addr)(H H':Hp)(O O':Addr->Prop):Prop where
 k:∀ q o,(∀ ps,o≠ .tbl ps)->H q=some o->¬ O q->H' q=some o
 o:∀ q,O' q->O q\/H q=none
 e:∀ q,H' q=none->H q=none
 t:∀ q ps,H q=some (.tbl ps)->q≠T0->q≠T1->q≠T3->H' q=some (.tbl ps)
 t0:Tab H' T0 (zap zc5) quL
 t1:Tab H' T1 (zap zg0) quT
 t3:Tab H' T3 (zap zdx) quH
def zw6 (CB CT CW T0 T1 T3:Addr):Sp:=fun vs H Q _=>∀ CC:Prop,(∀ (w td sd:Addr) (z r:Int) (hs sil pool:List Int) (T:Int->zbk) (i g:Int),vs=[.ref w,.int i,.int g]->zak CB CT CW H w td sd z r hs sil T->zbv z.toNat hs T->NOk pool z.toNat r hs (fun h=>(T h).ns)->pool.length<=60->((∀ x∈pool,0<=x/\x<2 ^ z.toNat))->((∀ x∈hs,x∈pool))->i∈hs->i∉sil->0<=g->g<2 ^ z.toNat->Tab H T0 (zap zc5) quL->Tab H T1 (zap zg0) quT->Tab H T3 (zap zdx) quH->(∀ (t rl fl:Addr) (rest:List Int) (Lr:Int->Addr) (H':Hp) (T':Int->zbk),Row (fun h=>za9 z r hs sil (fun h=>(T h).ns) g h i) i g r.toNat (i :: rest)->zdz (fun h=>za9 z r hs sil (fun h=>(T h).ns) g h i) i g r.toNat (i :: rest)=none->zak CB CT CW H' w td sd z r hs sil T'->zbv z.toNat hs T'->(fun h=>(T' h).ns)=zdq r (awB hs sil) (fun h=>za9 z r hs sil (fun h=>(T h).ns) g h i) (fun h=>(T h).ns) i rest->zz7 T0 T1 T3 H H' (Own td sd z.toNat hs T) (Own td sd z.toNat hs T')->H' t=some (.tup [.ref rl,.ref fl])->zek H' rl (i :: rest) (fun h=>za9 z r hs sil (fun h=>(T h).ns) g h i) Lr->(∀ m∈i :: rest,∀ ns,za9 z r hs sil (fun h=>(T h).ns) g m i=some ns->H (Lr m)=none/\Lr m≠rl/\H' (Lr m)=some (.lst (ns.map V.int))/\¬ Own td sd z.toNat hs T' (Lr m))->H rl=none->H fl=none->fl≠rl->¬ Own td sd z.toNat hs T' fl->H' fl=some (.lst ((zcg (fun h=>za9 z r hs sil (fun h=>(T h).ns) g h i) i g r.toNat (i :: rest)).map V.int))->Q (.ref t) H')->CC)->CC
theorem zi3:zal ["self","start","goal","answer"] ["self","start","goal"] (zai (zaf (top 25) 9)):=fS
theorem zif (Z:ZZ P w K mg base):zbu Z 12 Z.ct (zw6 Z.ba.C Z.bb.C Z.bc.C Z.bk.P Z.cs.P Z.b6.P):=by
 have bp:=Z.bc.cl
 obtain ⟨bg,bn,bi,bh,-⟩:=Z.bc.na
 have GA:∀ f fd,RT f fd->zdl P w K mg base CX0 8 f fd ["house","goal","asker"] (spT Z.ba.C Z.bb.C Z.bc.C Z.bk.P f fd):=fun f fd _=>zxr Z
 have bA:∀ f fd,RT f fd->zce K fd ["house","goal","asker"] []:=fun f fd h=>zx_ h
 have ao:=zd2 (CB:=Z.ba.C) (CT:=Z.bb.C) Z
 have a7:=zbm (CB:=Z.ba.C) (CT:=Z.bb.C) Z
 have ap:=zke Z Z.cs Z.dg
 have a4:=zsm Z GA bA z1n
 have a8:=zj7 Z
 refine Z.ct.fn.ok zi3 (by kd_p) (fun cdv A outer s H vs Q E hr a3=>?_)
 refine a3 _ fun w td sd z r hs sil pool TT i g a2 hW hA hO ah ab l hi aw hg bo au aj az k=>?_
 subst a2
 obtain ⟨dx,bm⟩:=hW.ob
 have bq:=hW.r1
 have a5:=hW.r2
 have a9:zqd z hs (fun h=>(TT h).ns):=fun h hh=>⟨j4 (hO.len hh z.toNat) (by omega),fun y hy=>by
  obtain ⟨kk,_,hm⟩:=zgl.mp hy
  exact (ab y (hO.st h hh kk y hm).1).1⟩
 refine ⟨_,(zad (zat (pmD (pv 0) Z.bc.cl Z.bz a7 hr (zaa (pv 1) zag)))
  (zad (zat (pmD (pv 0) Z.bc.cl Z.bw ao hr (zaa (pv 2) zag)))
  (zad (zax (i:=3) zi3.nd rfl oL (pfD Z.co a4 hr rfl (zaa (pv 1) (zaa (pv 2) (zaa (zav (pv 0) rfl) (zaa (zcd (pv 0) Z.bc.cl Z.cs.me ap hr.mm Z.cs.b .nil zb5) zag))))))
  (zad (zat (pmD (pv 0) Z.bc.cl Z.cr a8 hr (zaa (pv 1) (zaa (zfw zjv (pv 3) zan (fun _ _=>rfl)) zag))))
  (zah (zas (pv 3))))))),?_⟩
 kt_k
 intro f fd fo k0 H1 aa j hf hR an a6 hF
 have kp:∀ q o,(∀ ps,o≠ .tbl ps)->H q=some o->H1 q=some o:=fun q o ho e=>aa q o (fun y=>by
  obtain ⟨ps,hP,_⟩:=aj
  rw [y,hP] at e
  cases e
  exact ho _ rfl) e
 have u:Tab H1 Z.bk.P (zap zc5) quL:=Tab.hold au fun q o h e=>aa q o (fun y=>by
  rcases h with ⟨x,k,rfl⟩ | h
  ·obtain ⟨ps,hP,_⟩:=aj
   rw [y,hP] at e
   cases e
  ·exact Z.dh (h.symm.trans y)) e
 have W1:=hW.keep kp
 have ae:(za9 z r hs sil (fun h=>(TT h).ns) g i i).isSome=true:=by
  rw [zhb]
  unfold awB
  rw [decide_eq_true hi,decide_eq_false aw]
  rfl
 have free:∀ {q:Addr},H1 q=none->H q=none:=fun {q} e=>by
  cases eq:H q with
  | none=>rfl
  | some o =>
   by_cases y:q=Z.cs.P
   ·obtain ⟨ps,hP,_⟩:=j
    rw [y,hP] at e
    cases e
   ·rw [aa q o y eq] at e
    cases e
 have K1:Kx Z.bk.P Z.cs.P H H1:=⟨kp,u,j,fun q ps e _ y=>aa q _ y e,fun q e=>free e⟩
 have v:zjb pool (fun h=>za9 z r hs sil (fun h=>(TT h).ns) g h i):=zhe hO a5 ah fun x hx=>(ab x hx).1
 have ay:0<=r:=by omega
 refine ⟨i,g,r,f,fd,hs,pool,_,_,rfl,zzu a9 a6 hg,⟨W1,u,an,hF⟩,hR,v,l i hi,ae,hg,ay,fun t rl fl R Lr H2 n aq N2 ht ar be af ad ai ac=>?_⟩
 have K2:Kx Z.bk.P Z.cs.P H H2:=K1.trans (Kx.nx Z.dh u j N2.nx)
 have W2:=hW.keep K2.k
 have t3:=K2.tab az Z.di.symm Z.dj.symm
 obtain ⟨d,rfl⟩:∃ d,R=i :: d:=by
  have:=n.head
  cases R with
  | nil=>cases this
  | cons a b =>
   cases this
   exact ⟨b,rfl⟩
 obtain ⟨ag,ak⟩:=n.ok v (l i hi)
 obtain ⟨am,a0⟩:=io.mp ak
 have a1:d.length<=60:=gm (zov a0 fun x hx=>ag x (fk _ hx)) ah
 have bd:∀ h∈d,h∈pool/\h≠i/\0<=h/\h<2 ^ z.toNat/\((za9 z r hs sil (fun h=>(TT h).ns) g h i).isSome=true->h∈hs):=fun h hh=>by
  have hp:=ag h (fk _ hh)
  refine ⟨hp,fun e=>am (e ▸ hh),(ab h hp).1,(ab h hp).2,fun e=>?_⟩
  rw [zhb] at e
  exact (ziw e).1
 have bl:=l i hi
 obtain ⟨bj,bf⟩:=W2.ob
 have ax:¬ Own td sd z.toNat hs TT rl:=hW.notOwn (free af)
 kt_k
 intro H3 T3 W3 A3 e3 d3 al
 have kt:=zsa.deed W2 d3
 have no:∀ {q:Addr} {o:HO},H q=none->H2 q=some o->¬ Own td sd z.toNat hs T3 q:=fun {q o} e e2 y=>by
  rcases d3.o q y with y | y
  ·exact hW.notOwn e y
  ·rw [e2] at y
   cases y
 kt_k
 refine k t rl fl d Lr H3 T3 n aq W3 A3 e3 ⟨fun q o ho e hn=>d3.k q o ho (K2.k q o ho e) hn,fun q y=>(d3.o q y).imp id (K2.e q),fun q e=>K2.e q (d3.e q e),fun q ps e y0 y1 y3=>d3.t q ps (K2.b q ps e y0 y1) y3,kt _ _ _ Z.di K2.t0,kt _ _ _ Z.dj K2.t1,al⟩ (d3.k _ _ (fun _ z=>nomatch z) ht (W2.tupN ht)) ?_ (fun m hm ns e=>?_) (free af) (free ad) ai (no (free ad) ac) (d3.k _ _ (fun _ z=>nomatch z) ac (hW.notOwn (free ad)))
 ·obtain ⟨ps,l,av⟩:=ar.ex
  exact ⟨ps,d3.k _ _ (fun _ z=>nomatch z) l ax,av.mp fun p h e=>d3.k _ _ (fun _ z=>nomatch z) e (W2.tupN e)⟩
 ·obtain ⟨a,b,c⟩:=be m hm ns e
  exact ⟨free a,b,d3.k _ _ (fun _ z=>nomatch z) c (hW.notOwn (free a)),no (free a) c⟩
theorem zl9 {tl:Int->Option (List Int)}{st g:Int}{rm:Nat}{R:List Int}(e:zdz tl st g rm R=none):∀ n∈zcg tl st g rm R,n∈R/\(tl n).isSome=true:=fun n hn=>by
 have h1:=List.find?_eq_none.mp e n hn
 unfold zwt at h1
 have hR:n∈R:=by simpa using h1
 refine ⟨hR,?_⟩
 have h2:=(zhj n hn).2
 unfold flR zk0 at h2
 simp only [ju,decide_eq_false_iff_not,gv,not_and,Bool.not_eq_false'] at h2
 have h3:=h2 hR
 cases e2:tl n with
 | none=>simp [e2] at h3
 | some x=>rfl
theorem zlk {z r:Int}{hs sil:List Int}{N:Int->Nat->List Int}{g i a:Int}(h:(za9 z r hs sil N g i a).isSome=true):i∈hs/\i∉sil:=by
 rw [zhb] at h
 exact ziw h
def Om (td sd:Addr)(z:Nat)(hs:List Int)(T:Int->zbk)(gd:Addr)(ks:List Int)(ad:Int->Addr)(q:Addr):Prop:=Own td sd z hs T q\/Ng gd ks ad q
structure Mq (T0 T1 T3 T4:Addr)(H H':Hp)(O O':Addr->Prop):Prop where
 k:∀ q o,(∀ ps,o≠ .tbl ps)->H q=some o->¬ O q->H' q=some o
 o:∀ q,O' q->O q\/H q=none
 e:∀ q,H' q=none->H q=none
 t0:Tab H' T0 (zap zc5) quL
 t1:Tab H' T1 (zap zg0) quT
 t3:Tab H' T3 (zap zdx) quH
 t4:Tab H' T4 (zap zf_) quN
theorem Mq.trans {T0 T1 T3 T4:Addr}{H H1 H2:Hp}{O O1 O2:Addr->Prop}(a:Mq T0 T1 T3 T4 H H1 O O1)(b:Mq T0 T1 T3 T4 H1 H2 O1 O2):Mq T0 T1 T3 T4 H H2 O O2:=by
 refine ⟨fun q o ho e hn=>b.k q o ho (a.k q o ho e hn) fun z=>?_,fun q z=>?_,fun q h=>a.e q (b.e q h),b.t0,b.t1,b.t3,b.t4⟩
 ·rcases a.o q z with y | y
  ·exact hn y
  ·rw [e] at y
   cases y
 ·rcases b.o q z with y | y
  ·exact a.o q y
  ·exact .inr (a.e q y)
theorem Mq.same {T0 T1 T3 T4:Addr}{H H1 H2:Hp}{O O1:Addr->Prop}(a:Mq T0 T1 T3 T4 H H1 O O1)(s:zau H1 H2):Mq T0 T1 T3 T4 H H2 O O1:=⟨fun q o ho e hn=>s _ _ (a.k q o ho e hn),a.o,fun q e=>a.e q (s.free e),(s.but _).2 _ _ a.t0,(s.but _).2 _ _ a.t1,(s.but _).2 _ _ a.t3,(s.but _).2 _ _ a.t4⟩
structure Dj (td sd gd:Addr)(ks:List Int)(ad:Int->Addr):Prop where
 t:¬ Ng gd ks ad td
 s:¬ Ng gd ks ad sd
theorem zak.own_ng {CB CT CW w td sd gd:Addr}{H:Hp}{z r:Int}{hs sil ks:List Int}{T:Int->zbk}{ad:Int->Addr}{G:Int->List (Int × Th)}(W:zak CB CT CW H w td sd z r hs sil T)(M:zb_ H gd ks ad G)(d:Dj td sd gd ks ad){q:Addr}(h:Ng gd ks ad q):¬ Own td sd z.toNat hs T q:=fun y=>by
 obtain ⟨x,e⟩:=M.bounds h
 rcases y with y | y | ⟨g,hg,y | ⟨j,hj,y | y⟩⟩
 ·exact d.t (y ▸ h)
 ·exact d.s (y ▸ h)
 ·rw [y,(W.ta g hg).li] at e
  cases e
 ·obtain ⟨⟨d1,e1⟩,_⟩:=(W.ta g hg).bk j hj
  rw [y,e1] at e
  cases e
 ·rw [y,((W.ta g hg).bk j hj).li] at e
  cases e
theorem zak.things {CB CT CW w td sd gd:Addr}{H H':Hp}{z r:Int}{hs sil ks:List Int}{T:Int->zbk}{ad:Int->Addr}{G:Int->List (Int × Th)}(W:zak CB CT CW H w td sd z r hs sil T)(M:zb_ H gd ks ad G)(d:Dj td sd gd ks ad)(k:∀ q o,(∀ ps,o≠ .tbl ps)->H q=some o->¬ Ng gd ks ad q->H' q=some o):zak CB CT CW H' w td sd z r hs sil T:=by
 obtain ⟨⟨dx,h1⟩,h2,h3,h4,h5,h6,h7,h8,h9,c,a,b⟩:=W
 have nd:∀ {q:Addr} {o:HO},H q=some o->(∀ x,o≠ .dK x)->¬ Ng gd ks ad q:=fun {q o} e ho y=>by
  obtain ⟨x,e2⟩:=M.bounds y
  rw [e2] at e
  exact ho x (Option.some.inj e).symm
 refine ⟨⟨dx,k _ _ (fun _ z=>nomatch z) h1 (nd h1 fun _ z=>nomatch z)⟩,k _ _ (fun _ z=>nomatch z) h2 d.t,k _ _ (fun _ z=>nomatch z) h3 d.s,fun h hh=>(h4 h hh).keepD fun q o ho hd e=>k q o ho e (nd e hd),h5,h6,h7,h8,h9,c,a,b⟩
def zb1 (l:List (Int × Th))(hs:List Int)(t:Th):List (Int × Th):=hs.foldl (fun l h=>zf3 l h t) l
theorem zoh {l:List (Int × Th)}{hs:List Int}{h:Int}{t:Th}:zb1 l (hs++[h]) t=zf3 (zb1 l hs t) h t:=by
 unfold zb1
 rw [List.foldl_append]
 rfl
theorem zkx {t:Th}:∀ {hs:List Int} {l:List (Int × Th)},(zb1 l hs t).length<=l.length+hs.length
 | [],l=>gf _
 | h :: r,l=>by
  have a:=zkx (t:=t) (hs:=r) (l:=zf3 l h t)
  have b:=zqe (l:=l) (h:=h) (t:=t)
  show (zb1 (zf3 l h t) r t).length<=_
  rw [i8]
  omega
theorem zjh {t:Th}{g:Int}:∀ {hs:List Int} {l:List (Int × Th)},zb8 (zb1 l hs t) g=if g∈hs then some t else zb8 l g
 | [],l=>by
  rw [if_neg (fun z=>nomatch z)]
  rfl
 | h :: r,l=>by
  show zb8 (zb1 (zf3 l h t) r t) g=_
  rw [zjh,zpa]
  by_cases a:g∈r
  ·rw [if_pos a,if_pos (fk _ a)]
  ·rw [if_neg a]
   by_cases b:g=h
   ·rw [if_pos b,if_pos (by rw [b]; exact gb ..)]
   ·rw [if_neg b,if_neg (fun y=>(gs.mp y).elim b a)]
theorem zrb {k:Int}{ks:List Int}:zcx k (zcx k ks)=zcx k ks:=by
 unfold zcx
 by_cases h:k∈ks
 ·simp [h]
 ·simp [h]
theorem zak.wN {CB CT CW w td sd:Addr}{H:Hp}{z r:Int}{hs sil:List Int}{T:Int->zbk}(W:zak CB CT CW H w td sd z r hs sil T):¬ Own td sd z.toNat hs T w:=fun y=>by
 obtain ⟨dx,e⟩:=W.ob
 rcases y with y | y | ⟨g,hg,y | ⟨j,hj,y | y⟩⟩
 ·rw [y,W.tb] at e
  cases e
 ·rw [y,W.si] at e
  cases e
 ·rw [y,(W.ta g hg).li] at e
  cases e
 ·obtain ⟨⟨d1,e1⟩,_⟩:=(W.ta g hg).bk j hj
  exact zm2 e e1 (by simp [wF,bF]) y
 ·rw [y,((W.ta g hg).bk j hj).li] at e
  cases e
theorem zb_.asked {CB CT CW w td sd gd T0 T1 T3:Addr}{H H':Hp}{z r:Int}{hs sil ks:List Int}{T:Int->zbk}{ad:Int->Addr}{G:Int->List (Int × Th)}{O':Addr->Prop}(M:zb_ H gd ks ad G)(W:zak CB CT CW H w td sd z r hs sil T)(d:Dj td sd gd ks ad)(a:zz7 T0 T1 T3 H H' (Own td sd z.toNat hs T) O'):zb_ H' gd ks ad G :=
 ⟨a.k _ _ (fun _ z=>nomatch z) M.tg (W.own_ng M d (.inl rfl)),fun k hk=>a.k _ _ (fun _ z=>nomatch z) (M.it k hk) (W.own_ng M d (.inr ⟨k,hk,rfl⟩)),fun k hk e he=>a.k _ _ (fun _ z=>nomatch z) (M.tu k hk e he) (W.tupN (M.tu k hk e he)),M.nk,M.ni,M.ne,M.go⟩
theorem Mq.asked {CB CT CW w td sd gd T0 T1 T3 T4:Addr}{H H':Hp}{z r:Int}{hs sil ks:List Int}{T T':Int->zbk}{ad:Int->Addr}(W:zak CB CT CW H w td sd z r hs sil T)(n0:T0≠T4)(n1:T1≠T4)(n3:T3≠T4)(t4:Tab H T4 (zap zf_) quN)(a:zz7 T0 T1 T3 H H' (Own td sd z.toNat hs T) (Own td sd z.toNat hs T')):Mq T0 T1 T3 T4 H H' (Om td sd z.toNat hs T gd ks ad) (Om td sd z.toNat hs T' gd ks ad):=by
 refine ⟨fun q o ho e hn=>a.k q o ho e fun y=>hn (.inl y),fun q y=>?_,a.e,a.t0,a.t1,a.t3,Tab.hold t4 fun q o ho e=>?_⟩
 ·rcases y with y | y
  ·exact (a.o q y).imp .inl id
  ·exact .inl (.inr y)
 ·rcases ho with ⟨x,k,rfl⟩ | rfl
  ·exact a.k q _ (fun _ z=>nomatch z) e (W.kind e)
  ·obtain ⟨ps,hP⟩:=za1 t4
   rw [hP] at e
   cases e
   exact a.t _ _ hP n0.symm n1.symm n3.symm
theorem Mq.nx {T0 T1 T3 T4:Addr}{H H1 H2:Hp}{O O1:Addr->Prop}(a:Mq T0 T1 T3 T4 H H1 O O1)(n1:T0≠T1)(n3:T0≠T3)(n4:T0≠T4)(b:∀ b o,b≠T0->H1 b=some o->H2 b=some o)(t:Tab H2 T0 (zap zc5) quL):Mq T0 T1 T3 T4 H H2 O O1:=⟨fun q o ho e hn=>b _ _ (fun y=>by
 obtain ⟨ps,hp⟩:=za1 a.t0
 have e1:=a.k q o ho e hn
 rw [y,hp] at e1
 exact ho ps (Option.some.inj e1).symm) (a.k q o ho e hn),a.o,fun q e=>a.e q (ziy (za1 t) b q e),t,Tab.past a.t1 n1.symm (za1 a.t0) b,Tab.past a.t3 n3.symm (za1 a.t0) b,Tab.past a.t4 n4.symm (za1 a.t0) b⟩
theorem Mq.put {td sd gd T0 T1 T3 T4:Addr}{H H1 H2:Hp}{O:Addr->Prop}{z:Nat}{hs ks ks':List Int}{T:Int->zbk}{ad ad':Int->Addr}{G:Int->List (Int × Th)}(a:Mq T0 T1 T3 T4 H H1 O (Om td sd z hs T gd ks ad))(M:zb_ H1 gd ks ad G)(d:∀ T1,zd0 T1 H1 H2 (Ng gd ks ad) (Ng gd ks' ad')):Mq T0 T1 T3 T4 H H2 O (Om td sd z hs T gd ks' ad'):=by
 have hO:∀ q,Ng gd ks ad q->∃ x,H1 q=some (.dK x):=fun q y=>M.bounds y
 refine a.trans ⟨fun q o ho e hn=>(d 0).k q o ho e fun y=>hn (.inr y),fun q y=>?_,(d 0).e,Tab.deed a.t0 d hO,Tab.deed a.t1 d hO,Tab.deed a.t3 d hO,Tab.deed a.t4 d hO⟩
 rcases y with y | y
 ·exact .inl (.inl y)
 ·exact ((d 0).o q y).imp .inr id
theorem zak.count {CB CT CW w td sd:Addr}{H H':Hp}{z r:Int}{hs sil:List Int}{T:Int->zbk}{d:Addr × Addr × Int}(W:zak CB CT CW H w td sd z r hs sil T)(e:H' w=some (.ins CW d.1 (wF z r td sd d)))(k:∀ q o,q≠w->H q=some o->H' q=some o):zak CB CT CW H' w td sd z r hs sil T:=by
 obtain ⟨⟨dx,h1⟩,h2,h3,h4,h5,h6,h7,h8,h9,i,c,f⟩:=W
 refine ⟨⟨d,e⟩,k _ _ (zck h1 h2 (by intro z; cases z)).symm h2,k _ _ (zck h1 h3 (by intro z; cases z)).symm h3,fun h hh=>?_,h5,h6,h7,h8,h9,i,c,f⟩
 have hT:=h4 h hh
 obtain ⟨dg,g⟩:=hT.ob
 refine hT.only (fun o eo=>?_) (fun o eo=>?_) (fun j hj o eo=>?_) (fun j hj o eo=>?_)
 ·have e1:=g.symm.trans eo
  cases e1
  exact k _ _ (zm2 eo h1 (by simp [tF,wF])) eo
 ·have e1:=hT.li.symm.trans eo
  cases e1
  exact k _ _ (zck eo h1 (by intro z; cases z)) eo
 ·obtain ⟨⟨dj,a⟩,b⟩:=hT.bk j hj
  have e1:=a.symm.trans eo
  cases e1
  exact k _ _ (zm2 eo h1 (by simp [bF,wF])) eo
 ·obtain ⟨⟨dj,a⟩,b⟩:=hT.bk j hj
  have e1:=b.symm.trans eo
  cases e1
  exact k _ _ (zck eo h1 (by intro z; cases z)) eo
theorem Tab.count {H H':Hp}{w C dx:Addr}{fs:List (Str × V)}{Ti:Addr}{po:Pos}{qu:Str}(t:Tab H Ti po qu)(hw:H w=some (.ins C dx fs))(k:∀ q o,q≠w->H q=some o->H' q=some o):Tab H' Ti po qu:=Tab.hold t fun q o ho e=>k q o (fun y=>by
 rcases ho with ⟨x,kk,rfl⟩ | y2
 ·rw [y,hw] at e
  cases e
 ·obtain ⟨ps,hp⟩:=za1 t
  rw [<- y2,y,hw] at hp
  cases hp) e
theorem zc1:zal ["self","start","key","thing","found","keepers","house"] ["self","start","key","thing"] (zai (zaf (top 27) 5)):=fS
def zw5 (CB CT CW T0 T1 T3 T4:Addr):Sp:=fun vs H Q _=>∀ CC:Prop,(∀ (w td sd:Addr) (z r:Int) (hs sil pool:List Int) (T:Int->zbk) (i g:Int) (dx:Addr × Addr × Int) (ks:List Int) (ad:Int->Addr) (G:Int->List (Int × Th)) (t:Th),vs=[.ref w,.int i,.int g,.ref t.a]->zak CB CT CW H w td sd z r hs sil T->zbv z.toNat hs T->NOk pool z.toNat r hs (fun h=>(T h).ns)->pool.length<=60->((∀ x∈pool,0<=x/\x<2 ^ z.toNat))->((∀ x∈hs,x∈pool))->i∈hs->i∉sil->0<=g->g<2 ^ z.toNat->Tab H T0 (zap zc5) quL->Tab H T1 (zap zg0) quT->Tab H T3 (zap zdx) quH->Tab H T4 (zap zf_) quN->H w=some (.ins CW dx.1 (wF z r td sd dx))->zb_ H dx.2.1 ks ad G->Dj td sd dx.2.1 ks ad->H t.a=some (.tup [.int g,.int t.n,.str t.s])->ks.length<=800->(G g).length<=800->(∀ (l:Addr) (rest kp:List Int) (H':Hp) (T':Int->zbk) (ad':Int->Addr),Row (fun h=>za9 z r hs sil (fun h=>(T h).ns) g h i) i g r.toNat (i :: rest)->zdz (fun h=>za9 z r hs sil (fun h=>(T h).ns) g h i) i g r.toNat (i :: rest)=none->zak CB CT CW H' w td sd z r hs sil T'->zbv z.toNat hs T'->(fun h=>(T' h).ns)=zdq r (awB hs sil) (fun h=>za9 z r hs sil (fun h=>(T h).ns) g h i) (fun h=>(T h).ns) i rest->kp=(zcs g (zcg (fun h=>za9 z r hs sil (fun h=>(T h).ns) g h i) i g r.toNat (i :: rest)++[i])).take r.toNat->H' w=some (.ins CW dx.1 (wF z r td sd dx))->zb_ H' dx.2.1 (zcx g ks) ad' (zcu G g (zb1 (G g) kp t))->Dj td sd dx.2.1 (zcx g ks) ad'->Mq T0 T1 T3 T4 H H' (Om td sd z.toNat hs T dx.2.1 ks ad) (Om td sd z.toNat hs T' dx.2.1 (zcx g ks) ad')->H l=none->¬ Om td sd z.toNat hs T' dx.2.1 (zcx g ks) ad' l->H' l=some (.lst (kp.map V.int))->Q (.ref l) H')->CC)->CC
theorem zki (Z:ZZ P w K mg base){kA:Nat}{CB CT T1 T3 T4:Addr}(zcf:zdl P w K mg base CX0 kA Z.ct.f Z.ct.fd ["self","start","goal"] (zw6 CB CT Z.bc.C Z.bk.P T1 T3))(hkA:kA<=15)(n01:Z.bk.P≠T1)(n03:Z.bk.P≠T3)(n04:Z.bk.P≠T4)(n14:T1≠T4)(n34:T3≠T4):zbu Z 16 Z.cu (zw5 CB CT Z.bc.C Z.bk.P T1 T3 T4):=by
 have ce:=Z.bc.cl
 obtain ⟨bt,ca,b8,bu,b0,cd,-⟩:=Z.bc.na
 have zcf:=zcf.mono hkA
 have bd:=zwk Z
 have bh:=zfz Z
 refine Z.cu.fn.ok zc1 (by kd_p) (fun cdv A outer s H vs Q E hr ba=>?_)
 refine ba _ fun w td sd z r hs sil pool TT i g dx ks ad G t a8 hW hA hO b2 a6 bi hi bv br cb b9 b5 bw a4 a7 M dj ht b6 b3 k=>?_
 subst a8
 have cf:=hW.r1
 refine ⟨_,(zad (zax (i:=4) zc1.nd rfl oL (zfw zjv (pmD (pv 0) Z.bc.cl Z.ct zcf hr (zaa (pv 1) (zaa (pv 2) zag))) zan (fun _ _=>rfl)))
  (zad (zax (i:=5) zc1.nd rfl oL (zc3 zeb (zhc bd hr.mm rfl Z.bk.hm Z.bk.kp Z.bk.b .nil zb5 (zaa (pv 2) (zaa (za0 zjo (pv 4) (zcn (zaa (pv 1) zag))) zag))) zfi (zdd (zav (pv 0) rfl))))
  (zad (zdf PassesOwn.never rfl (zbf (pv 5)) (zaw (i:=6) zc1.nd rfl oL)
   (zah (zat (pmD (pv 0) Z.bc.cl Z.ch bh hr (zaa (pv 6) (zaa (pv 2) (zaa (pv 3) zag)))))))
  (zah (zas (pv 5)))))),?_⟩
 kt_k
 intro t1 rl fl ae Lr H1 u ax af W1 A1 e1 d1 bn _ _ _ _ _ _ aj
 have M1:=M.asked hW dj d1
 have q1:=Mq.asked (gd:=dx.2.1) (ks:=ks) (ad:=ad) hW n04 n14 n34 a4 d1
 have au:H1 w=some (.ins Z.bc.C dx.1 (wF z r td sd dx)):=d1.k _ _ (fun _ z=>nomatch z) a7 hW.wN
 have bj:H1 t.a=some (.tup [.int g,.int t.n,.str t.s]):=d1.k _ _ (fun _ z=>nomatch z) ht (hW.tupN ht)
 have a1:=zl9 af
 have av:(zcg (fun h=>za9 z r hs sil (fun h=>(TT h).ns) g h i) i g r.toNat (i :: ae)).length<=8:=by
  unfold zcg
  rw [gq]
  have:=hW.r2
  omega
 obtain ⟨c,hF⟩:∃ f,f=zcg (fun h=>za9 z r hs sil (fun h=>(TT h).ns) g h i) i g r.toNat (i :: ae):=⟨_,rfl⟩
 rw [<- hF] at aj a1 av
 kt_k
 intro l1 bg
 generalize az:upd H1 l1 _=H2
 obtain ⟨s2,e2⟩:=nw bg az
 clear az
 have bo:=s2 _ _ aj
 have hsz:(c.map V.int).length+[V.int i].length<=sizeLine:=by
  rw [fj]
  exact gx (zar (by simp only [fu]; omega))
 kt_k
 intro l2 a5
 rw [<- zfs]
 generalize an:upd H2 l2 _=H3
 obtain ⟨s3,e3⟩:=nw a5 an
 clear an
 have ac:=s2.trans s3
 have q3:=q1.same ac
 have W3:zak CB CT Z.bc.C H3 w td sd z r hs sil u:=W1.keep fun q o _ e=>ac _ _ e
 have M3:=M1.same ac
 have aq:=ac _ _ au
 have be:=ac _ _ bj
 have bp:SqL K H3 l2 ((c++[i]).map V.int):=SqL.of e3
 have ay:∀ n∈c++[i],n∈hs:=fun n hn=>(fq.mp hn).elim (fun y=>(zlk (a1 n y).2).1) fun y=>fi.mp y ▸ hi
 have cpos:∀ n∈c++[i],0<=n:=fun n hn=>(a6 n (bi n (ay n hn))).1
 have bq:(c++[i]).length<64:=by
  rw [fm,fu]
  omega
 have a0:=q3.t0
 kt_k
 intro nl H4 b4 t4 b7 e4
 have q4:=q3.nx n01 n03 n04 b4 t4
 have p:∀ q o,(∀ ps,o≠ .tbl ps)->H3 q=some o->H4 q=some o:=fun q o ho e=>b4 q o (fun y=>by
  obtain ⟨ps,hp⟩:=za1 a0
  rw [y,hp] at e
  exact ho ps (Option.some.inj e).symm) e
 have W4:zak CB CT Z.bc.C H4 w td sd z r hs sil u:=W3.keep p
 have M4:zb_ H4 dx.2.1 ks ad G:=⟨p _ _ (fun _ z=>nomatch z) M3.tg,fun k hk=>p _ _ (fun _ z=>nomatch z) (M3.it k hk),fun k hk e he=>p _ _ (fun _ z=>nomatch z) (M3.tu k hk e he),M3.nk,M3.ni,M3.ne,M3.go⟩
 have am:H4 w=some (.ins Z.bc.C dx.1 (wF z r td sd dx)):=p _ _ (fun _ z=>nomatch z) aq
 have a9:H4 t.a=some (.tup [.int g,.int t.n,.str t.s]):=p _ _ (fun _ z=>nomatch z) be
 kt_k
 intro kl al
 rw [zic _ (by omega)]
 obtain ⟨kp,ai⟩:∃ kp,kp=(zcs g (c++[i])).take r.toNat:=⟨_,rfl⟩
 rw [<- ai]
 generalize ar:upd H4 kl _=H5
 obtain ⟨s5,e5⟩:=nw al ar
 clear ar
 have q5:=q4.same s5
 have W5:zak CB CT Z.bc.C H5 w td sd z r hs sil u:=W4.keep fun q o _ e=>s5 _ _ e
 have M5:=M4.same s5
 have ap:=s5 _ _ am
 have bm:=s5 _ _ a9
 have bf:=W4.notOwn al
 have a3:=q4.e kl al
 have cc:kp.length<=9:=by
  rw [ai,gq]
  have:=hW.r2
  omega
 have bb:kp≠[]:=fun y=>by
  have h1:(zcs g (c++[i])).length≠0:=fun y=>by
   have:=zfb (g:=g) (ns:=c++[i]) (x:=i)
   rw [iq.mp y] at this
   cases this.mpr (fh _ (fi.mpr rfl))
  have h2:=congrArg kj ai
  rw [y,gq,jf] at h2
  omega
 kt_k
 refine zbs (K:=K) (a:=kl) (xs:=kp.map V.int) (fun j σ H6=>zg3 (∃ (v:Option V) (m:List Int) (aa:Int->Addr),σ=[some (.ref w),some (.int i),some (.int g),some (.ref t.a),some (.ref fl),some (.ref kl),v]/\(j=0->m=ks)/\(j≠0->m=zcx g ks)/\zb_ H6 dx.2.1 m aa (zcu G g (zb1 (G g) (kp.take j) t))/\Dj td sd dx.2.1 m aa/\zak CB CT Z.bc.C H6 w td sd z r hs sil u/\Mq Z.bk.P T1 T3 T4 H H6 (Om td sd z.toNat hs TT dx.2.1 ks ad) (Om td sd z.toNat hs u dx.2.1 m aa)/\H6 w=some (.ins Z.bc.C dx.1 (wF z r td sd dx))/\H6 t.a=some (.tup [.int g,.int t.n,.str t.s])/\H6 kl=some (.lst (kp.map V.int)))) ?_ (fun j σ H6 _ ⟨_,_,_,_,_,_,_,_,_,_,_,_,e6⟩=>SqL.of e6) ?_ ?_
 ·refine ⟨⟨_,ks,ad,rfl,fun _=>rfl,fun y=>absurd rfl y,?_,dj,W5,q5,ap,bm,e5⟩⟩
  have e:zcu G g (zb1 (G g) (kp.take 0) t)=G:=by
   funext k
   by_cases e:k=g
   ·rw [e,zaj]
    rfl
   ·rw [zao e]
  rw [e]
  exact M5
 ·rintro j y σ H6 hj ⟨v,m,aa,rfl,ak,ah,M6,ag,W6,q6,ab,a2,e6⟩
  obtain ⟨x,hx,rfl⟩:∃ x,kp[j]? = some x/\y=V.int x:=by
   rw [List.getElem?_map] at hj
   cases e:kp[j]? with
   | none=>rw [e] at hj; cases hj
   | some x=>rw [e] at hj; exact ⟨x,rfl,(Option.some.inj hj).symm⟩
  have ea:zcx g m=zcx g ks:=by
   by_cases y:j=0
   ·rw [ak y]
   ·rw [ah y,zrb]
  have bz:m.length<=900:=by
   have:(zcx g ks).length<=ks.length+1:=by
    unfold zcx
    split
    ·omega
    ·rw [fm,fu]
     omega
   by_cases y:j=0
   ·rw [ak y]
    omega
   ·rw [ah y]
    omega
  have b1:(zcu G g (zb1 (G g) (kp.take j) t) g).length<=900:=by
   rw [zaj]
   have a:=zkx (t:=t) (hs:=kp.take j) (l:=G g)
   have b:(kp.take j).length<=kp.length:=by rw [gq]; omega
   omega
  kt_k
  intro H7 ao M7 d7 _
  have W7:=W6.things M6 ag (d7 0).k
  have aw:Dj td sd dx.2.1 (zcx g m) ao:=by
   refine ⟨fun y=>?_,fun y=>?_⟩
   ·rcases (d7 0).o _ y with z | z
    ·exact ag.t z
    ·rw [W6.tb] at z
     cases z
   ·rcases (d7 0).o _ y with z | z
    ·exact ag.s z
    ·rw [W6.si] at z
     cases z
  have nd:∀ {q:Addr} {o:HO},H6 q=some o->(∀ ps,o≠ .tbl ps)->(∀ d,o≠ .dK d)->H7 q=some o:=fun {q o} e h1 h2=>(d7 0).k q o h1 e fun y=>by
   obtain ⟨x,e2⟩:=M6.bounds y
   rw [e2] at e
   exact h2 x (Option.some.inj e).symm
  have q7:=q6.put M6 d7
  rw [ea] at M7 aw q7
  refine ⟨⟨_,zcx g ks,ao,rfl,fun y=>absurd y (Nat.succ_ne_zero _),fun _=>rfl,?_,aw,W7,q7,nd ab (fun _ z=>nomatch z) (fun _ z=>nomatch z),nd a2 (fun _ z=>nomatch z) (fun _ z=>nomatch z),nd e6 (fun _ z=>nomatch z) (fun _ z=>nomatch z)⟩⟩
  have e:zcu G g (zb1 (G g) (kp.take (j+1)) t)=zcu (zcu G g (zb1 (G g) (kp.take j) t)) g (zf3 (zcu G g (zb1 (G g) (kp.take j) t) g) x t):=by
   funext k
   by_cases e:k=g
   ·rw [e,zaj,zaj,zaj,zcc hx,zoh]
   ·rw [zao e,zao e,zao e]
  rw [e]
  exact M7
 ·rintro σ H6 ⟨v,m,aa,rfl,ak,ah,M6,ag,W6,q6,ab,a2,e6⟩
  have bl:(kp.map V.int).length≠0:=fun y=>bb (iq.mp (by rw [fj] at y; exact y))
  have ek:=ah bl
  subst ek
  rw [fj,gr] at M6
  kt_k
  refine k kl ae kp H6 u aa ax af W6 A1 e1 (by rw [ai,hF]) ab M6 ag q6 a3 (fun y=>?_) e6
  rcases y with y | y
  ·exact bf y
  ·obtain ⟨x,e2⟩:=M6.bounds y
   rw [e6] at e2
   cases e2
theorem zgo:zal ["self","start","key","text","keepers"] ["self","start","key","text"] (zai (zaf (top 27) 1)):=fS
def z26 (CB CT CW T0 T1 T3 T4:Addr):Sp:=fun vs H Q _=>∀ CC:Prop,(∀ (w td sd:Addr) (z r:Int) (hs sil pool:List Int) (T:Int->zbk) (i g:Int) (s:Str) (dx:Addr × Addr × Int) (ks:List Int) (ad:Int->Addr) (G:Int->List (Int × Th)),vs=[.ref w,.int i,.int g,.str s]->zak CB CT CW H w td sd z r hs sil T->zbv z.toNat hs T->NOk pool z.toNat r hs (fun h=>(T h).ns)->pool.length<=60->((∀ x∈pool,0<=x/\x<2 ^ z.toNat))->((∀ x∈hs,x∈pool))->i∈hs->i∉sil->0<=g->g<2 ^ z.toNat->Tab H T0 (zap zc5) quL->Tab H T1 (zap zg0) quT->Tab H T3 (zap zdx) quH->Tab H T4 (zap zf_) quN->H w=some (.ins CW dx.1 (wF z r td sd dx))->zb_ H dx.2.1 ks ad G->Dj td sd dx.2.1 ks ad->ks.length<=800->(G g).length<=800->(∀ (l a:Addr) (rest kp:List Int) (H':Hp) (T':Int->zbk) (ad':Int->Addr),Row (fun h=>za9 z r hs sil (fun h=>(T h).ns) g h i) i g r.toNat (i :: rest)->zdz (fun h=>za9 z r hs sil (fun h=>(T h).ns) g h i) i g r.toNat (i :: rest)=none->zak CB CT CW H' w td sd z r hs sil T'->zbv z.toNat hs T'->(fun h=>(T' h).ns)=zdq r (awB hs sil) (fun h=>za9 z r hs sil (fun h=>(T h).ns) g h i) (fun h=>(T h).ns) i rest->kp=(zcs g (zcg (fun h=>za9 z r hs sil (fun h=>(T h).ns) g h i) i g r.toNat (i :: rest)++[i])).take r.toNat->H' w=some (.ins CW dx.1 (wF z r td sd (dx.1,dx.2.1,dx.2.2+1)))->zb_ H' dx.2.1 (zcx g ks) ad' (zcu G g (zb1 (G g) kp ⟨a,dx.2.2,s⟩))->Dj td sd dx.2.1 (zcx g ks) ad'->Tab H' T0 (zap zc5) quL->Tab H' T1 (zap zg0) quT->Tab H' T3 (zap zdx) quH->Tab H' T4 (zap zf_) quN->(∀ q o,(∀ ps,o≠ .tbl ps)->H q=some o->¬ Om td sd z.toNat hs T dx.2.1 ks ad q->q≠w->H' q=some o)->(∀ q,Om td sd z.toNat hs T' dx.2.1 (zcx g ks) ad' q->Om td sd z.toNat hs T dx.2.1 ks ad q\/H q=none)->(∀ q,H' q=none->H q=none)->H l=none->¬ Om td sd z.toNat hs T' dx.2.1 (zcx g ks) ad' l->H' l=some (.lst (kp.map V.int))->Q (.ref l) H')->CC)->CC
theorem zll (Z:ZZ P w K mg base){CB CT T0 T1 T3 T4:Addr}(zez:zbu Z 16 Z.cu (zw5 CB CT Z.bc.C T0 T1 T3 T4)):zbu Z 17 Z.cv (z26 CB CT Z.bc.C T0 T1 T3 T4):=by
 have az:=Z.bc.cl
 obtain ⟨am,av,aq,ao,ax,ay,-⟩:=Z.bc.na
 refine Z.cv.fn.ok zgo (by kd_p) (fun cdv A outer s H vs Q E hr ae=>?_)
 refine ae _ fun w td sd z r hs sil pool TT i g s dx ks ad G ac hW hA hO a0 au ap hi ar al aw u af aa j ab M dj an a1 k=>?_
 subst ac
 refine ⟨_,(zad (zax (i:=4) zgo.nd rfl oL (pmD (pv 0) Z.bc.cl Z.cu zez hr (zaa (pv 1) (zaa (pv 2) (zaa (zi0 (zaa (pv 2) (zaa (zav (pv 0) rfl) (zaa (pv 3) zag)))) zag)))))
  (zad (zdt (pv 0) (za0 zei (zav (pv 0) rfl) zan) rfl)
  (zah (zas (pv 4))))),?_⟩
 kt_k
 intro a ha
 generalize h:upd H a _=H1
 obtain ⟨s1,e1⟩:=nw ha h
 clear h
 obtain ⟨t,ht⟩:∃ t:Th,t=⟨a,dx.2.2,s⟩:=⟨_,rfl⟩
 have ea:a=t.a:=by rw [ht]
 have e1:H1 t.a=some (.tup [V.int g,V.int t.n,V.str t.s]):=by rw [ht]; exact e1
 rw [ea]
 have W1:zak CB CT Z.bc.C H1 w td sd z r hs sil TT:=hW.keep fun q o _ e=>s1 _ _ e
 have M1:=M.same s1
 have ak:=s1 _ _ ab
 have ag:Tab H1 T0 (zap zc5) quL:=(s1.but _).2 _ _ u
 have ah:Tab H1 T1 (zap zg0) quT:=(s1.but _).2 _ _ af
 have ai:Tab H1 T3 (zap zdx) quH:=(s1.but _).2 _ _ aa
 have aj:Tab H1 T4 (zap zf_) quN:=(s1.but _).2 _ _ j
 kt_k
 intro l c kp H2 m v c1 c2 W2 A2 c3 c4 b M2 p q2 hl nl el
 kt_k
 rw [zz_]
 have ew:upd H2 w (.ins Z.bc.C dx.1 (wF z r td sd (dx.1,dx.2.1,dx.2.2+1))) w=some (.ins Z.bc.C dx.1 (wF z r td sd (dx.1,dx.2.1,dx.2.2+1))):=zac
 have ek:∀ q o,q≠w->H2 q=some o->upd H2 w (.ins Z.bc.C dx.1 (wF z r td sd (dx.1,dx.2.1,dx.2.2+1))) q=some o:=fun q o y e=>by
  rw [zab y]
  exact e
 have ee:∀ q,upd H2 w (.ins Z.bc.C dx.1 (wF z r td sd (dx.1,dx.2.1,dx.2.2+1))) q=none->H2 q=none:=fun q e=>by
  by_cases y:q=w
  ·rw [y,zac] at e
   cases e
  ·rw [zab y] at e
   exact e
 generalize upd H2 w (.ins Z.bc.C dx.1 (wF z r td sd (dx.1,dx.2.1,dx.2.2+1)))=H3 at ew ek ee |-
 have nw:∀ {q:Addr} {o:HO},H2 q=some o->(∀ C d f,o≠ .ins C d f)->H3 q=some o:=fun {q o} e ho=>ek q o (fun y=>by
  rw [y,b] at e
  exact ho _ _ _ (Option.some.inj e).symm) e
 refine k l a c kp H3 m v c1 c2 (W2.count (d:=(dx.1,dx.2.1,dx.2.2+1)) ew ek) A2 c3 c4 ew ?_ p (Tab.count q2.t0 b ek) (Tab.count q2.t1 b ek) (Tab.count q2.t3 b ek) (Tab.count q2.t4 b ek) (fun q o ho e hn y=>ek q o y (q2.k q o ho (s1 _ _ e) hn)) (fun q y=>(q2.o q y).imp id fun z=>s1.free z) (fun q e=>s1.free (q2.e q (ee q e))) (s1.free hl) nl (nw el (fun _ _ _ z=>nomatch z))
 rw [<- ht]
 exact ⟨nw M2.tg (fun _ _ _ z=>nomatch z),fun x hx=>nw (M2.it x hx) (fun _ _ _ z=>nomatch z),fun x hx e he=>nw (M2.tu x hx e he) (fun _ _ _ z=>nomatch z),M2.nk,M2.ni,M2.ne,M2.go⟩
def znf (H H':Hp)(O O':Addr->Prop):Prop:=∀ q xs,H q=some (.lst xs)->¬ O q->H' q=some (.lst xs)/\¬ O' q
theorem znf.of {H H':Hp}{O O':Addr->Prop}(k:∀ q o,(∀ ps,o≠ .tbl ps)->H q=some o->¬ O q->H' q=some o)(o:∀ q,O' q->O q\/H q=none):znf H H' O O':=fun q xs e hn=>⟨k _ _ (fun _ z=>nomatch z) e hn,fun y=>by
 rcases o q y with y | y
 ·exact hn y
 ·rw [e] at y
  cases y⟩
theorem NOk.pool {pool pool':List Int}{z:Nat}{r:Int}{hs:List Int}{N:Int->Nat->List Int}(O:NOk pool z r hs N)(h:∀ x∈pool,x∈pool'):NOk pool' z r hs N:=⟨O.nd,O.le,fun g hg k m hm=>⟨h m (O.st g hg k m hm).1,(O.st g hg k m hm).2⟩⟩
theorem NOk.comer {pool:List Int}{z:Nat}{r:Int}{hs:List Int}{N:Int->Nat->List Int}(O:NOk pool z r hs N)(hr:1<=r)(i:Int):NOk pool z r (hs++[i]) (zq3 N i):=by
 unfold zq3
 refine ⟨fun h hh k=>?_,fun h hh k=>?_,fun h hh k m hm=>?_⟩
 ·by_cases e:h=i
  ·rw [e,zaj]
   exact ii
  ·rw [zao e]
   exact O.nd h ((fq.mp hh).elim id fun y=>absurd (fi.mp y) e) k
 ·by_cases e:h=i
  ·rw [e,zaj]
   simp only [jf]
   omega
  ·rw [zao e]
   exact O.le h ((fq.mp hh).elim id fun y=>absurd (fi.mp y) e) k
 ·by_cases e:h=i
  ·rw [e,zaj] at hm
   cases hm
  ·rw [zao e] at hm
   exact O.st h ((fq.mp hh).elim id fun y=>absurd (fi.mp y) e) k m hm
theorem zw7 {z:Nat}{hs sil:List Int}{N:Int->Nat->List Int}{d i:Int}{ks:List Int}(hm:∀ x,x∈ks↔Rch (zwy z (awB hs sil) N) d x)(hd:d∈hs):∀ x∈zmf i ks,x∈hs/\x≠i:=fun x hx=>by
 have a:=zl_ hx
 refine ⟨?_,a.2⟩
 have b:=(hm x).mp a.1
 cases b with
 | own=>exact hd
 | go _ e=>exact (ziw e.2).1
theorem zun {h x:Int}{l:List Int}(hx:x∈zcx h l):x∈l\/x=h:=by
 unfold zcx at hx
 split at hx
 ·exact .inl hx
 ·exact (fq.mp hx).elim .inl fun y=> .inr (fi.mp y)
theorem zq8 {h:Int}{l:List Int}(hn:l.Nodup):(zcx h l).Nodup:=by
 unfold zcx
 split
 ·exact hn
 ·rename_i e
  exact zbc hn e
theorem zml {c:Int}{l:List Int}(h0:l≠[]):∃ h,h∈l/\atI (l.map V.int) (c % (((l.map V.int).length:Nat):Int))=some (V.int h):=by
 rw [fj]
 have hp:=List.length_pos_iff.mpr h0
 have a:(0:Int)<((l.length:Nat):Int):=by omega
 have a1:=Int.emod_nonneg c (Int.ne_of_gt a)
 have a2:=Int.emod_lt_of_pos c a
 have b:(c % ((l.length:Nat):Int)).toNat<l.length:=by omega
 refine ⟨l[(c % ((l.length:Nat):Int)).toNat],jp b,?_⟩
 have e:(((c % ((l.length:Nat):Int)).toNat:Nat):Int)=c % ((l.length:Nat):Int):=by omega
 have z:=zlo (xs:=l.map V.int) (j:=(c % ((l.length:Nat):Int)).toNat) (v:=V.int l[(c % ((l.length:Nat):Int)).toNat]) (by simp [b])
 rwa [e] at z
theorem zp8 {l:List Int}(h0:l≠[]):(0:Int)<(((l.map V.int).length:Nat):Int):=by
 have hp:=List.length_pos_iff.mpr h0
 rw [fj]
 omega
structure Std (CB CT CW T0 T1 T3:Addr)(H:Hp)(w td sd:Addr)(z r:Int)(hs sil pool:List Int)(T:Int->zbk):Prop where
 W:zak CB CT CW H w td sd z r hs sil T
 A:zbv z.toNat hs T
 O:NOk pool z.toNat r hs (fun g=>(T g).ns)
 pq:∀ x∈hs,x∈pool
 pb:∀ x∈pool,0<=x/\x<2 ^ z.toNat
 sm:∀ x∈sil,x∈hs
 sn:sil.Nodup
 n12:hs.length<=12
 t0:Tab H T0 (zap zc5) quL
 t1:Tab H T1 (zap zg0) quT
 t3:Tab H T3 (zap zdx) quH
section
variable {CB CT CW T0 T1 T3:Addr} {H H3:Hp} {w td sd:Addr} {z r:Int} {hs sil pool:List Int} {T T':Int->zbk}
theorem Std.same (X:Std CB CT CW T0 T1 T3 H w td sd z r hs sil pool T)(s:zau H H3):Std CB CT CW T0 T1 T3 H3 w td sd z r hs sil pool T:=⟨X.W.keep fun q o _ e=>s _ _ e,X.A,X.O,X.pq,X.pb,X.sm,X.sn,X.n12,(s.but _).2 _ _ X.t0,(s.but _).2 _ _ X.t1,(s.but _).2 _ _ X.t3⟩
theorem Std.sl (X:Std CB CT CW T0 T1 T3 H w td sd z r hs sil pool T):sil.length<=12:=gm (zbg X.sn X.sm) X.n12
theorem Std.come (X:Std CB CT CW T0 T1 T3 H w td sd z r hs sil pool T)(n0:T0≠T3)(n1:T1≠T3){i:Int}{vis:List Int}(h12:hs.length<12)(hi:0<=i/\i<2 ^ z.toNat)(hv:∀ x∈vis,x∈hs++[i]/\x≠i)(W3:zak CB CT CW H3 w td sd z r (hs++[i]) sil T')(A3:zbv z.toNat (hs++[i]) T')
  (e3:(fun g=>(T' g).ns)=zc6 r (awB (hs++[i]) sil) (zq3 (fun g=>(T g).ns) i) i vis)(d3:zd0 T3 H H3 (Own td sd z.toNat hs T) (Own td sd z.toNat (hs++[i]) T'))(t3:Tab H3 T3 (zap zdx) quH) :
  Std CB CT CW T0 T1 T3 H3 w td sd z r (hs++[i]) sil (pool++[i]) T'/\znf H H3 (Own td sd z.toNat hs T) (Own td sd z.toNat (hs++[i]) T'):=by
 have b:=W3.r1
 have a:∀ x∈hs++[i],x∈pool++[i]:=fun x hx=>(fq.mp hx).elim (fun y=>gg _ (X.pq x y)) fun y=>fh _ y
 have c:i∈pool++[i]:=fh _ (fi.mpr rfl)
 have kt:=zsa.deed X.W d3
 refine ⟨⟨W3,A3,?_,a,fun x hx=>(fq.mp hx).elim (X.pb x) fun y=>fi.mp y ▸ hi,fun x hx=>gg _ (X.sm x hx),X.sn,by rw [fm,fu]; omega,kt _ _ _ n0 X.t0,kt _ _ _ n1 X.t1,t3⟩,znf.of d3.k d3.o⟩
 rw [e3]
 exact NOk.meets b c (fun x hx=>⟨a x (hv x hx).1,(hv x hx).2⟩) ((X.O.pool fun x hx=>gg _ hx).comer b i)
theorem Std.dicts (X:Std CB CT CW T0 T1 T3 H w td sd z r hs sil pool T){hs' sil':List Int}(hn:hs'.Nodup)(hm:∀ x∈hs',x∈hs)(sm:∀ x∈sil',x∈hs')(sn:sil'.Nodup)(W4:zak CB CT CW H3 w td sd z r hs' sil' T)(k4:∀ q o,H q=some o->q≠td->q≠sd->H3 q=some o) :
  Std CB CT CW T0 T1 T3 H3 w td sd z r hs' sil' pool T/\znf H H3 (Own td sd z.toNat hs T) (Own td sd z.toNat hs' T):=by
 have d4:zd0 T3 H H3 (Own td sd z.toNat hs T) (Own td sd z.toNat hs' T):=zd0.dicts X.W k4 ⟨_,W4.tb⟩ ⟨_,W4.si⟩ hm
 exact ⟨⟨W4,X.A.sub hm,X.O.sub hm,fun x hx=>X.pq x (hm x hx),X.pb,sm,sn,gm (zbg hn hm) X.n12,Tab.dicts X.W X.t0 k4,Tab.dicts X.W X.t1 k4,Tab.dicts X.W X.t3 k4⟩,znf.of d4.k d4.o⟩
theorem Std.asked (X:Std CB CT CW T0 T1 T3 H w td sd z r hs sil pool T){i g:Int}{rest:List Int}(hp:pool.length<=60)(hi:i∈hs)(hR:Row (fun h=>za9 z r hs sil (fun h=>(T h).ns) g h i) i g r.toNat (i :: rest))(W3:zak CB CT CW H3 w td sd z r hs sil T')(A3:zbv z.toNat hs T')
  (e3:(fun g=>(T' g).ns)=zdq r (awB hs sil) (fun h=>za9 z r hs sil (fun h=>(T h).ns) g h i) (fun h=>(T h).ns) i rest)(d3:zz7 T0 T1 T3 H H3 (Own td sd z.toNat hs T) (Own td sd z.toNat hs T')) :
  Std CB CT CW T0 T1 T3 H3 w td sd z r hs sil pool T'/\znf H H3 (Own td sd z.toNat hs T) (Own td sd z.toNat hs T'):=by
 have a:=X.pq i hi
 obtain ⟨b,c⟩:=hR.ok (zhe X.O W3.r2 hp fun x hx=>(X.pb x hx).1) a
 obtain ⟨d,-⟩:=io.mp c
 refine ⟨⟨W3,A3,?_,X.pq,X.pb,X.sm,X.sn,X.n12,d3.t0,d3.t1,d3.t3⟩,znf.of d3.k d3.o⟩
 rw [e3]
 exact NOk.learn W3.r1 a X.O fun x hx=>⟨b x (fk _ hx),fun e=>d (e ▸ hx)⟩
end
theorem zgg {l:List (Int × Th)}{h:Int}:zb8 l h=none↔h∉l.map (·.1):=by
 unfold zb8
 rw [ir,List.find?_eq_none]
 constructor
 ·intro a y
  obtain ⟨e,he,rfl⟩:=j7.mp y
  exact a e he (by simp)
 ·intro a e he y
  exact a (j7.mpr ⟨e,he,by simpa using y⟩)
theorem zih {l:List (Int × Th)}{h:Int}{t:Th}(hn:(l.map (·.1)).Nodup):((zf3 l h t).map (·.1)).Nodup:=by
 unfold zf3
 by_cases e:(zb8 l h).isSome=true
 ·rw [if_pos e,j8]
  have:((fun x:Int × Th=>x.1) ∘ fun e:Int × Th=>if e.1=h then (h,t) else e)=fun x=>x.1:=by
   funext x
   show (if x.1=h then (h,t) else x).1=x.1
   by_cases y:x.1=h
   ·rw [if_pos y,y]
   ·rw [if_neg y]
  rw [this]
  exact hn
 ·rw [if_neg e,gy]
  have e:zb8 l h=none:=by
   cases q:zb8 l h with
   | none=>rfl
   | some u=>rw [q] at e; exact absurd rfl e
  exact zbc hn (zgg.mp e)
theorem zju {t:Th}:∀ {hs:List Int} {l:List (Int × Th)},(l.map (·.1)).Nodup->((zb1 l hs t).map (·.1)).Nodup
 | [],_,h=>h
 | x :: r,l,h=>zju (hs:=r) (l:=zf3 l x t) (zih h)
theorem zk1 {t:Th}{e:Int × Th}:∀ {hs:List Int} {l:List (Int × Th)},e∈zb1 l hs t->e∈l\/e.1∈hs/\e.2=t
 | [],_,h=> .inl h
 | x :: r,l,h=>by
  rcases zk1 (hs:=r) (l:=zf3 l x t) h with y | y
  ·rcases zfk y with y | y
   ·exact .inl y
   ·exact .inr ⟨by rw [y]; exact gb ..,by rw [y]⟩
  ·exact .inr ⟨fk _ y.1,y.2⟩
theorem ztu {l:List (Int × Th)}{h:Int}(hn:(l.map (·.1)).Nodup):((zia l h).map (·.1)).Nodup:=hn.sublist (List.Sublist.map _ ip)
structure zdw (CB CT CW T0 T1 T3 T4:Addr)(H:Hp)(w td sd:Addr)(z r:Int)(hs sil pool:List Int)(T:Int->zbk)(dx:Addr × Addr × Int)(ks:List Int)(ad:Int->Addr)(G:Int->List (Int × Th)):Prop where
 X:Std CB CT CW T0 T1 T3 H w td sd z r hs sil pool T
 ob:H w=some (.ins CW dx.1 (wF z r td sd dx))
 M:zb_ H dx.2.1 ks ad G
 dj:Dj td sd dx.2.1 ks ad
 t4:Tab H T4 (zap zf_) quN
 kb:∀ k∈ks,0<=k/\k<2 ^ z.toNat
 gh:∀ k,∀ e∈G k,e.1∈hs
 gn:∀ k,((G k).map (·.1)).Nodup
 un:∀ k,∀ e∈G k,∀ e'∈G k,e.2.n=e'.2.n->e.2=e'.2
 lt:∀ k,∀ e∈G k,e.2.n<dx.2.2
section
variable {CB CT CW T0 T1 T3 T4:Addr} {H H3:Hp} {w td sd:Addr} {z r:Int} {hs sil pool:List Int} {T T':Int->zbk} {dx:Addr × Addr × Int} {ks:List Int} {ad:Int->Addr} {G G':Int->List (Int × Th)}
theorem zdw.same (X:zdw CB CT CW T0 T1 T3 T4 H w td sd z r hs sil pool T dx ks ad G)(s:zau H H3):zdw CB CT CW T0 T1 T3 T4 H3 w td sd z r hs sil pool T dx ks ad G:=⟨X.X.same s,s _ _ X.ob,X.M.same s,X.dj,(s.but _).2 _ _ X.t4,X.kb,X.gh,X.gn,X.un,X.lt⟩
theorem zb_.deed {O':Addr->Prop}(M:zb_ H dx.2.1 ks ad G)(W:zak CB CT CW H w td sd z r hs sil T)(d:Dj td sd dx.2.1 ks ad)(a:∀ q o,(∀ ps,o≠ .tbl ps)->H q=some o->¬ Own td sd z.toNat hs T q->H3 q=some o):zb_ H3 dx.2.1 ks ad G :=
 ⟨a _ _ (fun _ z=>nomatch z) M.tg (W.own_ng M d (.inl rfl)),fun k hk=>a _ _ (fun _ z=>nomatch z) (M.it k hk) (W.own_ng M d (.inr ⟨k,hk,rfl⟩)),fun k hk e he=>a _ _ (fun _ z=>nomatch z) (M.tu k hk e he) (W.tupN (M.tu k hk e he)),M.nk,M.ni,M.ne,M.go⟩
theorem Std.things (X:Std CB CT CW T0 T1 T3 H w td sd z r hs sil pool T)(M:zb_ H dx.2.1 ks ad G)(d:Dj td sd dx.2.1 ks ad)(n1:T1≠T4)(n3:T3≠T4)(n01:T0≠T1)(n03:T0≠T3)(t4:Tab H T4 (zap zf_) quN)(a:Kw T0 T4 (Ng dx.2.1 ks ad) H H3):Std CB CT CW T0 T1 T3 H3 w td sd z r hs sil pool T:=by
 have x0:=za1 X.t0
 have x4:=za1 t4
 have kk:∀ q o,(∀ ps,o≠ .tbl ps)->H q=some o->¬ Ng dx.2.1 ks ad q->H3 q=some o:=fun q o ho e hn=>a.k q o (fun y=>by
  obtain ⟨ps,hp⟩:=x0
  rw [y,hp] at e
  exact ho ps (Option.some.inj e).symm) (fun y=>by
  obtain ⟨ps,hp⟩:=x4
  rw [y,hp] at e
  exact ho ps (Option.some.inj e).symm) hn e
 have nn:∀ {q:Addr} {o:HO},H q=some o->(∀ x,o≠ .dK x)->¬ Ng dx.2.1 ks ad q:=fun {q o} e ho y=>by
  obtain ⟨x,e2⟩:=M.bounds y
  rw [e2] at e
  exact ho x (Option.some.inj e).symm
 have tt:∀ {Ti:Addr} {po:Pos} {qu:Str},Ti≠T0->Ti≠T4->Tab H Ti po qu->Tab H3 Ti po qu:=fun {Ti po qu} h0 h4 t=>Tab.hold t fun q o ho e=>by
  rcases ho with ⟨x,k,rfl⟩ | rfl
  ·exact kk q _ (fun _ z=>nomatch z) e (nn e fun _ z=>nomatch z)
  ·obtain ⟨ps,hp⟩:=za1 t
   rw [hp] at e
   cases e
   exact a.k _ _ h0 h4 (nn hp fun _ z=>nomatch z) hp
 exact ⟨X.W.things M d kk,X.A,X.O,X.pq,X.pb,X.sm,X.sn,X.n12,a.t0,tt n01.symm n1 X.t1,tt n03.symm n3 X.t3⟩
theorem zdw.len (X:zdw CB CT CW T0 T1 T3 T4 H w td sd z r hs sil pool T dx ks ad G)(k:Int):(G k).length<=12:=by
 have:=zbg (X.gn k) (b:=hs) fun x hx=>by
  obtain ⟨e,he,rfl⟩:=j7.mp hx
  exact X.gh k e he
 rw [fj] at this
 exact gm this X.X.n12
theorem zdw.asked (X:zdw CB CT CW T0 T1 T3 T4 H w td sd z r hs sil pool T dx ks ad G)(n0:T0≠T4)(n1:T1≠T4)(n3:T3≠T4){i g:Int}{rest:List Int}(hp:pool.length<=60)(hi:i∈hs)(hR:Row (fun h=>za9 z r hs sil (fun h=>(T h).ns) g h i) i g r.toNat (i :: rest))(W3:zak CB CT CW H3 w td sd z r hs sil T')(A3:zbv z.toNat hs T')
  (e3:(fun g=>(T' g).ns)=zdq r (awB hs sil) (fun h=>za9 z r hs sil (fun h=>(T h).ns) g h i) (fun h=>(T h).ns) i rest)(d3:zz7 T0 T1 T3 H H3 (Own td sd z.toNat hs T) (Own td sd z.toNat hs T')):zdw CB CT CW T0 T1 T3 T4 H3 w td sd z r hs sil pool T' dx ks ad G :=
 ⟨(X.X.asked hp hi hR W3 A3 e3 d3).1,d3.k _ _ (fun _ z=>nomatch z) X.ob X.X.W.wN,X.M.asked X.X.W X.dj d3,X.dj,(Mq.asked (gd:=dx.2.1) (ks:=ks) (ad:=ad) X.X.W n0 n1 n3 X.t4 d3).t4,X.kb,X.gh,X.gn,X.un,X.lt⟩
theorem zb_.dicts (M:zb_ H dx.2.1 ks ad G)(W:zak CB CT CW H w td sd z r hs sil T)(d:Dj td sd dx.2.1 ks ad)(k:∀ q o,H q=some o->q≠td->q≠sd->H3 q=some o):zb_ H3 dx.2.1 ks ad G :=
 M.keep fun q o ho e=>by
  have a:q≠td:=fun y=>by
   rcases ho with z | z | ⟨xs,z⟩
   ·exact d.t (.inl (y ▸ z))
   ·exact d.t (.inr (y ▸ z))
   ·rw [y,W.tb] at e
    cases e
    cases z
  have b:q≠sd:=fun y=>by
   rcases ho with z | z | ⟨xs,z⟩
   ·exact d.s (.inl (y ▸ z))
   ·exact d.s (.inr (y ▸ z))
   ·rw [y,W.si] at e
    cases e
    cases z
  exact k q o e a b
theorem zdw.hushed (X:zdw CB CT CW T0 T1 T3 T4 H w td sd z r hs sil pool T dx ks ad G){h:Int}(hh:h∈hs)(W3:zak CB CT CW H3 w td sd z r hs (zcx h sil) T)(k3:∀ q o,H q=some o->q≠td->q≠sd->H3 q=some o):zdw CB CT CW T0 T1 T3 T4 H3 w td sd z r hs (zcx h sil) pool T dx ks ad G :=
 ⟨(X.X.dicts X.X.W.nd (fun x hx=>hx) (fun x hx=>(zun hx).elim (X.X.sm x) fun e=>e ▸ hh) (zq8 X.X.sn) W3 k3).1,k3 _ _ X.ob (zck X.ob X.X.W.tb (by intro z; cases z)) (zck X.ob X.X.W.si (by intro z; cases z)),X.M.dicts X.X.W X.dj k3,X.dj,Tab.dicts X.X.W X.t4 k3,X.kb,X.gh,X.gn,X.un,X.lt⟩
theorem z2e {i g:Int}{rest kp:List Int}{N:Int->Nat->List Int}(hi:i∈hs)(hns:i∉sil)(c2:zdz (fun h=>za9 z r hs sil N g h i) i g r.toNat (i :: rest)=none)(c4:kp=(zcs g (zcg (fun h=>za9 z r hs sil N g h i) i g r.toNat (i :: rest)++[i])).take r.toNat):∀ x∈kp,x∈hs/\x∉sil:=fun x hx=>by
 rw [c4] at hx
 rcases fq.mp (zfb.mp (ia hx)) with y | y
 ·exact zlk (zl9 c2 x y).2
 ·rw [fi.mp y]
  exact ⟨hi,hns⟩
theorem zdw.laid (X:zdw CB CT CW T0 T1 T3 T4 H w td sd z r hs sil pool T dx ks ad G){i g:Int}{s:Str}{a:Addr}{rest kp:List Int}{ad':Int->Addr}(hp:pool.length<=60)(hi:i∈hs)(hg:0<=g/\g<2 ^ z.toNat)(hk:∀ x∈kp,x∈hs)(hR:Row (fun h=>za9 z r hs sil (fun h=>(T h).ns) g h i) i g r.toNat (i :: rest))(W3:zak CB CT CW H3 w td sd z r hs sil T')(A3:zbv z.toNat hs T')
  (e3:(fun g=>(T' g).ns)=zdq r (awB hs sil) (fun h=>za9 z r hs sil (fun h=>(T h).ns) g h i) (fun h=>(T h).ns) i rest)(hob:H3 w=some (.ins CW dx.1 (wF z r td sd (dx.1,dx.2.1,dx.2.2+1))))(M3:zb_ H3 dx.2.1 (zcx g ks) ad' (zcu G g (zb1 (G g) kp ⟨a,dx.2.2,s⟩)))(d3:Dj td sd dx.2.1 (zcx g ks) ad')(t0:Tab H3 T0 (zap zc5) quL)(t1:Tab H3 T1 (zap zg0) quT)(t3:Tab H3 T3 (zap zdx) quH)(t4:Tab H3 T4 (zap zf_) quN) :
  zdw CB CT CW T0 T1 T3 T4 H3 w td sd z r hs sil pool T' (dx.1,dx.2.1,dx.2.2+1) (zcx g ks) ad' (zcu G g (zb1 (G g) kp ⟨a,dx.2.2,s⟩)):=by
 have Y:=X.X
 have b:=Y.pq i hi
 obtain ⟨j,c⟩:=hR.ok (zhe Y.O W3.r2 hp fun x hx=>(Y.pb x hx).1) b
 obtain ⟨d,-⟩:=io.mp c
 have O3:NOk pool z.toNat r hs (fun g=>(T' g).ns):=by
  rw [e3]
  exact NOk.learn W3.r1 b Y.O fun x hx=>⟨j x (fk _ hx),fun e=>d (e ▸ hx)⟩
 have cs:∀ (k:Int) (e:Int × Th),e∈zcu G g (zb1 (G g) kp ⟨a,dx.2.2,s⟩) k->e∈G k\/k=g/\e.1∈kp/\e.2=⟨a,dx.2.2,s⟩:=fun k e he=>by
  by_cases y:k=g
  ·rw [y,zaj] at he
   rw [y]
   exact (zk1 he).imp id fun z=>⟨rfl,z⟩
  ·rw [zao y] at he
   exact .inl he
 refine ⟨⟨W3,A3,O3,Y.pq,Y.pb,Y.sm,Y.sn,Y.n12,t0,t1,t3⟩,hob,M3,d3,t4,fun k hk=>?_,fun k e he=>?_,fun k=>?_,fun k e he e' f hn=>?_,fun k e he=>?_⟩
 ·rcases zpk.mp hk with y | y
  ·exact X.kb k y
  ·rw [y]
   exact hg
 ·rcases cs k e he with y | ⟨_,y,_⟩
  ·exact X.gh k e y
  ·exact hk _ y
 ·by_cases y:k=g
  ·rw [y,zaj]
   exact zju (X.gn g)
  ·rw [zao y]
   exact X.gn k
 ·rcases cs k e he with y | ⟨_,_,y⟩ <;> rcases cs k e' f with y' | ⟨_,_,y'⟩
  ·exact X.un k e y e' y' hn
  ·have:=X.lt k e y
   rw [y'] at hn
   have hn:e.2.n=dx.2.2:=hn
   omega
  ·have:=X.lt k e' y'
   rw [y] at hn
   have hn:dx.2.2=e'.2.n:=hn
   omega
  ·rw [y,y']
 ·show e.2.n<dx.2.2+1
  rcases cs k e he with y | ⟨_,_,y⟩
  ·have:=X.lt k e y
   omega
  ·rw [y]
   show dx.2.2<dx.2.2+1
   omega
theorem zdw.gone (X:zdw CB CT CW T0 T1 T3 T4 H w td sd z r hs sil pool T dx ks ad G){h:Int}{H4:Hp}(W3:zak CB CT CW H3 w td sd z r (zef h hs) (zef h sil) T)(k3:∀ q o,H q=some o->q≠td->q≠sd->H3 q=some o)(M4:zb_ H4 dx.2.1 ks ad (fun k=>zia (G k) h))(d4:∀ T1,zd0 T1 H3 H4 (Ng dx.2.1 ks ad) (Ng dx.2.1 ks ad)):zdw CB CT CW T0 T1 T3 T4 H4 w td sd z r (zef h hs) (zef h sil) pool T dx ks ad (fun k=>zia (G k) h):=by
 have Y:=(X.X.dicts (zft X.X.W.nd) (fun x hx=>(zbt.mp hx).1) (fun x hx=>zbt.mpr ⟨X.X.sm x (zbt.mp hx).1,(zbt.mp hx).2⟩) (zft X.X.sn) W3 k3).1
 have M3:=X.M.dicts X.X.W X.dj k3
 have hO:∀ q,Ng dx.2.1 ks ad q->∃ x,H3 q=some (.dK x):=fun q y=>M3.bounds y
 have a:H3 w=some (.ins CW dx.1 (wF z r td sd dx)):=k3 _ _ X.ob (zck X.ob X.X.W.tb (by intro z; cases z)) (zck X.ob X.X.W.si (by intro z; cases z))
 refine ⟨⟨Y.W.things M3 X.dj (d4 0).k,Y.A,Y.O,Y.pq,Y.pb,Y.sm,Y.sn,Y.n12,Tab.deed Y.t0 d4 hO,Tab.deed Y.t1 d4 hO,Tab.deed Y.t3 d4 hO⟩,(d4 0).k _ _ (fun _ z=>nomatch z) a fun y=>?_,M4,X.dj,Tab.deed (Tab.dicts X.X.W X.t4 k3) d4 hO,X.kb,fun k e he=>?_,fun k=>ztu (X.gn k),fun k e he e' b hn=>X.un k e (zgv e he) e' (zgv e' b) hn,fun k e he=>X.lt k e (zgv e he)⟩
 ·obtain ⟨x,e⟩:=hO w y
  rw [a] at e
  cases e
 ·refine zbt.mpr ⟨X.gh k e (zgv e he),?_⟩
  have:=(gv.mp he).2
  simpa using this
theorem zdw.came (X:zdw CB CT CW T0 T1 T3 T4 H w td sd z r hs sil pool T dx ks ad G)(n0:T0≠T3)(n1:T1≠T3)(n4:T4≠T3){i:Int}{vis:List Int}(h12:hs.length<12)(hi:0<=i/\i<2 ^ z.toNat)(hv:∀ x∈vis,x∈hs++[i]/\x≠i)(W3:zak CB CT CW H3 w td sd z r (hs++[i]) sil T')(A3:zbv z.toNat (hs++[i]) T')
  (e3:(fun g=>(T' g).ns)=zc6 r (awB (hs++[i]) sil) (zq3 (fun g=>(T g).ns) i) i vis)(d3:zd0 T3 H H3 (Own td sd z.toNat hs T) (Own td sd z.toNat (hs++[i]) T'))(t3:Tab H3 T3 (zap zdx) quH):zdw CB CT CW T0 T1 T3 T4 H3 w td sd z r (hs++[i]) sil (pool++[i]) T' dx ks ad G :=
 ⟨(X.X.come n0 n1 h12 hi hv W3 A3 e3 d3 t3).1,d3.k _ _ (fun _ z=>nomatch z) X.ob X.X.W.wN,X.M.deed (O':=fun _=>False) X.X.W X.dj d3.k,X.dj,zsa.deed X.X.W d3 _ _ _ n4 X.t4,X.kb,fun k e he=>gg _ (X.gh k e he),X.gn,X.un,X.lt⟩
theorem zdw.settled (X:zdw CB CT CW T0 T1 T3 T4 H w td sd z r hs sil pool T dx ks ad G)(n1:T1≠T4)(n3:T3≠T4)(n01:T0≠T1)(n03:T0≠T3){h:Int}{vis:List Int}(hh:h∈hs)(M3:zb_ H3 dx.2.1 ks ad G')(st:∀ k∈ks,zhg r h vis k (G k) (G' k))(a:Kw T0 T4 (Ng dx.2.1 ks ad) H H3):zdw CB CT CW T0 T1 T3 T4 H3 w td sd z r hs sil pool T dx ks ad G':=by
 have cs:∀ (k:Int) (e:Int × Th),e∈G' k->e∈G k\/e.1=h/\∃ c,(c,e.2)∈G k:=fun k e he=>by
  by_cases hk:k∈ks
  ·rcases st k hk with ⟨_,y⟩ | ⟨t,c,_,y,_,_,y2⟩
   ·rw [y] at he
    exact .inl he
   ·rw [y2] at he
    rcases zfk he with z | z
    ·exact .inl z
    ·rw [z]
     exact .inr ⟨rfl,c,zex y⟩
  ·rw [M3.go k hk] at he
   cases he
 have b:∀ (k:Int) (e:Int × Th),e∈G' k->∃ c,(c,e.2)∈G k:=fun k e he=>(cs k e he).elim (fun y=>⟨e.1,y⟩) fun y=>y.2
 refine ⟨X.X.things X.M X.dj n1 n3 n01 n03 X.t4 a,a.ob (za1 X.X.t0) (za1 X.t4) (fun q y=>X.M.bounds y) (fun _ z=>nomatch z) (fun _ z=>nomatch z) X.ob,M3,X.dj,a.t4,X.kb,fun k e he=>?_,fun k=>?_,fun k e he e' d hn=>?_,fun k e he=>?_⟩
 ·rcases cs k e he with y | ⟨y,_⟩
  ·exact X.gh k e y
  ·rw [y]
   exact hh
 ·by_cases hk:k∈ks
  ·rcases st k hk with ⟨_,y⟩ | ⟨t,c,_,y,_,_,y2⟩
   ·rw [y]
    exact X.gn k
   ·rw [y2]
    exact zih (X.gn k)
  ·rw [M3.go k hk]
   exact ii
 ·obtain ⟨c,y⟩:=b k e he
  obtain ⟨c',y'⟩:=b k e' d
  exact X.un k (c,e.2) y (c',e'.2) y' hn
 ·obtain ⟨c,y⟩:=b k e he
  exact X.lt k (c,e.2) y
end
theorem zvx {X:Cx}{K:W.Frag}(h:X.K=K):OpR X (binaryOp .Add) (z1r K):=h ▸ zzc
theorem ztq (xs:List V){m:Int}(hm:0<=m):zj8 xs none (some m)=xs.take m.toNat:=by
 obtain ⟨k,rfl⟩:∃ k:Nat,m=k:=⟨m.toNat,by omega⟩
 unfold zj8
 rw [HT.sIx_none,HT.sIx_nat,lg,Nat.sub_zero,ix]
 rcases Nat.le_total k xs.length with h | h
 ·rw [Nat.min_eq_left h]
 ·rw [Nat.min_eq_right h,gr,i3 h]
def zym (H:Hp)(t:Addr):Int:=match H t with | some (.tup [.int a,.int _])=>a | _=>0
def zvz (H:Hp)(t:Addr):Int:=match H t with | some (.tup [.int _,.int b])=>b | _=>0
def znx (g:Int)(H:Hp)(t:Addr)(n:Int):Prop:=H t=some (.tup [.int (Builtin.bitXor g n),.int n])
theorem znx.fst {g n:Int}{H:Hp}{t:Addr}(h:znx g H t n):zym H t=Builtin.bitXor g n:=by unfold zym; rw [h]
theorem znx.snd {g n:Int}{H:Hp}{t:Addr}(h:znx g H t n):zvz H t=n:=by unfold zvz; rw [h]
theorem zr2 {g:Int}{H:Hp}:∀ {ts:List Addr} {ns:List Int},Paired (znx g H) ts ns->ts.map (zvz H)=ns
 | _,_,.nil=>rfl
 | _,_,.cons e t=>by rw [gz,e.snd,zr2 t]
theorem zn8 {g:Int}{H:Hp}:∀ {ts:List Addr} {ns:List Int},Paired (znx g H) ts ns->∀ t∈ts,znx g H t (zvz H t)
 | _,_,.nil,_,h=>nomatch h
 | _,_,.cons e r,t,h=>by
  rcases gs.mp h with y | y
  ·rw [y,e.snd]
   exact e
  ·exact zn8 r t y
theorem zud {g:Int}{H:Hp}:∀ {ts:List Addr} {ns:List Int} {t:Addr} {n:Int},Paired (znx g H) ts ns->znx g H t n->Paired (znx g H) (ts++[t]) (ns++[n])
 | _,_,_,_,.nil,h=> .cons h .nil
 | _,_,_,_,.cons e r,h=> .cons e (zud r h)
theorem zol {g:Int}{H:Hp}{us ts:List Addr}{ns:List Int}(hg:0<=g)(hn:∀ n∈ns,0<=n)(p:us.Perm ts)(pp:Paired (znx g H) ts (zaq (zc7 ns)))(s:us.Pairwise fun a b=>zym H a<zym H b):us.map (zvz H)=zcs g ns:=by
 have nn:∀ x∈zaq (zc7 ns),0<=x:=fun x hx=>hn x (zcl.mp ((zam _).subset hx))
 unfold zcs
 refine zl0 ((p.map _).trans (by rw [zr2 pp])) (fun x hx y hy e=>zpg hg (nn x hx) (nn y hy) e) ?_
 rw [jj]
 refine s.imp_of_mem fun {a b} ha hb h=>?_
 rw [<- (zn8 pp a (p.subset ha)).fst,<- (zn8 pp b (p.subset hb)).fst]
 omega
def zy7 (K:W.Frag):Sp:=fun vs H Q _=>∀ CC:Prop,(∀ (g:Int) (p:Addr) (ns:List Int) (m:Int),vs=[.int g,.ref p,.int m]->SqL K H p (ns.map V.int)->ns.length<64->0<=g->((∀ n∈ns,0<=n))->1<=m->(∀ (l:Addr) (H':Hp),zau H H'->H l=none->H' l=some (.lst (((zcs g ns).take m.toNat).map V.int))->Q (.ref l) H')->CC)->CC
theorem zir:zal ["_law_key","_law_names","_law_many","_law_some"] ["_law_key","_law_names","_law_many"] (zai (top 35)):=fS
theorem zn2 (Z:ZZ P w K mg base)(D:Df K mg "_law_nearest" (top 35) ["_law_key","_law_names","_law_many"]):zdl P w K mg base CX0 1 D.f D.fd ["_law_key","_law_names","_law_many"] (zy7 K):=by
 refine D.fn.ok zir (by kd_p) (fun cdv A outer s H vs Q E hr ae=>?_)
 refine ae _ fun g p ns m ac hS hl hg hn hm k=>?_
 subst ac
 have an:=zis ns
 have ak:=zbh (zc7 ns)
 have o:=zeu ns
 refine ⟨_,(zad (zax (i:=3) zir.nd rfl oL (za2 zms rfl Z.da.n_sorted zby (zaa (zg6 rfl (zbe (own:=["_law_name_here"]) (caps:=[0]) (N':=["_law_name_here","_law_key"]) (by kernel_rfl)) (zbf (za2 (zho rfl) rfl Z.da.n_sorted zby (zaa (zdu (znm rfl) rfl Z.da.n_set zwv (zaa (pv 1) zag)) zag))) (fun _ _ _ _ _=>(zaw (i:=0) (show (["_law_name_here","_law_key"]:List Str).Nodup by decide +kernel) rfl oL)) (fun _ _ _ _ _=>zik) (fun _ _ _ _ _=>(zi0 (zaa (za0 zru (pv 1) (pv 0)) (zaa (pv 0) zag))))) zag)))
  (zah (zas (zg6 rfl (zbe (own:=["_law_distance","_law_name_here"]) (caps:=[]) (N':=["_law_distance","_law_name_here"]) (by kernel_rfl)) (zbf (zc3 zeb (pv 3) zfi (zdd (pv 2)))) (fun _ _ _ _ _=>(zti (K:=K) (n:=2) rfl rfl (zb3 (zaw (i:=0) (show (["_law_distance","_law_name_here"]:List Str).Nodup by decide +kernel) rfl oL) (zb3 (zaw (i:=1) (show (["_law_distance","_law_name_here"]:List Str).Nodup by decide +kernel) rfl oL) zg7)))) (fun _ _ _ _ _=>zik) (fun _ _ _ _ _=>(pv 1)))))),?_⟩
 kt_k
 intro l1 q
 refine ⟨l1,zc7 ns,rfl,zac,o,by omega,fun l2 r=>?_⟩
 generalize h:upd (upd H l1 _) l2 _=H3
 have s3:zau H H3:=by
  rw [<- h]
  exact ((zau.refl H).lay q).lay r
 have e3:H3 l2=some (.lst ((zaq (zc7 ns)).map V.int)):=by rw [<- h,zac]
 clear h
 kt_k
 intro D hD
 refine zdv (K:=K) (a:=l2) (xs:=(zaq (zc7 ns)).map V.int) (fun i σ H4=>zg3 (∃ (v:Option V) (ts:List Addr),σ=[v,some (.int g)]/\zau H3 H4/\H4 D=some (.lst (ts.map V.ref))/\Paired (znx g H4) ts ((zaq (zc7 ns)).take i))) ⟨⟨none,[],rfl,zau.new H3 hD,zac,.nil⟩⟩ (fun i σ H4 _ ⟨_,_,_,s4,_⟩=>s4.seq (SqL.of e3)) ?_ ?_
 ·rintro i y σ H4 hi ⟨v,ts,rfl,s4,e4,pp⟩
  obtain ⟨c,hc,rfl⟩:∃ c,(zaq (zc7 ns))[i]? = some c/\y=V.int c:=by
   rw [List.getElem?_map] at hi
   cases e:(zaq (zc7 ns))[i]? with
   | none=>rw [e] at hi; cases hi
   | some x=>rw [e] at hi; exact ⟨x,rfl,(Option.some.inj hi).symm⟩
  have ad:(ts.map V.ref).length<sizeLine:=by
   rw [fj,pp.len,gq]
   exact zar (by omega)
  kt_k
  intro t ht
  generalize b:upd H4 t _=H5
  have s5:zau H4 H5:=by rw [<- b]; exact zau.new H4 ht
  have e5:znx g H5 t c:=by unfold znx; rw [<- b,zac]
  clear b
  have af:=s5 _ _ e4
  kt_k
  have ea:ts.map V.ref++[V.ref t]=(ts++[t]).map V.ref:=by rw [gy]; rfl
  rw [ea]
  refine ⟨⟨_,ts++[t],rfl,(s4.trans s5).put hD,zac,?_⟩⟩
  rw [zcc hc]
  refine (zud (pp.mp (G:=znx g H5) fun t n e=>s5 _ _ e) e5).mp fun t' n e=>?_
  unfold znx at e |-
  rw [zab (fun z=>by rw [z,af] at e; cases e)]
  exact e
 ·rintro σ H4 ⟨v,ts,rfl,s4,e4,pp⟩
  rw [fj,gr] at pp
  have am:=pp.len
  have u:(ts.map (zym H4)).Nodup:=by
   have e:ts.map (zym H4)=(ts.map (zvz H4)).map (Builtin.bitXor g):=by
    rw [j8]
    exact i5 fun t ht=>(zn8 pp t ht).fst
   rw [e,zr2 pp]
   refine jj.mpr (((zam _).nodup_iff.mpr o).imp_of_mem fun {x y} hx hy ag e=>ag ?_)
   exact zpg hg (hn x (zcl.mp ((zam _).subset hx))) (hn y (zcl.mp ((zam _).subset hy))) e
  refine ⟨D,ts,zym H4,zvz H4,rfl,SqL.of e4,by omega,fun t ht=>?_,u,fun l5 us ai hp hs=>?_⟩
  ·rw [(zn8 pp t ht).fst]
   exact zn8 pp t ht
  generalize b:upd H4 l5 _=H5
  obtain ⟨s5,e5⟩:=nw ai b
  clear b
  have d:=zol hg hn hp pp hs
  have aj:=hp.length_eq
  kt_k
  intro l6 aa
  rw [ztq _ (by omega)]
  generalize j:upd H5 l6 _=H6
  have s6:zau H5 H6:=by rw [<- j]; exact zau.new H5 aa
  have e6:H6 l6=some (.lst ((us.take m.toNat).map V.ref)):=by rw [<- j,zac,mh]
  clear j
  kt_k
  intro D2 l
  refine zdv (K:=K) (a:=l6) (xs:=(us.take m.toNat).map V.ref) (fun i σ H7=>zg3 (∃ (v0 v1:Option V),σ=[v0,v1]/\zau H6 H7/\H7 D2=some (.lst ((((us.take m.toNat).take i).map (zvz H4)).map V.int)))) ⟨⟨none,none,rfl,zau.new H6 l,zac⟩⟩ (fun i σ H7 _ ⟨_,_,_,s7,_⟩=>s7.seq (SqL.of e6)) ?_ ?_
  ·rintro i y σ H7 hi ⟨v0,v1,rfl,s7,e7⟩
   obtain ⟨t,ht,rfl⟩:∃ t,(us.take m.toNat)[i]? = some t/\y=V.ref t:=by
    rw [List.getElem?_map] at hi
    cases e:(us.take m.toNat)[i]? with
    | none=>rw [e] at hi; cases hi
    | some x=>rw [e] at hi; exact ⟨x,rfl,(Option.some.inj hi).symm⟩
   have ah:t∈ts:=hp.subset (ia (gj ht))
   have al:=s7 _ _ (s6 _ _ (s5 _ _ (show H4 t=_ from zn8 pp t ah)))
   have ad:((((us.take m.toNat).take i).map (zvz H4)).map V.int).length<sizeLine:=by
    rw [fj,fj,gq,gq]
    exact zar (by omega)
   kt_k
   refine ⟨⟨_,_,rfl,s7.put l,?_⟩⟩
   rw [zac,zqp ht,gy,gy]
   rfl
  ·rintro σ H7 ⟨v0,v1,rfl,s7,e7⟩
   rw [fj,gr,mh,d] at e7
   have ab:=((s4.trans s5).trans s6).trans s7
   exact k D2 H7 (s3.trans ab) (s3.free ((s4.trans (s5.trans s6)).free l)) e7
structure zh0 (H:Hp)(sh:Addr)(hs:List Int)(la:Int->Addr)(S:Int->List (Int × Th)):Prop where
 d:H sh=some (.dK (thD hs la))
 it:∀ h∈hs,H (la h)=some (.dK (inD (S h)))
 tu:∀ h∈hs,∀ e∈S h,H e.2.a=some (.tup [.int e.2.n,.str e.2.s])
 ni:∀ h∈hs,∀ h'∈hs,la h=la h'->h=h'
 ne:∀ h∈hs,la h≠sh
 nk:∀ h∈hs,((S h).map (·.1)).Nodup
section
variable {H H':Hp} {sh:Addr} {hs:List Int} {la:Int->Addr} {S:Int->List (Int × Th)}
theorem zh0.keep (M:zh0 H sh hs la S)(s:∀ q o,(Ng sh hs la q\/∃ xs,o = .tup xs)->H q=some o->H' q=some o):zh0 H' sh hs la S :=
 ⟨s _ _ (.inl (.inl rfl)) M.d,fun k hk=>s _ _ (.inl (.inr ⟨k,hk,rfl⟩)) (M.it k hk),fun k hk e he=>s _ _ (.inr ⟨_,rfl⟩) (M.tu k hk e he),M.ni,M.ne,M.nk⟩
theorem zh0.same (M:zh0 H sh hs la S)(s:zau H H'):zh0 H' sh hs la S:=M.keep fun q o _ e=>s _ _ e
theorem zh0.bounds (M:zh0 H sh hs la S){q:Addr}(h:Ng sh hs la q):∃ d,H q=some (.dK d):=by
 rcases h with rfl | ⟨k,hk,rfl⟩
 ·exact ⟨_,M.d⟩
 ·exact ⟨_,M.it k hk⟩
theorem zh0.put (M:zh0 H sh hs la S){h k:Int}{t:Th}(hh:h∈hs)(ht:H t.a=some (.tup [.int t.n,.str t.s])):zh0 (upd H (la h) (.dK (inD (zf3 (S h) k t)))) sh hs la (zcu S h (zf3 (S h) k t)):=by
 have tup:∀ {a:Addr} {xs:List V},H a=some (.tup xs)->upd H (la h) (.dK (inD (zf3 (S h) k t))) a=some (.tup xs):=fun e=>by
  rw [zab (fun z=>by rw [z,M.it h hh] at e; cases e)]
  exact e
 refine ⟨?_,fun x hx=>?_,fun x hx e he=>?_,M.ni,M.ne,fun x hx=>?_⟩
 ·rw [zab (M.ne h hh).symm]
  exact M.d
 ·by_cases e:x=h
  ·rw [e,zac,zaj]
  ·rw [zab (fun z=>e (M.ni x hx h hh z)),zao e]
   exact M.it x hx
 ·by_cases z:x=h
  ·rw [z,zaj] at he
   rcases zfk he with y | y
   ·exact tup (M.tu h hh e y)
   ·rw [y]
    exact tup ht
  ·rw [zao z] at he
   exact tup (M.tu x hx e he)
 ·by_cases z:x=h
  ·rw [z,zaj]
   exact zih (M.nk h hh)
  ·rw [zao z]
   exact M.nk x hx
theorem zh0.add (M:zh0 H sh hs la S){h:Int}{d:Addr}(hn:h∉hs)(hd:H d=none):zh0 (upd (upd H d (.dK [])) sh (.dK (zd3 (thD hs la) (Sum.inl h) (V.ref d)))) sh (hs++[h]) (zcu la h d) (zcu S h []):=by
 have e0:zdy (thD hs la) (Sum.inl h)=none:=by rw [zdp,if_neg hn]
 have nd:d≠sh:=fun z=>by rw [z,M.d] at hd; cases hd
 have ol:∀ {g:Int},g∈hs->g≠h:=fun hg z=>hn (z ▸ hg)
 have up:∀ {q:Addr} {o:HO},H q=some o->q≠sh->upd (upd H d (.dK [])) sh (.dK (zd3 (thD hs la) (Sum.inl h) (V.ref d))) q=some o:=fun {q o} e hq=>by
  rw [zab hq,zab (fun z=>by rw [z,hd] at e; cases e)]
  exact e
 have cs:∀ {g:Int},g∈hs++[h]->g∈hs\/g=h:=fun hg=>(fq.mp hg).imp id fi.mp
 have fr:∀ {g:Int},g∈hs->la g≠d:=fun {g} hg z=>by
  have:=M.it g hg
  rw [z,hd] at this
  cases this
 refine ⟨?_,fun g hg=>?_,fun g hg e he=>?_,fun g hg g' b e=>?_,fun g hg=>?_,fun g hg=>?_⟩
 ·rw [zac,zgh _ e0]
  have em:thD hs la=thD hs (zcu la h d):=i5 fun g hg=>by rw [zao (ol hg)]
  have e1:thD (hs++[h]) (zcu la h d)=thD hs (zcu la h d)++[(Sum.inl h,V.ref (zcu la h d h))]:=gy
  rw [em,e1,zaj]
 ·rcases cs hg with y | y
  ·rw [zao (ol y),zao (ol y)]
   exact up (M.it g y) (M.ne g y)
  ·rw [y,zaj,zaj,zab nd,zac]
   rfl
 ·rcases cs hg with y | y
  ·rw [zao (ol y)] at he
   have a:=M.tu g y e he
   exact up a (fun z=>by rw [z,M.d] at a; cases a)
  ·rw [y,zaj] at he
   cases he
 ·rcases cs hg with y | y <;> rcases cs b with y' | y'
  ·rw [zao (ol y),zao (ol y')] at e
   exact M.ni g y g' y' e
  ·rw [zao (ol y),y',zaj] at e
   exact absurd e (fr y)
  ·rw [zao (ol y'),y,zaj] at e
   exact absurd e.symm (fr y')
  ·rw [y,y']
 ·rcases cs hg with y | y
  ·rw [zao (ol y)]
   exact M.ne g y
  ·rw [y,zaj]
   exact nd
 ·rcases cs hg with y | y
  ·rw [zao (ol y)]
   exact M.nk g y
  ·rw [y,zaj]
   exact ii
theorem zvr {h:Int}:zcw (thD hs la) (Sum.inl h)=thD (zef h hs) la:=by
 unfold zcw thD zef
 rw [kx]
 congr 1
 refine jw fun x _=>?_
 show decide ((Sum.inl x:Key)≠Sum.inl h) = !decide (x=h)
 by_cases e:x=h
 ·rw [e]
  simp
 ·rw [decide_eq_false e]
  simp [e]
theorem zh0.pop (M:zh0 H sh hs la S){h:Int}:zh0 (upd H sh (.dK (zcw (thD hs la) (Sum.inl h)))) sh (zef h hs) la S:=by
 have m:∀ {g:Int},g∈zef h hs->g∈hs:=fun hg=>(zbt.mp hg).1
 refine ⟨by rw [zac,zvr],fun g hg=>?_,fun g hg e he=>?_,fun g hg g' b e=>M.ni g (m hg) g' (m b) e,fun g hg=>M.ne g (m hg),fun g hg=>M.nk g (m hg)⟩
 ·rw [zab (M.ne g (m hg))]
  exact M.it g (m hg)
 ·have a:=M.tu g (m hg) e he
  rw [zab (fun z=>by rw [z,M.d] at a; cases a)]
  exact a
end
theorem zv2 {α:Type}{N:Int->α}{h:Int}:zcu N h (N h)=N:=by
 funext g
 by_cases e:g=h
 ·rw [e,zaj]
 ·rw [zao e]
theorem zv6 {l:List (Int × Th)}:(inD l).map (·.1)=(l.map (·.1)).map Sum.inl:=by
 unfold inD
 rw [j8,j8]
 rfl
abbrev Tg:=Int × Int × Str
def tgD (e:Tg):PyData:= .tuple [.int e.1,.int e.2.1,.str e.2.2]
def TgH (H:Hp)(p:Addr)(e:Tg):Prop:=H p=some (.tup [.int e.1,.int e.2.1,.str e.2.2])
theorem zua {K:W.Frag}{H:Hp}:∀ {ps:List Addr} {es:List Tg},Paired (TgH H) ps es->DVs K H (es.map tgD) (ps.map V.ref)
 | _,_,.nil=>by unfold DVs; rfl
 | _,_,@Paired.cons _ _ _ p e ps es x t=>by
  show DVs K H (tgD e :: es.map tgD) (.ref p :: ps.map V.ref)
  have x:H p=some (.tup [.int e.1,.int e.2.1,.str e.2.2]):=x
  unfold DVs
  refine ⟨_,_,rfl,?_,zua t⟩
  unfold tgD DV
  refine ⟨p,_,rfl,SqT.of x,?_⟩
  unfold DVs
  refine ⟨_,_,rfl,by unfold DV; rfl,?_⟩
  unfold DVs
  refine ⟨_,_,rfl,by unfold DV; rfl,?_⟩
  unfold DVs
  refine ⟨_,_,rfl,by unfold DV; rfl,?_⟩
  unfold DVs
  rfl
theorem zto:∀ es:List Tg,PyData.eqvAll (es.map tgD) (es.map tgD)=true
 | []=>by simp [PyData.eqvAll]
 | e :: es=>by
  have ih:=zto es
  simp [PyData.eqvAll,PyData.eqv,tgD,ih]
def zuf (es:List Tg):PyData:= .list (es.map tgD)
theorem zwz {K:W.Frag}{H:Hp}{l:Addr}{ps:List Addr}{es:List Tg}(a:H l=some (.lst (ps.map V.ref)))(b:Paired (TgH H) ps es):DV K H (zuf es) (.ref l):=by
 unfold zuf DV
 exact ⟨l,_,rfl,SqL.of a,zua b⟩
theorem zyr {es:List Tg}(h:∀ e∈es,PyData.strOk e.2.2=true):PyData.canLay0 (zuf es)=true:=by
 unfold zuf PyData.canLay0
 exact zsw fun e he=>by simp [tgD,PyData.canLay0,PyData.canLayAll0,h e he]
theorem okS (s:String):PyData.strOk (Str.ofString s)=true:=by
 unfold PyData.strOk
 rw [Str.ofString_eq_toList]
 simp only [List.all_toArray,List.all_map,jg,Function.comp,decide_eq_true_eq]
 intro c _
 have h:=c.valid
 simp only [UInt32.isValidChar,Nat.isValidChar] at h
 show c.val.toNat<1114112
 omega
theorem zyn {a b:Str}(ha:PyData.strOk a=true)(hb:PyData.strOk b=true):PyData.strOk (a++b)=true:=by
 unfold PyData.strOk at ha hb |-
 show (a.cps++b.cps).all _=true
 rw [Array.all_append,ha,hb]
 rfl
theorem zwq (es:List Tg):PyData.depth (zuf es)<=2:=by
 unfold zuf PyData.depth
 have:=zp9 (g:=tgD) (n:=1) (xs:=es) fun e _=>by simp [tgD,PyData.depth,PyData.depthAll]
 omega
theorem ztj {H:Hp}:∀ {ts:List Addr} {ns:List Tg} {t:Addr} {n:Tg},Paired (TgH H) ts ns->TgH H t n->Paired (TgH H) (ts++[t]) (ns++[n])
 | _,_,_,_,.nil,h=> .cons h .nil
 | _,_,_,_,.cons e r,h=> .cons e (ztj r h)
def prT (t:Th):Int × Str:=(t.n,t.s)
def zoq (ks:List Int)(G:Int->List (Int × Th))(h:Int):List Tg:=(zaq ks).filterMap fun k=>((zb8 (G k) h).map prT).map fun p=>(k,p)
theorem znt {H:Hp}{gd:Addr}{ks:List Int}{ad:Int->Addr}{G:Int->List (Int × Th)}{h:Int}(M:zb_ H gd ks ad G):∀ {l:List Int},(∀ k∈l,k∈ks)->Paired (TgH H) ((l.filterMap fun k=>zb8 (G k) h).map (·.a)) (l.filterMap fun k=>((zb8 (G k) h).map prT).map fun p=>(k,p))
 | [],_=> .nil
 | k :: r,hl=>by
  have ih:=znt (h:=h) M (l:=r) fun x hx=>hl x (fk _ hx)
  rw [i4,i4]
  cases e:zb8 (G k) h with
  | none=>exact ih
  | some t=>exact .cons (M.tu k (hl k (gb ..)) (h,t) (zex e)) ih
theorem zxt {H:Hp}{gd:Addr}{ks:List Int}{ad:Int->Addr}{G:Int->List (Int × Th)}{h:Int}(M:zb_ H gd ks ad G):Paired (TgH H) ((zz1 ks G h).map (·.a)) (zoq ks G h):=znt M fun k hk=>(zam _).subset hk
theorem zzk {ts:List Th}:thV ts=(ts.map (·.a)).map V.ref:=by
 unfold thV
 rw [j8]
 rfl
def Rel (hs:List Int)(S G:Int->List (Int × Th)):Prop:=∀ g∈hs,∀ k,(zb8 (S g) k).map prT=(zb8 (G k) g).map prT
theorem zss {a b:List Int}{f:Int->Option Tg}(ha:a.Nodup)(hb:b.Nodup)(h:∀ k,f k≠none->k∈a/\k∈b):(zaq a).filterMap f=(zaq b).filterMap f:=by
 have c:∀ l:List Int,l.filterMap f=(l.filter fun k=>(f k).isSome).filterMap f:=fun l=>by
  induction l with
  | nil=>rfl
  | cons x r ih =>
   rw [i4,lw]
   cases e:f x with
   | none=>simpa using ih
   | some y =>
    simp only [lv,if_true]
    rw [i4,e,ih]
 rw [c (zaq a),c (zaq b)]
 congr 1
 refine zjk ?_ ((zd6 a).sublist ip) ((zd6 b).sublist ip)
 refine (List.perm_ext_iff_of_nodup (((zam a).nodup_iff.mpr ha).sublist ip) (((zam b).nodup_iff.mpr hb).sublist ip)).mpr fun x=>?_
 rw [gv,gv,(zam a).mem_iff,(zam b).mem_iff]
 constructor
 ·rintro ⟨_,y⟩
  exact ⟨(h x fun z=>by rw [z] at y; cases y).2,y⟩
 ·rintro ⟨_,y⟩
  exact ⟨(h x fun z=>by rw [z] at y; cases y).1,y⟩
theorem Rel.in {H:Hp}{gd:Addr}{hs ks:List Int}{ad:Int->Addr}{S G:Int->List (Int × Th)}(R:Rel hs S G)(M:zb_ H gd ks ad G){g:Int}(hg:g∈hs):∀ e∈S g,e.1∈ks:=fun e he=>by
 have a:zb8 (S g) e.1≠none:=fun z=>zgg.mp z (List.mem_map_of_mem he)
 have b:zb8 (G e.1) g≠none:=fun z=>a (by
  have:=R g hg e.1
  rw [z] at this
  exact ir.mp this)
 refine Decidable.byContradiction fun y=>?_
 rw [M.go e.1 y] at b
 exact b rfl
theorem Rel.kept {H:Hp}{gd:Addr}{hs ks:List Int}{ad:Int->Addr}{S G:Int->List (Int × Th)}(R:Rel hs S G)(M:zb_ H gd ks ad G){g:Int}(hg:g∈hs)(hn:((S g).map (·.1)).Nodup):(zaq ((S g).map (·.1))).filterMap (fun k=>((zb8 (S g) k).map prT).map fun p=>(k,p))=zoq ks G g:=by
 unfold zoq
 have e:(fun k=>((zb8 (S g) k).map prT).map fun p=>(k,p))=fun k=>((zb8 (G k) g).map prT).map fun p=>(k,p):=by
  funext k
  rw [R g hg k]
 rw [e]
 refine zss hn M.nk fun k hk=>?_
 have a:zb8 (S g) k≠none:=fun z=>hk (by
  have:=R g hg k
  rw [z] at this
  show map _ (map prT (zb8 (G k) g))=none
  rw [<- this]
  rfl)
 have b:k∈(S g).map (·.1):=Decidable.byContradiction fun y=>a (zgg.mpr y)
 obtain ⟨x,hx,rfl⟩:=j7.mp b
 exact ⟨b,R.in M hg x hx⟩
theorem Rel.ok {H:Hp}{gd:Addr}{hs ks:List Int}{ad:Int->Addr}{S G:Int->List (Int × Th)}(R:Rel hs S G)(M:zb_ H gd ks ad G){g:Int}(hg:g∈hs)(hn:((S g).map (·.1)).Nodup)(ho:∀ e∈S g,PyData.strOk e.2.s=true):∀ e∈zoq ks G g,PyData.strOk e.2.2=true:=fun e he=>by
 rw [<- R.kept M hg hn] at he
 obtain ⟨k,_,h1⟩:=iw.mp he
 cases e2:zb8 (S g) k with
 | none=>rw [e2] at h1; cases h1
 | some t =>
  rw [e2] at h1
  cases h1
  exact ho (k,t) (zex e2)
def zyx (CB CT CW:Addr):Sp:=fun vs H Q _=>∀ CC:Prop,(∀ (w td sd:Addr) (z r:Int) (hs sil:List Int) (T:Int->zbk) (dx:Addr × Addr × Int) (ks:List Int) (ad:Int->Addr) (G:Int->List (Int × Th)) (sh:Addr) (lh:List Int) (la:Int->Addr) (S:Int->List (Int × Th)),vs=[.ref w,.ref sh]->zak CB CT CW H w td sd z r hs sil T->hs.length<=12->H w=some (.ins CW dx.1 (wF z r td sd dx))->zb_ H dx.2.1 ks ad G->ks.length<64->zh0 H sh lh la S->lh.Perm hs->Rel hs S G->((∀ g∈lh,∀ e∈S g,PyData.strOk e.2.s=true))->(∀ (H':Hp),zau H H'->Q (.bl true) H')->CC)->CC
def z0g:Sp:=fun vs H Q _=>∃ x:Int,vs=[.int x]/\∀ (s:Str) (H':Hp),PyData.strOk s=true->zau H H'->Q (.str s) H'
theorem zgw:zal ["_law_market","_law_shelves","_law_house","_law_due","_law_found","_law_thing"] ["_law_market","_law_shelves"] (zai (top 36)):=fS
theorem zwl (Z:ZZ P w K mg base){CB CT:Addr}:zj2 Z 6 Z.cx (zyx CB CT Z.bc.C):=by
 have b4:=Z.bc.cl
 obtain ⟨bf,bz,br,bh,bm,b3,-⟩:=Z.bc.na
 have aj:=zc2 (CB:=CB) (CT:=CT) Z
 have ax:=zko (CB:=CB) (CT:=CT) Z
 refine Z.cx.fn.ok zgw (by kd_p) (fun cdv A outer s H vs Q E hr ay=>?_)
 refine ay _ fun w td sd z r hs sil TT dx ks ad G sh lh la S aw hW bl u M b2 Y lp R hok k=>?_
 subst aw
 have au:=zie (ks:=lh) (ad:=la)
 have bq:lh.length<64:=by rw [lp.length_eq]; omega
 have a7:zaq lh=zaq hs:=zpj lp
 have hd:=Y.d
 refine ⟨_,(zad (zbw (zaz (zw8 hr.units) (za2 (zch rfl) rfl Z.da.n_sorted zby (zaa (pv 1) zag)) (zcd (pv 0) Z.bc.cl Z.b0.me aj hr.mm Z.b0.b .nil zb5) (zbb _))
   (zah (zas ze7))
   zay)
  (zad (zdf PassesOwn.never rfl (zbf (zcd (pv 0) Z.bc.cl Z.b0.me aj hr.mm Z.b0.b .nil zb5)) (zaw (i:=2) zgw.nd rfl (Or.inr rfl))
   (zad (zim (i:=3) zgw.nd rfl oL rfl (zbe (own:=["_law_key"]) (caps:=[1,2]) (N':=["_law_key","_law_shelves","_law_house"]) (by kernel_rfl)) (zbf (za2 (zch rfl) rfl Z.da.n_sorted zby (zaa (zcp (zcz hr) (pv 1) (pv 2) (fun _ _=>rfl)) zag))) (fun _ _ _ _ _=>(zaw (i:=0) (show (["_law_key","_law_shelves","_law_house"]:List Str).Nodup by decide +kernel) rfl oL)) (fun _ _ _ _ _=>zik) (fun _ _ _ _ _=>(za0 (zvx (K:=K) rfl) (zi0 (zaa (pv 0) zag)) (zcp (zcz hr) (zcp (zcz hr) (pv 1) (pv 2) (fun _ _=>rfl)) (pv 0) (fun _ _=>rfl)))))
   (zad (zax (i:=4) zgw.nd rfl oL (pmD (pv 0) Z.bc.cl Z.cj ax hr (zaa (pv 2) zag)))
   (zad (zbw (PW.pt (zqi (ze9 (zcm (za2 zes rfl Z.da.n_isinstance zbl (zaa (pv 4) (zaa (zn7 rfl Z.da.n_list zjp) zag))))) (zm1 (zaz (zxi hr.units) (pv 4) (pv 3) (zbb _)))))
    (zah (zas ze7))
    zay)
   (zah (zdf PassesOwn.never rfl (zbf (pv 4)) (zaw (i:=5) zgw.nd rfl oL)
    (zah (zbw (PW.pt (zqi (ze9 (zcm (za2 zes rfl Z.da.n_isinstance zbl (zaa (pv 5) (zaa (zn7 rfl Z.da.n_tuple zwi) zag))))) (zqi (zcm (za2 zes rfl Z.da.n_isinstance zbl (zaa (zfw zjv (pv 5) zan (fun _ _=>rfl)) (zaa (zn7 rfl Z.da.n_bool zon) zag)))) (zm1 (zcm (za2 zes rfl Z.da.n_isinstance zbl (zaa (zfw zjv (pv 5) zan (fun _ _=>rfl)) (zaa (zn7 rfl Z.da.n_bool zon) zag))))))))
     (zah (zas ze7))
     zay))))))))
  (zah (zas ze7)))),?_⟩
 kt_k
 intro l1 a5
 generalize ac:upd H l1 _=H1
 have s1:zau H H1:=by rw [<- ac]; exact zau.new H a5
 have e1:H1 l1=some (.lst ((zaq hs).map V.int)):=by rw [<- ac,zac,a7]
 clear ac
 have W1:=hW.keep (H':=H1) fun q o _ e=>s1 _ _ e
 have bb:=s1 _ _ u
 kt_k
 intro l2 aq
 generalize an:upd H1 l2 _=H2
 obtain ⟨s2,e2⟩:=nw aq an
 clear an
 have ae:=s1.trans s2
 have W2:=hW.keep (H':=H2) fun q o _ e=>ae _ _ e
 have bd:=ae _ _ u
 have a1:=s2 _ _ e1
 refine ⟨l1,l2,zaq hs,zaq hs,rfl,rfl,SqL.of a1,SqL.of e2,?_⟩
 simp only [decide_true,Bool.not_true,if_true]
 kt_k
 intro l3 a4
 generalize ah:upd H2 l3 _=H3
 obtain ⟨s3,e3⟩:=nw a4 ah
 clear ah
 have ai:=ae.trans s3
 kt_k
 refine zbs (K:=K) (a:=l3) (xs:=(zaq hs).map V.int) (fun j σ H4=>zg3 (∃ (v2 v3 v4 v5:Option V),σ=[some (.ref w),some (.ref sh),v2,v3,v4,v5]/\zau H3 H4)) ⟨⟨_,_,_,_,rfl,zau.refl _⟩⟩ (fun j σ H4 _ ⟨_,_,_,_,_,s4⟩=>SqL.of (s4 _ _ e3)) ?_ ?_
 ·rintro j y σ H4 hj ⟨v2,v3,v4,v5,rfl,s4⟩
  obtain ⟨g,hg,rfl⟩:∃ x,(zaq hs)[j]? = some x/\y=V.int x:=by
   rw [List.getElem?_map] at hj
   cases e:(zaq hs)[j]? with
   | none=>rw [e] at hj; cases hj
   | some x=>rw [e] at hj; exact ⟨x,rfl,(Option.some.inj hj).symm⟩
  have m:g∈hs:=(zam _).subset (gj hg)
  have f:g∈lh:=lp.mem_iff.mpr m
  have ao:=ai.trans s4
  have Y4:=Y.same ao
  have a3:=zgf.k (k:=Sum.inl g) Y4.d
  rw [zdp,if_pos f] at a3
  have bp:=Y4.it g f
  have ap:=zv6 (l:=S g)
  have ag:=Y.nk g f
  have bv:((S g).map (·.1)).length<64:=by
   have:=zbg ag (b:=ks) fun x hx=>by
    obtain ⟨e,he,rfl⟩:=j7.mp hx
    exact R.in M m e he
   omega
  have bw:=zbh ((S g).map (·.1))
  kt_k
  intro l5 a0
  generalize al:upd H4 l5 _=H5
  obtain ⟨s5,e5⟩:=nw a0 al
  clear al
  kt_k
  intro D5 am
  refine zdv (K:=K) (a:=l5) (xs:=(zaq ((S g).map (·.1))).map V.int) (fun i σ H6=>zg3 (∃ (v:Option V) (ts:List Addr),σ=[v,some (.ref sh),some (.int g)]/\zau H5 H6/\H6 D5=some (.lst (ts.map V.ref))/\Paired (TgH H6) ts (((zaq ((S g).map (·.1))).take i).filterMap fun k=>((zb8 (S g) k).map prT).map fun p=>(k,p)))) ⟨⟨none,[],rfl,zau.new H5 am,zac,.nil⟩⟩ (fun i σ H6 _ ⟨_,_,_,s6,_⟩=>s6.seq (SqL.of e5)) ?_ ?_
  ·rintro i y σ H6 hi ⟨v,ts,rfl,s6,e6,pp⟩
   obtain ⟨c,hc,rfl⟩:∃ c,(zaq ((S g).map (·.1)))[i]? = some c/\y=V.int c:=by
    rw [List.getElem?_map] at hi
    cases e:(zaq ((S g).map (·.1)))[i]? with
    | none=>rw [e] at hi; cases hi
    | some x=>rw [e] at hi; exact ⟨x,rfl,(Option.some.inj hi).symm⟩
   have av:c∈(S g).map (·.1):=(zam _).subset (gj hc)
   have bn:(ts.map V.ref).length<sizeLine:=by
    rw [fj,pp.len]
    have:=List.length_filterMap_le (fun k=>((zb8 (S g) k).map prT).map fun p=>(k,p)) ((zaq ((S g).map (·.1))).take i)
    rw [gq] at this
    exact zar (by omega)
   cases et:zb8 (S g) c with
   | none=>exact absurd av (zgg.mp et)
   | some t =>
    have Y6:=Y4.same (s5.trans s6)
    kt_k
    intro p1 a2
    generalize ak:upd H6 p1 _=H7
    obtain ⟨s7,e7⟩:=nw a2 ak
    clear ak
    have Y7:=Y6.same s7
    have ar:=zgf.k (k:=Sum.inl g) Y7.d
    rw [zdp,if_pos f] at ar
    have a8:=zgf.k (k:=Sum.inl c) (Y7.it g f)
    rw [ziv,et] at a8
    have bo:=Y7.tu g f (c,t) (zex et)
    kt_k
    refine ⟨(fun z=>nomatch z),gx (zar (by show 1+2<=1000; decide)),(fun z=>nomatch z),fun _ p2 a6=>?_⟩
    generalize ab:upd H7 p2 _=H8
    have s8:zau H7 H8:=by rw [<- ab]; exact zau.new H7 a6
    have e8:TgH H8 p2 (c,t.n,t.s):=by unfold TgH; rw [<- ab,zac]; rfl
    clear ab
    have af:=s7.trans s8
    have az:=af _ _ e6
    kt_k
    have ea:ts.map V.ref++[V.ref p2]=(ts++[p2]).map V.ref:=by rw [gy]; rfl
    rw [ea]
    refine ⟨⟨_,ts++[p2],rfl,(s6.trans af).put am,zac,?_⟩⟩
    rw [zi8 hc,et]
    refine (ztj (pp.mp (G:=TgH H8) fun t n e=>af _ _ e) e8).mp fun t' n e=>?_
    unfold TgH at e |-
    rw [zab (fun z=>by rw [z,az] at e; cases e)]
    exact e
  ·rintro σ H6 ⟨v,ts,rfl,s6,e6,pp⟩
   rw [fj,gr,R.kept M m ag] at pp
   have aa:=ao.trans (s5.trans s6)
   have W6:=hW.keep (H':=H6) fun q o _ e=>aa _ _ e
   have ba:=aa _ _ u
   have M6:=M.same aa
   kt_k
   intro l7 H7 s7 bg e7
   rw [zzk] at e7
   have pk:=zxt (h:=g) (M6.same s7)
   have b1:=zwz (K:=K) e7 pk
   have bj:=zwz (K:=K) (s7 _ _ e6) (pp.mp (G:=TgH H7) fun t n e=>s7 _ _ e)
   have be:=zyr (R.ok M m ag (hok g f))
   have bt:PyData.depth (zuf (zoq ks G g))<=64:=gm (zwq _) (by decide)
   kt_k
   have a9:PyData.eqv (zuf (zoq ks G g)) (zuf (zoq ks G g))=true:=by
    unfold zuf
    simp only [PyData.eqv,zto]
   simp only [a9,Bool.not_true,if_true]
   kt_k
   refine zbs (K:=K) (a:=l7) (xs:=((zz1 ks G g).map (·.a)).map V.ref) (fun i σ H8=>zg3 (∃ (v5:Option V),σ=[some (.ref w),some (.ref sh),some (.int g),some (.ref D5),some (.ref l7),v5]/\H8=H7)) ⟨⟨_,rfl,rfl⟩⟩ (fun j σ H8 _ ⟨_,_,e⟩=>e ▸ SqL.of e7) ?_ ?_
   ·rintro i y σ H8 hi ⟨v5,rfl,rfl⟩
    obtain ⟨p,e,hp,he,rfl,hx⟩:=zfl pk hi
    have hx:H8 p=some (.tup [.int e.1,.int e.2.1,.str e.2.2]):=hx
    have bu:atI [V.int e.1,V.int e.2.1,V.str e.2.2] 0=some (V.int e.1):=rfl
    have bi:atI [V.int e.1,V.int e.2.1,V.str e.2.2] 1=some (V.int e.2.1):=rfl
    kt_k
    exact ⟨⟨_,rfl,rfl⟩⟩
   ·rintro σ H8 ⟨v5,rfl,rfl⟩
    exact ⟨⟨_,_,_,_,rfl,s4.trans ((s5.trans s6).trans s7)⟩⟩
 ·rintro σ H4 ⟨v2,v3,v4,v5,rfl,s4⟩
  kt_k
  exact k H4 (ai.trans s4)
theorem zv_:zal ["_law_x"] ["_law_x"] (zai (top 37)):=fS
theorem ztn (x:Int){a b c d e:Str}(ha:PyData.strOk a=true)(hb:PyData.strOk b=true)(hc:PyData.strOk c=true)(hd:PyData.strOk d=true)(he:PyData.strOk e=true):∃ s,PyData.strOk s=true/\atI [V.str a,V.str b,V.str c,V.str d,V.str e] (x % 5)=some (V.str s):=by
 have h:x % 5=0\/x % 5=1\/x % 5=2\/x % 5=3\/x % 5=4:=by omega
 rcases h with h | h | h | h | h <;> rw [h]
 ·exact ⟨_,ha,rfl⟩
 ·exact ⟨_,hb,rfl⟩
 ·exact ⟨_,hc,rfl⟩
 ·exact ⟨_,hd,rfl⟩
 ·exact ⟨_,he,rfl⟩
theorem zvd (Z:ZZ P w K mg base):zj2 Z 1 Z.cz z0g:=by
 refine Z.cz.fn.ok zv_ (by kd_p) (fun cdv A outer s H vs Q E hr h=>?_)
 obtain ⟨x,rfl,k⟩:=h
 have b:(x / 8 % 1000).natAbs.log2<1920:=j4 (Nat.log2_le_self _) (by omega)
 have f:=PyProof.Rows.int_text_len_1921 b
 have d:(("t" : Str).length:Nat)+(Str.ofString (toString (x / 8 % 1000))).length<=sizeLine:=by
  have:("t" : Str).length=1:=by decide +kernel
  have:sizeLine ≥ 2000:=by decide +kernel
  omega
 obtain ⟨s,hs,e⟩:=ztn x (okS "") (okS "a") (okS "A b:?") (okS "thing") (zyn (okS "t") (okS (toString (x / 8 % 1000))))
 refine ⟨_,(zah (zas (zfw zey (zcn (zaa zbr (zaa zbr (zaa zbr (zaa zbr (zaa (za0 zq5 zbr (zdu znk rfl Z.da.n_str z0t (zaa (za0 zci (za0 zdj (pv 0) zan) zan) zag))) zag)))))) (za0 zci (pv 0) zan) (fun _ _=>rfl)))),?_⟩
 kt_k
 intro p1 c
 generalize a:upd H p1 _=H1
 obtain ⟨s1,e1⟩:=nw c a
 clear a
 kt_k
 exact k s H1 hs s1
def zdn (hs sil:List Int):List Int:=(zaq hs).filter fun h=> !decide (h∈sil)
theorem zfe {hs sil:List Int}{x:Int}:x∈zdn hs sil↔x∈hs/\x∉sil:=by
 unfold zdn
 rw [gv]
 refine ⟨fun ⟨a,b⟩=>⟨(zam _).subset a,by simpa using b⟩,fun ⟨a,b⟩=>⟨(zam _).symm.subset a,by simpa using b⟩⟩
def zsz:HO->Prop
 | .lst _=>True
 | .tup _=>True
 | .dK _=>True
 | .frz _ _=>True
 | _=>False
theorem zsz.nt {o:HO}(h:zsz o):∀ ps,o≠ .tbl ps:=fun ps e=>by subst e; exact h
structure Kl (H H':Hp)(O O':Addr->Prop):Prop where
 k:∀ q o,zsz o->H q=some o->¬ O q->H' q=some o
 o:∀ q,O' q->O q\/H q=none
 e:∀ q,H' q=none->H q=none
theorem Kl.trans {H H1 H':Hp}{O O1 O':Addr->Prop}(a:Kl H H1 O O1)(b:Kl H1 H' O1 O'):Kl H H' O O':=by
 refine ⟨fun q o ho e hn=>b.k q o ho (a.k q o ho e hn) fun y=>?_,fun q y=>?_,fun q y=>a.e q (b.e q y)⟩
 ·rcases a.o q y with z | z
  ·exact hn z
  ·rw [e] at z
   cases z
 ·rcases b.o q y with z | z
  ·exact a.o q z
  ·exact .inr (a.e q z)
theorem Kl.same {H H':Hp}{O:Addr->Prop}(s:zau H H'):Kl H H' O O:=⟨fun q o _ e _=>s _ _ e,fun _ y=> .inl y,fun _ e=>s.free e⟩
theorem Kl.lst {H H':Hp}{O O':Addr->Prop}(a:Kl H H' O O'){q:Addr}{xs:List V}(e:H q=some (.lst xs))(hn:¬ O q):H' q=some (.lst xs)/\¬ O' q:=⟨a.k q _ trivial e hn,fun y=>(a.o q y).elim hn fun z=>by rw [e] at z; cases z⟩
theorem zak.past {CB CT CW w td sd:Addr}{H H':Hp}{z r:Int}{hs sil:List Int}{T:Int->zbk}{O:Addr->Prop}(W:zak CB CT CW H w td sd z r hs sil T)(hO:∀ q,O q->¬ Own td sd z.toNat hs T q/\((∃ x,H q=some (.dK x))\/∃ x,H q=some (.lst x)))(k:∀ q o,H q=some o->¬ O q->H' q=some o):zak CB CT CW H' w td sd z r hs sil T:=by
 obtain ⟨⟨dx,h1⟩,h2,h3,h4,h5,h6,h7,h8,h9,c,a,b⟩:=W
 have nd:∀ {q:Addr} {C d:Addr} {fs:List (Str × V)},H q=some (.ins C d fs)->¬ O q:=fun {q C d fs} e y=>by
  rcases (hO q y).2 with ⟨x,e2⟩ | ⟨x,e2⟩ <;> rw [e2] at e <;> cases e
 have no:∀ {q:Addr},Own td sd z.toNat hs T q->¬ O q:=fun h y=>(hO _ y).1 h
 refine ⟨⟨dx,k _ _ h1 (nd h1)⟩,k _ _ h2 (no (.inl rfl)),k _ _ h3 (no (.inr (.inl rfl))),fun h hh=>(h4 h hh).only (fun o e=>?_) (fun o e=>k _ _ e (no (.inr (.inr ⟨h,hh,.inl rfl⟩)))) (fun j hj o e=>k _ _ e (no (.inr (.inr ⟨h,hh,.inr ⟨j,hj,.inl rfl⟩⟩)))) (fun j hj o e=>k _ _ e (no (.inr (.inr ⟨h,hh,.inr ⟨j,hj,.inr rfl⟩⟩)))),h5,h6,h7,h8,h9,c,a,b⟩
 obtain ⟨dt,e1⟩:=(h4 h hh).ob
 exact k _ _ e (nd e1)
section
variable {CB CT CW T0 T1 T3 T4:Addr} {H H3:Hp} {w td sd sh:Addr} {z r:Int} {hs sil pool:List Int} {T:Int->zbk} {dx:Addr × Addr × Int} {ks:List Int} {ad:Int->Addr} {G:Int->List (Int × Th)} {la:Int->Addr} {S:Int->List (Int × Th)} {O O':Addr->Prop}
theorem zdw.past (X:zdw CB CT CW T0 T1 T3 T4 H w td sd z r hs sil pool T dx ks ad G)(hO:∀ q,O q->¬ Om td sd z.toNat hs T dx.2.1 ks ad q/\((∃ x,H q=some (.dK x))\/∃ x,H q=some (.lst x)))(k:∀ q o,H q=some o->¬ O q->H3 q=some o):zdw CB CT CW T0 T1 T3 T4 H3 w td sd z r hs sil pool T dx ks ad G:=by
 have nd:∀ {q:Addr} {o:HO},H q=some o->(∀ x,o≠ .dK x)->(∀ x,o≠ .lst x)->¬ O q:=fun {q o} e h1 h2 y=>by
  rcases (hO q y).2 with ⟨x,e2⟩ | ⟨x,e2⟩ <;> rw [e2] at e
  ·exact h1 x (Option.some.inj e).symm
  ·exact h2 x (Option.some.inj e).symm
 have tt:∀ {Ti:Addr} {po:Pos} {qu:Str},Tab H Ti po qu->Tab H3 Ti po qu:=fun {Ti po qu} t=>Tab.hold t fun q o ho e=>by
  rcases ho with ⟨x,j,rfl⟩ | rfl
  ·exact k q _ e (nd e (fun _ z=>nomatch z) (fun _ z=>nomatch z))
  ·obtain ⟨ps,hp⟩:=za1 t
   rw [hp] at e
   cases e
   exact k _ _ hp (nd hp (fun _ z=>nomatch z) (fun _ z=>nomatch z))
 have no:∀ {q:Addr},Om td sd z.toNat hs T dx.2.1 ks ad q->¬ O q:=fun h y=>(hO _ y).1 h
 refine ⟨⟨X.X.W.past (fun q y=>⟨fun h=>(hO q y).1 (.inl h),(hO q y).2⟩) k,X.X.A,X.X.O,X.X.pq,X.X.pb,X.X.sm,X.X.sn,X.X.n12,tt X.X.t0,tt X.X.t1,tt X.X.t3⟩,k _ _ X.ob (nd X.ob (fun _ z=>nomatch z) (fun _ z=>nomatch z)),X.M.keep fun q o ho e=>k q o e ?_,X.dj,tt X.t4,X.kb,X.gh,X.gn,X.un,X.lt⟩
 rcases ho with y | ⟨j,hj,y⟩ | ⟨xs,y⟩
 ·exact no (.inr (.inl y))
 ·exact no (.inr (.inr ⟨j,hj,y⟩))
 ·subst y
  exact nd e (fun _ z=>nomatch z) (fun _ z=>nomatch z)
theorem zdw.tupM (X:zdw CB CT CW T0 T1 T3 T4 H w td sd z r hs sil pool T dx ks ad G){q:Addr}{xs:List V}(e:H q=some (.tup xs)):¬ Om td sd z.toNat hs T dx.2.1 ks ad q:=fun y=>by
 rcases y with y | y
 ·exact X.X.W.tupN e y
 ·obtain ⟨d,e2⟩:=X.M.bounds y
  rw [e] at e2
  cases e2
theorem zdw.noneM (X:zdw CB CT CW T0 T1 T3 T4 H w td sd z r hs sil pool T dx ks ad G){q:Addr}(e:H q=none):¬ Om td sd z.toNat hs T dx.2.1 ks ad q:=fun y=>by
 rcases y with y | y
 ·exact X.X.W.notOwn e y
 ·obtain ⟨d,e2⟩:=X.M.bounds y
  rw [e] at e2
  cases e2
theorem zh0.deed (Y:zh0 H sh hs la S)(a:∀ q,Ng sh hs la q->¬ O q)(hT:∀ q xs,H q=some (.tup xs)->¬ O q)(d:Kl H H3 O O'):zh0 H3 sh hs la S/\∀ q,Ng sh hs la q->¬ O' q:=by
 refine ⟨Y.keep fun q o ho e=>?_,fun q y h=>?_⟩
 ·rcases ho with y | ⟨xs,rfl⟩
  ·obtain ⟨x,e2⟩:=Y.bounds y
   rw [e2] at e
   cases e
   exact d.k q _ trivial e2 (a q y)
  ·exact d.k q _ trivial e (hT q xs e)
 ·obtain ⟨x,e2⟩:=Y.bounds y
  rcases d.o q h with z | z
  ·exact a q y z
  ·rw [e2] at z
   cases z
end
def zx6 (K:W.Frag):Sp:=fun vs H Q _=>∃ (a:Addr) (ns:List Int) (k:Int),vs=[.ref a,.int k]/\SqL K H a (ns.map V.int)/\0<=k/\∀ c:Int,Q (.int c) H
theorem eqT {a b:Int}(c:decide (V.int a=V.int b)=true):a=b:=V.int.inj (of_decide_eq_true c)
theorem eqF {a b:Int}(c:¬ decide (V.int a=V.int b)=true):¬ a=b:=fun y=>c (decide_eq_true (congrArg V.int y))
def zmy (c k:Int):Int:=(((c % 2147483629+48271 * (k+1)) % 2147483647 * ((c % 2147483629+48271 * (k+1)) % 2147483647)+69621 * k+7) % 2147483587) * (((c % 2147483629+48271 * (k+1)) % 2147483647 * ((c % 2147483629+48271 * (k+1)) % 2147483647)+69621 * k+7) % 2147483587) % 2147483579
def zrf (c k:Int)(b:Bool):Int:=if b=true then c % 10 ^ 60 else (zmy (c % 10 ^ 60) k * 2147483629+zmy (c % 10 ^ 60) (k+64)) * 2147483629+zmy (c % 10 ^ 60) (k+128)
def zmg (x z b:Int):Int:=if x / (1 * 2 ^ z.toNat) % 2=1 then Builtin.bitXor b (x % 16) % (1 * 2 ^ z.toNat) else x % (1 * 2 ^ z.toNat)
def z02:Sp:=fun vs H Q _=>∃ (c k:Int) (b:Bool),vs=[.int c,.int k,.bl b]/\Q (.int (zrf c k b)) H
def zzh (K:W.Frag):Sp:=fun vs H Q _=>∃ (a:Addr) (ss:List Int),vs=[.ref a]/\SqL K H a (ss.map V.int)/\∀ (p:Addr) (z r:Int) (b:Bool) (H':Hp),1<=z->z<=60->1<=r->r<=8->zau H H'->H' p=some (.tup [.int z,.int r,.bl b])->Q (.ref p) H'
def z0u:Sp:=fun vs H Q _=>∃ x z b:Int,vs=[.int x,.int z,.int b]/\1<=z/\z<=60/\(0<=zmg x z b->zmg x z b<2 ^ z.toNat->Q (.int (zmg x z b)) H)
theorem zzr {z:Int}(h1:1<=z)(h2:z<=60):(0:Int)<1 * 2 ^ z.toNat/\(1:Int) * 2 ^ z.toNat<=2 ^ 60:=by
 have a:(2 ^ z.toNat:Nat)<=2 ^ 60:=Nat.pow_le_pow_right (by decide) (by omega)
 have b:=ziu z.toNat
 have e1:((2 ^ z.toNat:Nat):Int)=2 ^ z.toNat:=by simp
 have e2:((2 ^ 60:Nat):Int)=2 ^ 60:=by simp
 omega
theorem zsl (x:Int):∃ z,1<=z/\z<=60/\atI [V.int 3,V.int 4,V.int 5,V.int 6,V.int 8,V.int 60] (x % 6)=some (V.int z):=by
 have h:x % 6=0\/x % 6=1\/x % 6=2\/x % 6=3\/x % 6=4\/x % 6=5:=by omega
 rcases h with h | h | h | h | h | h <;> rw [h]
 ·exact ⟨3,by decide,by decide,rfl⟩
 ·exact ⟨4,by decide,by decide,rfl⟩
 ·exact ⟨5,by decide,by decide,rfl⟩
 ·exact ⟨6,by decide,by decide,rfl⟩
 ·exact ⟨8,by decide,by decide,rfl⟩
 ·exact ⟨60,by decide,by decide,rfl⟩
theorem ztm (x:Int):∃ r,1<=r/\r<=8/\atI [V.int 1,V.int 2,V.int 2,V.int 3,V.int 8] (x / 6 % 5)=some (V.int r):=by
 have h:x / 6 % 5=0\/x / 6 % 5=1\/x / 6 % 5=2\/x / 6 % 5=3\/x / 6 % 5=4:=by omega
 rcases h with h | h | h | h | h <;> rw [h]
 ·exact ⟨1,by decide,by decide,rfl⟩
 ·exact ⟨2,by decide,by decide,rfl⟩
 ·exact ⟨2,by decide,by decide,rfl⟩
 ·exact ⟨3,by decide,by decide,rfl⟩
 ·exact ⟨8,by decide,by decide,rfl⟩
theorem zn5:zal ["_law_script","_law_k"] ["_law_script","_law_k"] (zai (top 29)):=fS
theorem zil (Z:ZZ P w K mg base):zj2 Z 1 Z.c0 (zx6 K):=by
 refine Z.c0.fn.ok zn5 (by kd_p) (fun cdv A outer s H vs Q E hr h=>?_)
 obtain ⟨a,ns,i,rfl,hS,hi,k⟩:=h
 refine ⟨_,(zad (zbw (zaz zty (pv 1) (za2 zbz rfl Z.da.n_len zi_ (zaa (pv 0) zag)) (zbb _))
   (zah (zas (zfw zey (pv 0) (pv 1) (fun _ _=>rfl))))
   zay)
  (zah (zas zan))),?_⟩
 kt_k
 refine z2s (fun c=>?_) (fun c=>?_)
 ·have c':=of_decide_eq_true c
  rw [fj] at c'
  have b:i.toNat<ns.length:=by omega
  have d:atI (ns.map V.int) i=some (V.int ns[i.toNat]):=by
   have e:((i.toNat:Nat):Int)=i:=by omega
   have z:=zlo (xs:=ns.map V.int) (j:=i.toNat) (v:=V.int ns[i.toNat]) (by simp [b])
   rwa [e] at z
  kt_k
  exact k _
 ·exact k 0
def zwn:Sp:=fun vs H Q _=>∃ c k:Int,vs=[.int c,.int k]/\Q (.int (zmy c k)) H
theorem zj0:zal ["_law_cell","_law_k","_law_number"] ["_law_cell","_law_k"] (zai (top 30)):=fS
theorem zmm (Z:ZZ P w K mg base):zj2 Z 1 Z.c1 zwn:=by
 refine Z.c1.fn.ok zj0 (by kd_p) (fun cdv A outer s H vs Q E hr h=>?_)
 obtain ⟨c,i,rfl,k⟩:=h
 refine ⟨_,(zad (zax (i:=2) zj0.nd rfl oL (za0 zci (za0 zei (za0 zci (pv 0) zan) (za0 zku zan (za0 zei (pv 1) zan))) zan))
  (zad (zax (i:=2) zj0.nd rfl oL (za0 zci (za0 zei (za0 zei (za0 zku (pv 2) (pv 2)) (za0 zku zan (pv 1))) zan) zan))
  (zah (zas (za0 zci (za0 zku (pv 2) (pv 2)) zan))))),?_⟩
 kt_k
theorem zlp:zal ["_law_cell","_law_k","_law_plain","_law_number"] ["_law_cell","_law_k","_law_plain"] (zai (top 31)):=fS
theorem zv4 (Z:ZZ P w K mg base):zj2 Z 2 Z.c2 z02:=by
 have a:=zmm Z
 refine Z.c2.fn.ok zlp (by kd_p) (fun cdv A outer s H vs Q E hr h=>?_)
 obtain ⟨c,i,b,rfl,k⟩:=h
 refine ⟨_,(zad (zax (i:=0) zlp.nd rfl oL (za0 zci (pv 0) (za0 z0z zan zan)))
  (zad (zbw (zcm (pv 2))
   (zah (zas (pv 0)))
   zay)
  (zad (zax (i:=3) zlp.nd rfl oL (za0 zei (za0 zku (pfD Z.c1 a hr rfl (zaa (pv 0) (zaa (pv 1) zag))) zan) (pfD Z.c1 a hr rfl (zaa (pv 0) (zaa (za0 zei (pv 1) zan) zag)))))
  (zah (zas (za0 zei (za0 zku (pv 3) zan) (pfD Z.c1 a hr rfl (zaa (pv 0) (zaa (za0 zei (pv 1) zan) zag))))))))),?_⟩
 kt_k
 unfold zrf at k
 refine z2s (fun c=>?_) (fun c=>?_)
 ·rw [if_pos c] at k
  kt_k
 ·rw [if_neg c] at k
  kt_k
theorem zm9:zal ["_law_script","_law_x"] ["_law_script"] (zai (top 32)):=fS
theorem zsb (Z:ZZ P w K mg base):zj2 Z 2 Z.c3 (zzh K):=by
 have l:=zmm Z
 have p:=zil Z
 refine Z.c3.fn.ok zm9 (by kd_p) (fun cdv A outer s H vs Q E hr h=>?_)
 obtain ⟨a,ss,rfl,hS,k⟩:=h
 refine ⟨_,(zad (zax (i:=1) zm9.nd rfl oL (pfD Z.c1 l hr rfl (zaa (pfD Z.c0 p hr rfl (zaa (pv 0) (zaa zan zag))) (zaa zan zag))))
  (zah (zas (zi0 (zaa (zfw zey (zcn (zaa zan (zaa zan (zaa zan (zaa zan (zaa zan (zaa zan zag))))))) (za0 zci (pv 1) zan) (fun _ _=>rfl)) (zaa (zfw zey (zcn (zaa zan (zaa zan (zaa zan (zaa zan (zaa zan zag)))))) (za0 zci (za0 zdj (pv 1) zan) zan) (fun _ _=>rfl)) (zaa (zl7 zmc (za0 zci (za0 zdj (pv 1) zan) zan) zan (zbb _)) zag))))))),?_⟩
 kt_k
 intro c
 kt_k
 generalize zmy c 0=x
 obtain ⟨z,m,f,az⟩:=zsl x
 obtain ⟨r,n,g,ar⟩:=ztm x
 kt_k
 intro p1 o
 generalize b:upd H p1 _=H1
 obtain ⟨s1,e1⟩:=nw o b
 clear b
 kt_k
 intro p2 e
 generalize d:upd H1 p2 _=H2
 obtain ⟨s2,e2⟩:=nw e d
 clear d
 kt_k
 intro p3 j
 exact k p3 z r _ _ m f n g ((s1.trans s2).lay j) zac
theorem zp2:zal ["_law_x","_law_wide","_law_base","_law_many"] ["_law_x","_law_wide","_law_base"] (zai (top 33)):=fS
theorem zpc (Z:ZZ P w K mg base):zj2 Z 1 Z.c4 z0u:=by
 refine Z.c4.fn.ok zp2 (by kd_p) (fun cdv A outer s H vs Q E hr h=>?_)
 obtain ⟨x,z,b,rfl,d,a,k⟩:=h
 obtain ⟨q1,q2⟩:=zzr d a
 have em:∀ y:Int,0<=y % (1 * 2 ^ z.toNat)/\y % (1 * 2 ^ z.toNat)<2 ^ z.toNat:=fun y=>by
  have a1:=Int.emod_nonneg y (Int.ne_of_gt q1)
  have a2:=Int.emod_lt_of_pos y q1
  exact ⟨a1,by rw [Int.one_mul] at a2 |-; exact a2⟩
 refine ⟨_,(zad (zax (i:=3) zp2.nd rfl oL (za0 ztv zan (pv 1)))
  (zad (zbw (zaz zmc (za0 zci (za0 zdj (pv 0) (pv 3)) zan) zan (zbb _))
   (zah (zas (za0 zci (za0 zru (pv 2) (za0 zci (pv 0) zan)) (pv 3))))
   zay)
  (zah (zas (za0 zci (pv 0) (pv 3)))))),?_⟩
 unfold zmg at k
 kt_k
 refine z2s (fun c=>?_) (fun c=>?_)
 ·rw [if_pos (eqT c)] at k
  kt_k
  exact k (em _).1 (em _).2
 ·rw [if_neg (eqF c)] at k
  kt_k
  exact k (em _).1 (em _).2
theorem zyb {h:Int}{ks:List Int}(hn:ks.Nodup):(zmf h ks).Nodup:=by
 unfold zmf
 exact ((zam ks).nodup_iff.mpr hn).sublist ip
section
variable {CB CT CW T0 T1 T3 T4:Addr} {H H3:Hp} {w td sd:Addr} {z r:Int} {hs sil pool:List Int} {T:Int->zbk} {dx:Addr × Addr × Int} {ks:List Int} {ad:Int->Addr} {G:Int->List (Int × Th)}
theorem zdw.kl_dicts {hs' sil':List Int}(X:zdw CB CT CW T0 T1 T3 T4 H w td sd z r hs sil pool T dx ks ad G)(hm:∀ x∈hs',x∈hs)(W3:zak CB CT CW H3 w td sd z r hs' sil' T)(k3:∀ q o,H q=some o->q≠td->q≠sd->H3 q=some o):Kl H H3 (Om td sd z.toNat hs T dx.2.1 ks ad) (Om td sd z.toNat hs' T dx.2.1 ks ad):=by
 refine ⟨fun q o _ e hn=>k3 q o e (fun y=>hn (.inl (.inl y))) (fun y=>hn (.inl (.inr (.inl y)))),fun q y=> .inl ?_,fun q e=>?_⟩
 ·rcases y with y | y
  ·rcases y with y | y | ⟨h,hh,y⟩
   ·exact .inl (.inl y)
   ·exact .inl (.inr (.inl y))
   ·exact .inl (.inr (.inr ⟨h,hm h hh,y⟩))
  ·exact .inr y
 ·cases eq:H q with
  | none=>rfl
  | some o =>
   by_cases y:q=td
   ·rw [y,W3.tb] at e
    cases e
   ·by_cases y2:q=sd
    ·rw [y2,W3.si] at e
     cases e
    ·rw [k3 q o eq y y2] at e
     cases e
end
structure TwS where
 hs:List Int
 sil:List Int
 pool:List Int
 N:Int->Nat->List Int
noncomputable def z2a (h:Int) (E:Int->Int->Prop) (d:Int):List Int:=zmf h (Classical.epsilon fun ks:List Int=>ks.Nodup/\∀ x,x∈ks↔Rch E d x)
theorem zxo {h d:Int}{E:Int->Int->Prop}{ks:List Int}(h1:ks.Nodup)(h2:∀ x,x∈ks↔Rch E d x):zmf h ks=z2a h E d:=by
 have e:=Classical.epsilon_spec (p:=fun ks:List Int=>ks.Nodup/\∀ x,x∈ks↔Rch E d x) ⟨ks,h1,h2⟩
 unfold z2a zmf
 rw [zpj (zyc h1 e.1 fun x=>by rw [h2,e.2])]
noncomputable def z3d (tl:Int->Option (List Int)) (i g:Int) (rm:Nat):List Int:=Classical.epsilon fun rest:List Int=>Row tl i g rm (i :: rest)/\zdz tl i g rm (i :: rest)=none
theorem zsg {tl:Int->Option (List Int)}{i g:Int}{rm:Nat}{rest:List Int}(h1:Row tl i g rm (i :: rest))(h2:zdz tl i g rm (i :: rest)=none):rest=z3d tl i g rm:=by
 have e:=Classical.epsilon_spec (p:=fun rest:List Int=>Row tl i g rm (i :: rest)/\zdz tl i g rm (i :: rest)=none) ⟨rest,h1,h2⟩
 exact (List.cons.inj (h1.det e.1 h2 e.2)).2
def zle (l:List Int)(c:Int):Int:=match atI (l.map V.int) (c % (((l.map V.int).length:Nat):Int)) with | some (.int h)=>h | _=>0
theorem zzn {l:List Int}{c:Int}(h0:l≠[]):zle l c∈l/\atI (l.map V.int) (c % (((l.map V.int).length:Nat):Int))=some (V.int (zle l c)):=by
 obtain ⟨h,h1,h2⟩:=zml (c:=c) h0
 have e:zle l c=h:=by
  unfold zle
  rw [h2]
 rw [e]
 exact ⟨h1,h2⟩
noncomputable def zo7 (z r n:Int) (dv:Option Int) (s:TwS):TwS:=⟨s.hs++[n],s.sil,s.pool++[n],zc6 r (awB (s.hs++[n]) s.sil) (zq3 s.N n) n (match dv with | none=>[] | some d=>z2a n (zwy z.toNat (awB (s.hs++[n]) s.sil) (zq3 s.N n)) d)⟩
noncomputable def zy3 (z r h g:Int) (s:TwS):TwS:=⟨s.hs,s.sil,s.pool,zdq r (awB s.hs s.sil) (fun i=>za9 z r s.hs s.sil s.N g i h) s.N h (z3d (fun i=>za9 z r s.hs s.sil s.N g i h) h g r.toNat)⟩
noncomputable def zgb (z r mo x b:Int) (s:TwS):TwS :=
 if zmg x z b∈s.hs\/¬ ((s.hs.length:Nat):Int)<mo then s else zo7 z r (zmg x z b) (if zdn s.hs s.sil=[] then none else some (zle (zdn s.hs s.sil) (x / 2 / (1 * 2 ^ z.toNat)))) s
structure Km (w:Addr)(H H':Hp)(O O':Addr->Prop):Prop where
 k:∀ q o,(∀ ps,o≠ .tbl ps)->H q=some o->¬ O q->q≠w->H' q=some o
 o:∀ q,O' q->O q\/H q=none
 e:∀ q,H' q=none->H q=none
theorem Km.trans {w:Addr}{H H1 H':Hp}{O O1 O':Addr->Prop}(a:Km w H H1 O O1)(b:Km w H1 H' O1 O'):Km w H H' O O':=by
 refine ⟨fun q o ho e hn hw=>b.k q o ho (a.k q o ho e hn hw) (fun y=>?_) hw,fun q y=>?_,fun q y=>a.e q (b.e q y)⟩
 ·rcases a.o q y with z | z
  ·exact hn z
  ·rw [e] at z
   cases z
 ·rcases b.o q y with z | z
  ·exact a.o q z
  ·exact .inr (a.e q z)
theorem Km.same {w:Addr}{H H':Hp}{O:Addr->Prop}(s:zau H H'):Km w H H' O O:=⟨fun q o _ e _ _=>s _ _ e,fun _ y=> .inl y,fun _ e=>s.free e⟩
theorem Km.kl {w:Addr}{H H':Hp}{O O':Addr->Prop}(d:Km w H H' O O'){C dx:Addr}{fs:List (Str × V)}(h:H w=some (.ins C dx fs)):Kl H H' O O':=⟨fun q o ho e hn=>d.k q o ho.nt e hn (fun y=>by
 rw [y,h] at e
 cases e
 exact ho),d.o,d.e⟩
theorem zak.insOff {CB CT CW w td sd:Addr}{H:Hp}{z r:Int}{hs sil:List Int}{T:Int->zbk}(W:zak CB CT CW H w td sd z r hs sil T){q C dx:Addr}{fs:List (Str × V)}(e:H q=some (.ins C dx fs))(hf:fs.length≠2):¬ Own td sd z.toNat hs T q:=fun y=>by
 rcases y with rfl | rfl | ⟨g,hg,rfl | ⟨j,hj,rfl | rfl⟩⟩
 ·rw [W.tb] at e
  cases e
 ·rw [W.si] at e
  cases e
 ·rw [(W.ta g hg).li] at e
  cases e
 ·obtain ⟨⟨d,e1⟩,_⟩:=(W.ta g hg).bk j hj
  rw [e1] at e
  cases e
  exact hf rfl
 ·rw [((W.ta g hg).bk j hj).li] at e
  cases e
section
variable {CB CT CW T0 T1 T3 T4:Addr} {H H':Hp} {w td sd v ud vd:Addr} {z r:Int} {hs sil pool hs' sil' pool' hs2 sil2 pool2:List Int} {T T' U:Int->zbk} {dx dx' dy:Addr × Addr × Int} {ks ks' lk:List Int} {ad ad' bd:Int->Addr} {G G' B:Int->List (Int × Th)}
theorem zdw.insM (X:zdw CB CT CW T0 T1 T3 T4 H w td sd z r hs sil pool T dx ks ad G){q C d:Addr}{fs:List (Str × V)}(e:H q=some (.ins C d fs))(hf:fs.length≠2):¬ Om td sd z.toNat hs T dx.2.1 ks ad q:=fun y=>by
 rcases y with y | y
 ·exact X.X.W.insOff e hf y
 ·obtain ⟨d,e2⟩:=X.M.bounds y
  rw [e] at e2
  cases e2
theorem zdw.beside (X:zdw CB CT CW T0 T1 T3 T4 H w td sd z r hs sil pool T dx ks ad G)(Y:zdw CB CT CW T0 T1 T3 T4 H v ud vd z r hs2 sil2 pool2 U dy lk bd B){td' sd':Addr}(X':zdw CB CT CW T0 T1 T3 T4 H' w td' sd' z r hs' sil' pool' T' dx' ks' ad' G')(d:Km w H H' (Om td sd z.toNat hs T dx.2.1 ks ad) (Om td' sd' z.toNat hs' T' dx'.2.1 ks' ad'))(sp:∀ q,Om td sd z.toNat hs T dx.2.1 ks ad q->¬ Om ud vd z.toNat hs2 U dy.2.1 lk bd q)(vw:v≠w) :
  zdw CB CT CW T0 T1 T3 T4 H' v ud vd z r hs2 sil2 pool2 U dy lk bd B/\∀ q,Om td' sd' z.toNat hs' T' dx'.2.1 ks' ad' q->¬ Om ud vd z.toNat hs2 U dy.2.1 lk bd q:=by
 have a:∀ {q:Addr},Om ud vd z.toNat hs2 U dy.2.1 lk bd q->¬ Om td sd z.toNat hs T dx.2.1 ks ad q:=fun y y2=>sp _ y2 y
 have nw:∀ {q:Addr} {o:HO},H q=some o->(∀ C d fs,o = .ins C d fs->fs.length≠6)->q≠w:=fun {q o} e h y=>by
  rw [y,X.ob] at e
  exact h _ _ _ (Option.some.inj e).symm rfl
 have kk:∀ {q:Addr} {x:HO},H q=some x->(∀ ps,x≠ .tbl ps)->¬ Om td sd z.toNat hs T dx.2.1 ks ad q->q≠w->∀ o,H q=some o->H' q=some o:=fun {q x} hx hn hq hw o e=>d.k q o (fun ps y=>hn ps ((Option.some.inj (hx.symm.trans e)).trans y)) e hq hw
 have W2:zak CB CT CW H' v ud vd z r hs2 sil2 U:=by
  obtain ⟨⟨dx,h1⟩,h2,h3,h4,h5,h6,h7,h8,h9,f,b,c⟩:=Y.X.W
  refine ⟨⟨dx,kk h1 (fun _ z=>nomatch z) (X.insM h1 (show (6:Nat)≠2 by decide)) vw _ h1⟩,kk h2 (fun _ z=>nomatch z) (a (.inl (.inl rfl))) (nw h2 fun _ _ _ z=>nomatch z) _ h2,kk h3 (fun _ z=>nomatch z) (a (.inl (.inr (.inl rfl)))) (nw h3 fun _ _ _ z=>nomatch z) _ h3,fun g hg=>?_,h5,h6,h7,h8,h9,f,b,c⟩
  have Tg:=h4 g hg
  obtain ⟨dt,e1⟩:=Tg.ob
  refine Tg.only (kk e1 (fun _ z=>nomatch z) (X.insM e1 (show (4:Nat)≠2 by decide)) (nw e1 fun C d fs y=>by cases y; exact (show (4:Nat)≠6 by decide))) (kk Tg.li (fun _ z=>nomatch z) (a (.inl (.inr (.inr ⟨g,hg,.inl rfl⟩)))) (nw Tg.li fun _ _ _ z=>nomatch z)) (fun j hj=>?_) fun j hj=>kk (Tg.bk j hj).li (fun _ z=>nomatch z) (a (.inl (.inr (.inr ⟨g,hg,.inr ⟨j,hj,.inr rfl⟩⟩)))) (nw (Tg.bk j hj).li fun _ _ _ z=>nomatch z)
  obtain ⟨⟨d,e2⟩,_⟩:=Tg.bk j hj
  exact kk e2 (fun _ z=>nomatch z) (a (.inl (.inr (.inr ⟨g,hg,.inr ⟨j,hj,.inl rfl⟩⟩)))) (nw e2 fun C d fs y=>by cases y; exact (show (2:Nat)≠6 by decide))
 refine ⟨⟨⟨W2,Y.X.A,Y.X.O,Y.X.pq,Y.X.pb,Y.X.sm,Y.X.sn,Y.X.n12,X'.X.t0,X'.X.t1,X'.X.t3⟩,d.k _ _ (fun _ z=>nomatch z) Y.ob (X.insM Y.ob (show (6:Nat)≠2 by decide)) vw,Y.M.keep fun q o ho e=>?_,Y.dj,X'.t4,Y.kb,Y.gh,Y.gn,Y.un,Y.lt⟩,fun q y y2=>?_⟩
 ·rcases ho with y | ⟨j,hj,y⟩ | ⟨xs,y⟩
  ·have e2:=Y.M.tg
   rw [y] at e |-
   exact kk e2 (fun _ z=>nomatch z) (a (.inr (.inl rfl))) (nw e2 fun _ _ _ z=>nomatch z) _ e
  ·have e2:=Y.M.it j hj
   rw [y] at e |-
   exact kk e2 (fun _ z=>nomatch z) (a (.inr (.inr ⟨j,hj,rfl⟩))) (nw e2 fun _ _ _ z=>nomatch z) _ e
  ·subst y
   exact d.k _ _ (fun _ z=>nomatch z) e (X.tupM e) (nw e fun _ _ _ z=>nomatch z)
 ·rcases d.o q y with z | z
  ·exact sp q z y2
  ·exact Y.noneM z y2
end
structure MD where
 td:Addr
 sd:Addr
 T:Int->zbk
 dx:Addr × Addr × Int
 ks:List Int
 ad:Int->Addr
 G:Int->List (Int × Th)
def MD.O (m:MD)(z:Int)(hs:List Int):Addr->Prop:=Om m.td m.sd z.toNat hs m.T m.dx.2.1 m.ks m.ad
structure MS (CB CT CW T0 T1 T3 T4:Addr)(H:Hp)(w:Addr)(z r:Int)(s:TwS)(m:MD):Prop where
 X:zdw CB CT CW T0 T1 T3 T4 H w m.td m.sd z r s.hs s.sil s.pool m.T m.dx m.ks m.ad m.G
 n:(fun g=>(m.T g).ns)=s.N
structure Tw (CB CT CW T0 T1 T3 T4:Addr)(H:Hp)(w v:Addr)(z r:Int)(s:TwS)(m p:MD):Prop where
 a:MS CB CT CW T0 T1 T3 T4 H w z r s m
 b:MS CB CT CW T0 T1 T3 T4 H v z r s p
 sp:∀ q,m.O z s.hs q->¬ p.O z s.hs q
 vw:v≠w
section
variable {CB CT CW T0 T1 T3 T4:Addr} {H H1 H3 H4:Hp} {w v:Addr} {z r:Int} {s s':TwS} {m m' p p':MD}
theorem MS.same (X:MS CB CT CW T0 T1 T3 T4 H w z r s m)(h:zau H H1):MS CB CT CW T0 T1 T3 T4 H1 w z r s m:=⟨X.X.same h,X.n⟩
theorem Tw.same (X:Tw CB CT CW T0 T1 T3 T4 H w v z r s m p)(h:zau H H1):Tw CB CT CW T0 T1 T3 T4 H1 w v z r s m p:=⟨X.a.same h,X.b.same h,X.sp,X.vw⟩
structure Tw1 (CB CT CW T0 T1 T3 T4:Addr)(H:Hp)(w v:Addr)(z r:Int)(s s':TwS)(m p:MD):Prop where
 a:MS CB CT CW T0 T1 T3 T4 H w z r s' m
 b:MS CB CT CW T0 T1 T3 T4 H v z r s p
 sp:∀ q,m.O z s'.hs q->¬ p.O z s.hs q
 vw:v≠w
theorem Tw.first (X:Tw CB CT CW T0 T1 T3 T4 H w v z r s m p)(A:MS CB CT CW T0 T1 T3 T4 H1 w z r s' m')(d:Km w H H1 (m.O z s.hs) (m'.O z s'.hs)):Tw1 CB CT CW T0 T1 T3 T4 H1 w v z r s s' m' p/\Kl H H1 (fun q=>m.O z s.hs q\/p.O z s.hs q) (fun q=>m'.O z s'.hs q\/p.O z s.hs q):=by
 obtain ⟨B1,c⟩:=X.a.X.beside X.b.X A.X d X.sp X.vw
 have kl:=d.kl X.a.X.ob
 exact ⟨⟨A,⟨B1,X.b.n⟩,c,X.vw⟩,fun q o ho e hn=>kl.k q o ho e fun y=>hn (.inl y),fun q y=>y.elim (fun y=>(d.o q y).imp .inl id) fun y=> .inl (.inr y),d.e⟩
theorem Tw1.second (X:Tw1 CB CT CW T0 T1 T3 T4 H w v z r s s' m p)(B:MS CB CT CW T0 T1 T3 T4 H1 v z r s' p')(d:Km v H H1 (p.O z s.hs) (p'.O z s'.hs)):Tw CB CT CW T0 T1 T3 T4 H1 w v z r s' m p'/\Kl H H1 (fun q=>m.O z s'.hs q\/p.O z s.hs q) (fun q=>m.O z s'.hs q\/p'.O z s'.hs q):=by
 obtain ⟨A1,c⟩:=X.b.X.beside X.a.X B.X d (fun q y y2=>X.sp q y2 y) X.vw.symm
 have kl:=d.kl X.b.X.ob
 exact ⟨⟨⟨A1,X.a.n⟩,B,fun q y y2=>c q y2 y,X.vw⟩,fun q o ho e hn=>kl.k q o ho e fun y=>hn (.inr y),fun q y=>y.elim (fun y=> .inl (.inl y)) fun y=>(d.o q y).imp .inr id,d.e⟩
theorem MS.hush (X:MS CB CT CW T0 T1 T3 T4 H w z r s m){h:Int}(hh:h∈s.hs)(W3:zak CB CT CW H3 w m.td m.sd z r s.hs (zcx h s.sil) m.T)(k3:∀ q o,H q=some o->q≠m.td->q≠m.sd->H3 q=some o):MS CB CT CW T0 T1 T3 T4 H3 w z r ⟨s.hs,zcx h s.sil,s.pool,s.N⟩ m/\Km w H H3 (m.O z s.hs) (m.O z s.hs):=by
 have kl:=X.X.kl_dicts (fun x hx=>hx) W3 k3
 exact ⟨⟨X.X.hushed hh W3 k3,X.n⟩,fun q o _ e hn _=>k3 q o e (fun y=>hn (.inl (.inl y))) (fun y=>hn (.inl (.inr (.inl y)))),fun q y=> .inl y,kl.e⟩
theorem MS.ask (X:MS CB CT CW T0 T1 T3 T4 H w z r s m)(hp:s.pool.length<=60)(n0:T0≠T4)(n1:T1≠T4)(n3:T3≠T4){i g:Int}{rest:List Int}{T':Int->zbk}(hi:i∈s.hs)(hR:Row (fun h=>za9 z r s.hs s.sil (fun h=>(m.T h).ns) g h i) i g r.toNat (i :: rest))(hx:zdz (fun h=>za9 z r s.hs s.sil (fun h=>(m.T h).ns) g h i) i g r.toNat (i :: rest)=none)(W3:zak CB CT CW H3 w m.td m.sd z r s.hs s.sil T')(A3:zbv z.toNat s.hs T')
  (e3:(fun g=>(T' g).ns)=zdq r (awB s.hs s.sil) (fun h=>za9 z r s.hs s.sil (fun h=>(m.T h).ns) g h i) (fun h=>(m.T h).ns) i rest)(d3:zz7 T0 T1 T3 H H3 (Own m.td m.sd z.toNat s.hs m.T) (Own m.td m.sd z.toNat s.hs T')):MS CB CT CW T0 T1 T3 T4 H3 w z r (zy3 z r i g s) ⟨m.td,m.sd,T',m.dx,m.ks,m.ad,m.G⟩/\Km w H H3 (m.O z s.hs) (Om m.td m.sd z.toNat s.hs T' m.dx.2.1 m.ks m.ad):=by
 have q:=Mq.asked (gd:=m.dx.2.1) (ks:=m.ks) (ad:=m.ad) X.X.X.W n0 n1 n3 X.X.t4 d3
 refine ⟨⟨X.X.asked n0 n1 n3 hp hi hR W3 A3 e3 d3,?_⟩,fun _ _ ho e hn _=>q.k _ _ ho e hn,q.o,q.e⟩
 rw [zsg hR hx] at e3
 rw [X.n] at e3
 exact e3
theorem MS.go (X:MS CB CT CW T0 T1 T3 T4 H w z r s m){h:Int}(W3:zak CB CT CW H3 w m.td m.sd z r (zef h s.hs) (zef h s.sil) m.T)(k3:∀ q o,H q=some o->q≠m.td->q≠m.sd->H3 q=some o)(M4:zb_ H4 m.dx.2.1 m.ks m.ad (fun k=>zia (m.G k) h))(d4:∀ T1,zd0 T1 H3 H4 (Ng m.dx.2.1 m.ks m.ad) (Ng m.dx.2.1 m.ks m.ad)) :
  MS CB CT CW T0 T1 T3 T4 H4 w z r ⟨zef h s.hs,zef h s.sil,s.pool,s.N⟩ ⟨m.td,m.sd,m.T,m.dx,m.ks,m.ad,fun k=>zia (m.G k) h⟩/\Km w H H4 (m.O z s.hs) (m.O z (zef h s.hs)):=by
 have kl:=X.X.kl_dicts (fun x hx=>(zbt.mp hx).1) W3 k3
 have k1:Km w H H3 (m.O z s.hs) (m.O z (zef h s.hs)):=⟨fun q o _ e hn _=>k3 q o e (fun y=>hn (.inl (.inl y))) (fun y=>hn (.inl (.inr (.inl y)))),kl.o,kl.e⟩
 have k2:Km w H3 H4 (m.O z (zef h s.hs)) (m.O z (zef h s.hs)):=⟨fun q o ho e hn _=>(d4 0).k q o ho e fun y=>hn (.inr y),fun q y=> .inl y,(d4 0).e⟩
 exact ⟨⟨X.X.gone W3 k3 M4 d4,X.n⟩,k1.trans k2⟩
theorem MS.come (X:MS CB CT CW T0 T1 T3 T4 H w z r s m)(hk:m.ks=[])(n0:T0≠T3)(n1:T1≠T3)(n4:T4≠T3)(n14:T1≠T4)(n34:T3≠T4)(n01:T0≠T1){n:Int}(h12:s.hs.length<12)(hn0:0<=n)(hn1:n<2 ^ z.toNat){dv:V}{od:Option Int}(hd:(dv = .non/\od=none)\/∃ d,dv = .int d/\od=some d/\d∈s.hs){vis:List Int}{T':Int->zbk}{G':Int->List (Int × Th)}
  (a1:dv = .non->vis=[])(a2:∀ d,dv = .int d->∃ ks:List Int,ks.Nodup/\(∀ x,x∈ks↔Rch (zwy z.toNat (awB (s.hs++[n]) s.sil) (zq3 (fun g=>(m.T g).ns) n)) d x)/\vis=zmf n ks)
  (W3:zak CB CT CW H3 w m.td m.sd z r (s.hs++[n]) s.sil T')(A3:zbv z.toNat (s.hs++[n]) T')(e3:(fun g=>(T' g).ns)=zc6 r (awB (s.hs++[n]) s.sil) (zq3 (fun g=>(m.T g).ns) n) n vis)(d3:zd0 T3 H H3 (Own m.td m.sd z.toNat s.hs m.T) (Own m.td m.sd z.toNat (s.hs++[n]) T'))(t3:Tab H3 T3 (zap zdx) quH)(M4:zb_ H4 m.dx.2.1 m.ks m.ad G')(kw:Kw T0 T4 (Ng m.dx.2.1 m.ks m.ad) H3 H4) :
  MS CB CT CW T0 T1 T3 T4 H4 w z r (zo7 z r n od s) ⟨m.td,m.sd,T',m.dx,m.ks,m.ad,G'⟩/\Km w H H4 (m.O z s.hs) (Om m.td m.sd z.toNat (s.hs++[n]) T' m.dx.2.1 m.ks m.ad):=by
 have hv:(∀ x∈vis,x∈s.hs++[n]/\x≠n)/\zc6 r (awB (s.hs++[n]) s.sil) (zq3 s.N n) n vis=(zo7 z r n od s).N:=by
  rcases hd with ⟨rfl,rfl⟩ | ⟨d,rfl,rfl,hd⟩
  ·rw [a1 rfl]
   exact ⟨fun x hx=>(nomatch hx),rfl⟩
  ·obtain ⟨kk,b1,b2,rfl⟩:=a2 d rfl
   refine ⟨zw7 b2 (gg _ hd),?_⟩
   rw [zxo b1 b2,X.n]
   rfl
 have X3:=X.X.came n0 n1 n4 h12 ⟨hn0,hn1⟩ hv.1 W3 A3 e3 d3 t3
 have st:∀ k∈m.ks,zhg r n vis k (m.G k) (G' k):=fun k a=>by
  rw [hk] at a
  cases a
 have X4:=X3.settled n14 n34 n01 n0 (fh _ (fi.mpr rfl)) M4 st kw
 have kl:Km w H H3 (m.O z s.hs) (Om m.td m.sd z.toNat (s.hs++[n]) T' m.dx.2.1 m.ks m.ad):=⟨fun q o ho e hn _=>d3.k q o ho e fun y=>hn (.inl y),fun q y=>y.elim (fun y=>(d3.o q y).imp .inl id) fun y=> .inl (.inr y),d3.e⟩
 have k2:Km w H3 H4 (Om m.td m.sd z.toNat (s.hs++[n]) T' m.dx.2.1 m.ks m.ad) (Om m.td m.sd z.toNat (s.hs++[n]) T' m.dx.2.1 m.ks m.ad):=⟨fun q o ho e hn _=>kw.k q o (fun y=>by
  obtain ⟨ps,hp⟩:=za1 X3.X.t0
  rw [y,hp] at e
  exact ho ps (Option.some.inj e).symm) (fun y=>by
  obtain ⟨ps,hp⟩:=za1 X3.t4
  rw [y,hp] at e
  exact ho ps (Option.some.inj e).symm) (fun y=>hn (.inr y)) e,fun q y=> .inl y,kw.e⟩
 refine ⟨⟨X4,?_⟩,kl.trans k2⟩
 rw [X.n,hv.2] at e3
 exact e3
end
theorem zpd {z:Int}{hs sil:List Int}{N:Int->Nat->List Int}{n:Int}{dv:V}(hd:dv = .non\/∃ d,dv = .int d/\d∈hs){vis:List Int}(a1:dv = .non->vis=[])(a2:∀ d,dv = .int d->∃ ks:List Int,ks.Nodup/\(∀ x,x∈ks↔Rch (zwy z.toNat (awB (hs++[n]) sil) N) d x)/\vis=zmf n ks):(∀ x∈vis,x∈hs++[n]/\x≠n)/\vis.length<=hs.length+1:=by
 have hv:(∀ x∈vis,x∈hs++[n]/\x≠n)/\vis.Nodup:=by
  rcases hd with rfl | ⟨d,rfl,hd⟩
  ·rw [a1 rfl]
   exact ⟨fun x hx=>(nomatch hx),ii⟩
  ·obtain ⟨kk,b1,b2,rfl⟩:=a2 d rfl
   exact ⟨zw7 b2 (gg _ hd),zyb b1⟩
 refine ⟨hv.1,?_⟩
 have:=zbg hv.2 (b:=hs++[n]) fun x hx=>(hv.1 x hx).1
 rw [fm,fu] at this
 exact this
def MTo (CB CT CW T0 T1 T3 T4:Addr)(w:Addr)(z r:Int)(s:TwS)(m:MD)(F:TwS)(H:Hp)(Q:VK):Prop:=∀ (H':Hp) (m':MD),MS CB CT CW T0 T1 T3 T4 H' w z r F m'->m'.ks=m.ks->m'.dx=m.dx->Km w H H' (m.O z s.hs) (m'.O z F.hs)->Q .non H'
section
variable {CB CT CW T0 T1 T3 T4 w:Addr} {z r:Int} {s F:TwS} {m:MD} {H H1:Hp} {Q:VK}
theorem MTo.same (k:MTo CB CT CW T0 T1 T3 T4 w z r s m F H Q)(h:zau H H1):MTo CB CT CW T0 T1 T3 T4 w z r s m F H1 Q:=fun H' m' a b c d=>k H' m' a b c ((Km.same h).trans d)
theorem MTo.end (k:MTo CB CT CW T0 T1 T3 T4 w z r s m F H Q)(X:MS CB CT CW T0 T1 T3 T4 H w z r s m)(eF:F=s):Q .non H:=by
 subst eF
 exact k H m X rfl rfl (Km.same (zau.refl H))
end
def zye (CB CT CW T0 T1 T3 T4:Addr):Sp:=fun vs H Q _=>∀ CC:Prop,(∀ (w:Addr) (z r:Int) (s:TwS) (m:MD) (x b mo:Int),vs=[.ref w,.int x,.int b,.int mo]->MS CB CT CW T0 T1 T3 T4 H w z r s m->m.ks=[]->mo<=11->s.pool.length<60->(MTo CB CT CW T0 T1 T3 T4 w z r s m (zgb z r mo x b s) H Q)->CC)->CC
theorem zid:zal ["_law_town","_law_x","_law_base","_law_most","_law_live","_law_name_here"] ["_law_town","_law_x","_law_base","_law_most"] (zai (top 34)):=fS
theorem zur (Z:ZZ P w K mg base){T1:Addr}(n01:Z.bk.P≠T1)(n13:T1≠Z.b6.P)(n14:T1≠Z.ci.P):zj2 Z 13 Z.c5 (zye Z.ba.C Z.bb.C Z.bc.C Z.bk.P T1 Z.b6.P Z.ci.P):=by
 have b2:=Z.bc.cl
 obtain ⟨bj,bu,bp,bn,bv,b1,-⟩:=Z.bc.na
 have az:zdl P w K mg base CX0 11 _ _ _ _:=(zg4 Z).mono (by decide)
 have am:=zc2 (CB:=Z.ba.C) (CT:=Z.bb.C) Z
 have a8:=zem (CB:=Z.ba.C) (CT:=Z.bb.C) Z
 have ak:=zmt Z zjq az
 have ay:=zpc Z
 refine Z.c5.fn.ok zid (by kd_p) (fun cdv A outer s H vs Q E hr a5=>?_)
 refine a5 _ fun w z r a7 au x b mo a3 X af bl ah k=>?_
 subst a3
 obtain ⟨hs,sil,pool,N⟩:=a7
 obtain ⟨td,sd,TT,dx,ks,ad,G⟩:=au
 obtain rfl:_=N:=X.n
 dsimp only at af ah
 subst af
 generalize hF:zgb z r mo x b ⟨hs,sil,pool,fun g=>(TT g).ns⟩=F at k
 unfold zgb at hF
 dsimp only at hF
 have bf:=X.X.X.W.z1
 have ax:=X.X.X.W.z2
 have an:=X.X.X.W.r1
 obtain ⟨q1,q2⟩:=zzr bf ax
 have hW:=X.X.X.W
 have ae:=X.X.ob
 dsimp only at hW ae
 refine ⟨_,(zad (zax (i:=4) zid.nd rfl oL (zcd (pv 0) Z.bc.cl Z.b5.me a8 hr.mm Z.b5.b .nil zb5))
  (zad (zax (i:=5) zid.nd rfl oL (pfD Z.c4 ay hr rfl (zaa (pv 1) (zaa (zav (pv 0) rfl) (zaa (pv 2) zag)))))
  (zad (zax (i:=1) zid.nd rfl oL (za0 zdj (za0 zdj (pv 1) zan) (za0 ztv zan (zav (pv 0) rfl))))
  (zah (zbw (PW.pt (zr7 (zaz zfg (pv 5) (zcd (pv 0) Z.bc.cl Z.b0.me am hr.mm Z.b0.b .nil zb5) (by with_unfolding_all rfl)) (zog (zaz zty (za2 zbz rfl Z.da.n_len zi_ (zaa (zcd (pv 0) Z.bc.cl Z.b0.me am hr.mm Z.b0.b .nil zb5) zag)) (pv 3) (zbb _)))))
   (zah (zbw (zaz (z1y hr.units) (pv 4) (zcn zag) (zbb _))
    (zah (zat (ze0 (pv 0) Z.bc.cl Z.cc.me ak hr.mm Z.cc.bd (.cons (show zbp .non Value.none from rfl) .nil) zb5 (zaa (pv 5) zag))))
    (zah (zat (ze0 (pv 0) Z.bc.cl Z.cc.me ak hr.mm Z.cc.b .nil zb5 (zaa (pv 5) (zaa (zfw zey (pv 4) (za0 zci (pv 1) (za2 zbz rfl Z.da.n_len zi_ (zaa (pv 4) zag))) (fun _ _=>rfl)) zag)))))))
   zay))))),?_⟩
 kt_k
 intro al H1 s1 bg h
 have h:H1 al=some (.lst ((zdn hs sil).map V.int)):=h
 have X1:=X.same s1
 have k1:=k.same s1
 have aj:=X1.X.X.W
 have p:=X1.X.ob
 dsimp only at aj p
 clear k X hW s1 bg ae
 kt_k
 intro a f
 generalize zmg x z b=n at hF a f
 kt_k
 intro l1 ap
 generalize ag:upd H1 l1 _=H2
 obtain ⟨s2,e2⟩:=nw ap ag
 clear ag
 have bm:=zel (zaq hs)
 have X2:=X1.same s2
 have k2:=k1.same s2
 have be:=X2.X.X.W
 have v:=X2.X.ob
 dsimp only at be v
 have ab:=s2 _ _ h
 clear X1 k1 aj p s2
 kt_k
 rw [zin]
 by_cases o:n∈zaq hs
 ·rw [decide_eq_true o]
  kt_k
  exact k2.end X2 (hF.symm.trans (if_pos (.inl ((zam _).subset o))))
 ·rw [decide_eq_false o]
  kt_k
  intro l2 av
  generalize ac:upd H2 l2 _=H3
  obtain ⟨s3,e3⟩:=nw av ac
  clear ac
  have X3:=X2.same s3
  have k3:=k2.same s3
  have aa:=s3 _ _ ab
  clear X2 k2 s3
  kt_k
  rw [fj,zbh]
  by_cases h8:((hs.length:Nat):Int)<mo
  ·refine zpm h8 ?_
   have ar:n∉hs:=fun y=>o ((zam _).symm.subset y)
   have l:¬ (n∈hs\/¬ ((hs.length:Nat):Int)<mo):=fun y=>y.elim ar fun y=>y h8
   have bq:hs.length<60:=by omega
   have m:hs.length<12:=by omega
   kt_k
   intro e0 aw
   generalize ai:upd H3 e0 _=H4
   obtain ⟨s4,e4⟩:=nw aw ai
   replace e4:H4 e0=some (.lst (([]:List Int).map V.int)):=e4
   clear ai
   have X4:=X3.same s4
   have k4:=k3.same s4
   have bh:=s4 _ _ aa
   have a6:=X4.X.X.W
   have ao:=X4.X.X.A
   have bz:=X4.X.X.t3
   have u:=X4.X.ob
   have br:NOk (pool++[n]) z.toNat r hs (fun g=>(TT g).ns):=X4.X.X.O.pool fun x hx=>gg _ hx
   have b3:(pool++[n]).length<64:=by rw [fm,fu]; omega
   have bo:∀ x∈hs,x∈pool++[n]:=fun x hx=>gg _ (X4.X.X.pq x hx)
   have bt:n∈pool++[n]:=fh _ (fi.mpr rfl)
   dsimp only at a6 ao u
   kt_k
   by_cases e:zdn hs sil=[]
   ·refine zpm e ?_
    have a4:V.non=V.non\/∃ d,V.non=V.int d/\d∈hs/\d∉sil:= .inl rfl
    kt_k
    intro l5 j H5 T5 a1 a2 W5 A5 e5 d5 t5 _ _ f5
    obtain ⟨hv,aq⟩:=zpd (.inl rfl) a1 a2
    have X5:=X4.X.came Z.di n13 Z.dk.symm m ⟨a,f⟩ hv W5 A5 e5 d5 t5
    refine ⟨w,td,sd,z,r,dx,[],ad,G,n,l5,j,rfl,X5.ob,X5.M,f5,by omega,a,fun x hx=>(W5.hb x (hv x hx).1).1,by decide,fun x hx=>(nomatch hx),fun x=>gm (X5.len x) (by decide),an,X5.X.t0,X5.t4,fun H8 G8 M8 a9 q=>?_⟩
    obtain ⟨A8,d8⟩:=X4.come (od:=none) rfl Z.di n13 Z.dk.symm n14 Z.dk n01 m a f (.inl ⟨rfl,rfl⟩) a1 a2 W5 A5 e5 d5 t5 M8 q
    rw [show zo7 z r n none ⟨hs,sil,pool,fun g=>(TT g).ns⟩=F by rw [<- hF,if_neg l,if_pos e]] at A8
    kt_k
    refine k4 H8 _ A8 rfl rfl ?_
    rw [<- hF,if_neg l]
    exact d8
   ·refine zhh e ?_
    obtain ⟨hd,bw⟩:=zzn (c:=x / 2 / (1 * 2 ^ z.toNat)) e
    have bi:=zp8 e
    obtain ⟨t,a0⟩:=zfe.mp hd
    have a4:V.int (zle (zdn hs sil) (x / 2 / (1 * 2 ^ z.toNat)))=V.non\/∃ d',V.int (zle (zdn hs sil) (x / 2 / (1 * 2 ^ z.toNat)))=V.int d'/\d'∈hs/\d'∉sil:= .inr ⟨_,rfl,t,a0⟩
    kt_k
    intro l5 j H5 T5 a1 a2 W5 A5 e5 d5 t5 _ _ f5
    obtain ⟨hv,aq⟩:=zpd (.inr ⟨_,rfl,t⟩) a1 a2
    have X5:=X4.X.came Z.di n13 Z.dk.symm m ⟨a,f⟩ hv W5 A5 e5 d5 t5
    refine ⟨w,td,sd,z,r,dx,[],ad,G,n,l5,j,rfl,X5.ob,X5.M,f5,by omega,a,fun x hx=>(W5.hb x (hv x hx).1).1,by decide,fun x hx=>(nomatch hx),fun x=>gm (X5.len x) (by decide),an,X5.X.t0,X5.t4,fun H8 G8 M8 a9 q=>?_⟩
    obtain ⟨A8,d8⟩:=X4.come (od:=some (zle (zdn hs sil) (x / 2 / (1 * 2 ^ z.toNat)))) rfl Z.di n13 Z.dk.symm n14 Z.dk n01 m a f (.inr ⟨_,rfl,rfl,t⟩) a1 a2 W5 A5 e5 d5 t5 M8 q
    rw [show zo7 z r n (some (zle (zdn hs sil) (x / 2 / (1 * 2 ^ z.toNat)))) ⟨hs,sil,pool,fun g=>(TT g).ns⟩=F by rw [<- hF,if_neg l,if_neg e]] at A8
    kt_k
    refine k4 H8 _ A8 rfl rfl ?_
    rw [<- hF,if_neg l]
    exact d8
  ·refine zhh h8 ?_
   kt_k
   exact k3.end X3 (hF.symm.trans (if_pos (.inr h8)))
def doG (wd:Str)(h:Int)(G:Int->List (Int × Th)):Int->List (Int × Th):=if wd=("go" : Str) then fun k=>zia (G k) h else G
structure Dn (wd:Str)(h:Int)(m m':MD):Prop where
 ks:m'.ks=m.ks
 dx:m'.dx=m.dx
 G:m'.G=doG wd h m.G
def zwm (z r:Int)(wd:Str)(h g:Int)(s F:TwS):Prop:=(wd=("ask" : Str)/\F=zy3 z r h g s)\/(wd=("hush" : Str)/\F=⟨s.hs,zcx h s.sil,s.pool,s.N⟩)\/(wd=("go" : Str)/\F=⟨zef h s.hs,zef h s.sil,s.pool,s.N⟩)
def O2 (m p:MD)(z:Int)(a b:List Int):Addr->Prop:=fun q=>m.O z a q\/p.O z b q
def BSt (CB CT CW T0 T1 T3 T4 w v:Addr)(z r:Int)(s F:TwS)(wd:Str)(h:Int)(m p:MD)(H0:Hp)(j:Nat)(H:Hp):Prop :=
 match j with
 | 0=>Tw CB CT CW T0 T1 T3 T4 H w v z r s m p/\Kl H0 H (O2 m p z s.hs s.hs) (O2 m p z s.hs s.hs)
 | 1=>∃ m2,Tw1 CB CT CW T0 T1 T3 T4 H w v z r s F m2 p/\Dn wd h m m2/\Kl H0 H (O2 m p z s.hs s.hs) (O2 m2 p z F.hs s.hs)
 | _=>∃ m2 p2,Tw CB CT CW T0 T1 T3 T4 H w v z r F m2 p2/\Dn wd h m m2/\Dn wd h p p2/\Kl H0 H (O2 m p z s.hs s.hs) (O2 m2 p2 z F.hs F.hs)
section
variable {CB CT CW T0 T1 T3 T4 w v:Addr} {z r:Int} {s F:TwS} {wd:Str} {h:Int} {m p:MD} {H0 H:Hp}
theorem BSt.step {j:Nat}{y:V}(hy:[V.ref w,V.ref v][j]? = some y)(b:BSt CB CT CW T0 T1 T3 T4 w v z r s F wd h m p H0 j H):∃ u mm,y = .ref u/\(mm=m\/mm=p)/\MS CB CT CW T0 T1 T3 T4 H u z r s mm/\∀ H3 mm',MS CB CT CW T0 T1 T3 T4 H3 u z r F mm'->Dn wd h mm mm'->Km u H H3 (mm.O z s.hs) (mm'.O z F.hs)->BSt CB CT CW T0 T1 T3 T4 w v z r s F wd h m p H0 (j+1) H3:=by
 match j,hy,b with
 | 0,hy,b =>
  cases hy
  obtain ⟨X,k⟩:=b
  refine ⟨w,m,rfl,.inl rfl,X.a,fun H3 mm' A d km=>?_⟩
  obtain ⟨X1,k1⟩:=X.first A km
  exact ⟨mm',X1,d,k.trans k1⟩
 | 1,hy,b =>
  cases hy
  obtain ⟨m2,X,d2,k⟩:=b
  refine ⟨v,p,rfl,.inr rfl,X.b,fun H3 mm' A d km=>?_⟩
  obtain ⟨X1,k1⟩:=X.second A km
  exact ⟨m2,mm',X1,d2,d,k.trans k1⟩
 | j+2,hy,b=>cases hy
theorem BSt.kl {j:Nat}(b:BSt CB CT CW T0 T1 T3 T4 w v z r s F wd h m p H0 j H):∃ O',Kl H0 H (O2 m p z s.hs s.hs) O':=by
 match j,b with
 | 0,b=>exact ⟨_,b.2⟩
 | 1,b =>
  obtain ⟨_,_,_,k⟩:=b
  exact ⟨_,k⟩
 | j+2,b =>
  obtain ⟨_,_,_,_,_,k⟩:=b
  exact ⟨_,k⟩
end
def z0x (CB CT CW T0 T1 T3 T4:Addr):Sp:=fun vs H Q _=>∀ CC:Prop,(∀ (w v:Addr) (z r:Int) (s F:TwS) (m p:MD) (wd:Str) (h g:Int),vs=[.ref w,.ref v,.str wd,.int h,.int g]->Tw CB CT CW T0 T1 T3 T4 H w v z r s m p->zwm z r wd h g s F->s.pool.length<=60->h∈s.hs->h∉s.sil->0<=g->g<2 ^ z.toNat->m.ks.length<=60->p.ks.length<=60->(∀ (H':Hp) (m' p':MD),Tw CB CT CW T0 T1 T3 T4 H' w v z r F m' p'->Dn wd h m m'->Dn wd h p p'->Kl H H' (O2 m p z s.hs s.hs) (O2 m' p' z F.hs F.hs)->Q .non H')->CC)->CC
theorem zpo:("ask" : Str)≠("go" : Str):=by decide +kernel
theorem zqc:("hush" : Str)≠("go" : Str):=by decide +kernel
theorem zp5:zal ["_law_one","_law_other","_law_word","_law_house","_law_key","_law_market"] ["_law_one","_law_other","_law_word","_law_house","_law_key"] (zai (top 38)):=fS
theorem zvl (Z:ZZ P w K mg base){T4:Addr}(n04:Z.bk.P≠T4)(n14:Z.cs.P≠T4)(n34:Z.b6.P≠T4):zj2 Z 13 Z.c6 (z0x Z.ba.C Z.bb.C Z.bc.C Z.bk.P Z.cs.P Z.b6.P T4):=by
 have a0:=Z.bc.cl
 obtain ⟨al,av,an,am,aw,ay,-⟩:=Z.bc.na
 have aa:zdl P w K mg base CX0 4 _ _ _ _:=(zh9 Z).mono (by decide)
 have ag:=znv (CB:=Z.ba.C) (CT:=Z.bb.C) Z
 have af:=zqz (CB:=Z.ba.C) (CT:=Z.bb.C) Z aa
 have ad:=zif Z
 refine Z.c6.fn.ok zp5 (by kd_p) (fun cdv A outer s H vs Q E hr ac=>?_)
 refine ac _ fun w v z r s F m p wd h g ab X ae l hh ao ak au o n k=>?_
 subst ab
 refine ⟨_,(zah (zdf PassesOwn.never rfl (zbf (zcn (zaa (pv 0) (zaa (pv 1) zag)))) (zaw (i:=5) zp5.nd rfl oL)
   (zad (zbw (zaz zmc (pv 2) zbr (zbb _))
    (zah (zat (pmD (pv 5) Z.bc.cl Z.ct ad hr (zaa (pv 3) (zaa (pv 4) zag)))))
    zay)
   (zad (zbw (zaz zmc (pv 2) zbr (zbb _))
    (zah (zat (pmD (pv 5) Z.bc.cl Z.cd ag hr (zaa (pv 3) zag))))
    zay)
   (zah (zbw (zaz zmc (pv 2) zbr (zbb _))
    (zah (zat (pmD (pv 5) Z.bc.cl Z.cf af hr (zaa (pv 3) zag))))
    zay)))))),?_⟩
 kt_k
 intro L hL
 generalize f:upd H L _=H1
 obtain ⟨s1,e1⟩:=nw hL f
 clear f
 have nL:¬ O2 m p z s.hs s.hs L:=fun y=>y.elim (X.a.X.noneM hL) (X.b.X.noneM hL)
 have q:Kl H H1 (O2 m p z s.hs s.hs) (O2 m p z s.hs s.hs):=Kl.same s1
 kt_k
 refine zbs (K:=K) (a:=L) (xs:=[V.ref w,V.ref v]) (fun j σ H2=>zg3 (∃ v5:Option V,σ=[some (.ref w),some (.ref v),some (.str wd),some (.int h),some (.int g),v5]/\BSt Z.ba.C Z.bb.C Z.bc.C Z.bk.P Z.cs.P Z.b6.P T4 w v z r s F wd h m p H1 j H2)) ⟨⟨_,rfl,X.same s1,Kl.same (zau.refl _)⟩⟩ (fun j σ H2 _ ⟨_,_,b⟩=>SqL.of ((b.kl.choose_spec).lst e1 nL).1) ?_ ?_
 ·rintro j y σ H2 hj ⟨v5,rfl,b⟩
  obtain ⟨u,mm,rfl,c,Y,nx⟩:=b.step hj
  have az:mm.ks.length<=60:=c.elim (fun e=>e ▸ o) fun e=>e ▸ n
  clear b c
  have hW:=Y.X.X.W
  have aq:=Y.X.ob
  have hA:=Y.X.X.A
  have hO:=Y.X.X.O
  have t0:=Y.X.X.t0
  have t1:=Y.X.X.t1
  have t3:=Y.X.X.t3
  have aj:=Y.X.X.pq
  have ap:=Y.X.X.pb
  have ar:s.sil.length<=900:=by have:=Y.X.X.sl; omega
  rcases ae with ⟨rfl,rfl⟩ | ⟨rfl,rfl⟩ | ⟨rfl,rfl⟩
  ·kt_k
   intro t rl fl ah Lr H3 T3 d x W3 A3 e3 K3 _ _ _ _ _ _ _ _
   obtain ⟨B3,d3⟩:=Y.ask l n04 n14 n34 hh d x W3 A3 e3 K3
   kt_k
   exact ⟨⟨_,rfl,nx H3 _ B3 ⟨rfl,rfl,by unfold doG; rw [if_neg zpo]⟩ d3⟩⟩
  ·kt_k
   intro H3 W3 k3
   obtain ⟨B3,d3⟩:=Y.hush hh W3 k3
   kt_k
   exact ⟨⟨_,rfl,nx H3 _ B3 ⟨rfl,rfl,by unfold doG; rw [if_neg zqc]⟩ d3⟩⟩
  ·kt_k
   intro H3 W3 k3
   have ai:H3 u=some (.ins Z.bc.C mm.dx.1 (wF z r mm.td mm.sd mm.dx)):=k3 _ _ Y.X.ob (zck Y.X.ob hW.tb (by intro z; cases z)) (zck Y.X.ob hW.si (by intro z; cases z))
   have M3:=Y.X.M.dicts hW Y.X.dj k3
   have ax:mm.ks.length<=900:=by omega
   kt_k
   intro H4 M4 d4
   obtain ⟨B4,d5⟩:=Y.go W3 k3 M4 d4
   kt_k
   exact ⟨⟨_,rfl,nx H4 _ B4 ⟨rfl,rfl,by unfold doG; rw [if_pos rfl]⟩ d5⟩⟩
 ·rintro σ H2 ⟨v5,rfl,b⟩
  obtain ⟨m2,p2,X2,d1,d2,kl⟩:=b
  kt_k
  exact k H2 m2 p2 X2 d1 d2 (q.trans kl)
section
variable {CB CT CW T0 T1 T3 T4:Addr} {H H3:Hp} {w v:Addr} {z r:Int} {s:TwS} {m p:MD}
theorem Tw.swap (X:Tw CB CT CW T0 T1 T3 T4 H w v z r s m p):Tw CB CT CW T0 T1 T3 T4 H v w z r s p m:=⟨X.b,X.a,fun q y y2=>X.sp q y2 y,X.vw.symm⟩
theorem MS.laid (X:MS CB CT CW T0 T1 T3 T4 H w z r s m)(hp:s.pool.length<=60){i g:Int}{tx:Str}{a:Addr}{rest kp:List Int}{T':Int->zbk}{ad':Int->Addr}(hi:i∈s.hs)(hg:0<=g/\g<2 ^ z.toNat)(hk:∀ x∈kp,x∈s.hs)(hR:Row (fun h=>za9 z r s.hs s.sil (fun h=>(m.T h).ns) g h i) i g r.toNat (i :: rest))(hx:zdz (fun h=>za9 z r s.hs s.sil (fun h=>(m.T h).ns) g h i) i g r.toNat (i :: rest)=none)(W3:zak CB CT CW H3 w m.td m.sd z r s.hs s.sil T')(A3:zbv z.toNat s.hs T')
  (e3:(fun g=>(T' g).ns)=zdq r (awB s.hs s.sil) (fun h=>za9 z r s.hs s.sil (fun h=>(m.T h).ns) g h i) (fun h=>(m.T h).ns) i rest)(hob:H3 w=some (.ins CW m.dx.1 (wF z r m.td m.sd (m.dx.1,m.dx.2.1,m.dx.2.2+1))))(M3:zb_ H3 m.dx.2.1 (zcx g m.ks) ad' (zcu m.G g (zb1 (m.G g) kp ⟨a,m.dx.2.2,tx⟩)))(d3:Dj m.td m.sd m.dx.2.1 (zcx g m.ks) ad')(t0:Tab H3 T0 (zap zc5) quL)(t1:Tab H3 T1 (zap zg0) quT)(t3:Tab H3 T3 (zap zdx) quH)(t4:Tab H3 T4 (zap zf_) quN)
  (kk:∀ q o,(∀ ps,o≠ .tbl ps)->H q=some o->¬ Om m.td m.sd z.toNat s.hs m.T m.dx.2.1 m.ks m.ad q->q≠w->H3 q=some o)(oo:∀ q,Om m.td m.sd z.toNat s.hs T' m.dx.2.1 (zcx g m.ks) ad' q->Om m.td m.sd z.toNat s.hs m.T m.dx.2.1 m.ks m.ad q\/H q=none)(ee:∀ q,H3 q=none->H q=none) :
  MS CB CT CW T0 T1 T3 T4 H3 w z r (zy3 z r i g s) ⟨m.td,m.sd,T',(m.dx.1,m.dx.2.1,m.dx.2.2+1),zcx g m.ks,ad',zcu m.G g (zb1 (m.G g) kp ⟨a,m.dx.2.2,tx⟩)⟩/\Km w H H3 (m.O z s.hs) (Om m.td m.sd z.toNat s.hs T' m.dx.2.1 (zcx g m.ks) ad'):=by
 refine ⟨⟨X.X.laid hp hi hg hk hR W3 A3 e3 hob M3 d3 t0 t1 t3 t4,?_⟩,kk,oo,ee⟩
 rw [zsg hR hx,X.n] at e3
 exact e3
theorem Tw.past {O:Addr->Prop}(X:Tw CB CT CW T0 T1 T3 T4 H w v z r s m p)(hO:∀ q,O q->¬ O2 m p z s.hs s.hs q/\((∃ x,H q=some (.dK x))\/∃ x,H q=some (.lst x)))(k:∀ q o,H q=some o->¬ O q->H3 q=some o):Tw CB CT CW T0 T1 T3 T4 H3 w v z r s m p :=
 ⟨⟨X.a.X.past (fun q y=>⟨fun h=>(hO q y).1 (.inl h),(hO q y).2⟩) k,X.a.n⟩,⟨X.b.X.past (fun q y=>⟨fun h=>(hO q y).1 (.inr h),(hO q y).2⟩) k,X.b.n⟩,X.sp,X.vw⟩
theorem Tw.tup (X:Tw CB CT CW T0 T1 T3 T4 H w v z r s m p){q:Addr}{xs:List V}(e:H q=some (.tup xs)):¬ O2 m p z s.hs s.hs q:=fun y=>y.elim (X.a.X.tupM e) (X.b.X.tupM e)
theorem Tw.none (X:Tw CB CT CW T0 T1 T3 T4 H w v z r s m p){q:Addr}(e:H q=Option.none):¬ O2 m p z s.hs s.hs q:=fun y=>y.elim (X.a.X.noneM e) (X.b.X.noneM e)
end
structure L2S (CB CT CW T0 T1 T3 T4:Addr)(H:Hp)(w v sh:Addr)(z r:Int)(s:TwS)(m p:MD)(lh:List Int)(la:Int->Addr)(S:Int->List (Int × Th)):Prop where
 X:Tw CB CT CW T0 T1 T3 T4 H w v z r s m p
 Y:zh0 H sh lh la S
 lp:lh.Perm s.hs
 a:∀ q,Ng sh lh la q->¬ O2 m p z s.hs s.hs q
 R:Rel s.hs S m.G
 o:∀ g∈lh,∀ e∈S g,PyData.strOk e.2.s=true
 pk:p.ks=[]
def Ol2 (m p:MD)(z:Int)(hs:List Int)(sh:Addr)(lh:List Int)(la:Int->Addr):Addr->Prop:=fun q=>O2 m p z hs hs q\/Ng sh lh la q
theorem Kl.orc {H H':Hp}{A B A' B':Addr->Prop}(d:Kl H H' (fun q=>A q\/B q) (fun q=>A' q\/B' q)):Kl H H' (fun q=>B q\/A q) (fun q=>B' q\/A' q):=⟨fun q o ho e hn=>d.k q o ho e fun y=>hn y.symm,fun q y=>(d.o q y.symm).imp Or.symm id,d.e⟩
theorem Kl.put {H H':Hp}{O O':Addr->Prop}{l:Addr}{u:HO}(d:Kl H H' O O')(hl:H l=none):Kl H (upd H' l u) O O':=⟨fun q o ho e hn=>by
 rw [zab (fun y=>by rw [y,hl] at e; cases e)]
 exact d.k q o ho e hn,d.o,fun q e=>by
 by_cases y:q=l
 ·rw [y]
  exact hl
 ·rw [zab y] at e
  exact d.e q e⟩
theorem Kl.with {H H':Hp}{O O':Addr->Prop}{N N':Addr->Prop}(d:Kl H H' O O')(hl:∀ q,N' q->N q\/H q=none):Kl H H' (fun q=>O q\/N q) (fun q=>O' q\/N' q):=⟨fun q o ho e hn=>d.k q o ho e fun y=>hn (.inl y),fun q y=>y.elim (fun y=>(d.o q y).imp .inl id) fun y=>(hl q y).imp .inr id,d.e⟩
section
variable {CB CT CW T0 T1 T3 T4:Addr} {H H3:Hp} {w v sh:Addr} {z r:Int} {s:TwS} {m p:MD} {lh:List Int} {la:Int->Addr} {S:Int->List (Int × Th)}
theorem L2S.same (X:L2S CB CT CW T0 T1 T3 T4 H w v sh z r s m p lh la S)(h:zau H H3):L2S CB CT CW T0 T1 T3 T4 H3 w v sh z r s m p lh la S:=⟨X.X.same h,X.Y.same h,X.lp,X.a,X.R,X.o,X.pk⟩
end
def zvj (S:Int->List (Int × Th))(kp:List Int)(k:Int)(p:Int × Str)(S':Int->List (Int × Th)):Prop:=∀ g x,(zb8 (S' g) x).map prT=if g∈kp/\x=k then some p else (zb8 (S g) x).map prT
theorem zv3 {hs:List Int}{S G:Int->List (Int × Th)}{kp:List Int}{k:Int}{t:Th}{S':Int->List (Int × Th)}(R:Rel hs S G)(h:zvj S kp k (prT t) S'):Rel hs S' (zcu G k (zb1 (G k) kp t)):=fun g hg x=>by
 rw [h g x]
 by_cases e:x=k
 ·rw [e,zaj,zjh]
  by_cases m:g∈kp
  ·rw [if_pos ⟨m,rfl⟩,if_pos m]
   rfl
  ·rw [if_neg (fun y=>m y.1),if_neg m]
   exact R g hg k
 ·rw [if_neg (fun y=>e y.2),zao e]
  exact R g hg x
theorem zsd {S:Int->List (Int × Th)}{kp:List Int}{k h:Int}{t:Th}{p:Int × Str}{S':Int->List (Int × Th)}(hl:zvj S kp k p S')(e:prT t=p):zvj S (kp++[h]) k p (zcu S' h (zf3 (S' h) k t)):=fun g x=>by
 by_cases y:g=h
 ·rw [y,zaj,zpa]
  by_cases y2:x=k
  ·rw [if_pos y2,if_pos ⟨fh _ (fi.mpr rfl),y2⟩,<- e]
   rfl
  ·rw [if_neg y2,if_neg (fun z=>y2 z.2),hl h x,if_neg (fun z=>y2 z.2)]
 ·rw [zao y,hl g x]
  by_cases m:g∈kp/\x=k
  ·rw [if_pos m,if_pos ⟨gg _ m.1,m.2⟩]
  ·rw [if_neg m,if_neg (fun z=>m ⟨(fq.mp z.1).elim id fun w=>absurd (fi.mp w) y,z.2⟩)]
theorem zvh {h:Int}{l:List Int}:(zcx h l).length<=l.length+1:=by
 unfold zcx
 split
 ·omega
 ·rw [fm,fu]
  omega
theorem Rel.len {H H1:Hp}{gd sh:Addr}{hs lh ks:List Int}{ad la:Int->Addr}{S G:Int->List (Int × Th)}(R:Rel hs S G)(M:zb_ H gd ks ad G)(Y:zh0 H1 sh lh la S)(lp:lh.Perm hs):∀ g∈lh,(S g).length<=ks.length:=fun g hg=>by
 have:=zbg (Y.nk g hg) (b:=ks) fun x hx=>by
  obtain ⟨e,he,rfl⟩:=j7.mp hx
  exact R.in M (lp.subset hg) e he
 rw [fj] at this
 exact this
def z1v (CB CT CW T0 T1 T3 T4:Addr):Sp:=fun vs H Q _=>∀ CC:Prop,(∀ (w v sh:Addr) (z r:Int) (s:TwS) (m p:MD) (lh:List Int) (la:Int->Addr) (S:Int->List (Int × Th)) (i g:Int) (ta:Addr) (tx:Str),vs=[.ref w,.ref v,.ref sh,.int i,.int g,.ref ta]->L2S CB CT CW T0 T1 T3 T4 H w v sh z r s m p lh la S->H ta=some (.tup [.int m.dx.2.2,.str tx])->PyData.strOk tx=true->s.pool.length<=60->i∈s.hs->i∉s.sil->0<=g->g<2 ^ z.toNat->m.ks.length<=55->(∀ (H':Hp) (m' p':MD) (S':Int->List (Int × Th)),L2S CB CT CW T0 T1 T3 T4 H' w v sh z r (zy3 z r i g s) m' p' lh la S'->m'.dx.2.2=m.dx.2.2+1->m'.ks.length<=m.ks.length+1->Kl H H' (Ol2 m p z s.hs sh lh la) (Ol2 m' p' z s.hs sh lh la)->Q (.bl true) H')->CC)->CC
theorem zgu:zal ["_law_one","_law_other","_law_shelves","_law_start","_law_key","_law_thing","_law_found","_law_due","_law_told","_law_house"] ["_law_one","_law_other","_law_shelves","_law_start","_law_key","_law_thing"] (zai (top 39)):=fS
theorem zvs (Z:ZZ P w K mg base){T4:Addr}(n04:Z.bk.P≠T4)(n14:Z.cs.P≠T4)(n34:Z.b6.P≠T4):zj2 Z 18 Z.c7 (z1v Z.ba.C Z.bb.C Z.bc.C Z.bk.P Z.cs.P Z.b6.P T4):=by
 have ds:=Z.bc.cl
 obtain ⟨c6,dn,df,c8,db,dr,-⟩:=Z.bc.na
 have bv:=zif Z
 have b9:=zki Z bv (by decide) Z.dh Z.di n04 n14 n34
 have b7:=zll Z b9
 have b5:=zn2 Z Z.cw
 refine Z.c7.fn.ok zgu (by kd_p) (fun cdv A outer s H vs Q E hr ce=>?_)
 refine ce _ fun w v sh z r s m p lh la S i g ta tx cd L bp b3 ax hi c1 b2 c0 dg k=>?_
 subst cd
 have X:=L.X
 have dt:=X.a.X.X.W.r1
 have dq:=X.a.X.X.W.r2
 have cx:=X.b.X.X.W
 have c3:=X.b.X.X.A
 have cj:=X.b.X.X.O
 have cc:=X.b.X.ob
 have t0:=X.b.X.X.t0
 have t1:=X.b.X.X.t1
 have t3:=X.b.X.X.t3
 have ay:=X.b.X.X.pq
 have a0:=X.b.X.X.pb
 have cg:=X.a.X.X.W.hb
 refine ⟨_,(zad (zax (i:=6) zgu.nd rfl oL (zfw zjv (pmD (pv 1) Z.bc.cl Z.ct bv hr (zaa (pv 3) (zaa (pv 4) zag))) zan (fun _ _=>rfl)))
  (zad (zax (i:=7) zgu.nd rfl oL (pfD Z.cw b5 hr rfl (zaa (pv 4) (zaa (za0 zjo (pv 6) (zcn (zaa (pv 3) zag))) (zaa (zav (pv 0) rfl) zag)))))
  (zad (zax (i:=8) zgu.nd rfl oL (pmD (pv 0) Z.bc.cl Z.cv b7 hr (zaa (pv 3) (zaa (pv 4) (zaa (zfw zjv (pv 5) zan (fun _ _=>rfl)) zag)))))
  (zad (zdf PassesOwn.never rfl (zbf (pv 7)) (zaw (i:=9) zgu.nd rfl oL)
   (zah (zf2 (zcz hr) (zcp (zcz hr) (pv 2) (pv 9) (fun _ _=>rfl)) (pv 4) (pv 5) rfl)))
  (zad (zbw (PW.pt (zqi (ze9 (zcm (za2 zes rfl Z.da.n_isinstance zbl (zaa (pv 8) (zaa (zn7 rfl Z.da.n_list zjp) zag))))) (zm1 (zaz (zw8 hr.units) (pv 8) (pv 7) (zbb _)))))
   (zah (zas ze7))
   zay)
  (zad (zat (ztd i6 PySem.F.slot_list_clear PySem.F.type_list_clear zvm (pv 8)))
  (zah (zas ze7)))))))),?_⟩
 kt_k
 intro t rl fl aw Lr H1 U1 ag ak W1 A1 e1 K1 a5 _ _ _ c2 _ ah ap
 obtain ⟨B1,d1⟩:=X.b.ask ax n04 n14 n34 hi ag ak W1 A1 e1 K1
 obtain ⟨X1,aa⟩:=X.swap.first B1 d1
 have aa:=aa.orc
 have aq:=aa.k ta (.tup _) trivial bp (X.tup bp)
 obtain ⟨Y1,a1⟩:=L.Y.deed L.a (fun q xs e=>X.tup e) aa
 have eT:(fun h=>(p.T h).ns)=fun h=>(m.T h).ns:=X.b.n.trans X.a.n.symm
 have ai:=zl9 ak
 rw [eT] at ag ak ap ai
 obtain ⟨fd,hF⟩:∃ f,f=zcg (fun h=>za9 z r s.hs s.sil (fun h=>(m.T h).ns) g h i) i g r.toNat (i :: aw):=⟨_,rfl⟩
 rw [<- hF] at ap ai
 have c4:fd.length<=8:=by
  rw [hF]
  unfold zcg
  rw [gq]
  omega
 have br:∀ n∈fd++[i],n∈s.hs:=fun n hn=>(fq.mp hn).elim (fun y=>(zlk (ai n y).2).1) fun y=>fi.mp y ▸ hi
 have cpos:∀ n∈fd++[i],0<=n:=fun n hn=>(cg n (br n hn)).1
 have c5:(fd++[i]).length<64:=by
  rw [fm,fu]
  omega
 have av:=X1.b.X.ob
 clear W1 A1 e1 K1 cx c3 cj cc t0 t1 t3 ay a0 B1 d1 c2 ah
 kt_k
 intro l1 cq
 generalize bu:upd H1 l1 _=H2
 obtain ⟨s2,e2⟩:=nw cq bu
 clear bu
 have bm:=s2 _ _ ap
 have hsz:(fd.map V.int).length+[V.int i].length<=sizeLine:=by
  rw [fj]
  exact gx (zar (by simp only [fu]; omega))
 kt_k
 intro l2 b4
 rw [<- zfs]
 generalize a8:upd H2 l2 _=H3
 obtain ⟨s3,e3⟩:=nw b4 a8
 clear a8
 have al:=s2.trans s3
 have bi:=al _ _ av
 have bq:SqL K H3 l2 ((fd++[i]).map V.int):=SqL.of e3
 kt_k
 intro dl H4 s4 cn e4
 have u:=al.trans s4
 have X4:Tw1 Z.ba.C Z.bb.C Z.bc.C Z.bk.P Z.cs.P Z.b6.P T4 H4 v w z r s (zy3 z r i g s) _ m:=⟨X1.a.same u,X1.b.same u,X1.sp,X1.vw⟩
 have Y4:=Y1.same u
 have aj:=u _ _ aq
 have dp:atI [V.int m.dx.2.2,V.str tx] 1=some (V.str tx):=rfl
 have bt:H1 dl=none:=al.free cn
 have bl:¬ (m.O z s.hs dl\/Om p.td p.sd z.toNat s.hs U1 p.dx.2.1 p.ks p.ad dl):=fun y=>y.elim (X1.b.X.noneM bt) (X1.a.X.noneM bt)
 have cf:=X4.b.X.X.W
 have b1:=X4.b.X.X.A
 have ca:=X4.b.X.X.O
 have a4:=X4.b.X.ob
 have cp:=X4.b.X.M
 have bg:=X4.b.X.dj
 have cu:=X4.b.X.X.t0
 have ch:=X4.b.X.X.t1
 have b0:=X4.b.X.X.t3
 have cb:=X4.b.X.t4
 have ay:=X4.b.X.X.pq
 have a0:=X4.b.X.X.pb
 have de:m.ks.length<=800:=by omega
 have dd:(m.G g).length<=800:=gm (X4.b.X.len g) (by decide)
 clear bi av X1
 kt_k
 intro l6 t6 a2 kp H6 T6 cr ae af W6 A6 e6 am ar M6 bz u0 u1 u3 u4 kk oo ee bd a9 f6
 have a3:aw=a2:=(List.cons.inj (ag.det ae ak af)).2
 have ci:(zcs g (fd++[i])).take r.toNat=kp:=by rw [am,<- a3,hF]
 rw [ci] at e4
 have bo:=z2e hi c1 af am
 obtain ⟨B6,d6⟩:=X4.b.laid ax hi ⟨b2,c0⟩ (fun x hx=>(bo x hx).1) ae af W6 A6 e6 ar M6 bz u0 u1 u3 u4 kk oo ee
 obtain ⟨X6,ac⟩:=X4.second B6 d6
 have ac:=ac.orc
 have az:∀ q xs,H4 q=some (.tup xs)->¬ (m.O z s.hs q\/Om p.td p.sd z.toNat s.hs U1 p.dx.2.1 p.ks p.ad q):=fun q xs e y=>y.elim (X4.b.X.tupM e) (X4.a.X.tupM e)
 obtain ⟨Y6,a6⟩:=Y4.deed a1 az ac
 have au:=ac.k ta (.tup _) trivial aj (az _ _ aj)
 obtain ⟨ao,c9⟩:=ac.lst e4 bl
 have a7:¬ (Om m.td m.sd z.toNat s.hs T6 m.dx.2.1 (zcx g m.ks) cr l6\/Om p.td p.sd z.toNat s.hs U1 p.dx.2.1 p.ks p.ad l6):=fun y=>y.elim a9 (X4.a.X.noneM bd)
 have cy:=((aa.with (N:=Ng sh lh la) (N':=Ng sh lh la) fun q y=> .inl y).trans (Kl.same u)).trans (ac.with (N:=Ng sh lh la) (N':=Ng sh lh la) fun q y=> .inl y)
 have be:H l6=none:=aa.e _ (u.free bd)
 have XX:=X6.swap
 have dm:kp.length<=64:=by
  rw [am,gq]
  omega
 have cm:=L.R.len X.a.X.M L.Y L.lp
 have lp:=L.lp
 have ah:∀ {q:Addr} {xs:List V},H6 q=some (.lst xs)->¬ Ng sh lh la q:=fun {q xs} e y=>by
  obtain ⟨d,e2⟩:=Y6.bounds y
  rw [e] at e2
  cases e2
 have R6:=L.R
 have o6:=L.o
 have b8:=L.pk
 clear ag ak ae af W6 A6 e6 am ar M6 bz u0 u1 u3 u4 kk oo ee B6 d6 X6 X4 ac aa cf b1 ca a4 cp bg cu ch b0 cb ay a0 Y4 Y1 a1 u al s2 s3 s4 aq aj e2 e3 e4 bq ap bm a5 X L az bl a9
 kt_k
 refine zbs (K:=K) (a:=dl) (xs:=kp.map V.int) (fun j σ H7=>zg3 (∃ (v9:Option V) (S7:Int->List (Int × Th)),σ=[some (.ref w),some (.ref v),some (.ref sh),some (.int i),some (.int g),some (.ref ta),some (.ref fl),some (.ref dl),some (.ref l6),v9]/\zh0 H7 sh lh la S7/\zvj S (kp.take j) g (m.dx.2.2,tx) S7/\(∀ g∈lh,∀ e∈S7 g,PyData.strOk e.2.s=true)/\(∀ g∈lh,(S7 g).length<=60+j)/\(∀ q o,H6 q=some o->¬ Ng sh lh la q->H7 q=some o)/\∀ q,H7 q=none->H6 q=none)) ?_ (fun j σ H7 _ ⟨_,_,_,_,_,_,_,k7,_⟩=>SqL.of (k7 _ _ ao (ah ao))) ?_ ?_
 ·exact ⟨⟨_,S,rfl,Y6,fun g x=>by rw [List.take_zero,if_neg (fun z=>nomatch z.1)],o6,fun g hg=>gm (cm g hg) (by omega),fun _ _ e _=>e,fun _ e=>e⟩⟩
 ·rintro j y σ H7 hj ⟨v9,S7,rfl,Y7,an,o7,n7,k7,g7⟩
  obtain ⟨c,hc,rfl⟩:=zfd hj
  have ab:=lp.mem_iff.mpr (bo c (gj hc)).1
  have dk:j<64:=by
   have:=(List.getElem?_eq_some_iff.mp hc).1
   omega
  have bf:H7 ta=some (.tup [.int m.dx.2.2,.str tx]):=k7 _ _ au fun y=>by
   obtain ⟨d,e2⟩:=Y6.bounds y
   rw [au] at e2
   cases e2
  have co:=zgf.k (k:=Sum.inl c) Y7.d
  rw [zdp,if_pos ab] at co
  have bn:(inD (S7 c)).length<sizeLine:=by
   unfold inD
   rw [fj]
   have:=n7 c ab
   exact zar (by omega)
  have bj:zkl H7 (la c) (V.int g) (V.ref ta) (upd H7 (la c) (.dK (zd3 (inD (S7 c)) (Sum.inl g) (V.ref ta)))):=zkl.k (k:=Sum.inl g) (Y7.it c ab) bn
  have bh:=zo4 (l:=S7 c) (h:=g) (t:=⟨ta,m.dx.2.2,tx⟩)
  rw [show zd3 (inD (S7 c)) (Sum.inl g) (V.ref ta)=inD (zf3 (S7 c) g ⟨ta,m.dx.2.2,tx⟩) from bh] at bj
  have Y9:=Y7.put (k:=g) (t:=⟨ta,m.dx.2.2,tx⟩) ab bf
  kt_k
  refine ⟨⟨_,_,rfl,Y9,?_,fun g' hg e he=>?_,fun g' hg=>?_,fun q o e hn=>?_,fun q e=>?_⟩⟩
  ·rw [zcc hc]
   exact zsd an rfl
  ·by_cases y:g'=c
   ·rw [y,zaj] at he
    rcases zfk he with y2 | y2
    ·exact o7 c ab e y2
    ·rw [y2]
     exact b3
   ·rw [zao y] at he
    exact o7 g' hg e he
  ·by_cases y:g'=c
   ·rw [y,zaj]
    have:=zqe (l:=S7 c) (h:=g) (t:=⟨ta,m.dx.2.2,tx⟩)
    have:=n7 c ab
    omega
   ·rw [zao y]
    have:=n7 g' hg
    omega
  ·rw [zab (fun y=>hn (.inr ⟨c,ab,y⟩))]
   exact k7 q o e hn
  ·by_cases y:q=la c
   ·rw [y,zac] at e
    cases e
   ·rw [zab y] at e
    exact g7 q e
 ·rintro σ H7 ⟨v9,S7,rfl,Y7,an,o7,n7,k7,g7⟩
  rw [fj,gr] at an
  have f7:=k7 _ _ f6 (ah f6)
  have dc:=k7 _ _ ao (ah ao)
  have X7:=XX.past (O:=Ng sh lh la) (fun q y=>⟨a6 q y,.inl (Y6.bounds y)⟩) k7
  have cz:=cy.trans (⟨fun q o _ e hn=>k7 q o e fun y=>hn (.inr y),fun q y=> .inl y,g7⟩:Kl H6 H7 _ _)
  have ck:=zvh (h:=g) (l:=m.ks)
  have bw:¬ Ng sh lh la l6:=ah f6
  kt_k
  simp only [decide_true,Bool.not_true,if_true]
  kt_k
  refine k _ _ _ S7 ⟨X7.past (O:=fun q=>q=l6) (fun q y=>⟨by rw [y]; exact a7,.inr ⟨kp.map V.int,by rw [y]; exact f7⟩⟩) (fun q o e hn=>by rw [zab hn]; exact e),Y7.keep fun q o ho e=>?_,lp,a6,zv3 (t:=⟨t6,m.dx.2.2,tx⟩) R6 an,o7,b8⟩ rfl ck (cz.put be)
  rw [zab (fun y=>by
   rw [y,f7] at e
   cases e
   rcases ho with y2 | ⟨_,y2⟩
   ·exact bw (y ▸ y2)
   ·cases y2)]
  exact e
theorem zrn {l:List Int}(hn:l.Nodup)(h1:1<l.length)(h:Int):∃ x∈l,x≠h:=by
 match l,hn,h1 with
 | a :: b :: t,hn,_ =>
  by_cases e:a=h
  ·refine ⟨b,fk _ (gb ..),fun y=>?_⟩
   have:=(io.mp hn).1
   rw [e,<- y] at this
   exact this (gb ..)
  ·exact ⟨a,gb ..,e⟩
 | [a],_,h1=>simp at h1
 | [],_,h1=>simp at h1
theorem zr9 {hs sil:List Int}(hn:hs.Nodup):(zdn hs sil).Nodup:=by
 unfold zdn
 exact ((zam hs).nodup_iff.mpr hn).sublist ip
theorem zob {hs sil:List Int}{x:Int}(h1:x∈hs)(h2:x∉sil):zdn hs sil≠[]:=fun e=>by
 have:=zfe.mpr ⟨h1,h2⟩
 rw [e] at this
 cases this
theorem zsv {hs sil:List Int}{h:Int}(hn:hs.Nodup)(h1:1<(zdn hs sil).length):zdn hs (zcx h sil)≠[]:=by
 obtain ⟨x,hx,ne⟩:=zrn (zr9 hn) h1 h
 obtain ⟨a,b⟩:=zfe.mp hx
 exact zob a fun y=>(zpk.mp y).elim b ne
theorem zx0 {hs sil:List Int}{h:Int}(hn:hs.Nodup)(h1:1<(zdn hs sil).length):zdn (zef h hs) (zef h sil)≠[]:=by
 obtain ⟨x,hx,ne⟩:=zrn (zr9 hn) h1 h
 obtain ⟨a,b⟩:=zfe.mp hx
 exact zob (zbt.mpr ⟨a,ne⟩) fun y=>b (zbt.mp y).1
structure LS2 (CB CT CW T0 T1 T3 T4:Addr)(H:Hp)(w v sh:Addr)(z r c:Int)(n:Nat)(O:Addr->Prop):Prop where
 ex:∃ (s:TwS) (m p:MD) (lh:List Int) (la:Int->Addr) (S:Int->List (Int × Th)),L2S CB CT CW T0 T1 T3 T4 H w v sh z r s m p lh la S/\s.pool.length<=60/\m.ks.length<=n/\m.dx.2.2=c/\zdn s.hs s.sil≠[]/\O=Ol2 m p z s.hs sh lh la
def z0w (CB CT CW T0 T1 T3 T4:Addr):Sp:=fun vs H Q _=>∀ CC:Prop,(∀ (w v sh:Addr) (z r x b c:Int) (n:Nat) (O:Addr->Prop),vs=[.ref w,.ref v,.ref sh,.int x,.int b,.int c]->LS2 CB CT CW T0 T1 T3 T4 H w v sh z r c n O->n<=55->(∀ (H':Hp) (O':Addr->Prop),LS2 CB CT CW T0 T1 T3 T4 H' w v sh z r (c+if decide (x % 8<5)=true then 1 else 0) (n+1) O'->Kl H H' O O'->Q (.bl true) H')->CC)->CC
section
variable {CB CT CW T0 T1 T3 T4:Addr} {H H3:Hp} {w v sh:Addr} {z r:Int} {s F:TwS} {m p m' p':MD} {lh:List Int} {la:Int->Addr} {S:Int->List (Int × Th)}
theorem L2S.both {wd:Str}{h:Int}(L:L2S CB CT CW T0 T1 T3 T4 H w v sh z r s m p lh la S)(hw:wd≠("go" : Str))(hF:F.hs=s.hs)(X:Tw CB CT CW T0 T1 T3 T4 H3 w v z r F m' p')(d1:Dn wd h m m')(d2:Dn wd h p p')(kl:Kl H H3 (O2 m p z s.hs s.hs) (O2 m' p' z F.hs F.hs)):L2S CB CT CW T0 T1 T3 T4 H3 w v sh z r F m' p' lh la S/\Kl H H3 (Ol2 m p z s.hs sh lh la) (Ol2 m' p' z F.hs sh lh la):=by
 obtain ⟨Y3,a3⟩:=L.Y.deed L.a (fun q xs e=>L.X.tup e) kl
 have eG:m'.G=m.G:=by
  rw [d1.G]
  unfold doG
  rw [if_neg hw]
 refine ⟨⟨X,Y3,by rw [hF]; exact L.lp,a3,?_,L.o,d2.ks.trans L.pk⟩,kl.with fun q y=> .inl y⟩
 rw [eG,hF]
 exact L.R
theorem L2S.went {h:Int}(L:L2S CB CT CW T0 T1 T3 T4 H w v sh z r s m p lh la S)(hF:F.hs=zef h s.hs)(X:Tw CB CT CW T0 T1 T3 T4 H3 w v z r F m' p')(d1:Dn ("go" : Str) h m m')(d2:Dn ("go" : Str) h p p')(kl:Kl H H3 (O2 m p z s.hs s.hs) (O2 m' p' z F.hs F.hs)):zh0 H3 sh lh la S/\L2S CB CT CW T0 T1 T3 T4 (upd H3 sh (.dK (zcw (thD lh la) (Sum.inl h)))) w v sh z r F m' p' (zef h lh) la S/\Kl H (upd H3 sh (.dK (zcw (thD lh la) (Sum.inl h)))) (Ol2 m p z s.hs sh lh la) (Ol2 m' p' z F.hs sh (zef h lh) la):=by
 obtain ⟨Y3,a3⟩:=L.Y.deed L.a (fun q xs e=>L.X.tup e) kl
 have eG:m'.G=fun k=>zia (m.G k) h:=by
  rw [d1.G]
  unfold doG
  rw [if_pos rfl]
 have ng:∀ q,Ng sh (zef h lh) la q->Ng sh lh la q:=fun q y=>y.imp id fun ⟨g,hg,e⟩=>⟨g,(zbt.mp hg).1,e⟩
 have up:∀ q o',H3 q=some o'->¬ q=sh->upd H3 sh (.dK (zcw (thD lh la) (Sum.inl h))) q=some o':=fun q o' e hn=>by rw [zab hn]; exact e
 have fr:∀ q,upd H3 sh (.dK (zcw (thD lh la) (Sum.inl h))) q=none->H3 q=none:=fun q e=>by
  by_cases y:q=sh
  ·rw [y,zac] at e
   cases e
  ·rw [zab y] at e
   exact e
 have k5:Kl H3 (upd H3 sh (.dK (zcw (thD lh la) (Sum.inl h)))) (fun q=>O2 m' p' z F.hs F.hs q\/Ng sh lh la q) (fun q=>O2 m' p' z F.hs F.hs q\/Ng sh (zef h lh) la q):=⟨fun q o' _ e hn=>up q o' e fun y=>hn (.inr (.inl y)),fun q y=> .inl (y.imp id (ng q)),fr⟩
 refine ⟨Y3,⟨X.past (O:=fun q=>q=sh) (fun q y=>⟨by rw [y]; exact a3 sh (.inl rfl),.inl ⟨thD lh la,by rw [y]; exact Y3.d⟩⟩) up,Y3.pop,by rw [hF]; exact L.lp.filter _,fun q y=>a3 q (ng q y),fun g hg x=>?_,fun g hg=>L.o g (zbt.mp hg).1,d2.ks.trans L.pk⟩,(kl.with (N:=Ng sh lh la) (N':=Ng sh lh la) fun q y=> .inl y).trans k5⟩
 rw [hF] at hg
 obtain ⟨h1,h2⟩:=zbt.mp hg
 rw [eG,zuy,if_neg h2]
 exact L.R g h1 x
end
theorem zgr:zal ["_law_one","_law_other","_law_shelves","_law_x","_law_base","_law_count","_law_live","_law_house","_law_key","_law_word"] ["_law_one","_law_other","_law_shelves","_law_x","_law_base","_law_count"] (zai (top 40)):=fS
theorem zul (Z:ZZ P w K mg base){T4:Addr}(n04:Z.bk.P≠T4)(n14:Z.cs.P≠T4)(n34:Z.b6.P≠T4):zj2 Z 19 Z.c8 (z0w Z.ba.C Z.bb.C Z.bc.C Z.bk.P Z.cs.P Z.b6.P T4):=by
 have bn:=Z.bc.cl
 obtain ⟨a3,bh,a8,a7,bi,bl,-⟩:=Z.bc.na
 have au:=zem (CB:=Z.ba.C) (CT:=Z.bb.C) Z
 have ak:=zpc Z
 have ai:=zvd Z
 have av:=zvl (T4:=T4) Z n04 n14 n34
 have am:=zvs (T4:=T4) Z n04 n14 n34
 refine Z.c8.fn.ok zgr (by kd_p) (fun cdv A outer s H vs Q E hr ar=>?_)
 refine ar _ fun w v sh z r x b c n O ap hL a9 k=>?_
 subst ap
 obtain ⟨s,m,p,lh,la,S,L,e,bo,rfl,j,rfl⟩:=hL.ex
 clear hL
 have bm:=L.X.a.X.X.W.z1
 have bd:=L.X.a.X.X.W.z2
 have hW:=L.X.a.X.X.W
 have ao:=L.X.a.X.ob
 have ab:=L.X.a.X.X.W.nd
 refine ⟨_,(zad (zax (i:=6) zgr.nd rfl oL (zcd (pv 0) Z.bc.cl Z.b5.me au hr.mm Z.b5.b .nil zb5))
  (zad (zax (i:=7) zgr.nd rfl oL (zfw zey (pv 6) (za0 zci (za0 zdj (pv 3) zan) (za2 zbz rfl Z.da.n_len zi_ (zaa (pv 6) zag))) (fun _ _=>rfl)))
  (zad (zax (i:=8) zgr.nd rfl oL (pfD Z.c4 ak hr rfl (zaa (za0 zdj (pv 3) zan) (zaa (zav (pv 0) rfl) (zaa (pv 4) zag)))))
  (zad (zbw (zaz zty (za0 zci (pv 3) zan) zan (zbb _))
   (zah (zas (pfD Z.c7 am hr rfl (zaa (pv 0) (zaa (pv 1) (zaa (pv 2) (zaa (pv 7) (zaa (pv 8) (zaa (zi0 (zaa (pv 5) (zaa (pfD Z.cz ai hr rfl (zaa (za0 zdj (pv 3) zan) zag)) zag))) zag)))))))))
   zay)
  (zad (zax (i:=9) zgr.nd rfl oL (zfw zey (zcn (zaa zbr (zaa zbr (zaa zbr zag)))) (za0 zww (za0 zci (pv 3) zan) zan) (fun _ _=>rfl)))
  (zad (zbw (PW.pt (zqi (zaz zmc (pv 9) zbr (zbb _)) (zm1 (zaz z0n (za2 zbz rfl Z.da.n_len zi_ (zaa (pv 6) zag)) zan (zbb _)))))
   (zad (zat (pfD Z.c6 av hr rfl (zaa (pv 0) (zaa (pv 1) (zaa (pv 9) (zaa (pv 7) (zaa (pv 8) zag)))))))
   (zah (zbw (zaz zmc (pv 9) zbr (zbb _))
    (zah (zat (zp_ (pv 2) (pv 7) ⟨rfl,rfl,rfl,rfl⟩)))
    zay)))
   zay)
  (zah (zas ze7)))))))),?_⟩
 kt_k
 intro al H1 s1 ay l
 have l:H1 al=some (.lst ((zdn s.hs s.sil).map V.int)):=l
 have L1:=L.same s1
 have aa:Kl H H1 (Ol2 m p z s.hs sh lh la) (Ol2 m p z s.hs sh lh la):=Kl.same s1
 have a1:=L1.X.a.X.ob
 obtain ⟨h,hh,bj⟩:=zml (c:=x / 8) j
 have a0:=zp8 j
 obtain ⟨aw,be⟩:=zfe.mp hh
 clear L hW ao s1 ay
 kt_k
 intro ah aq
 generalize zmg (x / 80) z b=g at ah aq
 kt_k
 by_cases t:x % 8<5
 ·refine zpm t ?_
  kt_k
  intro tx H2 a6 s2
  kt_k
  intro ta ag
  generalize y:upd H2 ta _=H3
  obtain ⟨s3,a2⟩:=nw ag y
  clear y
  have L3:=L1.same (s2.trans s3)
  have bf:m.ks.length<=55:=by omega
  kt_k
  intro H4 m4 p4 S4 L4 ed el f
  kt_k
  refine k H4 _ ⟨⟨_,m4,p4,lh,la,S4,L4,e,by omega,?_,j,rfl⟩⟩ ((aa.trans (Kl.same (s2.trans s3))).trans f)
  rw [ed,decide_eq_true t,if_pos rfl]
 ·refine zhh t ?_
  rw [decide_eq_false t,if_neg (by decide)] at k
  kt_k
  intro l2 aj
  generalize ac:upd H1 l2 _=H2
  obtain ⟨s2,e2⟩:=nw aj ac
  clear ac
  have L2:=L1.same s2
  have az:=s2 _ _ l
  have o:=aa.trans (Kl.same (O:=Ol2 m p z s.hs sh lh la) s2)
  have a5:=L2.X
  have a4:m.ks.length<=60:=by omega
  have bg:p.ks.length<=60:=by rw [L2.pk]; decide
  have stay:LS2 Z.ba.C Z.bb.C Z.bc.C Z.bk.P Z.cs.P Z.b6.P T4 H2 w v sh z r (m.dx.2.2+0) (n+1) (Ol2 m p z s.hs sh lh la):=⟨⟨s,m,p,lh,la,S,L2,e,by omega,by omega,j,rfl⟩⟩
  have ax:x % 8 - 5=0\/x % 8 - 5=1\/x % 8 - 5=2:=by omega
  rcases ax with h0 | h0 | h0
  ·have ae:atI [V.str "ask",V.str "hush",V.str "go"] (x % 8 - 5)=some (V.str "ask"):=by rw [h0]; rfl
   have af:zwm z r ("ask" : Str) h g s (zy3 z r h g s):= .inl ⟨rfl,rfl⟩
   kt_k
   intro H3 m3 p3 X3 d1 d2 q
   obtain ⟨L3,f⟩:=L2.both (F:=zy3 z r h g s) zpo rfl X3 d1 d2 q
   kt_k
   exact k H3 _ ⟨⟨_,m3,p3,lh,la,S,L3,e,by rw [d1.ks]; omega,by rw [d1.dx]; omega,j,rfl⟩⟩ (o.trans f)
  ·have ae:atI [V.str "ask",V.str "hush",V.str "go"] (x % 8 - 5)=some (V.str "hush"):=by rw [h0]; rfl
   have af:zwm z r ("hush" : Str) h g s ⟨s.hs,zcx h s.sil,s.pool,s.N⟩:= .inr (.inl ⟨rfl,rfl⟩)
   kt_k
   rw [fj]
   by_cases h1:(1:Int)<(((zdn s.hs s.sil).length:Nat):Int)
   ·have u:1<(zdn s.hs s.sil).length:=by omega
    refine zpm h1 ?_
    kt_k
    intro H3 m3 p3 X3 d1 d2 q
    obtain ⟨L3,f⟩:=L2.both (F:=⟨s.hs,zcx h s.sil,s.pool,s.N⟩) zqc rfl X3 d1 d2 q
    kt_k
    exact k H3 _ ⟨⟨_,m3,p3,lh,la,S,L3,e,by rw [d1.ks]; omega,by rw [d1.dx]; omega,zsv ab u,rfl⟩⟩ (o.trans f)
   ·refine zhh h1 ?_
    kt_k
    exact k H2 _ stay o
  ·have ae:atI [V.str "ask",V.str "hush",V.str "go"] (x % 8 - 5)=some (V.str "go"):=by rw [h0]; rfl
   have af:zwm z r ("go" : Str) h g s ⟨zef h s.hs,zef h s.sil,s.pool,s.N⟩:= .inr (.inr ⟨rfl,rfl⟩)
   kt_k
   rw [fj]
   by_cases h1:(1:Int)<(((zdn s.hs s.sil).length:Nat):Int)
   ·have u:1<(zdn s.hs s.sil).length:=by omega
    refine zpm h1 ?_
    kt_k
    intro H3 m3 p3 X3 d1 d2 q
    obtain ⟨Y3,L4,f⟩:=L2.went (F:=⟨zef h s.hs,zef h s.sil,s.pool,s.N⟩) rfl X3 d1 d2 q
    have ad:=Y3.d
    have an:zdy (thD lh la) (Sum.inl h)=some (V.ref (la h)):=by rw [zdp,if_pos (L2.lp.mem_iff.mpr aw)]
    kt_k
    refine ⟨.inl ⟨_,.inl ad⟩,_,rfl,_,Sum.inl h,_,ad,rfl,an,?_⟩
    kt_k
    exact k _ _ ⟨⟨_,m3,p3,_,la,S,L4,e,by rw [d1.ks]; omega,by rw [d1.dx]; omega,zx0 ab u,rfl⟩⟩ (o.trans f)
   ·refine zhh h1 ?_
    kt_k
    exact k H2 _ stay o
theorem z3o (ss:List Int)(a b:Nat):∃ ts:List Int,zj8 (ss.map V.int) (some (a:Int)) (some (b:Int))=ts.map V.int/\ts.length<=b - a:=by
 unfold zj8
 have e1:=HT.sIx_nat (ss.map V.int).length 0 a
 have e2:=HT.sIx_nat (ss.map V.int).length (ss.map V.int).length b
 rw [e1,e2]
 refine ⟨(ss.drop _).take _,by rw [<- List.map_drop,<- mh],?_⟩
 rw [gq,ki]
 omega
theorem zwg {z r x b:Int}{s:TwS}:(zgb z r 9 x b s).hs≠[]:=by
 unfold zgb
 split
 ·rename_i h
  intro e
  rw [e] at h
  rcases h with h | h
  ·cases h
  ·exact h (by decide)
 ·unfold zo7
  simp
theorem zr0 {z r mo x b:Int}{s:TwS}:(zgb z r mo x b s).sil=s.sil:=by
 unfold zgb
 split
 ·rfl
 ·rfl
theorem zqs {z r mo x b:Int}{s:TwS}:(zgb z r mo x b s).pool.length<=s.pool.length+1:=by
 unfold zgb
 split
 ·omega
 ·unfold zo7
  simp
theorem zdw.new {CB CT CW T0 T1 T3 T4 w td sd gd dxa:Addr}{H:Hp}{z r:Int}{T U:Int->zbk}(W:zak CB CT CW H w td sd z r [] [] T)(t0:Tab H T0 (zap zc5) quL)(t1:Tab H T1 (zap zg0) quT)(t3:Tab H T3 (zap zdx) quH)(t4:Tab H T4 (zap zf_) quN)(hob:H w=some (.ins CW dxa (wF z r td sd (dxa,gd,0))))(M:zb_ H gd [] (fun _=>0) (fun _=>[]))(ngt:gd≠td)(ngs:gd≠sd):zdw CB CT CW T0 T1 T3 T4 H w td sd z r [] [] [] U (dxa,gd,0) [] (fun _=>0) (fun _=>[]) :=
 ⟨⟨⟨W.ob,W.tb,W.si,fun h hh=>(nomatch hh),W.nd,W.hb,W.z1,W.z2,W.r1,W.r2,W.ln,W.ts⟩,⟨fun h hh=>(nomatch hh),fun h hh=>(nomatch hh),fun h hh=>(nomatch hh)⟩,⟨fun h hh=>(nomatch hh),fun h hh=>(nomatch hh),fun h hh=>(nomatch hh)⟩,fun x hx=>hx,fun x hx=>(nomatch hx),fun x hx=>(nomatch hx),ii,by decide,t0,t1,t3⟩,hob,M,⟨fun y=>y.elim (fun e=>ngt e.symm) fun ⟨k,hk,_⟩=>(nomatch hk),fun y=>y.elim (fun e=>ngs e.symm) fun ⟨k,hk,_⟩=>(nomatch hk)⟩,t4,fun k hk=>(nomatch hk),fun k e he=>(nomatch he),fun k=>ii,fun k e he=>(nomatch he),fun k e he=>(nomatch he)⟩
theorem zs6 {td sd gd q:Addr}{z:Nat}{T:Int->zbk}{ad:Int->Addr}(h:Om td sd z [] T gd [] ad q):q=td\/q=sd\/q=gd:=by
 rcases h with (h | h | ⟨g,hg,_⟩) | (h | ⟨k,hk,_⟩)
 ·exact .inl h
 ·exact .inr (.inl h)
 ·cases hg
 ·exact .inr (.inr h)
 ·cases hk
section
variable {CB CT CW T0 T1 T3 T4:Addr} {H H3:Hp} {w v sh:Addr} {z r c:Int} {n:Nat} {O:Addr->Prop}
theorem LS2.same (L:LS2 CB CT CW T0 T1 T3 T4 H w v sh z r c n O)(s:zau H H3):LS2 CB CT CW T0 T1 T3 T4 H3 w v sh z r c n O:=by
 obtain ⟨s',m,p,lh,la,S,X,h⟩:=L.ex
 exact ⟨⟨s',m,p,lh,la,S,X.same s,h⟩⟩
theorem LS2.none (L:LS2 CB CT CW T0 T1 T3 T4 H w v sh z r c n O){q:Addr}(e:H q=Option.none):¬ O q:=fun y=>by
 obtain ⟨s,m,p,lh,la,S,X,_,_,_,_,rfl⟩:=L.ex
 rcases y with y | y
 ·exact X.X.none e y
 ·obtain ⟨d,e2⟩:=X.Y.bounds y
  rw [e] at e2
  cases e2
end
def SqO (K:W.Frag)(H:Hp)(O:Addr->Prop)(a:Addr)(xs:List V):Prop:=(Rd H a (.lst xs)/\¬ O a)\/∃ (o:Obj) (its:Array Value) (n:Nat),K.lookup a=some o/\o.cls = .type "list" /\o.dict=none/\o.data = .seq its n/\its.size<=sizeLine/\zbq xs its.toList
theorem SqO.seq {K:W.Frag}{H:Hp}{O:Addr->Prop}{a:Addr}{xs:List V}(h:SqO K H O a xs):SqL K H a xs:=h.imp (·.1) id
theorem SqO.kl {K:W.Frag}{H H':Hp}{O O':Addr->Prop}{a:Addr}{xs:List V}(h:SqO K H O a xs)(d:Kl H H' O O'):SqO K H' O' a xs:=by
 rcases h with ⟨h,n⟩ | h
 ·have nn:∀ {o:HO},H a=some o->¬ O' a:=fun e y=>(d.o a y).elim n fun z=>by rw [e] at z; cases z
  rcases h with h | ⟨o,h⟩
  ·exact .inl ⟨.inl (d.k _ (.lst _) trivial h n),nn h⟩
  ·exact .inl ⟨.inr ⟨o,d.k _ (.frz _ _) trivial h n⟩,nn h⟩
 ·exact .inr h
theorem Rd.same {H H':Hp}{a:Addr}{u:HO}(h:Rd H a u)(s:zau H H'):Rd H' a u:=h.imp (s _ _) fun ⟨o,e⟩=>⟨o,s _ _ e⟩
def zo_ (K:W.Frag)(tabs:List (Addr × Addr)):Sp:=fun vs H Q _=>∃ (a:Addr) (ns:List Int),vs=[.ref a]/\SqL K H a (ns.map V.int)/\ns.length<=63/\(∀ q∈tabs,H q.2=some (.tbl #[]))/\∀ H',Q (.bl true) H'
theorem zdg:zal ["_law_script","_law_wide","_law_room","_law_plain","_law_one","_law_other","_law_base","_law_k","_law_cell","_law_shelves","_law_house","_law_count","_law_x"] ["_law_script"] (zai (top 41)):=fS
theorem z1z (Z:ZZ P w K mg base)(hM_Town___init__:zve K Z.bd.C "__init__" Z.b3.f){tabs:List (Addr × Addr)}(ht0:(Z.bk.c,Z.bk.P)∈tabs)(ht1:(Z.cs.c,Z.cs.P)∈tabs)(ht3:(Z.b6.c,Z.b6.P)∈tabs)(ht4:(Z.ci.c,Z.ci.P)∈tabs):zj2 Z 20 Z.c9 (zo_ K tabs):=by
 have fe:=Z.bc.cl
 obtain ⟨ej,ez,et,ek,ep,fd,-⟩:=Z.bc.na
 have cq:=zkb (CB:=Z.ba.C) (CT:=Z.bb.C) Z hM_Town___init__
 have dr:=zc2 (CB:=Z.ba.C) (CT:=Z.bb.C) Z
 have d7:=zil Z
 have av:=zv4 Z
 have c7:=zsb Z
 have cb:=zur (T1:=Z.cs.P) Z Z.dh Z.dj Z.dl
 have db:=zwl (CB:=Z.ba.C) (CT:=Z.bb.C) Z
 have d0:=zul (T4:=Z.ci.P) Z Z.df Z.dl Z.dk
 refine Z.c9.fn.ok zdg (by kd_p) (fun cdv A outer s H vs Q E hr h=>?_)
 obtain ⟨a,ss,rfl,hS,eg,hT,k⟩:=h
 refine ⟨_,(zad (z0j (pfD Z.c3 c7 hr rfl (zaa (pv 0) zag)) (zm0 (n:=3) rfl (zb3 (zaw (i:=1) zdg.nd rfl oL) (zb3 (zaw (i:=2) zdg.nd rfl oL) (zb3 (zaw (i:=3) zdg.nd rfl oL) zg7)))))
  (zad (zax (i:=4) zdg.nd rfl oL (zld (DfM.mk' Z.bc Z.b4) cq hr.mm rfl Z.bc.hm Z.b4.b .nil zb5 (zaa (pv 1) (zaa (pv 2) zag))))
  (zad (zax (i:=5) zdg.nd rfl oL (zld (DfM.mk' Z.bc Z.b4) cq hr.mm rfl Z.bc.hm Z.b4.b .nil zb5 (zaa (pv 1) (zaa (pv 2) zag))))
  (zad (zax (i:=6) zdg.nd rfl oL (za0 zci (pfD Z.c2 av hr rfl (zaa (pfD Z.c0 d7 hr rfl (zaa (pv 0) (zaa zan zag))) (zaa zan (zaa (pv 3) zag)))) (za0 ztv zan (pv 1))))
  (zad (zdf PassesOwn.never rfl (ztw rfl Z.da.n_enumerate (zaa (za0 zjo (zc3 zeb (pv 0) (zdd zan) (zdd zan)) (zcn (zaa zan (zaa zan zag)))) zag)) (zm0 (n:=2) rfl (zb3 (zaw (i:=7) zdg.nd rfl oL) (zb3 (zaw (i:=8) zdg.nd rfl oL) zg7)))
   (zad (zat (pfD Z.c5 cb hr rfl (zaa (pv 4) (zaa (pfD Z.c2 av hr rfl (zaa (pv 8) (zaa (za0 zei zan (pv 7)) (zaa (pv 3) zag)))) (zaa (pv 6) (zaa zan zag))))))
   (zah (zat (pfD Z.c5 cb hr rfl (zaa (pv 5) (zaa (pfD Z.c2 av hr rfl (zaa (pv 8) (zaa (za0 zei zan (pv 7)) (zaa (pv 3) zag)))) (zaa (pv 6) (zaa zan zag)))))))))
  (zad (zax (i:=9) zdg.nd rfl oL zd4)
  (zad (zdf PassesOwn.never rfl (zbf (zcd (pv 4) Z.bc.cl Z.b0.me dr hr.mm Z.b0.b .nil zb5)) (zaw (i:=10) zdg.nd rfl oL)
   (zah (zf2 (zcz hr) (pv 9) (pv 10) zd4 rfl)))
  (zad (zax (i:=11) zdg.nd rfl oL zan)
  (zad (zdf PassesOwn.never rfl (ztw rfl Z.da.n_enumerate (zaa (za0 zjo (zc3 zeb (pv 0) (zdd zan) (zdd zan)) (zcn (zaa zan zag))) zag)) (zm0 (n:=2) rfl (zb3 (zaw (i:=7) zdg.nd rfl oL) (zb3 (zaw (i:=8) zdg.nd rfl oL) zg7)))
   (zad (zax (i:=12) zdg.nd rfl oL (pfD Z.c2 av hr rfl (zaa (pv 8) (zaa (za0 zei zan (pv 7)) (zaa (pv 3) zag)))))
   (zad (zbw (PW.pt (zqi (ze9 (zcm (pfD Z.c8 d0 hr rfl (zaa (pv 4) (zaa (pv 5) (zaa (pv 9) (zaa (pv 12) (zaa (pv 6) (zaa (pv 11) zag))))))))) (zm1 (ze9 (zcm (pfD Z.cx db hr rfl (zaa (pv 4) (zaa (pv 9) zag))))))))
    (zah (zas ze7))
    zay)
   (zah (zax (i:=11) zdg.nd rfl oL (za0 zei (pv 11) (zdu zrm rfl Z.da.n_int zw_ (zaa (zl7 zty (za0 zci (pv 12) zan) zan (zbb _)) zag))))))))
  (zah (zas ze7))))))))))),?_⟩
 have br:Tab H Z.bk.P (zap zc5) quL:=Tab.new (hT _ ht0)
 have a9:Tab H Z.cs.P (zap zg0) quT:=Tab.new (hT _ ht1)
 have bv:Tab H Z.b6.P (zap zdx) quH:=Tab.new (hT _ ht3)
 have be:Tab H Z.ci.P (zap zf_) quN:=Tab.new (hT _ ht4)
 kt_k
 intro tp z r pb H1 du d1 fg e7 s1 dy
 obtain ⟨q1,q2⟩:=zzr du d1
 kt_k
 intro w ad hw bp u
 kt_k
 intro td sd gd H2 TT W2 a7 M2 b8 cf cy d3 b9 b7 cd
 have bm:zau H1 H2:=fun q o e=>cd q o (by rw [zab (zae e hw),zab (zae e bp)]; exact e) (zae e hw)
 have ag:=s1.trans bm
 have X2:zdw Z.ba.C Z.bb.C Z.bc.C Z.bk.P Z.cs.P Z.b6.P Z.ci.P H2 w td sd z r [] [] [] TT (ad,gd,0) [] (fun _=>0) (fun _=>[]):=zdw.new W2 ((ag.but _).2 _ _ br) ((ag.but _).2 _ _ a9) ((ag.but _).2 _ _ bv) ((ag.but _).2 _ _ be) a7 M2 b9 b7
 have au:∀ {q:Addr},upd (upd H1 ad (.own w)) w (.ins Z.bc.C ad []) q=none->H1 q=none:=fun {q} e=>by
  by_cases y:q=w
  ·rw [y]
   exact hw
  ·by_cases y2:q=ad
   ·rw [y2]
    exact bp
   ·rw [zab y,zab y2] at e
    exact e
 have nA:(∃ o,H1 a=some o)->¬ Om td sd z.toNat [] TT gd [] (fun _=>0) a:=fun ⟨o,e⟩ y=>by
  rcases zs6 y with y | y | y <;> rw [y] at e
  ·rw [au b8] at e
   cases e
  ·rw [au cf] at e
   cases e
  ·rw [au cy] at e
   cases e
 have bf:(∃ o,H a=some o)->∃ o,H1 a=some o:=fun ⟨o,e⟩=>⟨o,s1 _ _ e⟩
 have cc:(∃ o,H1 a=some o)->∃ o,H2 a=some o:=fun ⟨o,e⟩=>⟨o,bm _ _ e⟩
 clear s1 hw bp u b8 cf cy d3 cd bm dy W2 M2 b9 b7 au
 kt_k
 intro v aa hv b2 u
 kt_k
 intro ud vd ge H3 UU W3 a4 M3 bu bq bn d4 c4 ca cm
 have fr:∀ {q:Addr},upd (upd H2 aa (.own v)) v (.ins Z.bc.C aa []) q=none->H2 q=none:=fun {q} e=>by
  by_cases y:q=v
  ·rw [y]
   exact hv
  ·by_cases y2:q=aa
   ·rw [y2]
    exact b2
   ·rw [zab y,zab y2] at e
    exact e
 have bh:zau H2 H3:=fun q o e=>cm q o (by rw [zab (zae e hv),zab (zae e b2)]; exact e) (zae e hv)
 have af:=ag.trans bh
 have b5:=af.seq hS
 have Z3:zdw Z.ba.C Z.bb.C Z.bc.C Z.bk.P Z.cs.P Z.b6.P Z.ci.P H3 v ud vd z r [] [] [] TT (aa,ge,0) [] (fun _=>0) (fun _=>[]):=zdw.new W3 ((af.but _).2 _ _ br) ((af.but _).2 _ _ a9) ((af.but _).2 _ _ bv) ((af.but _).2 _ _ be) a4 M3 c4 ca
 have X3:Tw Z.ba.C Z.bb.C Z.bc.C Z.bk.P Z.cs.P Z.b6.P Z.ci.P H3 w v z r ⟨[],[],[],fun g=>(TT g).ns⟩ ⟨td,sd,TT,(ad,gd,0),[],fun _=>0,fun _=>[]⟩ ⟨ud,vd,TT,(aa,ge,0),[],fun _=>0,fun _=>[]⟩:=⟨⟨X2.same bh,rfl⟩,⟨Z3,rfl⟩,fun q y y2=>by
  rcases zs6 y2 with e | e | e
  ·exact X2.noneM (q:=q) (by rw [e]; exact fr bu) y
  ·exact X2.noneM (q:=q) (by rw [e]; exact fr bq) y
  ·exact X2.noneM (q:=q) (by rw [e]; exact fr bn) y,fun e=>by
  have:=X2.ob
  rw [<- e,hv] at this
  cases this⟩
 have nB:(∃ o,H2 a=some o)->¬ Om ud vd z.toNat [] TT ge [] (fun _=>0) a:=fun ⟨o,e⟩ y=>by
  rcases zs6 y with y | y | y <;> rw [y] at e
  ·rw [fr bu] at e
   cases e
  ·rw [fr bq] at e
   cases e
  ·rw [fr bn] at e
   cases e
 clear hv b2 u bu bq bn d4 cm bh ag W3 M3 c4 ca Z3 X2 a7 a4 fr
 kt_k
 intro c
 kt_k
 obtain ⟨ts,ay,eq⟩:=z3o ss 2 12
 have ay:zj8 (ss.map V.int) (some 2) (some 12)=ts.map V.int:=ay
 kt_k
 rw [ay]
 intro p1 al
 generalize aj:upd H3 p1 _=H4
 obtain ⟨s4,e4⟩:=nw al aj
 clear aj
 kt_k
 intro p2 am
 generalize ak:upd H4 p2 _=H5
 obtain ⟨s5,e5⟩:=nw am ak
 have bw:=s5 _ _ e4
 clear ak
 have ao:(ts.map V.int).length+[V.int 5,V.int 9].length<=sizeLine:=by
  rw [fj]
  exact gx (zar (show ts.length+2<=1000 by omega))
 kt_k
 intro L hL
 generalize ac:upd H5 L _=H6
 have s6:zau H5 H6:=by rw [<- ac]; exact zau.new H5 hL
 have cr:H6 L=some (.lst ((ts++[5,9]).map V.int)):=by rw [<- ac,zac,gy]; rfl
 clear ac
 have aw:=(s4.trans s5).trans s6
 have ck:=af.trans aw
 have X6:=X3.same aw
 have dv:=aw.seq b5
 have nL:¬ O2 _ _ z [] [] L:=X3.none ((s4.trans s5).free hL)
 have cw:(∃ o,H a=some o)->¬ O2 ⟨td,sd,TT,(ad,gd,0),[],fun _=>0,fun _=>[]⟩ ⟨ud,vd,TT,(aa,ge,0),[],fun _=>0,fun _=>[]⟩ z [] [] a:=fun h y=>y.elim (nA (bf h)) (nB (cc (bf h)))
 have ew:(ts++[5,9]).length<=12:=by
  rw [fm]
  show ts.length+2<=12
  omega
 have de:1<=(ts++[5,9]).length:=by
  rw [fm]
  show 1<=ts.length+2
  omega
 have ch:SqO K H6 (O2 ⟨td,sd,TT,(ad,gd,0),[],fun _=>0,fun _=>[]⟩ ⟨ud,vd,TT,(aa,ge,0),[],fun _=>0,fun _=>[]⟩ z [] []) a (ss.map V.int):=by
  rcases hS with h | h
  ·exact .inl ⟨Rd.same h ck,cw (h.elim (fun e=>⟨_,e⟩) fun ⟨o,e⟩=>⟨_,e⟩)⟩
  ·exact .inr h
 clear s4 s5 s6 aw ck e4 e5 bw al am hL br a9 bv be nA nB bf cc cw hS b5 dv X3 ao ay
 kt_k
 refine zpf (K:=K) (a:=L) (xs:=(ts++[5,9]).map V.int) (fun i σ H7=>zg3 (∃ (v7 v8:Option V) (s:TwS) (m p:MD),σ=[some (.ref a),some (.int z),some (.int r),some (.bl pb),some (.ref w),some (.ref v),some (.int (zrf c 1 pb % (1 * 2 ^ z.toNat))),v7,v8,none,none,none,none]/\Tw Z.ba.C Z.bb.C Z.bc.C Z.bk.P Z.cs.P Z.b6.P Z.ci.P H7 w v z r s m p/\m.ks=[]/\p.ks=[]/\m.dx.2.2=0/\s.sil=[]/\(1<=i->s.hs≠[])/\s.pool.length<=i/\SqO K H7 (O2 m p z s.hs s.hs) a (ss.map V.int)/\H7 L=some (.lst ((ts++[5,9]).map V.int))/\¬ O2 m p z s.hs s.hs L)) ⟨⟨_,_,_,_,_,rfl,X6,rfl,rfl,rfl,rfl,fun h=>absurd h (by decide),gf 0,ch,cr,nL⟩⟩ (fun i σ H7 _ ⟨_,_,_,_,_,_,_,_,_,_,_,_,_,_,e,_⟩=>SqL.of e) ?_ ?_
 ·rintro i y σ t tt hi ⟨v7,v8,s,m,p,rfl,cj,ai,ar,a2,a0,u,bj,a8,a6,bo⟩ bi
  obtain ⟨cell,ae,rfl⟩:=zfd hi
  have ei:i<12:=by
   have:=(List.getElem?_eq_some_iff.mp ae).1
   omega
  have s7:zau t (upd t tt (.tup [.int i,.int cell])):=zau.new t bi
  have aq:upd t tt (.tup [.int i,.int cell]) tt=some (.tup [.int i,.int cell]):=zac
  have X7:=cj.same s7
  have a1:=s7 _ _ a6
  have ap:=a8.kl (Kl.same s7)
  generalize upd t tt (.tup [.int i,.int cell])=H7 at s7 aq X7 a1 ap |-
  clear cj a6 s7 a8
  have eh:s.pool.length<60:=by omega
  have fc:=X7.a
  kt_k
  intro H8 m8 A8 dw dn dm
  obtain ⟨X8,dt⟩:=X7.first A8 dm
  have es:=X8.b
  kt_k
  intro H9 p9 B9 dz e3 ds
  obtain ⟨X9,bz⟩:=X8.second B9 ds
  have a5:=dt.trans bz
  obtain ⟨d6,dg⟩:=a5.lst a1 bo
  kt_k
  refine ⟨⟨_,_,_,m8,p9,rfl,X9,dw.trans ai,dz.trans ar,by rw [dn]; exact a2,by rw [zr0]; exact a0,fun _=>zwg,?_,ap.kl a5,d6,dg⟩⟩
  exact gm zqs (by omega)
 ·rintro σ H7 ⟨v7,v8,s,m,p,rfl,X7,ai,ar,a2,a0,u,bj,ap,a1,bo⟩
  rw [fj] at u bj
  have u:=u de
  have bg:s.pool.length<=12:=by omega
  clear a1 bo cr nL X6 ch
  kt_k
  intro sh an
  generalize cu:upd H7 sh _=H8
  obtain ⟨s8,e8⟩:=nw an cu
  clear cu
  have X8:=X7.same s8
  have d5:=X8.a.X.X.W
  have ct:=X8.a.X.ob
  kt_k
  intro l hl
  generalize cg:upd H8 l _=H9
  obtain ⟨s9,e9⟩:=nw hl cg
  clear cg
  have ah:=s8.trans s9
  have ax:=s9 _ _ e8
  have cz:l≠sh:=fun y=>by rw [y,ax] at e9; cases e9
  have cv:(zaq s.hs).Nodup:=(zam _).nodup_iff.mpr X7.a.X.X.W.nd
  have c1:(zaq s.hs).length<=12:=by rw [zbh]; exact X7.a.X.X.n12
  clear X8 d5 ct
  kt_k
  refine zbs (K:=K) (a:=l) (xs:=(zaq s.hs).map V.int) (fun j σ Ha=>zg3 (∃ (ab:Option V) (la:Int->Addr),σ=[some (.ref a),some (.int z),some (.int r),some (.bl pb),some (.ref w),some (.ref v),some (.int (zrf c 1 pb % (1 * 2 ^ z.toNat))),v7,v8,some (.ref sh),ab,none,none]/\zh0 Ha sh ((zaq s.hs).take j) la (fun _=>[])/\(∀ q,Ng sh ((zaq s.hs).take j) la q->H7 q=none)/\(∀ q o,q≠sh->H9 q=some o->Ha q=some o)/\∀ q,Ha q=none->H9 q=none)) ?_ (fun j σ Ha _ ⟨_,_,_,_,_,ka,_⟩=>SqL.of (ka _ _ cz e9)) ?_ ?_
  ·exact ⟨⟨_,fun _=>0,rfl,⟨ax,fun h hh=>(nomatch hh),fun h hh=>(nomatch hh),fun h hh=>(nomatch hh),fun h hh=>(nomatch hh),fun h hh=>(nomatch hh)⟩,fun q y=>y.elim (fun e=>e ▸ an) fun ⟨k,hk,_⟩=>(nomatch hk),fun _ _ _ e=>e,fun _ e=>e⟩⟩
  ·rintro j y σ Ha hj ⟨ab,la,rfl,Ya,fa,ka,ga⟩
   obtain ⟨g,hg,rfl⟩:=zfd hj
   have dc:g∉(zaq s.hs).take j:=fun y=>by
    obtain ⟨i,hi,e⟩:=List.mem_take_iff_getElem.mp y
    obtain ⟨h2,e2⟩:=List.getElem?_eq_some_iff.mp hg
    have:=(jo cv).mp (e.trans e2.symm)
    omega
   kt_k
   intro d hd
   have di:sh≠d:=fun y=>by
    have:=Ya.d
    rw [y,hd] at this
    cases this
   have co:(thD ((zaq s.hs).take j) la).length<sizeLine:=by
    unfold thD
    rw [fj,gq]
    exact zar (by omega)
   have ec:zkl (upd Ha d (.dK [])) sh (V.int g) (V.ref d) (upd (upd Ha d (.dK [])) sh (.dK (zd3 (thD ((zaq s.hs).take j) la) (Sum.inl g) (V.ref d)))):=zkl.k (k:=Sum.inl g) (by rw [zab di]; exact Ya.d) co
   have Yb:=Ya.add dc hd
   rw [show zcu (fun _=>([]:List (Int × Th))) g []=fun _=>[] from zv2 (N:=fun _=>[])] at Yb
   kt_k
   refine ⟨⟨_,_,rfl,by rw [zcc hg]; exact Yb,fun q y=>?_,fun q o hq e=>?_,fun q e=>?_⟩⟩
   ·rw [zcc hg] at y
    rcases y with y | ⟨x,hx,y⟩
    ·exact fa q (.inl y)
    ·by_cases e:x=g
     ·rw [e,zaj] at y
      rw [y]
      exact ah.free (ga d hd)
     ·rw [zao e] at y
      exact fa q (.inr ⟨x,(fq.mp hx).elim id fun z=>absurd (fi.mp z) e,y⟩)
   ·rw [zab hq,zab (fun y=>by
     have:=ka q o hq e
     rw [y,hd] at this
     cases this)]
    exact ka q o hq e
   ·by_cases y:q=sh
    ·rw [y,zac] at e
     cases e
    ·by_cases y2:q=d
     ·rw [y2]
      exact ga d hd
     ·rw [zab y,zab y2] at e
      exact ga q e
  ·rintro σ Ha ⟨ab,la,rfl,Ya,fa,ka,ga⟩
   rw [fj,gr] at Ya fa
   have cp:=X7.none an
   have Xa:Tw Z.ba.C Z.bb.C Z.bc.C Z.bk.P Z.cs.P Z.b6.P Z.ci.P Ha w v z r s m p:=(X7.same ah).past (O:=fun q=>q=sh) (fun q y=>⟨by rw [y]; exact cp,.inl ⟨[],by rw [y]; exact ax⟩⟩) fun q o e hq=>ka q o hq e
   have kA:Kl H7 Ha (O2 m p z s.hs s.hs) (Ol2 m p z s.hs sh (zaq s.hs) la):=⟨fun q o _ e _=>ka q o (fun y=>by rw [y,an] at e; cases e) (ah _ _ e),fun q y=>y.imp id (fa q),fun q e=>ah.free (ga q e)⟩
   have La:LS2 Z.ba.C Z.bb.C Z.bc.C Z.bk.P Z.cs.P Z.b6.P Z.ci.P Ha w v sh z r 0 0 (Ol2 m p z s.hs sh (zaq s.hs) la):=by
    refine ⟨⟨s,m,p,zaq s.hs,la,fun _=>[],⟨Xa,Ya,zam _,fun q y=>X7.none (fa q y),fun g hg x=>?_,fun g hg e he=>(nomatch he),ar⟩,by omega,by rw [ai]; decide,a2,?_,rfl⟩⟩
    ·rw [Xa.a.X.M.go x (by rw [ai]; exact fun y=>nomatch y)]
     rfl
    ·obtain ⟨y,hy⟩:=List.exists_mem_of_ne_nil _ u
     exact zob hy (by rw [a0]; exact fun y=>nomatch y)
   have dp:=(ap.kl kA).seq
   generalize Ol2 m p z s.hs sh (zaq s.hs) la=Oa at La
   obtain ⟨us,az,e0⟩:=z3o ss 12 60
   have az:zj8 (ss.map V.int) (some 12) (some 60)=us.map V.int:=az
   clear kA Xa ap X7 Ya fa ka ga ax e9 e8 ah s8 s9 an hl cp ai ar a2 a0 u bj bg cz cv c1
   kt_k
   rw [az]
   intro p1 al
   generalize aj:upd Ha p1 _=H4
   obtain ⟨s4,e4⟩:=nw al aj
   clear aj
   kt_k
   intro p2 am
   generalize ak:upd H4 p2 _=H5
   obtain ⟨s5,e5⟩:=nw am ak
   have bw:=s5 _ _ e4
   clear ak
   have ao:(us.map V.int).length+[V.int 3].length<=sizeLine:=by
    rw [fj]
    exact gx (zar (show us.length+1<=1000 by omega))
   kt_k
   intro M hM
   generalize ac:upd H5 M _=H6
   have s6:zau H5 H6:=by rw [<- ac]; exact zau.new H5 hM
   have dq:H6 M=some (.lst ((us++[3]).map V.int)):=by rw [<- ac,zac,gy]; rfl
   clear ac
   have L6:=La.same ((s4.trans s5).trans s6)
   have nM:¬ Oa M:=La.none ((s4.trans s5).free hM)
   have el:(us++[3]).length<=49:=by
    rw [fm,fu]
    omega
   clear s4 s5 s6 e4 e5 bw al am hM La az ao dp
   kt_k
   refine zpf (K:=K) (a:=M) (xs:=(us++[3]).map V.int) (fun i σ H7=>zg3 (∃ (v7 v8 ab b1:Option V) (cn:Int) (O:Addr->Prop),σ=[some (.ref a),some (.int z),some (.int r),some (.bl pb),some (.ref w),some (.ref v),some (.int (zrf c 1 pb % (1 * 2 ^ z.toNat))),v7,v8,some (.ref sh),ab,some (.int cn),b1]/\LS2 Z.ba.C Z.bb.C Z.bc.C Z.bk.P Z.cs.P Z.b6.P Z.ci.P H7 w v sh z r cn i O/\H7 M=some (.lst ((us++[3]).map V.int))/\¬ O M)) ⟨⟨_,_,_,_,0,Oa,rfl,L6,dq,nM⟩⟩ (fun i σ H7 _ ⟨_,_,_,_,_,_,_,_,e,_⟩=>SqL.of e) ?_ ?_
   ·rintro i y σ t tt hi ⟨v7,v8,ab,b1,cn,O,rfl,c6,a3,ce⟩ bi
    obtain ⟨cell,ae,rfl⟩:=zfd hi
    have ee:i<49:=by
     have:=(List.getElem?_eq_some_iff.mp ae).1
     omega
    have s7:zau t (upd t tt (.tup [.int i,.int cell])):=zau.new t bi
    have aq:upd t tt (.tup [.int i,.int cell]) tt=some (.tup [.int i,.int cell]):=zac
    have L7:=c6.same s7
    have bt:=s7 _ _ a3
    generalize upd t tt (.tup [.int i,.int cell])=H7 at s7 aq L7 bt |-
    clear c6 a3 s7
    have ed:i<=55:=by omega
    kt_k
    generalize zrf cell (20+i) pb=x
    kt_k
    intro H9 O9 L9 bz
    obtain ⟨d2,dd⟩:=bz.lst bt ce
    obtain ⟨s9,m9,p9,em,eo,S9,X9,eu,e1,ev,e6,fb⟩:=L9.ex
    have er:=X9.X.a.X.X.W
    have d9:=X9.X.a.X.X.n12
    have d8:=X9.X.a.X.ob
    have ef:=X9.X.a.X.M
    have ea:m9.ks.length<64:=by omega
    have en:=X9.Y
    have eb:=X9.lp
    have ff:=X9.R
    have ey:=X9.o
    kt_k
    intro Hb sb
    kt_k
    refine .inr ⟨_,rfl,?_⟩
    kt_k
    exact ⟨⟨_,_,_,_,_,O9,rfl,L9.same sb,sb _ _ d2,dd⟩⟩
   ·rintro σ H7 ⟨v7,v8,ab,b1,cn,O,rfl,L7,bt,ce⟩
    kt_k
    exact k H7
theorem us5 {R:List Value->Prop}(h:∀ a b c d e,R [a,b,c,d,e]):∀ us:List Value,us.length=5->R us:=usS fun a=>us4 (h a)
theorem us6 {R:List Value->Prop}(h:∀ a b c d e f,R [a,b,c,d,e,f]):∀ us:List Value,us.length=6->R us:=usS fun a=>us5 (h a)
structure FM (K:W.Frag)(C:Addr)(m q:Str)(st:Stmt)(f:Addr)(g:FuncData):Prop where
 a:PySem.W.findIn K (.ref C) m=some (some (.ref f))
 i:PySem.W.isFn K (.ref f)=true
 F:Fun K m q st f g
structure FD (K:W.Frag)(x:Str)(st:Stmt)(f:Addr)(g:FuncData):Prop where
 a:PySem.W.nsIn K mainGlobals x=some (some (.ref f))
 F:Fun K x x st f g
end
open PySem.W in
theorem all_mk {l:OpenLaw}{w:World}{K:Frag}{h:Heap}{mg:Str->Option Value}{ts:List Addr}{fa C0 f0 f1 f2 f3 f4 C1 f5 f6 T7 f7 f8 f9 f10 C2 f11 C3 f12 f13 f14 f15 f16 f17 f18 T19 f19 f20 f21 f22 f23 f24 f25 f26 c26 P26 f27 c27 P27 f28 f29 f30 f31 f32 f33 f34 c34 P34 f35 f36 f37 E0 E1 E2 E3 E4 f38 c38 P38 f39 f40 f41 f42 f43 f44 f45 f46 f47 f48 f49 f50 f51 f52 f53 f54 f55 f56 f57 f58 f59 f60:Addr}(X:K.In h)(G:h.Ns mainGlobals mg)(hfa:mg "law" = some (.ref fa))
  {td7 od7 an7 td19 od19 an19 od26 an26 qb26 od27 an27 qb27 od34 an34 qb34 od38 an38 qb38 od60 an60:Option Addr}{ts7 sl7 ts19 sl19 sl26 qs26 sl27 qs27 sl34 qs34 sl38 qs38 sl60:Array (Option Value)}{to7 oc7 kV7 dc7 pm7 ct7 cd7 to19 oc19 kV19 dc19 pm19 ct19 cd19 oc26 kV26 dc26 pm26 ct26 qa26 oc27 kV27 dc27 pm27 ct27 qa27 oc34 kV34 dc34 pm34 ct34 qa34 oc38 kV38 dc38 pm38 ct38 qa38 oc60 kV60 dc60 pm60 ct60 cd60:Value}{qv26 qv27 qv34 qv38:Array Value}{tn7 tn19:Nat}{g0 g1 g2 g3 g4 g5 g6 g8 g9 g10 g11 g12 g13 g14 g15 g16 g17 g18 g20 g21 g22 g23 g24 g25 g28 g29 g30 g31 g32 g33 g35 g36 g37 g39 g40 g41 g42 g43 g44 g45 g46 g47 g48 g49 g50 g51 g52 g53 g54 g55 g56 g57 g58 g59:FuncData}
  (aC0:nsIn K mainGlobals "Bucket" = some (some (.ref C0)))(pg0:plainGet K C0 Str.empty=true)(hd0:hasDictIn K C0=true)(po0:plainOver K C0=true)(sa0:findIn K (.ref C0) "__setattr__" = some (some (.builtin "object.__setattr__")))(mk0:makesIn K C0=true)(kc0:keepIn K (.ref C0)=true)
  (na0_0:findIn K (.ref C0) "room" = some none)
  (na0_1:findIn K (.ref C0) "order" = some none)
  (M0:FM K C0 "__init__" "Bucket.__init__" (zaf (top 20) 0) f0 g0)
  (M1:FM K C0 "names" "Bucket.names" (zaf (top 20) 4) f1 g1)
  (M2:FM K C0 "hears_when_full" "Bucket.hears_when_full" (zaf (top 20) 2) f2 g2)
  (M3:FM K C0 "hears" "Bucket.hears" (zaf (top 20) 1) f3 g3)
  (M4:FM K C0 "drops" "Bucket.drops" (zaf (top 20) 3) f4 g4)
  (aC1:nsIn K mainGlobals "Table" = some (some (.ref C1)))(pg1:plainGet K C1 Str.empty=true)(hd1:hasDictIn K C1=true)(po1:plainOver K C1=true)(sa1:findIn K (.ref C1) "__setattr__" = some (some (.builtin "object.__setattr__")))(mk1:makesIn K C1=true)(kc1:keepIn K (.ref C1)=true)
  (na1_0:findIn K (.ref C1) "own" = some none)
  (na1_1:findIn K (.ref C1) "wide" = some none)
  (na1_2:findIn K (.ref C1) "room" = some none)
  (na1_3:findIn K (.ref C1) "buckets" = some none)
  (M5:FM K C1 "__init__" "Table.__init__" (zaf (top 22) 0) f5 g5)
  (M6:FM K C1 "keeps" "Table.keeps" (zaf (top 22) 5) f6 g6)
  (a7:findIn K (.ref C1) "nearest" = some (some (.ref f7)))
  (i7:isFn K (.ref f7)=true)
  (l7:K.lookup f7=some ⟨oc7,od7,.func (fnOf "nearest" "Table.nearest" (zb6 (zaf (top 22) 6)) (zbd (zaf (top 22) 6)) (zai (zaf (top 22) 6)) (.ref T7) kV7 dc7 pm7 an7 cd7 ct7),sl7⟩)
  (ld7:K.lookup T7=some ⟨to7,td7,.seq #[Value.none] tn7,ts7⟩)
  (e7:codeIn K cd7 "Table.nearest" = true)(k7:keepIn K (.ref f7)=true)
  (M8:FM K C1 "bucket_of" "Table.bucket_of" (zaf (top 22) 3) f8 g8)
  (M9:FM K C1 "hears" "Table.hears" (zaf (top 22) 1) f9 g9)
  (M10:FM K C1 "drops" "Table.drops" (zaf (top 22) 2) f10 g10)
  (aC2:nsIn K mainGlobals "Town" = some (some (.ref C2)))(pg2:plainGet K C2 Str.empty=true)(hd2:hasDictIn K C2=true)(po2:plainOver K C2=true)(sa2:findIn K (.ref C2) "__setattr__" = some (some (.builtin "object.__setattr__")))(mk2:makesIn K C2=true)(kc2:keepIn K (.ref C2)=true)
  (M11:FM K C2 "__init__" "Town.__init__" (zaf (top 25) 0) f11 g11)
  (aC3:nsIn K mainGlobals "Market" = some (some (.ref C3)))(pg3:plainGet K C3 Str.empty=true)(hd3:hasDictIn K C3=true)(po3:plainOver K C3=true)(sa3:findIn K (.ref C3) "__setattr__" = some (some (.builtin "object.__setattr__")))(mk3:makesIn K C3=true)(kc3:keepIn K (.ref C3)=true)
  (na3_0:findIn K (.ref C3) "wide" = some none)
  (na3_1:findIn K (.ref C3) "room" = some none)
  (na3_2:findIn K (.ref C3) "tables" = some none)
  (na3_3:findIn K (.ref C3) "silent" = some none)
  (na3_4:findIn K (.ref C3) "things" = some none)
  (na3_5:findIn K (.ref C3) "layings" = some none)
  (M12:FM K C3 "__init__" "Market.__init__" (zaf (top 27) 0) f12 g12)
  (M13:FM K C3 "houses" "Town.houses" (zaf (top 25) 1) f13 g13)
  (M14:FM K C3 "answering" "Town.answering" (zaf (top 25) 2) f14 g14)
  (M15:FM K C3 "is_house" "Town.is_house" (zaf (top 25) 4) f15 g15)
  (M16:FM K C3 "answers" "Town.answers" (zaf (top 25) 3) f16 g16)
  (M17:FM K C3 "tells" "Town.tells" (zaf (top 25) 7) f17 g17)
  (M18:FM K C3 "come_to" "Town.come_to" (zaf (top 25) 8) f18 g18)
  (a19:findIn K (.ref C3) "come" = some (some (.ref f19)))
  (i19:isFn K (.ref f19)=true)
  (l19:K.lookup f19=some ⟨oc19,od19,.func (fnOf "come" "Town.come" (zb6 (zaf (top 25) 11)) (zbd (zaf (top 25) 11)) (zai (zaf (top 25) 11)) (.ref T19) kV19 dc19 pm19 an19 cd19 ct19),sl19⟩)
  (ld19:K.lookup T19=some ⟨to19,td19,.seq #[Value.none] tn19,ts19⟩)
  (e19:codeIn K cd19 "Town.come" = true)(k19:keepIn K (.ref f19)=true)
  (M20:FM K C3 "go" "Town.go" (zaf (top 25) 12) f20 g20)
  (M21:FM K C3 "hush" "Town.hush" (zaf (top 25) 13) f21 g21)
  (M22:FM K C3 "check_name" "Town.check_name" (zaf (top 25) 15) f22 g22)
  (M23:FM K C3 "check_house" "Town.check_house" (zaf (top 25) 16) f23 g23)
  (M24:FM K C3 "check_answering" "Town.check_answering" (zaf (top 25) 17) f24 g24)
  (M25:FM K C3 "visits" "Town.visits" (zaf (top 25) 23) f25 g25)
  (a26:findIn K (.ref C3) "teller" = some (some (.ref f26)))
  (i26:isFn K (.ref f26)=true)
  (l26:K.lookup f26=some ⟨oc26,od26,.func (fnOf "teller" "Town.teller" (zb6 (zaf (top 25) 18)) (zbd (zaf (top 25) 18)) (zai (zaf (top 25) 18)) .none kV26 dc26 pm26 an26 (.ref c26) ct26),sl26⟩)
  (e26:codeIn K (.ref c26) "Town.teller" = true)(k26:keepIn K (.ref f26)=true)
  (t26:K.lookup c26=some ⟨qa26,qb26,.fields qv26,qs26⟩)(r26:(qv26[11]? : Option Value)=some (.ref P26))
  (h26:codeHdIn K c26 P26=true)(n26:K.lookup P26=none)(m26:P26∈ts)
  (a27:findIn K (.ref C3) "hears_of" = some (some (.ref f27)))
  (i27:isFn K (.ref f27)=true)
  (l27:K.lookup f27=some ⟨oc27,od27,.func (fnOf "hears_of" "Town.hears_of" (zb6 (zaf (top 25) 25)) (zbd (zaf (top 25) 25)) (zai (zaf (top 25) 25)) .none kV27 dc27 pm27 an27 (.ref c27) ct27),sl27⟩)
  (e27:codeIn K (.ref c27) "Town.hears_of" = true)(k27:keepIn K (.ref f27)=true)
  (t27:K.lookup c27=some ⟨qa27,qb27,.fields qv27,qs27⟩)(r27:(qv27[11]? : Option Value)=some (.ref P27))
  (h27:codeHdIn K c27 P27=true)(n27:K.lookup P27=none)(m27:P27∈ts)
  (M28:FM K C3 "meet" "Town.meet" (zaf (top 25) 24) f28 g28)
  (M29:FM K C3 "learns" "Town.learns" (zaf (top 25) 21) f29 g29)
  (M30:FM K C3 "ask" "Town.ask" (zaf (top 25) 9) f30 g30)
  (M31:FM K C3 "settles" "Market.settles" (zaf (top 27) 9) f31 g31)
  (M32:FM K C3 "leaves" "Market.leaves" (zaf (top 27) 10) f32 g32)
  (M33:FM K C3 "puts" "Market.puts" (zaf (top 27) 7) f33 g33)
  (a34:findIn K (.ref C3) "newest" = some (some (.ref f34)))
  (i34:isFn K (.ref f34)=true)
  (l34:K.lookup f34=some ⟨oc34,od34,.func (fnOf "newest" "Market.newest" (zb6 (zaf (top 27) 8)) (zbd (zaf (top 27) 8)) (zai (zaf (top 27) 8)) .none kV34 dc34 pm34 an34 (.ref c34) ct34),sl34⟩)
  (e34:codeIn K (.ref c34) "Market.newest" = true)(k34:keepIn K (.ref f34)=true)
  (t34:K.lookup c34=some ⟨qa34,qb34,.fields qv34,qs34⟩)(r34:(qv34[11]? : Option Value)=some (.ref P34))
  (h34:codeHdIn K c34 P34=true)(n34:K.lookup P34=none)(m34:P34∈ts)
  (M35:FM K C3 "lays" "Market.lays" (zaf (top 27) 5) f35 g35)
  (M36:FM K C3 "lay" "Market.lay" (zaf (top 27) 1) f36 g36)
  (M37:FM K C3 "kept" "Market.kept" (zaf (top 27) 3) f37 g37)
  (cg0:specialIn K (.ref C2) "__getattribute__" = some (some (.builtin "type.__getattribute__")))(cr0:readsIn K C2 (.type "type")=true)(cf0:findCls K (.ref C2) (.type "type") "__init__" = some (.val (.ref f11)))(ck0:keepIn K (.ref f11)=true)
  (aE0:nsIn K mainGlobals "NoSize" = some (some (.ref E0)))(xE0:excIn K E0 bmV "ValueError.__new__" = true)
  (aE1:nsIn K mainGlobals "NoName" = some (some (.ref E1)))(xE1:excIn K E1 bmV "ValueError.__new__" = true)
  (aE2:nsIn K mainGlobals "NoHouse" = some (some (.ref E2)))(xE2:excIn K E2 bmV "ValueError.__new__" = true)
  (aE3:nsIn K mainGlobals "Silent" = some (some (.ref E3)))(xE3:excIn K E3 bmV "ValueError.__new__" = true)
  (aE4:nsIn K mainGlobals "Taken" = some (some (.ref E4)))(xE4:excIn K E4 bmV "ValueError.__new__" = true)
  (a38:nsIn K mainGlobals "by_nearness" = some (some (.ref f38)))
  (l38:K.lookup f38=some ⟨oc38,od38,.func (fnOf "by_nearness" "by_nearness" (zb6 (top 12)) (zbd (top 12)) (zai (top 12)) .none kV38 dc38 pm38 an38 (.ref c38) ct38),sl38⟩)
  (e38:codeIn K (.ref c38) "by_nearness" = true)(k38:keepIn K (.ref f38)=true)
  (t38:K.lookup c38=some ⟨qa38,qb38,.fields qv38,qs38⟩)(r38:(qv38[11]? : Option Value)=some (.ref P38))
  (h38:codeHdIn K c38 P38=true)(n38:K.lookup P38=none)(m38:P38∈ts)
  (M39:FD K "is_whole" (top 9) f39 g39)
  (M40:FD K "is_name" (top 10) f40 g40)
  (M41:FD K "far" (top 11) f41 g41)
  (M42:FD K "step" (top 13) f42 g42)
  (M43:FD K "asked" (top 15) f43 g43)
  (M44:FD K "note_told" (top 16) f44 g44)
  (M45:FD K "standing" (top 17) f45 g45)
  (M46:FD K "first_unasked" (top 18) f46 g46)
  (M47:FD K "is_size" (top 24) f47 g47)
  (M48:FD K "_law_cell_at" (top 29) f48 g48)
  (M49:FD K "_law_mixed" (top 30) f49 g49)
  (M50:FD K "_law_draw" (top 31) f50 g50)
  (M51:FD K "_law_sizes" (top 32) f51 g51)
  (M52:FD K "_law_name" (top 33) f52 g52)
  (M53:FD K "_law_come" (top 34) f53 g53)
  (M54:FD K "_law_nearest" (top 35) f54 g54)
  (M55:FD K "_law_kept" (top 36) f55 g55)
  (M56:FD K "_law_text" (top 37) f56 g56)
  (M57:FD K "_law_both" (top 38) f57 g57)
  (M58:FD K "_law_laid" (top 39) f58 g58)
  (M59:FD K "_law_turn" (top 40) f59 g59)
  (a60:nsIn K mainGlobals "law" = some (some (.ref f60)))
  (l60:K.lookup f60=some ⟨oc60,od60,.func (fnOf "law" "law" (zb6 (top 41)) (zbd (top 41)) (zai (top 41)) .none kV60 dc60 pm60 an60 cd60 ct60),sl60⟩)
  (e60:codeIn K cd60 "law" = true)(k60:keepIn K (.ref f60)=true)
  (hne01:P38≠P26)
  (hne03:P38≠P27)
  (hne13:P26≠P27)
  (hne04:P38≠P34)
  (hne14:P26≠P34)
  (hne34:P27≠P34)
  (z0:nsIn K mainGlobals "len" = some none)(z1:nsIn K mainGlobals "abs" = some none)(z2:nsIn K mainGlobals "isinstance" = some none)(z3:nsIn K mainGlobals "int" = some none)(z4:nsIn K mainGlobals "bool" = some none)(z5:nsIn K mainGlobals "str" = some none)(z6:nsIn K mainGlobals "list" = some none)(z7:nsIn K mainGlobals "range" = some none)(z8:nsIn K mainGlobals "min" = some none)(z9:nsIn K mainGlobals "sorted" = some none)(z10:nsIn K mainGlobals "sum" = some none)(z11:nsIn K mainGlobals "enumerate" = some none)(z12:nsIn K mainGlobals "set" = some none)(z13:nsIn K mainGlobals "max" = some none)(z14:nsIn K mainGlobals "all" = some none)(z15:nsIn K mainGlobals "tuple" = some none) :
  ∃ (fd:FuncData) (tabs:List (Addr × Addr)),(∀ q∈tabs,q.2∈ts/\codeHdIn K q.1 q.2=true/\K.lookup q.2=none)/\(∀ (s:Shared) (v:Value),BindsTo s fd ⟨[v],[]⟩ [("_law_script",v)])/\∀ base:Heap,K.In base->base.Ns mainGlobals mg->(∀ q∈tabs,base.BuiltinsAt mg q.2)->zdl l.prog w K mg base CX0 20 fa fd ["_law_script"] (zo_ K tabs):=by
 have e:=hfa.symm.trans (mg_of X G a60)
 cases e
 have T:Txt mg:=⟨mg_none_of X G z0,mg_none_of X G z1,mg_none_of X G z2,mg_none_of X G z3,mg_none_of X G z4,mg_none_of X G z5,mg_none_of X G z6,mg_none_of X G z7,mg_none_of X G z8,mg_none_of X G z9,mg_none_of X G z10,mg_none_of X G z11,mg_none_of X G z12,mg_none_of X G z13,mg_none_of X G z14,mg_none_of X G z15⟩
 let zvg:DfC K mg "Bucket" ["room","order"]:=⟨C0,mg_of X G aC0,⟨pg0,hd0,po0,sa0⟩,⟨na0_0,⟨na0_1,trivial⟩⟩,mk0,kc0⟩
 let ztg:DfC K mg "Table" ["own","wide","room","buckets"]:=⟨C1,mg_of X G aC1,⟨pg1,hd1,po1,sa1⟩,⟨na1_0,⟨na1_1,⟨na1_2,⟨na1_3,trivial⟩⟩⟩⟩,mk1,kc1⟩
 let zjd:zx7 K ztg.C "nearest" "Table.nearest" (zaf (top 22) 6) ["self","goal","many","but"] [Value.none]:=⟨f7,_,⟨_,_,_,_,_,_,_,_,_,_,rfl,l7,e7⟩,⟨a7,i7,k7⟩,
  fun s us hK hl=>by
   obtain ⟨u0,u1,u2,u3,rfl⟩:=zyg hl
   exact BindsTo.of_defaults rfl (hK _ _ ld7) rfl rfl rfl,
  fun s us hK hl=>by
   obtain ⟨u0,u1,u2,rfl⟩:=zzd hl
   exact BindsTo.of_defaults rfl (hK _ _ ld7) rfl rfl rfl⟩
 let zt0:DfC K mg "Town" []:=⟨C2,mg_of X G aC2,⟨pg2,hd2,po2,sa2⟩,trivial,mk2,kc2⟩
 let ze6:DfM K zt0.C "__init__" "Town.__init__" (zaf (top 25) 0) ["self","wide","room"]:=⟨_,_,M11.F,⟨M11.a,M11.i,M11.F.kp⟩,M11.F.binds fun _ _ _ _ _ _=>us3 fun _ _ _=>rfl⟩
 let zg2:DfC K mg "Market" ["wide","room","tables","silent","things","layings"]:=⟨C3,mg_of X G aC3,⟨pg3,hd3,po3,sa3⟩,⟨na3_0,⟨na3_1,⟨na3_2,⟨na3_3,⟨na3_4,⟨na3_5,trivial⟩⟩⟩⟩⟩⟩,mk3,kc3⟩
 let zoz:zx7 K zg2.C "come" "Town.come" (zaf (top 25) 11) ["self","name","door"] [Value.none]:=⟨f19,_,⟨_,_,_,_,_,_,_,_,_,_,rfl,l19,e19⟩,⟨a19,i19,k19⟩,
  fun s us hK hl=>by
   obtain ⟨u0,u1,u2,rfl⟩:=z0h hl
   exact BindsTo.of_defaults rfl (hK _ _ ld19) rfl rfl rfl,
  fun s us hK hl=>by
   obtain ⟨u0,u1,rfl⟩:=zyl hl
   exact BindsTo.of_defaults rfl (hK _ _ ld19) rfl rfl rfl⟩
 let zdi:zuh K zg2.C "teller" "Town.teller" (zaf (top 25) 18) ["self"]:=⟨f26,c26,P26,_,⟨_,_,_,_,_,_,_,_,rfl,l26⟩,e26,h26,n26,⟨a26,i26,k26⟩,(zhs (st:=zaf (top 25) 18) l26 e26 k26).binds fun _ _ _ _ _ _=>us1 fun _=>rfl⟩
 let zco:zuh K zg2.C "hears_of" "Town.hears_of" (zaf (top 25) 25) ["self","house","name"]:=⟨f27,c27,P27,_,⟨_,_,_,_,_,_,_,_,rfl,l27⟩,e27,h27,n27,⟨a27,i27,k27⟩,(zhs (st:=zaf (top 25) 25) l27 e27 k27).binds fun _ _ _ _ _ _=>us3 fun _ _ _=>rfl⟩
 let zcq:zuh K zg2.C "newest" "Market.newest" (zaf (top 27) 8) ["self","key","houses"]:=⟨f34,c34,P34,_,⟨_,_,_,_,_,_,_,_,rfl,l34⟩,e34,h34,n34,⟨a34,i34,k34⟩,(zhs (st:=zaf (top 27) 8) l34 e34 k34).binds fun _ _ _ _ _ _=>us3 fun _ _ _=>rfl⟩
 have hM_Town___init__:zve K zt0.C "__init__" ze6.f:=⟨cg0,cr0,cf0,ck0⟩
 let zws:DfE K mg "NoSize" :=⟨E0,mg_of X G aE0,xE0⟩
 let zuk:DfE K mg "NoName" :=⟨E1,mg_of X G aE1,xE1⟩
 let zrl:DfE K mg "NoHouse" :=⟨E2,mg_of X G aE2,xE2⟩
 let zux:DfE K mg "Silent" :=⟨E3,mg_of X G aE3,xE3⟩
 let zy0:DfE K mg "Taken" :=⟨E4,mg_of X G aE4,xE4⟩
 let zdk:DfF K mg "by_nearness" (top 12) ["goal","names"]:=⟨f38,c38,P38,_,⟨_,_,_,_,_,_,_,_,rfl,l38⟩,e38,h38,n38,k38,mg_of X G a38,(zhs (st:=top 12) l38 e38 k38).binds fun _ _ _ _ _ _=>us2 fun _ _=>rfl⟩
 refine ⟨fnOf "law" "law" (zb6 (top 41)) (zbd (top 41)) (zai (top 41)) .none kV60 dc60 pm60 an60 cd60 ct60,[(c26,P26),(c27,P27),(c34,P34),(c38,P38)],fun q hq=>by
  simp only [gs,jq,or_false] at hq
  rcases hq with rfl | rfl | rfl | rfl
  ·exact ⟨m26,h26,n26⟩
  ·exact ⟨m27,h27,n27⟩
  ·exact ⟨m34,h34,n34⟩
  ·exact ⟨m38,h38,n38⟩,fun s v=> .of_eq rfl,fun base hK hG hB=>?_⟩
 have ht_Town_teller:(zdi.c,zdi.P)∈([(c26,P26),(c27,P27),(c34,P34),(c38,P38)]:List (Addr × Addr)):= .head _
 have hB_Town_teller:base.BuiltinsAt mg zdi.P:=hB (c26,P26) (by simp)
 have ht_Town_hears_of:(zco.c,zco.P)∈([(c26,P26),(c27,P27),(c34,P34),(c38,P38)]:List (Addr × Addr)):= .tail _ (.head _)
 have hB_Town_hears_of:base.BuiltinsAt mg zco.P:=hB (c27,P27) (by simp)
 have ht_Market_newest:(zcq.c,zcq.P)∈([(c26,P26),(c27,P27),(c34,P34),(c38,P38)]:List (Addr × Addr)):= .tail _ (.tail _ (.head _))
 have hB_Market_newest:base.BuiltinsAt mg zcq.P:=hB (c34,P34) (by simp)
 have ht_by_nearness:(zdk.c,zdk.P)∈([(c26,P26),(c27,P27),(c34,P34),(c38,P38)]:List (Addr × Addr)):= .tail _ (.tail _ (.tail _ (.head _)))
 have hB_by_nearness:base.BuiltinsAt mg zdk.P:=hB (c38,P38) (by simp)
 exact z1z ⟨zvg,ztg,zg2,zt0,⟨_,_,M0.F,⟨M0.a,M0.i,M0.F.kp⟩,M0.F.binds fun _ _ _ _ _ _=>us2 fun _ _=>rfl⟩,⟨_,_,M1.F,⟨M1.a,M1.i,M1.F.kp⟩,M1.F.binds fun _ _ _ _ _ _=>us1 fun _=>rfl⟩,⟨_,_,M2.F,⟨M2.a,M2.i,M2.F.kp⟩,M2.F.binds fun _ _ _ _ _ _=>us3 fun _ _ _=>rfl⟩,⟨_,_,M3.F,⟨M3.a,M3.i,M3.F.kp⟩,M3.F.binds fun _ _ _ _ _ _=>us3 fun _ _ _=>rfl⟩,⟨_,_,M41.F,mg_of X G M41.a,M41.F.binds fun _ _ _ _ _ _=>us2 fun _ _=>rfl⟩,⟨_,_,M42.F,mg_of X G M42.a,M42.F.binds fun _ _ _ _ _ _=>us2 fun _ _=>rfl⟩,zdk,⟨_,_,M5.F,⟨M5.a,M5.i,M5.F.kp⟩,M5.F.binds fun _ _ _ _ _ _=>us4 fun _ _ _ _=>rfl⟩,⟨_,_,M8.F,⟨M8.a,M8.i,M8.F.kp⟩,M8.F.binds fun _ _ _ _ _ _=>us2 fun _ _=>rfl⟩,⟨_,_,M9.F,⟨M9.a,M9.i,M9.F.kp⟩,M9.F.binds fun _ _ _ _ _ _=>us3 fun _ _ _=>rfl⟩,⟨_,_,M6.F,⟨M6.a,M6.i,M6.F.kp⟩,M6.F.binds fun _ _ _ _ _ _=>us1 fun _=>rfl⟩,⟨_,_,M39.F,mg_of X G M39.a,M39.F.binds fun _ _ _ _ _ _=>us1 fun _=>rfl⟩,⟨_,_,M40.F,mg_of X G M40.a,M40.F.binds fun _ _ _ _ _ _=>us2 fun _ _=>rfl⟩,⟨_,_,M15.F,⟨M15.a,M15.i,M15.F.kp⟩,M15.F.binds fun _ _ _ _ _ _=>us2 fun _ _=>rfl⟩,⟨_,_,M16.F,⟨M16.a,M16.i,M16.F.kp⟩,M16.F.binds fun _ _ _ _ _ _=>us2 fun _ _=>rfl⟩,zrl,⟨_,_,M23.F,⟨M23.a,M23.i,M23.F.kp⟩,M23.F.binds fun _ _ _ _ _ _=>us2 fun _ _=>rfl⟩,zuk,⟨_,_,M22.F,⟨M22.a,M22.i,M22.F.kp⟩,M22.F.binds fun _ _ _ _ _ _=>us2 fun _ _=>rfl⟩,zux,⟨_,_,M24.F,⟨M24.a,M24.i,M24.F.kp⟩,M24.F.binds fun _ _ _ _ _ _=>us2 fun _ _=>rfl⟩,⟨_,_,M13.F,⟨M13.a,M13.i,M13.F.kp⟩,M13.F.binds fun _ _ _ _ _ _=>us1 fun _=>rfl⟩,⟨_,_,M47.F,mg_of X G M47.a,M47.F.binds fun _ _ _ _ _ _=>us2 fun _ _=>rfl⟩,zws,ze6,⟨_,_,M12.F,⟨M12.a,M12.i,M12.F.kp⟩,M12.F.binds fun _ _ _ _ _ _=>us3 fun _ _ _=>rfl⟩,⟨_,_,M14.F,⟨M14.a,M14.i,M14.F.kp⟩,M14.F.binds fun _ _ _ _ _ _=>us1 fun _=>rfl⟩,zco,⟨_,_,M28.F,⟨M28.a,M28.i,M28.F.kp⟩,M28.F.binds fun _ _ _ _ _ _=>us3 fun _ _ _=>rfl⟩,⟨_,_,M18.F,⟨M18.a,M18.i,M18.F.kp⟩,M18.F.binds fun _ _ _ _ _ _=>us2 fun _ _=>rfl⟩,⟨_,_,M25.F,⟨M25.a,M25.i,M25.F.kp⟩,M25.F.binds fun _ _ _ _ _ _=>us3 fun _ _ _=>rfl⟩,zy0,⟨_,_,M31.F,⟨M31.a,M31.i,M31.F.kp⟩,M31.F.binds fun _ _ _ _ _ _=>us3 fun _ _ _=>rfl⟩,zoz,⟨_,_,M21.F,⟨M21.a,M21.i,M21.F.kp⟩,M21.F.binds fun _ _ _ _ _ _=>us2 fun _ _=>rfl⟩,⟨_,_,M32.F,⟨M32.a,M32.i,M32.F.kp⟩,M32.F.binds fun _ _ _ _ _ _=>us2 fun _ _=>rfl⟩,⟨_,_,M20.F,⟨M20.a,M20.i,M20.F.kp⟩,M20.F.binds fun _ _ _ _ _ _=>us2 fun _ _=>rfl⟩,zjd,⟨_,_,M33.F,⟨M33.a,M33.i,M33.F.kp⟩,M33.F.binds fun _ _ _ _ _ _=>us4 fun _ _ _ _=>rfl⟩,zcq,⟨_,_,M37.F,⟨M37.a,M37.i,M37.F.kp⟩,M37.F.binds fun _ _ _ _ _ _=>us2 fun _ _=>rfl⟩,⟨_,_,M17.F,⟨M17.a,M17.i,M17.F.kp⟩,M17.F.binds fun _ _ _ _ _ _=>us4 fun _ _ _ _=>rfl⟩,⟨_,_,M44.F,mg_of X G M44.a,M44.F.binds fun _ _ _ _ _ _=>us4 fun _ _ _ _=>rfl⟩,⟨_,_,M45.F,mg_of X G M45.a,M45.F.binds fun _ _ _ _ _ _=>us3 fun _ _ _=>rfl⟩,⟨_,_,M46.F,mg_of X G M46.a,M46.F.binds fun _ _ _ _ _ _=>us2 fun _ _=>rfl⟩,⟨_,_,M43.F,mg_of X G M43.a,M43.F.binds fun _ _ _ _ _ _=>us4 fun _ _ _ _=>rfl⟩,⟨_,_,M4.F,⟨M4.a,M4.i,M4.F.kp⟩,M4.F.binds fun _ _ _ _ _ _=>us2 fun _ _=>rfl⟩,⟨_,_,M10.F,⟨M10.a,M10.i,M10.F.kp⟩,M10.F.binds fun _ _ _ _ _ _=>us2 fun _ _=>rfl⟩,⟨_,_,M29.F,⟨M29.a,M29.i,M29.F.kp⟩,M29.F.binds fun _ _ _ _ _ _=>us3 fun _ _ _=>rfl⟩,zdi,⟨_,_,M30.F,⟨M30.a,M30.i,M30.F.kp⟩,M30.F.binds fun _ _ _ _ _ _=>us3 fun _ _ _=>rfl⟩,⟨_,_,M35.F,⟨M35.a,M35.i,M35.F.kp⟩,M35.F.binds fun _ _ _ _ _ _=>us4 fun _ _ _ _=>rfl⟩,⟨_,_,M36.F,⟨M36.a,M36.i,M36.F.kp⟩,M36.F.binds fun _ _ _ _ _ _=>us4 fun _ _ _ _=>rfl⟩,⟨_,_,M54.F,mg_of X G M54.a,M54.F.binds fun _ _ _ _ _ _=>us3 fun _ _ _=>rfl⟩,⟨_,_,M55.F,mg_of X G M55.a,M55.F.binds fun _ _ _ _ _ _=>us2 fun _ _=>rfl⟩,⟨_,_,M56.F,mg_of X G M56.a,M56.F.binds fun _ _ _ _ _ _=>us1 fun _=>rfl⟩,⟨_,_,M48.F,mg_of X G M48.a,M48.F.binds fun _ _ _ _ _ _=>us2 fun _ _=>rfl⟩,⟨_,_,M49.F,mg_of X G M49.a,M49.F.binds fun _ _ _ _ _ _=>us2 fun _ _=>rfl⟩,⟨_,_,M50.F,mg_of X G M50.a,M50.F.binds fun _ _ _ _ _ _=>us3 fun _ _ _=>rfl⟩,⟨_,_,M51.F,mg_of X G M51.a,M51.F.binds fun _ _ _ _ _ _=>us1 fun _=>rfl⟩,⟨_,_,M52.F,mg_of X G M52.a,M52.F.binds fun _ _ _ _ _ _=>us3 fun _ _ _=>rfl⟩,⟨_,_,M53.F,mg_of X G M53.a,M53.F.binds fun _ _ _ _ _ _=>us4 fun _ _ _ _=>rfl⟩,⟨_,_,M57.F,mg_of X G M57.a,M57.F.binds fun _ _ _ _ _ _=>us5 fun _ _ _ _ _=>rfl⟩,⟨_,_,M58.F,mg_of X G M58.a,M58.F.binds fun _ _ _ _ _ _=>us6 fun _ _ _ _ _ _=>rfl⟩,⟨_,_,M59.F,mg_of X G M59.a,M59.F.binds fun _ _ _ _ _ _=>us6 fun _ _ _ _ _ _=>rfl⟩,⟨_,_,zhs (st:=top 41) l60 e60 k60,mg_of X G a60,(zhs (st:=top 41) l60 e60 k60).binds fun _ _ _ _ _ _=>us1 fun _=>rfl⟩,T,hK,hB_by_nearness,hB_Town_hears_of,hB_Market_newest,hne04,hB_Town_teller,hne01,hne03,hne13,hne34,hne14⟩ hM_Town___init__ ht_by_nearness ht_Town_teller ht_Town_hears_of ht_Market_newest
theorem walk {l:PySem.W.OpenLaw}{q:Program}{loose:List Str}{XP:(Str->Option Value)->Heap->Prop}{YP:World->Heap->Prop}{d:DefRec}{K:Params->PySem.W.Frag}{ts:List Addr}(hn:l.most=some 63)(hdf:d.params.defaults=[])
  (hY:∀ (w:World) (h:Heap),YP w h->(K w.params).In h)(hYT:∀ (w:World) (h:Heap),YP w h->∀ P∈ts,h.get? P=some (nu #[]))
  (F:∀ (w:World) (mg:Str->Option Value) (fa:Addr) (h:Heap),(K w.params).In h->h.Ns mainGlobals mg->mg d.name=some (.ref fa) ->
   ∃ (fd:FuncData) (tabs:List (Addr × Addr)),(∀ q∈tabs,q.2∈ts/\PySem.W.codeHdIn (K w.params) q.1 q.2=true/\(K w.params).lookup q.2=none)/\(∀ (s:Shared) (u:Value),BindsTo s fd ⟨[u],[]⟩ [("_law_script",u)]) /\
    ∀ base:Heap,(K w.params).In base->base.Ns mainGlobals mg->(∀ q∈tabs,base.BuiltinsAt mg q.2)->zdl l.prog w (K w.params) mg base CX0 20 fa fd ["_law_script"] (zo_ (K w.params) tabs)) :
  PySem.W.WalkO q loose XP YP l.row.toRowW d [] (fun f vs=>PySem.call f vs) :=
 L2.walk_ofT (n:=63) (k:=20) (x:= "_law_script") (sp:=zo_) hn (by decide) hdf ⟨rfl,by decide,by decide⟩ hY hYT F fun K tabs H a ns hl hS hT=>⟨a,ns,rfl,hS,hl,hT,fun _=>rfl⟩
end NN
namespace PySem.W.Fast
def tw9901075149792337669:=Nat
def tw16944289679096488507:=Nat
def tw11563683368803295850:=Nat
def tw7534659513724877603:=Nat
def tw17959243241432072687:=Nat
def tw18423802511698706827:=Nat
def tw8615677056776578706:=Nat
def tw11180078276990915706:=Nat
def tw10580005938475166566:=Nat
def tw17953966374276118422:=Nat
def tw5957801329864825176:=Nat
def tw86132172879134516:=Nat
def tw15728007645196303194:=Nat
def tw2138743732508993901:=Nat
def tw18295056295056209526:=Nat
def tw15683168766048529758:=Nat
def tw8906067462983071884:=Nat
def tw2598851096759983585:=Nat
def tw7282917747670767701:=Nat
def tw3619406090571087325:=Nat
def tw8547376191073556568:=Nat
def tw4505511278289500436:=Nat
def tw9700718570285006703:=Nat
def tw2558611993542608230:=Nat
def tw6158789377107956075:=Nat
def tw17967276675714077168:=Nat
def tw13553268089767985099:=Nat
def tw7251168056871004255:=Nat
def tw6249984853194511473:=Nat
def tw6582741722510680326:=Nat
def tw6398359560959424139:=Nat
def tw6355000014077404861:=Nat
def tw6722988666213610426:=Nat
def tw1968366101367163790:=Nat
def tw7366059240958688343:=Nat
def tw852384405304724640:=Nat
def tw17721864299763752007:=Nat
def tw3632633787666646495:=Nat
def tw13627123382535763941:=Nat
def tw11475488015410463310:=Nat
def tw14916405367105263367:=Nat
def tw8851476198822691474:=Nat
def tw14601744246258301606:=Nat
def tw7521176488599643613:=Nat
def tw6461388920924635976:=Nat
def tw6994975632839463482:=Nat
def tw13778526960180952661:=Nat
def tw14540627345602301098:=Nat
def tw6061728072569679911:=Nat
def tw14548808148722285139:=Nat
def tw3477654353770409032:=Nat
def tw1369078395848750314:=Nat
def tw15424792901041835666:=Nat
def tw3675532528196004769:=Nat
def tw4355510505792180763:=Nat
def tw15202007890115902839:=Nat
def tw17643181231307426208:=Nat
def tw10211366331849820595:=Nat
def tw12075531962148946294:=Nat
def tw15595958806096007557:=Nat
def tw2854307677465524148:=Nat
def tw5555128855118146553:=Nat
def tw9569910285983395479:=Nat
def tw5821594701174163734:=Nat
def tw4343815757732743647:=Nat
def tw7636706895621192801:=Nat
def tw5538615942957651659:=Nat
def tw2428302971927768958:=Nat
def tw6632586462408077229:=Nat
def tw13752972891907819565:=Nat
def tw1875297596402477142:=Nat
def tw7053493098869776524:=Nat
def tw5900159238832063864:=Nat
def tw2404903552582883943:=Nat
def tw15634067892084817227:=Nat
def tw3058362245981241947:=Nat
def tw6412481625831402256:=Nat
def tw8662618525597406568:=Nat
def tw13214315855635111856:=Nat
def tw7508170644618094724:=Nat
def tw5999933628573068206:=Nat
def tw4587377452013836319:=Nat
def tw509133819736481401:=Nat
def tw5544223210034919503:=Nat
def tw11352330121599495846:=Nat
def tw2912158045981766290:=Nat
def tw7219827201821766903:=Nat
def tw6915824182510485700:=Nat
def tw3688550414328331804:=Nat
def tw226975845151771325:=Nat
def tw10831372197704324906:=Nat
def tw17259733934477765982:=Nat
def tw12714257823836699002:=Nat
def tw11594922916344040068:=Nat
def tw8673604604801705556:=Nat
def tw14119075260479621434:=Nat
def tw888049034904157212:=Nat
def tw15558291889776025394:=Nat
def tw8315557070108221416:=Nat
def tw13583722399307114229:=Nat
def tw14987812543320205781:=Nat
def tw2348636967754201941:=Nat
def tw5760363654040052739:=Nat
def tw5159464734300677706:=Nat
def tw3325196176810907183:=Nat
def tw1639759643747859873:=Nat
def tw3309332046431904079:=Nat
def tw13803244425212474776:=Nat
def tw694575979200642604:=Nat
def tw11616614012825873575:=Nat
def tw15345315232144294222:=Nat
def tw16685226922889355476:=Nat
def tw14732678741364307912:=Nat
def tw9054997584591453489:=Nat
def tw11656956230621134653:=Nat
def tw5505123344985589466:=Nat
def tw3492509267447484328:=Nat
def tw2495235819442112449:=Nat
def tw14591602303443888806:=Nat
def tw9316073058188613734:=Nat
def tw6055872767453259358:=Nat
def tw3013155557847316432:=Nat
def tw6816184755717504636:=Nat
def tw5188537915501011366:=Nat
def tw8267149536587268148:=Nat
def tw15840435600381858438:=Nat
def tw7464314877987558020:=Nat
def tw7826024805303090586:=Nat
def tw6283384047102998643:=Nat
def tw9995738531417514369:=Nat
def tw17194650143849681507:=Nat
def tw11387547338401751502:=Nat
def tw9382559137035268700:=Nat
def tw6903623286374356067:=Nat
def tw6283326535111171588:=Nat
def tw8387161447191931867:=Nat
def tw12247800711637491529:=Nat
def tw7911381389888960741:=Nat
def tw4670413003976491959:=Nat
def tw17016610795421643591:=Nat
def tw1401810898407567348:=Nat
def tw1676586026106193113:=Nat
def tw10731440809813510213:=Nat
def tw7762337521209137261:=Nat
def tw18147959914299905430:=Nat
def tw7779909665152426152:=Nat
def tw13651426173324836011:=Nat
def tw10176636786085444965:=Nat
def tw17118034897558125700:=Nat
def tw1634114390664068787:=Nat
def tw7968243207535056395:=Nat
def tw2062228759600413644:=Nat
def tw7126884860407503714:=Nat
def tw12729949838491294866:=Nat
def tw8776110326468212556:=Nat
def tw5346698851611108267:=Nat
def tw12779828845744782794:=Nat
def tw1444619998461734023:=Nat
def tw2731815318509144048:=Nat
def tw5144866957443725709:=Nat
def tw14935060813343807924:=Nat
def tw2653125315908594264:=Nat
def tw7731885489972203573:=Nat
def tw7467595529623553637:=Nat
def tw7802992485972210468:=Nat
def tw15386604787146566807:=Nat
def tw2268883052098366569:=Nat
def tw8472180939515738580:=Nat
def tw4760095814099982046:=Nat
def tw767028955162248020:=Nat
def tw1039639234833241644:=Nat
def tw473719352158406040:=Nat
def tw6564652658677790939:=Nat
def tw5334388831859650896:=Nat
def tw16972655435676664750:=Nat
def tw9258214030518762219:=Nat
def tw6204056305530970819:=Nat
def tw16876817963211931527:=Nat
def tw13352908311646595399:=Nat
def tw1991950311067465257:=Nat
def tw2961754715134934176:=Nat
def tw16844378410931082057:=Nat
def tw13886754552436253793:=Nat
def tw4768251271359892026:=Nat
def tw17100537945615948846:=Nat
def tw7396732293829353031:=Nat
def tw12898967820222094499:=Nat
def tw9640654225336459905:=Nat
def tw5751232192377518201:=Nat
def tw8714417940552677571:=Nat
def tw7437498327638487465:=Nat
def tw15959463519871291268:=Nat
def tw1169293444991025949:=Nat
def tw9290497302522939256:=Nat
def tw8357848691822677785:=Nat
def tw12581980071896066223:=Nat
def tw8278159662310487341:=Nat
def tw10430926877975971671:=Nat
def tw15801694364677915306:=Nat
def tw4634161079702102440:=Nat
def tw14305002588195575748:=Nat
def tw5323229278458365422:=Nat
def tw10855429640475135525:=Nat
def tw1081716551958840592:=Nat
def tw9002422634550240108:=Nat
def tw11370124781497395885:=Nat
def tw254861790520142542:=Nat
def tw1536720108592315877:=Nat
def tw4341368941317209378:=Nat
def tw1221350130530515038:=Nat
def tw17630288948442011730:=Nat
def tw15996558484667409542:=Nat
def tw2793564085474998115:=Nat
def tw11966737176764478665:=Nat
def tw15565549356589413991:=Nat
def tw15739153656176721542:=Nat
def tw9308253537536130238:=Nat
def tw13551516151473613296:=Nat
def tw7987307481770958203:=Nat
def tw3108331071163636863:=Nat
def tw8670689651499750078:=Nat
def tw16949639399912158469:=Nat
def tw16277074975430332728:=Nat
def tw1930524921379902625:=Nat
def tw7479310217821303629:=Nat
def tw8446816330666223228:=Nat
def tw16535282306422393625:=Nat
def tw6089808176020031815:=Nat
def tw8638263548769826342:=Nat
def tw895655346525775895:=Nat
def tw11693604014938033889:=Nat
def tw1574453223894099614:=Nat
def tw15072079186098618468:=Nat
def tw16776278113707496274:=Nat
def tw879700114882518362:=Nat
def tw2590017009624184732:=Nat
def tw18362898444151348006:=Nat
def tw10164862293106230233:=Nat
def tw14746485147454463279:=Nat
def tw13116160329744542118:=Nat
def tw2140116034174886390:=Nat
def tw11059962013819723098:=Nat
def tw7784337762831679531:=Nat
def tw15043395529550329847:=Nat
def tw6773908737093650514:=Nat
def tw9255040946454837096:=Nat
def tw5406447206068039330:=Nat
def tw11967734473155475979:=Nat
def tw6744274583059518790:=Nat
def tw14947790407539439494:=Nat
def tw17401833369461836799:=Nat
def tw12638512728912422742:=Nat
def tw7618385820292650924:=Nat
def tw18084138273905203862:=Nat
def tw9938284449838548110:=Nat
def tw9300175883140219968:=Nat
def tw16691403024527692947:=Nat
def tw3241204719563702846:=Nat
def tw17795319129507739848:=Nat
def tw1181960860977163686:=Nat
def tw4733475634970836159:=Nat
def tw9110883683220914267:=Nat
def tw2216053095113677628:=Nat
def tw666417794104842005:=Nat
def tw17071284097637476819:=Nat
def tw10847711125239481808:=Nat
def tw6099116165167222160:=Nat
def tw514962728080100130:=Nat
def tw8358760508891783072:=Nat
def tw13325050742805256482:=Nat
def tw14452030470318583014:=Nat
def tw6329727019952859948:=Nat
def tw9180022744179558585:=Nat
def tw12344674599534888974:=Nat
def tw11342551476207389213:=Nat
def tw3187549225829454464:=Nat
def tw14774112836243308481:=Nat
def tw14062805399756835143:=Nat
def tw14067513252200284708:=Nat
def tw16575922316303283369:=Nat
def tw6286272186162827751:=Nat
def tw14712618362765893229:=Nat
def tw2958719869783675397:=Nat
def tw12694219747021330231:=Nat
def tw163573362529194009:=Nat
def tw13446231701119607352:=Nat
def tw8749527689261630508:=Nat
def tw16880890223834052295:=Nat
def tw6832057389477006766:=Nat
def tw11018124885159137920:=Nat
def tw6849047680800547264:=Nat
def tw8886024177367063994:=Nat
def tw9603958014623944263:=Nat
def tw4690109027185386313:=Nat
def tw4094352898631758052:=Nat
def tw487331539096697104:=Nat
def tw17547869332969461553:=Nat
def tw15839208583222890:=Nat
def tw8589466202695841975:=Nat
def tw17168528291442130786:=Nat
def tw5252157939567043493:=Nat
def tw14935390265472330278:=Nat
def tw16700315053515792993:=Nat
def tw8273518994971577207:=Nat
def tw646719006547862401:=Nat
def tw10771860598722331068:=Nat
def tw3396209050598357368:=Nat
def tw13261389443303160147:=Nat
def tw48810777360708187:=Nat
def tw230069372927291964:=Nat
def tw7050462966429699780:=Nat
def tw5364940073574796174:=Nat
def tw4102541876839299326:=Nat
def tw1976831154294457630:=Nat
def tw13693345580173175603:=Nat
def tw11623295431086090040:=Nat
def tw4579687012087186881:=Nat
def tw2050904345738119629:=Nat
def tw1817827660262111384:=Nat
def tw12373536885218263316:=Nat
def tw4709290680341578350:=Nat
def tw2811517034953760937:=Nat
def tw10709544060624984009:=Nat
def tw3858677659934763390:=Nat
def tw1304203562388717554:=Nat
def tw8044194942672432235:=Nat
def tw12466415196064281769:=Nat
def tw3953085544573844049:=Nat
def tw13708549922024097327:=Nat
def tw5320894297755480164:=Nat
def tw5617080825115943305:=Nat
def tw1538647655512091919:=Nat
def tw6320644418680783588:=Nat
def tw13343121182332108365:=Nat
def tw16251196109113983558:=Nat
def tw8930204662471532300:=Nat
def tw16201457022671824604:=Nat
def tw2280819667427493061:=Nat
def tw16479848295723835499:=Nat
def tw7241787163507806363:=Nat
def tw12312339779452002442:=Nat
def tw17498392809187509767:=Nat
def tw9702782041453013710:=Nat
def tw7273056447931398929:=Nat
def tw12396711582161855208:=Nat
def tw14877313694872600159:=Nat
def tw15461614304996111900:=Nat
def tw8151897532438148375:=Nat
def tw14432765587067592499:=Nat
def tw14661906404382967835:=Nat
def tw17302284420063773701:=Nat
def tw14098647649715908749:=Nat
def tw5628255997831391805:=Nat
def tw10940483064057042022:=Nat
def tw5128333741327777045:=Nat
def tw9605389408151258013:=Nat
def tw559845276660646049:=Nat
def tw13352036243764591099:=Nat
def tw15838965291222710216:=Nat
def tw6696746904567847916:=Nat
def tw1776297251617125270:=Nat
def tw12349894805116125632:=Nat
def tw1040030508859418076:=Nat
def tw14185100125142764341:=Nat
def tw17360441492766070291:=Nat
def tw11040873345811060407:=Nat
def tw7888833495767217497:=Nat
def tw7617670419012744845:=Nat
def tw5126569370180111975:=Nat
def tw15739861129345931231:=Nat
def tw10359070298254341177:=Nat
def tw1652278578698866743:=Nat
def tw1106382867035996546:=Nat
def tw1985448616647783286:=Nat
def tw1062127506116064754:=Nat
def tw16084346706616484097:=Nat
def tw3786475784844908955:=Nat
def tw369704897454926441:=Nat
def tw7985239914453700064:=Nat
def tw1545486809092532605:=Nat
def tw5702953869312481860:=Nat
def tw14026802415180044911:=Nat
def tw9520804424020999346:=Nat
def tw1984628463448103376:=Nat
def tw15558595996540145953:=Nat
def tw11806932310205498948:=Nat
def tw9669857319223305508:=Nat
def tw15557789397350481848:=Nat
def tw11486811688323547848:=Nat
def tw15413811804262992281:=Nat
def tw6132502772985118798:=Nat
def tw4528182625980007848:=Nat
def tw16225247765174016052:=Nat
def tw10217676422558147198:=Nat
def tw13789724398940297801:=Nat
def tw11937237554933048584:=Nat
def tw10690864021450782246:=Nat
def tw6957847902010221392:=Nat
def tw17021711087927838770:=Nat
def tw7947639764729841619:=Nat
def tw17683925056976992358:=Nat
def tw8823573405544302247:=Nat
def tw1913229933380272567:=Nat
def tw7918261583609277305:=Nat
def tw6819561537679143025:=Nat
def tw17606855813948322199:=Nat
def tw10237098395513288218:=Nat
def tw15805736297638553621:=Nat
def tw17231837466816213373:=Nat
def tw17077006469762460999:=Nat
def tw15051654401184295674:=Nat
def tw2985797112349074644:=Nat
def tw15523654097690946611:=Nat
def tw11537592557190578667:=Nat
def tw16761853436835007395:=Nat
def tw17092262863924974353:=Nat
def tw12724641146684959267:=Nat
def tw13176534481611741422:=Nat
def tw5151064702785096560:=Nat
def tw8124893506618614577:=Nat
def tw14478365960070162404:=Nat
def tw4124002676707332739:=Nat
def tw7707664504982485497:=Nat
def tw9633003951093642486:=Nat
def tw10031212386377851002:=Nat
def tw8882995486217838330:=Nat
def tw993978440994799437:=Nat
def tw8649706603171022658:=Nat
def tw12457338077013244834:=Nat
def tw2981309939116940430:=Nat
def tw15990822217427480471:=Nat
def tw18216915450025612416:=Nat
def tw5692067095974491030:=Nat
def tw16270690990462780638:=Nat
def tw7676632147675329308:=Nat
def tw11226665043084748857:=Nat
def tw8461741949332217443:=Nat
def tw6452816135634774079:=Nat
def tw14402868948065215843:=Nat
def tw18169836471607963221:=Nat
def tw7081262959164348235:=Nat
def tw388067003356771994:=Nat
def tw5653362768444094378:=Nat
def tw9341919805221990607:=Nat
def tw14324440662619383928:=Nat
def tw9899566993341148163:=Nat
def tw4455428074430351615:=Nat
def tw11697140505555647326:=Nat
def tw17665257095888990264:=Nat
def tw15309425692195875680:=Nat
def tw16495599655661691443:=Nat
def tw8785452949980428222:=Nat
def tw7888792833973931779:=Nat
def tw11224013920023875383:=Nat
def tw9381071113722575322:=Nat
def tw3050385455563560326:=Nat
def tw5838403138768279113:=Nat
def tw15712568400749552424:=Nat
def tw9214755808870514904:=Nat
def tw2188077432173117062:=Nat
def tw181576633399441029:=Nat
def tw4660786177045584310:=Nat
def tw3015073002178659748:=Nat
def tw9025119659691785021:=Nat
def tw8138244473110042616:=Nat
def tw4892437493603011989:=Nat
def tw7756161029182143739:=Nat
def tw3452319792777737542:=Nat
def tw3652336282714754637:=Nat
def tw8924346197612905261:=Nat
def tw8318308214152332987:=Nat
def tw7630065257946620357:=Nat
def tw10815125740473254288:=Nat
def tw4732062413343431706:=Nat
def tw13122223007304653470:=Nat
def tw12868410045076355099:=Nat
def tw11114828321199866458:=Nat
def tw16594987132292995809:=Nat
def tw5658716438527798226:=Nat
def tw16607029449483866198:=Nat
def tw2455912360690133413:=Nat
def tw5646630132158914535:=Nat
def tw5815016070911514758:=Nat
def tw16433107254524528997:=Nat
def tw14632790586023699723:=Nat
def tw14244383331614525410:=Nat
def tw1678349075047898312:=Nat
def tw10090830782822460591:=Nat
def tw5404060378831545340:=Nat
def tw15822884005317326844:=Nat
def tw9250711324471466043:=Nat
def tw15571216035935789169:=Nat
def tw17617152728769110944:=Nat
def tw8181171304768033423:=Nat
def tw3725465069386729909:=Nat
def tw13587192399382946940:=Nat
def tw833150523214946472:=Nat
def tw1587662161429732370:=Nat
def tw18379712682832620565:=Nat
def tw13374027698170259113:=Nat
def tw5571753876272043144:=Nat
def tw9771390900123995551:=Nat
def tw13646338569226404953:=Nat
def tw15096622278663962555:=Nat
def tw8258647941798153319:=Nat
def tw729030006012652981:=Nat
def tw15420977693278343134:=Nat
def tw6157176177562631679:=Nat
def tw3589981706643735231:=Nat
def tw16322211224736076222:=Nat
def tw7908043680257013432:=Nat
def tw15727623272397653460:=Nat
def tw12680097539970134827:=Nat
def tw2884224661306906815:=Nat
def tw13515012171717761222:=Nat
def tw11419685614332217592:=Nat
def tw2839112783912398753:=Nat
def tw11610700645053567494:=Nat
def tw369293310694280239:=Nat
def tw3949974038853583538:=Nat
def tw2555302395887364011:=Nat
def tw9506826367104942874:=Nat
def tw2674439238342046479:=Nat
def tw2755341816697546265:=Nat
def tw17532507617916810226:=Nat
def tw3459513295140804523:=Nat
def tw9559135747102474658:=Nat
def tw10445807356830740667:=Nat
def tw5088944389438177182:=Nat
def tw12047408286944052862:=Nat
def tw3273903585028649464:=Nat
def tw14291653234694103385:=Nat
def tw100181137601735214:=Nat
def tw2666208708235961622:=Nat
def tw1767919022223989764:=Nat
def tw11536106239613116523:=Nat
def tw13992766845891193725:=Nat
def tw5354646370268659027:=Nat
def tw14387762099124412721:=Nat
def tw5256010705970738085:=Nat
def tw12172486525267455447:=Nat
def tw11702568825751849384:=Nat
def tw1247379851681463256:=Nat
def tw2536631747962931805:=Nat
def tw12810589889039014996:=Nat
def tw12628047916426830511:=Nat
def tw11917190800849455177:=Nat
def tw8171479352367777049:=Nat
def tw15568363307462981988:=Nat
def tw664715802016530742:=Nat
def tw1165903473973029373:=Nat
def tw641275717055873206:=Nat
def tw787757569069653697:=Nat
def tw10038074378453444278:=Nat
def tw14757823015181798107:=Nat
def tw6480772861206537510:=Nat
def tw14351821810322556087:=Nat
def tw7414584809947540147:=Nat
def tw1238395270603995492:=Nat
def tw5118632992191187309:=Nat
def tw18239513998676462320:=Nat
def tw12834329797570779794:=Nat
def tw8027279659713449991:=Nat
def tw13093995426121031179:=Nat
def tw14447431095860394605:=Nat
def tw5154926465157642395:=Nat
def tw13575001012901629362:=Nat
def tw814267377096338812:=Nat
def tw16656936370530384312:=Nat
def tw4051212400130179278:=Nat
def tw2648987061163678629:=Nat
def tw13246595042431366653:=Nat
def tw6947976865748731483:=Nat
def tw537515635395918774:=Nat
def tw11909791469993512056:=Nat
def tw7172483672794240914:=Nat
def tw1430502452269019043:=Nat
def tw1129732575391406732:=Nat
def tw17083514322394921015:=Nat
def tw12135383342211596449:=Nat
def tw9143724711131926644:=Nat
def tw11599604369991739914:=Nat
def tw17243437759611941977:=Nat
def tw11340317279618175978:=Nat
def tw3532349737747164331:=Nat
def tw3043059543756692719:=Nat
def tw12075731680985642715:=Nat
def tw16134340600254643389:=Nat
def tw17404264394061846113:=Nat
def tw13577528769228188895:=Nat
def tw17606089792979256684:=Nat
def tw8428817565730200583:=Nat
def tw18199509054128081364:=Nat
def tw15509436408505841426:=Nat
def tw3875318210371519547:=Nat
def tw14554939661650184710:=Nat
def tw4206939844600861981:=Nat
def tw16135141048035173019:=Nat
def tw7132169890028003788:=Nat
def tw509644732751246841:=Nat
def tw6485812801354290227:=Nat
def tw18160356852147957802:=Nat
def tw15512334668264051765:=Nat
def tw13327835200426076812:=Nat
def tw3294878555360949197:=Nat
def tw2828195217055629292:=Nat
def tw14561265117434906036:=Nat
def tw16155252587444413489:=Nat
def tw13159755582114833768:=Nat
def tw15102228540573484732:=Nat
def tw9719590072638588710:=Nat
def tw14587825597155166182:=Nat
def tw10108497291672503679:=Nat
def tw14713898044796995128:=Nat
def tw13908748705750401146:=Nat
def tw15519943229321591120:=Nat
def tw18082872048817326603:=Nat
def tw7818474262428598310:=Nat
def tw6177364959594199149:=Nat
def tw2806319451140505289:=Nat
def tw15802799897955107262:=Nat
def tw493841717277754002:=Nat
def tw8470915146984894115:=Nat
def tw706550097636797355:=Nat
def tw11603925497206748980:=Nat
def tw10682126096641753041:=Nat
def tw9947040147119680860:=Nat
def tw12805719588388662978:=Nat
def tw1401644121108144731:=Nat
def tw1912528652931963298:=Nat
def tw13113900670631274396:=Nat
def tw8627846639553964955:=Nat
def tw10265474340388225595:=Nat
def tw16809088850368645264:=Nat
def tw3225968204603830300:=Nat
def tw7390000898883269003:=Nat
def tw11753137043609969394:=Nat
def tw16282001285776602679:=Nat
def tw6793848879391523728:=Nat
def tw13850748819050813458:=Nat
def tw9091471157867390271:=Nat
def tw789944810143155118:=Nat
def tw18438788647829492592:=Nat
def tw13451227546840026599:=Nat
def tw8137883307836628603:=Nat
def tw5599885605346168367:=Nat
def tw6029812005883122001:=Nat
def tw17988353054436130509:=Nat
def tw9288940579880562226:=Nat
def tw3357149386752647504:=Nat
def tw15226604533775994871:=Nat
def tw1332280483927416927:=Nat
def tw11468576803988877240:=Nat
def tw6572520241566698419:=Nat
def tw8043663201492817600:=Nat
def tw5367944546651899741:=Nat
def tw5715881514872526985:=Nat
def tw9250580361726367806:=Nat
def tw5678648234389490326:=Nat
def tw11233367494795530384:=Nat
def tw945085611734377418:=Nat
def tw1438715910065468923:=Nat
def tw10144574708094936491:=Nat
def tw13884867569881310717:=Nat
def tw14874248280704305476:=Nat
def tw3156207705262265410:=Nat
def tw10942807655567461209:=Nat
def tw1444426553470717791:=Nat
def tw10361294679198545255:=Nat
def tw81244688717870339:=Nat
def tw14802475088616520883:=Nat
def tw12803453651743760593:=Nat
def tw17076868162918302016:=Nat
def tw17424976642716534963:=Nat
def tw5795919398223542272:=Nat
def tw9182973022040227904:=Nat
def tw7327643323125800657:=Nat
def tw1061168201641743880:=Nat
def tw15428132087584369413:=Nat
def tw15177473162133119438:=Nat
def tw14583881271667898044:=Nat
def tw5735428919836462413:=Nat
def tw8594846806635562426:=Nat
def tw13420744002366529467:=Nat
def tw11782810736731713569:=Nat
def tw17535309796811712509:=Nat
def tw4494614806651643386:=Nat
def tw14722782910120455270:=Nat
def tw13177312410134185770:=Nat
def tw13424845688060627539:=Nat
def tw6629836737632958322:=Nat
def tw9028858767096494154:=Nat
def tw173772383215096089:=Nat
def tw10120007746615321381:=Nat
def tw1917860436490306362:=Nat
def tw7629097226586573374:=Nat
def tw16523232875514751466:=Nat
def tw17151265770494516056:=Nat
def tw17933308533174826632:=Nat
def tw5094312744254203840:=Nat
def tw6460512339364766479:=Nat
def tw8368647547498631128:=Nat
def tw16745326800525294237:=Nat
def tw6981702625069566030:=Nat
def tw7428891307488622414:=Nat
def tw10499041780812083624:=Nat
def tw15990040121420360722:=Nat
def tw4374273472026506682:=Nat
def tw5508610465383053845:=Nat
def tw9286560039086967352:=Nat
def tw13181839081975038689:=Nat
def tw4650646836118659973:=Nat
def tw15304274735606211748:=Nat
def tw4263256009111639268:=Nat
def tw5049524270640293697:=Nat
def tw14751472640527799387:=Nat
def tw6555347557676116655:=Nat
def tw10740981213555828976:=Nat
def tw12338941110720245942:=Nat
def tw13238150633216649736:=Nat
def tw6222354614653402937:=Nat
def tw9038302341347545985:=Nat
def tw3179263741121796356:=Nat
def tw9147336199911188835:=Nat
def tw1271900343728885311:=Nat
def tw6207429367856562351:=Nat
def tw10649232121441626127:=Nat
def tw17274919969835036269:=Nat
def tw14482750057711397800:=Nat
def tw18346306775322024092:=Nat
def tw13217978845193646514:=Nat
def tw17823022306655782880:=Nat
def tw11277618566249664499:=Nat
def tw9045485748750920196:=Nat
def tw3645991627835273826:=Nat
def tw11518986745137225682:=Nat
def tw16754007089264062446:=Nat
def tw13581593291675049379:=Nat
def tw10671190051236223900:=Nat
def tw17607249301409920448:=Nat
def tw10311946586457408221:=Nat
def tw11341544303606790083:=Nat
def tw5756011056899089559:=Nat
def tw7503043631175466024:=Nat
def tw1229456043796193256:=Nat
def tw4817429600470139443:=Nat
end PySem.W.Fast
open PySem PySem.W PyProof.Rows
set_option maxRecDepth 100000 in
set_option maxHeartbeats 0 in
theorem PySem.Challenge.cw_nearnames_k51_laid_at_the_nearest_holds : PySem.Challenge.rw_nearnames_k51_laid_at_the_nearest.Holds := by
 w_on; o_law; k_head; (case hw=>w_witness2)
 k_fill
 refine NN.walk (l:=PySem.Challenge.rw_nearnames_k51_laid_at_the_nearest) rfl rfl (fun w h Y=>PySem.W.km_in_of Y) (fun w h Y=>PySem.W.km_tabs_of Y) ?F
 case F =>
  intro w mg fa h KX G hmg
  refine' NN.all_mk KX G hmg ?aC0 ?pg0 ?hd0 ?po0 ?sa0 ?mk0 ?kc0 ?na0_0 ?na0_1 ?M0 ?M1 ?M2 ?M3 ?M4 ?aC1 ?pg1 ?hd1 ?po1 ?sa1 ?mk1 ?kc1 ?na1_0 ?na1_1 ?na1_2 ?na1_3 ?M5 ?M6 ?a7 ?i7 ?l7 ?ld7 ?e7 ?k7 ?M8 ?M9 ?M10 ?aC2 ?pg2 ?hd2 ?po2 ?sa2 ?mk2 ?kc2 ?M11 ?aC3 ?pg3 ?hd3 ?po3 ?sa3 ?mk3 ?kc3 ?na3_0 ?na3_1 ?na3_2 ?na3_3 ?na3_4 ?na3_5 ?M12 ?M13 ?M14 ?M15 ?M16 ?M17 ?M18 ?a19 ?i19 ?l19 ?ld19 ?e19 ?k19 ?M20 ?M21 ?M22 ?M23 ?M24 ?M25 ?a26 ?i26 ?l26 ?e26 ?k26 ?t26 ?r26 ?h26 ?n26 ?m26 ?a27 ?i27 ?l27 ?e27 ?k27 ?t27 ?r27 ?h27 ?n27 ?m27 ?M28 ?M29 ?M30 ?M31 ?M32 ?M33 ?a34 ?i34 ?l34 ?e34 ?k34 ?t34 ?r34 ?h34 ?n34 ?m34 ?M35 ?M36 ?M37 ?cg0 ?cr0 ?cf0 ?ck0 ?aE0 ?xE0 ?aE1 ?xE1 ?aE2 ?xE2 ?aE3 ?xE3 ?aE4 ?xE4 ?a38 ?l38 ?e38 ?k38 ?t38 ?r38 ?h38 ?n38 ?m38 ?M39 ?M40 ?M41 ?M42 ?M43 ?M44 ?M45 ?M46 ?M47 ?M48 ?M49 ?M50 ?M51 ?M52 ?M53 ?M54 ?M55 ?M56 ?M57 ?M58 ?M59 ?a60 ?l60 ?e60 ?k60 ?hne01 ?hne03 ?hne13 ?hne04 ?hne14 ?hne34 ?z0 ?z1 ?z2 ?z3 ?z4 ?z5 ?z6 ?z7 ?z8 ?z9 ?z10 ?z11 ?z12 ?z13 ?z14 ?z15
  (case aC0 | pg0 | hd0 | po0 | sa0 | mk0 | kc0 | na0_0 | na0_1 | aC1 | pg1 | hd1 | po1 | sa1 | mk1 | kc1 | na1_0 | na1_1 | na1_2 | na1_3 | a7 | i7 | l7 | ld7 | e7 | k7 | aC2 | pg2 | hd2 | po2 | sa2 | mk2 | kc2 | aC3 | pg3 | hd3 | po3 | sa3 | mk3 | kc3 | na3_0 | na3_1 | na3_2 | na3_3 | na3_4 | na3_5 | a19 | i19 | l19 | ld19 | e19 | k19 | a26 | i26 | l26 | e26 | k26 | t26 | a27 | i27 | l27 | e27 | k27 | t27 | a34 | i34 | l34 | e34 | k34 | t34 | cg0 | cr0 | cf0 | ck0 | aE0 | aE1 | aE2 | aE3 | aE4 | a38 | l38 | e38 | k38 | t38 | a60 | l60 | e60 | k60 | z0 | z1 | z2 | z3 | z4 | z5 | z6 | z7 | z8 | z9 | z10 | z11 | z12 | z13 | z14 | z15=>k_is)
  (case M0 | M1 | M2 | M3 | M4 | M5 | M6 | M8 | M9 | M10 | M11 | M12 | M13 | M14 | M15 | M16 | M17 | M18 | M20 | M21 | M22 | M23 | M24 | M25 | M28 | M29 | M30 | M31 | M32 | M33 | M35 | M36 | M37=>exact ⟨by k_is,by k_is,zhs (by k_is) (by k_is) (by k_is)⟩)
  (case M39 | M40 | M41 | M42 | M43 | M44 | M45 | M46 | M47 | M48 | M49 | M50 | M51 | M52 | M53 | M54 | M55 | M56 | M57 | M58 | M59=>exact ⟨by k_is,zhs (by k_is) (by k_is) (by k_is)⟩)
  (case r26 | r27 | r34 | r38=>exact rfl)
  (case h26 | n26 | h27 | n27 | h34 | n34 | h38 | n38=>kernel_rfl)
  (case m26 | m27 | m34 | m38 | hne01 | hne03 | hne13 | hne04 | hne14 | hne34=>decide)
  (case xE0 | xE1 | xE2 | xE3 | xE4=>k_exc)
#print axioms PySem.Challenge.cw_nearnames_k51_laid_at_the_nearest_holds
