import PyProof.Rows.All
import Wide.All
import OpenK.AllK
import Wide.FinOn
import Lean
import PyProof.EqAt
import PyProof.EqKinds
import PyProof.TupleCall
import PySem.Challenge.RW_nearnames_k52_seek_newest
set_option Elab.async false
set_option linter.all false
set_option maxRecDepth 100000
open List (find? map)
open List renaming mem_append_right->g7,mem_singleton->gb,mem_cons_of_mem->gc,length_map->gf,mem_cons_self->gj,length_append->gl,mem_append->gm,length_singleton->gq,mem_append_left->gr,size_toArray->gu,mem_cons->gx,mem_filter->gz,mem_of_getElem?->i4,length_take->i5,take_length->i6,mem_of_mem_take->i8,map_append->i9,length_filter_le->ib,length_cons->ic,map_cons->ig,lookup_cons->ii,mem_filterMap->ij,take_succ_eq_append_getElem->ik,filter_append->io,filterMap_cons->iq,nodup_cons->ir,take_of_length_le->iu,length_erase_of_mem->iw,append_nil->iy,pairwise_cons->j0,map_congr_left->j5,nodup_nil->j7,filter_sublist->j8,length_eq_zero_iff->j9,take_add_one->ja,length_nil->jl,map_map->jn,all_eq_true->jo,not_mem_nil->jq,mem_map->ju,getElem_of_mem->jw,nodup_append->ke,take_sublist->kh,of_mem_zip->ki,getElem_inj->ku,getElem_mem->kx,length_drop->l6,filter_cons->l8,length->l9,any_cons->lg,filter_congr->lr,replicate->lw,filter_map->md,forIn_cons->mf,nil_perm->mj,pairwise_map->mn,mem_range->mq,drop_zero->mr,map_nil->mx,ext_getElem->my,all_cons->n5,range->n8,map_take->o0
open Nat (mod_lt)
open Nat renaming lt_of_lt_of_le->gs,le_refl->gv,le_trans->gy,ne_of_lt->i0,le_of_lt->ie,zero_le->ix,lt_succ_self->iz,lt_succ_of_lt->jc,le_of_ble_eq_true->jd,lt_of_le_of_lt->je,ne_of_gt->jf,le_succ->jg,lt_irrefl->jh,div_eq_of_lt->kg,le_of_eq->lc,xor_self->lu,lt_trans->mi,pow_succ->n6,pow_pos->nq,not_lt->o7
open PySem.Heap renaming lt_size->i3,size_push->jz,size_update->mz
open PySem.F renaming plain_max_loop->ia,plainAttrs_list->ip,plainAttrs_dict->jj,slot_dict_get->jk,excBase_ValueError->jt,entry_dict_get->jx,entry_max_loop->jy,slot_dict_pop->kc,entry_dict_pop->m7,type_dict_pop->mk
open PySem.Around renaming under_plainId->im
open Bool renaming false_eq_true->j3,and_eq_true->j4,eq_false_iff->jr,not_eq_true'->js
open Option (map)
open Option renaming map_eq_some_iff->j6,map_eq_none_iff->jp,map_some->lh,isSome_some->m5,isSome_map->mh,getD_none->nv,getD_some->nz
open Array (getD map)
open Array renaming length_toList->jb,getElem_toList->kn,toList_push->lz
open Int renaming toNat_natCast->ji
open PySem.W (typeIn)
open PySem.W renaming emptyDict->jm,kia_one->jv,cellsFrom_some->kj,instObj->kq,kla_obj->kr,methodCall_KW->lm,callWith_K->lq,codeHd_of_K->ly,methodObj->mw,codeRec_of->n9,lookIn->ng,kla_fn->nh,takerIn->nj,kitx_list->nr,kitx_dict->nu,handedIn->o3,kdl_dict->o4,kitOne->o5,tabObj->o8
open PySem.Value (float bytes)
open PySem.Value renaming isInt_shape->lx,type->o6
open PySem.EqNone renaming eq_none_int->o9,eq_none_str->oa,eq_int_none->oe,eq_str_none->og,ne_none_int->oh,ne_none_str->oi,ne_int_none->oj,ne_str_none->om
namespace L2
open PySem PySem.Spec PyProof.Rows
theorem fT {p:Prop} (h:false=true):p:=absurd h Bool.false_ne_true
abbrev Key:=Sum Int Str
def zri:Key->Value->Bool
 | .inl k,v=>Value.isInt k v
 | .inr x,v=>Value.isStrOf x v
def z4q (w:World):Key->Int
 | .inl k=>hashInt k
 | .inr x=>hashStr w x
theorem zbo:∀ {k:Key} {v:Value},zri k v=true->(∃ i t,k=Sum.inl i/\v=Value.int i t)\/(∃ x t,k=Sum.inr x/\v=Value.str x t)
 | .inl i,v,h=>by
  obtain ⟨t,e⟩:=lx (k:=i) (v:=v) h
  exact .inl ⟨i,t,rfl,e⟩
 | .inr x,v,h=>by
  obtain ⟨t,e⟩:=Value.isStrOf_shape (x:=x) (v:=v) h
  exact .inr ⟨x,t,rfl,e⟩
theorem zup (i:Int)(t:Tok):zri (.inl i) (.int i t)=true:=by simp [zri,Value.isInt]
theorem zsb (x:Str)(t:Tok):zri (.inr x) (.str x t)=true:=by simp [zri,Value.isStrOf]
theorem z1u (a b:Int):decide ((Sum.inl a:Key)=Sum.inl b)=(a == b):=by
 by_cases e:a=b
 ·subst e; simp
 ·have h:¬ (Sum.inl a:Key)=Sum.inl b:=fun q=>e (Sum.inl.inj q)
  rw [decide_eq_false h]
  exact (beq_eq_false_iff_ne.mpr e).symm
theorem z0p (a b:Str):decide ((Sum.inr a:Key)=Sum.inr b)=decide (a=b):=by
 by_cases e:a=b
 ·subst e; simp
 ·have h:¬ (Sum.inr a:Key)=Sum.inr b:=fun q=>e (Sum.inr.inj q)
  rw [decide_eq_false h,decide_eq_false e]
theorem z2j (a:Int)(b:Str):decide ((Sum.inl a:Key)=Sum.inr b)=false:=decide_eq_false (fun q=>nomatch q)
theorem z1l (a:Str)(b:Int):decide ((Sum.inr a:Key)=Sum.inl b)=false:=decide_eq_false (fun q=>nomatch q)
def za7 (prog:Program)(w:World):PySem.KeyKind prog w Key where
 is:=zri
 hash:=z4q w
 inj:=fun v a b ha hb=>by
  rcases zbo ha with ⟨i,t,rfl,rfl⟩ | ⟨x,t,rfl,rfl⟩
  ·rcases zbo hb with ⟨j,u,rfl,e⟩ | ⟨y,u,rfl,e⟩
   ·injection e with e1 _; rw [e1]
   ·exact nomatch e
  ·rcases zbo hb with ⟨j,u,rfl,e⟩ | ⟨y,u,rfl,e⟩
   ·exact nomatch e
   ·injection e with e1 _; rw [e1]
 byValue:=fun k v h=>by
  rcases zbo h with ⟨i,t,rfl,rfl⟩ | ⟨x,t,rfl,rfl⟩ <;> rfl
 pyHash:=fun hv h=>by
  rcases zbo hv with ⟨i,t,rfl,rfl⟩ | ⟨x,t,rfl,rfl⟩
  ·exact wpAny_pyHash_int h
  ·exact wpAny_pyHash_str h
 eqBool:=fun hu hv h=>by
  rcases zbo hu with ⟨i,t,rfl,rfl⟩ | ⟨x,t,rfl,rfl⟩
  ·rcases zbo hv with ⟨j,u,rfl,rfl⟩ | ⟨y,u,rfl,rfl⟩
   ·rw [z1u] at h; exact wpAny_eqBool_int h
   ·rw [z2j] at h; exact SeqAt.EqAt.int_str i t y u _ _ _ _ h
  ·rcases zbo hv with ⟨j,u,rfl,rfl⟩ | ⟨y,u,rfl,rfl⟩
   ·rw [z1l] at h; exact SeqAt.EqAt.str_int x t j u _ _ _ _ h
   ·rw [z0p] at h; exact wpAny_eqBool_str h
 «strs» :=fun k x t v h=>by
  rcases zbo h with ⟨i,u,rfl,e⟩ | ⟨y,u,rfl,e⟩
  ·exact nomatch e
  ·injection e with e1 _
   subst e1
   cases v <;> rfl
theorem zph (prog:Program)(w:World)(i:Int)(t:Tok):(za7 prog w).is (.inl i) (.int i t)=true:=zup i t
theorem zpy (prog:Program)(w:World)(x:Str)(t:Tok):(za7 prog w).is (.inr x) (.str x t)=true:=zsb x t
inductive V where
 | non | bl (b:Bool) | int (i:Int) | str (x:Str) | byt (b:Array UInt8) | flt (b:UInt64) | ref (a:Addr) | ty (n:String)
 deriving DecidableEq
def zbs:V->Value->Prop
 | .non,u=>u=Value.none
 | .bl b,u=>u=Value.bool b
 | .int i,u=>∃ t,u=Value.int i t
 | .str x,u=>∃ t,u=Value.str x t
 | .byt b,u=>∃ t,u=bytes b t
 | .flt b,u=>∃ t,u=float b t
 | .ref a,u=>u=Value.ref a
 | .ty n,u=>u=o6 n
abbrev zb3:List V->List Value->Prop:=Paired zbs
theorem zb3.length {xs:List V}{us:List Value}(r:zb3 xs us):xs.length=us.length:=Paired.length r
theorem zb3.get:∀ {xs:List V} {us:List Value} {i:Nat} {x:V},zb3 xs us->xs[i]? = some x->∃ u,us[i]? = some u/\zbs x u
 | _,_,_,_,.nil,e=>by simp at e
 | _,_,0,_,.cons r _,e=>by simp at e; subst e; exact ⟨_,rfl,r⟩
 | _,_,i+1,x,.cons _ t,e=>by
  obtain ⟨u,h1,h2⟩:=zb3.get (i:=i) (x:=x) t (by simpa using e)
  exact ⟨u,by simpa using h1,h2⟩
theorem zb3.set {x:V}{u:Value}(r:zbs x u):∀ {xs:List V} {us:List Value} (i:Nat),zb3 xs us->zb3 (xs.set i x) (us.set i u)
 | _,_,_,.nil=> .nil
 | _,_,0,.cons _ t=> .cons r t
 | _,_,i+1,.cons q t=> .cons q (zb3.set r i t)
theorem zb3.append:∀ {xs ys:List V} {us ws:List Value},zb3 xs us->zb3 ys ws->zb3 (xs++ys) (us++ws)
 | _,_,_,_,.nil,s=>s
 | _,_,_,_,.cons r t,s=> .cons r (zb3.append t s)
theorem zb3.take:∀ {xs:List V} {us:List Value} (n:Nat),zb3 xs us->zb3 (xs.take n) (us.take n)
 | _,_,0,_=> .nil
 | _,_,_+1,.nil=> .nil
 | _,_,n+1,.cons r t=> .cons r (zb3.take n t)
theorem zb3.drop:∀ {xs:List V} {us:List Value} (n:Nat),zb3 xs us->zb3 (xs.drop n) (us.drop n)
 | _,_,0,r=>r
 | _,_,_+1,.nil=> .nil
 | _,_,n+1,.cons _ t=>zb3.drop n t
def zlr:Option V->Option Value->Prop
 | some v,some u=>zbs v u
 | none,none=>True
 | _,_=>False
def KV {κ:Type}:List (κ × V)->List (κ × Value)->Prop:=Paired fun (p:κ × V) (q:κ × Value)=>p.1=q.1/\zbs p.2 q.2
def kV:Key->V
 | .inl i=> .int i
 | .inr x=> .str x
inductive HO where
 | lst (xs:List V)
 | tup (xs:List V)
 | dK (kvs:List (Key × V)) | dT (kvs:List (List Key × V))
 | set (S:Int->Bool) (n:Nat)
 | ins (C dx:Addr) (fs:List (Str × V))
 | own (x:Addr)
 | xd (fs:List (Str × V))
 | met (f x:Addr)
 | rng (lo hi:Int)
 | frz (o:Obj) (u:HO)
 | tbl (ps:Array Value)
 | ext (φ:Heap->Prop)
end L2
set_option genInjectivity false
set_option genSizeOf false
namespace L2
open PySem PySem.Spec PyProof.Rows
abbrev Hp:=Addr->Option HO
def upd (H:Hp)(a:Addr)(o:HO):Hp:=fun b=>if b=a then some o else H b
theorem zad {H:Hp}{a:Addr}{o:HO}:upd H a o a=some o:=by unfold upd; rw [if_pos rfl]
theorem zab {H:Hp}{a b:Addr}{o:HO}(h:b≠a):upd H a o b=H b:=by unfold upd; rw [if_neg h]
theorem zcv {H:Hp}{a b:Addr}{o u:HO}(h:H a=some o)(h':H b=some u)(d:o≠u):a≠b:=by
 intro e; subst e; rw [h] at h'; exact d (Option.some.inj h')
theorem zae {H:Hp}{a b:Addr}{o:HO}(h:H a=some o)(h':H b=none):a≠b:=by
 intro e; subst e; rw [h] at h'; cases h'
section
variable (P:Program) (w:World)
def zcl (H:Hp)(h:Heap)(a:Addr):HO->Prop
 | .lst xs=>xs.length<=sizeLine/\∃ (its:List Value) (n:Nat),zb3 xs its/\h.get? a=some { cls:= .type "list",data:= .seq its.toArray n }
 | .tup xs=>xs.length<=sizeLine/\∃ its:List Value,zb3 xs its/\IsTup h a its.toArray
 | .dK kvs=>kvs.length<=sizeLine/\(a == sysModules)=false/\∃ vs,KV kvs vs/\h.DictOf (za7 P w) a vs
 | .dT kvs=>kvs.length<=sizeLine/\(a == sysModules)=false/\∃ xs:List (List Key × Addr × Value),
   Paired (fun (p:List Key × V) (q:List Key × Addr × Value)=>p.1=q.1/\H q.2.1=some (.tup (p.1.map kV))/\zbs p.2 q.2.2) kvs xs /\
   ∃ o es ep,h.get? a=some o/\o.ExactDict/\o.data = .dict es ep/\es.toList=xs.map (entryOfKey (tupleKind (za7 P w)))/\(xs.map (·.1)).Nodup
 | .set S n=>h.SetOf (intKind P w) a S n
 | .ins C dx fs=>H dx=some (.own a)/\fs.length<=1000/\dx≠a/\h.get? a=some (kq C dx) /\
   ∃ mA,h.Ns1 dx mA/\(∀ f,zlr (fs.lookup f) (mA f))/\PySem.Within mA (fs.map (·.1))
 | .own _=>∃ o,h.get? a=some o
 | .xd fs=>∃ mA,h.Ns1 a mA/\∀ f,zlr (fs.lookup f) (mA f)
 | .rng lo hi=>∃ t u v,h.get? a=some { cls:= .type "range",data:= .fields #[.int lo t,.int hi u,.int 1 v] }
 | .frz o u=>h.get? a=some o/\zcl H h a u
 | .tbl ps=>h.get? a=some { cls:= .none,data:= .fields ps }
 | .met f x=>h.get? a=some (mw (.ref f) (.ref x))
 | .ext φ=>φ h/\(∃ o,h.get? a=some o)/\∀ h1 h2:Heap,φ h1->(∀ o,h1.get? a=some o->h2.get? a=some o)->φ h2
def HOk (H:Hp)(h:Heap):Prop:=∀ a o,H a=some o->zcl P w H h a o
end
section
variable {P:Program} {w:World} {H H':Hp} {h h':Heap} {a:Addr} {o:HO}
theorem zcl.lt (x:zcl P w H h a o):a<h.objs.size:=by
 cases o with
 | lst xs=>obtain ⟨_,_,_,_,e⟩:=x; exact i3 e
 | tup xs=>obtain ⟨_,_,_,p⟩:=x; exact p.lt
 | dK kvs=>obtain ⟨_,_,_,_,o,_,_,e,_⟩:=x; exact i3 e
 | dT kvs=>obtain ⟨_,_,_,_,o,_,_,e,_⟩:=x; exact i3 e
 | set S n=>obtain ⟨o,_,_,_,e,_⟩:=x; exact i3 e
 | ins C dx fs=>obtain ⟨_,_,_,e,_⟩:=x; exact i3 e
 | own y=>obtain ⟨_,e⟩:=x; exact i3 e
 | xd fs=>obtain ⟨_,⟨_,_,_,e,_⟩,_⟩:=x; exact i3 e
 | rng lo hi=>obtain ⟨_,_,_,e⟩:=x; exact i3 e
 | frz ob u=>obtain ⟨e,_⟩:=x; exact i3 e
 | tbl ps=>exact i3 (show h.get? a=some _ from x)
 | met f y=>exact i3 (show h.get? a=some _ from x)
 | ext φ=>obtain ⟨_,⟨_,e⟩,_⟩:=x; exact i3 e
theorem Paired.mapP {α β:Type}{F G:α->β->Prop}:∀ {l₁:List α} {l₂:List β},Paired F l₁ l₂->(∀ a b,F a b->G a b)->Paired G l₁ l₂
 | _,_,.nil,_=> .nil
 | _,_,.cons r t,f=> .cons (f _ _ r) (Paired.mapP t f)
theorem zcl.stay (x:zcl P w H h a o)(k:∀ b u,(b=a\/H b=some (.own a))->h.get? b=some u->h'.get? b=some u)
  (ho:∀ b,H b=some (.own a)->H' b=some (.own a))(ht:∀ b xs,H b=some (.tup xs)->H' b=some (.tup xs)):zcl P w H' h' a o:=by
 induction o with
 | lst xs=>obtain ⟨z,its,n,r,e⟩:=x; exact ⟨z,its,n,r,k _ _ (.inl rfl) e⟩
 | tup xs=>obtain ⟨z,its,r,ob,e,c⟩:=x; exact ⟨z,its,r,ob,k _ _ (.inl rfl) e,c⟩
 | dK kvs=>obtain ⟨z,y,vs,r,ob,es,ep,e,c⟩:=x; exact ⟨z,y,vs,r,ob,es,ep,k _ _ (.inl rfl) e,c⟩
 | dT kvs =>
  obtain ⟨z,y,xs,r,ob,es,ep,e,c⟩:=x
  exact ⟨z,y,xs,Paired.mapP r fun p q z=>⟨z.1,ht _ _ z.2.1,z.2.2⟩,ob,es,ep,k _ _ (.inl rfl) e,c⟩
 | set S n=>obtain ⟨ob,es,ep,t,e,c⟩:=x; exact ⟨ob,es,ep,t,k _ _ (.inl rfl) e,c⟩
 | ins C dx fs =>
  obtain ⟨d,z,ne,e,mA,⟨od,es,ep,e2,c⟩,r⟩:=x
  exact ⟨ho _ d,z,ne,k _ _ (.inl rfl) e,mA,⟨od,es,ep,k _ _ (.inr d) e2,c⟩,r⟩
 | own y=>obtain ⟨ob,e⟩:=x; exact ⟨ob,k _ _ (.inl rfl) e⟩
 | xd fs=>obtain ⟨mA,⟨od,es,ep,e,c⟩,r⟩:=x; exact ⟨mA,⟨od,es,ep,k _ _ (.inl rfl) e,c⟩,r⟩
 | rng lo hi=>obtain ⟨t,u,v,e⟩:=x; exact ⟨t,u,v,k _ _ (.inl rfl) e⟩
 | frz ob u ih=>obtain ⟨e,q⟩:=x; exact ⟨k _ _ (.inl rfl) e,ih q⟩
 | tbl ps =>
  have e:h.get? a=some { cls:= .none,data:= .fields ps }:=x
  show h'.get? a=some { cls:= .none,data:= .fields ps }
  exact k a _ (.inl rfl) e
 | met f y =>
  have e:h.get? a=some (mw (.ref f) (.ref y)):=x
  show h'.get? a=some (mw (.ref f) (.ref y))
  exact k a _ (.inl rfl) e
 | ext φ=>obtain ⟨p,⟨o,e⟩,st⟩:=x; exact ⟨st _ _ p fun o q=>k _ _ (.inl rfl) q,⟨o,k _ _ (.inl rfl) e⟩,st⟩
theorem HOk.lt (x:HOk P w H h)(e:H a=some o):a<h.objs.size:=(x a o e).lt
theorem HOk.fresh (x:HOk P w H h)(e:h.objs.size<=a):H a=none:=by
 cases q:H a with
 | none=>rfl
 | some u=>exact absurd (gs (x.lt q) e) (jh _)
theorem HOk.kept (x:HOk P w H h)(k:∀ b u,h.get? b=some u->h'.get? b=some u):HOk P w H h':=fun a o e =>
 (x a o e).stay (fun b u _ q=>k b u q) (fun _ q=>q) fun _ _ q=>q
theorem HOk.laid (x:HOk P w H h)(k:∀ b u,h.get? b=some u->h'.get? b=some u)(hp:h.objs.size<=a)(new:zcl P w (upd H a o) h' a o):HOk P w (upd H a o) h':=fun b u e=>by
 have hn:=x.fresh hp
 by_cases hb:b=a
 ·subst hb; rw [zad] at e; cases e; exact new
 ·rw [zab hb] at e
  exact (x b u e).stay (fun c v _ q=>k c v q) (fun c q=>by rw [zab (zae q hn)]; exact q) fun c xs q=>by rw [zab (zae q hn)]; exact q
end
def Rd (H:Hp)(a:Addr)(u:HO):Prop:=H a=some u\/∃ o,H a=some (.frz o u)
theorem Rd.of {H:Hp}{a:Addr}{u:HO}(h:H a=some u):Rd H a u:= .inl h
theorem Rd.ok {P:Program}{w:World}{H:Hp}{h:Heap}{a:Addr}{u:HO}(r:Rd H a u)(x:HOk P w H h):zcl P w H h a u:=by
 rcases r with r | ⟨o,r⟩
 ·exact x a u r
 ·obtain ⟨_,q⟩:=x a _ r
  exact q
def Mut:Option HO->Prop
 | some (.lst _)=>True
 | some (.dK _)=>True
 | some (.dT _)=>True
 | some (.set _ _)=>True
 | some (.ins _ _ _)=>True
 | some (.ext _)=>True
 | _=>False
section
variable {P:Program} {w:World} {H:Hp} {h h':Heap} {x e:Addr} {o':HO}
theorem HOk.write (ok:HOk P w H h)(mu:Mut (H x))(he:e=x\/H e=some (.own x))(k:∀ b u,b≠e->h.get? b=some u->h'.get? b=some u)(heo:∃ u,h'.get? e=some u)
  (new:zcl P w (upd H x o') h' x o'):HOk P w (upd H x o') h':=fun b u q=>by
 have nown:∀ c y,H c=some (.own y)->c≠x:=fun c y r z=>by subst z; rw [r] at mu; exact mu
 have ntup:∀ c xs,H c=some (.tup xs)->c≠x:=fun c xs r z=>by subst z; rw [r] at mu; exact mu
 by_cases hb:b=x
 ·subst hb; rw [zad] at q; cases q; exact new
 ·rw [zab hb] at q
  by_cases hbe:b=e
  ·have q':H b=some (.own x):=by
    rcases he with z | z
    ·exact absurd (hbe.trans z) hb
    ·rw [hbe]; exact z
   rw [q] at q'; cases q'
   obtain ⟨v,hv⟩:=heo
   exact ⟨v,by rw [hbe]; exact hv⟩
  ·refine (ok b u q).stay (fun c v hc r=>k c v ?_ r) (fun c r=>by rw [zab (nown c b r)]; exact r) fun c xs r=>by rw [zab (ntup c xs r)]; exact r
   rcases hc with rfl | hc
   ·exact hbe
   ·rintro rfl
    rcases he with z | z
    ·exact nown c b hc z
    ·rw [hc] at z; cases z; exact hb rfl
end
structure Un (fs ex:List Addr)(H H':Hp)(h h':Heap):Prop where
 keep:∀ b o,h.get? b=some o->H b=none->b∉fs->b∉ex->h'.get? b=some o
 slot:∀ b o,h.get? b=some o->H b=none->b∈fs->b∉ex->∃ sl,h'.get? b=some { o with slots:=sl }
 free:∀ b o,h.get? b=some o->H b=none->b∉ex->H' b=none
 there:∀ b o,h.get? b=some o->b∉ex->∃ o',h'.get? b=some o'
 tups:∀ b xs,H b=some (.tup xs)->H' b=some (.tup xs)
 frzs:∀ b o u,H b=some (.frz o u)->H' b=some (.frz o u)
 tbls:∀ b ps,H b=some (.tbl ps)->∃ more,H' b=some (.tbl (ps++more))
section
variable {fs ex:List Addr} {H H1:Hp} {h h1 h':Heap} {a x e:Addr} {o:HO}
theorem Un.any (u:Un fs ex H H1 h h1){b:Addr}{ob:Obj}(q:h.get? b=some ob)(n:H b=none)(hx:b∉ex):∃ sl,h1.get? b=some { ob with slots:=sl }:=by
 by_cases hb:b∈fs
 ·exact u.slot b ob q n hb hx
 ·exact ⟨ob.slots,u.keep b ob q n hb hx⟩
theorem Un.kept (k:∀ b u,h.get? b=some u->h'.get? b=some u):Un fs ex H H h h' :=
 ⟨fun b ob q _ _ _=>k b ob q,fun b ob q _ _ _=>⟨ob.slots,k b ob q⟩,fun _ _ _ n _=>n,fun b ob q _=>⟨ob,k b ob q⟩,fun _ _ q=>q,fun _ _ _ q=>q,fun _ ps q=>⟨#[],by rw [q]; simp⟩⟩
theorem Un.refl:Un fs ex H H h h:=Un.kept fun _ _ q=>q
theorem Un.laid (k:∀ b u,h.get? b=some u->h'.get? b=some u)(hp:h.objs.size<=a)(hn:H a=none):Un fs ex H (upd H a o) h h' where
 keep:=fun b u q _ _ _=>k b u q
 slot:=fun b u q _ _ _=>⟨u.slots,k b u q⟩
 free:=fun b u q n _=>by rw [zab (i0 (gs (i3 q) hp))]; exact n
 there:=fun b u q _=>⟨u,k b u q⟩
 tups:=fun b xs q=>by rw [zab (zae q hn)]; exact q
 frzs:=fun b u xs q=>by rw [zab (zae q hn)]; exact q
 tbls:=fun b ps q=>⟨#[],by rw [zab (zae q hn),q]; simp⟩
theorem Un.write (mu:Mut (H x))(he:e=x\/H e=some (.own x))(k:∀ b u,b≠e->h.get? b=some u->h'.get? b=some u)(heo:∃ u,h'.get? e=some u):Un fs ex H (upd H x o) h h':=by
 have hx:∀ b,H b=none->b≠x:=fun b n z=>by subst z; rw [n] at mu; exact mu
 have hb:∀ b,H b=none->b≠e:=fun b n z=>by
  subst z
  rcases he with r | r
  ·exact hx b n r
  ·rw [n] at r; cases r
 have hm:∀ b u,H b=some u->¬ Mut (some u)->b≠x:=fun b u q nm z=>by subst z; rw [q] at mu; exact nm mu
 refine ⟨fun b u q n _ _=>k b u (hb b n) q,fun b u q n _ _=>⟨u.slots,k b u (hb b n) q⟩,fun b u q n _=>by rw [zab (hx b n)]; exact n,fun b u q _=>?_,
  fun b xs q=>by rw [zab (hm b _ q fun z=>z)]; exact q,fun b u xs q=>by rw [zab (hm b _ q fun z=>z)]; exact q,fun b ps q=>⟨#[],by rw [zab (hm b _ q fun z=>z),q]; simp⟩⟩
 by_cases a:b=e
 ·subst a; exact heo
 ·exact ⟨u,k b u a q⟩
end
def trk (h:Heap)(H:Hp):List Addr:=(n8 h.objs.size).filter fun a=>(H a).isSome
def zu3 (h:Heap)(H:Hp):Heap:=PySem.W.hideAll h (trk h H)
theorem zuw (h:Heap)(H:Hp):(zu3 h H).objs.size=h.objs.size:=PySem.W.hideAll_size _ _
theorem zv8 {h:Heap}{H:Hp}{b:Addr}{o:Obj}(e:h.get? b=some o)(n:H b=none):(zu3 h H).get? b=some o :=
 PySem.W.hideAll_get _ e fun hm=>by
  have q:(H b).isSome=true:=(gz.mp hm).2
  rw [n] at q; simp at q
theorem zzz {h:Heap}{H:Hp}{b:Addr}{o:Obj}(e:(zu3 h H).get? b=some o):h.get? b=some o/\H b=none:=by
 have e':h.get? b=some o:=PySem.W.of_hideAll (trk h H) e
 refine ⟨e',?_⟩
 cases q:H b with
 | none=>rfl
 | some x =>
  have hm:b∈trk h H:=gz.mpr ⟨mq.mpr (i3 e'),by simp [q]⟩
  have z:(zu3 h H).get? b=none:=PySem.W.hideAll_none (trk h H) hm
  rw [z] at e; cases e
structure Mod (K:W.Frag)(mg:Str->Option Value)(base:Heap):Prop where
 kin:K.In base
 glob:base.Ns mainGlobals mg
 blt:∃ mb,base.Ns builtinsNs mb/\∀ x:Str,x≠ "__name__" ->mb x=bootBuiltins x
 nolimit:base.NoLimit
structure Cx where
 prog:Program
 w:World
 K:W.Frag
 mg:Str->Option Value
 base:Heap
 A:Around
 N:List Str
 s₀:Shared
 H₀:Hp
 env:Env
 outer:List Env
 stack:List Env
 ex:List Addr
 fn:Str->Bool
 calm:Bool
 pn:List (Addr × Obj)
 xe:Value->Shared->Prop
def frs (l:List Env):List Addr:=l.filterMap (·.frame)
abbrev Cx.fs (X:Cx):List Addr:=frs X.outer
def Vis (sc:Scope)(x:Str):Prop:=sc.names.lookup x=some .local\/sc.names.lookup x=some .cell\/sc.names.lookup x=some .free
def Loc (sc:Scope)(x:Str):Prop:=sc.names.lookup x=some .local\/sc.names.lookup x=some .cell
def z4m (env:Env)(h:Heap)(m:Str->Option Value)(x:Str)(u:Value):Prop :=
 (env.kindOf x=some .local/\m x=some u)\/((env.kindOf x=some .cell\/env.kindOf x=some .free)/\∃ c,env.cells.lookup x=some c/\h.IsCell c (some u))
structure Cx.Ok (X:Cx):Prop where
 mod:Mod X.K X.mg X.base
 kind:X.env.scope.kind = .function
 glob:X.env.globals=mainGlobals
 blt:X.env.builtins=builtinsNs
 above:X.s₀.heap.objs.size<=X.env.locals
 inj:∀ x y c,X.env.cells.lookup x=some c->X.env.cells.lookup y=some c->x=y
 has:∀ x,(X.env.kindOf x=some .cell\/X.env.kindOf x=some .free)->∃ c,X.env.cells.lookup x=some c
 cab:∀ x c,X.fn x=true->X.env.cells.lookup x=some c->X.s₀.heap.objs.size<=c
 hd:X.calm=true->X.A.handled=none
 frames:X.A.frames=some X.stack
 stk:X.stack=X.outer\/(X.stack=X.env :: X.outer/\X.env.frame=some X.env.locals)
 exf:∀ b∈X.ex,b≠X.env.locals/\∀ x c,X.env.cells.lookup x=some c->c≠b
 bs:∀ b o,X.base.get? b=some o->X.s₀.heap.get? b=some o/\X.H₀ b=none
 bsz:X.base.objs.size<=X.s₀.heap.objs.size
 noex:∀ b o,X.base.get? b=some o->b∉X.ex
 exfs:∀ b∈X.ex,b∉X.fs
 funs:X.s₀.heap.FunFrames X.base X.outer
 frf:∀ b∈X.fs,X.H₀ b=none
structure Inv (X:Cx)(pins:List (Addr × Obj))(σ:List (Option V))(H:Hp)(s:Shared):Prop where
 ok:X.Ok
 os:s.os=X.s₀.os
 bare:AllBare s.gens
 base:Un X.fs X.ex X.H₀ H X.s₀.heap s.heap
 loc:∃ m,s.heap.Ns X.env.locals m/\∀ (i:Nat) (x:Str) (v:V),X.N[i]? = some x->σ[i]? = some (some v)->Vis X.env.scope x->∃ u,zbs v u/\z4m X.env s.heap m x u
 cell:∀ x c,X.env.cells.lookup x=some c->∃ v,s.heap.IsCell c v
 free:H X.env.locals=none
 freeC:∀ x c,X.env.cells.lookup x=some c->(X.fn x=true->H c=none)/\(H c=none\/∃ o u,H c=some (.frz o u))
 pin:∀ p∈X.pn++pins,s.heap.get? p.1=some p.2/\H p.1=none/\p.1≠X.env.locals/\p.1∉X.fs/\∀ v,p.2.data≠ .cell v
 hok:HOk X.prog X.w H s.heap
 len:σ.length=X.N.length
section
variable {X:Cx} {pins:List (Addr × Obj)} {σ:List (Option V)} {H H':Hp} {s:Shared} {h':Heap}
theorem Cx.Ok.nofr (ok:X.Ok){b:Addr}{o:Obj}(e:X.base.get? b=some o):b∉X.fs:=fun hb=>by
 have:=(ok.funs.mem hb).1
 rw [e] at this; cases this
theorem Inv.bs (I:Inv X pins σ H s):∀ b o,X.base.get? b=some o->s.heap.get? b=some o/\H b=none:=fun b o e =>
 ⟨I.base.keep b o (I.ok.bs b o e).1 (I.ok.bs b o e).2 (I.ok.nofr e) (I.ok.noex b o e),I.base.free b o (I.ok.bs b o e).1 (I.ok.bs b o e).2 (I.ok.noex b o e)⟩
theorem Inv.bk (I:Inv X pins σ H s):∀ b o,X.base.get? b=some o->s.heap.get? b=some o:=fun b o e=>(I.bs b o e).1
theorem Inv.mod (I:Inv X pins σ H s):Mod X.K X.mg X.base:=I.ok.mod
theorem Inv.kIn (I:Inv X pins σ H s):X.K.In s.heap:=I.ok.mod.kin.keeps I.bk
theorem Inv.lt (I:Inv X pins σ H s):X.env.locals<s.heap.objs.size:=let ⟨_,hn,_⟩:=I.loc; hn.lt
theorem Inv.sz (I:Inv X pins σ H s):X.s₀.heap.objs.size<=s.heap.objs.size:=gy I.ok.above (ie I.lt)
theorem Inv.nofs (I:Inv X pins σ H s){a:Addr}(h:s.heap.objs.size<=a):a∉X.fs:=fun hb=>by
 obtain ⟨_,o,ho,_⟩:=I.ok.funs.mem hb
 exact absurd (gs (i3 ho) (gy I.sz h)) (jh _)
theorem Inv.cne (I:Inv X pins σ H s):∀ x c,X.env.cells.lookup x=some c->c≠X.env.locals:=fun x c e z=>by
 obtain ⟨v,o,ho,hd⟩:=I.cell x c e
 obtain ⟨m,⟨o',es,ep,ho',hd',_⟩,_⟩:=I.loc
 rw [z,ho'] at ho; cases ho; rw [hd'] at hd; cases hd
theorem Inv.funs (I:Inv X pins σ H s):s.heap.FunFrames X.base X.outer:=by
 have all:∀ (l:List Env),(∀ b∈frs l,b∈X.fs)->X.s₀.heap.FunFrames X.base l->s.heap.FunFrames X.base l:=by
  intro l
  induction l with
  | nil=>intro _ _; trivial
  | cons env r ih =>
   intro hs hl
   obtain ⟨hk,⟨L,o,hf,hn,ho,hd⟩,hr⟩:=hl
   have hL:L∈X.fs:=hs L (by unfold frs; rw [iq,hf]; exact gj)
   obtain ⟨sl,e⟩:=I.base.slot L o ho (I.ok.frf L hL) hL fun z=>I.ok.exfs L z hL
   exact ⟨hk,⟨L,_,hf,hn,e,hd⟩,ih (fun b hb=>hs b (by unfold frs; rw [iq,hf]; exact gc _ hb)) hr⟩
 exact all X.outer (fun _ hb=>hb) I.ok.funs
theorem Inv.stack (I:Inv X pins σ H s):s.heap.FunFrames X.base X.stack:=by
 rcases I.ok.stk with e | ⟨e,hf⟩
 ·rw [e]; exact I.funs
 ·rw [e]
  obtain ⟨m,hn,_⟩:=I.loc
  refine .cons (by rw [I.ok.kind]; decide) hf hn ?_ I.funs
  exact Heap.get?_none_of_le (gy I.ok.bsz I.ok.above)
theorem Inv.stkSub (I:Inv X pins σ H s):∀ b∈frs X.stack,b∈X.env.locals :: X.fs:=fun b hb=>by
 rcases I.ok.stk with e | ⟨e,hf⟩
 ·rw [e] at hb; exact gc _ hb
 ·rw [e] at hb
  unfold frs at hb
  rw [iq,hf] at hb
  exact hb
theorem Inv.stkFree (I:Inv X pins σ H s):∀ b∈frs X.stack,H b=none:=fun b hb=>by
 rcases gx.mp (I.stkSub b hb) with e | hb
 ·rw [e]; exact I.free
 ·obtain ⟨_,o,ho,_⟩:=I.ok.funs.mem hb
  exact I.base.free b o ho (I.ok.frf b hb) fun z=>I.ok.exfs b z hb
theorem Inv.step {g':Array GenState}{t':Nat}{d':Drawn}{ch:List Addr}(I:Inv X pins σ H s)
  (hch:∀ b∈ch,(b∈X.ex\/X.s₀.heap.objs.size<=b)/\b≠X.env.locals/\(∀ x c,X.env.cells.lookup x=some c->c≠b)/\∀ p∈X.pn++pins,p.1≠b)
  (keep:∀ b o,b≠X.env.locals->b∉X.fs->b∉ch->s.heap.get? b=some o->H b=none->h'.get? b=some o)
  (slot:∀ b o,b≠X.env.locals->b∈X.fs->b∉ch->s.heap.get? b=some o->H b=none->∃ sl,h'.get? b=some { o with slots:=sl })(free:∀ b o,b∉ch->s.heap.get? b=some o->H b=none->H' b=none)
  (there:∀ b o,b∉ch->s.heap.get? b=some o->∃ o',h'.get? b=some o')
  (tups:∀ b xs,H b=some (.tup xs)->H' b=some (.tup xs))(frzs:∀ b o u,H b=some (.frz o u)->H' b=some (.frz o u))(tbls:∀ b ps,H b=some (.tbl ps)->∃ more,H' b=some (.tbl (ps++more)))
  (ns:∀ m,s.heap.Ns X.env.locals m->h'.Ns X.env.locals m)(hok:HOk X.prog X.w H' h')(hg:AllBare g') :
  Inv X pins σ H' { s with heap:=h',gens:=g',drawn:=d',toks:=t' }:=by
 have h:∀ b o,X.s₀.heap.get? b=some o->b≠X.env.locals:=fun b o e=>i0 (gs (i3 e) I.ok.above)
 have g:∀ b o,X.s₀.heap.get? b=some o->b∉X.ex->b∉ch:=fun b o e hx hb=>by
  rcases (hch b hb).1 with z | z
  ·exact hx z
  ·exact absurd (gs (i3 e) z) (jh _)
 have f:∀ x c,X.env.cells.lookup x=some c->∀ v,s.heap.IsCell c v->h'.IsCell c v:=fun x c e v ⟨o,ho,hd⟩=>by
  have a:c∉ch:=fun z=>(hch c z).2.2.1 x c e rfl
  rcases (I.freeC x c e).2 with fr | ⟨oz,uz,fz⟩
  ·by_cases hc:c∈X.fs
   ·obtain ⟨sl,q⟩:=slot c o (I.cne x c e) hc a ho fr
    exact ⟨_,q,hd⟩
   ·exact ⟨o,keep c o (I.cne x c e) hc a ho fr,hd⟩
  ·obtain ⟨z1,_⟩:=I.hok c _ fz
   obtain ⟨z2,_⟩:=hok c _ (frzs c oz uz fz)
   rw [ho] at z1
   cases z1
   exact ⟨o,z2,hd⟩
 refine ⟨I.ok,I.os,hg,⟨fun b o e n hb hx=>?_,fun b o e n hb hx=>?_,fun b o e n hx=>?_,fun b o e hx=>?_,fun b xs e=>tups b xs (I.base.tups b xs e),fun b o xs e=>frzs b o xs (I.base.frzs b o xs e),fun b ps e=>?_⟩,?_,fun x c e=>?_,?_,fun x c e=>?_,fun p hp=>?_,hok,I.len⟩
 ·exact keep b o (h b o e) hb (g b o e hx) (I.base.keep b o e n hb hx) (I.base.free b o e n hx)
 ·obtain ⟨sl,e1⟩:=I.base.slot b o e n hb hx
  obtain ⟨j,e2⟩:=slot b _ (h b o e) hb (g b o e hx) e1 (I.base.free b o e n hx)
  exact ⟨j,e2⟩
 ·obtain ⟨o',e1⟩:=I.base.there b o e hx
  exact free b o' (g b o e hx) e1 (I.base.free b o e n hx)
 ·obtain ⟨o',e1⟩:=I.base.there b o e hx
  exact there b o' (g b o e hx) e1
 ·obtain ⟨m1,e1⟩:=I.base.tbls b ps e
  obtain ⟨m2,e2⟩:=tbls b _ e1
  exact ⟨m1++m2,by rw [e2,Array.append_assoc]⟩
 ·obtain ⟨m,hn,hl⟩:=I.loc
  refine ⟨m,ns m hn,fun i x v e1 e2 e3=>?_⟩
  obtain ⟨u,r,l⟩:=hl i x v e1 e2 e3
  refine ⟨u,r,?_⟩
  rcases l with l | ⟨k,c,e,z⟩
  ·exact .inl l
  ·exact .inr ⟨k,c,e,f x c e _ z⟩
 ·obtain ⟨v,z⟩:=I.cell x c e
  exact ⟨v,f x c e v z⟩
 ·obtain ⟨m,⟨o,_,_,ho,_⟩,_⟩:=I.loc
  exact free _ o (fun z=>(hch _ z).2.1 rfl) ho I.free
 ·obtain ⟨v,o,ho,hd⟩:=I.cell x c e
  refine ⟨fun q=>free c o (fun z=>(hch c z).2.2.1 x c e rfl) ho ((I.freeC x c e).1 q),?_⟩
  rcases (I.freeC x c e).2 with fr | ⟨oz,uz,fz⟩
  ·exact .inl (free c o (fun z=>(hch c z).2.2.1 x c e rfl) ho fr)
  ·exact .inr ⟨oz,uz,frzs c oz uz fz⟩
 ·obtain ⟨e,n,ne,nf,d⟩:=I.pin p hp
  have a:p.1∉ch:=fun z=>(hch p.1 z).2.2.2 p hp rfl
  exact ⟨keep p.1 p.2 ne nf a e n,free p.1 p.2 a e n,ne,nf,d⟩
theorem Inv.un {t':Nat}(I:Inv X pins σ H s)(u:Un X.fs [] H H' s.heap h')(hok:HOk X.prog X.w H' h'):Inv X pins σ H' { s with heap:=h',toks:=t' }:=by
 obtain ⟨m,⟨o,es,ep,ho,r⟩,_⟩:=id I.loc
 obtain ⟨sl,hL⟩:=u.any ho I.free (by simp)
 exact I.step (g':=s.gens) (d':=s.drawn) (ch:=[]) (fun _ z=>nomatch z) (fun b o _ hb _ e n=>u.keep b o e n hb (by simp)) (fun b o _ hb _ e n=>u.slot b o e n hb (by simp)) (fun b o _ e n=>u.free b o e n (by simp)) (fun b o _ e=>u.there b o e (by simp)) u.tups u.frzs u.tbls (fun m' hm=>by
  obtain ⟨o',c,d,a,r'⟩:=hm
  rw [ho] at a; cases a
  exact ⟨_,c,d,hL,r'⟩) hok I.bare
theorem Inv.call {g':Array GenState}{t':Nat}{d':Drawn}{ch:List Addr}(I:Inv X pins σ H s)(u:Un (frs X.stack) ch H H' s.heap h')(hok:HOk X.prog X.w H' h')(hg:AllBare g')
  (hch:∀ b∈ch,(b∈X.ex\/X.s₀.heap.objs.size<=b)/\b≠X.env.locals/\(∀ x c,X.env.cells.lookup x=some c->c≠b)/\∀ p∈X.pn++pins,p.1≠b) :
  Inv X pins σ H' { s with heap:=h',gens:=g',drawn:=d',toks:=t' }:=by
 obtain ⟨m,⟨o,es,ep,ho,r⟩,_⟩:=id I.loc
 obtain ⟨sl,hL⟩:=u.any ho I.free fun z=>(hch _ z).2.1 rfl
 exact I.step (ch:=ch) hch (fun b o hL hb hc e n=>u.keep b o e n (fun z=>(gx.mp (I.stkSub b z)).elim hL hb) hc) (fun b o _ _ hc e n=>u.any e n hc) (fun b o hc e n=>u.free b o e n hc) (fun b o hc e=>u.there b o e hc) u.tups u.frzs u.tbls (fun m' hm=>by
  obtain ⟨o',d,f,a,r'⟩:=hm
  rw [ho] at a; cases a
  exact ⟨_,d,f,hL,r'⟩) hok hg
theorem Inv.turned {t':Nat}{it:Addr}(I:Inv X pins σ H s)(k:∀ b o,b≠it->s.heap.get? b=some o->h'.get? b=some o)(hn:H it=none)(hL:it≠X.env.locals)
  (h1:it∈X.ex\/X.s₀.heap.objs.size<=it)(h2:∀ x c,X.env.cells.lookup x=some c->c≠it)(h3:∀ p∈X.pn++pins,p.1≠it):Inv X pins σ H { s with heap:=h',toks:=t' }:=by
 have a:∀ b u,H b=some u->b≠it:=fun b u e z=>by rw [z,hn] at e; cases e
 refine I.step (g':=s.gens) (d':=s.drawn) (ch:=[it]) (fun b hb=>?_) (fun b o _ _ hc e _=>k b o (fun z=>hc (by simp [z])) e) (fun b o _ _ hc e _=>⟨o.slots,k b o (fun z=>hc (by simp [z])) e⟩) (fun _ _ _ _ n=>n)
  (fun b o hc e=>⟨o,k b o (fun z=>hc (by simp [z])) e⟩) (fun _ _ e=>e) (fun _ _ _ e=>e) (fun b ps e=>⟨#[],by rw [e]; simp⟩) (fun m hm=>?_) (fun b u e=>?_) I.bare
 ·have e:b=it:=by simpa using hb
  subst e
  exact ⟨h1,hL,h2,h3⟩
 ·obtain ⟨o,es,ep,ho,r⟩:=hm
  exact ⟨o,es,ep,k _ o (Ne.symm hL) ho,r⟩
 ·refine (I.hok b u e).stay (fun c v hc q=>k c v ?_ q) (fun _ q=>q) fun _ _ q=>q
  rcases hc with z | z
  ·rw [z]; exact a b u e
  ·exact a c _ z
theorem Inv.tok (I:Inv X pins σ H s)(t:Nat):Inv X pins σ H { s with toks:=t }:=I.un (h':=s.heap) (t':=t) Un.refl I.hok
theorem Inv.kept {t':Nat}(I:Inv X pins σ H s)(k:∀ b u,s.heap.get? b=some u->h'.get? b=some u):Inv X pins σ H { s with heap:=h',toks:=t' }:=I.un (Un.kept k) (I.hok.kept k)
theorem Inv.laid {a:Addr}{o:HO}{t':Nat}(I:Inv X pins σ H s)(k:∀ b u,s.heap.get? b=some u->h'.get? b=some u)(hp:s.heap.objs.size<=a)(new:zcl X.prog X.w (upd H a o) h' a o) :
  Inv X pins σ (upd H a o) { s with heap:=h',toks:=t' }:=I.un (Un.laid k hp (I.hok.fresh hp)) (I.hok.laid k hp new)
theorem Inv.write {x e:Addr}{o:HO}{t':Nat}(I:Inv X pins σ H s)(mu:Mut (H x))(he:e=x\/H e=some (.own x))(k:∀ b u,b≠e->s.heap.get? b=some u->h'.get? b=some u)(heo:∃ u,h'.get? e=some u)
  (new:zcl X.prog X.w (upd H x o) h' x o):Inv X pins σ (upd H x o) { s with heap:=h',toks:=t' }:=I.un (Un.write mu he k heo) (I.hok.write mu he k heo new)
theorem Inv.pins_of {pins':List (Addr × Obj)}(I:Inv X pins σ H s)(h:∀ p∈pins',s.heap.get? p.1=some p.2/\H p.1=none/\p.1≠X.env.locals/\p.1∉X.fs/\∀ v,p.2.data≠ .cell v):Inv X pins' σ H s :=
 ⟨I.ok,I.os,I.bare,I.base,I.loc,I.cell,I.free,I.freeC,fun p hp=>(gm.mp hp).elim (fun z=>I.pin p (gr _ z)) (h p),I.hok,I.len⟩
theorem zlx {N:List Str}(hN:N.Nodup){i j:Nat}{x:Str}(a:N[i]? = some x)(b:N[j]? = some x):i=j:=by
 obtain ⟨h1,e1⟩:=List.getElem?_eq_some_iff.mp a
 obtain ⟨h2,e2⟩:=List.getElem?_eq_some_iff.mp b
 exact (ku hN).mp (e1.trans e2.symm)
theorem zr6 {M:Model}{A:Around}{E:Value->Shared->Prop}{i:Nat}{x:Str}{v:V}{u:Value}{Q:Unit->Shared->Prop}(I:Inv X pins σ H s)(hN:X.N.Nodup)(hi:X.N[i]? = some x)(hx:Loc X.env.scope x)(r:zbs v u)
  (h:∀ s',Inv X pins (σ.set i (some v)) H s'->(∃ a,Heap.SameBut a s.heap s'.heap/\(a=X.env.locals\/X.env.cells.lookup x=some a))->Q () s')(hf:X.fn x=true\/X.env.scope.names.lookup x=some .local:=by first | exact .inl rfl | exact .inr rfl | assumption):wpAny M A (storeName X.env x u) Q E s:=by
 obtain ⟨m,hn,hl⟩:=id I.loc
 have ae:(X.env.scope.kind == .class || (X.env.scope.kind == .module && X.env.locals != X.env.globals))=false:=by rw [I.ok.kind]; rfl
 have t:i<σ.length:=by rw [I.len]; exact (List.getElem?_eq_some_iff.mp hi).1
 have cne:=I.cne
 have f:∀ {a:Addr} {h':Heap},(∃ o,s.heap.get? a=some o/\H a=none)->Heap.SameBut a s.heap h'->HOk X.prog X.w H h':=fun {a h'} ha hs b ob e=>by
  obtain ⟨_,_,g⟩:=ha
  refine (I.hok b ob e).stay (fun c w' hc q=>(hs.2 c ?_).trans q) (fun _ q=>q) fun _ _ q=>q
  rintro rfl
  rcases hc with rfl | hc
  ·rw [g] at e; cases e
  ·rw [g] at hc; cases hc
 rcases hx with hk | hk
 ·refine wpAny_storeName_local hk hn (fun h' af hs=>?_) ae
  obtain ⟨oL,_,_,ag,_⟩:=id hn
  refine h _ ⟨I.ok,I.os,I.bare,⟨fun b o e n hb hx=>?_,fun b o e n hb hx=>?_,I.base.free,fun b o e hx=>?_,I.base.tups,I.base.frzs,I.base.tbls⟩,⟨_,af,fun j y v' e1 e2 e3=>?_⟩,fun y c e=>?_,I.free,I.freeC,fun p hp=>?_,f ⟨oL,ag,I.free⟩ hs,by simpa using I.len⟩ ⟨_,hs,.inl rfl⟩
  ·exact (hs.2 b (i0 (gs (i3 e) I.ok.above))).trans (I.base.keep b o e n hb hx)
  ·obtain ⟨sl,e1⟩:=I.base.slot b o e n hb hx
   exact ⟨sl,(hs.2 b (i0 (gs (i3 e) I.ok.above))).trans e1⟩
  ·obtain ⟨o',e1⟩:=I.base.there b o e hx
   exact ⟨o',(hs.2 b (i0 (gs (i3 e) I.ok.above))).trans e1⟩
  ·by_cases hj:j=i
   ·subst hj
    rw [hi] at e1; cases e1
    rw [List.getElem?_set_self t] at e2
    cases e2
    exact ⟨u,r,.inl ⟨hk,by simp⟩⟩
   ·rw [List.getElem?_set_ne (Ne.symm hj)] at e2
    obtain ⟨u',r',q⟩:=hl j y v' e1 e2 e3
    refine ⟨u',r',?_⟩
    rcases q with ⟨k,e⟩ | ⟨k,c,e,z⟩
    ·refine .inl ⟨k,?_⟩
     have:y≠x:=fun e=>hj (zlx hN e1 (e ▸ hi))
     simp [this,e]
    ·exact .inr ⟨k,c,e,z.sameBut hs (cne y c e)⟩
  ·obtain ⟨w',z⟩:=I.cell y c e
   exact ⟨w',z.sameBut hs (cne y c e)⟩
  ·obtain ⟨e,n,ne,nf,d⟩:=I.pin p hp
   exact ⟨(hs.2 p.1 ne).trans e,n,ne,nf,d⟩
 ·have l:X.fn x=true:=by
   rcases hf with z | z
   ·exact z
   ·rw [z] at hk; cases hk
  obtain ⟨c,hc⟩:=I.ok.has x (.inl hk)
  obtain ⟨w',z⟩:=I.cell x c hc
  refine wpAny_storeName_cell I.ok.kind hk hc z (fun h' ac hs=>?_)
  obtain ⟨oc,ad,ab⟩:=id z
  refine h { s with heap:=h' } ⟨I.ok,I.os,I.bare,⟨fun b o e n hb hx=>?_,fun b o e n hb hx=>?_,I.base.free,fun b o e hx=>?_,I.base.tups,I.base.frzs,I.base.tbls⟩,⟨m,hn.sameBut hs (Ne.symm (cne x c hc)),fun j y v' e1 e2 e3=>?_⟩,fun y c' e=>?_,I.free,I.freeC,fun p hp=>?_,f ⟨oc,ad,(I.freeC x c hc).1 l⟩ hs,by simpa using I.len⟩ ⟨c,hs,.inr hc⟩
  ·exact (hs.2 b (i0 (gs (i3 e) (I.ok.cab x c l hc)))).trans (I.base.keep b o e n hb hx)
  ·obtain ⟨sl,e1⟩:=I.base.slot b o e n hb hx
   exact ⟨sl,(hs.2 b (i0 (gs (i3 e) (I.ok.cab x c l hc)))).trans e1⟩
  ·obtain ⟨o',e1⟩:=I.base.there b o e hx
   exact ⟨o',(hs.2 b (i0 (gs (i3 e) (I.ok.cab x c l hc)))).trans e1⟩
  ·by_cases hj:j=i
   ·subst hj
    rw [hi] at e1; cases e1
    rw [List.getElem?_set_self t] at e2
    cases e2
    exact ⟨u,r,.inr ⟨.inl hk,c,hc,ac⟩⟩
   ·rw [List.getElem?_set_ne (Ne.symm hj)] at e2
    obtain ⟨u',r',q⟩:=hl j y v' e1 e2 e3
    refine ⟨u',r',?_⟩
    rcases q with q | ⟨k,c',e,z'⟩
    ·exact .inl q
    ·refine .inr ⟨k,c',e,z'.sameBut hs ?_⟩
     rintro rfl
     exact hj (zlx hN e1 (I.ok.inj _ _ _ e hc ▸ hi))
  ·by_cases aa:c'=c
   ·subst aa; exact ⟨_,ac⟩
   ·obtain ⟨w2,z2⟩:=I.cell y c' e
    exact ⟨w2,z2.sameBut hs aa⟩
  ·obtain ⟨e,n,ne,nf,d⟩:=I.pin p hp
   refine ⟨(hs.2 p.1 ?_).trans e,n,ne,nf,d⟩
   intro q
   rw [q,ad] at e
   have q':oc=p.2:=Option.some.inj e
   exact d w' (by rw [<- q']; exact ab)
theorem zmd {M:Model}{A:Around}{E:Value->Shared->Prop}{i:Nat}{x:Str}{v:V}{u:Value}{Q:Unit->Shared->Prop}(I:Inv X pins σ H s)(hN:X.N.Nodup)(hi:X.N[i]? = some x)(hx:Loc X.env.scope x)(r:zbs v u)
  (h:∀ s',Inv X pins (σ.set i (some v)) H s'->Q () s')(hf:X.fn x=true\/X.env.scope.names.lookup x=some .local:=by first | exact .inl rfl | exact .inr rfl | assumption):wpAny M A (storeName X.env x u) Q E s :=
 zr6 I hN hi hx r (fun s' I' _=>h s' I') hf
theorem Inv.call' {s':Shared}{ch:List Addr}(I:Inv X pins σ H s)(ho:s'.os=s.os)(u:Un (frs X.stack) ch H H' s.heap s'.heap)(hok:HOk X.prog X.w H' s'.heap)(hg:AllBare s'.gens)
  (hch:∀ b∈ch,(b∈X.ex\/X.s₀.heap.objs.size<=b)/\b≠X.env.locals/\(∀ x c,X.env.cells.lookup x=some c->c≠b)/\∀ p∈X.pn++pins,p.1≠b):Inv X pins σ H' s':=by
 obtain ⟨h',g',d',t',o'⟩:=s'
 have e:o'=s.os:=ho
 subst e
 exact I.call (g':=g') (t':=t') (d':=d') u hok hg hch
end
abbrev XK:=Value->Option Addr->Hp->Prop
abbrev St:=List (Option V)
abbrev VK:=V->Hp->Prop
abbrev TE:=St->Hp->VK->Prop
abbrev TT:=St->Hp->(Bool->Hp->Prop)->Prop
abbrev TA:=St->Hp->(List V->Hp->Prop)->Prop
structure zzb where
 nx:St->Hp->Prop
 rt:VK
 bk:St->Hp->Prop:=fun _ _=>False
 ct:St->Hp->Prop:=fun _ _=>False
abbrev TS:=zzb->St->Hp->Prop
def EP (X:Cx)(pins:List (Addr × Obj))(σ:St)(Q:VK)(u:Value)(s':Shared):Prop:=∃ v H',Inv X pins σ H' s'/\zbs v u/\Q v H'
def TP (X:Cx)(pins:List (Addr × Obj))(σ:St)(Q:Bool->Hp->Prop)(b:Bool)(s':Shared):Prop:=∃ H',Inv X pins σ H' s'/\Q b H'
def AP (X:Cx)(pins:List (Addr × Obj))(σ:St)(Q:List V->Hp->Prop)(us:List Value)(s':Shared):Prop:=∃ vs H',Inv X pins σ H' s'/\zb3 vs us/\Q vs H'
def SP (X:Cx)(pins:List (Addr × Obj))(D:zzb)(f:Flow)(s':Shared):Prop :=
 match f with
 | .next=>∃ σ' H',Inv X pins σ' H' s'/\D.nx σ' H'
 | .brk=>∃ σ' H',Inv X pins σ' H' s'/\D.bk σ' H'
 | .cont=>∃ σ' H',Inv X pins σ' H' s'/\D.ct σ' H'
 | .ret u=>∃ v σ' H',Inv X pins σ' H' s'/\zbs v u/\D.rt v H'
def PE (X:Cx)(e:Expr)(t:TE):Prop :=
 ∀ (pins:List (Addr × Obj)) (s:Shared) (σ:St) (H:Hp) (Q:VK),Inv X pins σ H s->t σ H Q->wpAny (model X.prog X.w) X.A (eval e X.env) (EP X pins σ Q) X.xe s
def PT (X:Cx)(e:Expr)(t:TT):Prop :=
 ∀ (pins:List (Addr × Obj)) (s:Shared) (σ:St) (H:Hp) (Q:Bool->Hp->Prop),Inv X pins σ H s->t σ H Q->wpAny (model X.prog X.w) X.A (isTrue e X.env (eval e X.env)) (TP X pins σ Q) X.xe s
def PW (X:Cx)(e:Expr)(t:TT):Prop :=
 ∀ (whole:Sem Value) (pins:List (Addr × Obj)) (s:Shared) (σ:St) (H:Hp) (Q:Bool->Hp->Prop),Inv X pins σ H s->t σ H Q->wpAny (model X.prog X.w) X.A (isTrue e X.env whole) (TP X pins σ Q) X.xe s
theorem PW.pt {X:Cx}{e:Expr}{t:TT}(h:PW X e t):PT X e t:=h _
def PA (X:Cx)(es:List Expr)(t:TA):Prop :=
 ∀ (pos:Pos) (pins:List (Addr × Obj)) (s:Shared) (σ:St) (H:Hp) (Q:List V->Hp->Prop),Inv X pins σ H s->t σ H Q->wpAny (model X.prog X.w) X.A (spliced (backTo pos (starEach es X.env))) (AP X pins σ Q) X.xe s
def PS (X:Cx)(st:Stmt)(t:TS):Prop :=
 ∀ (pins:List (Addr × Obj)) (s:Shared) (σ:St) (H:Hp) (D:zzb),Inv X pins σ H s->t D σ H->wpAny (model X.prog X.w) X.A (exec st X.env) (SP X pins D) X.xe s
def PSs (X:Cx)(st:List Stmt)(t:TS):Prop :=
 ∀ (pins:List (Addr × Obj)) (s:Shared) (σ:St) (H:Hp) (D:zzb),Inv X pins σ H s->t D σ H->wpAny (model X.prog X.w) X.A (execs st X.env) (SP X pins D) X.xe s
theorem thn {α:Type}{t:Sem α}{Q Q':α->Shared->Prop}{M:Model}{A:Around}{E:Value->Shared->Prop}{s:Shared}(h:wpAny M A t Q E s)(hQ:∀ a s,Q a s->Q' a s):wpAny M A t Q' E s:=wpAny_mono h hQ fun _ _ x=>x
section
variable {X:Cx}
def zu5 (i:Nat):TE:=fun σ H Q=>∃ v,σ[i]? = some (some v)/\Q v H
def tC (v:V):TE:=fun _ H Q=>Q v H
theorem z1j {i:Nat}{x:Str}{pos:Pos}(hN:X.N[i]? = some x)(hv:Vis X.env.scope x)(hd:(x == ("__debug__" : Str))=false:=by decide)(hcd:(x == ("__classdict__" : Str))=false:=by decide):PE X (.Name x pos) (zu5 i):=by
 intro pins s σ H Q I h
 obtain ⟨v,e,h⟩:=h
 obtain ⟨m,hn,hl⟩:=I.loc
 obtain ⟨u,r,l⟩:=hl i x v hN e hv
 have b:EP X pins σ Q u s:=⟨v,H,I,r,h⟩
 rcases l with ⟨hk,hm⟩ | ⟨hk,c,hc,a⟩
 ·exact wpAny_Name (wpAny_loadName_local I.ok.kind hk hn hm b) hd
 ·rcases hk with hk | hk
  ·exact wpAny_Name (wpAny_loadName_cell I.ok.kind hk hc a b) hd
  ·exact wpAny_Name (wpAny_loadName_free I.ok.kind hk hc a b hcd) hd
theorem zal {i j pos}:PE X (.Constant (.int i) j pos) (tC (.int i)):=fun _ _ _ H _ I h=>wpAny_Constant_int ⟨.int i,H,I.tok _,⟨_,rfl⟩,h⟩
theorem zhg {b j pos}:PE X (.Constant (.bool b) j pos) (tC (.bl b)):=fun _ _ _ H _ I h=>Constant_bool ⟨.bl b,H,I,rfl,h⟩
theorem zcd {j pos}:PE X (.Constant .none j pos) (tC .non):=fun _ _ _ H _ I h=>Constant_none ⟨.non,H,I,rfl,h⟩
theorem zcj {x j pos}:PE X (.Constant (.str x) j pos) (tC (.str x)):=fun _ _ _ H _ I h=>Calls.Constant_str ⟨.str x,H,I.tok _,⟨_,rfl⟩,h⟩
def Gl (X:Cx)(x:Str):Prop:=X.env.kindOf x=some .globalImplicit
theorem zl7 {E:Value->Shared->Prop}{pins:List (Addr × Obj)}{s:Shared}{σ:St}{H:Hp}{x:Str}{u:Value}{pos:Pos}{Q:Value->Shared->Prop}(I:Inv X pins σ H s)(hg:Gl X x)(hm:X.mg x=some u)(h:Q u s)
  (hd:(x == ("__debug__" : Str))=false:=by decide):wpAny (model X.prog X.w) X.A (eval (.Name x pos) X.env) Q E s :=
 Calls.Name_function_global I.ok.kind hg (Calls.loadGlobal_global (by rw [I.ok.glob]; exact I.mod.glob.keeps I.bk) hm h) hd
theorem zjf {E:Value->Shared->Prop}{pins:List (Addr × Obj)}{s:Shared}{σ:St}{H:Hp}{x:Str}{u:Value}{pos:Pos}{Q:Value->Shared->Prop}(I:Inv X pins σ H s)(hg:Gl X x)(hm:X.mg x=none)(hv:bootBuiltins x=some u)(h:Q u s)
  (hn:x≠ "__name__" :=by decide)(hd:(x == ("__debug__" : Str))=false:=by decide):wpAny (model X.prog X.w) X.A (eval (.Name x pos) X.env) Q E s:=by
 obtain ⟨mb,h1,h2⟩:=I.mod.blt
 exact Calls.Name_function_global I.ok.kind hg (Calls.loadGlobal_builtin (by rw [I.ok.glob]; exact I.mod.glob.keeps I.bk) hm (by rw [I.ok.blt]; exact h1.keeps I.bk) ((h2 x hn).trans hv) h) hd
theorem zzs {x:Str}{v:V}{u:Value}{pos:Pos}(hg:Gl X x)(hm:X.mg x=some u)(r:zbs v u)(hd:(x == ("__debug__" : Str))=false:=by decide):PE X (.Name x pos) (tC v) :=
 fun _ _ _ H _ I h=>zl7 I hg hm ⟨v,H,I,r,h⟩ hd
theorem zy_ {x:Str}{v:V}{u:Value}{pos:Pos}(hg:Gl X x)(hm:X.mg x=none)(hv:bootBuiltins x=some u)(r:zbs v u)(hn:x≠ "__name__" :=by decide)(hd:(x == ("__debug__" : Str))=false:=by decide):PE X (.Name x pos) (tC v) :=
 fun _ _ _ H _ I h=>zjf I hg hm hv ⟨v,H,I,r,h⟩ hn hd
variable {a b:Expr} {ta tb:TE} {pos:Pos}
def PC (X:Cx)(op:CmpOp)(a b:Expr)(t:TE):Prop :=
 ∀ (pins:List (Addr × Obj)) (s:Shared) (σ:St) (H:Hp) (Q:VK),Inv X pins σ H s->t σ H Q ->
  wpAny (model X.prog X.w) X.A (eval a X.env) (fun v s₁=>wpAny (model X.prog X.w) X.A (eval b X.env) (fun u s₂=>wpAny (model X.prog X.w) X.A (compareOp op v u) (EP X pins σ Q) X.xe s₂) X.xe s₁) X.xe s
def tB (t:TE):TT:=fun σ H Q=>t σ H fun x H1=>∃ c,x = .bl c/\Q c H1
theorem zxq {op:CmpOp}{t:TE}(h:PC X op a b t)(h1:behindInMarks op b=false:=by first | exact nobehind _ (by decide) (by decide) | rfl):PE X (.Compare a [op] [b] pos) t:=fun pins s σ H Q I hw=>wpAny_Compare1 (h pins s σ H Q I hw) h1
theorem ztk {op:CmpOp}{t:TE}(h:PC X op a b t)(h1:behindInMarks op b=false:=by first | exact nobehind _ (by decide) (by decide) | rfl):PT X (.Compare a [op] [b] pos) (tB t):=by
 intro pins s σ H Q I hw
 refine wpAny_isTrue_Compare1 (thn (h pins s σ H _ I hw) fun v s1 h1=>thn h1 fun u s2 h2=>thn h2 fun c s3 ⟨x,H1,I1,r1,q1⟩=>?_) h1
 obtain ⟨d,rfl,q⟩:=q1
 cases r1
 exact wpAny_truthy_bool ⟨H1,I1,q⟩
theorem zd2 {e:Expr}{t:TE}(h:PE X e t)(he:∀ whole,isTrue e X.env whole=(do let v <- whole; standAt e.pos; holding [v] (truthy v)):=by intro _; rfl):PT X e (tB t):=by
 intro pins s σ H Q I hw
 refine isTrue_plain (thn (h pins s σ H _ I hw) fun v s1 ⟨x,H1,I1,r1,q1⟩=>?_) (he _)
 obtain ⟨d,rfl,q⟩:=q1
 cases r1
 exact wpAny_truthy_bool ⟨H1,I1,q⟩
variable {tA tB':TT} {rest:List Expr}
def z4t (t u:TT):TT:=fun σ H Q=>t σ H fun c H1=>if c=true then u σ H1 Q else Q false H1
def tOr (t u:TT):TT:=fun σ H Q=>t σ H fun c H1=>if c=true then Q true H1 else u σ H1 Q
def z4v (t:TT):TT:=fun σ H Q=>t σ H fun c H1=>Q (!c) H1
theorem zj4 (ha:PT X a tA):PW X (.BoolOp .And [a] pos) tA:=by
 intro wh pins s σ H Q I h
 refine isTrue_and (thn (ha pins s σ H Q I h) fun c s1 e=>?_)
 cases c with
 | true=>exact isTrue_and_nil e
 | false=>exact e
theorem z2h (ha:PT X a tA):PW X (.BoolOp .Or [a] pos) tA:=by
 intro wh pins s σ H Q I h
 refine isTrue_or (thn (ha pins s σ H Q I h) fun c s1 e=>?_)
 cases c with
 | false=>exact isTrue_or_nil e
 | true=>exact e
theorem zol (ha:PT X a tA)(hb:PW X (.BoolOp .And (b :: rest) pos) tB'):PW X (.BoolOp .And (a :: b :: rest) pos) (z4t tA tB'):=by
 intro wh pins s σ H Q I h
 refine isTrue_and (thn (ha pins s σ H _ I h) fun c s1 ⟨H1,I1,q1⟩=>?_)
 cases c with
 | true=>exact hb wh pins s1 σ H1 Q I1 q1
 | false=>exact ⟨H1,I1,q1⟩
theorem z0u (ha:PT X a tA)(hb:PW X (.BoolOp .Or (b :: rest) pos) tB'):PW X (.BoolOp .Or (a :: b :: rest) pos) (tOr tA tB'):=by
 intro wh pins s σ H Q I h
 refine isTrue_or (thn (ha pins s σ H _ I h) fun c s1 ⟨H1,I1,q1⟩=>?_)
 cases c with
 | true=>exact ⟨H1,I1,q1⟩
 | false=>exact hb wh pins s1 σ H1 Q I1 q1
theorem zid (ha:PT X a tA):PT X (.UnaryOp .Not a pos) (z4v tA):=by
 intro pins s σ H Q I h
 exact isTrue_not (ha pins s σ H (fun c H1=>Q (!c) H1) I h)
def z27 (ta tb:TE):TE:=fun σ H Q=>ta σ H fun x H1=>∃ c,x = .bl c/\if c=true then tb σ H1 Q else Q (.bl false) H1
def z4x (ta tb:TE):TE:=fun σ H Q=>ta σ H fun x H1=>∃ c,x = .bl c/\if c=true then Q (.bl true) H1 else tb σ H1 Q
def z3r (ta:TE):TE:=fun σ H Q=>ta σ H fun x H1=>∃ c,x = .bl c/\Q (.bl (!c)) H1
theorem zla {op}{t:TE}(h:PE X a t):PE X (.BoolOp op [a] pos) t:=fun pins s σ H Q I hw=>BoolOp_one (h pins s σ H Q I hw)
theorem zls (ha:PE X a ta)(hb:PE X (.BoolOp .And (b :: rest) pos) tb):PE X (.BoolOp .And (a :: b :: rest) pos) (z27 ta tb):=by
 intro pins s σ H Q I h
 refine BoolOp_and (thn (ha pins s σ H _ I h) fun v s1 ⟨x,H1,I1,r1,q1⟩=>?_)
 obtain ⟨c,rfl,q1⟩:=q1
 cases r1
 refine wpAny_truthy_bool ?_
 cases c with
 | true=>exact hb pins s1 σ H1 Q I1 q1
 | false=>exact ⟨.bl false,H1,I1,rfl,q1⟩
theorem z3e (ha:PE X a ta)(hb:PE X (.BoolOp .Or (b :: rest) pos) tb):PE X (.BoolOp .Or (a :: b :: rest) pos) (z4x ta tb):=by
 intro pins s σ H Q I h
 refine BoolOp_or (thn (ha pins s σ H _ I h) fun v s1 ⟨x,H1,I1,r1,q1⟩=>?_)
 obtain ⟨c,rfl,q1⟩:=q1
 cases r1
 refine wpAny_truthy_bool ?_
 cases c with
 | false=>exact hb pins s1 σ H1 Q I1 q1
 | true=>exact ⟨.bl true,H1,I1,rfl,q1⟩
theorem z2a (ha:PE X a ta):PE X (.UnaryOp .Not a pos) (z3r ta):=by
 intro pins s σ H Q I h
 refine UnaryOp_ (thn (ha pins s σ H _ I h) fun v s1 ⟨x,H1,I1,r1,q1⟩=>?_)
 obtain ⟨c,rfl,q1⟩:=q1
 cases r1
 exact not_of (wpAny_truthy_bool ⟨.bl (!c),H1,I1,rfl,q1⟩)
def tIf (t:TT)(ta tb:TE):TE:=fun σ H Q=>t σ H fun c H1=>if c=true then ta σ H1 Q else tb σ H1 Q
theorem zmo {c:Expr}(hc:PT X c tA)(ha:PE X a ta)(hb:PE X b tb):PE X (.IfExp c a b pos) (tIf tA ta tb):=by
 intro pins s σ H Q I h
 refine wpAny_IfExp (thn (hc pins s σ H _ I h) fun d s1 ⟨H1,I1,q1⟩=>?_)
 cases d with
 | true=>exact ha pins s1 σ H1 Q I1 q1
 | false=>exact hb pins s1 σ H1 Q I1 q1
end
def SqL (K:W.Frag)(H:Hp)(a:Addr)(xs:List V):Prop :=
 Rd H a (.lst xs) \/
  ∃ (o:Obj) (its:Array Value) (n:Nat),K.lookup a=some o/\o.cls = .type "list" /\o.dict=none/\o.data = .seq its n/\its.size<=sizeLine/\zb3 xs its.toList
def SqT (K:W.Frag)(H:Hp)(a:Addr)(xs:List V):Prop :=
 Rd H a (.tup xs) \/
  ∃ (o:Obj) (its:Array Value) (n:Nat),K.lookup a=some o/\o.cls = .type "tuple" /\o.data = .seq its n/\its.size<=sizeLine/\zb3 xs its.toList
def z4f:Value->Option V
 | .none=>some .non
 | .bool b=>some (.bl b)
 | .int i _=>some (.int i)
 | .str x _=>some (.str x)
 | .bytes b _=>some (.byt b)
 | .float b _=>some (.flt b)
 | .ref a=>some (.ref a)
 | .type n=>some (.ty n)
 | _=>none
theorem zbs.abs {x:V}{u:Value}(r:zbs x u):z4f u=some x:=by
 cases x with
 | non=>cases r; rfl
 | bl _=>cases r; rfl
 | int _=>obtain ⟨t,rfl⟩:=r; rfl
 | str _=>obtain ⟨t,rfl⟩:=r; rfl
 | byt _=>obtain ⟨t,rfl⟩:=r; rfl
 | flt _=>obtain ⟨t,rfl⟩:=r; rfl
 | ref _=>cases r; rfl
 | ty _=>cases r; rfl
theorem zbs.inj {x y:V}{u:Value}(r:zbs x u)(q:zbs y u):x=y:=Option.some.inj (r.abs.symm.trans q.abs)
theorem zb3.inj:∀ {xs ys:List V} {us:List Value},zb3 xs us->zb3 ys us->xs=ys
 | _,_,_,.nil,.nil=>rfl
 | _,_,_,.cons r t,.cons r' t'=>by rw [r.inj r',zb3.inj t t']
section
variable {X:Cx} {pins:List (Addr × Obj)} {σ:St} {H:Hp} {s:Shared} {a:Addr} {xs ys:List V}
theorem SqL.of {K:W.Frag}(h:H a=some (.lst xs)):SqL K H a xs:= .inl (.inl h)
theorem SqT.of {K:W.Frag}(h:H a=some (.tup xs)):SqT K H a xs:= .inl (.inl h)
theorem Inv.list (I:Inv X pins σ H s)(h:SqL X.K H a xs):∃ its:List Value,zb3 xs its/\PlainL s.heap a its.toArray/\xs.length<=sizeLine:=by
 rcases h with h | ⟨o,its,n,hk,hc,hd,hs,hz,r⟩
 ·obtain ⟨z,its,n,r,e⟩:=h.ok I.hok
  exact ⟨its,r,⟨_,n,e,rfl,rfl,rfl⟩,z⟩
 ·refine ⟨its.toList,r,⟨o,n,I.kIn a o hk,hc,hd,by simpa using hs⟩,?_⟩
  have e:=r.length
  simp only [jb] at e
  omega
theorem Inv.tuple (I:Inv X pins σ H s)(h:SqT X.K H a xs):∃ its:List Value,zb3 xs its/\IsTup s.heap a its.toArray/\xs.length<=sizeLine:=by
 rcases h with h | ⟨o,its,n,hk,hc,hs,hz,r⟩
 ·obtain ⟨z,its,r,p⟩:=h.ok I.hok
  exact ⟨its,r,p,z⟩
 ·refine ⟨its.toList,r,⟨o,I.kIn a o hk,hc,n,by simpa using hs⟩,?_⟩
  have e:=r.length
  simp only [jb] at e
  omega
theorem Inv.list_inj (I:Inv X pins σ H s)(h:SqL X.K H a xs)(h':SqL X.K H a ys):xs=ys:=by
 obtain ⟨its,r,⟨o,n,e,_,_,d⟩,_⟩:=I.list h
 obtain ⟨its',r',⟨o',n',e',_,_,d'⟩,_⟩:=I.list h'
 rw [e] at e'; cases e'
 rw [d] at d'
 injection d' with d1 _
 have:its=its':=by simpa using congrArg Array.toList d1
 subst this
 exact r.inj r'
end
abbrev Cx.wish (X:Cx)(E:Value->Shared->Prop):Cx:={ X with xe:=E }
abbrev Cx.nox (X:Cx):Cx:=X.wish fun _ _=>False
theorem Cx.Ok.wish {X:Cx}(ok:X.Ok)(E:Value->Shared->Prop):(X.wish E).Ok :=
 ⟨ok.mod,ok.kind,ok.glob,ok.blt,ok.above,ok.inj,ok.has,ok.cab,ok.hd,ok.frames,ok.stk,ok.exf,ok.bs,ok.bsz,ok.noex,ok.exfs,ok.funs,ok.frf⟩
theorem Cx.Ok.unwish {X:Cx}{E:Value->Shared->Prop}(ok:(X.wish E).Ok):X.Ok :=
 ⟨ok.mod,ok.kind,ok.glob,ok.blt,ok.above,ok.inj,ok.has,ok.cab,ok.hd,ok.frames,ok.stk,ok.exf,ok.bs,ok.bsz,ok.noex,ok.exfs,ok.funs,ok.frf⟩
section
variable {X:Cx} {pins:List (Addr × Obj)} {σ:St} {H:Hp} {s:Shared} {E:Value->Shared->Prop}
theorem Inv.wish (I:Inv X pins σ H s)(E:Value->Shared->Prop):Inv (X.wish E) pins σ H s:=⟨I.ok.wish E,I.os,I.bare,I.base,I.loc,I.cell,I.free,I.freeC,I.pin,I.hok,I.len⟩
theorem Inv.unwish (I:Inv (X.wish E) pins σ H s):Inv X pins σ H s:=⟨I.ok.unwish,I.os,I.bare,I.base,I.loc,I.cell,I.free,I.freeC,I.pin,I.hok,I.len⟩
theorem SP.unwish {D:zzb}{f:Flow}{s':Shared}(h:SP (X.wish E) pins D f s'):SP X pins D f s':=by
 cases f with
 | next=>obtain ⟨σ',H',I,q⟩:=h; exact ⟨σ',H',I.unwish,q⟩
 | brk=>obtain ⟨σ',H',I,q⟩:=h; exact ⟨σ',H',I.unwish,q⟩
 | cont=>obtain ⟨σ',H',I,q⟩:=h; exact ⟨σ',H',I.unwish,q⟩
 | ret u=>obtain ⟨v,σ',H',I,r,q⟩:=h; exact ⟨v,σ',H',I.unwish,r,q⟩
theorem PSs.nox {st:List Stmt}{t:TS}(h:PSs X.nox st t):PSs X st t:=fun pins s σ H D I hw =>
 wpAny_mono (h pins s σ H D (I.wish _) hw) (fun _ _ q=>q.unwish) fun _ _ z=>False.elim z
end
section
variable {X:Cx} {st:Stmt} {rest:List Stmt} {t u:TS} {e:Expr} {te:TE} {pos:Pos}
def z24:TS:=fun D σ H=>D.nx σ H
def z31 (t u:TS):TS:=fun D σ H=>t { D with nx:=u D } σ H
theorem zay:PSs X [] z24:=fun _ _ σ H _ I h=>wpAny_execs_nil ⟨σ,H,I,h⟩
theorem zac (h1:PS X st t)(h2:PSs X rest u):PSs X (st :: rest) (z31 t u):=by
 intro pins s σ H D I h
 refine wpAny_execs_cons (thn (h1 pins s σ H { D with nx:=u D } I h) fun f s1 q=>?_)
 cases f with
 | next =>
  obtain ⟨σ',H',I',q⟩:=q
  exact h2 pins s1 σ' H' D I' q
 | ret v=>exact q
 | brk=>exact q
 | cont=>exact q
theorem zah (h1:PS X st t):PSs X [st] t:=by
 intro pins s σ H D I h
 refine wpAny_execs_cons (thn (h1 pins s σ H D I h) fun f s1 q=>?_)
 cases f with
 | next=>exact wpAny_execs_nil q
 | ret v=>exact q
 | brk=>exact q
 | cont=>exact q
theorem Inv.quiet {pins:List (Addr × Obj)}{σ:St}{H:Hp}{s:Shared}(I:Inv X pins σ H s):interactive X.env=false:=by simp [interactive,I.ok.kind]
def z3x (te:TE):TS:=fun D σ H=>te σ H fun _ H1=>D.nx σ H1
theorem zas (he:PE X e te)(hs:swapsWith e none pos.line X.env=pure false:=by rfl):PS X (.Expr e pos) (z3x te):=by
 intro pins s σ H D I h
 exact wpAny_Expr_any (thn (he pins s σ H _ I h) fun v s1 ⟨x,H1,I1,r1,q1⟩=>⟨σ,H1,I1,q1⟩) I.quiet hs
def z40 (te:TE):TS:=fun D σ H=>te σ H D.rt
theorem zat (he:PE X e te):PS X (.Return (some e) pos) (z40 te):=by
 intro pins s σ H D I h
 exact wpAny_Return_some (thn (he pins s σ H _ I h) fun v s1 ⟨x,H1,I1,r1,q1⟩=>⟨x,σ,H1,I1,r1,q1⟩)
def z3l:TS:=fun D _ H=>D.rt .non H
theorem zys:PS X (.Return none pos) z3l:=fun _ _ σ H _ I h=>wpAny_Return_none ⟨.non,σ,H,I,rfl,h⟩
def z42 (c:TT)(t u:TS):TS:=fun D σ H=>c σ H fun b H1=>if b=true then t D σ H1 else u D σ H1
theorem zbz {c:Expr}{a b:List Stmt}{tc:TT}(hc:PT X c tc)(ha:PSs X a t)(hb:PSs X b u):PS X (.If c a b pos) (z42 tc t u):=by
 intro pins s σ H D I h
 refine wpAny_If (thn (hc pins s σ H _ I h) fun d s1 ⟨H1,I1,q1⟩=>?_)
 cases d with
 | true=>exact ha pins s1 σ H1 D I1 q1
 | false=>exact hb pins s1 σ H1 D I1 q1
end
abbrev TG:=V->St->Hp->(St->Hp->Prop)->Prop
abbrev TGs:=List V->St->Hp->(St->Hp->Prop)->Prop
def PG (X:Cx)(target:Expr)(t:TG):Prop :=
 ∀ (pins:List (Addr × Obj)) (s:Shared) (σ:St) (H:Hp) (v:V) (u:Value) (Q:St->Hp->Prop),Inv X pins σ H s->zbs v u->t v σ H Q ->
  wpAny (model X.prog X.w) X.A (assign target X.env u) (fun _ s'=>∃ σ' H',Inv X pins σ' H' s'/\Q σ' H') X.xe s
def PGs (X:Cx)(ts:List Expr)(t:TGs):Prop :=
 ∀ (pins:List (Addr × Obj)) (s:Shared) (σ:St) (H:Hp) (vs:List V) (us:List Value) (Q:St->Hp->Prop),Inv X pins σ H s->zb3 vs us->t vs σ H Q ->
  wpAny (model X.prog X.w) X.A (assignInOrder ((assignEach ts X.env).map (·.2)) us) (fun _ s'=>∃ σ' H',Inv X pins σ' H' s'/\Q σ' H') X.xe s
section
variable {X:Cx} {pos:Pos}
def znn (i:Nat):TG:=fun v σ H Q=>Q (σ.set i (some v)) H
theorem zaz {i:Nat}{x:Str}(hN:X.N.Nodup)(hi:X.N[i]? = some x)(hx:Loc X.env.scope x)(hf:X.fn x=true\/X.env.scope.names.lookup x=some .local:=by first | exact .inl rfl | exact .inr rfl | assumption):PG X (.Name x pos) (znn i):=by
 intro pins s σ H v u Q I r h
 exact wpAny_assign_Name (zmd I hN hi hx r (fun s' I'=>⟨_,H,I',h⟩) hf)
def z4y:TGs:=fun vs σ H Q=>vs=[]/\Q σ H
def z3t (t:TG)(u:TGs):TGs:=fun vs σ H Q=>∃ v r,vs=v :: r/\t v σ H fun σ' H'=>u r σ' H' Q
theorem zfg:PGs X [] z4y:=by
 intro pins s σ H vs us Q I r h
 obtain ⟨e,h⟩:=h
 subst e
 cases r
 exact assignInOrder_nil ⟨σ,H,I,h⟩
theorem zbl {e:Expr}{es:List Expr}{t:TG}{u:TGs}(h1:PG X e t)(h2:PGs X es u)
  (hs:(assignEach (e :: es) X.env).map (·.2)=assign e X.env :: (assignEach es X.env).map (·.2):=by rfl):PGs X (e :: es) (z3t t u):=by
 intro pins s σ H vs us Q I r h
 obtain ⟨v,vr,e1,h⟩:=h
 subst e1
 cases r with
 | cons r rr =>
  rw [hs]
  refine assignInOrder_cons (thn (h1 pins s σ H _ _ _ I r h) fun _ s1 ⟨σ1,H1,I1,q1⟩=>?_)
  exact h2 pins s1 σ1 H1 _ _ Q I1 rr q1
def z39 (K:W.Frag)(n:Nat)(t:TGs):TG:=fun v σ H Q=>∃ a xs,v = .ref a/\SqT K H a xs/\xs.length=n/\t xs σ H Q
theorem zjg {es:List Expr}{k:Nat}{t:TGs}{n:Nat}(hc:X.calm=true)(h:PGs X es t)
  (hn:(assignEach es X.env).length=n:=by rfl)(hst:(assignEach es X.env).findIdx? (·.1)=none:=by rfl):PG X (.Tuple es k pos) (z39 X.K n t):=by
 intro pins s σ H v u Q I r hw
 obtain ⟨a,xs,e1,hq,hl,hw⟩:=hw
 subst e1
 cases r
 obtain ⟨its,rv,ht,hz⟩:=I.tuple hq
 refine assign_Tuple_tuple (I.ok.hd hc) ht (by simp [hn,<- hl,rv.length]) hst fun h' hx=>?_
 have I1:Inv X pins σ H { s with heap:=h' }:=I.kept (t':=s.toks) fun b o e=>hx b o (i0 (i3 e)) e
 exact h pins _ σ H xs _ Q I1 (by simpa using rv) hw
def z2c (te:TE)(g:TG):TS:=fun D σ H=>te σ H fun x H1=>g x σ H1 D.nx
theorem zxk {tg e:Expr}{te:TE}{g:TG}(he:PE X e te)(hg:PG X tg g)(hs:swapsWithSole [tg] e pos.line X.env=pure false:=by rfl)(hw:swappedStores [tg] e X.env=pure none:=by rfl)
  (h1:(assignEach [tg] X.env).map (·.2)=[assign tg X.env]:=by rfl):PS X (.Assign [tg] e pos) (z2c te g):=by
 intro pins s σ H D I h
 refine wpAny_Assign_stores (thn (he pins s σ H _ I h) fun v s1 ⟨x,H1,I1,r1,q1⟩=>?_) hs hw
 rw [h1]
 exact thn (hg pins s1 σ H1 x v _ I1 r1 q1) fun _ s2 q=>q
theorem zaw {i:Nat}{x:Str}{e:Expr}{te:TE}{pos':Pos}(hN:X.N.Nodup)(hi:X.N[i]? = some x)(hx:Loc X.env.scope x)(he:PE X e te)(hs:swapsWith e (some (.Name x pos')) pos.line X.env=pure false:=by rfl)(hf:X.fn x=true\/X.env.scope.names.lookup x=some .local:=by first | exact .inl rfl | exact .inr rfl | assumption) :
  PS X (.Assign [.Name x pos'] e pos) (z2c te (znn i)):=by
 intro pins s σ H D I h
 refine wpAny_Assign_Name (thn (he pins s σ H _ I h) fun v s1 ⟨y,H1,I1,r1,q1⟩=>?_) hs
 exact zmd I1 hN hi hx r1 (fun s2 I2=>⟨_,H1,I2,q1⟩) hf
def z1q (c:TT)(tb:TS):TS:=fun D σ H=>∃ W:Nat->St->Hp->Prop,(∃ m,W m σ H)/\∀ m σ H,W m σ H ->
 c σ H fun b H1=>if b=true then ∃ N:St->Hp->Prop,(∀ σ' H',N σ' H'->∃ m',m'<m/\W m' σ' H')/\tb { D with nx:=N,ct:=N,bk:=D.nx } σ H1 else D.nx σ H1
theorem zp7 {c:Expr}{body:List Stmt}{tc:TT}{tb:TS}(hp:PassesOwn (model X.prog X.w) X.A X.env X.xe)(hc:PT X c tc)(hb:PSs X body tb):PS X (.While c body [] pos) (z1q tc tb):=by
 intro pins s σ H D I h
 obtain ⟨W,⟨m0,w0⟩,turn⟩:=h
 refine wpAny_While (codeAny_whileLoop (fun n s'=>∃ σ' H',Inv X pins σ' H' s'/\W n σ' H') ?_ m0 ⟨σ,H,I,w0⟩)
 rintro n s1 ⟨σ1,H1,I1,w1⟩
 refine wpAny_passesOwn hp (thn (hc pins s1 σ1 H1 _ I1 (turn n σ1 H1 w1)) fun b s2 ⟨H2,I2,q2⟩=>?_)
 cases b with
 | true =>
  obtain ⟨N,hN,q2⟩:=q2
  rw [if_pos rfl]
  refine wpAny_passesOwn hp (thn (hb pins s2 σ1 H2 _ I2 q2) fun f s3 q3=>?_)
  cases f with
  | next =>
   obtain ⟨σ3,H3,I3,n3⟩:=q3
   obtain ⟨m',hm,w3⟩:=hN σ3 H3 n3
   exact ⟨m',hm,σ3,H3,I3,w3⟩
  | cont =>
   obtain ⟨σ3,H3,I3,n3⟩:=q3
   obtain ⟨m',hm,w3⟩:=hN σ3 H3 n3
   exact ⟨m',hm,σ3,H3,I3,w3⟩
  | brk=>exact q3
  | ret v=>exact q3
 | false =>
  rw [if_neg Bool.false_ne_true]
  exact wpAny_execs_nil ⟨σ1,H2,I2,q2⟩
end
structure It where
 go:Nat->Hp->Prop
 yld:Nat->Hp->V->Hp->Prop
 stop:Nat->Hp->Prop
def zp2 (X:Cx)(pins:List (Addr × Obj))(H:Hp)(b:Addr):Prop :=
 H b=none/\b≠X.env.locals/\b∉X.fs/\(b∈X.ex\/X.s₀.heap.objs.size<=b)/\(∀ x c,X.env.cells.lookup x=some c->c≠b)/\∀ p∈X.pn++pins,p.1≠b
theorem Inv.fpOk {X:Cx}{pins:List (Addr × Obj)}{σ:St}{H H':Hp}{s:Shared}{b:Addr}(I:Inv X pins σ H s)(hb:s.heap.objs.size<=b)(hn:H' b=none):zp2 X pins H' b:=by
 refine ⟨hn,jf (gs I.lt hb),I.nofs hb,.inr (gy I.sz hb),fun x c e z=>?_,fun p hp z=>?_⟩
 ·obtain ⟨v,q⟩:=I.cell x c e
  exact absurd (gs q.lt (by rw [z]; exact hb)) (jh _)
 ·exact absurd (gs (i3 (I.pin p hp).1) (by rw [z]; exact hb)) (jh _)
structure z1x (P:Program)(w:World)(K:W.Frag)(tg:Expr)(J:It)(fp:List Addr)(it:Addr)(tn:Nat->Heap->Prop):Prop where
 mem:it∈fp
 obj:∀ i h,tn i h->∀ b∈fp,∃ o,h.get? b=some o/\∀ v,o.data≠ .cell v
 keep:∀ i h h',tn i h->(∀ b∈fp,∀ o,h.get? b=some o->h'.get? b=some o)->tn i h'
 item:∀ (X:Cx),X.prog=P->X.w=w->X.K=K->X.calm=true->∀ (i:Nat) (pins:List (Addr × Obj)) (s:Shared) (σ:St) (H:Hp) (E:Value->Shared->Prop),Inv X pins σ H s->(∀ b∈fp,zp2 X pins H b)->tn i s.heap->J.go i H ->
  wpAny (model P w) X.A (pyNext (.ref it)) (fun r s1=>∃ u,r=some u /\
   wpAny (model P w) X.A (letOwnedTupleGo tg (.ref it) u) (fun _ s2=>∃ x H',Inv X pins σ H' s2/\zbs x u/\J.yld i H x H'/\tn (i+1) s2.heap/\∀ b∈fp,H' b=none) E s1) E s
 done:∀ (X:Cx),X.prog=P->X.w=w->X.K=K->X.calm=true->∀ (i:Nat) (pins:List (Addr × Obj)) (s:Shared) (σ:St) (H:Hp) (E:Value->Shared->Prop),Inv X pins σ H s->(∀ b∈fp,zp2 X pins H b)->tn i s.heap->J.stop i H ->
  wpAny (model P w) X.A (pyNext (.ref it)) (fun r s1=>r=none/\Inv X pins σ H s1) E s
 self:∀ (A:Around) (i:Nat) (s:Shared) (Q:Value->Shared->Prop) (E:Value->Shared->Prop),tn i s.heap->Q (.ref it) s->wpAny (model P w) A (pyIter (.ref it)) Q E s
abbrev TI:=St->Hp->(It->Hp->Prop)->Prop
def PIE (X:Cx)(pins:List (Addr × Obj))(σ:St)(tg:Expr)(R:It->Hp->Prop)(itv:Value)(s2:Shared):Prop :=
 ∃ (it:Addr) (fp:List Addr) (tn:Nat->Heap->Prop) (J:It) (H':Hp),itv = .ref it/\Inv X pins σ H' s2/\z1x X.prog X.w X.K tg J fp it tn/\tn 0 s2.heap/\(∀ b∈fp,zp2 X pins H' b)/\R J H'
def PI (X:Cx)(tg iter:Expr)(wi:TI):Prop :=
 ∀ (pins:List (Addr × Obj)) (s:Shared) (σ:St) (H:Hp) (R:It->Hp->Prop),Inv X pins σ H s->wi σ H R ->
  wpAny (model X.prog X.w) X.A (eval iter X.env) (fun v s1=>wpAny (model X.prog X.w) X.A (pyIter v) (PIE X pins σ tg R) X.xe s1) X.xe s
theorem zyf {M:Model}{A:Around}{E:Value->Shared->Prop}{s:Shared}{tg:Expr}{it:Addr}{u:Value}{o:Obj}{n:String}{vs:Array Value}{Q:Unit->Shared->Prop}(ho:s.heap.get? it=some o)(hc:o.cls = .type n)(hd:o.data = .fields vs)
    (hn:["enumerate","zip","dict_itemiterator","dict_reverseitemiterator","odict_iterator","itertools.zip_longest","itertools.pairwise"].contains n=false)(hQ:Q () s):wpAny M A (letOwnedTupleGo tg (.ref it) u) Q E s:=by
  unfold letOwnedTupleGo
  cases tg <;> first
    | exact wpAny_pure hQ
    | (cases u <;> first
        | exact wpAny_pure hQ
        | (refine wpAny_bind (wpAny_load ho ?_)
           rw [hc,hd]
           show wpAny M A (if (["enumerate","zip","dict_itemiterator","dict_reverseitemiterator","odict_iterator","itertools.zip_longest","itertools.pairwise"].contains n && vs[0]? == some (rawInt _))=true then _ else _) Q E s
           rw [if_neg (by intro h; rw [hn,Bool.false_and] at h; cases h)]
           exact wpAny_pure hQ))
def Itl (K:W.Frag)(a:Addr):It :=
 ⟨fun i H=>∃ xs x,SqL K H a xs/\xs[i]? = some x,fun i H x H'=>H'=H/\∀ xs,SqL K H a xs->xs[i]? = some x,fun i H=>∃ xs,SqL K H a xs/\xs.length<=i⟩
def Itr (lo:Int)(n:Nat):It:=⟨fun i _=>i<n,fun i H x H'=>H'=H/\x = .int (lo+i),fun i _=>n<=i⟩
theorem ztj {P:Program}{w:World}{K:W.Frag}{tg:Expr}(a it:Addr):z1x P w K tg (Itl K a) [it] it (fun i h=>h.IsListIter it a i) where
 mem:=by simp
 obj:=fun i h st b hb=>by
  have e:b=it:=by simpa using hb
  subst e
  obtain ⟨o,e,c,d⟩:=st
  exact ⟨o,e,fun v z=>by rw [d] at z; cases z⟩
 keep:=fun i h h' st k=>st.at fun o e=>k it (by simp) o e
 item:=by
  intro X hP hw hK hc i pins s σ H E I hf st hg
  subst hP hw hK
  obtain ⟨xs,x,hq,hx⟩:=hg
  obtain ⟨its,rv,p,hz⟩:=I.list hq
  obtain ⟨u,hu,ru⟩:=rv.get hx
  obtain ⟨f0,f1,f2,f3,f4,f5⟩:=hf it (by simp)
  refine wpAny_pyNext_list_item st p.isList (x:=u) (by simpa using hu) fun h' f sb=>?_
  have I1:Inv X pins σ H { s with heap:=h' }:=I.turned (t':=s.toks) (fun b o hb e=>(sb.2 b hb).trans e) f0 f1 f3 f4 f5
  obtain ⟨o,e,c,d⟩:=id f
  exact ⟨u,rfl,zyf (s:={ s with heap:=h' }) e c d (by decide) ⟨x,H,I1,ru,⟨rfl,fun ys hy=>by rw [I.list_inj hy hq]; exact hx⟩,f,fun b hb=>(hf b hb).1⟩⟩
 done:=by
  intro X hP hw hK hc i pins s σ H E I hf st hg
  subst hP hw hK
  obtain ⟨xs,hq,hx⟩:=hg
  obtain ⟨its,rv,p,hz⟩:=I.list hq
  obtain ⟨f0,f1,f2,f3,f4,f5⟩:=hf it (by simp)
  have hl:=rv.length
  exact wpAny_pyNext_list_end (I.ok.hd hc) st p.isList (by simp; omega) fun h' eb=>⟨rfl,I.turned (t':=s.toks) (fun b o hb e=>eb b o hb e) f0 f1 f3 f4 f5⟩
 self:=fun _ _ _ _ _ st h=>wpAny_pyIter_listiter st h
theorem zrf {P:Program}{w:World}{K:W.Frag}{tg:Expr}(it:Addr)(lo:Int)(n:Nat):z1x P w K tg (Itr lo n) [it] it (fun i h=>IsRangeIter h it (lo+(i:Nat) * 1) ((n:Int) - (i:Nat)) 1) where
 mem:=by simp
 obj:=fun i h st b hb=>by
  have e:b=it:=by simpa using hb
  subst e
  exact ⟨_,st,fun v z=>by
   have z':Data.fields _=Data.cell v:=z
   cases z'⟩
 keep:=fun i h h' st k=>k it (by simp) _ st
 item:=by
  intro X hP hw hK hc i pins s σ H E I hf st hg
  subst hP hw hK
  obtain ⟨f0,f1,f2,f3,f4,f5⟩:=hf it (by simp)
  have W:=Walks.range (prog:=X.prog) (w:=X.w) (I.ok.hd hc) it lo 1 n
  refine W.item i s _ _ hg st fun v h' tk hv a kk=>?_
  obtain ⟨t,rfl⟩:=hv
  have I1:Inv X pins σ H { s with heap:=h',toks:=tk }:=I.turned (fun b o hb e=>kk b o (by simpa using hb) e) f0 f1 f3 f4 f5
  refine ⟨_,rfl,zyf (s:={ s with heap:=h',toks:=tk }) (n:= "range_iterator") a rfl rfl (by decide) ⟨.int (lo+i),H,I1,⟨t,?_⟩,⟨rfl,rfl⟩,a,fun b hb=>(hf b hb).1⟩⟩
  rw [Int.mul_one]
 done:=by
  intro X hP hw hK hc i pins s σ H E I hf st hg
  subst hP hw hK
  obtain ⟨f0,f1,f2,f3,f4,f5⟩:=hf it (by simp)
  exact wpAny_pyNext_range_end (I.ok.hd hc) st (by have:n<=i:=hg; omega) fun h' eb=>⟨rfl,I.turned (t':=s.toks) (fun b o hb e=>eb b o hb e) f0 f1 f3 f4 f5⟩
 self:=fun _ _ _ _ _ st h=>wpAny_pyIter_rangeiter st h
section
variable {X:Cx} {tg:Expr}
def z26 (K:W.Frag)(tl:TE):TI:=fun σ H R=>tl σ H fun x H1=>∃ a,x = .ref a/\(∃ xs,SqL K H1 a xs)/\R (Itl K a) H1
theorem zbr {l:Expr}{tl:TE}(hl:PE X l tl):PI X tg l (z26 X.K tl):=by
 intro pins s σ H R I h
 refine thn (hl pins s σ H _ I h) fun v s1 ⟨x,H1,I1,r1,q1⟩=>?_
 obtain ⟨a,e,⟨xs,hq⟩,q⟩:=q1
 subst e
 cases r1
 obtain ⟨its,rv,p,hz⟩:=I1.list hq
 refine wpAny_pyIter_list p.isList ?_
 refine ⟨s1.heap.objs.size,[s1.heap.objs.size],_,_,H1,rfl,I1.kept (t':=s1.toks) fun b o e=>Heap.get?_push_of_some _ e,ztj a _,⟨_,Heap.get?_push_size _ rfl,rfl,rfl⟩,fun b hb=>?_,q⟩
 have e:b=s1.heap.objs.size:=by simpa using hb
 subst e
 exact I1.fpOk (gv _) (I1.hok.fresh (gv _))
theorem zwn {pins:List (Addr × Obj)}{σ:St}{H:Hp}{s:Shared}{R:It->Hp->Prop}{E:Value->Shared->Prop}{lo hi:Int}{t u v:Tok}{tk:Nat}(I:Inv X pins σ H s)(h1 : -(2 ^ 62)<=lo)(h2:lo<2 ^ 62)(h3 : -(2 ^ 62)<=hi)(h4:hi<2 ^ 62)
  (q:R (Itr lo (hi - lo).toNat) H):wpAny (model X.prog X.w) X.A (pyIter (.ref s.heap.objs.size)) (PIE X pins σ tg R) E { s with heap:=s.heap.push { cls:= .type "range",data:= .fields #[.int lo t,.int hi u,.int 1 v] },toks:=tk }:=by
 refine wpAny_pyIter_range (IsRange.new ..) (small_one h1 h2 h3 h4) ?_
 have I1:Inv X pins σ H { s with heap:=s.heap.push { cls:= .type "range",data:= .fields #[.int lo t,.int hi u,.int 1 v] },toks:=tk }:=I.kept fun b o e=>Heap.get?_push_of_some _ e
 refine ⟨(s.heap.push { cls:= .type "range",data:= .fields #[.int lo t,.int hi u,.int 1 v] }).objs.size,[(s.heap.push { cls:= .type "range",data:= .fields #[.int lo t,.int hi u,.int 1 v] }).objs.size],_,_,H,rfl,
  I1.kept (t':=tk) fun b o e=>Heap.get?_push_of_some _ e,zrf _ lo (hi - lo).toNat,?_,fun b hb=>?_,q⟩
 ·have e1:lo+((0:Nat):Int) * 1=lo:=by simp
  have e2:(((hi - lo).toNat:Nat):Int) - ((0:Nat):Int)=Builtin.Range.rangeSize lo hi 1:=by rw [rangeSize_one]; split <;> omega
  show IsRangeIter _ _ (lo+((0:Nat):Int) * 1) ((((hi - lo).toNat:Nat):Int) - ((0:Nat):Int)) 1
  rw [e1,e2]
  exact Heap.get?_push_size _ rfl
 ·have e:b=(s.heap.push { cls:= .type "range",data:= .fields #[.int lo t,.int hi u,.int 1 v] }).objs.size:=by simpa using hb
  subst e
  exact I1.fpOk (gv _) (I1.hok.fresh (gv _))
def z29 (ta:TA):TI:=fun σ H R=>ta σ H fun vs H1=>∃ j:Int,vs=[.int j]/\ -(2 ^ 62)<=j/\j<2 ^ 62/\R (Itr 0 j.toNat) H1
theorem zs9 {a:Expr}{ta:TA}{p pos:Pos}(hg:Gl X "range")(hm:X.mg "range" = none)(ha:PA X [a] ta)(hs:starEach [a] X.env=[(false,eval a X.env)]:=by rfl):PI X tg (.Call (.Name "range" p) [a] [] pos) (z29 ta):=by
 intro pins s σ H R I h
 refine Call_ (zjf I hg hm boot_range (PyProof.Rows.callWith_type1 (thn (ha pos pins s σ H _ I h) fun us s1 ⟨vs,H1,I1,r1,q1⟩=>?_) hs rfl))
 obtain ⟨j,e,q1,q2,q⟩:=q1
 subst e
 cases r1 with
 | cons r rr =>
  cases rr
  obtain ⟨t,rfl⟩:=r
  exact call_range_1 (zwn I1 (by omega) (by omega) q1 q2 (by simpa using q))
def z4n (wi:TI)(g:TG)(tb:TS):TS:=fun D σ H=>wi σ H fun J H1=>∃ W:Nat->Nat->St->Hp->Prop,(∃ m,W 0 m σ H1)/\∀ i m σ H,W i m σ H ->
 (J.stop i H/\D.nx σ H)\/(J.go i H/\∃ N:St->Hp->Prop,(∀ σ' H',N σ' H'->∃ m',m'<m/\W (i+1) m' σ' H')/\∀ x H',J.yld i H x H'->g x σ H' fun σ2 H2=>tb { D with nx:=N,ct:=N,bk:=D.nx } σ2 H2)
def zom (fp:List Addr)(h:Heap):List (Addr × Obj):=fp.filterMap fun b=>(h.get? b).map fun o=>(b,o)
theorem zfx {fp:List Addr}{h:Heap}{b:Addr}{o:Obj}(hb:b∈fp)(e:h.get? b=some o):(b,o)∈zom fp h:=ij.mpr ⟨b,hb,by rw [e]; rfl⟩
theorem zsu {fp:List Addr}{h:Heap}{p:Addr × Obj}(hp:p∈zom fp h):p.1∈fp/\h.get? p.1=some p.2:=by
 obtain ⟨b,hb,e⟩:=ij.mp hp
 cases q:h.get? b with
 | none=>rw [q] at e; cases e
 | some o =>
  rw [q] at e
  have e':(b,o)=p:=Option.some.inj e
  subst e'
  exact ⟨hb,q⟩
theorem Inv.pinned {pins:List (Addr × Obj)}{σ:St}{H:Hp}{s:Shared}{fp:List Addr}(I:Inv X pins σ H s)(hf:∀ b∈fp,zp2 X pins H b)(ho:∀ b∈fp,∃ o,s.heap.get? b=some o/\∀ v,o.data≠ .cell v):Inv X (pins++zom fp s.heap) σ H s :=
 I.pins_of fun p hp=>(gm.mp hp).elim (fun z=>I.pin p (g7 _ z)) fun z=>by
  obtain ⟨hb,e⟩:=zsu z
  obtain ⟨f0,f1,f2,_⟩:=hf p.1 hb
  obtain ⟨o,e',d⟩:=ho p.1 hb
  rw [e] at e'; cases e'
  exact ⟨e,f0,f1,f2,d⟩
theorem Inv.unpinned {pins pl:List (Addr × Obj)}{σ:St}{H:Hp}{s:Shared}(I:Inv X (pins++pl) σ H s):Inv X pins σ H s:=I.pins_of fun p hp=>I.pin p (g7 _ (gr _ hp))
theorem zd5 {iter:Expr}{body:List Stmt}{wi:TI}{g:TG}{tb:TS}{pos:Pos}(hp:PassesOwn (model X.prog X.w) X.A X.env X.xe)(hc:X.calm=true)(hi:PI X tg iter wi)(hg:PG X tg g)(hb:PSs X body tb)
  (hs:∀ x,foldedSetIterable iter X.env x=pure x:=by intro _; rfl):PS X (.For tg iter body [] pos) (z4n wi g tb):=by
 intro pins s σ H D I h
 refine wpAny_For (thn (hi pins s σ H _ I h) fun v s1 h1=>thn h1 fun z s2 h2=>?_) hs
 obtain ⟨it,fp,tn,J,H2,e,I2,T,t,f2,W,⟨m0,w0⟩,turn⟩:=h2
 subst e
 have c:∀ {H':Hp},(∀ b∈fp,H' b=none)->∀ b∈fp,zp2 X pins H' b:=fun hn b hb=>⟨hn b hb,(f2 b hb).2⟩
 refine codeAny_forLoop_any (fun n s'=>∃ i σ' H',Inv X pins σ' H' s'/\tn i s'.heap/\(∀ b∈fp,H' b=none)/\W i n σ' H') ?_ m0 ⟨0,σ,H2,I2,t,fun b hb=>(f2 b hb).1,w0⟩
 rintro n s3 ⟨i,σ3,H3,I3,l,p,w3⟩
 rcases turn i n σ3 H3 w3 with ⟨stop,qn⟩ | ⟨go,N,hN,step⟩
 ·refine wpAny_passesOwn hp (thn (T.done X rfl rfl rfl hc i pins s3 σ3 H3 X.xe I3 (c p) l stop) fun r s4 ⟨hr,I4⟩=>?_)
  subst hr
  exact wpAny_execs_nil ⟨σ3,H3,I4,qn⟩
 ·refine wpAny_passesOwn hp (thn (T.item X rfl rfl rfl hc i pins s3 σ3 H3 X.xe I3 (c p) l go) fun r s4 ⟨u,hr,h4⟩=>?_)
  subst hr
  refine wpAny_passesOwn hp (thn h4 fun _ s5 ⟨x,H5,I5,r5,y5,j,q⟩=>?_)
  have y:=I5.pinned (c q) (T.obj _ _ j)
  refine wpAny_passesOwn hp (thn (hg _ s5 σ3 H5 x u _ y r5 (step x H5 y5)) fun _ s6 ⟨σ6,H6,I6,q6⟩=>?_)
  refine wpAny_passesOwn hp (thn (hb _ s6 σ6 H6 _ I6 q6) fun f s7 q7=>?_)
  have a:∀ {σ7:St} {H7:Hp},Inv X (pins++zom fp s5.heap) σ7 H7 s7->N σ7 H7->∃ m,m<n/\∃ i σ' H',Inv X pins σ' H' s7/\tn i s7.heap/\(∀ b∈fp,H' b=none)/\W i m σ' H':=fun {σ7 H7} I7 n7=>by
   obtain ⟨m',hm,w7⟩:=hN σ7 H7 n7
   refine ⟨m',hm,i+1,σ7,H7,I7.unpinned,T.keep _ _ _ j fun b hb o e=>(I7.pin (b,o) (g7 _ (g7 _ (zfx hb e)))).1,fun b hb=>?_,w7⟩
   obtain ⟨o,e,d⟩:=T.obj _ _ j b hb
   exact (I7.pin (b,o) (g7 _ (g7 _ (zfx hb e)))).2.1
  cases f with
  | next=>obtain ⟨σ7,H7,I7,n7⟩:=q7; exact a I7 n7
  | cont=>obtain ⟨σ7,H7,I7,n7⟩:=q7; exact a I7 n7
  | brk=>obtain ⟨σ7,H7,I7,q7⟩:=q7; exact ⟨σ7,H7,I7.unpinned,q7⟩
  | ret v=>obtain ⟨x7,σ7,H7,I7,r7,q7⟩:=q7; exact ⟨x7,σ7,H7,I7.unpinned,r7,q7⟩
end
theorem zcn {K:W.Frag}{a:Addr}{xs:List V}{g:TG}{tb:TS}{D:zzb}{σ:St}{H:Hp}(Pv:Nat->St->Hp->Prop)(h0:Pv 0 σ H)(hl:∀ i σ H,i<=xs.length->Pv i σ H->SqL K H a xs)
  (hs:∀ i x σ H,xs[i]? = some x->Pv i σ H->g x σ H fun σ2 H2=>tb { D with nx:=Pv (i+1),ct:=Pv (i+1),bk:=D.nx } σ2 H2)(hd:∀ σ H,Pv xs.length σ H->D.nx σ H) :
  ∃ W:Nat->Nat->St->Hp->Prop,(∃ m,W 0 m σ H)/\∀ i m σ H,W i m σ H ->
   ((Itl K a).stop i H/\D.nx σ H)\/((Itl K a).go i H/\∃ N:St->Hp->Prop,(∀ σ' H',N σ' H'->∃ m',m'<m/\W (i+1) m' σ' H')/\∀ x H',(Itl K a).yld i H x H'->g x σ H' fun σ2 H2=>tb { D with nx:=N,ct:=N,bk:=D.nx } σ2 H2):=by
 refine ⟨fun i m σ H=>m=xs.length - i/\i<=xs.length/\Pv i σ H,⟨xs.length,by simp,ix _,h0⟩,?_⟩
 rintro i m σ H ⟨rfl,hi,p⟩
 have q:=hl i σ H hi p
 by_cases b:i<xs.length
 ·refine .inr ⟨⟨xs,xs[i],q,by simp [b]⟩,Pv (i+1),fun σ' H' p'=>⟨xs.length - (i+1),by omega,rfl,b,p'⟩,fun x H' y=>?_⟩
  obtain ⟨e,y⟩:=y
  subst e
  exact hs i x σ _ (y xs q) p
 ·have e:i=xs.length:=by omega
  subst e
  exact .inl ⟨⟨xs,q,gv _⟩,hd σ H p⟩
abbrev R2:=V->V->Hp->VK->Prop
def OpR (X:Cx)(f:Value->Value->Sem Value)(r:R2):Prop :=
 ∀ (pins:List (Addr × Obj)) (s:Shared) (σ:St) (H:Hp) (x y:V) (v u:Value) (Q:VK),Inv X pins σ H s->zbs x v->zbs y u->r x y H Q ->
  wpAny (model X.prog X.w) X.A (f v u) (EP X pins σ Q) X.xe s
def zit (X:Cx)(f:Value)(r:List V->Hp->VK->Prop):Prop :=
 ∀ (pins:List (Addr × Obj)) (s:Shared) (σ:St) (H:Hp) (xs:List V) (us:List Value) (Q:VK),Inv X pins σ H s->zb3 xs us->r xs H Q ->
  wpAny (model X.prog X.w) X.A (call f us) (EP X pins σ Q) X.xe s
def tOp (r:R2)(ta tb:TE):TE:=fun σ H Q=>ta σ H fun x H1=>tb σ H1 fun y H2=>r x y H2 Q
def rI (C:Int->Int->Prop)(g:Int->Int->V):R2:=fun x y H Q=>∃ i j,x = .int i/\y = .int j/\C i j/\Q (g i j) H
def rI0 (g:Int->Int->V):R2:=fun x y H Q=>∃ i j,x = .int i/\y = .int j/\Q (g i j) H
section
variable {X:Cx} {a b:Expr} {ta tb:TE} {pos:Pos}
theorem z3s (ha:PE X a ta)(hb:PE X b tb){pins:List (Addr × Obj)}{s:Shared}{σ:St}{H:Hp}{R:V->V->Hp->Prop}(I:Inv X pins σ H s)
  (h:ta σ H fun x H1=>tb σ H1 fun y H2=>R x y H2){Q:Value->Shared->Prop}{f:Value->Value->Sem Value}
  (hf:∀ v u s2 x y H2,Inv X pins σ H2 s2->zbs x v->zbs y u->R x y H2->wpAny (model X.prog X.w) X.A (f v u) Q X.xe s2) :
  wpAny (model X.prog X.w) X.A (eval a X.env) (fun v s₁=>wpAny (model X.prog X.w) X.A (eval b X.env) (fun u s₂=>wpAny (model X.prog X.w) X.A (f v u) Q X.xe s₂) X.xe s₁) X.xe s:=by
 refine thn (ha pins s σ H _ I h) fun v s1 ⟨x,H1,I1,r1,q1⟩=>?_
 refine thn (hb pins s1 σ H1 _ I1 q1) fun u s2 ⟨y,H2,I2,r2,q2⟩=>?_
 exact hf v u s2 x y H2 I2 r1 r2 q2
theorem za4 {op:Operator}{r:R2}(ho:OpR X (binaryOp op) r)(ha:PE X a ta)(hb:PE X b tb):PE X (.BinOp a op b pos) (tOp r ta tb):=by
 intro pins s σ H Q I h
 exact wpAny_BinOp (z3s ha hb I h fun v u s2 x y H2 I2 rx ry q=>ho pins s2 σ H2 x y v u Q I2 rx ry q)
theorem opI {f:Value->Value->Sem Value}{C:Int->Int->Prop}{g:Int->Int->Int}
  (rule:∀ (i j:Int) (t u:Tok) (s:Shared) (Q:Value->Shared->Prop) (E:Value->Shared->Prop),C i j->Q (.int (g i j) s.toks) { s with toks:=s.toks+1 }->wpAny (model X.prog X.w) X.A (f (.int i t) (.int j u)) Q E s) :
  OpR X f (rI C fun i j=> .int (g i j)):=by
 intro pins s σ H x y v u Q I rx ry h
 obtain ⟨i,j,rfl,rfl,hc,q⟩:=h
 obtain ⟨t,rfl⟩:=rx
 obtain ⟨t',rfl⟩:=ry
 exact rule i j t t' s _ _ hc ⟨.int (g i j),H,I.tok _,⟨_,rfl⟩,q⟩
theorem z20 {f:Value->Value->Sem Value}{g:Int->Int->Int}
  (rule:∀ (i j:Int) (t u:Tok) (s:Shared) (Q:Value->Shared->Prop) (E:Value->Shared->Prop),Q (.int (g i j) s.toks) { s with toks:=s.toks+1 }->wpAny (model X.prog X.w) X.A (f (.int i t) (.int j u)) Q E s) :
  OpR X f (rI0 fun i j=> .int (g i j)):=by
 intro pins s σ H x y v u Q I rx ry h
 obtain ⟨i,j,rfl,rfl,q⟩:=h
 obtain ⟨t,rfl⟩:=rx
 obtain ⟨t',rfl⟩:=ry
 exact rule i j t t' s _ _ ⟨.int (g i j),H,I.tok _,⟨_,rfl⟩,q⟩
theorem z2p {f:Value->Value->Sem Value}{g:Int->Int->Bool}
  (rule:∀ (i j:Int) (t u:Tok) (s:Shared) (Q:Value->Shared->Prop) (E:Value->Shared->Prop),Q (.bool (g i j)) s->wpAny (model X.prog X.w) X.A (f (.int i t) (.int j u)) Q E s) :
  OpR X f (rI0 fun i j=> .bl (g i j)):=by
 intro pins s σ H x y v u Q I rx ry h
 obtain ⟨i,j,rfl,rfl,q⟩:=h
 obtain ⟨t,rfl⟩:=rx
 obtain ⟨t',rfl⟩:=ry
 exact rule i j t t' s _ _ ⟨.bl (g i j),H,I,rfl,q⟩
def z4b (i j:Int):Prop:=0<=j/\j<=1000000/\i.natAbs<2 ^ 64
def z28 (i j:Int):Prop:=(-(2 ^ 64)<i/\i<2 ^ 64)\/(-(2 ^ 64)<j/\j<2 ^ 64)
theorem z28.ok {i j:Int}(h:z28 i j):IntMulOk i j:=by
 rcases h with ⟨h1,h2⟩ | ⟨h1,h2⟩
 ·exact .of_left (intBits_le_64 h1 h2)
 ·exact .of_right (intBits_le_64 h1 h2)
theorem zfb:OpR X (binaryOp .Add) (rI0 fun i j=> .int (i+j)):=z20 fun _ _ _ _ _ _ _ q=>add_int q
theorem zxn:OpR X (binaryOp .Sub) (rI0 fun i j=> .int (i - j)):=z20 fun _ _ _ _ _ _ _ q=>sub_int q
theorem zlh:OpR X (binaryOp .Mult) (rI z28 fun i j=> .int (i * j)):=opI fun _ _ _ _ _ _ _ hc q=>mul_int q hc.ok
theorem zcf:OpR X (binaryOp .Mod) (rI (fun _ j=>0<j) fun i j=> .int (i % j)):=opI fun i j _ _ _ _ _ hc q=>by
 have h1:(0:Int)<j:=hc
 exact mod_int' (by omega) (by rw [Int.fmod_eq_emod_of_nonneg i (by omega)]; exact q)
theorem z01:OpR X (binaryOp .Pow) (rI z4b fun i j=> .int (i ^ j.toNat)):=opI fun _ _ _ _ _ _ _ hc q=>pow_int_small hc.1 hc.2.1 hc.2.2 q
theorem zt3:OpR X (binaryOp .LShift) (rI z4b fun i j=> .int (i * 2 ^ j.toNat)):=opI fun _ _ _ _ _ _ _ hc q=>lshift_int_small hc.1 hc.2.1 hc.2.2 q
theorem zxd:OpR X (binaryOp .BitXor) (rI0 fun i j=> .int (Builtin.bitXor i j)):=z20 fun _ _ _ _ _ _ _ q=>xor_int q
end
def z3u:V->V->Bool
 | .non,.non=>true | .non,.int _=>true | .int _,.non=>true | .non,.bl _=>true | .bl _,.non=>true | .non,.str _=>true | .str _,.non=>true
 | .int _,.int _=>true | .bl _,.bl _=>true | .str _,.str _=>true | .byt _,.byt _=>true
 | .int _,.str _=>true | .str _,.int _=>true | .bl _,.str _=>true | .str _,.bl _=>true
 | _,_=>false
def rEq:R2:=fun x y H Q=>z3u x y=true/\Q (.bl (decide (x=y))) H
def rNe:R2:=fun x y H Q=>z3u x y=true/\Q (.bl (!decide (x=y))) H
theorem zsn {i j:Int}:decide (V.int i=V.int j)=(i == j):=by
 rw [Bool.eq_iff_iff]
 simp
theorem zxl {i j:Bool}:decide (V.bl i=V.bl j)=(i == j):=by
 rw [Bool.eq_iff_iff]
 simp
theorem zur {i j:Str}:decide (V.str i=V.str j)=(i == j):=by
 rw [Bool.eq_iff_iff]
 simp
theorem ztw {i j:Array UInt8}:decide (V.byt i=V.byt j)=(i.toList == j.toList):=by
 rw [Bool.eq_iff_iff]
 cases i
 cases j
 simp
section
variable {X:Cx} {a b c:Expr} {ta tb tc:TE} {pos:Pos}
theorem zbg {pins:List (Addr × Obj)}{σ:St}{H:Hp}{s:Shared}{Q:VK}{k k':Bool}(I:Inv X pins σ H s)(q:Q (.bl k) H)(e:k=k'):EP X pins σ Q (.bool k') s:=by
 subst e
 exact ⟨.bl k,H,I,rfl,q⟩
theorem zmm:OpR X (compareOp .Eq) rEq:=by
 intro pins s σ H x y v u Q I rx ry h
 obtain ⟨hs,q⟩:=h
 cases x with
 | non =>
  cases rx
  cases y with
  | non=>cases ry; exact PySem.EqNone.eq_none_none (zbg I q (by simp))
  | bl j=>cases ry; exact PySem.EqNone.eq_none_bool (zbg I q (by simp))
  | int j=>obtain ⟨t',rfl⟩:=ry; exact o9 (zbg I q (by simp))
  | str j=>obtain ⟨t',rfl⟩:=ry; exact oa (zbg I q (by simp))
  | _=>exact fT hs
 | bl i =>
  cases rx
  cases y with
  | non=>cases ry; exact PySem.EqNone.eq_bool_none (zbg I q (by simp))
  | bl j=>cases ry; exact eq_bool (zbg I q zxl)
  | str j=>obtain ⟨t',rfl⟩:=ry; exact PySem.EqMixed.eq_bool_str (zbg I q (by simp))
  | _=>exact fT hs
 | int i =>
  obtain ⟨t,rfl⟩:=rx
  cases y with
  | non=>cases ry; exact oe (zbg I q (by simp))
  | int j=>obtain ⟨t',rfl⟩:=ry; exact eq_int (zbg I q zsn)
  | str j=>obtain ⟨t',rfl⟩:=ry; exact PySem.EqMixed.eq_int_str (zbg I q (by simp))
  | _=>exact fT hs
 | str i =>
  obtain ⟨t,rfl⟩:=rx
  cases y with
  | non=>cases ry; exact og (zbg I q (by simp))
  | bl j=>cases ry; exact PySem.EqMixed.eq_str_bool (zbg I q (by simp))
  | int j=>obtain ⟨t',rfl⟩:=ry; exact PySem.EqMixed.eq_str_int (zbg I q (by simp))
  | str j=>obtain ⟨t',rfl⟩:=ry; exact eq_str (zbg I q zur)
  | _=>exact fT hs
 | byt i =>
  obtain ⟨t,rfl⟩:=rx
  cases y with
  | byt j=>obtain ⟨t',rfl⟩:=ry; exact PySem.W.eq_bytes (zbg I q ztw)
  | _=>exact fT hs
 | _=>cases y <;> exact fT hs
theorem zv4:OpR X (compareOp .NotEq) rNe:=by
 intro pins s σ H x y v u Q I rx ry h
 obtain ⟨hs,q⟩:=h
 cases x with
 | non =>
  cases rx
  cases y with
  | non=>cases ry; exact PySem.EqNone.ne_none_none (zbg I q (by simp))
  | bl j=>cases ry; exact PySem.EqNone.ne_none_bool (zbg I q (by simp))
  | int j=>obtain ⟨t',rfl⟩:=ry; exact oh (zbg I q (by simp))
  | str j=>obtain ⟨t',rfl⟩:=ry; exact oi (zbg I q (by simp))
  | _=>exact fT hs
 | bl i =>
  cases rx
  cases y with
  | non=>cases ry; exact PySem.EqNone.ne_bool_none (zbg I q (by simp))
  | bl j=>cases ry; exact ne_bool (zbg I q (congrArg not zxl))
  | str j=>obtain ⟨t',rfl⟩:=ry; exact PySem.EqMixed.ne_bool_str (zbg I q (by simp))
  | _=>exact fT hs
 | int i =>
  obtain ⟨t,rfl⟩:=rx
  cases y with
  | non=>cases ry; exact oj (zbg I q (by simp))
  | int j=>obtain ⟨t',rfl⟩:=ry; exact ne_int (zbg I q (congrArg not zsn))
  | str j=>obtain ⟨t',rfl⟩:=ry; exact PySem.EqMixed.ne_int_str (zbg I q (by simp))
  | _=>exact fT hs
 | str i =>
  obtain ⟨t,rfl⟩:=rx
  cases y with
  | non=>cases ry; exact om (zbg I q (by simp))
  | bl j=>cases ry; exact PySem.EqMixed.ne_str_bool (zbg I q (by simp))
  | int j=>obtain ⟨t',rfl⟩:=ry; exact PySem.EqMixed.ne_str_int (zbg I q (by simp))
  | str j=>obtain ⟨t',rfl⟩:=ry; exact ne_str (zbg I q (congrArg not zur))
  | _=>exact fT hs
 | byt i =>
  obtain ⟨t,rfl⟩:=rx
  cases y with
  | byt j=>obtain ⟨t',rfl⟩:=ry; exact PySem.W.ne_bytes (zbg I q (congrArg not ztw))
  | _=>exact fT hs
 | _=>cases y <;> exact fT hs
theorem zrd:OpR X (compareOp .Lt) (rI0 fun i j=> .bl (decide (i<j))):=z2p fun _ _ _ _ _ _ _ q=>lt_int q
theorem zx3:OpR X (compareOp .LtE) (rI0 fun i j=> .bl (decide (i<=j))):=z2p fun _ _ _ _ _ _ _ q=>le_int q
theorem zy6:OpR X (compareOp .Gt) (rI0 fun i j=> .bl (decide (j<i))):=z2p fun _ _ _ _ _ _ _ q=>gt_int q
theorem z3i:OpR X (compareOp .GtE) (rI0 fun i j=> .bl (decide (j<=i))):=z2p fun _ _ _ _ _ _ _ q=>ge_int q
theorem zlb:OpR X (compareOp .Is) (fun x y H Q=>y = .non/\Q (.bl (decide (x = .non))) H):=by
 intro pins s σ H x y v u Q I rx ry h
 obtain ⟨rfl,q⟩:=h
 cases ry
 refine is_none_gen (zbg I q ?_)
 cases x <;> first
  | (cases rx; rfl)
  | (obtain ⟨t,rfl⟩:=rx; rfl)
theorem zge:OpR X (compareOp .IsNot) (fun x y H Q=>y = .non/\Q (.bl (!decide (x = .non))) H):=by
 intro pins s σ H x y v u Q I rx ry h
 obtain ⟨rfl,q⟩:=h
 cases ry
 refine isnot_none_gen (zbg I q ?_)
 cases x <;> first
  | (cases rx; rfl)
  | (obtain ⟨t,rfl⟩:=rx; rfl)
theorem za6 (b:Expr){op:CmpOp}(h:op≠ .In:=by decide)(h2:op≠ .NotIn:=by decide):behindInMarks op b=false:=by
 have e1:(op == CmpOp.In)=false:=by cases op <;> first | rfl | exact absurd rfl h
 have e2:(op == CmpOp.NotIn)=false:=by cases op <;> first | rfl | exact absurd rfl h2
 cases b <;> simp [behindInMarks,e1,e2]
theorem zj1 {op:CmpOp}{r:R2}(ho:OpR X (compareOp op) r)(ha:PE X a ta)(hb:PE X b tb)(hm:behindInMarks op b=false):PE X (.Compare a [op] [b] pos) (tOp r ta tb):=by
 intro pins s σ H Q I h
 exact wpAny_Compare1 (z3s ha hb I h fun v u s2 x y H2 I2 rx ry q=>ho pins s2 σ H2 x y v u Q I2 rx ry q) hm
def z3n (t:TE):TT:=fun σ H Q=>t σ H fun x H'=>∃ k,x = .bl k/\Q k H'
theorem zav {op:CmpOp}{r:R2}(ho:OpR X (compareOp op) r)(ha:PE X a ta)(hb:PE X b tb)(hm:behindInMarks op b=false):PT X (.Compare a [op] [b] pos) (z3n (tOp r ta tb)):=by
 intro pins s σ H Q I h
 refine wpAny_isTrue_Compare1 (thn (ha pins s σ H _ I h) fun v s1 ⟨x,H1,I1,r1,q1⟩=>thn (hb pins s1 σ H1 _ I1 q1) fun u s2 ⟨y,H2,I2,r2,q2⟩ =>
  thn (ho pins s2 σ H2 x y v u _ I2 r1 r2 q2) fun c s3 ⟨z,H3,I3,r3,k,e,q3⟩=>?_) hm
 subst e
 cases r3
 exact wpAny_truthy_bool ⟨H3,I3,q3⟩
def z03 (r r':R2)(ta tb tc:TE):TE:=fun σ H Q=>ta σ H fun x H1=>tb σ H1 fun y H2=>r x y H2 fun z H3=>∃ k,z = .bl k /\
 (if k=true then tc σ H3 fun w' H4=>r' y w' H4 Q else Q (.bl false) H3)
theorem zvo {op op':CmpOp}{r r':R2}(ho:OpR X (compareOp op) r)(ho':OpR X (compareOp op') r')(ha:PE X a ta)(hb:PE X b tb)(hc:PE X c tc)
  (hm:lastMarks [op,op'] [b,c]=false:=by with_unfolding_all rfl):PE X (.Compare a [op,op'] [b,c] pos) (z03 r r' ta tb tc):=by
 intro pins s σ H Q I h
 refine Compare_chain (thn (ha pins s σ H _ I h) fun v s1 ⟨x,H1,I1,r1,q1⟩=>chain_link (thn (hb pins s1 σ H1 _ I1 q1) fun u s2 ⟨y,H2,I2,r2,q2⟩ =>
  thn (ho pins s2 σ H2 x y v u _ I2 r1 r2 q2) fun d s3 ⟨z,H3,I3,r3,k,e,q3⟩=>?_)) hm
 subst e
 cases r3
 refine wpAny_truthy_bool ?_
 cases k with
 | false=>exact ite_ff ⟨.bl false,H3,I3,rfl,q3⟩
 | true=>exact ite_tt (chain_last (thn (hc pins s3 σ H3 _ I3 q3) fun w' s4 ⟨z',H4,I4,r4,q4⟩=>ho' pins s4 σ H4 y z' u w' Q I4 r2 r4 q4))
theorem zs7:(sizeLine:Nat)<2 ^ 63:=by rw [sizeLine_eq]; decide
theorem zru:OpR X (binaryOp .Add) (fun x y H Q=>∃ i j,x = .str i/\y = .str j/\i.length+j.length<=sizeLine/\Q (.str (i++j)) H):=by
 intro pins s σ H x y v u Q I rx ry h
 obtain ⟨i,j,rfl,rfl,hz,q⟩:=h
 obtain ⟨t,rfl⟩:=rx
 obtain ⟨t',rfl⟩:=ry
 exact add_str (fun t' tk=>⟨.str (i++j),H,I.tok _,⟨_,rfl⟩,q⟩) hz
theorem zhm {x:V}{us:List Value}(r:zb3 [x] us):∃ u,us=[u]/\zbs x u:=by
 cases r with
 | cons r1 r2=>cases r2; exact ⟨_,rfl,r1⟩
theorem z3w {x y:V}{us:List Value}(r:zb3 [x,y] us):∃ u w',us=[u,w']/\zbs x u/\zbs y w':=by
 cases r with
 | cons r1 r2 =>
  cases r2 with
  | cons r3 r4=>cases r4; exact ⟨_,_,rfl,r1,r3⟩
theorem zop:zit X (.type "str") (fun xs H Q=>∃ i,xs=[.int i]/\i.natAbs.log2<1920/\Q (.str (toString i)) H):=by
 intro pins s σ H xs us Q I r h
 obtain ⟨i,rfl,hz,q⟩:=h
 obtain ⟨u,rfl,t,rfl⟩:=zhm r
 exact PySem.P.str_of_int hz ⟨.str _,H,I.tok _,⟨_,rfl⟩,q⟩
end
structure zzk (h:Heap)(x dx C:Addr)(mA:Str->Option Value):Prop where
 obj:h.get? x=some (kq C dx)
 ns:h.Ns1 dx mA
 ne:dx≠x
theorem zsa {h:Heap}{dx:Addr}{mA:Str->Option Value}(n:h.Ns1 dx mA):∃ od,h.get? dx=some od/\∀ name,ng name od=some (mA name):=by
 obtain ⟨o,es,ep,ho,hd,hk,_,hm⟩:=n
 refine ⟨o,ho,fun name=>?_⟩
 have e:=hm name
 unfold nsFind findBy at e
 rw [<- Array.find?_toList] at e
 unfold ng
 rw [hd]
 dsimp only
 split
 ·rename_i y q
  rw [q] at e
  exact congrArg some e
 ·rename_i q
  rw [q] at e
  have a:es.toList.any (·.refKey)=false:=by
   rw [List.any_eq_false]
   intro y hy
   obtain ⟨z,t,b⟩:=hk y (Array.mem_toList_iff.mp hy)
   simp [DictEntry.refKey,b]
  have a':¬ es.toList.any (·.refKey)=true:=by rw [a]; exact Bool.false_ne_true
  rw [if_neg a']
  exact congrArg some e
theorem zzk.look {h:Heap}{x dx C:Addr}{mA:Str->Option Value}(I:zzk h x dx C mA):∃ od,PySem.W.InstAt h x (kq C dx) C (some od)/\∀ name,ng name od=some (mA name) :=
 let ⟨od,ho,hl⟩:=zsa I.ns
 ⟨od,⟨I.obj,rfl,rfl,ho⟩,hl⟩
section
variable {prog:Program} {w:World} {A:Around} {E:Value->Shared->Prop} {s:Shared} {K:W.Frag} {x dx C f:Addr} {mA:Str->Option Value} {name:Str} {v:Value}
theorem zgn {expr:Bool}{Q:Value->Shared->Prop}(X:K.In s.heap)(I:zzk s.heap x dx C mA)(hg:PySem.W.plainGet K C name=true)(hh:PySem.W.hasDictIn K C=true)
  (ha:PySem.W.findIn K (.ref C) name=some none)(hv:mA name=some v)(hv':o3 v=true)(h:Q v { s with toks:=s.toks+1 }) :
  wpAny (model prog w) A (getAttr (.ref x) name expr) Q E s:=by
 obtain ⟨od,J,hl⟩:=I.look
 exact PySem.W.get_value X J (PySem.W.plainGet_of hg).1 (PySem.W.findObj_own hh ha rfl (by rw [hl,hv])) hv' h
theorem zvq {pl:Sem Bool}{Q:Value × List Value->Shared->Prop}(X:K.In s.heap)(I:zzk s.heap x dx C mA)(hg:PySem.W.plainGet K C name=true)
  (hf:PySem.W.findIn K (.ref C) name=some (some (.ref f)))(ht:PySem.W.isFn K (.ref f)=true)(hv:mA name=none)(h:Q (.ref f,[.ref x]) s) :
  wpAny (model prog w) A (getMethod (.ref x) name pl) Q E s:=by
 obtain ⟨od,J,hl⟩:=I.look
 exact PySem.W.method_fn X J (PySem.W.plainGet_of hg).1 (PySem.W.plainGet_of hg).2 hf (beq_iff_eq.mp ht) (by show (ng name od).map (·.isSome)=some false; rw [hl,hv]; rfl) h
theorem zzl {ns:List Str}{Q:Unit->Shared->Prop}(X:K.In s.heap)(I:zzk s.heap x dx C mA)
  (hs:PySem.W.findIn K (.ref C) "__setattr__" = some (some (.builtin "object.__setattr__")))(hp:PySem.W.plainOver K C=true)(ht:nj K C name=some none)(hh:PySem.W.hasDictIn K C=true)
  (hw:PySem.Within mA ns)(hsz:ns.length<=sizeLine)
  (h:∀ h',zzk h' x dx C (fun y=>if y=name then some v else mA y)->Heap.SameBut dx s.heap h'->Q () { s with heap:=h',toks:=s.toks+2 }) :
  wpAny (model prog w) A (setAttr (.ref x) name v) Q E s:=by
 obtain ⟨od,J,hl⟩:=I.look
 refine PySem.W.set_plain X J hs (PySem.W.osa_open (s:={ s with toks:=s.toks+1 }) (r:=none) X J hp ht fun b=>?_)
 obtain ⟨cd,hc,g⟩:=PySem.W.any_some hh
 have hx:s.heap.get? x=some ⟨.ref C,some dx,.plain,#[]⟩:=I.obj
 refine wpAny_bind (wpAny_pure (wpAny_bind (wpAny_bind (wpAny_loadPart hx (wpAny_bind (PySem.W.Looks.here (s:={ s with toks:=s.toks+1 }) (PySem.W.looks_clsIn X hc) ?_))))))
 rw [g]
 refine wpAny_pure (a:=some dx) (wpAny_bind (wpAny_pure (wpAny_bind ?_)))
 refine wpAny_nsSet1 (s:={ s with toks:=s.toks+1 }) I.ns fun h' d c=>?_
 obtain ⟨oD,j,l,i,e,f⟩:=d.count (PySem.Within.cons name v hw)
 refine wpAny_bind (wpAny_lookBehind i (by rw [e]; exact pastItsLine_dict (gy f (by rw [ic]; omega))) ?_)
 exact wpAny_pure (h _ ⟨(c.2 _ (Ne.symm I.ne)).trans I.obj,d,I.ne⟩ c)
theorem zwu {R:Result->Shared->Prop}{vs:List Value}{kw:List (Str × Value)}(X:K.In s.heap)(hm:PySem.W.makesIn K C=true)
  (hi:PySem.W.findIn K (.ref C) "__init__" = some (some (.ref f)))(hf:typeIn K (.ref f)=some (.type "function"))
  (h:codeAny (model prog w) (A.under (.builtin "type.__call__" ⟨.ref C :: vs,kw⟩)) (.call (.ref f) ⟨.ref (s.heap.objs.size+1) :: vs,kw⟩) (PySem.W.InitBack (s.heap.objs.size+1) R)
   { s with heap:=(s.heap.push jm).push (kq C s.heap.objs.size) }) :
  codeAny (model prog w) A (.call (.ref C) ⟨vs,kw⟩) R s:=by
 obtain ⟨hh,g,d,t,os⟩:=s
 exact PySem.W.make_core (PySem.W.makes_of X hm) (PySem.W.looks_findIn X hi) (fun self=>PySem.W.bind_fn X self hf) (.inl rfl) h
end
def zc1 (f:Str)(v:V):List (Str × V)->List (Str × V)
 | []=>[(f,v)]
 | (g,x) :: r=>if g=f then (g,v) :: r else (g,x) :: zc1 f v r
theorem zke (f g:Str)(v:V):∀ fs:List (Str × V),(zc1 f v fs).lookup g=if g=f then some v else fs.lookup g
 | []=>by
  show List.lookup g [(f,v)]=_
  by_cases h:g=f
  ·have hb:(g == f)=true:=beq_iff_eq.mpr h
   simp only [List.lookup,hb,if_pos h]
  ·have hb:(g == f)=false:=beq_eq_false_iff_ne.mpr h
   simp only [List.lookup,hb,if_neg h]
 | (k,x) :: r=>by
  have ih:=zke f g v r
  rw [show zc1 f v ((k,x) :: r)=(if k=f then (k,v) :: r else (k,x) :: zc1 f v r) from rfl]
  by_cases hk:k=f
  ·rw [if_pos hk]
   by_cases h:g=k
   ·have hb:(g == k)=true:=beq_iff_eq.mpr h
    simp only [List.lookup,hb,if_pos (h.trans hk)]
   ·have hb:(g == k)=false:=beq_eq_false_iff_ne.mpr h
    simp only [List.lookup,hb,if_neg (fun e:g=f=>h (e.trans hk.symm))]
  ·rw [if_neg hk]
   by_cases h:g=k
   ·have hb:(g == k)=true:=beq_iff_eq.mpr h
    simp only [List.lookup,hb,if_neg (fun e:g=f=>hk (h.symm.trans e))]
   ·have hb:(g == k)=false:=beq_eq_false_iff_ne.mpr h
    simp only [List.lookup,hb]
    exact ih
theorem zjo (f:Str)(v:V):∀ fs:List (Str × V),f∈(zc1 f v fs).map (·.1)/\∀ g,g∈fs.map (·.1)->g∈(zc1 f v fs).map (·.1)
 | []=>⟨by simp [zc1],fun g h=>by simp at h⟩
 | (k,x) :: r=>by
  obtain ⟨i1,i2⟩:=zjo f v r
  rw [show zc1 f v ((k,x) :: r)=(if k=f then (k,v) :: r else (k,x) :: zc1 f v r) from rfl]
  by_cases hk:k=f
  ·rw [if_pos hk]
   subst hk
   exact ⟨by simp,fun g h=>by simpa using h⟩
  ·rw [if_neg hk]
   refine ⟨?_,fun g h=>?_⟩
   ·rw [ig]
    exact gc _ i1
   ·rw [ig] at h |-
    rcases gx.mp h with e | e
    ·exact gx.mpr (.inl e)
    ·exact gc _ (i2 g e)
theorem zjz (f:Str)(v:V):∀ fs:List (Str × V),(zc1 f v fs).length<=fs.length+1
 | []=>by simp [zc1]
 | (k,x) :: r=>by
  have ih:=zjz f v r
  rw [show zc1 f v ((k,x) :: r)=(if k=f then (k,v) :: r else (k,x) :: zc1 f v r) from rfl]
  by_cases hk:k=f
  ·rw [if_pos hk,ic,ic]; omega
  ·rw [if_neg hk,ic,ic]; omega
theorem zlr.some_of {v:V}{o:Option Value}(r:zlr (some v) o):∃ u,o=some u/\zbs v u:=by
 cases o with
 | none=>exact (show False from r).elim
 | some u=>exact ⟨u,rfl,r⟩
theorem zlr.none_of {o:Option Value}(r:zlr none o):o=none:=by
 cases o with
 | none=>rfl
 | some u=>exact (show False from r).elim
theorem ztl {v:V}{u:Value}(r:zbs v u):o3 u=true:=by
 cases v with
 | non=>cases (show u=Value.none from r); rfl
 | bl b=>cases (show u=Value.bool b from r); rfl
 | int i=>obtain ⟨t,e⟩:=(show ∃ t,u=Value.int i t from r); cases e; rfl
 | str x=>obtain ⟨t,e⟩:=(show ∃ t,u=Value.str x t from r); cases e; rfl
 | byt b=>obtain ⟨t,e⟩:=(show ∃ t,u=bytes b t from r); cases e; rfl
 | flt b=>obtain ⟨t,e⟩:=(show ∃ t,u=float b t from r); cases e; rfl
 | ref a=>cases (show u=Value.ref a from r); rfl
 | ty n=>cases (show u=o6 n from r); rfl
section
variable {P:Program} {w:World} {H:Hp} {h:Heap} {a C dx:Addr} {fs:List (Str × V)}
theorem zm6 (hok:HOk P w H h)(e:H a=some (.ins C dx fs)):∃ mA,zzk h a dx C mA/\(∀ f,zlr (fs.lookup f) (mA f))/\PySem.Within mA (fs.map (·.1))/\fs.length<=1000/\H dx=some (.own a):=by
 obtain ⟨d,z,ne,ob,mA,n,r,q⟩:=(show zcl P w H h a (.ins C dx fs) from hok a _ e)
 exact ⟨mA,⟨ob,n,ne⟩,r,q,z,d⟩
end
structure Cls (K:W.Frag)(C:Addr):Prop where
 pg:PySem.W.plainGet K C Str.empty=true
 hd:PySem.W.hasDictIn K C=true
 po:PySem.W.plainOver K C=true
 sa:PySem.W.findIn K (.ref C) "__setattr__" = some (some (.builtin "object.__setattr__"))
theorem Cls.get {K:W.Frag}{C:Addr}(c:Cls K C)(f:Str):PySem.W.plainGet K C f=true:=c.pg
def zkb (K:W.Frag)(C:Addr)(f:Str):Prop:=PySem.W.findIn K (.ref C) f=some none
theorem zkb.taker {K:W.Frag}{C:Addr}{f:Str}(n:zkb K C f):nj K C f=some none:=by
 unfold nj
 rw [show PySem.W.findIn K (.ref C) f=some none from n]
 rfl
structure z0i (K:W.Frag)(C:Addr)(m:Str)(f:Addr):Prop where
 at_:PySem.W.findIn K (.ref C) m=some (some (.ref f))
 fn:PySem.W.isFn K (.ref f)=true
 kp:PySem.W.keepIn K (.ref f)=true
section
variable {X:Cx} {pins:List (Addr × Obj)} {σ:St} {H:Hp} {s:Shared} {a C dx:Addr} {fs:List (Str × V)} {f:Str} {v:V} {A:Around} {E:Value->Shared->Prop}
theorem zq3 {b:Bool}{Q:Value->Shared->Prop}(I:Inv X pins σ H s)(e:H a=some (.ins C dx fs))(c:Cls X.K C)(n:zkb X.K C f)(l:fs.lookup f=some v)
  (h:∀ u s',Inv X pins σ H s'->zbs v u->Q u s'):wpAny (model X.prog X.w) A (getAttr (.ref a) f b) Q E s:=by
 obtain ⟨mA,O,r,_,_,_⟩:=zm6 I.hok e
 obtain ⟨u,hu,ru⟩:=zlr.some_of (v:=v) (o:=mA f) (by rw [<- l]; exact r f)
 exact zgn I.kIn O (c.get f) c.hd n hu (ztl ru) (h u _ (I.tok _) ru)
theorem zk_ {m:Str}{g:Addr}{pl:Sem Bool}{Q:Value × List Value->Shared->Prop}(I:Inv X pins σ H s)(e:H a=some (.ins C dx fs))(c:Cls X.K C)(k:z0i X.K C m g)(l:fs.lookup m=none)
  (h:Q (.ref g,[.ref a]) s):wpAny (model X.prog X.w) A (getMethod (.ref a) m pl) Q E s:=by
 obtain ⟨mA,O,r,_,_,_⟩:=zm6 I.hok e
 have hn:mA m=none:=zlr.none_of (by rw [<- l]; exact r m)
 exact zvq I.kIn O (c.get m) k.at_ k.fn hn h
theorem zqz {y:V}{u:Value}{Q:Unit->Shared->Prop}(I:Inv X pins σ H s)(e:H a=some (.ins C dx fs))(c:Cls X.K C)(n:zkb X.K C f)(hl:fs.length<1000)(ry:zbs y u)
  (h:∀ s',Inv X pins σ (upd H a (.ins C dx (zc1 f y fs))) s'->Q () s'):wpAny (model X.prog X.w) A (setAttr (.ref a) f u) Q E s:=by
 obtain ⟨mA,O,r,wi,_,ho⟩:=zm6 I.hok e
 have hz:(fs.map (·.1)).length<=sizeLine:=by rw [gf,sizeLine_eq]; omega
 refine zzl I.kIn O c.sa c.po n.taker c.hd wi hz fun h' O' sb=>h _ ?_
 have hd:∃ o,h'.get? dx=some o:=let ⟨o,_,_,e',_⟩:=O'.ns; ⟨o,e'⟩
 refine I.write (x:=a) (e:=dx) (by rw [e]; exact True.intro) (.inr ho) (fun b q hb z=>(sb.2 b hb).trans z) hd ?_
 refine ⟨by rw [zab O.ne]; exact ho,?_,O.ne,O'.obj,_,O'.ns,fun g=>?_,fun g hg=>?_⟩
 ·have:=zjz f y fs; omega
 ·show zlr ((zc1 f y fs).lookup g) (if g=f then some u else mA g)
  rw [zke]
  by_cases q:g=f
  ·rw [if_pos q,if_pos q]; exact ry
  ·rw [if_neg q,if_neg q]; exact r g
 ·by_cases q:g=f
  ·rw [q]; exact (zjo f y fs).1
  ·refine (zjo f y fs).2 g (wi g fun z=>hg ?_)
   show (if g=f then some u else mA g)=none
   rw [if_neg q]; exact z
theorem Inv.made (I:Inv X pins σ H s):Inv X pins σ (upd (upd H s.heap.objs.size (.own (s.heap.objs.size+1))) (s.heap.objs.size+1) (.ins C s.heap.objs.size []))
  { s with heap:=(s.heap.push jm).push (kq C s.heap.objs.size) }:=by
 have e1:(s.heap.push jm).get? s.heap.objs.size=some jm:=Heap.get?_push_size s.heap rfl
 have e2:((s.heap.push jm).push (kq C s.heap.objs.size)).get? (s.heap.objs.size+1)=some (kq C s.heap.objs.size):=by
  have:=Heap.get?_push_size (s.heap.push jm) (o:=kq C s.heap.objs.size) rfl
  rwa [jz] at this
 have e3:(s.heap.push jm).Ns s.heap.objs.size (fun _=>none):=⟨jm,#[],_,e1,rfl,(fun e he=>absurd he (by simp)),fun _=>rfl⟩
 have I1:=I.laid (a:=s.heap.objs.size) (o:= .own (s.heap.objs.size+1)) (h':=s.heap.push jm) (t':=s.toks) (fun b u q=>Heap.get?_push_of_some _ q) (gv _) ⟨_,e1⟩
 refine I1.laid (a:=s.heap.objs.size+1) (o:= .ins C s.heap.objs.size []) (t':=s.toks) (fun b u q=>Heap.get?_push_of_some _ q) (lc (jz _ _)) ?_
 have ne:s.heap.objs.size≠s.heap.objs.size+1:=i0 (iz _)
 refine ⟨by rw [zab ne,zad],ix _,ne,e2,fun _=>none,(Heap.Ns1.of_empty e3).at fun o q=>Heap.get?_push_of_some _ q,fun _=>True.intro,fun y hy=>absurd rfl hy⟩
theorem z0e {prog:Program}{w:World}{env:Env}{e:Expr}{f:Str}{pos:Pos}{s:Shared}{Q:Value->Shared->Prop}(hb:attributeBase e f env (eval e env)=eval e env)
  (h:wpAny (model prog w) A (eval e env) (fun o s₁=>wpAny (model prog w) A (getAttr o f true) Q E s₁) E s):wpAny (model prog w) A (eval (.Attribute e f pos) env) Q E s :=
 Attribute_any_ h (by rw [arm_eval_Attribute,hb])
end
def z4a (K:W.Frag)(ta:TE)(f:Str):TE:=fun σ H Q=>ta σ H fun x H1=>∃ a C dx fs v,x = .ref a/\H1 a=some (.ins C dx fs)/\Cls K C/\zkb K C f/\fs.lookup f=some v/\Q v H1
def z44 (K:W.Frag)(ta tv:TE)(f:Str):TS:=fun D σ H=>tv σ H fun y H1=>ta σ H1 fun x H2=>∃ a C dx fs,x = .ref a/\H2 a=some (.ins C dx fs)/\Cls K C/\zkb K C f/\fs.length<1000 /\
 D.nx σ (upd H2 a (.ins C dx (zc1 f y fs)))
section
variable {X:Cx} {o e value:Expr} {f:Str} {pos pos':Pos} {ta tv:TE}
theorem za0 (he:PE X e ta)(hb:attributeBase e f X.env (eval e X.env)=eval e X.env):PE X (.Attribute e f pos) (z4a X.K ta f):=by
 intro pins s σ H Q I h
 refine z0e hb (thn (he pins s σ H _ I h) fun u s1 ⟨x,H1,I1,rx,a,C,dx,fs,v,ex,ea,c,n,l,q⟩=>?_)
 subst ex
 obtain rfl:u=Value.ref a:=rx
 exact zq3 I1 ea c n l fun u' s2 I2 ru=>⟨v,H1,I2,ru,q⟩
theorem zdv (ha:PE X o ta)(hv:PE X value tv)(hs:swapsWith value (some (.Attribute o f pos')) pos.line X.env=pure false):PS X (.Assign [.Attribute o f pos'] value pos) (z44 X.K ta tv f):=by
 intro pins s σ H D I h
 refine plainObj_wpAny_Assign_Attribute (thn (hv pins s σ H _ I h) fun u s1 ⟨y,H1,I1,ry,q⟩=>thn (ha pins s1 σ H1 _ I1 q) fun ov s2 ⟨x,H2,I2,rx,a,C,dx,fs,ex,ea,c,n,l,q2⟩=>?_) hs
 subst ex
 obtain rfl:ov=Value.ref a:=rx
 exact zqz I2 ea c n l ry fun s3 I3=>⟨σ,_,I3,q2⟩
end
section
variable {X:Cx} {pins:List (Addr × Obj)} {σ:St} {H:Hp} {s:Shared} {A:Around} {E:Value->Shared->Prop} {Q:Value->Shared->Prop} {c:Value} {b:Bool}
inductive zlf (K:W.Frag) (H:Hp):V->Value->Prop where
 | non:zlf K H .non (.type "NoneType")
 | bl (x:Bool):zlf K H (.bl x) (.type "bool")
 | int (i:Int):zlf K H (.int i) (.type "int")
 | str (x:Str):zlf K H (.str x) (.type "str")
 | flt (x:UInt64):zlf K H (.flt x) (.type "float")
 | lst {a:Addr} {xs:List V} (e:H a=some (.lst xs)):zlf K H (.ref a) (.type "list")
 | frz {a:Addr} {o:Obj} {xs:List V} (e:H a=some (.frz o (.lst xs))):zlf K H (.ref a) (.type "list")
 | tup {a:Addr} {xs:List V} (e:H a=some (.tup xs)):zlf K H (.ref a) (.type "tuple")
 | dK {a:Addr} {kvs:List (Key × V)} (e:H a=some (.dK kvs)):zlf K H (.ref a) (.type "dict")
 | dT {a:Addr} {kvs:List (List Key × V)} (e:H a=some (.dT kvs)):zlf K H (.ref a) (.type "dict")
 | ins {a C dx:Addr} {fs:List (Str × V)} (e:H a=some (.ins C dx fs)) (cl:Cls K C) (ha:PySem.W.findIn K (.ref C) "__class__" = some (some (.builtin "object.__class__")))
   (hn:PySem.W.specialIn K (.builtin "object.__class__") "__get__" = some (some (.builtin "getset_descriptor.__get__"))) (htk:PySem.W.takesIn K (.builtin "object.__class__")=some true)
   (hm:PySem.W.mroIn K C (.type "object")=some true):zlf K H (.ref a) (.ref C)
theorem zse {x:V}{u t:Value}(I:Inv X pins σ H s)(rx:zbs x u)(ty:zlf X.K H x t)(e:o5 X.K t c=some b)(h:∀ tk,Q (.bool b) { s with toks:=tk }) :
  wpAny (model X.prog X.w) A (call (.builtin "isinstance") [u,c]) Q E s:=by
 cases ty with
 | non=>cases (show u=Value.none from rx); exact jv PySem.W.kitx_none I.kIn True.intro e (fun z=>nomatch z) h
 | bl y=>cases (show u=Value.bool y from rx); exact jv PySem.W.kitx_bool I.kIn True.intro e (fun z=>nomatch z) h
 | int i=>obtain ⟨t,q⟩:=(show ∃ t,u=Value.int i t from rx); cases q; exact jv PySem.W.kitx_int I.kIn True.intro e (fun z=>nomatch z) h
 | str y=>obtain ⟨t,q⟩:=(show ∃ t,u=Value.str y t from rx); cases q; exact jv PySem.W.kitx_str I.kIn True.intro e (fun z=>nomatch z) h
 | flt y=>obtain ⟨t,q⟩:=(show ∃ t,u=float y t from rx); cases q; exact jv PySem.W.kitx_float I.kIn True.intro e (fun z=>nomatch z) h
 | @lst a xs ea =>
  cases (show u=Value.ref a from rx)
  obtain ⟨_,_,n,_,h1⟩:=(show zcl X.prog X.w H s.heap a (.lst xs) from I.hok a _ ea)
  exact jv nr I.kIn ⟨_,h1,rfl⟩ e (fun z=>nomatch z) h
 | @frz a ob xs ea =>
  cases (show u=Value.ref a from rx)
  obtain ⟨_,_,_,n,_,h1⟩:=(show zcl X.prog X.w H s.heap a (.frz ob (.lst xs)) from I.hok a _ ea)
  exact jv nr I.kIn ⟨_,h1,rfl⟩ e (fun z=>nomatch z) h
 | @tup a xs ea =>
  cases (show u=Value.ref a from rx)
  obtain ⟨_,_,_,p⟩:=(show zcl X.prog X.w H s.heap a (.tup xs) from I.hok a _ ea)
  obtain ⟨o,h1,h2,_⟩:=p
  exact jv PySem.W.kitx_tuple I.kIn ⟨o,h1,h2⟩ e (fun z=>nomatch z) h
 | @dK a kvs ea =>
  cases (show u=Value.ref a from rx)
  obtain ⟨_,_,vs,_,p⟩:=(show zcl X.prog X.w H s.heap a (.dK kvs) from I.hok a _ ea)
  obtain ⟨o,es,ep,h1,h2,_⟩:=p
  exact jv nu I.kIn ⟨o,h1,h2.1⟩ e (fun z=>nomatch z) h
 | @dT a kvs ea =>
  cases (show u=Value.ref a from rx)
  obtain ⟨_,_,xs,_,o,es,ep,h1,h2,_⟩:=(show zcl X.prog X.w H s.heap a (.dT kvs) from I.hok a _ ea)
  exact jv nu I.kIn ⟨o,h1,h2.1⟩ e (fun z=>nomatch z) h
 | @ins a C dx fs ea cl ha hn htk hm =>
  cases (show u=Value.ref a from rx)
  obtain ⟨mA,O,_⟩:=zm6 I.hok ea
  obtain ⟨od,J,_⟩:=O.look
  exact jv (PySem.W.kitx_own (cl.get _) cl.hd ha hn htk hm) I.kIn J e (fun z=>nomatch z) h
end
structure zej (k:Nat)(A:Around):Prop where
 hd:A.handled=none
 dp:A.depth+3 * k+5<recursionLimit
 un:A.units+16 * k+200<cLine
theorem zej.mono {j k:Nat}{A:Around}(r:zej k A)(h:j<=k):zej j A:=⟨r.hd,by have:=r.dp; omega,by have:=r.un; omega⟩
theorem zej.mm {j k:Nat}{A:Around}(r:zej k A)(h:j<=k:=by decide):zej j A:=r.mono h
theorem zej.deeper {k:Nat}{A:Around}(r:zej (k+1) A)(env:Env):zej k (A.deeper env) :=
 ⟨r.hd,by have:=r.dp; show A.depth+1+3 * k+5<_; omega,by have:=r.un; show A.units+3+16 * k+200<_; omega⟩
theorem zej.in1 {k:Nat}{A:Around}(r:zej (k+1) A):zej k A.in1 :=
 ⟨r.hd,by have:=r.dp; show A.depth+3 * k+5<_; omega,by have:=r.un; show A.units+1+16 * k+200<_; omega⟩
theorem zq2 {A:Around}{C:Addr}{us:List Value}{kw:List (Str × Value)}:(A.under (.builtin "type.__call__" ⟨.ref C :: us,kw⟩)).depth=A.depth+1:=by
 first | rfl | simp [Around.under,Code.weight,Code.isCreation,Code.isGuard,Code.isCaller,Code.frames,Code.isFrame,guardIds]
theorem zry {A:Around}{C:Addr}{us:List Value}{kw:List (Str × Value)}:(A.under (.builtin "type.__call__" ⟨.ref C :: us,kw⟩)).units=A.units+1:=by
 first | rfl | simp [Around.under,Code.cUnits,Code.frames,Code.isFrame]
theorem zej.make {k:Nat}{A:Around}(r:zej (k+1) A)(C:Addr)(us:List Value)(kw:List (Str × Value)):zej k (A.under (.builtin "type.__call__" ⟨.ref C :: us,kw⟩)) :=
 ⟨r.hd,by have:=r.dp; rw [zq2]; omega,by have:=r.un; rw [zry]; omega⟩
theorem zej.depth {k:Nat}{A:Around}(r:zej k A):A.depth<recursionLimit:=by have:=r.dp; omega
theorem zej.units {k:Nat}{A:Around}(r:zej k A):A.units+64<cLine:=by have:=r.un; omega
def zt0:TA:=fun _ H Q=>Q [] H
def zgx (ta:TE)(tr:TA):TA:=fun σ H Q=>ta σ H fun x H1=>tr σ H1 fun xs H2=>Q (x :: xs) H2
section
variable {X:Cx} {e:Expr} {es:List Expr} {te:TE} {t:TA} {pos:Pos}
theorem zag:PA X [] zt0:=fun _ _ _ _ H Q I h=>Calls.spliced_nil ⟨[],H,I,.nil,h⟩
theorem zaa (ha:PE X e te)(hr:PA X es t)(hs:starEach (e :: es) X.env=(false,eval e X.env) :: starEach es X.env:=by rfl):PA X (e :: es) (zgx te t):=by
 intro pos pins s σ H Q I h
 rw [hs]
 show wpAny _ _ (spliced ((false,eval e X.env) :: backTo pos (starEach es X.env))) _ _ s
 refine Calls.spliced_cons (thn (ha pins s σ H _ I h) fun u s1 ⟨x,H1,I1,r1,q1⟩=>?_)
 exact thn (hr pos pins s1 σ H1 _ I1 q1) fun us s2 ⟨xs,H2,I2,r2,q2⟩=>⟨x :: xs,H2,I2,.cons r1 r2,q2⟩
def z41 (t:TA):TE:=fun σ H Q=>t σ H fun xs H1=>xs.length<=sizeLine/\∀ p,H1 p=none->Q (.ref p) (upd H1 p (.tup xs))
def z4z (t:TA):TE:=fun σ H Q=>t σ H fun xs H1=>xs.length<=sizeLine/\∀ p,H1 p=none->Q (.ref p) (upd H1 p (.lst xs))
theorem zno {x1}(h:PA X es t):PE X (.Tuple es x1 pos) (z41 t):=by
 intro pins s σ H Q I hq
 refine wpAny_Tuple_spliced (thn (h pos pins s σ H _ I hq) fun us s1 ⟨xs,H1,I1,r,z,q⟩=>⟨by rw [<- r.length]; exact z,?_⟩)
 have hf:H1 s1.heap.objs.size=none:=I1.hok.fresh (gv _)
 refine ⟨.ref s1.heap.objs.size,upd H1 s1.heap.objs.size (.tup xs),I1.laid (t':=s1.toks) (fun b u e=>Heap.get?_push_of_some _ e) (gv _) ?_,rfl,q _ hf⟩
 exact ⟨z,us,r,⟨_,Heap.get?_push_size _ rfl,rfl,_,rfl⟩⟩
theorem zce (h:PA X es t):PE X (.List es pos) (z4z t):=by
 intro pins s σ H Q I hq
 refine wpAny_List_spliced (thn (h pos pins s σ H _ I hq) fun us s1 ⟨xs,H1,I1,r,z,q⟩=>⟨by rw [<- r.length]; exact z,?_⟩)
 have hf:H1 s1.heap.objs.size=none:=I1.hok.fresh (gv _)
 refine ⟨.ref s1.heap.objs.size,upd H1 s1.heap.objs.size (.lst xs),I1.laid (t':=s1.toks) (fun b u e=>Heap.get?_push_of_some _ e) (gv _) ?_,rfl,q _ hf⟩
 exact ⟨z,us,0,r,Heap.get?_push_size _ rfl⟩
end
abbrev Sp:=List V->Hp->VK->XK->Prop
abbrev CXT:=List Env->Hp->Shared->XK->Value->Shared->Prop
structure zu1 (P:Program)(w:World)(K:W.Frag)(mg:Str->Option Value)(base:Heap)(A:Around)(outer:List Env)(s:Shared)(H:Hp):Prop where
 frames:A.frames=some outer
 mod:Mod K mg base
 bs:∀ b o,base.get? b=some o->s.heap.get? b=some o/\H b=none
 bsz:base.objs.size<=s.heap.objs.size
 funs:s.heap.FunFrames base outer
 frf:∀ b∈frs outer,H b=none
 hok:HOk P w H s.heap
 bare:AllBare s.gens
def CE (outer:List Env)(P:Program)(w:World)(H:Hp)(s:Shared)(Q:VK)(u:Value)(s':Shared):Prop :=
 ∃ v H',s'.os=s.os/\AllBare s'.gens/\Un (frs outer) [] H H' s.heap s'.heap/\HOk P w H' s'.heap/\zbs v u/\Q v H'
def CR (CX:CXT)(outer:List Env)(P:Program)(w:World)(H:Hp)(s:Shared)(Q:VK)(E:XK)(r:Result)(s':Shared):Prop :=
 match r with
 | .ok (.ret u)=>CE outer P w H s Q u s'
 | .ok _=>False
 | .error e=>CX outer H s E e s'
structure zdm (P:Program)(w:World)(K:W.Frag)(mg:Str->Option Value)(base:Heap)(CX:CXT)(k:Nat)(f:Addr)(fd:FuncData)(ps:List Str)(sp:Sp):Prop where
 len:∀ vs H Q E,sp vs H Q E->vs.length=ps.length
 run:∀ (A:Around) (outer:List Env) (s:Shared) (H:Hp) (args:Args) (us:List Value) (vs:List V) (Q:VK) (E:XK),zej k A->zu1 P w K mg base A outer s H->BindsTo s fd args (ps.zip us)->zb3 vs us->sp vs H Q E ->
  codeAny (model P w) A (.call (.ref f) args) (CR CX outer P w H s Q E) s
theorem zdm.mono {P:Program}{w:World}{K:W.Frag}{mg:Str->Option Value}{base:Heap}{CX:CXT}{j k:Nat}{f:Addr}{fd:FuncData}{ps:List Str}{sp:Sp}(F:zdm P w K mg base CX j f fd ps sp)(h:j<=k) :
  zdm P w K mg base CX k f fd ps sp:=⟨F.len,fun A outer s H args us vs Q E hr=>F.run A outer s H args us vs Q E (hr.mono h)⟩
theorem zu1.make {P:Program}{w:World}{K:W.Frag}{mg:Str->Option Value}{base:Heap}{A:Around}{outer:List Env}{s:Shared}{H:Hp}(e:zu1 P w K mg base A outer s H)(C:Addr)(us:List Value)(kw:List (Str × Value)) :
  zu1 P w K mg base (A.under (.builtin "type.__call__" ⟨.ref C :: us,kw⟩)) outer s H:=⟨by first | exact e.frames | (simpa [Around.under,Code.envs,Code.isFrame,pushEnvs] using e.frames),e.mod,e.bs,e.bsz,e.funs,e.frf,e.hok,e.bare⟩
theorem zu1.in1 {P:Program}{w:World}{K:W.Frag}{mg:Str->Option Value}{base:Heap}{A:Around}{outer:List Env}{s:Shared}{H:Hp}(e:zu1 P w K mg base A outer s H) :
  zu1 P w K mg base A.in1 outer s H:=⟨e.frames,e.mod,e.bs,e.bsz,e.funs,e.frf,e.hok,e.bare⟩
section
variable {X:Cx} {pins:List (Addr × Obj)} {σ:St} {H:Hp} {s s':Shared}
theorem Inv.env0 (I:Inv X pins σ H s):zu1 X.prog X.w X.K X.mg X.base X.A X.stack s H :=
 ⟨I.ok.frames,I.ok.mod,I.bs,gy I.ok.bsz I.sz,I.stack,I.stkFree,I.hok,I.bare⟩
theorem Inv.after {Q:VK}{u:Value}(I:Inv X pins σ H s)(h:CE X.stack X.prog X.w H s Q u s'):EP X pins σ Q u s':=by
 obtain ⟨v,H',os,bare,un,hok,r,q⟩:=h
 obtain ⟨hh,g,d,t,a⟩:=s'
 obtain rfl:a=s.os:=os
 exact ⟨v,H',I.call (h':=hh) (g':=g) (d':=d) (t':=t) (ch:=[]) un hok bare (fun b z=>absurd z (by simp)),r,q⟩
end
def zt1 (sp:Sp)(dvs:List V)(E:XK)(t:TA):TE:=fun σ H Q=>t σ H fun vs H1=>sp (vs++dvs) H1 Q E
def zyp (C:Addr)(m:Str)(sp:Sp)(dvs:List V)(E:XK)(ta:TE)(t:TA):TE:=fun σ H Q=>ta σ H fun x H1=>∃ a dx fs,x = .ref a/\H1 a=some (.ins C dx fs)/\fs.lookup m=none /\
 t σ H1 fun vs H2=>sp (x :: (vs++dvs)) H2 Q E
def z3a (C:Addr)(sp:Sp)(dvs:List V)(E:XK)(t:TA):TE:=fun σ H Q=>t σ H fun vs H1=>∀ x dx,H1 x=none->H1 dx=none->dx≠x ->
 sp (.ref x :: (vs++dvs)) (upd (upd H1 dx (.own x)) x (.ins C dx [])) (fun v H2=>v = .non/\Q (.ref x) H2) E
def zcq (K:W.Frag)(fd:FuncData)(ps:List Str)(ds:List Value):Prop :=
 ∀ (s:Shared) (us:List Value),K.In s.heap->(us++ds).length=ps.length->BindsTo s fd ⟨us,[]⟩ (ps.zip (us++ds))
theorem zcq.all {K:W.Frag}{fd:FuncData}{ps:List Str}(h:∀ us:List Value,us.length=ps.length->bindArgs fd ⟨us,[]⟩=pure (ps.zip us)):zcq K fd ps []:=fun s us _ hl=>by
 rw [iy] at hl |-
 exact .of_eq (h us hl)
def zh6 (CX:CXT)(X:Cx)(E:XK):Prop:=∀ (pins:List (Addr × Obj)) (σ:St) (H:Hp) (s:Shared) (e:Value) (s':Shared),Inv X pins σ H s->CX X.stack H s E e s'->X.xe e s'
section
variable {X:Cx} {CX:CXT} {k:Nat} {f C:Addr} {fd:FuncData} {ps:List Str} {sp:Sp} {dvs:List V} {ds:List Value} {E:XK} {x m:Str} {p pos apos:Pos} {e o:Expr} {es:List Expr} {ta:TE} {t:TA}
theorem znf {pins:List (Addr × Obj)}{σ:St}{H:Hp}{s:Shared}{Q:VK}{us:List Value}{vs:List V}(F:zdm X.prog X.w X.K X.mg X.base CX k f fd ps sp)(hr:zej k X.A)(hb:zcq X.K fd ps ds)(hd:zb3 dvs ds)(hx:zh6 CX X E)
  (I:Inv X pins σ H s)(r:zb3 vs us)(h:sp (vs++dvs) H Q E):wpAny (model X.prog X.w) X.A (call (.ref f) us) (EP X pins σ Q) X.xe s:=by
 have r2:zb3 (vs++dvs) (us++ds):=r.append hd
 have hl:(us++ds).length=ps.length:=by rw [<- r2.length]; exact F.len _ _ _ _ h
 refine wpAny_call (codeAny_mono (F.run X.A X.stack s H ⟨us,[]⟩ (us++ds) (vs++dvs) Q E hr I.env0 (hb s us I.kIn hl) r2 h) fun r s' hq=>?_)
 cases r with
 | error e=>exact hx pins σ H s e s' I hq
 | ok fl =>
  cases fl with
  | ret u=>exact I.after hq
  | next=>exact False.elim hq
  | brk=>exact False.elim hq
  | cont=>exact False.elim hq
theorem zh0 (F:zdm X.prog X.w X.K X.mg X.base CX k f fd ps sp)(hr:zej k X.A)(hg:Gl X x)(hm:X.mg x=some (.ref f))(hk:PySem.W.keepIn X.K (.ref f)=true)(hb:zcq X.K fd ps ds)(hd:zb3 dvs ds)(hx:zh6 CX X E)
  (ha:PA X (e :: es) t)(hdb:(x == ("__debug__" : Str))=false:=by decide)(he:starEach (e :: es) X.env=(false,eval e X.env) :: starEach es X.env:=by rfl)(hpl:(backTo pos (starEach es X.env)).any (·.1)=false:=by rfl) :
  PE X (.Call (.Name x p) (e :: es) [] pos) (zt1 sp dvs E t):=by
 intro pins s σ H Q I h
 refine wpAny_Call_Name_kw (zl7 I hg hm ?_ hdb)
 refine lq (h₀:=X.base) I.ok.mod.kin hk (thn (ha pos pins s σ H _ I h) fun us s1 ⟨vs,H1,I1,r,q⟩=>⟨I1.kIn,?_⟩) he hpl
 exact znf F hr hb hd hx I1 r q
theorem zed {pl:Sem Bool}(he:PE X o ta)(c:Cls X.K C)(hm:z0i X.K C m f)(F:zdm X.prog X.w X.K X.mg X.base CX k f fd ps sp)(hr:zej k X.A)(hb:zcq X.K fd ps ds)(hd:zb3 dvs ds)(hx:zh6 CX X E)(ha:PA X (e :: es) t)
  (hst:starEach (e :: es) X.env=(false,eval e X.env) :: starEach es X.env:=by rfl)(hpl:(backTo pos (starEach es X.env)).any (·.1)=false:=by rfl)
  (ht:eval (.Call (.Attribute o m apos) (e :: es) [] pos) X.env=(do
   let ov <- eval o X.env
   standAt apos.atName
   let (f,first) <- holding [ov] (getMethod ov m pl)
   callWith pos f first (backTo pos (starEach (e :: es) X.env)) (backToKw pos (keywordEach [] X.env))):=by rfl) :
  PE X (.Call (.Attribute o m apos) (e :: es) [] pos) (zyp C m sp dvs E ta t):=by
 intro pins s σ H Q I h
 refine lm (pl:=pl) (thn (he pins s σ H _ I h) fun u s1 ⟨x,H1,I1,rx,a,dx,fs,ex,ea,l,q⟩=>?_) ht
 subst ex
 obtain rfl:u=Value.ref a:=rx
 refine zk_ I1 ea c hm l ?_
 refine lq (first:=[.ref a]) (h₀:=X.base) I.ok.mod.kin hm.kp (thn (ha pos pins s1 σ H1 _ I1 q) fun us s2 ⟨vs,H2,I2,r,q2⟩=>⟨I2.kIn,?_⟩) hst hpl
 exact znf (us:= .ref a :: us) (vs:= .ref a :: vs) F hr hb hd hx I2 (.cons rfl r) q2
theorem zcm {pl:Sem Bool}(he:PE X o ta)(c:Cls X.K C)(hm:z0i X.K C m f)(F:zdm X.prog X.w X.K X.mg X.base CX k f fd ps sp)(hr:zej k X.A)(hb:zcq X.K fd ps ds)(hd:zb3 dvs ds)(hx:zh6 CX X E)
  (ht:eval (.Call (.Attribute o m apos) [] [] pos) X.env=(do
   let ov <- eval o X.env
   standAt apos.atName
   let (f,first) <- holding [ov] (getMethod ov m pl)
   callWith pos f first (backTo pos (starEach [] X.env)) (backToKw pos (keywordEach [] X.env))):=by rfl) :
  PE X (.Call (.Attribute o m apos) [] [] pos) (zyp C m sp dvs E ta zt0):=by
 intro pins s σ H Q I h
 refine lm (pl:=pl) (thn (he pins s σ H _ I h) fun u s1 ⟨x,H1,I1,rx,a,dx,fs,ex,ea,l,q⟩=>?_) ht
 subst ex
 obtain rfl:u=Value.ref a:=rx
 refine zk_ I1 ea c hm l ?_
 exact PySem.W.callWith_K0 (first:=[.ref a]) I1.kIn hm.kp (znf (us:=[.ref a]) (vs:=[.ref a]) F hr hb hd hx I1 (.cons rfl .nil) q)
structure Mk (K:W.Frag)(C f:Addr):Prop where
 makes:PySem.W.makesIn K C=true
 init:PySem.W.findIn K (.ref C) "__init__" = some (some (.ref f))
 fn:PySem.W.isFn K (.ref f)=true
 kp:PySem.W.keepIn K (.ref C)=true
theorem zwl {pins:List (Addr × Obj)}{σ:St}{H:Hp}{s:Shared}{Q:VK}{us:List Value}{vs:List V}(M:Mk X.K C f)(F:zdm X.prog X.w X.K X.mg X.base CX k f fd ps sp)(hr:zej (k+1) X.A)(hb:zcq X.K fd ps ds)(hd:zb3 dvs ds)
  (hx:zh6 CX X E)(I:Inv X pins σ H s)(r:zb3 vs us)
  (h:∀ x dx,H x=none->H dx=none->dx≠x->sp (.ref x :: (vs++dvs)) (upd (upd H dx (.own x)) x (.ins C dx [])) (fun v H2=>v = .non/\Q (.ref x) H2) E) :
  wpAny (model X.prog X.w) X.A (call (.ref C) us) (EP X pins σ Q) X.xe s:=by
 have hq:=h (s.heap.objs.size+1) s.heap.objs.size (I.hok.fresh (jg _)) (I.hok.fresh (gv _)) (i0 (iz _))
 have I2:=Inv.made (C:=C) I
 have r2:zb3 (V.ref (s.heap.objs.size+1) :: (vs++dvs)) (Value.ref (s.heap.objs.size+1) :: (us++ds)):= .cons rfl (r.append hd)
 have hl:(Value.ref (s.heap.objs.size+1) :: us++ds).length=ps.length:=by
  have e:=r2.length
  rw [F.len _ _ _ _ hq] at e
  exact e.symm
 refine wpAny_call (zwu (f:=f) I.kIn M.makes M.init (beq_iff_eq.mp M.fn) (codeAny_mono (F.run _ X.stack _ _ ⟨Value.ref (s.heap.objs.size+1) :: us,[]⟩ (Value.ref (s.heap.objs.size+1) :: (us++ds)) _ _ E (hr.make C us [])
  (I2.env0.make C us []) (hb _ (Value.ref (s.heap.objs.size+1) :: us) I2.kIn hl) r2 hq) fun r s' a=>?_))
 cases r with
 | error e=>exact hx pins σ _ _ e s' I2 a
 | ok fl =>
  cases fl with
  | ret u =>
   obtain ⟨v,H',I3,rv,ev,q3⟩:=I2.after a
   subst ev
   exact ⟨rv,⟨V.ref (s.heap.objs.size+1),H',I3,rfl,q3⟩⟩
  | next=>exact False.elim a
  | brk=>exact False.elim a
  | cont=>exact False.elim a
theorem zl0 (M:Mk X.K C f)(F:zdm X.prog X.w X.K X.mg X.base CX k f fd ps sp)(hr:zej (k+1) X.A)(hg:Gl X x)(hm:X.mg x=some (.ref C))(hb:zcq X.K fd ps ds)(hd:zb3 dvs ds)(hx:zh6 CX X E)
  (ha:PA X (e :: es) t)(hdb:(x == ("__debug__" : Str))=false:=by decide)(he:starEach (e :: es) X.env=(false,eval e X.env) :: starEach es X.env:=by rfl)(hpl:(backTo pos (starEach es X.env)).any (·.1)=false:=by rfl) :
  PE X (.Call (.Name x p) (e :: es) [] pos) (z3a C sp dvs E t):=by
 intro pins s σ H Q I h
 refine wpAny_Call_Name_kw (zl7 I hg hm ?_ hdb)
 refine lq (h₀:=X.base) I.ok.mod.kin M.kp (thn (ha pos pins s σ H _ I h) fun us s1 ⟨vs,H1,I1,r,q⟩=>⟨I1.kIn,?_⟩) he hpl
 exact zwl M F hr hb hd hx I1 r q
end
def PK (X:Cx)(kws:List Keyword)(t:TA):Prop :=
 ∀ (pos:Pos) (pins:List (Addr × Obj)) (s:Shared) (σ:St) (H:Hp) (Q:List V->Hp->Prop),Inv X pins σ H s->t σ H Q->wpAny (model X.prog X.w) X.A (evalAll ((backToKw pos (keywordEach kws X.env)).map (·.2))) (AP X pins σ Q) X.xe s
section
variable {X:Cx} {x:Str} {pos kpos:Pos} {e:Expr} {kws:List Keyword} {te:TE} {t:TA} {nm:Option Str}
theorem zxx:PK X [] zt0:=fun _ _ _ _ H Q I h=>wpAny_evalAll_nil ⟨[],H,I,.nil,h⟩
theorem zp0 (ha:PE X e te)(hr:PK X kws t):PK X (⟨nm,e,kpos⟩ :: kws) (zgx te t):=by
 intro pos pins s σ H Q I h
 show wpAny _ _ (evalAll ((do let v <- eval e X.env; standAt pos; pure v) :: (backToKw pos (keywordEach kws X.env)).map (·.2))) _ _ s
 refine wpAny_evalAll_cons (wpAny_bind (thn (ha pins s σ H _ I h) fun u s1 ⟨x,H1,I1,r1,q1⟩=>wpAny_bind (wpAny_standAt (wpAny_pure ?_))))
 exact thn (hr pos pins s1 σ H1 _ I1 q1) fun us s2 ⟨xs,H2,I2,r2,q2⟩=>⟨x :: xs,H2,I2,.cons r1 r2,q2⟩
end
structure zam (N P:List Str)(sc:Scope):Prop where
 kind:sc.kind = .function
 co:sc.isCoroutine=false
 gen:sc.isGenerator=false
 nd:N.Nodup
 pre:N.take P.length=P
 par:∀ x∈P,sc.names.lookup x=some .local\/sc.names.lookup x=some .cell
 nofree:∀ y∈sc.names,y.2≠ .free
theorem zou {kindOf:Str->Option NameKind}{x:Str}:∀ {binds:List (Str × Value)} {m:Str->Option Value},(∀ v,(x,v)∉binds)->bindL kindOf binds m x=m x
 | [],_,_=>rfl
 | (n,v) :: r,m,h=>by
  unfold bindL
  rw [zou fun w hw=>h w (gc _ hw)]
  split
  ·have:x≠n:=by rintro rfl; exact h v gj
   simp [this]
  ·rfl
theorem zor {kindOf:Str->Option NameKind}{x:Str}:∀ {binds:List (Str × Value)} {m:Str->Option Value},(∀ v,(x,v)∉binds)->bindC kindOf binds m x=m x
 | [],_,_=>rfl
 | (n,v) :: r,m,h=>by
  unfold bindC
  rw [zor fun w hw=>h w (gc _ hw)]
  split
  ·rfl
  ·have:x≠n:=by rintro rfl; exact h v gj
   simp [this]
theorem zng {kindOf:Str->Option NameKind}{x:Str}{v:Value}:∀ {P:List Str} {vs:List Value} {i:Nat} {m:Str->Option Value},P.Nodup->P[i]? = some x->vs[i]? = some v->kindOf x=some .local ->
  bindL kindOf (P.zip vs) m x=some v
 | [],_,_,_,_,h,_,_=>by simp at h
 | _ :: _,[],_,_,_,_,h,_=>by simp at h
 | p :: P,w :: vs,0,m,nd,h1,h2,hk=>by
  simp at h1 h2; subst h1; subst h2
  show bindL kindOf ((p,w) :: P.zip vs) m p=_
  unfold bindL
  rw [zou fun v hv=>(ir.mp nd).1 (ki hv).1,if_pos hk]
  simp
 | p :: P,w :: vs,i+1,m,nd,h1,h2,hk=>by
  show bindL kindOf ((p,w) :: P.zip vs) m x=_
  unfold bindL
  exact zng (i:=i) (ir.mp nd).2 (by simpa using h1) (by simpa using h2) hk
theorem zn0 {kindOf:Str->Option NameKind}{x:Str}{v:Value}:∀ {P:List Str} {vs:List Value} {i:Nat} {m:Str->Option Value},P.Nodup->P[i]? = some x->vs[i]? = some v->kindOf x≠some .local ->
  bindC kindOf (P.zip vs) m x=some v
 | [],_,_,_,_,h,_,_=>by simp at h
 | _ :: _,[],_,_,_,_,h,_=>by simp at h
 | p :: P,w :: vs,0,m,nd,h1,h2,hk=>by
  simp at h1 h2; subst h1; subst h2
  show bindC kindOf ((p,w) :: P.zip vs) m p=_
  unfold bindC
  rw [zor fun v hv=>(ir.mp nd).1 (ki hv).1,if_neg hk]
  simp
 | p :: P,w :: vs,i+1,m,nd,h1,h2,hk=>by
  show bindC kindOf ((p,w) :: P.zip vs) m x=_
  unfold bindC
  exact zn0 (i:=i) (ir.mp nd).2 (by simpa using h1) (by simpa using h2) hk
def start (N:List Str)(vs:List V):St:=vs.map some++lw (N.length - vs.length) none
def zq1 (CX:CXT)(P:Program)(w:World)(K:W.Frag)(mg:Str->Option Value)(base:Heap)(N:List Str)(qual:Str)(scope:Scope)(f:Addr)(cd:Value)(A:Around)(outer:List Env)(s:Shared)(H:Hp)(E:XK)(fn:Str->Bool:=fun _=>true):Cx where
 prog:=P
 w:=w
 K:=K
 mg:=mg
 base:=base
 A:=A.deeper (envOfC qual scope s.heap.objs.size f cd)
 N:=N
 s₀:=s
 H₀:=H
 env:=envOfC qual scope s.heap.objs.size f cd
 outer:=outer
 stack:=envOfC qual scope s.heap.objs.size f cd :: outer
 ex:=[]
 calm:=true
 fn:=fn
 pn:=[]
 xe:=fun e s'=>wpAny (model P w) (A.deeper (envOfC qual scope s.heap.objs.size f cd)) (leaving (envOfC qual scope s.heap.objs.size f cd) e) (fun _ s''=>CX outer H s E e s'') (fun e' s''=>CX outer H s E e' s'') s'
theorem zqq {sc:Scope}{n:Nat}{x:Str}(h:sc.names.lookup x=some .cell):∃ c,(cellsFrom n sc.names []).lookup x=some c:=by
 have q:=kj sc.names n [] (.inl h)
 exact Option.isSome_iff_exists.mp q
theorem zof {CX:CXT}{P:Program}{w:World}{K:W.Frag}{mg:Str->Option Value}{base:Heap}{N ps:List Str}{qual:Str}{scope:Scope}{f:Addr}{cd:Value}{A:Around}{outer:List Env}{s s1:Shared}{H:Hp}{E:XK}{us:List Value}{vs:List V}{fn:Str->Bool}
  (S:zam N ps scope)(hd:A.handled=none)(e0:zu1 P w K mg base A outer s H)(hl:vs.length=ps.length)(r:zb3 vs us)
  (x:InCallC s s.heap.objs.size (bindL (envOfC qual scope s.heap.objs.size f cd).kindOf (ps.zip us) fun _=>none) (cellsFrom (s.heap.objs.size+1) scope.names []) (bindC (envOfC qual scope s.heap.objs.size f cd).kindOf (ps.zip us) fun _=>none) s1) :
  Inv (zq1 CX P w K mg base N qual scope f cd A outer s H E fn) [] (start N vs) H s1:=by
 have j:ps.length<=N.length:=by have:=congrArg l9 S.pre; rw [i5] at this; omega
 obtain ⟨h1,tk,rfl,hk⟩:=x.done
 have d:∀ b:Addr,b∉(zq1 CX P w K mg base N qual scope f cd A outer s H E fn).ex:=fun b z=>absurd (show b∈([]:List Addr) from z) (by simp)
 refine ⟨⟨e0.mod,S.kind,rfl,rfl,gv _,fun y z c h1 h2=>?_,fun y hy=>?_,fun y c _ h=>?_,fun _=>hd,Around.frames_deeper e0.frames,.inr ⟨rfl,rfl⟩,fun b z=>absurd z (d b),e0.bs,e0.bsz,fun b _ _=>d b,fun b z=>absurd z (d b),e0.funs,e0.frf⟩,
  rfl,e0.bare,Un.kept hk,⟨_,x.toInCall.ns,fun i y v h1 h2 h3=>?_⟩,fun y c h=>⟨_,x.cell y c h⟩,e0.hok.fresh (gv _),fun y c h=>?_,fun p hp=>absurd (show p∈([]:List (Addr × Obj)) from hp) (by simp),e0.hok.kept hk,?_⟩
 ·exact name_of_addr x.apart (PySem.mem_of_lookup h1) (PySem.mem_of_lookup h2)
 ·have hy:scope.names.lookup y=some .cell\/scope.names.lookup y=some .free:=hy
  rcases hy with hy | hy
  ·exact zqq hy
  ·exact absurd rfl (S.nofree _ (PySem.mem_of_lookup hy))
 ·exact ie (x.above y c (PySem.mem_of_lookup h))
 ·have hi:i<vs.length:=by
   unfold start at h2
   by_cases hi:i<vs.length
   ·exact hi
   ·rw [List.getElem?_append_right (by simpa using hi)] at h2
    rw [List.getElem?_replicate] at h2
    split at h2 <;> cases h2
  have ha:vs[i]? = some v:=by
   unfold start at h2
   rw [List.getElem?_append_left (by simpa using hi),List.getElem?_map] at h2
   cases e:vs[i]? with
   | none=>rw [e] at h2; cases h2
   | some a=>rw [e] at h2; cases h2; rfl
  obtain ⟨u,hu,rv⟩:=r.get ha
  have hp:ps[i]? = some y:=by
   rw [<- S.pre,List.getElem?_take_of_lt (by omega)]; exact h1
  have g:ps.Nodup:=by rw [<- S.pre]; exact S.nd.sublist (kh _ _)
  refine ⟨u,rv,?_⟩
  rcases S.par y (i4 hp) with k | k
  ·exact .inl ⟨k,zng g hp hu k⟩
  ·obtain ⟨c,e⟩:=zqq (n:=s.heap.objs.size+1) k
   refine .inr ⟨.inl k,c,e,?_⟩
   have q:=x.cell y c e
   rw [zn0 g hp hu (by show scope.names.lookup y≠_; rw [k]; decide)] at q
   exact q
 ·have z:=e0.hok.fresh (ie (x.above y c (PySem.mem_of_lookup h)))
  exact ⟨fun _=>z,.inl z⟩
 ·unfold start
  show _=N.length
  rw [gl,gf,List.length_replicate]
  omega
theorem z1g {CX:CXT}{P:Program}{w:World}{K:W.Frag}{mg:Str->Option Value}{base:Heap}{k:Nat}{f:Addr}{name qual:Str}{params:Arguments}{body:List Stmt}{scope:Scope}{dV kV doc pm cdv ct oc:Value}{an od:Option Addr}
  {osl:Array (Option Value)}{N ps:List Str}{sp:Sp}(lk:K.lookup f=some ⟨oc,od,.func (PySem.W.fnOf name qual params body scope dV kV doc pm an cdv ct),osl⟩)(hcd:PySem.W.codeIn K cdv qual=true)(S:zam N ps scope)
  (len:∀ vs H Q E,sp vs H Q E->vs.length=ps.length)
  (hbody:∀ (A:Around) (outer:List Env) (s:Shared) (H:Hp) (vs:List V) (Q:VK) (E:XK),zej k (A.deeper (envOfC qual scope s.heap.objs.size f cdv))->sp vs H Q E ->
   ∃ t,PSs (zq1 CX P w K mg base N qual scope f cdv A outer s H E) body t/\t { nx:=fun _ H'=>Q .non H',rt:=Q } (start N vs) H) :
  zdm P w K mg base CX (k+1) f (PySem.W.fnOf name qual params body scope dV kV doc pm an cdv ct) ps sp:=by
 refine ⟨len,fun A outer s H args us vs Q E hr e0 hb r d=>?_⟩
 have hl:=len _ _ _ _ d
 have KX:K.In s.heap:=e0.mod.kin.keeps fun b o e=>(e0.bs b o e).1
 have g:s.heap.NoLimit:=e0.mod.nolimit.keeps fun b o e=>(e0.bs b o e).1
 have a:∀ y∈ps.zip us,scope.names.lookup y.1=some .local\/(scope.names.lookup y.1=some .cell/\((cellsFrom (s.heap.objs.size+1) scope.names []).lookup y.1).isSome=true):=fun ⟨n,v⟩ hy=>by
  rcases S.par n (ki hy).1 with q | q
  ·exact .inl q
  ·exact .inr ⟨q,kj _ _ _ (.inl q)⟩
 refine codeAny_call_function hr.depth (KX _ _ lk) rfl S.co S.gen rfl (n9 KX hcd) (hb _ _ _ _ ?_)
 refine wpAny_newFunctionEnv_cells S.kind a fun env he s1 x=>?_
 subst he
 refine ⟨g.keeps x.toInCall.keep,codeAny_func ?_⟩
 obtain ⟨t,ht,hq⟩:=hbody A outer s H vs Q E (hr.deeper _) d
 have I:Inv (zq1 CX P w K mg base N qual scope f cdv A outer s H E) [] (start N vs) H s1:=zof S hr.hd e0 hl r x
 refine wpAny_mono (ht [] s1 (start N vs) H _ I hq) (fun fl s' hs=>?_) fun e s' hs=>hs
 have c:∀ {σ':St} {H':Hp} {v:V} {u:Value},Inv (zq1 CX P w K mg base N qual scope f cdv A outer s H E) [] σ' H' s'->zbs v u->Q v H'->CE outer P w H s Q u s' :=
  fun {σ' H' v u} J rv q=>⟨v,H',J.os,J.bare,J.base,J.hok,rv,q⟩
 cases fl with
 | ret u =>
  obtain ⟨v,σ',H',J,rv,q⟩:=hs
  exact c J rv q
 | next =>
  obtain ⟨σ',H',J,q⟩:=hs
  exact c (v:=V.non) (u:=Value.none) J rfl q
 | brk =>
  obtain ⟨_,_,_,q⟩:=hs
  exact False.elim q
 | cont =>
  obtain ⟨_,_,_,q⟩:=hs
  exact False.elim q
section
variable {X:Cx} {x:Str} {p pos:Pos} {e:Expr} {es:List Expr} {t:TA} {id T:String} {r:List V->Hp->VK->Prop}
def tCB (r:List V->Hp->VK->Prop)(t:TA):TE:=fun σ H Q=>t σ H fun vs H1=>r vs H1 Q
theorem zbf (hc:zit X (.builtin id) r)(hg:Gl X x)(hm:X.mg x=none)(hv:bootBuiltins x=some (.builtin id))(ha:PA X (e :: es) t)(hn:x≠ "__name__" :=by decide)(hdb:(x == ("__debug__" : Str))=false:=by decide)
  (he:starEach (e :: es) X.env=(false,eval e X.env) :: starEach es X.env:=by rfl)(hpl:(backTo pos (starEach es X.env)).any (·.1)=false:=by rfl):PE X (.Call (.Name x p) (e :: es) [] pos) (tCB r t):=by
 intro pins s σ H Q I h
 refine wpAny_Call_Name_kw (zjf I hg hm hv ?_ hn hdb)
 exact PyProof.Rows.callWith_builtin1 (thn (ha pos pins s σ H _ I h) fun us s1 ⟨vs,H1,I1,r1,q1⟩=>hc pins s1 σ H1 vs us Q I1 r1 q1) he hpl
theorem zfj (hc:zit X (.type T) r)(hg:Gl X x)(hm:X.mg x=none)(hv:bootBuiltins x=some (.type T))(ha:PA X (e :: es) t)(hn:x≠ "__name__" :=by decide)(hdb:(x == ("__debug__" : Str))=false:=by decide)
  (he:starEach (e :: es) X.env=(false,eval e X.env) :: starEach es X.env:=by rfl)(hpl:(backTo pos (starEach es X.env)).any (·.1)=false:=by rfl):PE X (.Call (.Name x p) (e :: es) [] pos) (tCB r t):=by
 intro pins s σ H Q I h
 refine wpAny_Call_Name_kw (zjf I hg hm hv ?_ hn hdb)
 exact PyProof.Rows.callWith_type1 (thn (ha pos pins s σ H _ I h) fun us s1 ⟨vs,H1,I1,r1,q1⟩=>hc pins s1 σ H1 vs us Q I1 r1 q1) he hpl
end
end L2
namespace HT
open PySem PyProof.Rows
section
def sIx (n d:Nat):Option Int->Nat
 | none=>d
 | some v=>if v<0 then (v+(n:Int)).toNat else min v.toNat n
theorem sIx_none (n d:Nat):sIx n d none=d:=rfl
theorem sIx_nat (n d k:Nat):sIx n d (some (k:Int))=min k n:=by
 show (if (k:Int)<0 then ((k:Int)+(n:Int)).toNat else min (k:Int).toNat n)=min k n
 rw [if_neg (by omega),ji]
end
end HT
namespace L2
open PySem PySem.Spec PyProof.Rows
abbrev TO:=St->Hp->(Option Int->Hp->Prop)->Prop
def PO (X:Cx)(e:Option Expr)(t:TO):Prop :=
 ∀ (pins:List (Addr × Obj)) (s:Shared) (σ:St) (H:Hp) (Q:Option Int->Hp->Prop),Inv X pins σ H s->t σ H Q ->
  wpAny (model X.prog X.w) X.A (evalPart e X.env) (fun u s'=>∃ o H',Inv X pins σ H' s'/\IsPart u o/\Q o H') X.xe s
def zzx:TO:=fun _ H Q=>Q none H
def z23 (t:TE):TO:=fun σ H Q=>t σ H fun x H1=>∃ i,x = .int i/\Q (some i) H1
theorem zhi {ns:List Int}:∀ {us:List Value},zb3 (ns.map V.int) us->IntsAre us ns:=by
 induction ns with
 | nil=>intro us r; rw [mx] at r; cases r; exact .nil
 | cons n ns ih =>
  intro us r
  rw [ig] at r
  cases r with
  | cons r1 r2 =>
   obtain ⟨t,e⟩:=r1
   subst e
   exact .cons n t (ih r2)
section
variable {X:Cx} {e:Expr} {te:TE} {lo hi:Option Expr} {tl th:TO} {pos p2:Pos}
theorem zgl:PO X none zzx:=by
 intro pins s σ H Q I h
 rw [evalPart_none]
 exact wpAny_pure ⟨none,H,I,.none,h⟩
theorem zdx (h:PE X e te):PO X (some e) (z23 te):=by
 intro pins s σ H Q I hw
 rw [evalPart_some]
 refine thn (h pins s σ H _ I hw) fun u s1 ⟨x,H1,I1,r1,q1⟩=>?_
 obtain ⟨i,rfl,q⟩:=q1
 obtain ⟨t,rfl⟩:=r1
 exact ⟨some i,H1,I1,.int i t,q⟩
def SlR (X:Cx)(r:V->Option Int->Option Int->Hp->VK->Prop):Prop :=
 ∀ (pins:List (Addr × Obj)) (s:Shared) (σ:St) (H:Hp) (x:V) (v vl vu:Value) (lo hi:Option Int) (sl:Addr) (Q:VK),Inv X pins σ H s->zbs x v->s.heap.IsSliceOf sl vl vu .none->IsPart vl lo->IsPart vu hi->r x lo hi H Q ->
  ∃ T id,typeLookup (.type T) "__getitem__" = pure (some (.builtin id))/\s.TypeIs v T/\wpAny (model X.prog X.w) X.A (getItem v (.ref sl)) (EP X pins σ Q) X.xe s
def tSl (r:V->Option Int->Option Int->Hp->VK->Prop)(te:TE)(tl th:TO):TE:=fun σ H Q=>te σ H fun x H1=>tl σ H1 fun l H2=>th σ H2 fun u H3=>r x l u H3 Q
theorem zdo {r:V->Option Int->Option Int->Hp->VK->Prop}(hr:SlR X r)(he:PE X e te)(hl:PO X lo tl)(hu:PO X hi th):PE X (.Subscript e (.Slice lo hi none p2) pos) (tSl r te tl th):=by
 intro pins s σ H Q I h
 refine Subscript_ (thn (he pins s σ H _ I h) fun v s1 ⟨x,H1,I1,r1,q1⟩=>?_)
 refine wpAny_Slice (thn (hl pins s1 σ H1 _ I1 q1) fun vl s2 ⟨l,H2,I2,pl,q2⟩=>thn (hu pins s2 σ H2 _ I2 q2) fun vu s3 ⟨u,H3,I3,pu,q3⟩=>?_)
 rw [evalPart_none]
 refine wpAny_pure ?_
 have I4:Inv X pins σ H3 { s3 with heap:=s3.heap.push { cls:= .type "slice",data:= .fields #[vl,vu,.none] } }:=I3.kept (t':=s3.toks) fun b ob q=>Heap.get?_push_of_some _ q
 obtain ⟨T,id,hT,ht,hg⟩:=hr pins { s3 with heap:=s3.heap.push { cls:= .type "slice",data:= .fields #[vl,vu,.none] } } σ H3 x v vl vu l u s3.heap.objs.size Q I4 r1 (Heap.IsSliceOf.new ..) pl pu q3
 show wpAny (model X.prog X.w) X.A (subscriptTail e (.Slice lo hi none p2) v (.ref s3.heap.objs.size)) (EP X pins σ Q) X.xe { s3 with heap:=s3.heap.push { cls:= .type "slice",data:= .fields #[vl,vu,.none] } }
 exact tail_any (ops:=[.ref s3.heap.objs.size,v]) ht hT hg (by with_unfolding_all rfl)
def zm2 (xs:List V)(lo hi:Option Int):List V:=(xs.drop (HT.sIx xs.length 0 lo)).take (HT.sIx xs.length xs.length hi - HT.sIx xs.length 0 lo)
theorem zo_ (xs:List V)(lo hi:Option Int):(zm2 xs lo hi).length<=xs.length:=by
 unfold zm2
 rw [i5,l6]
 omega
end
def ixN (n:Nat)(i:Int):Option Nat:=if 0<=i then (if i<n then some i.toNat else none) else if -(n:Int)<=i then some (i+n).toNat else none
def atI {α:Type}(xs:List α)(i:Int):Option α:=(ixN xs.length i).bind fun j=>xs[j]?
theorem zx5 {n:Nat}{i:Int}{j:Nat}(h:ixN n i=some j):seqIndex? i n=some j/\j<n/\ -(n:Int)<=i/\i<n:=by
 unfold ixN at h
 by_cases h0:0<=i
 ·rw [if_pos h0] at h
  by_cases h1:i<n
  ·rw [if_pos h1] at h
   have e:i.toNat=j:=Option.some.inj h
   exact ⟨by rw [seqIndex_of h0 h1,e],by omega,by omega,h1⟩
  ·rw [if_neg h1] at h; cases h
 ·rw [if_neg h0] at h
  by_cases h1 : -(n:Int)<=i
  ·rw [if_pos h1] at h
   have e:(i+n).toNat=j:=Option.some.inj h
   exact ⟨by rw [seqIndex_neg (by omega) h1,e],by omega,h1,by omega⟩
  ·rw [if_neg h1] at h; cases h
theorem zt4 {α:Type}{xs:List α}{i:Int}{v:α}(h:atI xs i=some v):∃ j,seqIndex? i xs.length=some j/\xs[j]? = some v/\j<xs.length/\ -(xs.length:Int)<=i/\i<xs.length:=by
 unfold atI at h
 cases e:ixN xs.length i with
 | none=>rw [e] at h; cases h
 | some j =>
  rw [e] at h
  obtain ⟨h1,h2,h3,h4⟩:=zx5 e
  exact ⟨j,h1,h,h2,h3,h4⟩
theorem zml {α:Type}{xs:List α}{j:Nat}{v:α}(h:xs[j]? = some v):atI xs (j:Int)=some v:=by
 have hj:j<xs.length:=(List.getElem?_eq_some_iff.mp h).1
 have e:ixN xs.length (j:Int)=some j:=by
  unfold ixN
  rw [if_pos (by omega),if_pos (by omega)]; simp
 unfold atI; rw [e]; exact h
def zz1 (b:Expr):Prop:=∀ o i,subscripted b false o i=operate [o,i] (getItem o i)
def IxR (X:Cx)(r:R2):Prop :=
 ∀ (value slice:Expr) (pins:List (Addr × Obj)) (s:Shared) (σ:St) (H:Hp) (x y:V) (v u:Value) (Q:VK),Inv X pins σ H s->zbs x v->zbs y u->r x y H Q ->
  subscripted slice false v u=operate [v,u] (getItem v u)->wpAny (model X.prog X.w) X.A (subscriptTail value slice v u) (EP X pins σ Q) X.xe s
def MtR (X:Cx)(id:String)(r:V->List V->Hp->VK->Prop):Prop :=
 ∀ (pins:List (Addr × Obj)) (s:Shared) (σ:St) (H:Hp) (x:V) (xs:List V) (v:Value) (us:List Value) (Q:VK),Inv X pins σ H s->zbs x v->zb3 xs us->r x xs H Q ->
  wpAny (model X.prog X.w) X.A (call (.builtin id) (v :: us)) (EP X pins σ Q) X.xe s
section
variable {X:Cx} {a b:Expr} {ta tb:TE} {pos:Pos}
theorem zey {r:R2}(hr:IxR X r)(ha:PE X a ta)(hb:PE X b tb)(hs:zz1 b):PE X (.Subscript a b pos) (tOp r ta tb):=by
 intro pins s σ H Q I h
 exact Subscript_ (z3s ha hb I h fun v u s2 x y H2 I2 rx ry q=>hr a b pins s2 σ H2 x y v u Q I2 rx ry q (hs _ _))
def z4l (K:W.Frag):R2:=fun x y H Q=>∃ p xs i v,x = .ref p/\y = .int i/\SqL K H p xs/\atI xs i=some v/\Q v H
def z4c (K:W.Frag):R2:=fun x y H Q=>∃ p xs i v,x = .ref p/\y = .int i/\SqT K H p xs/\atI xs i=some v/\Q v H
theorem zei:IxR X (z4l X.K):=by
 intro value b pins s σ H x y v u Q I rx ry h hs
 obtain ⟨p,xs,i,z,rfl,rfl,hq,he,q⟩:=h
 cases rx
 obtain ⟨t,rfl⟩:=ry
 obtain ⟨its,r,pl,hz⟩:=I.list hq
 obtain ⟨j,h1,h2,h3,h4,h5⟩:=zt4 he
 obtain ⟨w,ew,c⟩:=r.get h2
 have hl:=r.length
 have hn:=zs7
 have a:EP X pins σ Q w s:=⟨z,H,I,c,q⟩
 by_cases h0:0<=i
 ·have hj:i.toNat=j:=by
   rw [seqIndex_of h0 h5] at h1
   exact Option.some.inj h1
  exact item_listR pl.isList h0 (by omega) (by rw [hj]; simpa using ew) a hs
 ·have hj:(i+(its.toArray.size:Int)).toNat=j:=by
   rw [seqIndex_neg (by omega) h4] at h1
   rw [gu,<- hl]
   exact Option.some.inj h1
  exact subscriptTail_builtinR (x:=w) pl.isList.typeIs slot_list_getitem.lookup
   (wpAny_getItem_list_neg (Q:=fun r s'=>r=w/\EP X pins σ Q r s') pl.isList (by omega) (by rw [gu] <;> omega) (by omega) (by rw [hj]; simpa using ew) ⟨rfl,a⟩) hs
theorem zj5:IxR X (z4c X.K):=by
 intro value b pins s σ H x y v u Q I rx ry h hs
 obtain ⟨p,xs,i,z,rfl,rfl,hq,he,q⟩:=h
 cases rx
 obtain ⟨t,rfl⟩:=ry
 obtain ⟨its,r,pl,hz⟩:=I.tuple hq
 obtain ⟨j,h1,h2,h3,h4,h5⟩:=zt4 he
 obtain ⟨w,ew,c⟩:=r.get h2
 have hl:=r.length
 have hn:=zs7
 have a:EP X pins σ Q w s:=⟨z,H,I,c,q⟩
 exact subscriptTail_builtinR (x:=w) pl.typeIs slot_tuple_getitem.lookup
  (getItem_tuple (j:=j) (Q:=fun r s'=>r=w/\EP X pins σ Q r s') pl (by omega) (by omega) (by rw [gu,<- hl]; exact h1) (by simpa using ew) ⟨rfl,a⟩) hs
theorem zon (lo hi:Option Int)(n:Nat):(sliceBounds lo hi none n).1=((HT.sIx n 0 lo:Nat):Int)/\(sliceBounds lo hi none n).2.1=((HT.sIx n n hi:Nat):Int)/\(sliceBounds lo hi none n).2.2=1:=by
 refine ⟨?_,?_,rfl⟩
 ·cases lo with
  | none=>simp [sliceBounds,HT.sIx]
  | some i =>
   simp only [sliceBounds,HT.sIx,nv,show (1:Int) > 0 by decide,if_true]
   by_cases h:i<0
   ·simp only [h,if_true] <;> omega
   ·simp only [h,if_false] <;> omega
 ·cases hi with
  | none=>simp [sliceBounds,HT.sIx]
  | some i =>
   simp only [sliceBounds,HT.sIx,nv,show (1:Int) > 0 by decide,if_true]
   by_cases h:i<0
   ·simp only [h,if_true] <;> omega
   ·simp only [h,if_false] <;> omega
theorem zm1 (its:List Value)(lo hi:Option Int):slicePick its.toArray lo hi none=((its.drop (HT.sIx its.length 0 lo)).take (HT.sIx its.length its.length hi - HT.sIx its.length 0 lo)).toArray:=by
 obtain ⟨h1,h2,h3⟩:=zon lo hi its.toArray.size
 unfold slicePick
 rw [h1,h2,h3]
 simp only [sliceRange_one,pick_run,gu] <;> rfl
def z43 (K:W.Frag):V->Option Int->Option Int->Hp->VK->Prop:=fun x lo hi H Q=>∃ a xs,x = .ref a/\SqL K H a xs/\∀ p,H p=none->Q (.ref p) (upd H p (.lst (zm2 xs lo hi)))
theorem zev:SlR X (z43 X.K):=by
 intro pins s σ H x v vl vu lo hi sl Q I rx hs pl pu h
 obtain ⟨a,xs,rfl,hx,q⟩:=h
 cases rx
 obtain ⟨its,r,ht,hz⟩:=I.list hx
 have c:=r.length
 refine ⟨"list",_,slot_list_getitem.lookup,ht.isList.typeIs,?_⟩
 refine wpAny_getItem_list_slice ht.isList hs pl pu .none (by simp) ?_ (by rw [gu] <;> omega)
 rw [zm1,<- c]
 refine ⟨.ref s.heap.objs.size,_,I.laid (t':=s.toks) (o:= .lst (zm2 xs lo hi)) (fun b ob q=>Heap.get?_push_of_some _ q) (gv _) ?_,rfl,q _ (I.hok.fresh (gv _))⟩
 exact ⟨gy (zo_ xs lo hi) hz,_,0,(r.drop (HT.sIx xs.length 0 lo)).take (HT.sIx xs.length xs.length hi - HT.sIx xs.length 0 lo),Heap.get?_push_size _ rfl⟩
def zms:V->Bool
 | .non=>true
 | .bl _=>true
 | .int _=>true
 | .str _=>true
 | _=>false
def eqV:V->V->Bool
 | .non,.non=>true
 | .bl a,.bl b=>a == b
 | .bl a,.int b=>(if a then 1 else 0) == b
 | .int a,.bl b=>a == (if b then 1 else 0)
 | .int a,.int b=>a == b
 | .str a,.str b=>a == b
 | _,_=>false
theorem z0l {A:Around}{s:Shared}{y x:V}{u v:Value}(ry:zbs y u)(rx:zbs x v)(fy:zms y=true)(fx:zms x=true):SeqAt.EqAt A s u v (eqV y x):=by
 cases y with
 | non =>
  cases ry
  cases x with
  | non=>cases rx; exact SeqAt.EqAt.same _
  | bl b=>cases rx; exact SeqAt.EqAt.none_bool b
  | int b=>obtain ⟨t,rfl⟩:=rx; exact SeqAt.EqAt.none_int b t
  | str b=>obtain ⟨t,rfl⟩:=rx; exact SeqAt.EqAt.none_str b t
  | _=>exact fT fx
 | bl a =>
  cases ry
  cases x with
  | non=>cases rx; exact SeqAt.EqAt.bool_none a
  | bl b=>cases rx; exact SeqAt.EqAt.bool_bool a b
  | int b=>obtain ⟨t,rfl⟩:=rx; exact SeqAt.EqAt.bool_int a b t
  | str b=>obtain ⟨t,rfl⟩:=rx; exact SeqAt.EqAt.bool_str a b t
  | _=>exact fT fx
 | int a =>
  obtain ⟨t',rfl⟩:=ry
  cases x with
  | non=>cases rx; exact SeqAt.EqAt.int_none a t'
  | bl b=>cases rx; exact SeqAt.EqAt.int_bool a t' b
  | int b=>obtain ⟨t,rfl⟩:=rx; exact SeqAt.EqAt.int_int a t' b t
  | str b=>obtain ⟨t,rfl⟩:=rx; exact SeqAt.EqAt.int_str a t' b t
  | _=>exact fT fx
 | str a =>
  obtain ⟨t',rfl⟩:=ry
  cases x with
  | non=>cases rx; exact SeqAt.EqAt.str_none a t'
  | bl b=>cases rx; exact SeqAt.EqAt.str_bool a t' b
  | int b=>obtain ⟨t,rfl⟩:=rx; exact SeqAt.EqAt.str_int a t' b t
  | str b=>obtain ⟨t,rfl⟩:=rx; exact SeqAt.EqAt.str_str a t' b t
  | _=>exact fT fx
 | _=>exact fT fy
def eqU (x:V)(u:Value):Bool:=match u with
 | .none=>eqV .non x
 | .bool b=>eqV (.bl b) x
 | .int i _=>eqV (.int i) x
 | .str z _=>eqV (.str z) x
 | _=>false
theorem zxg {x y:V}{u:Value}(r:zbs y u)(f:zms y=true):eqU x u=eqV y x:=by
 cases y with
 | non=>cases r; rfl
 | bl b=>cases r; rfl
 | int i=>obtain ⟨t,rfl⟩:=r; rfl
 | str z=>obtain ⟨t,rfl⟩:=r; rfl
 | _=>exact fT f
theorem zjw {x:V}:∀ {xs:List V} {us:List Value},zb3 xs us->xs.all zms=true->us.any (eqU x)=xs.any fun y=>eqV y x
 | _,_,.nil,_=>rfl
 | y :: xs,u :: us,.cons r t,f=>by
  rw [n5,j4] at f
  rw [lg,lg,zxg r f.1,zjw t f.2]
theorem zg2 {A:Around}{s:Shared}{x:V}{v:Value}(rx:zbs x v)(fx:zms x=true):∀ {xs:List V} {us:List Value},zb3 xs us->xs.all zms=true->∀ u∈us,SeqAt.EqAt A s u v (eqU x u)
 | _,_,.nil,_=>fun u hu=>by cases hu
 | y :: xs,u :: us,.cons r t,f=>fun u' hu=>by
  rw [n5,j4] at f
  rcases gx.mp hu with rfl | hu
  ·rw [zxg r f.1]; exact z0l r rx f.1 fx
  ·exact zg2 rx fx t f.2 u' hu
def inV (x:V)(xs:List V):Bool:=xs.any fun y=>eqV y x
def rIn (K:W.Frag)(neg:Bool):R2:=fun x y H Q=>∃ p xs,y = .ref p/\(SqL K H p xs\/SqT K H p xs)/\zms x=true/\xs.all zms=true/\Q (.bl (if neg then !inV x xs else inV x xs)) H
theorem znr:OpR X (compareOp .In) (rIn X.K false):=by
 intro pins s σ H x y v u Q I rx ry h
 obtain ⟨p,xs,rfl,hq,fx,fs,q⟩:=h
 cases ry
 rcases hq with hq | hq
 ·obtain ⟨its,r,pl,hz⟩:=I.list hq
  refine SeqAt.in_listAt (eqU x) pl.isList (fun w hw=>zg2 rx fx r fs w (by simpa using hw)) ⟨.bl _,H,I,rfl,?_⟩
  rw [show its.toArray.any (eqU x)=its.any (eqU x) by simp,zjw r fs]
  exact q
 ·obtain ⟨its,r,pl,hz⟩:=I.tuple hq
  refine SeqAt.in_tupleAt (eqU x) pl (fun w hw=>zg2 rx fx r fs w (by simpa using hw)) ⟨.bl _,H,I,rfl,?_⟩
  rw [show its.toArray.any (eqU x)=its.any (eqU x) by simp,zjw r fs]
  exact q
theorem zfn:OpR X (compareOp .NotIn) (rIn X.K true):=by
 intro pins s σ H x y v u Q I rx ry h
 obtain ⟨p,xs,rfl,hq,fx,fs,q⟩:=h
 cases ry
 rcases hq with hq | hq
 ·obtain ⟨its,r,pl,hz⟩:=I.list hq
  refine SeqAt.notIn_listAt (eqU x) pl.isList (fun w hw=>zg2 rx fx r fs w (by simpa using hw)) ⟨.bl _,H,I,rfl,?_⟩
  rw [show its.toArray.any (eqU x)=its.any (eqU x) by simp,zjw r fs]
  exact q
 ·obtain ⟨its,r,pl,hz⟩:=I.tuple hq
  refine SeqAt.notIn_tupleAt (eqU x) pl (fun w hw=>zg2 rx fx r fs w (by simpa using hw)) ⟨.bl _,H,I,rfl,?_⟩
  rw [show its.toArray.any (eqU x)=its.any (eqU x) by simp,zjw r fs]
  exact q
theorem zbh:zit X (.builtin "len") (fun xs H Q=>∃ p ys,xs=[.ref p]/\(SqL X.K H p ys\/SqT X.K H p ys)/\Q (.int ys.length) H):=by
 intro pins s σ H xs us Q I r h
 obtain ⟨p,ys,rfl,hq,q⟩:=h
 obtain ⟨u,rfl,rx⟩:=zhm r
 cases rx
 have hn:=zs7
 rcases hq with hq | hq
 ·obtain ⟨its,r',pl,hz⟩:=I.list hq
  have a:=r'.length
  exact Calls.call_len_list pl.isList (by simp only [gu] <;> omega) ⟨.int ys.length,H,I.tok _,⟨s.toks+1,by rw [gu,a]⟩,q⟩
 ·obtain ⟨its,r',pl,hz⟩:=I.tuple hq
  have a:=r'.length
  exact len_tuple pl (by simp only [gu] <;> omega) ⟨.int ys.length,H,I.tok _,⟨s.toks+1,by rw [gu,a]⟩,q⟩
theorem zig:zit X (.type "list") (fun xs H Q=>∃ p ys,xs=[.ref p]/\(SqL X.K H p ys\/SqT X.K H p ys)/\∀ l,H l=none->Q (.ref l) (upd H l (.lst ys))):=by
 intro pins s σ H xs us Q I r h
 obtain ⟨p,ys,rfl,hq,q⟩:=h
 obtain ⟨u,rfl,rx⟩:=zhm r
 cases rx
 have c:∀ (its:List Value),zb3 ys its->ys.length<=sizeLine->∀ (h':Heap) (c':Nat),(∀ b o',s.heap.get? b=some o'->h'.get? b=some o') ->
   h'.get? s.heap.objs.size=some { cls:= .type "list",dict:=none,data:= .seq its.toArray c',slots:= #[] }->EP X pins σ Q (.ref s.heap.objs.size) { s with heap:=h' }:=fun its r' hz h' c' kp e =>
  ⟨.ref s.heap.objs.size,_,I.laid (t':=s.toks) kp (gv _) (show zcl X.prog X.w _ h' _ (.lst ys) from ⟨hz,its,c',r',e⟩),rfl,q _ (I.hok.fresh (gv _))⟩
 rcases hq with hq | hq
 ·obtain ⟨its,r',pl,hz⟩:=I.list hq
  have a:=r'.length
  obtain ⟨o,ho,hc,n,hd⟩:=pl.isList
  exact call_list_seq p (.inl rfl) ho hc hd (fun h' c' kp e=>c its r' hz h' c' kp e) (by simp only [gu] <;> omega)
 ·obtain ⟨its,r',pl,hz⟩:=I.tuple hq
  have a:=r'.length
  obtain ⟨o,ho,hc,n,hd⟩:=pl
  exact call_list_seq p (.inr rfl) ho hc hd (fun h' c' kp e=>c its r' hz h' c' kp e) (by simp only [gu] <;> omega)
def tyV (K:W.Frag)(T:String)(x:V)(H:Hp):Prop:=match x with
 | .str _=>T = "str"
 | .int _=>T = "int"
 | .ref p=>(T = "list" /\∃ xs,SqL K H p xs)\/(T = "tuple" /\∃ o,K.lookup p=some o/\o.cls = .type "tuple" /\o.dict=none) \/
   (T = "dict" /\((∃ kvs,H p=some (.dK kvs))\/∃ kvs,H p=some (.dT kvs)))\/(T = "set" /\∃ S n,H p=some (.set S n))
 | _=>False
theorem zxf {pins:List (Addr × Obj)}{σ:St}{H:Hp}{s:Shared}{T:String}{x:V}{v:Value}(I:Inv X pins σ H s)(r:zbs x v)(ty:tyV X.K T x H) :
  s.TypeIs v T/\∀ a,v = .ref a->∃ ob,s.heap.get? a=some ob/\ob.dict=none:=by
 cases x with
 | str z =>
  obtain ⟨t,rfl⟩:=r
  cases (show T = "str" from ty)
  exact ⟨typeIs_str s z t,fun _ e=>nomatch e⟩
 | int i =>
  obtain ⟨t,rfl⟩:=r
  cases (show T = "int" from ty)
  exact ⟨typeIs_int s i t,fun _ e=>nomatch e⟩
 | ref p =>
  cases r
  rcases ty with ⟨rfl,xs,hq⟩ | ⟨rfl,o,hk,hc,hd⟩ | ⟨rfl,hk⟩ | ⟨rfl,S,n,hk⟩
  ·obtain ⟨its,_,pl,_⟩:=I.list hq
   refine ⟨pl.isList.typeIs,fun a e=>?_⟩
   cases e
   obtain ⟨o,n,e,c,hd,_⟩:=pl
   exact ⟨o,e,hd⟩
  ·refine ⟨⟨o,I.kIn p o hk,hc⟩,fun a e=>?_⟩
   cases e
   exact ⟨o,I.kIn _ o hk,hd⟩
  ·have z:∃ o,s.heap.get? p=some o/\o.ExactDict:=by
    rcases hk with ⟨kvs,hk⟩ | ⟨kvs,hk⟩
    ·obtain ⟨_,_,_,_,o,_,_,e,ex,_⟩:=I.hok p _ hk
     exact ⟨o,e,ex⟩
    ·obtain ⟨_,_,_,_,o,_,_,e,ex,_⟩:=I.hok p _ hk
     exact ⟨o,e,ex⟩
   obtain ⟨o,e,ex⟩:=z
   refine ⟨⟨o,e,ex.1⟩,fun a e2=>?_⟩
   cases e2
   exact ⟨o,e,ex.2.1⟩
  ·obtain ⟨o,_,_,_,e,ex,_⟩:=I.hok p _ hk
   refine ⟨⟨o,e,ex.1⟩,fun a e2=>?_⟩
   cases e2
   exact ⟨o,e,ex.2.1⟩
 | _=>exact False.elim ty
def z3z (K:W.Frag)(T:String)(r:V->List V->Hp->VK->Prop)(to:TE):TE:=fun σ H Q=>to σ H fun x H1=>tyV K T x H1/\r x [] H1 Q
def tBM (K:W.Frag)(T:String)(r:V->List V->Hp->VK->Prop)(to:TE)(t:TA):TE:=fun σ H Q=>to σ H fun x H1=>tyV K T x H1/\t σ H1 fun xs H2=>r x xs H2 Q
variable {o e:Expr} {es:List Expr} {to:TE} {t:TA} {name:Str} {apos cpos:Pos} {T id:String} {r:V->List V->Hp->VK->Prop}
theorem zxu (pa:PlainAttrs T)(slot:Slot T name id)(hty:typeOf (.builtin id)=pure (.type "method_descriptor"))(hm:MtR X id r)(ho:PE X o to)
  (hbase:attributeBase o name X.env (eval o X.env)=eval o X.env:=by rfl)(hline:(apos.endLine == cpos.line)=true:=by rfl):PE X (.Call (.Attribute o name apos) [] [] cpos) (z3z X.K T r to):=by
 intro pins s σ H Q I h
 refine wpAny_Call_method0_late hbase hline (thn (ho pins s σ H _ I h) fun v s1 ⟨x,H1,I1,r1,ty,q1⟩=>?_)
 obtain ⟨h1,h2⟩:=zxf I1 r1 ty
 exact ⟨T,id,pa,slot,hty,h1,h2,Calls.callWith_builtin rfl (PySem.evalArgs_none (hm pins s1 σ H1 x [] v [] Q I1 r1 .nil q1))⟩
theorem zn7 (pa:PlainAttrs T)(slot:Slot T name id)(hty:typeOf (.builtin id)=pure (.type "method_descriptor"))(hm:MtR X id r)(ho:PE X o to)(ha:PA X (e :: es) t)
  (hbase:attributeBase o name X.env (eval o X.env)=eval o X.env:=by rfl)
  (hfew:((backTo cpos (starEach (e :: es) X.env)).all (fun x=> !x.1) && (backToKw cpos (keywordEach [] X.env)).all (fun x=>x.1.isSome)
   && decide ((e :: es).length+([]:List Keyword).length+(if ([]:List Keyword).isEmpty then 0 else 1)<30))=true:=by rfl)
  (hline:(apos.endLine == cpos.line)=true:=by rfl)(hs:starEach (e :: es) X.env=(false,eval e X.env) :: starEach es X.env:=by rfl)(hplain:(backTo cpos (starEach es X.env)).any (·.1)=false:=by rfl) :
  PE X (.Call (.Attribute o name apos) (e :: es) [] cpos) (tBM X.K T r to t):=by
 intro pins s σ H Q I h
 refine wpAny_Call_method_late hbase hfew hline rfl (thn (ho pins s σ H _ I h) fun v s1 ⟨x,H1,I1,r1,ty,q1⟩=>?_)
 obtain ⟨h1,h2⟩:=zxf I1 r1 ty
 refine ⟨T,id,pa,slot,hty,h1,h2,?_⟩
 have hA:=ha cpos pins s1 σ H1 _ I1 q1
 rw [hs] at hA |-
 refine Calls.callWith_builtin (by show (false || (backTo cpos (starEach es X.env)).any (·.1))=false; rw [hplain] <;> rfl) (Calls.evalArgs_plain ?_)
 exact thn hA fun us s2 ⟨vs,H2,I2,r2,q2⟩=>hm pins s2 σ H2 x vs v us Q I2 r1 r2 q2
end
def MtM (X:Cx)(id:String)(r:V->List V->Hp->VK->Prop):Prop :=
 ∀ (pins:List (Addr × Obj)) (s:Shared) (σ:St) (H:Hp) (x:V) (xs:List V) (v:Value) (us:List Value) (Q:VK),Inv X pins σ H s->zbs x v->zb3 xs us->r x xs H Q ->
  wpAny (model X.prog X.w) X.A (call (.builtin id) (v :: us)) (EP X pins σ Q) X.xe s
theorem zb3.one:∀ {x:V} {us:List Value},zb3 [x] us->∃ u,us=[u]/\zbs x u
 | _,_,.cons r .nil=>⟨_,rfl,r⟩
theorem zb3.zero:∀ {us:List Value},zb3 [] us->us=[]
 | _,.nil=>rfl
theorem zb3.dropLast {xs:List V}{us:List Value}(h:zb3 xs us):zb3 xs.dropLast us.dropLast:=by
 induction h with
 | nil=>exact .nil
 | cons r t ih =>
  cases t with
  | nil=>exact .nil
  | cons q t'=>exact .cons r ih
theorem zb3.eraseIdx:∀ {xs:List V} {us:List Value} (i:Nat),zb3 xs us->zb3 (xs.eraseIdx i) (us.eraseIdx i)
 | _,_,_,.nil=> .nil
 | _,_,0,.cons _ t=>t
 | _,_,i+1,.cons r t=> .cons r (zb3.eraseIdx i t)
theorem zq8 {α:Type}(l:List α):l.eraseIdx (l.length - 1)=l.dropLast:=by
 induction l with
 | nil=>rfl
 | cons a r ih =>
  cases r with
  | nil=>rfl
  | cons b r =>
   have e:(a :: b :: r).length - 1=((b :: r).length - 1)+1:=by
    have h1:(a :: b :: r).length=r.length+2:=rfl
    have h2:(b :: r).length=r.length+1:=rfl
    omega
   rw [e,List.eraseIdx_cons_succ,ih]
   all_goals rfl
section
variable {X:Cx} {pins:List (Addr × Obj)} {σ:St} {H:Hp} {s:Shared} {l:Addr} {xs ys:List V}
theorem Inv.lset {its its':List Value}{n:Nat}{f:Array Value->Array Value}{t':Nat}(I:Inv X pins σ H s)(hH:H l=some (.lst xs))
  (e:s.heap.get? l=some { cls:= .type "list",data:= .seq its.toArray n })(hf:f its.toArray=its'.toArray)(hv:zb3 ys its')(hz:ys.length<=sizeLine) :
  Inv X pins σ (upd H l (.lst ys)) { s with heap:=s.heap.update l (Obj.mapSeq f),toks:=t' }:=by
 have q:=PySem.IsL.update e f
 rw [hf] at q
 refine I.write (x:=l) (e:=l) (by rw [hH]; exact trivial) (.inl rfl) (fun b' u hb hu=>(Heap.get?_update_other s.heap (Obj.mapSeq f) (Ne.symm hb)).trans hu) ⟨_,q⟩ ?_
 exact ⟨hz,its',_,hv,q⟩
theorem Inv.lnew {its:List Value}{t':Nat}(I:Inv X pins σ H s)(hv:zb3 ys its)(hz:ys.length<=sizeLine) :
  Inv X pins σ (upd H s.heap.objs.size (.lst ys)) { s with heap:=s.heap.push { cls:= .type "list",data:= .seq its.toArray },toks:=t' } :=
 I.laid (fun _ _ q=>Heap.get?_push_of_some _ q) (gv _) ⟨hz,its,0,hv,Heap.get?_push_size _ rfl⟩
theorem Inv.fresh (I:Inv X pins σ H s):H s.heap.objs.size=none:=I.hok.fresh (gv _)
theorem Inv.lstM (I:Inv X pins σ H s)(hH:H l=some (.lst xs)):xs.length<=sizeLine/\∃ (its:List Value) (n:Nat),zb3 xs its/\xs.length=its.length/\s.heap.get? l=some { cls:= .type "list",data:= .seq its.toArray n }:=by
 obtain ⟨z,its,n,r,e⟩:=I.hok l _ hH
 exact ⟨z,its,n,r,r.length,e⟩
theorem zwh {n:Nat}(h:n<=sizeLine):Builtin.List.listTooLong n=false:=by
 unfold Builtin.List.listTooLong
 exact decide_eq_false (by omega)
end
section
variable {X:Cx}
def zz5:V->List V->Hp->VK->Prop:=fun x vs H Q=>∃ l xs y,x = .ref l/\vs=[y]/\H l=some (.lst xs)/\xs.length<sizeLine/\Q .non (upd H l (.lst (xs++[y])))
theorem zet:MtM X "list.append" zz5:=by
 intro pins s σ H x vs v us Q I rx rv h
 obtain ⟨l,xs,y,rfl,rfl,hH,hz,q⟩:=h
 cases rx
 obtain ⟨u,rfl,ru⟩:=rv.one
 obtain ⟨z,its,n,r,hl,e⟩:=I.lstM hH
 refine call_meets F.slot_list_append ⟨_,e,rfl⟩ F.entry_list_append (F.args_list_append_2 _ _) (PySem.list_append l its.toArray n u (by rw [gu]; omega)) ⟨e,?_⟩
 refine ⟨.non,_,I.lset (its':=its++[u]) hH e (by simp) (r.append (.cons ru .nil)) ?_,rfl,q⟩
 rw [gl,gq]
 omega
def zy1:V->List V->Hp->VK->Prop:=fun x vs H Q=>∃ l b xs zs,x = .ref l/\vs=[.ref b]/\H l=some (.lst xs)/\H b=some (.lst zs)/\xs.length+zs.length<=sizeLine/\Q .non (upd H l (.lst (xs++zs)))
theorem ztz:MtM X "list.extend" zy1:=by
 intro pins s σ H x vs v us Q I rx rv h
 obtain ⟨l,b,xs,zs,rfl,rfl,hH,hB,hz,q⟩:=h
 cases rx
 obtain ⟨u,rfl,ru⟩:=rv.one
 cases ru
 obtain ⟨z,its,n,r,hl,e⟩:=I.lstM hH
 obtain ⟨z2,a,n2,r2,d,e2⟩:=I.lstM hB
 have hsz:its.toArray.size+a.toArray.size<=sizeLine:=by rw [gu,gu]; omega
 have c:¬ (!its.toArray.isEmpty && Builtin.List.listTooLong (its.toArray.size+a.toArray.size))=true:=by
  rw [zwh hsz,Bool.and_false]
  exact Bool.false_ne_true
 refine call_meets F.slot_list_extend ⟨_,e,rfl⟩ F.entry_list_extend (F.args_list_extend_2 _ _)
  (AutoSeq1.list_extend_list_list_0 l its.toArray n b a.toArray n2 c (by rw [gu]; omega) (by omega)) ⟨e,e2,?_⟩
 refine ⟨.non,_,I.lset (its':=its++a) hH e (by simp) (r.append r2) ?_,rfl,q⟩
 rw [gl]
 omega
def z4p:V->List V->Hp->VK->Prop:=fun x vs H Q=>∃ l xs y,x = .ref l/\vs=[]/\H l=some (.lst xs)/\xs[xs.length - 1]? = some y/\Q y (upd H l (.lst xs.dropLast))
theorem z17:MtM X "list.pop" z4p:=by
 intro pins s σ H x vs v us Q I rx rv h
 obtain ⟨l,xs,y,rfl,rfl,hH,hy,q⟩:=h
 cases rx
 have a:=rv.zero
 subst a
 obtain ⟨z,its,n,r,hl,e⟩:=I.lstM hH
 obtain ⟨u,hu,ru⟩:=r.get hy
 have b:its.toArray[its.toArray.size - 1]? = some u:=by
  show its.toArray[its.length - 1]? = some u
  rw [<- Array.getElem?_toList,<- hl]
  exact hu
 refine call_meets F.slot_list_pop ⟨_,e,rfl⟩ F.entry_list_pop (F.args_list_pop_1 _) (MeetsSeq.list_pop_last l its.toArray n u b (by rw [gu]; omega)) ⟨e,?_⟩
 refine ⟨y,_,I.lset (its':=its.dropLast) hH e ?_ r.dropLast ?_,ru,q⟩
 ·show its.toArray.eraseIdxIfInBounds (its.toArray.size - 1)=its.dropLast.toArray
  rw [gu,List.eraseIdxIfInBounds_toArray,zq8]
 ·rw [List.length_dropLast]
  omega
def z45:R2:=fun x y H Q=>∃ l b xs zs,x = .ref l/\y = .ref b/\H l=some (.lst xs)/\H b=some (.lst zs)/\xs.length+zs.length<=sizeLine/\∀ p,H p=none->Q (.ref p) (upd H p (.lst (xs++zs)))
theorem zj0:OpR X (binaryOp .Add) z45:=by
 intro pins s σ H x y v u Q I rx ry h
 obtain ⟨l,b,xs,zs,rfl,rfl,hH,hB,hz,q⟩:=h
 cases rx
 cases ry
 obtain ⟨z,its,n,r,hl,e⟩:=I.lstM hH
 obtain ⟨z2,a,n2,r2,c,e2⟩:=I.lstM hB
 refine PySem.P.add_list e e2 ?_ (by rw [gu,gu]; omega)
 have ea:its.toArray++a.toArray=(its++a).toArray:=by simp
 rw [ea]
 exact ⟨.ref _,_,I.lnew (t':=s.toks) (r.append r2) (by rw [gl]; omega),rfl,q _ I.fresh⟩
end
section
set_option maxRecDepth 100000 in
end
end L2
namespace Att
open PySem PySem.W PySem.Calls PyProof.Rows
theorem zka {P:Params}{h:Heap}:∀ (ns:List Int) (vs:List Value),WellAll P h vs (ns.map WData.int)->IntsAre vs ns:=by
 intro ns
 induction ns with
 | nil =>
  intro vs w
  rw [mx] at w
  cases w
  exact .nil
 | cons n ns ih =>
  intro vs w
  rw [ig] at w
  cases w with
  | cons a b =>
   cases a
   exact .cons _ _ (ih _ b)
theorem zr2 {l:OpenLaw}{n:Nat}(hn:l.most=some n){P:Params}{h:Heap}{args:List WData}{vals:List Value}
  (hpre:l.row.toRowW.claim.pre args=true)(hwl:WellAll P h vals args) :
  ∃ a vs ns,vals=[Value.ref a]/\args=[WData.list (ns.map WData.int)]/\h.get? a=some { cls:= .type "list",data:= .seq vs.toArray }/\IntsAre vs ns/\ns.length<=n:=by
 have c:WShape.hasAll [] args [.list .int]=true:=(pre_splitW hpre).1
 have hc:l.pre.holds [] { args:=args }=true:=(pre_splitW hpre).2
 obtain ⟨d,r,rfl,h1,h2⟩:=hasAllW_cons c
 obtain rfl:=hasAllW_nil h2
 obtain ⟨xs,rfl,h3⟩:=hasW_list h1
 obtain ⟨ns,rfl⟩:=items_int h3
 have b:ns.length<=n:=by
  unfold OpenLaw.pre at hc
  have h4:(WTm.not (.lt (.lit (.int (n:Int))) (.len (.arg 0)))).holds [] { args:=[.list (ns.map .int)] }=true:=by
   have h4:=(holds_andW hc).1
   rw [hn] at h4
   exact h4
  have h5:=condW_of h4 (w_not (w_lt w_lit (w_len_list (w_arg rfl))))
  rw [gf] at h5
  refine Nat.le_of_not_lt fun q=>?_
  have q':(n:Int)<((ns.length:Nat):Int):=by omega
  first
   | (rw [decide_eq_true q'] at h5; exact absurd h5 (by decide))
   | (simp at h5; omega)
 cases hwl with
 | cons w1 w2 =>
  cases w2
  cases w1 with
  | list ho hall=>exact ⟨_,_,ns,rfl,rfl,ho,zka ns _ hall,b⟩
theorem zuj (l:OpenLaw)(args:List WData):l.row.toRowW.claim.post args (.bool true) args=true :=
 postW_of (r:=l.row.toRowW) (X:=(true == true))
  (show WShape.has [] (.bool true) .bool=true by first | rfl | decide | simp [WShape.has,WShape.arms,WShape.armsAll])
  (show (WTm.eq .res (.lit (.bool true))).value [] { args:=args,res:=some (.bool true),after:=args }=some (.bool (true == true)) from w_eq_bool (w_res rfl) w_lit) rfl
theorem attach_call {l:OpenLaw}{n:Nat}{q:Program}{loose:List Str}{XP:(Str->Option Value)->Heap->Prop}{YP:World->Heap->Prop}{d:DefRec}
  (hn:l.most=some n)(hdf:d.params.defaults=[])
  (call:∀ (w:World) (s₀ s₁:Shared) (mg mb:Str->Option Value) (fa:Addr) (o:Obj) (pm cd doc:Value) (a:Addr) (vs:List Value) (ns:List Int),
   Ground q loose [] XP w s₀ mg mb s₁.heap->YP w s₁.heap ->
   s₁.heap.get? fa=some o->o.data = .func (docDef d.name d.params d.body d.scope pm cd doc)->s₁.heap.CodeRec cd d.name->mg d.name=some (.ref fa) ->
   s₁.heap.get? a=some { cls:= .type "list",data:= .seq vs.toArray }->IntsAre vs ns->ns.length<=n->s₁.gens = #[] ->
   codeAny (model l.prog w) callerA (.call (.ref fa) ⟨[.ref a],[]⟩) (fun r s'=>r = .ok (.ret (.bool true))/\OldK s₁.heap s'.heap/\s'.os=s₁.os/\AllBare s'.gens) s₁) :
  WalkO q loose XP YP l.row.toRowW d [] (fun f vs=>PySem.call f vs):=by
 intro w s₀ s₁ mg mb G Y fa o pm cd doc dV kV ho hd h hD i hg args m as g p t j s
 obtain rfl:dV = .none:=Dflts.none hD hdf
 obtain rfl:kV = .none:=Dflts.noKw hD
 obtain ⟨a,vs,ns,rfl,rfl,e,b,c⟩:=zr2 hn g j
 refine enter_call (codeAny_mono (call w s₀ s₁ mg mb fa o pm cd doc a vs ns G Y ho (fd_plain hd) h i e b c hg) fun r s' hq=>?_)
 obtain ⟨rfl,h2,h3,h4⟩:=hq
 exact ⟨.inl ⟨.bool true,.bool true,[],rfl,fun _=>rfl,.bool true,zuj l _,fun _=>⟨List.Pairwise.nil,fun _ hm=>(nomatch hm)⟩⟩,h2,h3,h4⟩
end Att
namespace L2
open PySem PySem.Spec PyProof.Rows
theorem zdq:∀ {vs:List Value} {ns:List Int},IntsAre vs ns->zb3 (ns.map V.int) vs
 | _,_,.nil=> .nil
 | _,_,.cons n t h=> .cons ⟨t,rfl⟩ (zdq h)
def zaf (s:Stmt)(j:Nat):Stmt:=match s with
 | .ClassDef _ _ _ body _ _ _ _ _ _ _=>body.getD j (.Pass ⟨0,0,0,0⟩)
 | _=> .Pass ⟨0,0,0,0⟩
def zcg (s:Stmt):Arguments:=match s with
 | .FunctionDef _ a _ _ _ _ _ _ _ _=>a
 | _=>{ posonlyargs:=[],args:=[],vararg:=none,kwonlyargs:=[],kw_defaults:=[],kwarg:=none,defaults:=[] }
def zbj (s:Stmt):List Stmt:=match s with
 | .FunctionDef _ _ b _ _ _ _ _ _ _=>b
 | _=>[]
def zai (s:Stmt):Scope:=match s with
 | .FunctionDef _ _ _ _ _ _ sc _ _ _=>sc
 | _=>{ kind:= .function,names:=[],isGenerator:=false,isCoroutine:=false }
abbrev CX0:CXT:=fun _ _ _ _ _ _=>False
abbrev E0:XK:=fun _ _ _=>False
theorem zcb {X:Cx}:zh6 CX0 X E0:=fun _ _ _ _ _ _ _ h=>h.elim
structure Fun (K:W.Frag)(x qual:Str)(st:Stmt)(f:Addr)(fd:FuncData):Prop where
 ex:∃ (oc:Value) (od:Option Addr) (kV doc pm:Value) (an:Option Addr) (cdv ct:Value) (osl:Array (Option Value)),
  fd=PySem.W.fnOf x qual (zcg st) (zbj st) (zai st) .none kV doc pm an cdv ct/\K.lookup f=some ⟨oc,od,.func fd,osl⟩/\PySem.W.codeIn K cdv qual=true
 kp:PySem.W.keepIn K (.ref f)=true
section
variable {P:Program} {w:World} {K:W.Frag} {mg:Str->Option Value} {base:Heap}
theorem Fun.ok {x qual:Str}{st:Stmt}{f:Addr}{fd:FuncData}{N ps:List Str}{k:Nat}{sp:Sp}(F:Fun K x qual st f fd)(S:zam N ps (zai st))(len:∀ vs H Q E,sp vs H Q E->vs.length=ps.length)
  (hbody:∀ (cdv:Value) (A:Around) (outer:List Env) (s:Shared) (H:Hp) (vs:List V) (Q:VK) (E:XK),zej k (A.deeper (envOfC qual (zai st) s.heap.objs.size f cdv))->sp vs H Q E ->
   ∃ t,PSs (zq1 CX0 P w K mg base N qual (zai st) f cdv A outer s H E).nox (zbj st) t/\t { nx:=fun _ H'=>Q .non H',rt:=Q } (start N vs) H):zdm P w K mg base CX0 (k+1) f fd ps sp:=by
 obtain ⟨oc,od,kV,doc,pm,an,cdv,ct,osl,rfl,lk,b⟩:=F.ex
 refine z1g lk b S len fun A outer s H vs Q E hr a=>?_
 obtain ⟨t,h,q⟩:=hbody cdv A outer s H vs Q E hr a
 exact ⟨t,h.nox,q⟩
theorem Fun.binds {x qual:Str}{st:Stmt}{f:Addr}{fd:FuncData}{ps:List Str}(F:Fun K x qual st f fd)
  (h:∀ (kV doc pm:Value) (an:Option Addr) (cdv ct:Value) (us:List Value),us.length=ps.length->bindArgs (PySem.W.fnOf x qual (zcg st) (zbj st) (zai st) .none kV doc pm an cdv ct) ⟨us,[]⟩=pure (ps.zip us)):zcq K fd ps []:=by
 obtain ⟨oc,od,kV,doc,pm,an,cdv,ct,osl,rfl,lk,a⟩:=F.ex
 exact .all (h kV doc pm an cdv ct)
theorem zh1 {x qual:Str}{st:Stmt}{f:Addr}{oc:Value}{od an:Option Addr}{osl:Array (Option Value)}{kV doc pm cdv ct:Value}(l:K.lookup f=some ⟨oc,od,.func (PySem.W.fnOf x qual (zcg st) (zbj st) (zai st) .none kV doc pm an cdv ct),osl⟩)
  (c:PySem.W.codeIn K cdv qual=true)(k:PySem.W.keepIn K (.ref f)=true):Fun K x qual st f (PySem.W.fnOf x qual (zcg st) (zbj st) (zai st) .none kV doc pm an cdv ct):=⟨⟨oc,od,kV,doc,pm,an,cdv,ct,osl,rfl,l,c⟩,k⟩
end
theorem zdd {A:Around}{k:Nat}(hr:zej k A):A.units+1<cLine:=je (Nat.add_le_add_left (by decide:1<=64) _) hr.units
theorem zar {n:Nat}(h:n<=1000):n<sizeLine:=je h (by decide)
section
variable {X:Cx}
theorem pv (i:Nat){x:Str}{pos:Pos}(hN:X.N[i]? = some x:=by rfl)(hv:Vis X.env.scope x:=by first | exact Or.inl rfl | exact Or.inr (Or.inl rfl) | exact Or.inr (Or.inr rfl))(hd:(x == ("__debug__" : Str))=false:=by decide)
  (hcd:(x == ("__classdict__" : Str))=false:=by decide):PE X (.Name x pos) (zu5 i):=z1j hN hv hd hcd
end
theorem z3p {A B:Prop}(h:B):if false=true then A else B:=by
 rw [if_neg Bool.false_ne_true]
 exact h
theorem z3f {A B:Prop}(h:A):if true=true then A else B:=by
 rw [if_pos rfl]
 exact h
theorem z2y {c A B:Prop}[Decidable c](h1:c->A)(h2:¬ c->B):if c then A else B:=by
 by_cases h:c
 ·rw [if_pos h]
  exact h1 h
 ·rw [if_neg h]
  exact h2 h
theorem zve {c A B:Prop}[Decidable c](hc:c)(h:B):if (!decide c)=true then A else B:=by
 rw [decide_eq_true hc]
 exact z3p h
def zax (H H':Hp):Prop:=∀ b o,H b=some o->H' b=some o
theorem zax.refl (H:Hp):zax H H:=fun _ _ h=>h
theorem zax.trans {H H1 H2:Hp}(a:zax H H1)(b:zax H1 H2):zax H H2:=fun c o h=>b c o (a c o h)
theorem zax.free {H H':Hp}(e:zax H H'){l:Addr}(h:H' l=Option.none):H l=Option.none:=by
 cases q:H l with
 | none=>rfl
 | some o =>
  rw [e l o q] at h
  cases h
theorem zax.seq {K:W.Frag}{H H':Hp}{a:Addr}{xs:List V}(e:zax H H')(h:SqL K H a xs):SqL K H' a xs:=by
 rcases h with (h | ⟨o,h⟩) | h
 ·exact .inl (.inl (e _ _ h))
 ·exact .inl (.inr ⟨o,e _ _ h⟩)
 ·exact .inr h
structure Df (K:W.Frag)(mg:Str->Option Value)(x:Str)(st:Stmt)(ps:List Str) where
 f:Addr
 fd:FuncData
 fn:Fun K x x st f fd
 hm:mg x=some (.ref f)
 b:zcq K fd ps []
theorem zf_:bootBuiltins "len" = some (.builtin "len"):=by decide +kernel
theorem zxc:bootBuiltins "max" = some (.builtin "max"):=by decide +kernel
theorem ze_:bootBuiltins "isinstance" = some (.builtin "isinstance"):=by decide +kernel
theorem zdy:bootBuiltins "sorted" = some (.builtin "sorted"):=by decide +kernel
theorem z0n:bootBuiltins "int" = some (.type "int"):=by decide +kernel
theorem zzp:bootBuiltins "bool" = some (.type "bool"):=by decide +kernel
theorem zxi:bootBuiltins "str" = some (.type "str"):=by decide +kernel
theorem zpp:bootBuiltins "list" = some (.type "list"):=by decide +kernel
theorem z0t:bootBuiltins "set" = some (.type "set"):=by decide +kernel
section
variable {X:Cx} {x:Str} {pos:Pos}
theorem zyi {T:String}(hg:Gl X x)(hm:X.mg x=none)(hv:bootBuiltins x=some (.type T))(hn:x≠ "__name__" :=by decide)(hd:(x == ("__debug__" : Str))=false:=by decide):PE X (.Name x pos) (tC (.ty T)) :=
 zy_ hg hm hv rfl hn hd
theorem zmb:zit X (.builtin "isinstance") (fun xs H Q=>∃ x T t b,xs=[x,.ty T]/\zlf X.K H x t/\o5 X.K t (.type T)=some b/\Q (.bl b) H):=by
 intro pins s σ H xs us Q I r h
 obtain ⟨x,T,t,b,rfl,ty,e,q⟩:=h
 obtain ⟨u,w',rfl,r1,r2⟩:=z3w r
 cases (show w'=o6 T from r2)
 exact zse I r1 ty e fun tk=>⟨.bl b,H,I.tok _,rfl,q⟩
end
section
variable {X:Cx} {pins:List (Addr × Obj)} {σ:St} {H:Hp} {s:Shared} {h':Heap}
theorem Inv.turnT {t':Nat}{ch:List Addr}{a:Addr}{o:HO}(I:Inv X pins σ H s)(k:∀ b u,b∉ch->s.heap.get? b=some u->h'.get? b=some u)(hf:∀ b∈ch,zp2 X pins H b)
  (ha:s.heap.objs.size<=a)(new:zcl X.prog X.w (upd H a o) h' a o):Inv X pins σ (upd H a o) { s with heap:=h',toks:=t' }:=by
 have hn:H a=none:=I.hok.fresh ha
 have d:∀ b u,H b=some u->b∉ch:=fun b u e z=>by rw [(hf b z).1] at e; cases e
 refine I.step (g':=s.gens) (d':=s.drawn) (ch:=ch) (fun b hb=>?_) (fun b u _ _ hc e _=>k b u hc e) (fun b u _ _ hc e _=>⟨u.slots,k b u hc e⟩) (fun b u _ e n=>?_)
  (fun b u hc e=>⟨u,k b u hc e⟩) (fun b xs e=>by rw [zab (zae e hn)]; exact e) (fun b u xs e=>by rw [zab (zae e hn)]; exact e)
  (fun b ps e=>⟨#[],by rw [zab (zae e hn),e]; simp⟩) (fun m hm=>?_) (fun b u e=>?_) I.bare
 ·obtain ⟨f0,f1,f2,f3,f4,f5⟩:=hf b hb
  exact ⟨f3,f1,f4,f5⟩
 ·rw [zab (i0 (gs (i3 e) ha))]
  exact n
 ·obtain ⟨u,es,ep,ho,r⟩:=hm
  exact ⟨u,es,ep,k _ u (fun z=>(hf _ z).2.1 rfl) ho,r⟩
 ·by_cases hb:b=a
  ·subst hb
   rw [zad] at e
   cases e
   exact new
  ·rw [zab hb] at e
   refine (I.hok b u e).stay (fun c v hc q=>k c v ?_ q) (fun c q=>by rw [zab (zae q hn)]; exact q) fun c xs q=>by rw [zab (zae q hn)]; exact q
   rcases hc with z | z
   ·rw [z]
    exact d b u e
   ·exact d c _ z
theorem Inv.turnN {t':Nat}{ch:List Addr}(I:Inv X pins σ H s)(k:∀ b u,b∉ch->s.heap.get? b=some u->h'.get? b=some u)(hf:∀ b∈ch,zp2 X pins H b):Inv X pins σ H { s with heap:=h',toks:=t' }:=by
 have a:∀ b u,H b=some u->b∉ch:=fun b u e z=>by rw [(hf b z).1] at e; cases e
 refine I.step (g':=s.gens) (d':=s.drawn) (ch:=ch) (fun b hb=>?_) (fun b u _ _ hc e _=>k b u hc e) (fun b u _ _ hc e _=>⟨u.slots,k b u hc e⟩) (fun _ _ _ _ n=>n)
  (fun b u hc e=>⟨u,k b u hc e⟩) (fun _ _ e=>e) (fun _ _ _ e=>e) (fun b ps e=>⟨#[],by rw [e]; simp⟩) (fun m hm=>?_) (fun b u e=>?_) I.bare
 ·obtain ⟨f0,f1,f2,f3,f4,f5⟩:=hf b hb
  exact ⟨f3,f1,f4,f5⟩
 ·obtain ⟨u,es,ep,ho,r⟩:=hm
  exact ⟨u,es,ep,k _ u (fun z=>(hf _ z).2.1 rfl) ho,r⟩
 ·refine (I.hok b u e).stay (fun c v hc q=>k c v ?_ q) (fun _ q=>q) fun _ _ q=>q
  rcases hc with z | z
  ·rw [z]
   exact a b u e
  ·exact a c _ z
end
def Ite (K:W.Frag)(a:Addr):It :=
 ⟨fun i H=>∃ xs x,SqL K H a xs/\xs[i]? = some x,fun i H x H'=>∃ t y,x = .ref t/\H t=none/\H'=upd H t (.tup [.int i,y])/\∀ xs,SqL K H a xs->xs[i]? = some y,
  fun i H=>∃ xs,SqL K H a xs/\xs.length<=i⟩
theorem zso {P:Program}{w:World}{K:W.Frag}{es:List Expr}{k1:Nat}{tp:Pos}(a e it:Addr)(hne:e≠it) :
  z1x P w K (.Tuple es k1 tp) (Ite K a) [e,it] e (fun i h=>(∃ old,IsEnum h e it i old)/\h.IsListIter it a i) where
 mem:=by simp
 obj:=fun i h st b hb=>by
  obtain ⟨⟨old,he⟩,o,e1,c,d⟩:=st
  rcases (show b=e\/b=it by simpa using hb) with rfl | rfl
  ·exact ⟨_,he,fun v z=>by cases z⟩
  ·exact ⟨o,e1,fun v z=>by rw [d] at z; cases z⟩
 keep:=fun i h h' st k=>⟨st.1.imp fun old he=>k e (by simp) _ he,st.2.at fun o q=>k it (by simp) o q⟩
 item:=by
  intro X hP hw hK hc i pins s σ H E I hf st hg
  subst hP hw hK
  obtain ⟨xs,x,hq,hx⟩:=hg
  obtain ⟨its,rv,p,hz⟩:=I.list hq
  obtain ⟨u,hu,ru⟩:=rv.get hx
  obtain ⟨⟨old,he⟩,hit⟩:=st
  have el:e<s.heap.objs.size:=i3 he
  have il:it<s.heap.objs.size:=by
   obtain ⟨o,e1,_⟩:=hit
   exact i3 e1
  refine wpAny_pyNext_enum_item he hit p.isList (x:=u) (by simpa using hu) hne fun h' ho f ht l hk=>?_
  refine ⟨_,rfl,wpAny_letOwnedTupleGo_enum ho fun h2 g sb=>?_⟩
  replace sb:Heap.SameBut e h' h2:=sb
  have j:h2.get? s.heap.objs.size=some { cls:= .type "tuple",data:= .seq #[.int i s.toks,u] }:=(sb.2 _ (jf el)).trans ht
  have I2:Inv X pins σ (upd H s.heap.objs.size (.tup [.int i,x])) { s with heap:=h2,toks:=s.toks+1 } :=
   I.turnT (ch:=[e,it]) (fun b v hb q=>(sb.2 b (fun z=>hb (by simp [z]))).trans (hk b v (fun z=>hb (by simp [z])) (fun z=>hb (by simp [z])) q)) hf (gv _)
    ⟨by show 2<=sizeLine; decide,[.int i s.toks,u],.cons ⟨_,rfl⟩ (.cons ru .nil),_,j,rfl,_,rfl⟩
  refine ⟨.ref s.heap.objs.size,_,I2,rfl,⟨s.heap.objs.size,x,rfl,I.hok.fresh (gv _),rfl,fun ys hy=>by rw [I.list_inj hy hq]; exact hx⟩,
   ⟨⟨u,by simpa using g⟩,f.at fun o q=>(sb.2 it (Ne.symm hne)).trans q⟩,fun b hb=>?_⟩
  rw [zab,(hf b hb).1]
  rcases (show b=e\/b=it by simpa using hb) with rfl | rfl
  ·exact i0 el
  ·exact i0 il
 done:=by
  intro X hP hw hK hc i pins s σ H E I hf st hg
  subst hP hw hK
  obtain ⟨xs,hq,hx⟩:=hg
  obtain ⟨its,rv,p,hz⟩:=I.list hq
  obtain ⟨⟨old,he⟩,hit⟩:=st
  have hl:=rv.length
  exact wpAny_pyNext_enum_end (I.ok.hd hc) he hit p.isList (by simp; omega) fun h' eb=>⟨rfl,I.turnN (t':=s.toks) (ch:=[e,it]) (fun b o hb q=>eb b o (fun z=>hb (by simp [z])) q) hf⟩
 self:=fun _ _ _ _ _ st h=>by
  obtain ⟨⟨old,he⟩,_⟩:=st
  exact wpAny_pyIter_enum he h
def z3o (K:W.Frag)(ta:TA):TI:=fun σ H R=>ta σ H fun vs H1=>∃ a,vs=[.ref a]/\(∃ xs,SqL K H1 a xs)/\R (Ite K a) H1
theorem zuk {X:Cx}{es:List Expr}{k1:Nat}{tp:Pos}{a:Expr}{ta:TA}{p pos:Pos}(hg:Gl X "enumerate")(hm:X.mg "enumerate" = none)(ha:PA X [a] ta)(hs:starEach [a] X.env=[(false,eval a X.env)]:=by rfl) :
  PI X (.Tuple es k1 tp) (.Call (.Name "enumerate" p) [a] [] pos) (z3o X.K ta):=by
 intro pins s σ H R I h
 refine Call_ (zjf I hg hm boot_enumerate (PyProof.Rows.callWith_type1 (thn (ha pos pins s σ H _ I h) fun us s1 ⟨vs,H1,I1,r1,q1⟩=>?_) hs rfl))
 obtain ⟨l,e,⟨xs,hq⟩,q⟩:=q1
 subst e
 obtain ⟨u,rfl,ru⟩:=zhm r1
 cases (show u=Value.ref l from ru)
 obtain ⟨its,rv,pl,hz⟩:=I1.list hq
 refine call_enumerate_list pl.isList fun h' he hit hsz hk=>wpAny_pyIter_enum he ?_
 have I2:Inv X pins σ H1 { s1 with heap:=h' }:=I1.kept (t':=s1.toks) hk
 refine ⟨s1.heap.objs.size+1,[s1.heap.objs.size+1,s1.heap.objs.size],_,_,H1,rfl,I2,zso l _ _ (Nat.succ_ne_self _),⟨⟨.none,he⟩,hit⟩,fun b hb=>?_,q⟩
 rcases (show b=s1.heap.objs.size+1\/b=s1.heap.objs.size by simpa using hb) with rfl | rfl
 ·exact I1.fpOk (jg _) (I1.hok.fresh (jg _))
 ·exact I1.fpOk (gv _) (I1.hok.fresh (gv _))
theorem zp4 {K:W.Frag}{a:Addr}{xs:List V}{g:TG}{tb:TS}{D:zzb}{σ:St}{H:Hp}(Pv:Nat->St->Hp->Prop)(h0:Pv 0 σ H)(hl:∀ i σ H,i<=xs.length->Pv i σ H->SqL K H a xs)
  (hs:∀ i x σ H t,xs[i]? = some x->Pv i σ H->H t=none->g (.ref t) σ (upd H t (.tup [.int i,x])) fun σ2 H2=>tb { D with nx:=Pv (i+1),ct:=Pv (i+1),bk:=D.nx } σ2 H2)(hd:∀ σ H,Pv xs.length σ H->D.nx σ H) :
  ∃ W:Nat->Nat->St->Hp->Prop,(∃ m,W 0 m σ H)/\∀ i m σ H,W i m σ H ->
   ((Ite K a).stop i H/\D.nx σ H)\/((Ite K a).go i H/\∃ N:St->Hp->Prop,(∀ σ' H',N σ' H'->∃ m',m'<m/\W (i+1) m' σ' H')/\∀ x H',(Ite K a).yld i H x H'->g x σ H' fun σ2 H2=>tb { D with nx:=N,ct:=N,bk:=D.nx } σ2 H2):=by
 refine ⟨fun i m σ H=>m=xs.length - i/\i<=xs.length/\Pv i σ H,⟨xs.length,by simp,ix _,h0⟩,?_⟩
 rintro i m σ H ⟨rfl,hi,p⟩
 have q:=hl i σ H hi p
 by_cases b:i<xs.length
 ·refine .inr ⟨⟨xs,xs[i],q,by simp [b]⟩,Pv (i+1),fun σ' H' p'=>⟨xs.length - (i+1),by omega,rfl,b,p'⟩,fun x H' y=>?_⟩
  obtain ⟨t,z,rfl,ht,rfl,y⟩:=y
  exact hs i z σ _ t (y xs q) p ht
 ·have e:i=xs.length:=by omega
  subst e
  exact .inl ⟨⟨xs,q,gv _⟩,hd σ H p⟩
theorem zw7 {c A B:Prop}[Decidable c](hc:¬ c)(h:A):if (!decide c)=true then A else B:=by
 rw [decide_eq_false hc]
 exact z3f h
theorem zov {c A B:Prop}[Decidable c](hc:c)(h:A):if decide c=true then A else B:=by
 rw [decide_eq_true hc]
 exact z3f h
theorem zgj {c A B:Prop}[Decidable c](hc:¬ c)(h:B):if decide c=true then A else B:=by
 rw [decide_eq_false hc]
 exact z3p h
theorem zzj {a b:Int}(h:¬ a=b):¬ V.int a=V.int b:=fun z=>h (V.int.inj z)
theorem zax.lay {H H':Hp}{p:Addr}{o:HO}(h:zax H H')(hp:H' p=none):zax H (upd H' p o):=fun b u e=>by
 rw [zab (zae (h b u e) hp)]
 exact h b u e
theorem zax.new (H:Hp){p:Addr}{o:HO}(hp:H p=none):zax H (upd H p o):=(zax.refl H).lay hp
theorem nw {H H1:Hp}{p:Addr}{o:HO}(h:H p=none)(e:upd H p o=H1):zax H H1/\H1 p=some o:=e ▸ ⟨zax.new H h,zad⟩
theorem usS {n:Nat}{R:List Value->Prop}(h:∀ a us,us.length=n->R (a :: us))(us:List Value)(e:us.length=n+1):R us:=by
 cases us with
 | nil=>cases e
 | cons a t=>exact h a t (Nat.succ.inj e)
theorem us0 {R:List Value->Prop}(h:R [])(us:List Value)(e:us.length=0):R us:=by
 cases us with
 | nil=>exact h
 | cons a t=>cases e
theorem us1 {R:List Value->Prop}(h:∀ a,R [a]):∀ us:List Value,us.length=1->R us:=usS fun a=>us0 (h a)
theorem us2 {R:List Value->Prop}(h:∀ a b,R [a,b]):∀ us:List Value,us.length=2->R us:=usS fun a=>us1 (h a)
theorem us3 {R:List Value->Prop}(h:∀ a b c,R [a,b,c]):∀ us:List Value,us.length=3->R us:=usS fun a=>us2 (h a)
theorem us4 {R:List Value->Prop}(h:∀ a b c d,R [a,b,c,d]):∀ us:List Value,us.length=4->R us:=usS fun a=>us3 (h a)
def zcw (X:Cx)(N':List Str)(scope:Scope)(cl:List (Str × Addr))(C:Addr)(s:Shared)(H:Hp)(fp:List Addr):Cx where
 prog:=X.prog
 w:=X.w
 K:=X.K
 mg:=X.mg
 base:=X.base
 A:=X.A
 N:=N'
 s₀:=s
 H₀:=H
 env:=compEnvC scope cl C X.env
 outer:=X.stack
 stack:=X.stack
 ex:=fp
 fn:=fun _=>false
 calm:=X.calm
 pn:=[]
 xe:=fun _ _=>False
def PTs (X:Cx)(ifs:List Expr)(t:TT):Prop :=
 ∀ (pins:List (Addr × Obj)) (s:Shared) (σ:St) (H:Hp) (Q:Bool->Hp->Prop),Inv X pins σ H s->t σ H Q ->
  wpAny (model X.prog X.w) X.A (forIn ifs true fun c r=>if r=true then do let ok <- isTrue c X.env (eval c X.env); pure (ForInStep.yield ok) else pure (ForInStep.yield r)) (TP X pins σ Q) X.xe s
def z4g:TT:=fun _ H Q=>Q true H
theorem zr3 {X:Cx}:PTs X [] z4g:=fun pins s σ H Q I h=>wpAny_pure ⟨H,I,h⟩
theorem zfl {X:Cx}{c:Expr}{t:TT}(hc:PT X c t):PTs X [c] t:=fun pins s σ H Q I h=>by
 show wpAny _ _ (forIn [c] true _) _ _ s
 rw [mf]
 rw [if_pos rfl]
 refine wpAny_bind (wpAny_bind (thn (hc pins s σ H Q I h) fun b s1 h1=>wpAny_pure ?_))
 exact wpAny_pure h1
theorem zfq {env:Env}:∀ (names:List (Str × NameKind)) (acc:List (Str × Addr)),
  (∀ y∈names,y.2 = .free->∃ c,env.cells.lookup y.1=some c)->(∀ x c,acc.lookup x=some c->env.cells.lookup x=some c) ->
  ∃ cl,(forIn names acc fun (x:Str × NameKind) cs=>if (x.2 == NameKind.free)=true then (do let a <- cellOf env x.1; pure (ForInStep.yield ((x.1,a) :: cs))) else pure (ForInStep.yield cs):Sem (List (Str × Addr)))=pure cl /\
   (∀ x c,cl.lookup x=some c->env.cells.lookup x=some c)/\(∀ y∈names,y.2 = .free->∃ c,cl.lookup y.1=some c)/\(∀ x c,acc.lookup x=some c->cl.lookup x=some c)
 | [],acc,_,ha=>⟨acc,rfl,ha,fun y hy=>(nomatch hy),fun _ _ h=>h⟩
 | (n,k) :: r,acc,hn,ha=>by
  rw [mf]
  by_cases hk:k = .free
  ·obtain ⟨c,hc⟩:=hn (n,k) gj hk
   have ha':∀ x d,((n,c) :: acc).lookup x=some d->env.cells.lookup x=some d:=fun x d h=>by
    rw [ii] at h
    by_cases e:(x == n)=true
    ·rw [e] at h
     have e':=beq_iff_eq.mp e
     cases h
     rw [e']
     exact hc
    ·rw [jr.mpr e] at h
     exact ha x d h
   obtain ⟨cl,e1,h1,h2,h3⟩:=zfq r ((n,c) :: acc) (fun y hy=>hn y (gc _ hy)) ha'
   refine ⟨cl,?_,h1,fun y hy hf=>?_,fun x d h=>?_⟩
   ·rw [if_pos (by rw [hk]; rfl)]
    show ((cellOf env n >>= fun a=>pure (ForInStep.yield ((n,a) :: acc))) >>= _)=_
    have hco:cellOf env n=pure c:=by unfold cellOf; rw [hc]
    rw [hco,pure_bind,pure_bind]
    exact e1
   ·rcases gx.mp hy with rfl | hy
    ·exact ⟨c,h3 n c (by rw [ii]; simp)⟩
    ·exact h2 y hy hf
   ·by_cases e:(x == n)=true
    ·have e':=beq_iff_eq.mp e
     subst e'
     have:=ha x d h
     rw [hc] at this
     cases this
     exact h3 x c (by rw [ii]; simp)
    ·exact h3 x d (by rw [ii,jr.mpr e]; exact h)
  ·obtain ⟨cl,e1,h1,h2,h3⟩:=zfq r acc (fun y hy=>hn y (gc _ hy)) ha
   refine ⟨cl,?_,h1,fun y hy hf=>?_,h3⟩
   ·rw [if_neg (by simpa using hk),pure_bind]
    exact e1
   ·rcases gx.mp hy with rfl | hy
    ·exact absurd hf hk
    ·exact h2 y hy hf
theorem zgt {scope:Scope}{env:Env}(hn:∀ y∈scope.names,y.2 = .free->∃ c,env.cells.lookup y.1=some c) :
  ∃ cl,closureFor scope env=pure cl/\(∀ x c,cl.lookup x=some c->env.cells.lookup x=some c)/\∀ y∈scope.names,y.2 = .free->∃ c,cl.lookup y.1=some c:=by
 obtain ⟨cl,e1,h1,h2,_⟩:=zfq (env:=env) scope.names [] hn (fun x c h=>by cases h)
 refine ⟨cl,?_,h1,h2⟩
 unfold closureFor
 rw [<- e1,bind_pure]
theorem zpv {prog:Program}{w:World}{A:Around}{R:Result->Shared->Prop}{s:Shared}{elt target iter:Expr}{ifs:List Expr}{scope:Scope}{pos:Pos}{it acc:Value}{env:Env}(I:Nat->Shared->Prop)
  (turn:∀ n s,I n s->wpAny (model prog w) A (pyNext it) (fun r s₁=>match r with
   | none=>R (.ok .next) s₁
   | some v=>wpAny (model prog w) A (letOwnedTupleGo target it v) (fun _ s₁=>wpAny (model prog w) A (assign target env v) (fun _ s₂ =>
     wpAny (model prog w) A (forIn ifs true fun c r=>if r=true then do let ok <- isTrue c env (eval c env); pure (ForInStep.yield ok) else pure (ForInStep.yield r)) (fun ok s₃ =>
      if ok=true then wpAny (model prog w) A (eval elt env) (fun x s₄ =>
       wpAny (model prog w) A (call (.builtin "list.append") [acc,x]) (fun _ s₅=>∃ m,m<n/\I m s₅) (fun _ _=>False) s₄) (fun _ _=>False) s₃
      else ∃ m,m<n/\I m s₃) (fun _ _=>False) s₂) (fun _ _=>False) s₁) (fun _ _=>False) s₁) (fun _ _=>False) s)
  (n:Nat)(h:I n s) :
  codeAny (model prog w) A (.compLoop (.ListComp elt [⟨target,iter,ifs,0⟩] scope pos) 0 it acc env) R s:=by
 refine codeAny_loop rfl I (fun n s hI=>?_) n h
 show wpAny _ A ((compTurn (.ListComp elt [⟨target,iter,ifs,0⟩] scope pos) 0 it acc env).onRaise (fun x=>do noteFrame x env; theTreesLotGoes x)) _ _ s
 refine wpAny_noted ?_
 rw [compTurn_list]
 have ff:∀ {E:Value->Shared->Prop} (v:Value) (s:Shared),False->E v s:=fun _ _ z=>z.elim
 refine wpAny_bind (wpAny_standAt (wpAny_bind (wpAny_mono (turn n s hI) (fun r s₁ h₁=>?_) ff)))
 cases r with
 | none=>exact wpAny_pure h₁
 | some v =>
  refine wpAny_bind (wpAny_mono h₁ (fun _ b a=>?_) ff)
  refine wpAny_bind (wpAny_mono a (fun _ s₂ h₂=>wpAny_bind (wpAny_mono h₂ (fun ok s₃ h₃=>?_) ff)) ff)
  cases ok with
  | false=>exact wpAny_pure ⟨rfl,h₃⟩
  | true =>
   exact wpAny_bind (wpAny_bind (wpAny_mono h₃ (fun x s₄ h₄=>wpAny_bind (wpAny_mono h₄ (fun _ s₅ h₅=>wpAny_pure (wpAny_pure ⟨rfl,h₅⟩)) ff)) ff))
def zuf (J:It)(g:TG)(tc:TT)(te:TE)(Q:VK)(D:Addr)(σ:St)(H:Hp):Prop:=∃ W:Nat->Nat->St->Hp->Prop,(∃ m,W 0 m σ H)/\∀ i m σ' H',W i m σ' H' ->
 (J.stop i H'/\Q (.ref D) H')\/(J.go i H'/\∃ N:St->Hp->Prop,(∀ σ2 H2,N σ2 H2->∃ m',m'<m/\W (i+1) m' σ2 H2)/\∀ x H2,J.yld i H' x H2->g x σ' H2 fun σ3 H3=>tc σ3 H3 fun b H4 =>
  if b=true then te σ3 H4 fun y H5=>∃ acc,H5 D=some (.lst acc)/\acc.length<sizeLine/\N σ3 (upd H5 D (.lst (acc++[y]))) else N σ3 H4)
def zyh (wi:TI)(g:TG)(tc:TT)(te:TE)(cp:St->St):TE:=fun σ H Q=>wi σ H fun J H1=>∀ D,H1 D=none->zuf J g tc te Q D (cp σ) (upd H1 D (.lst []))
def zvi (k:Nat)(caps:List Nat):St->St:=fun σ=>lw k none++caps.map fun i=>σ.getD i none
structure zgr (X:Cx)(scope:Scope)(own:List Str)(caps:List Nat)(N':List Str):Prop where
 kind:scope.kind = .function
 nocell:∀ y∈scope.names,y.2≠ .cell
 names:∀ y∈scope.names,y.2 = .local->scope.names.lookup y.1=some .local
 free:∀ y∈scope.names,y.2 = .free->X.env.kindOf y.1=some .cell\/X.env.kindOf y.1=some .free
 hN:N'=own++caps.filterMap fun i=>X.N[i]?
 cap:∀ i∈caps,i<X.N.length
 capk:∀ i∈caps,∀ x,X.N[i]? = some x->scope.names.lookup x=some .free
 look:∀ x,(relabel scope X.env).names.lookup x=some .cell\/(relabel scope X.env).names.lookup x=some .free->(x,NameKind.free)∈scope.names
theorem zh3 {env:Env}:∀ {names:List (Str × NameKind)} {x:Str},names.lookup x=some .free ->
  (names.map fun (n,k)=>if (k == NameKind.free && env.scope.kind == .function && env.kindOf n == some .cell) then (n,NameKind.cell) else (n,k)).lookup x≠some .local
 | [],_,h=>by simp at h
 | (n,k) :: r,x,h=>by
  have ih:=@zh3 env r x
  show List.lookup x ((if (k == NameKind.free && env.scope.kind == .function && env.kindOf n == some .cell)=true then (n,NameKind.cell) else (n,k)) :: _)≠_
  cases hx:x == n with
  | true =>
   simp only [ii,hx] at h
   cases h
   by_cases hc:(NameKind.free == NameKind.free && env.scope.kind == .function && env.kindOf n == some .cell)=true
   ·rw [if_pos hc]; simp [ii,hx]
   ·rw [if_neg hc]; simp [ii,hx]
  | false =>
   simp only [ii,hx] at h
   by_cases hc:(k == NameKind.free && env.scope.kind == .function && env.kindOf n == some .cell)=true
   ·rw [if_pos hc]; simp only [ii,hx]; exact ih h
   ·rw [if_neg hc]; simp only [ii,hx]; exact ih h
section
variable {X:Cx} {scope:Scope} {own N':List Str} {caps:List Nat}
theorem zg7 {α:Type}(N:List α):∀ (caps:List Nat),(∀ i∈caps,i<N.length)->∀ (j:Nat) (x:α),(caps.filterMap fun i=>N[i]?)[j]? = some x->∃ i,caps[j]? = some i/\N[i]? = some x
 | [],_,j,x,h=>by simp at h
 | a :: r,hc,j,x,h=>by
  have ha:=hc a gj
  rw [iq,List.getElem?_eq_getElem ha] at h
  cases j with
  | zero=>exact ⟨a,rfl,by rw [List.getElem?_eq_getElem ha]; simpa using h⟩
  | succ j =>
   obtain ⟨i,h1,h2⟩:=zg7 N r (fun i hi=>hc i (gc _ hi)) j x (by simpa using h)
   exact ⟨i,by simpa using h1,h2⟩
theorem zgu {α:Type}(N:List α):∀ (caps:List Nat),(∀ i∈caps,i<N.length)->(caps.filterMap fun i=>N[i]?).length=caps.length
 | [],_=>rfl
 | a :: r,hc=>by
  have ha:=hc a gj
  rw [iq,List.getElem?_eq_getElem ha]
  simp [zgu N r fun i hi=>hc i (gc _ hi)]
theorem Inv.enterComp {pins:List (Addr × Obj)}{σ:St}{H:Hp}{s:Shared}{cl:List (Str × Addr)}{fp:List Addr}{h1:Heap}{tk:Nat}(I:Inv X pins σ H s)(T:zgr X scope own caps N')
  (hcl:∀ x c,cl.lookup x=some c->X.env.cells.lookup x=some c)(hcl2:∀ y∈scope.names,y.2 = .free->∃ c,cl.lookup y.1=some c)
  (hf:∀ b∈fp,zp2 X pins H b)(hfo:∀ b∈fp,∃ o,s.heap.get? b=some o)(hns:h1.Ns s.heap.objs.size (fun _=>none))(hk:∀ b o,s.heap.get? b=some o->h1.get? b=some o) :
  Inv (zcw X N' scope cl s.heap.objs.size s H fp) [] (zvi own.length caps σ) H { s with heap:=h1,toks:=tk }:=by
 have ac:N'.length=own.length+caps.length:=by rw [T.hN,gl,zgu _ _ T.cap]
 refine ⟨⟨I.ok.mod,?_,I.ok.glob,I.ok.blt,gv _,fun x y c h1 h2=>I.ok.inj x y c (hcl x c h1) (hcl y c h2),fun x hx=>?_,fun x c h=>fT h,I.ok.hd,I.ok.frames,.inl rfl,
   fun b hb=>⟨?_,fun x c e=>(hf b hb).2.2.2.2.1 x c (hcl x c e)⟩,fun b o e=>I.bs b o e,gy I.ok.bsz I.sz,fun b o e hb=>?_,fun b hb z=>?_,I.stack,I.stkFree⟩,
  rfl,I.bare,Un.kept hk,⟨_,hns,fun i x v e1 e2 e3=>?_⟩,fun x c e=>?_,I.hok.fresh (gv _),fun x c e=>⟨fun z=>fT z,(I.freeC x c (hcl x c e)).2⟩,fun p hp=>absurd (show p∈([]:List (Addr × Obj)) from hp) (by simp),I.hok.kept hk,?_⟩
 ·show (relabel scope X.env).kind = .function
  exact T.kind
 ·exact hcl2 (x,.free) (T.look x hx) rfl
 ·obtain ⟨o,e⟩:=hfo b hb
  exact i0 (i3 e)
 ·rcases (hf b hb).2.2.2.1 with z | z
  ·exact I.ok.noex b o e z
  ·exact absurd (gs (i3 e) (gy I.ok.bsz z)) (jh _)
 ·rcases gx.mp (I.stkSub b z) with q | q
  ·exact (hf b hb).2.1 q
  ·exact (hf b hb).2.2.1 q
 ·-- the values of the block's names
  have aa:N'[i]? = some x:=e1
  rw [T.hN] at aa
  have d:(zvi own.length caps σ)[i]? = some (some v):=e2
  unfold zvi at d
  by_cases hi:i<own.length
  ·rw [List.getElem?_append_left (by simpa using hi),List.getElem?_replicate,if_pos hi] at d
   cases d
  ·rw [List.getElem?_append_right (by simpa using hi),List.length_replicate] at d
   rw [List.getElem?_append_right (by omega)] at aa
   obtain ⟨j,hj,hx⟩:=zg7 X.N caps T.cap _ _ aa
   rw [List.getElem?_map,hj] at d
   have g:σ.getD j none=some v:=Option.some.inj d
   have hs:σ[j]? = some (some v):=by
    rw [List.getD_eq_getElem?_getD] at g
    cases q:σ[j]? with
    | none =>
     rw [q] at g
     cases g
    | some z =>
     rw [q] at g
     have:z=some v:=g
     rw [this]
   have f:=T.capk j (i4 hj) x hx
   have t:(x,NameKind.free)∈scope.names:=PySem.mem_of_lookup f
   have ad:=T.free _ t rfl
   obtain ⟨m,hn,hl⟩:=I.loc
   obtain ⟨u,r,l⟩:=hl j x v hx hs (by
    rcases ad with z | z
    ·exact .inr (.inl z)
    ·exact .inr (.inr z))
   rcases l with ⟨q,_⟩ | ⟨_,c,hc,w⟩
   ·rcases ad with z | z
    ·rw [show X.env.kindOf x=some .local from q] at z; cases z
    ·rw [show X.env.kindOf x=some .local from q] at z; cases z
   ·obtain ⟨c',ab⟩:=hcl2 _ t rfl
    have ae:=hcl x c' ab
    rw [hc] at ae
    cases ae
    refine ⟨u,r,.inr ⟨?_,c,ab,?_⟩⟩
    ·rcases e3 with z | z | z
     ·-- a free name does not become local
      exfalso
      have:(relabel scope X.env).names.lookup x=some .local:=z
      rw [show (relabel scope X.env).names=scope.names.map fun (n,k)=>if (k == .free && X.env.scope.kind == .function && X.env.kindOf n == some .cell) then (n,.cell) else (n,k) from rfl] at this
      exact absurd this (zh3 f)
     ·exact .inl z
     ·exact .inr z
    ·obtain ⟨o,ho,hd⟩:=w
     exact ⟨o,hk _ _ ho,hd⟩
 ·obtain ⟨v,o,ho,hd⟩:=I.cell x c (hcl x c e)
  exact ⟨v,o,hk _ _ ho,hd⟩
 ·show (zvi own.length caps σ).length=N'.length
  rw [ac]
  unfold zvi
  simp
theorem Inv.leaveComp {pins pins':List (Addr × Obj)}{σ σ':St}{H H':Hp}{s s':Shared}{cl:List (Str × Addr)}{fp:List Addr}{h2:Heap}(I:Inv X pins σ H s)(hf:∀ b∈fp,zp2 X pins H b)
  (J:Inv (zcw X N' scope cl s.heap.objs.size s H fp) pins' σ' H' s')(hs:Heap.SameBut s.heap.objs.size s'.heap h2):Inv X pins σ H' { s' with heap:=h2 }:=by
 have fr:H' s.heap.objs.size=none:=J.free
 have ne:∀ b o,s.heap.get? b=some o->b≠s.heap.objs.size:=fun b o e=>i0 (i3 e)
 have U:Un (frs X.stack) fp H H' s.heap s'.heap:=J.base
 refine I.call' (s':={ s' with heap:=h2 }) (ch:=fp) J.os ⟨fun b o e n hb hx=>(hs.2 b (ne b o e)).trans (U.keep b o e n hb hx),fun b o e n hb hx=>?_,U.free,fun b o e hx=>?_,U.tups,U.frzs,U.tbls⟩ (fun a o e=>?_) J.bare fun b hb=>?_
 ·obtain ⟨sl,q⟩:=U.slot b o e n hb hx
  exact ⟨sl,(hs.2 b (ne b o e)).trans q⟩
 ·obtain ⟨o',q⟩:=U.there b o e hx
  exact ⟨o',(hs.2 b (ne b o e)).trans q⟩
 ·refine (J.hok a o e).stay (fun b u hb q=>(hs.2 b ?_).trans q) (fun _ q=>q) fun _ _ q=>q
  intro z
  rcases hb with hb | hb
  ·rw [<- hb,z,fr] at e
   cases e
  ·rw [z,fr] at hb
   cases hb
 ·obtain ⟨f0,f1,f2,f3,f4,f5⟩:=hf b hb
  exact ⟨f3,f1,f4,f5⟩
theorem znd {elt tg iter:Expr}{ifs:List Expr}{pos:Pos}{wi:TI}{g:TG}{tc:TT}{te:TE}(hc:X.calm=true)(T:zgr X scope own caps N')(hi:PI X tg iter wi)
  (hg:∀ cl C s H fp,PG (zcw X N' scope cl C s H fp) tg g)(ht:∀ cl C s H fp,PTs (zcw X N' scope cl C s H fp) ifs tc)(he:∀ cl C s H fp,PE (zcw X N' scope cl C s H fp) elt te)
  {pins:List (Addr × Obj)}{σ:St}{H:Hp}{s:Shared}{Q:VK}(I:Inv X pins σ H s)(h:zyh wi g tc te (zvi own.length caps) σ H Q){cl:List (Str × Addr)}
  (hcl:∀ x c,cl.lookup x=some c->X.env.cells.lookup x=some c)(hcl2:∀ y∈scope.names,y.2 = .free->∃ c,cl.lookup y.1=some c){RR:Value->Addr->Result->Shared->Prop}
  (k:∀ {s3:Shared} {H3:Hp} {D:Addr} {fp:List Addr} {σ5:St} {H5:Hp} {s6:Shared},Inv X pins σ H3 s3->(∀ b∈fp,zp2 X pins H3 b)->Inv (zcw X N' scope cl s3.heap.objs.size s3 H3 fp) [] σ5 H5 s6->Q (.ref D) H5->RR (.ref D) s3.heap.objs.size (.ok .next) s6) :
  wpAny (model X.prog X.w) X.A (eval iter X.env) (fun x s₁=>wpAny (model X.prog X.w) X.A (pyIter x) (fun it s₂=>wpAny (model X.prog X.w) X.A (newList []) (fun acc s₃ =>
   wpAny (model X.prog X.w) X.A (newFunctionEnv scope X.env.globals cl [] X.env.qual none .none (some X.env)) (fun cenv s₄ =>
    codeAny (model X.prog X.w) X.A (.compStart (.ListComp elt [⟨tg,iter,ifs,0⟩] scope pos) 0 it acc { cenv with scope:=relabel scope X.env }) (RR acc cenv.locals) s₄) X.xe s₃) X.xe s₂) X.xe s₁) X.xe s:=by
 refine thn (hi pins s σ H _ I h) fun xv s1 h1=>thn h1 fun aq s2 h2=>?_
 obtain ⟨it,fp,tn,J,H2,rfl,I2,TU,ab,f2,q2⟩:=h2
 have fo:∀ b∈fp,∃ o,s2.heap.get? b=some o:=fun b hb=>let ⟨o,e,_⟩:=TU.obj _ _ ab b hb; ⟨o,e⟩
 obtain ⟨W,⟨m0,w0⟩,turn⟩:=q2 s2.heap.objs.size I2.fresh
 refine wpAny_newObj_type ?_
 have I3:Inv X pins σ (upd H2 s2.heap.objs.size (.lst [])) { s2 with heap:=s2.heap.push { cls:= .type "list",data:= .seq ([]:List Value).toArray } }:=I2.lnew (t':=s2.toks) .nil (ix _)
 generalize ao:({ s2 with heap:=s2.heap.push { cls:= .type "list",data:= .seq ([]:List Value).toArray } }:Shared)=s3 at I3
 have k3:∀ b o,s2.heap.get? b=some o->s3.heap.get? b=some o:=fun b o e=>by rw [<- ao]; exact Heap.get?_push_of_some _ e
 have f3:∀ b∈fp,zp2 X pins (upd H2 s2.heap.objs.size (.lst [])) b:=fun b hb=>by
  obtain ⟨o,e⟩:=fo b hb
  exact ⟨by rw [zab (i0 (i3 e))]; exact (f2 b hb).1,(f2 b hb).2⟩
 have ac:∀ b∈fp,∃ o,s3.heap.get? b=some o:=fun b hb=>let ⟨o,e⟩:=fo b hb; ⟨o,k3 b o e⟩
 have am:tn 0 s3.heap:=TU.keep _ _ _ ab fun b hb o e=>k3 b o e
 show wpAny _ _ _ _ _ s3
 refine wpAny_newFunctionEnv T.nocell (fun y hy=>(nomatch hy)) (fun h4 ap ag=>?_) T.kind
 have k4:∀ b o,s3.heap.get? b=some o->h4.get? b=some o:=fun b o e=>(ag.2 b (i0 (i3 e))).trans (Heap.get?_push_of_some _ e)
 have J4:Inv (zcw X N' scope cl s3.heap.objs.size s3 (upd H2 s2.heap.objs.size (.lst [])) fp) [] (zvi own.length caps σ) (upd H2 s2.heap.objs.size (.lst [])) { s3 with heap:=h4,toks:=s3.toks+0 } :=
  I3.enterComp T hcl hcl2 f3 ac ap k4
 have t:tn 0 h4:=TU.keep _ _ _ am fun b hb o e=>k4 b o e
 have f:∀ {H':Hp},(∀ b∈fp,H' b=none)->∀ b∈fp,zp2 (zcw X N' scope cl s3.heap.objs.size s3 (upd H2 s2.heap.objs.size (.lst [])) fp) [] H' b:=fun hn b hb=>by
  obtain ⟨o,e⟩:=ac b hb
  refine ⟨hn b hb,i0 (i3 e),fun z=>?_,.inl hb,fun x c q=>(f3 b hb).2.2.2.2.1 x c (hcl x c q),fun p hp=>absurd (show p∈([]:List (Addr × Obj)) from hp) (by simp)⟩
  rcases gx.mp (I3.stkSub b z) with q | q
  ·exact (f3 b hb).2.1 q
  ·exact (f3 b hb).2.2.1 q
 have j:codeAny (model X.prog X.w) X.A (.compLoop (.ListComp elt [⟨tg,iter,ifs,0⟩] scope pos) 0 (.ref it) (.ref s2.heap.objs.size) (compEnvC scope cl s3.heap.objs.size X.env))
   (RR (.ref s2.heap.objs.size) s3.heap.objs.size) { s3 with heap:=h4,toks:=s3.toks+0 }:=by
  refine zpv (fun n s'=>∃ i σ' H',Inv (zcw X N' scope cl s3.heap.objs.size s3 (upd H2 s2.heap.objs.size (.lst [])) fp) [] σ' H' s'/\tn i s'.heap/\(∀ b∈fp,H' b=none)/\W i n σ' H') ?_ m0
   ⟨0,_,_,J4,t,fun b hb=>(f3 b hb).1,w0⟩
  rintro n s5 ⟨i,σ5,H5,I5,ad,aa,w5⟩
  rcases turn i n σ5 H5 w5 with ⟨stop,qn⟩ | ⟨go,N,hN,step⟩
  ·refine thn (TU.done (zcw X N' scope cl s3.heap.objs.size s3 (upd H2 s2.heap.objs.size (.lst [])) fp) rfl rfl rfl hc i [] s5 σ5 H5 (fun _ _=>False) I5 (f aa) ad stop) fun r s6 ⟨hr,I6⟩=>?_
   subst hr
   exact k I3 f3 I6 qn
  ·refine thn (TU.item (zcw X N' scope cl s3.heap.objs.size s3 (upd H2 s2.heap.objs.size (.lst [])) fp) rfl rfl rfl hc i [] s5 σ5 H5 (fun _ _=>False) I5 (f aa) ad go) fun r s6 ⟨u,hr,h6⟩=>?_
   subst hr
   refine thn h6 fun _ s7 ⟨x,H7,I7,r7,y7,l,ae⟩=>?_
   have an:=I7.pinned (f ae) (TU.obj _ _ l)
   have a:∀ {σ':St} {H':Hp} {s':Shared},Inv (zcw X N' scope cl s3.heap.objs.size s3 (upd H2 s2.heap.objs.size (.lst [])) fp) ([]++zom fp s7.heap) σ' H' s'->N σ' H' ->
     ∃ m,m<n/\∃ i σ' H',Inv (zcw X N' scope cl s3.heap.objs.size s3 (upd H2 s2.heap.objs.size (.lst [])) fp) [] σ' H' s'/\tn i s'.heap/\(∀ b∈fp,H' b=none)/\W i m σ' H':=fun {σ' H' s'} I' n'=>by
    obtain ⟨m',hm,w'⟩:=hN σ' H' n'
    refine ⟨m',hm,i+1,σ',H',I'.unpinned,TU.keep _ _ _ l fun b hb o e=>(I'.pin (b,o) (g7 _ (g7 _ (zfx hb e)))).1,fun b hb=>?_,w'⟩
    obtain ⟨o,e,d⟩:=TU.obj _ _ l b hb
    exact (I'.pin (b,o) (g7 _ (g7 _ (zfx hb e)))).2.1
   refine thn (hg _ _ _ _ _ _ s7 σ5 H7 x u _ an r7 (step x H7 y7)) fun _ s8 ⟨σ8,H8,I8,q8⟩=>?_
   refine thn (ht _ _ _ _ _ _ s8 σ8 H8 _ I8 q8) fun b s9 ⟨H9,I9,q9⟩=>?_
   cases b with
   | false =>
    rw [if_neg Bool.false_ne_true] at q9 |-
    exact a I9 q9
   | true =>
    rw [if_pos rfl] at q9 |-
    refine thn (he _ _ _ _ _ _ s9 σ8 H9 _ I9 q9) fun v af ⟨y,aj,al,ak,acc,hD,hl,hn⟩=>?_
    refine thn (zet _ af σ8 aj (.ref s2.heap.objs.size) [y] (.ref s2.heap.objs.size) [v] (fun _ H'=>N σ8 H') al rfl (.cons ak .nil) ⟨_,acc,y,rfl,rfl,hD,hl,hn⟩) fun _ au ⟨_,ar,ah,_,ai⟩=>?_
    exact a ah ai
 exact codeAny_compStart_list j (TU.self _ 0 _ _ _ t j)
theorem zht {elt tg iter:Expr}{ifs:List Expr}{pos:Pos}{wi:TI}{g:TG}{tc:TT}{te:TE}(hc:X.calm=true)(T:zgr X scope own caps N')(hi:PI X tg iter wi)
  (hg:∀ cl C s H fp,PG (zcw X N' scope cl C s H fp) tg g)(ht:∀ cl C s H fp,PTs (zcw X N' scope cl C s H fp) ifs tc)(he:∀ cl C s H fp,PE (zcw X N' scope cl C s H fp) elt te)
  (hs:∀ x,foldedSetIterable iter X.env x=pure x:=by intro _; rfl):PE X (.ListComp elt [⟨tg,iter,ifs,0⟩] scope pos) (zyh wi g tc te (zvi own.length caps)):=by
 intro pins s σ H Q I h
 obtain ⟨cl,a,c,b⟩:=zgt (scope:=scope) (env:=X.env) (fun y hy hf=>I.ok.has y.1 (T.free y hy hf))
 rw [eval_ListComp]
 refine wpAny_comprehension_free (use:=none) rfl hs a T.kind T.names (znd hc T hi hg ht he I h c b (RR:=fun e C=>compPost (model X.prog X.w) X.A X.xe none (EP X pins σ Q) e C) ?_)
 intro s3 H3 D fp σ5 H5 s6 I3 f3 I6 qn
 obtain ⟨m,hn,_⟩:=I6.loc
 exact ⟨m,hn,fun h' d=>⟨.ref D,H5,I3.leaveComp f3 I6 d,rfl,qn⟩⟩
theorem zmk {elt tg iter:Expr}{ifs:List Expr}{pos spos py:Pos}{y:Str}{i:Nat}{wi:TI}{g:TG}{tc:TT}{te:TE}(hN:X.N.Nodup)(hi':X.N[i]? = some y)(hx:Loc X.env.scope y)(hc:X.calm=true)(T:zgr X scope own caps N')(hi:PI X tg iter wi)
  (hg:∀ cl C s H fp,PG (zcw X N' scope cl C s H fp) tg g)(ht:∀ cl C s H fp,PTs (zcw X N' scope cl C s H fp) ifs tc)(he:∀ cl C s H fp,PE (zcw X N' scope cl C s H fp) elt te)
  (hsw:swapsWith (.ListComp elt [⟨tg,iter,ifs,0⟩] scope pos) (some (.Name y py)) spos.line X.env=pure true:=by rfl)(hs:∀ x,foldedSetIterable iter X.env x=pure x:=by intro _; rfl)
  (hf:X.fn y=true\/X.env.scope.names.lookup y=some .local:=by first | exact .inl rfl | exact .inr rfl | assumption) :
  PS X (.Assign [.Name y py] (.ListComp elt [⟨tg,iter,ifs,0⟩] scope pos) spos) (z2c (zyh wi g tc te (zvi own.length caps)) (znn i)):=by
 intro pins s σ H Dn I h
 obtain ⟨cl,a,j,c⟩:=zgt (scope:=scope) (env:=X.env) (fun y hy hf=>I.ok.has y.1 (T.free y hy hf))
 rw [exec_Assign_Name_used _ _ _ _ hsw]
 refine wpAny_bind (wpAny_standAt (wpAny_bind ?_))
 show wpAny _ X.A (do let _ <- comprehension (.ListComp elt [⟨tg,iter,ifs,0⟩] scope pos) scope X.env _ (newList []) false (eval iter X.env) (some (assign (.Name y py) X.env))) _ _ s
 refine wpAny_bind (wpAny_mono (wpAny_comprehension_free (use:=some (assign (.Name y py) X.env)) (Q:=fun _ s'=>SP X pins Dn .next s') rfl hs a T.kind T.names
  (znd hc T hi hg ht he I h j c (RR:=fun o C=>compPost (model X.prog X.w) X.A X.xe (some (assign (.Name y py) X.env)) (fun _ s'=>SP X pins Dn .next s') o C) ?_)) (fun _ s' hq=>wpAny_pure (wpAny_pure hq)) fun _ _ e=>e)
 intro s3 H3 D fp σ5 H5 s6 I3 f3 I6 qn
 obtain ⟨m,⟨oC,es,ep,n,d,rC⟩,_⟩:=I6.loc
 have I7:Inv X pins σ H5 { s6 with heap:=s6.heap }:=I3.leaveComp f3 I6 (Heap.SameBut.refl _ _)
 have fC:zp2 X pins H5 s3.heap.objs.size:=I3.fpOk (gv _) I6.free
 have I8:Inv X (pins++[(s3.heap.objs.size,oC)]) σ H5 s6:=I7.pins_of fun p hp=>by
  rcases gm.mp hp with z | z
  ·exact I7.pin p (g7 _ z)
  ·rw [gb.mp z]
   exact ⟨n,fC.1,fC.2.1,fC.2.2.1,fun v q=>by rw [d] at q; cases q⟩
 show wpAny _ X.A (assign (.Name y py) X.env (.ref D)) _ _ s6
 refine wpAny_assign_Name (zmd I8 hN hi' hx (v:= .ref D) rfl (fun s9 I9=>?_) hf)
 have f:=(I9.pin (s3.heap.objs.size,oC) (g7 _ (g7 _ gj))).1
 refine ⟨m,⟨oC,es,ep,f,d,rC⟩,fun h' l=>?_⟩
 have r:Inv X pins (σ.set i (some (.ref D))) H5 s9:=I9.unpinned
 exact ⟨_,H5,r.turnN (t':=s9.toks) (ch:=[s3.heap.objs.size]) (fun b u hb q=>(l.2 b (fun z=>hb (by simp [z]))).trans q) fun b hb=>by rw [gb.mp hb]; exact fC,qn⟩
end
def zxm (outer:Scope)(N:List Str)(scope:Scope)(own:List Str)(caps:List Nat)(N':List Str):Bool :=
 (scope.kind == .function) && scope.names.all (fun y=>y.2 != .cell) && scope.names.all (fun y=>y.2 != .local || scope.names.lookup y.1 == some .local) &&
 scope.names.all (fun y=>y.2 != .free || (outer.names.lookup y.1 == some .cell || outer.names.lookup y.1 == some .free)) && decide (N'=own++caps.filterMap fun i=>N[i]?) &&
 caps.all (fun i=>match N[i]? with | some x=>scope.names.lookup x == some .free | none=>false)
theorem zif {env:Env}:∀ {names:List (Str × NameKind)} {x:Str},(∀ y∈names,y.2≠ .cell) ->
  ((names.map fun (n,k)=>if (k == NameKind.free && env.scope.kind == .function && env.kindOf n == some .cell) then (n,NameKind.cell) else (n,k)).lookup x=some .cell \/
   (names.map fun (n,k)=>if (k == NameKind.free && env.scope.kind == .function && env.kindOf n == some .cell) then (n,NameKind.cell) else (n,k)).lookup x=some .free)->(x,NameKind.free)∈names
 | [],_,_,h=>by simp at h
 | (n,k) :: r,x,hn,h=>by
  have ih:=@zif env r x (fun y hy=>hn y (gc _ hy))
  have hk:k≠ .cell:=hn (n,k) gj
  change List.lookup x ((if (k == NameKind.free && env.scope.kind == .function && env.kindOf n == some .cell)=true then (n,NameKind.cell) else (n,k)) :: _)=_ \/
   List.lookup x ((if (k == NameKind.free && env.scope.kind == .function && env.kindOf n == some .cell)=true then (n,NameKind.cell) else (n,k)) :: _)=_ at h
  cases hx:x == n with
  | true =>
   have e:=beq_iff_eq.mp hx
   subst e
   by_cases hc:(k == NameKind.free && env.scope.kind == .function && env.kindOf x == some .cell)=true
   ·have:k = .free:=by
     rw [j4,j4] at hc
     simpa using hc.1.1
    rw [this]
    exact gj
   ·rw [if_neg hc] at h
    simp only [ii,hx] at h
    rcases h with h | h
    ·exact absurd (Option.some.inj h) hk
    ·rw [Option.some.inj h]
     exact gj
  | false =>
   refine gc _ (ih ?_)
   by_cases hc:(k == NameKind.free && env.scope.kind == .function && env.kindOf n == some .cell)=true
   ·rw [if_pos hc] at h
    simpa only [ii,hx] using h
   ·rw [if_neg hc] at h
    simpa only [ii,hx] using h
theorem zbn {X:Cx}{scope:Scope}{own N':List Str}{caps:List Nat}(h:zxm X.env.scope X.N scope own caps N'=true):zgr X scope own caps N':=by
 unfold zxm at h
 simp only [j4] at h
 obtain ⟨⟨⟨⟨⟨h1,h2⟩,h3⟩,h4⟩,h5⟩,h6⟩:=h
 have nc:∀ y∈scope.names,y.2≠ .cell:=fun y hy=>by simpa using jo.mp h2 y hy
 have cp:∀ i∈caps,∃ x,X.N[i]? = some x/\scope.names.lookup x=some .free:=fun i hi=>by
  have q:=jo.mp h6 i hi
  cases e:X.N[i]? with
  | none =>
   rw [e] at q
   cases q
  | some x =>
   rw [e] at q
   exact ⟨x,rfl,by simpa using q⟩
 refine ⟨by simpa using h1,nc,fun y hy hl=>?_,fun y hy hf=>?_,of_decide_eq_true h5,fun i hi=>?_,fun i hi x e=>?_,fun x hx=>zif nc hx⟩
 ·have q:=jo.mp h3 y hy
  rw [hl] at q
  simpa using q
 ·have q:=jo.mp h4 y hy
  rw [hf] at q
  simp at q
  exact q
 ·obtain ⟨x,e,_⟩:=cp i hi
  exact (List.getElem?_eq_some_iff.mp e).1
 ·obtain ⟨y,e',q⟩:=cp i hi
  rw [e] at e'
  cases e'
  exact q
theorem zem {K:W.Frag}{a D:Addr}{xs:List V}{g:TG}{tc:TT}{te:TE}{Q:VK}{σ:St}{H:Hp}(Pv:Nat->St->Hp->Prop)(h0:Pv 0 σ H)(hl:∀ i σ H,i<=xs.length->Pv i σ H->SqL K H a xs)
  (hs:∀ i x σ H,xs[i]? = some x->Pv i σ H->g x σ H fun σ3 H3=>tc σ3 H3 fun b H4=>if b=true then te σ3 H4 fun y H5=>∃ acc,H5 D=some (.lst acc)/\acc.length<sizeLine/\Pv (i+1) σ3 (upd H5 D (.lst (acc++[y]))) else Pv (i+1) σ3 H4)
  (hd:∀ σ H,Pv xs.length σ H->Q (.ref D) H) :
  zuf (Itl K a) g tc te Q D σ H:=by
 refine ⟨fun i m σ H=>m=xs.length - i/\i<=xs.length/\Pv i σ H,⟨xs.length,by simp,ix _,h0⟩,?_⟩
 rintro i m σ H ⟨rfl,hi,p⟩
 have q:=hl i σ H hi p
 by_cases c:i<xs.length
 ·refine .inr ⟨⟨xs,xs[i],q,by simp [c]⟩,Pv (i+1),fun σ' H' p'=>⟨xs.length - (i+1),by omega,rfl,c,p'⟩,fun x H' y=>?_⟩
  obtain ⟨e,y⟩:=y
  subst e
  exact hs i x σ _ (y xs q) p
 ·have e:i=xs.length:=by omega
  subst e
  exact .inl ⟨⟨xs,q,gv _⟩,hd σ H p⟩
theorem zrs {lo:Int}{n:Nat}{D:Addr}{g:TG}{tc:TT}{te:TE}{Q:VK}{σ:St}{H:Hp}(Pv:Nat->St->Hp->Prop)(h0:Pv 0 σ H)
  (hs:∀ i σ H,i<n->Pv i σ H->g (.int (lo+i)) σ H fun σ3 H3=>tc σ3 H3 fun b H4=>if b=true then te σ3 H4 fun y H5=>∃ acc,H5 D=some (.lst acc)/\acc.length<sizeLine/\Pv (i+1) σ3 (upd H5 D (.lst (acc++[y]))) else Pv (i+1) σ3 H4)
  (hd:∀ σ H,Pv n σ H->Q (.ref D) H) :
  zuf (Itr lo n) g tc te Q D σ H:=by
 refine ⟨fun i m σ H=>m=n - i/\i<=n/\Pv i σ H,⟨n,by simp,ix _,h0⟩,?_⟩
 rintro i m σ H ⟨rfl,hi,p⟩
 by_cases a:i<n
 ·refine .inr ⟨a,Pv (i+1),fun σ' H' p'=>⟨n - (i+1),by omega,rfl,a,p'⟩,fun x H' y=>?_⟩
  obtain ⟨e,y⟩:=y
  subst e y
  exact hs i σ _ a p
 ·have e:i=n:=by omega
  subst e
  exact .inl ⟨gv _,hd σ H p⟩
mutual
def DV (K:W.Frag)(H:Hp):PyData->V->Prop
 | .none,v=>v = .non
 | .bool b,v=>v = .bl b
 | .int i,v=>v = .int i
 | .str x,v=>v = .str x
 | .list ds,v=>∃ a xs,v = .ref a/\SqL K H a xs/\DVs K H ds xs
 | .tuple ds,v=>∃ a xs,v = .ref a/\SqT K H a xs/\DVs K H ds xs
 | .dict _,_=>False
def DVs (K:W.Frag)(H:Hp):List PyData->List V->Prop
 | [],xs=>xs=[]
 | d :: ds,xs=>∃ x r,xs=x :: r/\DV K H d x/\DVs K H ds r
end
section
variable {X:Cx} {pins:List (Addr × Obj)} {σ:St} {H:Hp} {s:Shared}
mutual
theorem Inv.reads (I:Inv X pins σ H s):∀ (d:PyData) (v:V) (u:Value),DV X.K H d v->zbs v u->∃ as,Reads s.heap u d as
 | .none,v,u,h,r=>by
  unfold DV at h
  subst h
  cases (show u=Value.none from r)
  exact ⟨_,.none⟩
 | .bool b,v,u,h,r=>by
  unfold DV at h
  subst h
  cases (show u=Value.bool b from r)
  exact ⟨_,.bool b⟩
 | .int i,v,u,h,r=>by
  unfold DV at h
  subst h
  obtain ⟨t,rfl⟩:=(show ∃ t,u=Value.int i t from r)
  exact ⟨_,.int i t⟩
 | .str x,v,u,h,r=>by
  unfold DV at h
  subst h
  obtain ⟨t,rfl⟩:=(show ∃ t,u=Value.str x t from r)
  exact ⟨_,.str x t⟩
 | .list ds,v,u,h,r=>by
  unfold DV at h
  obtain ⟨a,xs,rfl,hq,hd⟩:=h
  cases (show u=Value.ref a from r)
  obtain ⟨its,rv,p,_⟩:=I.list hq
  obtain ⟨as,ra⟩:=Inv.readsAll I ds xs its hd rv
  obtain ⟨o,e,c,n,q⟩:=p.isList
  exact ⟨_,.list e c q (by simpa using ra)⟩
 | .tuple ds,v,u,h,r=>by
  unfold DV at h
  obtain ⟨a,xs,rfl,hq,hd⟩:=h
  cases (show u=Value.ref a from r)
  obtain ⟨its,rv,p,_⟩:=I.tuple hq
  obtain ⟨as,ra⟩:=Inv.readsAll I ds xs its hd rv
  obtain ⟨o,e,c,n,q⟩:=(show s.heap.IsTuple a its.toArray from p)
  exact ⟨_,.tuple e c q (by simpa using ra)⟩
 | .dict _,v,u,h,r=>by
  unfold DV at h
  exact h.elim
theorem Inv.readsAll (I:Inv X pins σ H s):∀ (ds:List PyData) (xs:List V) (us:List Value),DVs X.K H ds xs->zb3 xs us->∃ as,ReadsAll s.heap us ds as
 | [],xs,us,h,r=>by
  unfold DVs at h
  subst h
  cases r
  exact ⟨_,.nil⟩
 | d :: ds,xs,us,h,r=>by
  unfold DVs at h
  obtain ⟨x,xr,rfl,h1,h2⟩:=h
  cases r with
  | cons r1 r2 =>
   obtain ⟨as,ra⟩:=Inv.reads I d x _ h1 r1
   obtain ⟨bs,rb⟩:=Inv.readsAll I ds xr _ h2 r2
   exact ⟨_,.cons ra rb⟩
end
end
def z2r (K:W.Frag)(neg:Bool):R2:=fun x y H Q=>∃ da db,DV K H da x/\DV K H db y/\da.canLay0=true/\db.canLay0=true/\da.depth<=64/\Q (.bl (if neg then !PyData.eqv da db else PyData.eqv da db)) H
theorem z1h {X:Cx}(hu:X.A.units+64<cLine):OpR X (compareOp .Eq) (z2r X.K false):=by
 intro pins s σ H x y v u Q I rx ry h
 obtain ⟨da,db,h1,h2,c1,c2,hd,q⟩:=h
 obtain ⟨as,ra⟩:=I.reads da x v h1 rx
 obtain ⟨bs,rb⟩:=I.reads db y u h2 ry
 exact SeqAt.compareEq_reads ra rb c1 c2 (by have:=Nat.min_le_left da.depth db.depth; omega) ⟨.bl _,H,I,rfl,q⟩
theorem zxr {X:Cx}(hu:X.A.units+64<cLine):OpR X (compareOp .NotEq) (z2r X.K true):=by
 intro pins s σ H x y v u Q I rx ry h
 obtain ⟨da,db,h1,h2,c1,c2,hd,q⟩:=h
 obtain ⟨as,ra⟩:=I.reads da x v h1 rx
 obtain ⟨bs,rb⟩:=I.reads db y u h2 ry
 exact SeqAt.compareNe_reads ra rb c1 c2 (by have:=Nat.min_le_left da.depth db.depth; omega) ⟨.bl _,H,I,rfl,q⟩
theorem zqv {K:W.Frag}{H:Hp}:∀ ns:List Int,DVs K H (ns.map PyData.int) (ns.map V.int)
 | []=>by unfold DVs; rfl
 | n :: r=>by
  unfold DVs
  exact ⟨_,_,rfl,by unfold DV; rfl,zqv r⟩
theorem zsf {K:W.Frag}{H:Hp}{a:Addr}{ns:List Int}(h:SqL K H a (ns.map V.int)):DV K H (.list (ns.map PyData.int)) (.ref a):=by
 unfold DV
 exact ⟨a,_,rfl,h,zqv ns⟩
theorem zm5:∀ ns:List Int,PyData.canLayAll0 (ns.map PyData.int)=true
 | []=>by unfold PyData.canLayAll0; rfl
 | n :: r=>by
  show PyData.canLayAll0 (PyData.int n :: r.map PyData.int)=true
  unfold PyData.canLayAll0
  rw [zm5 r]
  unfold PyData.canLay0
  rfl
theorem znj:∀ ns:List Int,PyData.depthAll (ns.map PyData.int)=0
 | []=>by unfold PyData.depthAll; rfl
 | n :: r=>by
  show PyData.depthAll (PyData.int n :: r.map PyData.int)=0
  unfold PyData.depthAll
  rw [znj r]
  unfold PyData.depth
  rfl
def z22 (K:W.Frag)(neg:Bool):R2:=fun x y H Q=>∃ (a b:Addr) (ns ms:List Int),x = .ref a/\y = .ref b/\SqL K H a (ns.map V.int)/\SqL K H b (ms.map V.int)/\Q (.bl (if neg then !decide (ns=ms) else decide (ns=ms))) H
theorem zxb {K:W.Frag}{neg:Bool}{x y:V}{H:Hp}{Q:VK}(h:z22 K neg x y H Q):z2r K neg x y H Q:=by
 obtain ⟨a,b,ns,ms,rfl,rfl,h1,h2,q⟩:=h
 have e:PyData.eqv (.list (ns.map PyData.int)) (.list (ms.map PyData.int))=decide (ns=ms):=by
  unfold PyData.eqv
  exact PySem.W.ked_eqvAll ns ms
 refine ⟨.list (ns.map PyData.int),.list (ms.map PyData.int),zsf h1,zsf h2,?_,?_,?_,?_⟩
 ·unfold PyData.canLay0
  exact zm5 ns
 ·unfold PyData.canLay0
  exact zm5 ms
 ·unfold PyData.depth
  rw [znj]
  decide
 ·rw [e]
  exact q
theorem z2l {X:Cx}(hu:X.A.units+64<cLine):OpR X (compareOp .Eq) (z22 X.K false):=fun pins s σ H x y v u Q I rx ry h=>z1h hu pins s σ H x y v u Q I rx ry (zxb h)
theorem z0w {X:Cx}(hu:X.A.units+64<cLine):OpR X (compareOp .NotEq) (z22 X.K true):=fun pins s σ H x y v u Q I rx ry h=>zxr hu pins s σ H x y v u Q I rx ry (zxb h)
theorem zo8 {α:Type}{g:α->PyData}:∀ {xs:List α},(∀ x∈xs,(g x).canLay0=true)->PyData.canLayAll0 (xs.map g)=true
 | [],_=>by unfold PyData.canLayAll0; rfl
 | x :: r,h=>by
  show PyData.canLayAll0 (g x :: r.map g)=true
  unfold PyData.canLayAll0
  rw [h x gj,zo8 fun y hy=>h y (gc _ hy)]
  rfl
theorem zmh {α:Type}{g:α->PyData}{n:Nat}:∀ {xs:List α},(∀ x∈xs,(g x).depth<=n)->PyData.depthAll (xs.map g)<=n
 | [],_=>by unfold PyData.depthAll; exact ix _
 | x :: r,h=>by
  show PyData.depthAll (g x :: r.map g)<=n
  unfold PyData.depthAll
  exact Nat.max_le.mpr ⟨h x gj,zmh fun y hy=>h y (gc _ hy)⟩
theorem zub {X:Cx}:MtR X "int.bit_length" (fun x xs H Q=>∃ i,x = .int i/\xs=[]/\Q (.int (Builtin.Int.intBits i:Nat)) H):=by
 intro pins s σ H x xs v us Q I rx rs h
 obtain ⟨i,rfl,rfl,q⟩:=h
 obtain ⟨t,rfl⟩:=rx
 cases rs
 exact call_int_bit_length ⟨.int (Builtin.Int.intBits i:Nat),H,I.tok _,⟨_,rfl⟩,q⟩
theorem zoc {X:Cx}{o:Expr}{to:TE}{apos cpos:Pos}(ho:PE X o to)(hbase:attributeBase o "bit_length" X.env (eval o X.env)=eval o X.env:=by rfl)(hline:(apos.endLine == cpos.line)=true:=by rfl) :
  PE X (.Call (.Attribute o "bit_length" apos) [] [] cpos) (z3z X.K "int" (fun x xs H Q=>∃ i,x = .int i/\xs=[]/\Q (.int (Builtin.Int.intBits i:Nat)) H) to) :=
 zxu PySem.F.plainAttrs_int PySem.F.slot_int_bit_length PySem.F.type_int_bit_length zub ho hbase hline
def zf4 (H:Hp)(c:Addr)(v:V):Prop:=∃ o u k,H c=some (.frz o k)/\o.data = .cell (some u)/\zbs v u
theorem zf4.same {H H':Hp}{c:Addr}{v:V}(x:zf4 H c v)(h:∀ o k,H c=some (.frz o k)->H' c=some (.frz o k)):zf4 H' c v:=by
 obtain ⟨o,u,k,e,r⟩:=x
 exact ⟨o,u,k,h o k e,r⟩
section
variable {X:Cx} {pins:List (Addr × Obj)} {σ:St} {H:Hp} {s:Shared}
theorem Inv.freeze {x:Str}{c:Addr}{o:Obj}(I:Inv X pins σ H s)(hfn:X.fn x=false)(hc:X.env.cells.lookup x=some c)(hn:H c=none)(hab:X.s₀.heap.objs.size<=c)(ho:s.heap.get? c=some o) :
  Inv X pins σ (upd H c (.frz o (.own c))) s:=by
 have ne:∀ b u,H b=some u->b≠c:=fun b u e=>zae e hn
 obtain ⟨w,oc,f,g⟩:=I.cell x c hc
 rw [ho] at f
 cases f
 refine ⟨I.ok,I.os,I.bare,⟨I.base.keep,I.base.slot,fun b u e n hx=>?_,I.base.there,fun b xs e=>?_,fun b u k e=>?_,fun b ps e=>?_⟩,I.loc,I.cell,?_,fun y c' e=>?_,fun p hp=>?_,fun b u e=>?_,I.len⟩
 ·rw [zab (i0 (gs (i3 e) hab))]
  exact I.base.free b u e n hx
 ·have z:=I.base.tups b xs e
  rw [zab (ne b _ z)]
  exact z
 ·have z:=I.base.frzs b u k e
  rw [zab (ne b _ z)]
  exact z
 ·obtain ⟨m,z⟩:=I.base.tbls b ps e
  exact ⟨m,by rw [zab (ne b _ z)]; exact z⟩
 ·rw [zab (fun z=>I.cne x c hc z.symm)]
  exact I.free
 ·by_cases a:c'=c
  ·subst a
   have:=I.ok.inj _ _ _ e hc
   subst this
   exact ⟨fun z=>absurd (hfn.symm.trans z) Bool.false_ne_true,.inr ⟨o,_,zad⟩⟩
  ·rw [zab a]
   exact I.freeC y c' e
 ·obtain ⟨e,n,h,nf,d⟩:=I.pin p hp
  refine ⟨e,?_,h,nf,d⟩
  rw [zab]
  ·exact n
  ·intro z
   rw [z,ho] at e
   cases e
   exact d _ g
 ·by_cases hb:b=c
  ·subst hb
   rw [zad] at e
   cases e
   exact ⟨ho,o,ho⟩
  ·rw [zab hb] at e
   exact (I.hok b u e).stay (fun _ _ _ q=>q) (fun d q=>by rw [zab (ne d _ q)]; exact q) fun d xs q=>by rw [zab (ne d _ q)]; exact q
end
section
variable {P:Program} {w:World} {K:W.Frag} {mg:Str->Option Value} {base:Heap}
theorem znq {X:Cx}{σ:St}{s:Shared}{Hb:Hp}(N ps:List Str)(vs:List V)(hps:∀ (i:Nat) x v,ps[i]? = some x->vs[i]? = some v->X.N[i]? = some x/\σ[i]? = some (some v))(hab:∀ x c,X.env.cells.lookup x=some c->X.s₀.heap.objs.size<=c) :
  ∀ (fz:List Str) (H:Hp),(∀ x∈fz,X.fn x=false/\X.env.scope.names.lookup x=some .cell)->Inv X [] σ H s->zax Hb H->(∀ x c,X.env.cells.lookup x=some c->Hb c=none) ->
   ∃ H1,Inv X [] σ H1 s/\zax Hb H1/\(∀ b o,H b=some o->H1 b=some o)/\∀ (i:Nat) x v,x∈fz->ps[i]? = some x->vs[i]? = some v->∃ c,X.env.cells.lookup x=some c/\zf4 H1 c v
 | [],H,_,I,sm,_=>⟨H,I,sm,fun _ _ e=>e,fun _ _ _ hx=>(nomatch hx)⟩
 | x :: r,H,hf,I,sm,hb=>by
  have hx:=hf x gj
  obtain ⟨c,hc⟩:=I.ok.has x (.inl hx.2)
  obtain ⟨w',oc,hoc,hdc⟩:=I.cell x c hc
  obtain ⟨H2,I2,s2,k2,hz⟩:∃ H2,Inv X [] σ H2 s/\zax Hb H2/\(∀ b o,H b=some o->H2 b=some o)/\∃ k,H2 c=some (.frz oc k):=by
   rcases (I.freeC x c hc).2 with z | ⟨o,u,z⟩
   ·refine ⟨_,I.freeze hx.1 hc z (hab x c hc) hoc,fun b o e=>?_,fun b o e=>?_,_,zad⟩
    ·rw [zab (zae (sm b o e) z)]
     exact sm b o e
    ·rw [zab (zae e z)]
     exact e
   ·obtain ⟨z1,_⟩:=I.hok c _ z
    rw [hoc] at z1
    cases z1
    exact ⟨H,I,sm,fun _ _ e=>e,u,z⟩
  obtain ⟨H3,I3,s3,k3,h3⟩:=znq N ps vs hps hab r H2 (fun y hy=>hf y (gc _ hy)) I2 s2 hb
  refine ⟨H3,I3,s3,fun b o e=>k3 b o (k2 b o e),fun i y v hy e1 e2=>?_⟩
  by_cases d:y=x
  ·subst d
   obtain ⟨hN,hσ⟩:=hps i y v e1 e2
   obtain ⟨m,hn,hl⟩:=I.loc
   obtain ⟨u,ru,l⟩:=hl i y v hN hσ (.inr (.inl hx.2))
   rcases l with ⟨q,_⟩ | ⟨_,c',a,o',f,g⟩
   ·rw [show X.env.kindOf y=some .cell from hx.2] at q
    cases q
   ·rw [hc] at a
    cases a
    rw [hoc] at f
    cases f
    obtain ⟨k,z⟩:=hz
    exact ⟨c,hc,oc,u,k,k3 c _ z,g,ru⟩
  ·rcases gx.mp hy with q | q
   ·exact absurd q d
   ·exact h3 i y v q e1 e2
theorem zxh {k:Nat}{f:Addr}{name qual:Str}{params:Arguments}{body:List Stmt}{scope:Scope}{dV kV doc pm cdv ct oc:Value}{an od:Option Addr}
  {osl:Array (Option Value)}{N ps fz:List Str}{sp:Sp}(lk:K.lookup f=some ⟨oc,od,.func (PySem.W.fnOf name qual params body scope dV kV doc pm an cdv ct),osl⟩)(hcd:PySem.W.codeIn K cdv qual=true)(S:zam N ps scope)
  (hfz:∀ x∈fz,scope.names.lookup x=some .cell)(len:∀ vs H Q E,sp vs H Q E->vs.length=ps.length)
  (hbody:∀ (A:Around) (outer:List Env) (s:Shared) (H:Hp) (vs:List V) (Q:VK) (E:XK),zej k (A.deeper (envOfC qual scope s.heap.objs.size f cdv))->sp vs H Q E ->
   ∀ H1:Hp,zax H H1->(∀ (i:Nat) x v,x∈fz->ps[i]? = some x->vs[i]? = some v->∃ c,(envOfC qual scope s.heap.objs.size f cdv).cells.lookup x=some c/\zf4 H1 c v) ->
   ∃ t,PSs (zq1 CX0 P w K mg base N qual scope f cdv A outer s H E (fun x=> !fz.contains x)).nox body t/\t { nx:=fun _ H'=>Q .non H',rt:=Q } (start N vs) H1) :
  zdm P w K mg base CX0 (k+1) f (PySem.W.fnOf name qual params body scope dV kV doc pm an cdv ct) ps sp:=by
 refine ⟨len,fun A outer s H args us vs Q E hr e0 hb r g=>?_⟩
 have hl:=len _ _ _ _ g
 have KX:K.In s.heap:=e0.mod.kin.keeps fun b o e=>(e0.bs b o e).1
 have l:s.heap.NoLimit:=e0.mod.nolimit.keeps fun b o e=>(e0.bs b o e).1
 have m:ps.length<=N.length:=by have:=congrArg l9 S.pre; rw [i5] at this; omega
 have a:∀ y∈ps.zip us,scope.names.lookup y.1=some .local\/(scope.names.lookup y.1=some .cell/\((cellsFrom (s.heap.objs.size+1) scope.names []).lookup y.1).isSome=true):=fun ⟨n,v⟩ hy=>by
  rcases S.par n (ki hy).1 with q | q
  ·exact .inl q
  ·exact .inr ⟨q,kj _ _ _ (.inl q)⟩
 refine codeAny_call_function hr.depth (KX _ _ lk) rfl S.co S.gen rfl (n9 KX hcd) (hb _ _ _ _ ?_)
 refine wpAny_newFunctionEnv_cells S.kind a fun env he s1 x=>?_
 subst he
 refine ⟨l.keeps x.toInCall.keep,codeAny_func ?_⟩
 have I:Inv (zq1 CX0 P w K mg base N qual scope f cdv A outer s H E (fun x=> !fz.contains x)) [] (start N vs) H s1:=zof S hr.hd e0 hl r x
 have j:∀ (i:Nat) y v,ps[i]? = some y->vs[i]? = some v->N[i]? = some y/\(start N vs)[i]? = some (some v):=fun i y v e1 e2=>by
  have hi:i<ps.length:=(List.getElem?_eq_some_iff.mp e1).1
  refine ⟨?_,?_⟩
  ·rw [<- S.pre,List.getElem?_take_of_lt hi] at e1
   exact e1
  ·unfold start
   rw [List.getElem?_append_left (by simp; omega),List.getElem?_map,e2]
   rfl
 obtain ⟨H1,I1,sm,_,h⟩:=znq (X:=zq1 CX0 P w K mg base N qual scope f cdv A outer s H E (fun x=> !fz.contains x)) (Hb:=H) N ps vs j
  (fun y c e=>ie (x.above y c (PySem.mem_of_lookup e))) fz H (fun y hy=>⟨by show (!fz.contains y)=false; simp [hy],hfz y hy⟩) I (zax.refl H) (fun y c e=>e0.hok.fresh (ie (x.above y c (PySem.mem_of_lookup e))))
 obtain ⟨t,ht,hq⟩:=hbody A outer s H vs Q E (hr.deeper _) g H1 sm h
 refine wpAny_mono (ht.nox [] s1 (start N vs) H1 _ I1 hq) (fun fl s' hs=>?_) fun e s' hs=>hs
 have d:∀ {σ':St} {H':Hp} {v:V} {u:Value},Inv (zq1 CX0 P w K mg base N qual scope f cdv A outer s H E (fun x=> !fz.contains x)) [] σ' H' s'->zbs v u->Q v H'->CE outer P w H s Q u s' :=
  fun {σ' H' v u} J rv q=>⟨v,H',J.os,J.bare,J.base,J.hok,rv,q⟩
 cases fl with
 | ret u =>
  obtain ⟨v,σ',H',J,rv,q⟩:=hs
  exact d J rv q
 | next =>
  obtain ⟨σ',H',J,q⟩:=hs
  exact d (v:=V.non) (u:=Value.none) J rfl q
 | brk =>
  obtain ⟨_,_,_,q⟩:=hs
  exact False.elim q
 | cont =>
  obtain ⟨_,_,_,q⟩:=hs
  exact False.elim q
end
def zeo (oc:Obj)(qual:Str):Prop:=∃ vs t,oc.data = .fields vs/\vs[1]? = some (.str qual t)
structure zhd (N ps fr:List Str)(sc:Scope):Prop where
 kind:sc.kind = .function
 co:sc.isCoroutine=false
 gen:sc.isGenerator=false
 nd:N.Nodup
 pre:N.take (ps++fr).length=ps++fr
 par:∀ x∈ps,sc.names.lookup x=some .local
 fre:∀ x∈fr,sc.names.lookup x=some .free
 nocell:∀ y∈sc.names,y.2≠ .cell
 allfr:∀ y∈sc.names,y.2 = .free->y.1∈fr
 look:∀ y∈sc.names,sc.names.lookup y.1=some y.2
def zqd (qual:Str)(scope:Scope)(clos:List (Str × Addr))(L a:Addr)(cd:Value):Env :=
 { scope:=scope,locals:=L,globals:=mainGlobals,cells:=clos,qual:=qual ++ ".<locals>.",func:=some a,code:=cd,frame:=some L,builtins:=builtinsNs }
def zz9 (P:Program)(w:World)(K:W.Frag)(mg:Str->Option Value)(base:Heap)(N:List Str)(qual:Str)(scope:Scope)(clos:List (Str × Addr))(f:Addr)(cd:Value)(A:Around)(outer:List Env)(s:Shared)(H:Hp):Cx where
 prog:=P
 w:=w
 K:=K
 mg:=mg
 base:=base
 A:=A.deeper (zqd qual scope clos s.heap.objs.size f cd)
 N:=N
 s₀:=s
 H₀:=H
 env:=zqd qual scope clos s.heap.objs.size f cd
 outer:=outer
 stack:=zqd qual scope clos s.heap.objs.size f cd :: outer
 ex:=[]
 calm:=true
 fn:=fun _=>false
 pn:=[]
 xe:=fun _ _=>False
theorem zk5 {us:List Value}{x:Str}{u:Value}:∀ {ps:List Str} {us:List Value} {i:Nat},ps.Nodup->ps[i]? = some x->us[i]? = some u->(ps.zip us).reverse.lookup x=some u:=by
 intro ps us i nd h1 h2
 have mem:(x,u)∈(ps.zip us).reverse:=by
  rw [List.mem_reverse]
  refine i4 (i:=i) ?_
  rw [List.getElem?_zip_eq_some]
  exact ⟨h1,h2⟩
 have a:∀ (l:List (Str × Value)),(∀ v,(x,v)∈l->v=u)->(x,u)∈l->l.lookup x=some u:=by
  intro l
  induction l with
  | nil=>intro _ h; cases h
  | cons p r ih =>
   intro hu hm
   obtain ⟨n,v⟩:=p
   rw [ii]
   by_cases e:(x == n)=true
   ·rw [e]
    have e':=beq_iff_eq.mp e
    subst e'
    exact congrArg some (hu v gj)
   ·rw [jr.mpr e]
    refine ih (fun v hv=>hu v (gc _ hv)) ?_
    rcases gx.mp hm with q | q
    ·cases q
     exact absurd (beq_self_eq_true x) e
    ·exact q
 refine a _ (fun v hv=>?_) mem
 rw [List.mem_reverse] at hv
 obtain ⟨j,hj⟩:=List.getElem?_of_mem hv
 rw [List.getElem?_zip_eq_some] at hj
 have:j=i:=zlx nd hj.1 h1
 subst this
 rw [h2] at hj
 exact (Option.some.inj hj.2).symm
section
theorem zds {env:Env}:∀ (names:List (Str × NameKind)) (acc cl:List (Str × Addr)),
  (forIn names acc fun (x:Str × NameKind) cs=>if (x.2 == NameKind.free)=true then (do let a <- cellOf env x.1; pure (ForInStep.yield ((x.1,a) :: cs))) else pure (ForInStep.yield cs):Sem (List (Str × Addr)))=pure cl ->
  (∀ y∈names,y.2 = .free->∃ c,env.cells.lookup y.1=some c)->∀ x c,cl.lookup x=some c->(x,NameKind.free)∈names\/∃ d,acc.lookup x=some d
 | [],acc,cl,e,_,x,c,h=>by
  have e':(pure acc:Sem (List (Str × Addr)))=pure cl:=e
  have:acc=cl:=by injection e'
  subst this
  exact .inr ⟨c,h⟩
 | (n,k) :: r,acc,cl,e,hn,x,c,h=>by
  rw [mf] at e
  by_cases hk:k = .free
  ·obtain ⟨d,hd⟩:=hn (n,k) gj hk
   rw [if_pos (by rw [hk]; rfl)] at e
   have f:cellOf env n=pure d:=by unfold cellOf; rw [hd]
   change ((cellOf env n >>= fun a=>pure (ForInStep.yield ((n,a) :: acc))) >>= _)=_ at e
   rw [f,pure_bind,pure_bind] at e
   rcases zds r ((n,d) :: acc) cl e (fun y hy=>hn y (gc _ hy)) x c h with z | ⟨d',z⟩
   ·exact .inl (gc _ z)
   ·rw [ii] at z
    by_cases hx:(x == n)=true
    ·have b:=beq_iff_eq.mp hx
     subst b hk
     exact .inl gj
    ·rw [jr.mpr hx] at z
     exact .inr ⟨d',z⟩
  ·rw [if_neg (by simpa using hk),pure_bind] at e
   rcases zds r acc cl e (fun y hy=>hn y (gc _ hy)) x c h with z | z
   ·exact .inl (gc _ z)
   ·exact .inr z
theorem zk6 {scope:Scope}{env:Env}(hn:∀ y∈scope.names,y.2 = .free->∃ c,env.cells.lookup y.1=some c) :
  ∃ cl,closureFor scope env=pure cl/\(∀ x c,cl.lookup x=some c->env.cells.lookup x=some c)/\(∀ y∈scope.names,y.2 = .free->∃ c,cl.lookup y.1=some c)/\∀ x c,cl.lookup x=some c->(x,NameKind.free)∈scope.names:=by
 obtain ⟨cl,e1,h1,h2,_⟩:=zfq (env:=env) scope.names [] hn (fun x c h=>by cases h)
 refine ⟨cl,?_,h1,h2,fun x c h=>?_⟩
 ·unfold closureFor
  rw [<- e1,bind_pure]
 ·rcases zds scope.names [] cl e1 hn x c h with z | ⟨d,z⟩
  ·exact z
  ·cases z
end
def Tab (H:Hp)(P:Addr)(pos:Pos)(qual:Str):Prop:=∃ ps,H P=some (.tbl ps)/\TriplesOk ps.toList /\
 (codeAmong pos ps.toList=none\/∃ c' oc k,codeAmong pos ps.toList=some (.ref c')/\H c'=some (.frz oc k)/\zeo oc qual)
theorem Tab.new {H:Hp}{P:Addr}{pos:Pos}{qual:Str}(h:H P=some (.tbl #[])):Tab H P pos qual:=⟨#[],h,trivial,.inl rfl⟩
def But (P:Addr)(H H':Hp):Prop:=(∀ b o,b≠P->H b=some o->H' b=some o)/\∀ pos qual,Tab H P pos qual->Tab H' P pos qual
theorem zh8 {a b c:Value}{i j:Int}{t u:Tok}(ha:a = .int i t)(hb:b = .int j u):∀ {l:List Value},TriplesOk l->TriplesOk (l++[a,b,c])
 | [],_=>by rw [ha,hb]; exact trivial
 | .int _ _ :: .int _ _ :: _ :: r,h=>zh8 (l:=r) ha hb h
theorem zax.but {H H':Hp}(P:Addr)(h:zax H H'):But P H H':=by
 refine ⟨fun b o _ e=>h b o e,fun pos qual t=>?_⟩
 obtain ⟨ps,e,ht,z⟩:=t
 refine ⟨ps,h _ _ e,ht,?_⟩
 rcases z with z | ⟨c',oc,k,z1,z2,z3⟩
 ·exact .inl z
 ·exact .inr ⟨c',oc,k,z1,h _ _ z2,z3⟩
theorem ztb {P:Program}{w:World}{K:W.Frag}{mg mb:Str->Option Value}{k:Nat}{fa a:Addr}{fd:FuncData}{x:Str}{sp:Sp}{s₁:Shared}{vs:List Value}{ns:List Int}(tabs:List (Addr × Addr))
  (hT:PySem.W.TabsAt tabs s₁.heap)(hKT:∀ q∈tabs,K.lookup q.2=none)(hBm:∃ bm o,mg "__builtins__" = some (.ref bm)/\bm≠builtinsNs/\bm≠mainGlobals/\s₁.heap.get? bm=some o/\o.cls = .type "module" /\o.dict=some builtinsNs/\o.data = .plain)
  (KX:K.In s₁.heap)(hns:s₁.heap.Ns mainGlobals mg)(hb:s₁.heap.Ns builtinsNs mb)(hbb:∀ x:Str,x≠ "__name__" ->mb x=bootBuiltins x)(hlim:s₁.heap.NoLimit)(hg:s₁.gens = #[])
  (ha:s₁.heap.get? a=some { cls:= .type "list",data:= .seq vs.toArray })(hi:IntsAre vs ns)(hl:ns.length<=sizeLine)(hr:zej k callerA)
  (F:∀ base:Heap,K.In base->base.Ns mainGlobals mg->(∀ q∈tabs,base.BuiltinsAt mg q.2)->zdm P w K mg base CX0 k fa fd [x] sp)(hbind:∀ (s:Shared) (u:Value),BindsTo s fd ⟨[u],[]⟩ [(x,u)])
  (hsp:∀ H:Hp,SqL K H a (ns.map V.int)->(∀ q∈tabs,H q.2=some (.tbl #[]))->sp [.ref a] H (fun v _=>v = .bl true) fun _ _ _=>False) :
  codeAny (model P w) callerA (.call (.ref fa) ⟨[.ref a],[]⟩) (fun r s'=>r = .ok (.ret (.bool true))/\OldK s₁.heap s'.heap/\s'.os=s₁.os/\AllBare s'.gens) s₁:=by
 have rv:=zdq hi
 have t:=hi.length
 have ab:∀ q∈tabs,a≠q.2:=fun q hq z=>by
  have e:=(hT q hq).2
  rw [<- z,ha] at e
  cases e
 have j:∀ (H0:Option HO),(H0=none\/∃ o xs,H0=some (.frz o (.lst xs)))->(∀ H:Hp,H a=H0->SqL K H a (ns.map V.int))->(∀ u,H0=some u->∀ H:Hp,zcl P w H s₁.heap a u)->(H0≠none->K.lookup a=none) ->
   codeAny (model P w) callerA (.call (.ref fa) ⟨[.ref a],[]⟩) (fun r s'=>r = .ok (.ret (.bool true))/\OldK s₁.heap s'.heap/\s'.os=s₁.os/\AllBare s'.gens) s₁:=by
  intro H0 hO hS y ad
  let H:Hp:=fun b=>if b=a then H0 else if b∈tabs.map (·.2) then some (.tbl #[]) else none
  have Ha:H a=H0:=if_pos rfl
  have Ht:∀ q∈tabs,H q.2=some (.tbl #[]):=fun q hq=>by
   show (if q.2=a then H0 else _)=_
   rw [if_neg (ab q hq).symm,if_pos (List.mem_map_of_mem hq)]
  have Hn:∀ b,b≠a->b∉tabs.map (·.2)->H b=none:=fun b h1 h2=>by
   show (if b=a then H0 else _)=_
   rw [if_neg h1,if_neg h2]
  have aa:∀ {b:Addr} {o:Obj},s₁.heap.get? b=some o->o.cls≠ .none->b∉tabs.map (·.2):=fun {b o} e hc z=>by
   obtain ⟨q,hq,rfl⟩:=ju.mp z
   rw [(hT q hq).2] at e
   cases e
   exact hc rfl
  have hok:HOk P w H s₁.heap:=fun b u z=>by
   by_cases hb:b=a
   ·subst hb
    rw [Ha] at z
    exact y u z H
   ·by_cases f:b∈tabs.map (·.2)
    ·obtain ⟨q,hq,rfl⟩:=ju.mp f
     rw [Ht q hq] at z
     cases z
     exact (hT q hq).2
    ·rw [Hn b hb f] at z
     cases z
  have c:∀ {b:Addr} {o:Obj},s₁.heap.get? b=some o->H b=none->(zu3 s₁.heap H).get? b=some o:=fun e n=>zv8 e n
  have p:∀ {b:Addr} {o:Obj},s₁.heap.get? b=some o->(∀ xs n,o.data≠ .seq xs n)->(∀ xs,o.data≠ .fields xs)->H b=none:=fun {b o} e d1 d2=>by
   refine Hn b (fun z=>?_) (fun z=>?_)
   ·rw [z,ha] at e
    cases e
    exact d1 _ _ rfl
   ·obtain ⟨q,hq,rfl⟩:=ju.mp z
    rw [(hT q hq).2] at e
    cases e
    exact d2 _ rfl
  have g:∀ {b:Addr} {m:Str->Option Value},s₁.heap.Ns b m->(zu3 s₁.heap H).Ns b m:=fun {b m} ⟨o,es,ep,e,d,r⟩=>⟨o,es,ep,c e (p e (fun _ _ z=>by rw [d] at z; cases z) (fun _ z=>by rw [d] at z; cases z)),d,r⟩
  have l:K.In (zu3 s₁.heap H):=fun b o e=>c (KX b o e) (by
   by_cases hb:b=a
   ·subst hb
    rw [Ha]
    cases q:H0 with
    | none=>rfl
    | some u =>
     rw [ad (by rw [q]; simp)] at e
     cases e
   ·refine Hn b hb fun z=>?_
    obtain ⟨q,hq,rfl⟩:=ju.mp z
    rw [hKT q hq] at e
    cases e)
  have hM:Mod K mg (zu3 s₁.heap H):=⟨l,g hns,⟨mb,g hb,hbb⟩,let ⟨mc,h1,h2⟩:=hlim; ⟨mc,g h1,h2⟩⟩
  have e0:zu1 P w K mg (zu3 s₁.heap H) callerA [] s₁ H:=⟨rfl,hM,fun b o e=>zzz e,lc (zuw _ _),trivial,fun b hb=>absurd (show b∈([]:List Addr) from hb) (by simp),hok,.of_eq hg⟩
  have ac:∀ q∈tabs,(zu3 s₁.heap H).BuiltinsAt mg q.2:=fun q hq=>by
   obtain ⟨bm,o,a1,a2,a3,a4,a5,a6,a7⟩:=hBm
   refine ⟨bm,o,a1,a2,a3,fun z=>?_,c a4 (p a4 (fun _ _ z=>by rw [a7] at z; cases z) (fun _ z=>by rw [a7] at z; cases z)),a5,a6,a7⟩
   rw [z,(hT q hq).2] at a4
   cases a4
   cases a7
  refine codeAny_mono ((F _ l (g hns) ac).run callerA [] s₁ H ⟨[.ref a],[]⟩ [.ref a] [.ref a] _ _ hr e0 (hbind s₁ (.ref a)) (.cons rfl .nil) (hsp H (hS H Ha) Ht)) fun r s' h=>?_
  cases r with
  | error e=>exact False.elim h
  | ok fl =>
   cases fl with
   | next=>exact False.elim h
   | brk=>exact False.elim h
   | cont=>exact False.elim h
   | ret u =>
    obtain ⟨v,H',os,bare,un,i,r',q⟩:=h
    have q':v = .bl true:=q
    subst q'
    obtain rfl:u=Value.bool true:=r'
    refine ⟨rfl,⟨fun b o e=>?_,fun b o e=>un.there b o e (by simp)⟩,os,bare⟩
    by_cases f:b∈tabs.map (·.2)
    ·obtain ⟨q,hq,rfl⟩:=ju.mp f
     obtain ⟨more,z⟩:=un.tbls q.2 _ (Ht q hq)
     have z2:s'.heap.get? q.2=some { cls:= .none,data:= .fields (#[]++more) }:=i q.2 _ z
     have e2:=(hT q hq).2
     rw [e] at e2
     cases e2
     exact .inr (.inl ⟨((hT q hq).1.tab (hT q hq).2).isCodeTable,rfl,#[],more,rfl,z2⟩)
    ·by_cases hb:b=a
     ·subst hb
      rcases hO with z | ⟨ob,xs,z⟩
      ·exact .inl (un.keep b o e (by rw [Ha]; exact z) (by intro z; exact absurd (show b∈([]:List Addr) from z) (by simp)) (by simp))
      ·have z1:H b=some (.frz ob (.lst xs)):=by rw [Ha]; exact z
       have z2:=un.frzs b ob _ z1
       obtain ⟨e1,_⟩:=hok b _ z1
       obtain ⟨e2,_⟩:=i b _ z2
       rw [e] at e1
       cases e1
       exact .inl e2
     ·exact .inl (un.keep b o e (Hn b hb f) (by intro z; exact absurd (show b∈([]:List Addr) from z) (by simp)) (by simp))
 cases hk:K.lookup a with
 | some o =>
  have e:=KX a o hk
  rw [ha] at e
  cases e
  exact j none (.inl rfl) (fun H _=> .inr ⟨_,vs.toArray,_,hk,rfl,rfl,rfl,by rw [gu,t]; exact hl,by simpa using rv⟩) (fun u z=>by cases z) fun z=>absurd rfl z
 | none =>
  exact j (some (.frz { cls:= .type "list",data:= .seq vs.toArray } (.lst (ns.map V.int)))) (.inr ⟨_,_,rfl⟩) (fun H e=> .inl (.inr ⟨_,e⟩)) (fun u z H=>by cases z; exact ⟨ha,by rw [gf]; exact hl,vs,_,rv,ha⟩) fun _=>hk
theorem walk_ofT {l:PySem.W.OpenLaw}{n k:Nat}{q:Program}{loose:List Str}{XP:(Str->Option Value)->Heap->Prop}{YP:World->Heap->Prop}{d:DefRec}{K:Params->PySem.W.Frag}{ts:List Addr}{sp:PySem.W.Frag->List (Addr × Addr)->Sp}{x:Str}
  (hn:l.most=some n)(hn2:n<=sizeLine)(hdf:d.params.defaults=[])(hr:zej k callerA)
  (hY:∀ (w:World) (h:Heap),YP w h->(K w.params).In h)(hYT:∀ (w:World) (h:Heap),YP w h->∀ P∈ts,h.get? P=some (o8 #[]))
  (F:∀ (w:World) (mg:Str->Option Value) (fa:Addr) (h:Heap),(K w.params).In h->h.Ns mainGlobals mg->mg d.name=some (.ref fa) ->
   ∃ (fd:FuncData) (tabs:List (Addr × Addr)),(∀ q∈tabs,q.2∈ts/\PySem.W.codeHdIn (K w.params) q.1 q.2=true/\(K w.params).lookup q.2=none)/\(∀ (s:Shared) (u:Value),BindsTo s fd ⟨[u],[]⟩ [(x,u)]) /\
    ∀ base:Heap,(K w.params).In base->base.Ns mainGlobals mg->(∀ q∈tabs,base.BuiltinsAt mg q.2)->zdm l.prog w (K w.params) mg base CX0 k fa fd [x] (sp (K w.params) tabs))
  (hsp:∀ (K:W.Frag) (tabs:List (Addr × Addr)) (H:Hp) (a:Addr) (ns:List Int),ns.length<=n->SqL K H a (ns.map V.int)->(∀ q∈tabs,H q.2=some (.tbl #[]))->sp K tabs [.ref a] H (fun v _=>v = .bl true) fun _ _ _=>False) :
  PySem.W.WalkO q loose XP YP l.row.toRowW d [] (fun f vs=>PySem.call f vs):=by
 refine Att.attach_call hn hdf fun w s₀ s₁ mg mb fa o pm cd doc a vs ns G Y ho hd t r j i c hg=>?_
 have KX:=hY w _ Y
 obtain ⟨fd,tabs,hT,hb,hF⟩:=F w mg fa _ KX G.T.g r
 have p:∃ bm o,mg "__builtins__" = some (.ref bm)/\bm≠builtinsNs/\bm≠mainGlobals/\s₁.heap.get? bm=some o/\o.cls = .type "module" /\o.dict=some builtinsNs/\o.data = .plain:=by
  obtain ⟨bm,ob,b1,b2,b3,b4,b5,b6⟩:=G.T.bmain
  refine ⟨bm,ob,b1,b2,fun z=>?_,b3,b4,b5,b6⟩
  obtain ⟨o,es,ep,e,hd,_⟩:=G.T.g
  rw [z,e] at b3
  cases b3
  rw [hd] at b6
  cases b6
 exact ztb tabs (fun q hq=>⟨ly KX (hT q hq).2.1,hYT w _ Y _ (hT q hq).1⟩) (fun q hq=>(hT q hq).2.2) p KX G.T.g G.T.b G.T.builtins G.T.nolimit hg j i (gy c hn2) hr hF hb (fun H hS m=>hsp _ tabs H a ns c hS m)
def NAs (K:W.Frag)(C:Addr):List Str->Prop
 | []=>True
 | a :: r=>zkb K C a/\NAs K C r
structure DfC (K:W.Frag)(mg:Str->Option Value)(x:Str)(as:List Str) where
 C:Addr
 hm:mg x=some (.ref C)
 cl:Cls K C
 na:NAs K C as
 mks:PySem.W.makesIn K C=true
 kp:PySem.W.keepIn K (.ref C)=true
structure DfM (K:W.Frag)(C:Addr)(m qual:Str)(st:Stmt)(ps:List Str) where
 f:Addr
 fd:FuncData
 fn:Fun K m qual st f fd
 me:z0i K C m f
 b:zcq K fd ps []
theorem DfM.mk' {K:W.Frag}{mg:Str->Option Value}{x q:Str}{as ps:List Str}{st:Stmt}(D:DfC K mg x as)(I:DfM K D.C "__init__" q st ps):Mk K D.C I.f:=⟨D.mks,I.me.at_,I.me.fn,D.kp⟩
structure DfF (K:W.Frag)(mg:Str->Option Value)(x:Str)(st:Stmt)(ps:List Str) where
 f:Addr
 c:Addr
 P:Addr
 fd:FuncData
 ex:∃ (oc:Value) (od:Option Addr) (kV doc pm:Value) (an:Option Addr) (ct:Value) (osl:Array (Option Value)),
  fd=PySem.W.fnOf x x (zcg st) (zbj st) (zai st) .none kV doc pm an (.ref c) ct/\K.lookup f=some ⟨oc,od,.func fd,osl⟩
 cd:PySem.W.codeIn K (.ref c) x=true
 ch:PySem.W.codeHdIn K c P=true
 nt:K.lookup P=none
 kp:PySem.W.keepIn K (.ref f)=true
 hm:mg x=some (.ref f)
 b:zcq K fd ps []
section
variable {P:Program} {w:World} {K:W.Frag} {mg:Str->Option Value} {base:Heap}
theorem DfF.ok {x:Str}{st:Stmt}{N ps fz:List Str}{k:Nat}{sp:Sp}(D:DfF K mg x st ps)(hK:K.In base)(S:zam N ps (zai st))(hfz:∀ x∈fz,(zai st).names.lookup x=some .cell)(len:∀ vs H Q E,sp vs H Q E->vs.length=ps.length)
  (hbody:∀ (A:Around) (outer:List Env) (s:Shared) (H:Hp) (vs:List V) (Q:VK) (E:XK),zej k (A.deeper (envOfC x (zai st) s.heap.objs.size D.f (.ref D.c)))->sp vs H Q E ->
   ∀ H1:Hp,zax H H1->(∀ (i:Nat) y v,y∈fz->ps[i]? = some y->vs[i]? = some v->∃ c,(envOfC x (zai st) s.heap.objs.size D.f (.ref D.c)).cells.lookup y=some c/\zf4 H1 c v)->PySem.W.CodeHd base D.c D.P ->
   ∃ t,PSs (zq1 CX0 P w K mg base N x (zai st) D.f (.ref D.c) A outer s H E (fun y=> !fz.contains y)).nox (zbj st) t/\t { nx:=fun _ H'=>Q .non H',rt:=Q } (start N vs) H1) :
  zdm P w K mg base CX0 (k+1) D.f D.fd ps sp:=by
 have hC:=ly hK D.ch
 obtain ⟨f,c,T,fd,⟨oc,od,kV,doc,pm,an,ct,osl,rfl,lk⟩,cd,ch,nt,kp,hm,b⟩:=D
 exact zxh lk cd S hfz len fun A outer s H vs Q E hr a H1 sm hc=>hbody A outer s H vs Q E hr a H1 sm hc hC
end
def z0v (outer inner:Scope):Bool:=inner.names.all fun y=>y.2 != .free || (outer.names.lookup y.1 == some .cell || outer.names.lookup y.1 == some .free)
theorem zft {X:Cx}{scope:Scope}(h:z0v X.env.scope scope=true):∀ y∈scope.names,y.2 = .free->X.env.kindOf y.1=some .cell\/X.env.kindOf y.1=some .free:=fun y hy hf=>by
 have q:=jo.mp h y hy
 rw [hf] at q
 simp at q
 exact q
theorem zqu {n:Int}:∀ {ns:List Int},n∈ns->ns.erase n=ns.eraseIdx (ns.idxOf n)
 | [],h=>nomatch h
 | a :: r,h=>by
  by_cases e:a=n
  ·subst e
   simp
  ·have h':n∈r:=by
    rcases gx.mp h with z | z
    ·exact absurd z.symm e
    ·exact z
   have e':(a == n)=false:=by simpa using e
   rw [List.erase_cons,if_neg (by simpa using e),List.idxOf_cons,e',cond_false,List.eraseIdx_cons_succ,zqu h']
theorem znw {n:Int}:∀ {ns:List Int} {i:Nat} (h:i<ns.length),i<ns.idxOf n->ns[i]≠n
 | [],_,h,_=>nomatch h
 | a :: r,i,h,hi=>by
  rw [List.idxOf_cons] at hi
  by_cases e:a=n
  ·subst e
   simp at hi
  ·rw [show (a == n)=false by simpa using e,cond_false] at hi
   cases i with
   | zero=>exact e
   | succ i=>exact znw (ns:=r) (i:=i) (by simpa using h) (by omega)
theorem zh_ {α β:Type}(f:α->β):∀ (l:List α) (i:Nat),(l.map f).eraseIdx i=(l.eraseIdx i).map f
 | [],_=>rfl
 | _ :: _,0=>rfl
 | a :: r,i+1=>by simp [zh_ f r i]
def zzv:V->List V->Hp->VK->Prop:=fun x vs H Q=>∃ (l:Addr) (ns:List Int) (n:Int),x = .ref l/\vs=[.int n]/\H l=some (.lst (ns.map V.int))/\n∈ns/\Q .non (upd H l (.lst ((ns.erase n).map V.int)))
theorem zoj {X:Cx}:MtM X "list.remove" zzv:=by
 intro pins s σ H x vs v us Q I rx rv h
 obtain ⟨l,ns,n,rfl,rfl,hH,hn,q⟩:=h
 cases rx
 obtain ⟨u,rfl,t,rfl⟩:=rv.one
 obtain ⟨z,its,m,r,hl,e⟩:=I.lstM hH
 rw [gf] at hl
 have at_:∀ i (hi:i<its.length),∃ t,its[i]=Value.int (ns[i]'(by omega)) t:=fun i hi=>by
  have b:i<ns.length:=by omega
  obtain ⟨u,e1,e2⟩:=r.get (i:=i) (x:=V.int ns[i]) (by simp [b])
  obtain ⟨t,rfl⟩:=e2
  rw [List.getElem?_eq_getElem hi] at e1
  exact ⟨t,Option.some.inj e1⟩
 have hj:ns.idxOf n<ns.length:=List.idxOf_lt_length_of_mem hn
 refine call_meets F.slot_list_remove ⟨_,e,rfl⟩ F.entry_list_remove (F.args_list_remove_2 _ _)
  (MeetsSeq.list_remove l its.toArray m (.int n t) (fun y=>match y with | .int a _=>a == n | _=>false) (fun y hy=>?_) (ns.idxOf n) (by rw [gu]; omega) ?_ (fun i hi c=>?_) (by rw [gu,<- hl]; simpa using z)) ⟨e,?_⟩
 ·have d:y∈its:=by simpa using hy
  obtain ⟨i,hi,rfl⟩:=jw d
  obtain ⟨t',e'⟩:=at_ i hi
  rw [e']
  exact MeetsSeq.EqGives.int _ n t' t
 ·have hi:ns.idxOf n<its.length:=by omega
  obtain ⟨t',e'⟩:=at_ _ hi
  rw [List.getElem_toArray,e',List.getElem_idxOf]
  simp
 ·have b:i<its.length:=by simpa using hi
  obtain ⟨t',e'⟩:=at_ i b
  rw [List.getElem_toArray,e']
  have:=znw (by omega) c
  simpa using this
 ·refine ⟨.non,_,I.lset (its':=its.eraseIdx (ns.idxOf n)) hH e ?_ ?_ ?_,rfl,q⟩
  ·show its.toArray.eraseIdxIfInBounds (ns.idxOf n)=_
   rw [List.eraseIdxIfInBounds_toArray]
  ·rw [zqu hn,<- zh_]
   exact r.eraseIdx _
  ·rw [gf]
   have:=iw hn
   rw [gf] at z
   omega
theorem zax.put {H H2:Hp}{p:Addr}{o:HO}(h:zax H H2)(hp:H p=none):zax H (upd H2 p o):=fun b u e=>by
 rw [zab (zae e hp)]
 exact h b u e
theorem zja {n:Int}{ns:List Int}:inV (V.int n) (ns.map V.int)=decide (n∈ns):=by
 unfold inV
 induction ns with
 | nil=>rfl
 | cons a r ih =>
  rw [ig,lg,ih]
  by_cases h:a=n
  ·subst h
   simp [eqV]
  ·simp [eqV,h,Ne.symm h]
theorem zek:∀ ns:List Int,(ns.map V.int).all zms=true
 | []=>rfl
 | a :: r=>by
  rw [ig,n5,zek r]
  rfl
theorem z30 (x:Int)(ns:List Int):zm2 ((x :: ns).map V.int) (some 1) none=ns.map V.int:=by
 unfold zm2
 have e1:HT.sIx ((x :: ns).map V.int).length 0 (some 1)=1:=by
  have:=HT.sIx_nat ((x :: ns).map V.int).length 0 1
  rw [show ((1:Nat):Int)=1 from rfl] at this
  rw [this]
  simp
 rw [e1,HT.sIx_none,ig,List.drop_succ_cons,mr]
 exact iu (by simp)
def zrk (p:Addr)(H H':Hp):Prop:=∀ c o,H c=some o->c≠p->H' c=some o
structure zis (p:Prop):Prop where
 out:p
theorem zva {α:Type}(v:α)(vs:List α):atI (v :: vs) 0=some v:=zml (xs:=v :: vs) (j:=0) rfl
def zf2 (ns:List Int):List Int:=firstMet (fun i=>ns.getD i 0) ns.length
theorem zen {ns:List Int}{k:Int}:k∈zf2 ns↔k∈ns:=by
 have h:=firstMet_any (fun i=>ns.getD i 0) ns.length k
 have e:(n8 ns.length).map (fun i=>ns.getD i 0)=ns:=by
  apply my
  ·simp
  ·intro i h1 h2
   simp at h1
   simp [h1]
 rw [e] at h
 have a:(zf2 ns).any (· == k)=true↔k∈zf2 ns:=by simp
 have b:ns.any (· == k)=true↔k∈ns:=by simp
 rw [<- a,<- b]
 unfold zf2
 rw [h]
theorem zra {σ:List Int}{v:Int}(h:σ.Nodup):(step_dedup σ v).Nodup:=by
 unfold step_dedup
 split
 ·exact h
 ·rename_i hv
  have hv:v∉σ:=by simpa using hv
  rw [ke]
  refine ⟨h,by simp,?_⟩
  intro a ha b hb
  rw [gb.mp hb]
  rintro rfl
  exact hv ha
theorem zf8 (val:Nat->Int):∀ i,(firstMet val i).Nodup
 | 0=>j7
 | i+1=>by rw [firstMet_succ]; exact zra (zf8 val i)
theorem zga (ns:List Int):(zf2 ns).Nodup:=zf8 _ _
theorem zoa (ns:List Int):(zf2 ns).length<=ns.length:=firstMet_length_le _ _
theorem zgk {K:W.Frag}{a D:Addr}{ns:List Int}{tc:TT}{Q:VK}{σr:St}{H:Hp}(p:Int->Bool)(hD:H D=none)(ha:SqL K H a (ns.map V.int))(hlen:ns.length<=1000)
  (ht:∀ x∈ns,∀ H' (Qt:Bool->Hp->Prop),zax H H'->(∀ H'',zax H' H''->Qt (p x) H'')->tc (some (.int x) :: σr) H' Qt)
  (hq:∀ H',zax H H'->H' D=some (.lst ((ns.filter p).map V.int))->Q (.ref D) H') :
  zuf (Itl K a) (znn 0) tc (zu5 0) Q D (none :: σr) (upd H D (.lst [])):=by
 refine zem (xs:=ns.map V.int) (fun i σ H'=>∃ v,σ=v :: σr/\zax H H'/\H' D=some (.lst (((ns.take i).filter p).map V.int))) ⟨none,rfl,zax.new H hD,zad⟩ (fun i σ H' _ ⟨v,_,s,_⟩=>s.seq ha) ?_ ?_
 ·rintro i x σ H' hi ⟨v,rfl,s,hd⟩
  obtain ⟨h1,h2⟩:=List.getElem?_eq_some_iff.mp hi
  rw [List.getElem_map] at h2
  subst h2
  rw [gf] at h1
  have et:ns.take (i+1)=ns.take i++[ns[i]]:=by rw [ik h1]
  refine ht ns[i] (kx h1) H' _ s fun H'' s2=>?_
  have b:=s2 _ _ hd
  by_cases hp:p ns[i]=true
  ·rw [if_pos hp]
   refine ⟨_,rfl,_,b,?_,⟨_,rfl,(s.trans s2).put hD,?_⟩⟩
   ·rw [gf]
    have:=ib p (ns.take i)
    rw [i5] at this
    exact zar (by omega)
   ·rw [zad,et,io,i9]
    simp [hp]
  ·rw [if_neg hp]
   refine ⟨_,rfl,s.trans s2,?_⟩
   rw [b,et,io]
   simp [hp]
 ·rintro σ H' ⟨v,rfl,s,hd⟩
  rw [gf,i6] at hd
  exact hq H' s hd
section
variable {X:Cx} {K:W.Frag}
theorem zpj (h:X.K=K):IxR X (z4c K):=h ▸ zj5
theorem zr4 {e:Expr}{ta:TE}{f:Str}{pos:Pos}(h:X.K=K)(he:PE X e ta)(hb:attributeBase e f X.env (eval e X.env)=eval e X.env):PE X (.Attribute e f pos) (z4a K ta f):=h ▸ za0 he hb
end
def Ris (xs:Array Nat):Prop:=∀ (i k:Nat) (hk:k<xs.size) (hi:i<k),xs[i]<xs[k]
theorem zm9 {xs:Array Nat}{j:Nat}:∀ (fuel lo hi:Nat),hi - lo<=fuel->lo<=hi->hi<=xs.size->Ris xs->(∀ (i:Nat) (h:i<xs.size),i<lo->xs[i]<j)->(∀ (i:Nat) (h:i<xs.size),hi<=i->j<=xs[i]) ->
  SetTable.below.go xs j fuel lo hi<=xs.size/\(∀ (i:Nat) (h:i<xs.size),i<SetTable.below.go xs j fuel lo hi->xs[i]<j)/\∀ (i:Nat) (h:i<xs.size),SetTable.below.go xs j fuel lo hi<=i->j<=xs[i]
 | 0,lo,hi,hf,hl,hh,hr,h1,h2=>by
  unfold SetTable.below.go
  exact ⟨by omega,h1,fun i h hi'=>h2 i h (by omega)⟩
 | fuel+1,lo,hi,hf,hl,hh,hr,h1,h2=>by
  unfold SetTable.below.go
  by_cases h:lo<hi
  ·rw [if_pos h]
   have hm:(lo+hi) / 2<xs.size:=by omega
   have e:xs.getD ((lo+hi) / 2) j=xs[(lo+hi) / 2]:=by simp [getD,hm]
   dsimp only
   rw [e]
   by_cases a:xs[(lo+hi) / 2]<j
   ·rw [if_pos a]
    refine zm9 fuel _ hi (by omega) (by omega) hh hr (fun i hi' b=>?_) h2
    by_cases e2:i=(lo+hi) / 2
    ·subst e2; exact a
    ·exact mi (hr i ((lo+hi) / 2) hm (by omega)) a
   ·rw [if_neg a]
    refine zm9 fuel lo _ (by omega) (by omega) (by omega) hr h1 (fun i hi' c=>?_)
    by_cases e2:i=(lo+hi) / 2
    ·subst e2; omega
    ·have:=hr ((lo+hi) / 2) i hi' (by omega)
     omega
  ·rw [if_neg h]
   exact ⟨by omega,h1,fun i h hi'=>h2 i h (by omega)⟩
theorem zfy {xs:Array Nat}(hr:Ris xs)(j:Nat):SetTable.below xs j<=xs.size/\(∀ (i:Nat) (h:i<xs.size),i<SetTable.below xs j->xs[i]<j)/\∀ (i:Nat) (h:i<xs.size),SetTable.below xs j<=i->j<=xs[i]:=by
 unfold SetTable.below
 exact zm9 xs.size 0 xs.size (by omega) (by omega) (by omega) hr (fun i _ h=>absurd h (by omega)) (fun i h h'=>absurd h (by omega))
theorem zwg {xs:Array Nat}(hr:Ris xs){i:Nat}(h:i<xs.size):SetTable.below xs (xs[i]+1)=i+1:=by
 obtain ⟨h0,h1,h2⟩:=zfy hr (xs[i]+1)
 apply Classical.byContradiction
 intro ne
 rcases Nat.lt_or_gt_of_ne ne with z | z
 ·have:=h2 i h (by omega)
  omega
 ·have h3:i+1<xs.size:=by omega
  have:=h1 (i+1) h3 z
  have:=hr i (i+1) h3 (by omega)
  omega
theorem zrx {xs:Array Nat}(hr:Ris xs):SetTable.below xs 0=0:=by
 obtain ⟨h0,h1,_⟩:=zfy hr 0
 apply Classical.byContradiction
 intro ne
 have h:0<xs.size:=by omega
 have:=h1 0 h (by omega)
 omega
theorem zsp {t:SetTable}(hr:Ris t.place){j:Nat}(h:∀ i,t.slot j≠ .live i):∀ (i:Nat) (hi:i<t.place.size),t.place[i]≠j:=by
 intro i hi e
 obtain ⟨h0,h1,h2⟩:=zfy hr j
 have hb:SetTable.below t.place j=i:=by
  apply Classical.byContradiction
  intro ne
  rcases Nat.lt_or_gt_of_ne ne with z | z
  ·have hz:SetTable.below t.place j<t.place.size:=by omega
   have:=h2 _ hz (gv _)
   have:=hr _ i hi z
   omega
  ·have:=h1 i hi z
   omega
 apply h (SetTable.below t.place j)
 unfold SetTable.slot
 dsimp only
 rw [if_pos]
 rw [hb]
 simp [hi,e]
theorem zm8 {t:SetTable}{f:Nat->Int}{h:Int}:∀ (fuel:Nat) (p:SetTable.Probe) (j:Nat) (d:Option Nat),(∀ x,p.dummy=some x->t.slot x = .dummy)->SetTable.probe.go t f h fuel p=some (.empty j d)->t.slot j = .empty/\∀ x,d=some x->t.slot x = .dummy
 | 0,p,j,d,hp,e=>by cases e
 | fuel+1,p,j,d,hp,e=>by
  have adv:∀ q:SetTable.Probe,(t.advance q).dummy=q.dummy:=fun q=>by
   unfold SetTable.advance
   split <;> rfl
  unfold SetTable.probe.go at e
  split at e
  ·rename_i hs
   cases e
   exact ⟨hs,hp⟩
  ·rename_i hs
   refine zm8 fuel _ j d (fun x hx=>?_) e
   rw [adv] at hx
   cases hx
   exact hs
  ·split at e
   ·cases e
   ·refine zm8 fuel _ j d (fun x hx=>?_) e
    rw [adv] at hx
    exact hp x hx
theorem zmc {t:SetTable}{h:Int}{s:Nat}{b:Bool}(e:t.freeSlot h=some (s,b)):∀ i,t.slot s≠ .live i:=by
 unfold SetTable.freeSlot at e
 split at e
 ·rename_i j d hp
  obtain ⟨h1,h2⟩:=zm8 _ _ j d (fun x hx=>by cases hx) hp
  have e1:d.getD j=s:=congrArg Prod.fst (Option.some.inj e)
  intro i
  cases d with
  | none =>
   have:j=s:=e1
   subst this
   rw [h1]
   exact fun z=>nomatch z
  | some x =>
   have:x=s:=e1
   subst this
   rw [h2 x rfl]
   exact fun z=>nomatch z
 ·cases e
theorem zsg {xs:Array Nat}(h:xs.toList.Pairwise (· < ·)):Ris xs:=fun i k hk hi=>by
 have:=List.pairwise_iff_getElem.mp h i k (by simpa using mi hi hk) (by simpa using hk) hi
 simpa using this
theorem Ris.list {xs:Array Nat}(h:Ris xs):xs.toList.Pairwise (· < ·):=List.pairwise_iff_getElem.mpr fun i k hi hk hik=>by
 have:=h i k (by simpa using hk) hik
 simpa using this
theorem zym {t:SetTable}(hr:Ris t.place){j:Nat}(h:∀ i,t.slot j≠ .live i):Ris (t.put j).1.place:=by
 have nf:=zsp hr h
 obtain ⟨h0,h1,h2⟩:=zfy hr j
 refine zsg ?_
 show (SetTable.insertAt t.place (SetTable.below t.place j) j).toList.Pairwise (· < ·)
 have e:(SetTable.insertAt t.place (SetTable.below t.place j) j).toList=t.place.toList.take (SetTable.below t.place j)++j :: t.place.toList.drop (SetTable.below t.place j):=by
  unfold SetTable.insertAt
  simp [Array.toList_extract,List.extract_eq_drop_take]
  rw [<- jb,iu (by simp)]
 rw [e]
 have lp:=hr.list
 refine List.pairwise_append.mpr ⟨lp.sublist (kh _ _),j0.mpr ⟨fun y hy=>?_,lp.sublist (List.drop_sublist _ _)⟩,fun x hx y hy=>?_⟩
 ·obtain ⟨k,hk,rfl⟩:=jw hy
  rw [l6] at hk
  have hs:t.place.toList.length=t.place.size:=by simp
  have x1:=h2 (SetTable.below t.place j+k) (by omega) (by omega)
  have x2:=nf (SetTable.below t.place j+k) (by omega)
  rw [List.getElem_drop,kn]
  omega
 ·have a:x<j:=by
   obtain ⟨k,hk,rfl⟩:=jw hx
   rw [i5] at hk
   have hs:t.place.toList.length=t.place.size:=by simp
   rw [List.getElem_take,kn]
   exact h1 k (by omega) (by omega)
  rcases gx.mp hy with z | z
  ·rw [z]; exact a
  ·obtain ⟨k,hk,rfl⟩:=jw z
   rw [l6] at hk
   have hs:t.place.toList.length=t.place.size:=by simp
   have x1:=h2 (SetTable.below t.place j+k) (by omega) (by omega)
   rw [List.getElem_drop,kn]
   omega
theorem zez (t:SetTable)(n:Nat):Ris (t.standIn n).place:=zsg (by
 show (Array.range n).toList.Pairwise (· < ·)
 rw [Array.toList_range]
 exact List.pairwise_lt_range)
structure zf1 (led:Bool)(t:SetTable):Prop where
 ris:Ris t.place
 led:t.led=led
theorem zf1.plainOff {led:Bool}{t:SetTable}(h:zf1 led t):zf1 led { t with plain:=false }:=⟨h.ris,h.led⟩
theorem zf1.orStandIn {led:Bool}{t:SetTable}(h:zf1 led t)(n:Nat):zf1 led (t.orStandIn n):=by
 unfold SetTable.orStandIn
 split
 ·exact h
 ·exact ⟨zez t n,h.led⟩
theorem zr8 {led:Bool}{t:SetTable}(h:zf1 led t)(es:Array (Int × Value))(k:Int)(x:Value):zf1 led (layNew t es k x).2.1:=by
 unfold layNew
 split
 ·rename_i s b e
  exact zf1.orStandIn (t:=(t.put s).1) ⟨zym h.ris (zmc e),h.led⟩ _
 ·exact ⟨zez t _,h.led⟩
theorem zr1 {led:Bool}{t t':SetTable}{order:Array Nat}{hs:Array Int}{n:Nat}(h:zf1 led t)(e:t.relaid hs n=some (t',order)):zf1 led t':=by
 unfold SetTable.relaid SetTable.laid at e
 cases q:SetTable.layClean (SetTable.sizeAbove n - 1) hs with
 | none=>rw [q] at e; cases e
 | some owner =>
  rw [q] at e
  have e':some _=some (t',order):=e
  have e1:=congrArg Prod.fst (Option.some.inj e')
  subst e1
  refine ⟨?_,h.led⟩
  have g:∀ (l:List Nat),l.Pairwise (· < ·)->((l.filterMap fun j=>(owner.getD j none).map (fun y=>(j,y))).map (·.1)).Pairwise (· < ·):=by
   intro l hl
   induction l with
   | nil=>exact List.Pairwise.nil
   | cons a r ih =>
    obtain ⟨h1,h2⟩:=j0.mp hl
    have ih:=ih h2
    rw [iq]
    cases z:owner.getD a none with
    | none=>simpa using ih
    | some y =>
     simp only [lh,ig]
     refine j0.mpr ⟨fun b hb=>?_,ih⟩
     obtain ⟨⟨c,d⟩,hc,rfl⟩:=ju.mp hb
     obtain ⟨j,hj,f⟩:=ij.mp hc
     cases zz:owner.getD j none with
     | none=>rw [zz] at f; cases f
     | some v =>
      rw [zz] at f
      cases f
      exact h1 _ hj
  refine zsg ?_
  have hp:=g (n8 (SetTable.sizeAbove n - 1+1)) List.pairwise_lt_range
  simpa using hp
theorem zpk {led:Bool}{t:SetTable}(h:zf1 led t)(es:Array (Int × Value))(n:Nat):zf1 led (relayAll t es n).2.1:=by
 unfold relayAll
 split
 ·rename_i t' order e
  dsimp only
  split
  ·exact zr1 h e
  ·exact ⟨zez t _,h.led⟩
 ·exact ⟨zez t _,h.led⟩
def zpo (w:World):Bool:= !w.params.followText "set-order"
def znc (P:Program)(w:World)(h:Heap)(a:Addr)(ks:List Int):Prop :=
 ∃ o es ep t,h.get? a=some o/\o.ExactSet/\o.data = .set es ep t/\ElemsOf (intKind P w) es.toList/\(∀ k,k∈ks↔∃ e∈es.toList,(intKind P w).is k e.2=true)/\es.size<scanBound/\t.fits es.size=true/\es.size=ks.length/\zf1 (zpo w) t
section
variable {P:Program} {w:World} {A:Around} {E:Value->Shared->Prop} {s:Shared}
theorem znc.keep {h h':Heap}{a:Addr}{ks:List Int}(x:znc P w h a ks)(k:∀ o,h.get? a=some o->h'.get? a=some o):znc P w h' a ks:=by
 obtain ⟨o,es,ep,t,ho,r⟩:=x
 exact ⟨o,es,ep,t,k o ho,r⟩
theorem zto {a:Addr}{o:Obj}{es es2:Array (Int × Value)}{ep:Nat}{t t2:SetTable}{ks:List Int}{Q:Unit->Shared->Prop}(ho:s.heap.get? a=some o)(hex:o.ExactSet)(hd:o.data = .set es ep t)
  (hel:ElemsOf (intKind P w) es2.toList)(hm:∀ k,k∈ks↔∃ e∈es2.toList,(intKind P w).is k e.2=true)(hb:es2.size<scanBound)(hf:t2.fits es2.size=true)(hn:es2.size=ks.length)(hT:zf1 (zpo w) t2)
  (q:∀ h' o',Heap.SameBut a s.heap h'->h'.get? a=some o'->o'.ExactSet->o'.data = .set es2 (ep+1) t2->znc P w h' a ks->Q () { s with heap:=h' }):wpAny (model P w) A (storeSet a es2 t2) Q E s:=by
 refine wpAny_storeSet_of ho hd ?_ (fits_of_scanBound hb)
 obtain ⟨g,_⟩:=SetOf_store (knd:=intKind P w) (S':=fun k=>decide (k∈ks)) ho hex hd hel (fun k=>by rw [decide_eq_true_eq]; exact hm k) hb hf
 exact q _ _ (Heap.SameBut.update ..) g hex rfl ⟨_,es2,ep+1,t2,g,hex,rfl,hel,hm,hb,hf,hn,hT⟩
theorem z2u {a:Addr}{ks:List Int}{v:Int}{tk:Tok}{Q:Bool->Shared->Prop}(hS:znc P w s.heap a ks)(hroom:ks.length+1<scanBound)
  (q:∀ b h',Heap.SameBut a s.heap h'->znc P w h' a (step_dedup ks v)->Q b { s with heap:=h' }):wpAny (model P w) A (setAddHashed a (.int v tk) ((intKind P w).hash v)) Q E s:=by
 obtain ⟨o,es,ep,t,ho,m,hd,f,hm,hb,hf,hn,hT⟩:=hS
 have hk:(intKind P w).is v (.int v tk)=true:=intKind_is _ _ _ _
 unfold setAddHashed setAddHashedIn
 refine wpAny_holding (wpAny_bind (wpAny_setState_of ho hd hf ?_))
 show wpAny _ _ (if byScan (.int v tk) es=true then _ else _) _ _ _
 rw [if_pos (byScan_of rfl hb f)]
 unfold setAddByScan
 refine wpAny_bind (wpAny_bind (wpAny_rule (wpAny_bind (wpAny_setScan_of hk ho hd hf f ?_))))
 cases hr:List.findIdx? (fun e=>(intKind P w).is v e.2) es.toList with
 | some j =>
  obtain ⟨hj,y,_⟩:=List.findIdx?_eq_some_iff_getElem.mp hr
  have hv:v∈ks:=(hm v).mpr ⟨es.toList[j],kx hj,y⟩
  have e2:step_dedup ks v=ks:=by
   unfold step_dedup
   rw [if_pos (by simpa using hv)]
  have z:=q false s.heap (Heap.SameBut.refl a s.heap)
  rw [e2] at z
  exact wpAny_pure (wpAny_pure (z ⟨o,es,ep,t,ho,m,hd,f,hm,hb,hf,hn,hT⟩))
 | none =>
  have hv:v∉ks:=fun hv=>by
   obtain ⟨e,he,hp⟩:=(hm v).mp hv
   have:=List.findIdx?_eq_none_iff.mp hr e he
   rw [hp] at this
   cases this
  have e2:step_dedup ks v=ks++[v]:=by
   unfold step_dedup
   rw [if_neg (by simpa using hv)]
  rw [e2] at q
  dsimp only
  have pm:=layNew_perm t es ((intKind P w).hash v) (.int v tk)
  have ft:=layNew_fits t es ((intKind P w).hash v) (.int v tk)
  have d:=zr8 hT es ((intKind P w).hash v) (.int v tk)
  generalize layNew t es ((intKind P w).hash v) (.int v tk)=L at pm ft d |-
  obtain ⟨c,t1,wd,ac⟩:=L
  dsimp only at pm ft d |-
  rw [lz] at pm
  have i:ElemsOf (intKind P w) c.toList:=(f.push hk rfl).perm pm
  have ad:c.size=es.size+1:=by
   have:=pm.length_eq
   simpa using this
  have p:∀ k,k∈ks++[v]↔∃ e∈c.toList,(intKind P w).is k e.2=true:=fun k=>by
   have z:=mem_push_iff (S:=fun k=>decide (k∈ks)) hk (fun k'=>by rw [decide_eq_true_eq]; exact hm k') pm k
   rw [<- z]
   simp
  have gw:∀ (b:Bool) {s1:Shared} {Q1:Unit->Shared->Prop},Q1 () s1->wpAny (model P w) A (match b with | true=>rule "set.scan.the-table-gave-way" | false=>pure ()) Q1 E s1 :=
   fun b s1 Q1 z=>by cases b <;> first | exact wpAny_pure z | exact wpAny_rule z
  have l:∀ t2:SetTable,t2.fits c.size=true->zf1 (zpo w) t2->wpAny (model P w) A (do
    storeSet a c t2
    if (!wd && t2.tooFull)=true then do
      (match (relayAll t2 c (SetTable.grown c.size)).2.2 with | true=>rule "set.scan.the-table-gave-way" | false=>pure ())
      storeSet a (relayAll t2 c (SetTable.grown c.size)).1 (relayAll t2 c (SetTable.grown c.size)).2.1
      pure (some true)
     else pure (some true)) (fun r s'=>∃ h',s'={ s with heap:=h' }/\r=some true/\Heap.SameBut a s.heap h'/\znc P w h' a (ks++[v])) E s:=fun t2 f2 u=>by
   refine wpAny_bind (zto ho m hd i p (by omega) f2 (by rw [gl,gq]; omega) u fun h1 o1 n g1 x1 d1 X1=>?_)
   split
   ·have g:=relayAll_perm t2 c (SetTable.grown c.size)
    have ab:=relayAll_fits t2 c (SetTable.grown c.size)
    have aa:=zpk u c (SetTable.grown c.size)
    refine wpAny_bind (gw _ (wpAny_bind ?_))
    have ae:(relayAll t2 c (SetTable.grown c.size)).1.size=c.size:=by
     have:=g.length_eq
     simpa using this
    refine zto (s:={ s with heap:=h1 }) g1 x1 d1 (i.perm g) (fun k=>?_) (by omega) ab (by rw [gl,gq]; omega) aa fun h2 o2 x g2 x2 d2 X2=>wpAny_pure ⟨h2,rfl,rfl,n.trans x,X2⟩
    rw [p k]
    exact ⟨fun ⟨e,he,z⟩=>⟨e,g.mem_iff.mpr he,z⟩,fun ⟨e,he,z⟩=>⟨e,g.mem_iff.mp he,z⟩⟩
   ·exact wpAny_pure ⟨h1,rfl,rfl,n,X1⟩
  have h:∀ {r:Option Bool} {s':Shared},(∃ h',s'={ s with heap:=h' }/\r=some true/\Heap.SameBut a s.heap h'/\znc P w h' a (ks++[v]))->wpAny (model P w) A (match r with | some added=>pure added | none=>setAddHashedIn a (.int v tk) ((intKind P w).hash v) 99999) Q E s':=fun {r s'} z=>by
   obtain ⟨h',rfl,rfl,sb,X⟩:=z
   exact wpAny_pure (q true h' sb X)
  refine wpAny_bind (gw _ ?_)
  by_cases hp:t1.plain=true
  ·rw [if_pos hp]
   refine wpAny_bind ?_
   rw [hashByValue_scannable 8 rfl]
   refine wpAny_pure ?_
   refine wpAny_mono (l _ ?_ ?_) (fun r s' z=>h z) (fun _ _ e=>e)
   ·split
    ·exact ft
    ·exact SetTable.fits_plain_off ft
   ·split
    ·exact d
    ·exact d.plainOff
  ·rw [if_neg hp]
   refine wpAny_bind (wpAny_pure ?_)
   refine wpAny_mono (l _ ?_ ?_) (fun r s' z=>h z) (fun _ _ e=>e)
   ·rw [if_pos rfl]; exact ft
   ·rw [if_pos rfl]; exact d
theorem z1p {B:Around}{R:Result->Shared->Prop}{J S:Addr}{fp wr:List Addr}{G:Array GenState->Array GenState->Prop}{n:Nat}{Pt:Nat->Value->Prop}{St:Nat->Shared->Prop}(W:WalksS P w B.in1 J fp wr G n Pt St)(hSf:S∉fp)
  (val:Nat->Int)(hval:∀ i v,Pt i v->∃ t,v = .int (val i) t)(hb:n+1<scanBound):∀ (k i:Nat) (s:Shared),n - i=k->i<=n->St i s->znc P w s.heap S (firstMet val i) ->
   (∀ s',Moved (S :: wr) G s s'->znc P w s'.heap S (firstMet val n)->R (.ok (.ret .none)) s')->codeAny (model P w) B (.builtin "set.update.loop" ⟨[.ref S,.ref J],[]⟩) R s:=by
 have nw:S∉wr:=fun z=>hSf (W.sub _ z)
 have up:∀ b∈wr,b∈S :: wr:=fun b z=> .tail _ z
 intro k
 induction k with
 | zero =>
  intro i s e1 e2 st X a
  obtain rfl:i=n:=by omega
  refine codeAny_builtin F.entry_set_update_loop ?_
  rw [im F.plain_set_update_loop _]
  refine wpAny_bind (W.done s _ _ st fun s' mv=>?_)
  exact wpAny_pure (a s' (mv.mono up) (X.keep fun o e=>mv.heap S o nw e))
 | succ k ih =>
  intro i s e1 e2 st X a
  have hi:i<n:=by omega
  refine codeAny_builtin F.entry_set_update_loop ?_
  rw [im F.plain_set_update_loop _]
  refine wpAny_bind (W.item i s _ _ hi st fun v s1 hp d mv=>?_)
  obtain ⟨t,rfl⟩:=hval i v hp
  have X1:znc P w s1.heap S (firstMet val i):=X.keep fun o e=>mv.heap S o nw e
  refine wpAny_bind (wpAny_holding ?_)
  unfold setAdd
  refine wpAny_holding (wpAny_bind ((intKind P w).pyHash (k:=val i) (intKind_is _ _ _ _) ?_))
  have few:=firstMet_length_le val i
  refine z2u (s:={ s1 with toks:=s1.toks+1 }) X1 (by omega) fun b h' sb X2=>?_
  rw [<- firstMet_succ] at X2
  refine wpAny_pure ⟨plainId_quiet F.plain_set_update_loop _,ih (i+1) _ (by omega) hi (W.frame _ s1 _ _ d (jg _) fun c hc o e=>?_) X2 fun s2 f X3=>?_⟩
  ·exact (sb.2 c fun z=>hSf (z ▸ hc)).trans e
  ·exact a s2 (Moved.trans W.gtrans ((mv.mono up).then_heap (jg _) fun c o hc e=>(sb.2 c fun z=>hc (z ▸ .head _)).trans e) f) X3
theorem z2z (u:Value){Q1:Value->Shared->Prop}(q:Q1 (.ref s.heap.objs.size) { s with heap:=s.heap.push { cls:= .type "set",dict:=none,data:= .set #[] 0 (.fresh 0 0 (zpo w)) } }) :
  codeAny (model P w) A (.call (.builtin "set.__new__") ⟨[.type "set",u],[]⟩) (wants Q1 E) s:=by
 refine codeAny_of_tree ?_
 refine wpAny_bind (wpAny_of_eq (F.newCall_set_1 u) (wpAny_pure ⟨plainId_quiet F.plain_set_new _,codeAny_builtin F.entry_set_new ?_⟩))
 rw [im F.plain_set_new _]
 unfold Builtin.«set.__new__» Builtin.Frozenset.newClass
 have a:=sub_set_self
 obtain ⟨hp,g,d,tk,os⟩:=s
 dsimp only
 wp_walk
 refine wpAny_askSetting (wpAny_pure ?_)
 dsimp only
 simp only [newObj]
 refine wpAny_bind (wpAny_alloc (wpAny_pure ?_))
 exact wpAny_pure q
set_option maxHeartbeats 4000000 in
theorem zrn {l:Addr}{its:Array Value}{ns:List Int}{Q:Value->Shared->Prop}(hh:A.handled=none)(hl:s.heap.IsList l its)(hi:IntsAre its.toList ns)(hb:its.size+1<scanBound)
  (q:∀ (h':Heap) (tk:Nat),znc P w h' s.heap.objs.size (firstMet (fun i=>ns.getD i 0) its.size)->(∀ b o,s.heap.get? b=some o->h'.get? b=some o)->Q (.ref s.heap.objs.size) { s with heap:=h',toks:=tk }) :
  wpAny (model P w) A (call (.type "set") [.ref l]) Q E s:=by
 obtain ⟨c0,ag,ad⟩:=F.called_set.mro
 have t:=F.called_set.made
 have ac:=F.called_set.sub
 refine wpAny_call (codeAny_of_tree (wpAny_pure ⟨Code.quiet_builtin _ (by decide +kernel),codeAny_builtin F.entry_type_call ?_⟩))
 rw [Around.under_plain (weight_type_call_type "set" [.ref l] []) rfl]
 have ae:=F.called_set.notType
 have ak:=F.called_set.canCreate
 have am:=F.typeCall_set_1 (.ref l)
 repeat (any_goals (first | assumption | wp_step))
 obtain ⟨H0,d⟩:∃ H0:Heap,H0=s.heap.push { cls:= .type "set",dict:=none,data:= .set #[] 0 (.fresh 0 0 (zpo w)) }:=⟨_,rfl⟩
 refine codeAny_mono (z2z (.ref l) (E:=E) (Q1:=fun ob s1=>ob = .ref s.heap.objs.size/\s1={ s with heap:=H0 }) ⟨rfl,by rw [d]⟩) fun r s1 hr=>?_
 cases r with
 | error e=>exact hr
 | ok fl =>
  cases fl with
  | next=>exact hr.elim
  | brk=>exact hr.elim
  | cont=>exact hr.elim
  | ret ob =>
   obtain ⟨rfl,rfl⟩:=hr
   have g0:H0.get? s.heap.objs.size=some { cls:= .type "set",dict:=none,data:= .set #[] 0 (.fresh 0 0 (zpo w)) }:=by rw [d]; exact Heap.get?_push_size _ rfl
   have n:Shared.TypeIs { s with heap:=H0 } (.ref s.heap.objs.size) "set" :=⟨_,g0,rfl⟩
   have al:=F.called_set.init.lookup
   have ai:=F.called_set.init.bind (.ref s.heap.objs.size)
   repeat (any_goals (first | assumption | wp_step))
   refine codeAny_mono (codeAny_call_builtin (R:=wants (fun r s2=>r = .none/\∃ h' tk,s2={ s with heap:=h',toks:=tk }/\znc P w h' s.heap.objs.size (firstMet (fun i=>ns.getD i 0) its.size)/\(∀ b o,s.heap.get? b=some o->h'.get? b=some o)) E)
    F.called_set.init.plain F.entry_set_init (check_set_init_1 n ?_)) fun r2 s2 a=>?_
   ·have k0:∀ b o,s.heap.get? b=some o->H0.get? b=some o:=fun b o e=>by rw [d]; exact Heap.get?_push_of_some _ e
    obtain ⟨ol,j,g,nl,m⟩:=hl
    obtain ⟨oc,od,ot,os⟩:=ol
    simp only at g m
    subst g
    subst m
    have g1:=k0 _ _ j
    have aj:=F.sub_list_set
    have ah:=F.sub_list_frozenset
    have af:(o6 "list" == o6 "dict")=false:=by decide
    have h:H0.IsList l its:=⟨_,g1,rfl,nl,rfl⟩
    unfold Builtin.«set.__init__» noKeywords Builtin.Frozenset.updateFrom
    generalize eI:pyIter=PI
    wp_walk
    subst eI
    refine wpAny_pyIter_list h (wpAny_bind (wpAny_runValue ?_))
    have c:l<s.heap.objs.size:=i3 j
    have f:H0.objs.size=s.heap.objs.size+1:=by rw [d]; exact jz ..
    have u:A.in1.in1.in1.handled=none:=by simp [hh]
    have y:l≠H0.objs.size:=fun z=>by rw [z,f] at c; exact absurd c (o7.mpr (jg _))
    have aa:s.heap.objs.size≠H0.objs.size:=fun z=>by rw [f] at z; exact absurd z (i0 (iz _))
    have ab:s.heap.objs.size≠l:=fun z=>by rw [<- z] at c; exact absurd c (jh _)
    refine z1p ((Walks.list u H0.objs.size l y its).toS) (S:=s.heap.objs.size) ?_ (fun i=>ns.getD i 0) (fun i v hv=>IntsAre.int_at hi i v (by rw [Array.getElem?_toList]; exact hv)) hb (its.size - 0) 0 _ (by omega) (ix _)
     ⟨⟨_,Heap.get?_push_size _ rfl,rfl,rfl⟩,h.push _⟩ ?_ ?_
    ·simp only [gx,jq,or_false,not_or]
     exact ⟨aa,ab⟩
    ·refine ⟨_,#[],0,_,Heap.get?_push_of_some _ g0,⟨rfl,rfl,rfl⟩,rfl,fun e he=>by simp at he,fun k=>?_,by decide,rfl,rfl,⟨fun i k hk=>absurd hk (by simp [SetTable.fresh]),rfl⟩⟩
     rw [firstMet_zero]
     simp
    ·intro s' mv X
     obtain ⟨h',g',d',x,p⟩:=s'
     obtain rfl:g'=s.gens:=mv.gens
     obtain rfl:d'=s.drawn:=mv.drawn
     obtain rfl:p=s.os:=mv.os
     refine wpAny_pure (wpAny_pure ⟨rfl,h',x,rfl,X,fun b o e=>?_⟩)
     have lt:=i3 e
     exact mv.heap b o (by
      simp only [gx,jq,or_false,not_or]
      refine ⟨fun z=>?_,fun z=>?_⟩
      ·rw [z] at lt; exact absurd lt (jh _)
      ·rw [z,f] at lt; exact absurd lt (o7.mpr (jg _))) (Heap.get?_push_of_some _ (k0 b o e))
   ·cases r2 with
    | error e=>exact a
    | ok fl2 =>
     cases fl2 with
     | next=>exact a.elim
     | brk=>exact a.elim
     | cont=>exact a.elim
     | ret r =>
      obtain ⟨rfl,h',tk,rfl,X,k'⟩:=a
      repeat (any_goals (first | assumption | wp_step))
      exact q _ _ X k'
end
namespace SF
theorem slot_next:Slot "set_iterator" "__next__" "set_iterator.__next__" :=
 .of (owner:= "set_iterator") (n:= "__next__") (by rw [typeLookup_type,builtinLookup_eq_fast]; kernel_rfl) (by decide +kernel) (by decide +kernel) (by decide +kernel) (by first | exact .inl (by decide +kernel) | exact .inr (by decide +kernel)) (by rw [isSubtype_type]; kernel_rfl)
theorem entry_next:entryFor table "set_iterator.__next__" = some Builtin.«set_iterator.__next__» :=entryFor_of_tree (by kernel_rfl)
theorem args_next (a:Value):argsOk "set_iterator.__next__" ⟨[a],[]⟩:=by unfold argsOk; kernel_rfl
theorem entry_iter:entryFor table "set.__iter__" = some Builtin.«frozenset.__iter__» :=entryFor_alias (id':= "frozenset.__iter__") (by kernel_rfl) rfl (by decide +kernel) (by kernel_rfl)
theorem slot_self:Slot "set_iterator" "__iter__" "set_iterator.__iter__" :=
 .of (owner:= "set_iterator") (n:= "__iter__") (by rw [typeLookup_type,builtinLookup_eq_fast]; kernel_rfl) (by decide +kernel) (by decide +kernel) (by decide +kernel) (by first | exact .inl (by decide +kernel) | exact .inr (by decide +kernel)) (by rw [isSubtype_type]; kernel_rfl)
theorem entry_self:entryFor table "set_iterator.__iter__" = some Builtin.«dict_keyiterator.__iter__» :=entryFor_alias (id':= "dict_keyiterator.__iter__") (by kernel_rfl) rfl (by decide +kernel) (by kernel_rfl)
theorem args_self (a:Value):argsOk "set_iterator.__iter__" ⟨[a],[]⟩:=by unfold argsOk; kernel_rfl
theorem len_set:typeLookup (.type "set") "__len__" = pure (some (.builtin "set.__len__")):=by rw [typeLookup_type,builtinLookup_eq_fast]; kernel_rfl
end SF
def zpd (h:Heap)(it a:Addr)(first:Value)(i n ep:Nat):Prop:=∃ o,h.get? it=some o/\o.cls = .type "set_iterator" /\o.data = .fields #[first,.int i 0,.ref a,.int n 0,.int ep 0]
def zrh (h:Heap)(a:Addr)(es:Array (Int × Value))(ep:Nat)(t:SetTable):Prop:=∃ o,h.get? a=some o/\o.ExactSet/\o.data = .set es ep t/\t.fits es.size=true
section
variable {P:Program} {w:World} {A:Around} {E:Value->Shared->Prop} {s:Shared}
theorem zpd.typeIs {it a:Addr}{f:Value}{i n ep:Nat}(x:zpd s.heap it a f i n ep):s.TypeIs (.ref it) "set_iterator" :=let ⟨o,ho,hc,_⟩:=x; ⟨o,ho,hc⟩
theorem zs6 {it a:Addr}{slot i ep:Nat}{es:Array (Int × Value)}{t:SetTable}{x:Value}{nx:Nat}{Q:Option Value->Shared->Prop}(hit:zpd s.heap it a (.int slot 0) i es.size ep)(hS:zrh s.heap a es ep t)(hne:a≠it)
  (hN:∀ (B:Around) (E':Value->Shared->Prop) (Q':Option (Value × Nat)->Shared->Prop),Q' (some (x,nx)) s->wpAny (model P w) B (setNext a slot i ep) Q' E' s)
  (q:∀ h',zpd h' it a (.int nx 0) (i+1) es.size ep->Heap.SameBut it s.heap h'->Q (some x) { s with heap:=h' }):wpAny (model P w) A (pyNext (.ref it)) Q E s:=by
 obtain ⟨o,ho,hc,hd⟩:=id hit
 obtain ⟨os,b,d,c,hf⟩:=hS
 unfold pyNext
 refine wpAny_bind (wpAny_attempt (wpAny_callSpecial?_slot (name:=Str.ofString "__next__") hit.typeIs SF.slot_next (wpAny_call_entry SF.slot_next hit.typeIs SF.entry_next ?_ (SF.args_next _))))
 unfold Builtin.«set_iterator.__next__»
 refine wpAny_bind (m:=slotArgs "__next__" 0 ⟨[.ref it],[]⟩) (wpAny_pure ?_)
 refine wpAny_bind (wpAny_fieldsOf ho hd ?_)
 dsimp only
 refine wpAny_bind (wpAny_setEntries_of b c hf ?_)
 rw [if_neg (by simp)]
 refine wpAny_bind (hN _ _ _ ?_)
 dsimp only
 refine wpAny_bind (wpAny_setField ho hd (by simp) ?_)
 have o1:=Heap.get?_update_self (Obj.mapFields (·.setIfInBounds 0 (rawInt (nx:Int)))) ho (Obj.isFreed_of_fields (Obj.data_mapFields hd _))
 have d1:=Obj.data_mapFields hd (·.setIfInBounds 0 (rawInt (nx:Int)))
 refine wpAny_bind (wpAny_setField (s:={ s with heap:=_ }) o1 d1 (by simp) ?_)
 have o2:=Heap.get?_update_self (Obj.mapFields (·.setIfInBounds 1 (rawInt ((i:Int)+1)))) o1 (Obj.isFreed_of_fields (Obj.data_mapFields d1 _))
 refine wpAny_pure ⟨_,rfl,wpAny_pure (q _ ⟨_,o2,?_,?_⟩ ((Heap.SameBut.update ..).trans (Heap.SameBut.update ..)))⟩
 ·rw [Obj.cls_mapFields,Obj.cls_mapFields]
  exact hc
 ·rw [Obj.data_mapFields d1]
  simp [rawInt]
theorem zxz {B:Around}{it:Addr}{h1:Heap}{Q:Option Value->Shared->Prop}(hh:B.handled=none)(q:∀ h',(∀ b o,h1.get? b=some o->h'.get? b=some o)->Q none { s with heap:=h' }) :
  wpAny (model P w) B ((newExc (.type "StopIteration") [] >>= fun e=>raiseNew e:Sem PySem.Fin)) (fun _ _=>False) (fun e s'=>wpAny (model P w) A (isInstance e (.type "StopIteration") >>= fun b=>if b=true then pure none else throw e) Q E s') { s with heap:=h1 }:=by
 refine wpAny_bind ?_
 simp only [newExc,newTuple]
 refine wpAny_bind (wpAny_newObj_type ?_ (by size_fits))
 refine wpAny_bind (m:=firstArgMember _ _) (wpAny_of_eq (a:=Value.none) (by first | rfl | (simp only [firstArgMember]; rfl)) ?_)
 refine wpAny_newObj_type ?_ (by size_fits)
 simp only [raiseNew]
 refine wpAny_bind (wpAny_handled ?_)
 rw [hh]
 refine wpAny_bind (wpAny_pure (wpAny_throw ?_))
 refine wpAny_bind (wpAny_isInstance (T:= "StopIteration") (b:=true) ⟨_,Heap.get?_push_size _ rfl,rfl⟩ isSubtype_stop ?_)
 exact wpAny_pure (q _ fun b o e=>Heap.get?_push_of_some _ (Heap.get?_push_of_some _ e))
theorem zw2 {it a:Addr}{slot i ep:Nat}{es:Array (Int × Value)}{t:SetTable}{Q:Option Value->Shared->Prop}(hh:A.handled=none)(hit:zpd s.heap it a (.int slot 0) i es.size ep)(hS:zrh s.heap a es ep t)
  (hN:∀ (B:Around) (E':Value->Shared->Prop) (Q':Option (Value × Nat)->Shared->Prop),Q' none s->wpAny (model P w) B (setNext a slot i ep) Q' E' s)
  (q:∀ h',(∀ b o,b≠it->s.heap.get? b=some o->h'.get? b=some o)->Q none { s with heap:=h' }):wpAny (model P w) A (pyNext (.ref it)) Q E s:=by
 obtain ⟨o,ho,hc,hd⟩:=id hit
 obtain ⟨os,c,f,d,hf⟩:=hS
 unfold pyNext
 refine wpAny_bind (wpAny_attempt (wpAny_callSpecial?_slot (name:=Str.ofString "__next__") hit.typeIs SF.slot_next (wpAny_call_entry SF.slot_next hit.typeIs SF.entry_next ?_ (SF.args_next _))))
 unfold Builtin.«set_iterator.__next__»
 refine wpAny_bind (m:=slotArgs "__next__" 0 ⟨[.ref it],[]⟩) (wpAny_pure ?_)
 refine wpAny_bind (wpAny_fieldsOf ho hd ?_)
 dsimp only
 refine wpAny_bind (wpAny_setEntries_of c d hf ?_)
 rw [if_neg (by simp)]
 refine wpAny_bind (hN _ _ _ ?_)
 dsimp only
 refine wpAny_bind (wpAny_setField ho hd (by simp) ?_)
 refine wpAny_mono (zxz (A:=A) (E:=E) (it:=it) (by exact hh) fun h' k=>q h' fun b ob hb e=>k b ob ((Heap.get?_update_other _ _ (Ne.symm hb)).trans e)) (fun _ _ z=>z.elim) fun e s' z=>?_
 exact z
theorem zq5 {it a tp:Addr}{i ep:Nat}{es:Array (Int × Value)}{t:SetTable}{ot:Obj}{ps:Array Value}{m p:Nat}{x:Value}{k:Int}{tk:Tok}{Q:Option Value->Shared->Prop}(hit:zpd s.heap it a (.ref tp) i es.size ep)(hS:zrh s.heap a es ep t)(ht:s.heap.get? tp=some ot)(hd':ot.data = .seq ps m)
  (hp:ps[i]? = some (.int (p:Int) tk))(hx:es[p]? = some (k,x))(q:∀ h',zpd h' it a (.ref tp) (i+1) es.size ep->Heap.SameBut it s.heap h'->Q (some x) { s with heap:=h' }):wpAny (model P w) A (pyNext (.ref it)) Q E s:=by
 obtain ⟨o,ho,hc,hd⟩:=id hit
 obtain ⟨os,b,d,c,hf⟩:=hS
 unfold pyNext
 refine wpAny_bind (wpAny_attempt (wpAny_callSpecial?_slot (name:=Str.ofString "__next__") hit.typeIs SF.slot_next (wpAny_call_entry SF.slot_next hit.typeIs SF.entry_next ?_ (SF.args_next _))))
 unfold Builtin.«set_iterator.__next__»
 refine wpAny_bind (m:=slotArgs "__next__" 0 ⟨[.ref it],[]⟩) (wpAny_pure ?_)
 refine wpAny_bind (wpAny_fieldsOf ho hd ?_)
 dsimp only
 refine wpAny_bind (wpAny_setEntries_of b c hf ?_)
 rw [if_neg (by simp)]
 refine wpAny_bind (wpAny_seqItems ht hd' ?_)
 dsimp only
 rw [show ((i:Int)).toNat=i from ji i,hp]
 dsimp only
 unfold setNextDrawn
 refine wpAny_bind (wpAny_bind (wpAny_setState_of b c hf ?_))
 dsimp only
 rw [if_neg (by simp),show ((p:Int)).toNat=p from ji p,hx]
 refine wpAny_pure (wpAny_bind (wpAny_setField ho hd (by simp) ?_))
 have o1:=Heap.get?_update_self (Obj.mapFields (·.setIfInBounds 1 (rawInt ((i:Int)+1)))) ho (Obj.isFreed_of_fields (Obj.data_mapFields hd _))
 refine wpAny_pure ⟨_,rfl,wpAny_pure (q _ ⟨_,o1,?_,?_⟩ (Heap.SameBut.update ..))⟩
 ·rw [Obj.cls_mapFields]
  exact hc
 ·rw [Obj.data_mapFields hd]
  simp [rawInt]
theorem zt9 {it a tp:Addr}{i ep:Nat}{es:Array (Int × Value)}{t:SetTable}{ot:Obj}{ps:Array Value}{m:Nat}{Q:Option Value->Shared->Prop}(hh:A.handled=none)(hit:zpd s.heap it a (.ref tp) i es.size ep)(hS:zrh s.heap a es ep t)(ht:s.heap.get? tp=some ot)(hd':ot.data = .seq ps m)
  (hp:ps[i]? = none)(q:∀ h',(∀ b o,b≠it->s.heap.get? b=some o->h'.get? b=some o)->Q none { s with heap:=h' }):wpAny (model P w) A (pyNext (.ref it)) Q E s:=by
 obtain ⟨o,ho,hc,hd⟩:=id hit
 obtain ⟨os,c,f,d,hf⟩:=hS
 unfold pyNext
 refine wpAny_bind (wpAny_attempt (wpAny_callSpecial?_slot (name:=Str.ofString "__next__") hit.typeIs SF.slot_next (wpAny_call_entry SF.slot_next hit.typeIs SF.entry_next ?_ (SF.args_next _))))
 unfold Builtin.«set_iterator.__next__»
 refine wpAny_bind (m:=slotArgs "__next__" 0 ⟨[.ref it],[]⟩) (wpAny_pure ?_)
 refine wpAny_bind (wpAny_fieldsOf ho hd ?_)
 dsimp only
 refine wpAny_bind (wpAny_setEntries_of c d hf ?_)
 rw [if_neg (by simp)]
 refine wpAny_bind (wpAny_seqItems ht hd' ?_)
 dsimp only
 rw [show ((i:Int)).toNat=i from ji i,hp]
 dsimp only
 refine wpAny_bind (wpAny_setField ho hd (by simp) ?_)
 have o1:=Heap.get?_update_self (Obj.mapFields (·.setIfInBounds 0 (rawInt 0))) ho (Obj.isFreed_of_fields (Obj.data_mapFields hd _))
 have d1:=Obj.data_mapFields hd (·.setIfInBounds 0 (rawInt 0))
 refine wpAny_bind (wpAny_setField (s:={ s with heap:=_ }) o1 d1 (by simp) ?_)
 refine wpAny_mono (zxz (A:=A) (E:=E) (it:=it) (by exact hh) fun h' k=>q h' fun b ob hb e=>k b ob ((Heap.get?_update_other _ _ (Ne.symm hb)).trans ((Heap.get?_update_other _ _ (Ne.symm hb)).trans e))) (fun _ _ z=>z.elim) fun e s' z=>?_
 exact z
theorem zxj {it a:Addr}{f:Value}{i n ep:Nat}{Q:Value->Shared->Prop}(hit:zpd s.heap it a f i n ep)(q:Q (.ref it) s):wpAny (model P w) A (pyIter (.ref it)) Q E s:=by
 refine wpAny_pyIter_slot hit.typeIs SF.slot_self (wpAny_call_entry SF.slot_self hit.typeIs SF.entry_self ?_ (SF.args_self _))
 show wpAny _ _ (ret (.ref it)) _ _ s
 exact wpAny_pure ⟨_,rfl,"set_iterator",_,hit.typeIs,SF.slot_next.lookup,q⟩
end
theorem zeg {α:Type}:∀ (l:List α) (i:Nat) (h:i<l.length),(l[i] :: l.eraseIdx i).Perm l
 | a :: r,0,h=>List.Perm.refl _
 | a :: r,i+1,h=>by
  have hi:i<r.length:=by simpa using h
  have ih:=zeg r i hi
  show (r[i] :: a :: r.eraseIdx i).Perm (a :: r)
  exact (List.Perm.swap a r[i] _).trans (ih.cons a)
theorem zr5 {α:Type}(f:Nat->Nat):∀ (fuel k:Nat) (left:List α) (out:Array α),left.length=fuel->(pickOrder.go f fuel k left out).toList.Perm (out.toList++left)
 | 0,k,left,out,h=>by
  unfold pickOrder.go
  rw [j9.mp h]
  simp
 | fuel+1,k,left,out,h=>by
  unfold pickOrder.go
  have hlt:f k % left.length<left.length:=mod_lt _ (by omega)
  rw [List.getElem?_eq_getElem hlt]
  dsimp only
  have ih:=zr5 f fuel (k+1) (left.eraseIdx (f k % left.length)) (out.push left[f k % left.length]) (by rw [List.length_eraseIdx_of_lt hlt]; omega)
  refine ih.trans ?_
  rw [lz,List.append_assoc]
  refine List.Perm.append_left _ ?_
  exact zeg left _ hlt
theorem zi_ {α:Type}(f:Nat->Nat)(xs:Array α):(pickOrder f xs).toList.Perm xs.toList:=by
 unfold pickOrder
 have:=zr5 f xs.size 0 xs.toList #[] (by simp)
 simpa using this
section
variable {P:Program} {w:World} {A:Around} {E:Value->Shared->Prop}
theorem zwj {src:Source}{n:Nat}{s:Shared}{Q:Nat->Shared->Prop}(hn:n≠0)(h:Q (w.draws src (s.drawn.get src) % n) { s with drawn:=s.drawn.bump src }):wpAny (model P w) A (choose src n) Q E s:=fun _ _ _=>⟨hn,h⟩
theorem zxe {α:Type}:∀ (n:Nat) (xs:List α) (s:Shared) (Q:List α->Shared->Prop),xs.length=n->(∀ ys d,ys.Perm xs->Q ys { s with drawn:=d })->wpAny (model P w) A (drawOrder n xs) Q E s
 | 0,xs,s,Q,h,q=>by
  unfold drawOrder
  rw [j9.mp h] at q
  exact wpAny_pure (q [] s.drawn (List.Perm.refl _))
 | n+1,[],s,Q,h,q=>by cases h
 | n+1,x :: xs,s,Q,h,q=>by
  unfold drawOrder
  refine wpAny_bind (zwj (by simp) ?_)
  have hlt:w.draws .order (s.drawn.get .order) % (x :: xs).length<(x :: xs).length:=mod_lt _ (by simp)
  rw [List.getElem?_eq_getElem hlt]
  dsimp only
  refine wpAny_bind (zxe n _ _ _ (by rw [List.length_eraseIdx_of_lt hlt]; omega) fun ys d hp=>wpAny_pure ?_)
  exact q _ d ((hp.cons _).trans (zeg (x :: xs) _ hlt))
theorem zq_ {es:List (Int × Value)}(h:ElemsOf (intKind P w) es):∃ ns:List Int,IntsAre (es.map (·.2)) ns/\∀ k,k∈ns↔∃ e∈es,(intKind P w).is k e.2=true:=by
 induction es with
 | nil=>exact ⟨[],.nil,fun k=>by simp⟩
 | cons e r ih =>
  obtain ⟨ns,hi,hm⟩:=ih h.tail
  obtain ⟨⟨k,hk,_⟩,_⟩:=h.head
  obtain ⟨t,ht⟩:∃ t,e.2 = .int k t:=by
   have a:e.2.isInt k=true:=hk
   cases q:e.2 with
   | int i t =>
    rw [q] at a
    have:i=k:=by simpa [Value.isInt] using a
    exact ⟨t,by rw [this]⟩
   | _=>rw [q] at a; cases a
  refine ⟨k :: ns,?_,fun j=>?_⟩
  ·rw [ig,ht]
   exact .cons k t hi
  ·rw [gx,hm j]
   constructor
   ·rintro (rfl | ⟨e',he,hj⟩)
    ·exact ⟨e,.head _,hk⟩
    ·exact ⟨e',.tail _ he,hj⟩
   ·rintro ⟨e',he,hj⟩
    rcases gx.mp he with rfl | he
    ·exact .inl ((intKind P w).inj e'.2 j k hj hk)
    ·exact .inr ⟨e',he,hj⟩
theorem zoy {ks ns:List Int}:∀ (hd:ks.Nodup) (hs:∀ k∈ks,k∈ns) (hl:ns.length<=ks.length),ks.Perm ns:=by
 induction ks generalizing ns with
 | nil =>
  intro _ _ hl
  rw [j9.mp (Nat.le_zero.mp hl)]
 | cons a r ih =>
  intro hd hs hl
  obtain ⟨ha,hr⟩:=ir.mp hd
  have hm:=hs a (.head _)
  have e:=List.perm_cons_erase hm
  refine List.Perm.trans (List.Perm.cons a (ih (ns:=ns.erase a) hr (fun k hk=>?_) ?_)) e.symm
  ·exact (List.mem_erase_of_ne (fun z:k=a=>ha (by rw [<- z]; exact hk))).mpr (hs k (.tail _ hk))
  ·rw [iw hm]
   simp at hl
   omega
theorem zjr {vs us:List Value}(p:vs.Perm us):∀ {ns:List Int},IntsAre us ns->∃ ms,IntsAre vs ms/\ms.Perm ns:=by
 induction p with
 | nil=>intro ns h; exact ⟨ns,h,List.Perm.refl _⟩
 | cons x _ ih =>
  intro ns h
  cases h with
  | cons n t hr =>
   obtain ⟨ms,h1,h2⟩:=ih hr
   exact ⟨n :: ms,.cons n t h1,h2.cons n⟩
 | swap x y l =>
  intro ns h
  cases h with
  | cons n t hr =>
   cases hr with
   | cons m u hr =>
    exact ⟨_,.cons m u (.cons n t hr),List.Perm.swap _ _ _⟩
 | trans _ _ ih1 ih2 =>
  intro ns h
  obtain ⟨ms,h1,h2⟩:=ih2 h
  obtain ⟨ls,h3,h4⟩:=ih1 h1
  exact ⟨ls,h3,h4.trans h2⟩
theorem zeq {h h':Heap}{a:Addr}{es:Array (Int × Value)}{ep:Nat}{t:SetTable}(x:zrh h a es ep t)(k:∀ o,h.get? a=some o->h'.get? a=some o):zrh h' a es ep t:=by
 obtain ⟨o,ho,r⟩:=x
 exact ⟨o,k o ho,r⟩
theorem zud {h h':Heap}{it a:Addr}{f:Value}{i n ep:Nat}(x:zpd h it a f i n ep)(k:∀ o,h.get? it=some o->h'.get? it=some o):zpd h' it a f i n ep:=by
 obtain ⟨o,ho,r⟩:=x
 exact ⟨o,k o ho,r⟩
theorem zll {a it:Addr}{es:Array (Int × Value)}{ep:Nat}{t:SetTable}(hne:a≠it)(ord:List Value)(hl:ord.length=es.size)(slots:Nat->Nat)
  (hN:∀ (i:Nat) (x:Value),ord[i]? = some x->∀ (s:Shared) (B:Around) (E':Value->Shared->Prop) (Q':Option (Value × Nat)->Shared->Prop),zrh s.heap a es ep t->Q' (some (x,slots (i+1))) s->wpAny (model P w) B (setNext a (slots i) i ep) Q' E' s)
  (hE:∀ (s:Shared) (B:Around) (E':Value->Shared->Prop) (Q':Option (Value × Nat)->Shared->Prop),zrh s.heap a es ep t->Q' none s->wpAny (model P w) B (setNext a (slots es.size) es.size ep) Q' E' s)(hh:A.handled=none) :
  Walks P w A it [it,a] [it] ord.length (fun i v=>ord[i]? = some v) (fun i h=>zpd h it a (.int (slots i) 0) i es.size ep/\zrh h a es ep t) where
 sub:=fun b hb=>by simp at hb; simp [hb]
 frame:=fun i h h' st hk=>⟨zud st.1 fun o e=>hk it (by simp) o e,zeq st.2 fun o e=>hk a (by simp) o e⟩
 item:=fun i s Q E hi st hQ=>by
  refine zs6 (x:=ord[i]) (nx:=slots (i+1)) st.1 st.2 hne (fun B E' Q' z=>hN i _ (by simp [hi]) s B E' Q' st.2 z) fun h' si sb=>?_
  exact hQ _ h' s.toks (by simp [hi]) ⟨si,zeq st.2 fun o e=>(sb.2 a hne).trans e⟩ fun b o hb e=>(sb.2 b (fun z=>hb (by simp [z]))).trans e
 done:=fun s Q E st hQ=>by
  have st1:=st.1
  rw [hl] at st1
  exact zw2 hh st1 st.2 (fun B E' Q' z=>hE s B E' Q' st.2 z) fun h' k=>hQ h' s.toks fun b o hb e=>k b o (fun z=>hb (by simp [z])) e
 self:=fun i s Q E st hQ=>zxj st.1 hQ
theorem zpf {a it tp:Addr}{es:Array (Int × Value)}{ep m:Nat}{t:SetTable}{ot:Obj}{ps:Array Value}(hd:ot.data = .seq ps m)(hne:a≠it)(hnt:tp≠it)(ord:List Value)(hl:ord.length=ps.size)
  (hp:∀ (i:Nat) (x:Value),ord[i]? = some x->∃ (p:Nat) (k:Int) (tk:Tok),ps[i]? = some (.int (p:Int) tk)/\es[p]? = some (k,x))(hh:A.handled=none) :
  Walks P w A it [it,a,tp] [it] ord.length (fun i v=>ord[i]? = some v) (fun i h=>zpd h it a (.ref tp) i es.size ep/\zrh h a es ep t/\h.get? tp=some ot) where
 sub:=fun b hb=>by simp at hb; simp [hb]
 frame:=fun i h h' st hk=>⟨zud st.1 fun o e=>hk it (by simp) o e,zeq st.2.1 fun o e=>hk a (by simp) o e,hk tp (by simp) _ st.2.2⟩
 item:=fun i s Q E hi st hQ=>by
  obtain ⟨p,k,tk,h1,h2⟩:=hp i ord[i] (by simp [hi])
  refine zq5 st.1 st.2.1 st.2.2 hd h1 h2 fun h' si sb=>?_
  exact hQ _ h' s.toks (by simp [hi]) ⟨si,zeq st.2.1 fun o e=>(sb.2 a hne).trans e,(sb.2 tp hnt).trans st.2.2⟩ fun b o hb e=>(sb.2 b (fun z=>hb (by simp [z]))).trans e
 done:=fun s Q E st hQ=>zt9 hh st.1 st.2.1 st.2.2 hd (by rw [hl]; simp) fun h' k=>hQ h' s.toks fun b o hb e=>k b o (fun z=>hb (by simp [z])) e
 self:=fun i s Q E st hQ=>zxj st.1 hQ
def zxs (t:SetTable):Nat->Nat
 | 0=>0
 | i+1=>(t.place[i]?).getD 0+1
theorem zh9 {t:SetTable}(hr:Ris t.place){i:Nat}(h:i<=t.place.size):SetTable.below t.place (zxs t i)=i:=by
 cases i with
 | zero=>exact zrx hr
 | succ j =>
  show SetTable.below t.place ((t.place[j]?).getD 0+1)=j+1
  rw [Array.getElem?_eq_getElem (by omega:j<t.place.size),nz]
  exact zwg hr (by omega)
theorem zni {s:Shared}{a:Addr}{es:Array (Int × Value)}{ep i:Nat}{t:SetTable}{Q:Option (Value × Nat)->Shared->Prop}(bt:w.params.followText "set-order" = true)(SQ:zrh s.heap a es ep t)(q:Q (((pickOrder (w.params.setOrder a ep) es)[i]?).map fun e=>(e.2,0)) s):wpAny (model P w) A (setNext a 0 i ep) Q E s:=by
 obtain ⟨o,ho,b,hd,hf⟩:=SQ
 unfold setNext setsByText
 refine wpAny_bind (wpAny_setState_of ho hd hf ?_)
 dsimp only
 refine wpAny_bind (wpAny_bind (wpAny_askSetting (wpAny_pure ?_)))
 show wpAny _ _ (if w.params.followText "set-order" = true then _ else _) _ _ _
 rw [if_pos bt]
 rw [if_neg (by simp)]
 unfold setWalk setsByText
 refine wpAny_bind (wpAny_bind (wpAny_setState_of ho hd hf ?_))
 dsimp only
 refine wpAny_bind (wpAny_bind (wpAny_askSetting (wpAny_pure ?_)))
 show wpAny _ _ (if w.params.followText "set-order" = true then _ else _) _ _ _
 rw [if_pos bt]
 exact wpAny_bind (wpAny_askSetting (wpAny_pure (wpAny_pure q)))
theorem zlm {s:Shared}{a:Addr}{es:Array (Int × Value)}{ep i slot:Nat}{t:SetTable}{Q:Option (Value × Nat)->Shared->Prop}(bt:w.params.followText "set-order" = false)(hdr:(!t.plain && decide (es.size > 1))=false)(hl:t.led=true)(SQ:zrh s.heap a es ep t)
  (q:Q (match es[SetTable.below t.place slot]?,t.place[SetTable.below t.place slot]? with | some (_,x),some j=>some (x,j+1) | _,_=>none) s):wpAny (model P w) A (setNext a slot i ep) Q E s:=by
 obtain ⟨o,ho,b,hd,hf⟩:=SQ
 unfold setNext setsByText
 refine wpAny_bind (wpAny_setState_of ho hd hf ?_)
 dsimp only
 refine wpAny_bind (wpAny_bind (wpAny_askSetting (wpAny_pure ?_)))
 show wpAny _ _ (if w.params.followText "set-order" = true then _ else _) _ _ _
 rw [if_neg (by rw [bt]; exact Bool.false_ne_true)]
 show wpAny _ _ (if (!t.plain && decide (es.size > 1))=true then _ else _) _ _ _
 rw [if_neg (by rw [hdr]; exact Bool.false_ne_true)]
 refine wpAny_bind ?_
 show wpAny _ _ (if (!t.led && !es.isEmpty)=true then _ else _) _ _ _
 rw [if_neg (by rw [hl]; simp)]
 exact wpAny_pure (wpAny_pure q)
theorem z1y {s:Shared}{a:Addr}{ks:List Int}{Q:Value->Shared->Prop}(X:znc P w s.heap a ks)(hd:ks.Nodup)
  (q:∀ (it:Addr) (fp:List Addr) (ord:List Value) (ns:List Int) (St:Nat->Heap->Prop) (h':Heap) (d:Drawn),(∀ b o,s.heap.get? b=some o->h'.get? b=some o)->(∀ b∈fp,b=a\/s.heap.objs.size<=b)->s.heap.objs.size<=it->(∀ b∈fp,b<h'.objs.size)->it∈fp->IntsAre ord ns->ns.Perm ks ->
   (∀ B:Around,B.handled=none->Walks P w B it fp [it] ord.length (fun i v=>ord[i]? = some v) St)->St 0 h'->Q (.ref it) { s with heap:=h',drawn:=d }):wpAny (model P w) A (pyIter (.ref a)) Q E s:=by
 obtain ⟨o,es,ep,t,ho,ae,h,ag,hm,hb,hf,hn,hT⟩:=X
 obtain ⟨ns,hi,ah⟩:=zq_ ag
 have y:ns.Perm ks:=by
  refine (zoy hd (fun k hk=>(ah k).mpr ((hm k).mp hk)) ?_).symm
  have:=hi.length
  simp at this
  omega
 have ac:s.TypeIs (.ref a) "set" :=⟨o,ho,ae.1⟩
 have SQ:zrh s.heap a es ep t:=⟨o,ho,ae,h,hf⟩
 refine wpAny_pyIter_slot ac F.slot_set_iter (wpAny_call_entry F.slot_set_iter ac SF.entry_iter ?_ (F.args_set_iter_1 _))
 unfold Builtin.«frozenset.__iter__» Builtin.Frozenset.slot0
 refine wpAny_bind (wpAny_bind (m:=slotArgs "__iter__" 0 ⟨[.ref a],[]⟩) (wpAny_pure ?_))
 unfold Builtin.Frozenset.addrOf Builtin.Frozenset.sizeOf
 refine wpAny_pure (wpAny_bind (wpAny_bind (wpAny_setEntries_of ho h hf (wpAny_pure ?_))))
 unfold setDrawn setsByText
 refine wpAny_bind (wpAny_bind (wpAny_setState_of ho h hf (wpAny_bind (wpAny_bind (wpAny_askSetting (wpAny_pure (wpAny_pure ?_)))))))
 show wpAny _ _ (if (!w.params.followText "set-order" && (!t.plain && decide (es.size > 1)))=true then _ else _) _ _ _
 have lt:a<s.heap.objs.size:=i3 ho
 by_cases j:(!w.params.followText "set-order" && (!t.plain && decide (es.size > 1)))=true
 ·rw [if_pos j]
  refine wpAny_bind (zxe es.size (n8 es.size) s _ (by simp) fun ys d hy=>?_)
  simp only [newTuple]
  refine wpAny_bind (wpAny_newObj_type ?_ ?sz)
  case sz =>
   show (ys.map fun (i:Nat)=>rawInt i).toArray.size<=sizeLine
   have:=hy.length_eq
   rw [gu,gf,this,List.length_range]
   exact fits_of_scanBound hb
  unfold setEpoch
  have k1:∀ b ob,s.heap.get? b=some ob->(s.heap.push { cls:= .type "tuple",data:= .seq (ys.map fun (i:Nat)=>rawInt i).toArray }).get? b=some ob:=fun b ob e=>Heap.get?_push_of_some _ e
  refine wpAny_bind (wpAny_bind (wpAny_setState_of (k1 _ _ ho) h hf (wpAny_pure ?_)))
  simp only [newFields]
  refine wpAny_bind (wpAny_newObj_type ?_ (by size_fits))
  have c:(s.heap.push { cls:= .type "tuple",data:= .seq (ys.map fun (i:Nat)=>rawInt i).toArray }).objs.size=s.heap.objs.size+1:=jz ..
  refine wpAny_pure ⟨_,rfl,"set_iterator",_,⟨_,Heap.get?_push_size _ rfl,rfl⟩,SF.slot_next.lookup,?_⟩
  have gt:(s.heap.push { cls:= .type "tuple",data:= .seq (ys.map fun (i:Nat)=>rawInt i).toArray }).get? s.heap.objs.size=some { cls:= .type "tuple",data:= .seq (ys.map fun (i:Nat)=>rawInt i).toArray }:=Heap.get?_push_size _ rfl
  generalize s.heap.push { cls:= .type "tuple",data:= .seq (ys.map fun (i:Nat)=>rawInt i).toArray }=H1 at k1 c gt |-
  have k2:∀ b ob,H1.get? b=some ob->(H1.push { cls:= .type "set_iterator",data:= .fields #[.ref s.heap.objs.size,rawInt 0,.ref a,rawInt es.size,rawInt ep] }).get? b=some ob:=fun b ob e=>Heap.get?_push_of_some _ e
  have ai:(H1.push { cls:= .type "set_iterator",data:= .fields #[.ref s.heap.objs.size,rawInt 0,.ref a,rawInt es.size,rawInt ep] }).objs.size=s.heap.objs.size+2:=by rw [jz,c]
  have l:zpd (H1.push { cls:= .type "set_iterator",data:= .fields #[.ref s.heap.objs.size,rawInt 0,.ref a,rawInt es.size,rawInt ep] }) H1.objs.size a (.ref s.heap.objs.size) 0 es.size ep:=⟨_,Heap.get?_push_size _ rfl,rfl,rfl⟩
  have n:=zeq SQ fun ob e=>k2 _ _ (k1 _ _ e)
  have al:∀ p∈ys,p<es.size:=fun p hp=>mq.mp (hy.mem_iff.mp hp)
  have er:(n8 es.size).map (fun p=>((es[p]?).map (·.2)).getD .none)=es.toList.map (·.2):=by
   apply my
   ·simp
   ·intro i h1 h2
    simp at h1
    simp [h1]
  obtain ⟨ms,r,u⟩:=zjr (vs:=ys.map (fun p=>((es[p]?).map (·.2)).getD .none)) (us:=es.toList.map (·.2)) (by rw [<- er]; exact hy.map _) hi
  have ab:∀ b∈[H1.objs.size,a,s.heap.objs.size],b=H1.objs.size\/b=a\/b=s.heap.objs.size:=fun b hb=>by simpa using hb
  refine q H1.objs.size [H1.objs.size,a,s.heap.objs.size] _ ms _ _ d (fun b ob e=>k2 _ _ (k1 _ _ e)) (fun b hb=>?_) (by rw [c]; exact jg _) (fun b hb=>?_) (by simp) r (u.trans y)
   (fun B hB=>zpf (t:=t) (es:=es) (ep:=ep) (tp:=s.heap.objs.size) rfl (fun z=>?_) (fun z=>?_) _ (by simp) ?_ hB) ⟨l,n,k2 _ _ gt⟩
  ·rcases ab b hb with z | z | z
   ·rw [z,c]; exact .inr (jg _)
   ·exact .inl z
   ·exact .inr (lc z.symm)
  ·rw [ai]
   rcases ab b hb with z | z | z
   ·rw [z,c]; exact iz _
   ·rw [z]; exact jc (jc lt)
   ·rw [z]; exact jc (iz _)
  ·rw [z,c] at lt
   exact absurd lt (o7.mpr (jg _))
  ·rw [c] at z
   exact absurd z (i0 (iz _))
  ·intro i x hx
   rw [List.getElem?_map] at hx
   cases g:ys[i]? with
   | none=>rw [g] at hx; cases hx
   | some p =>
    rw [g] at hx
    have hp:=al p (i4 g)
    have ak:es[p]? = some es[p]:=Array.getElem?_eq_getElem hp
    refine ⟨p,es[p].1,0,?_,?_⟩
    ·simp [g,rawInt]
    ·have af:((es[p]?).map (·.2)).getD .none=x:=Option.some.inj hx
     rw [ak] at af |-
     have aj:es[p].2=x:=af
     rw [<- aj]
 ·rw [if_neg j]
  refine wpAny_bind (wpAny_pure ?_)
  unfold setEpoch
  refine wpAny_bind (wpAny_bind (wpAny_setState_of ho h hf (wpAny_pure ?_)))
  simp only [newFields]
  refine wpAny_bind (wpAny_newObj_type ?_ (by size_fits))
  refine wpAny_pure ⟨_,rfl,"set_iterator",_,⟨_,Heap.get?_push_size _ rfl,rfl⟩,SF.slot_next.lookup,?_⟩
  have k1:∀ b ob,s.heap.get? b=some ob->(s.heap.push { cls:= .type "set_iterator",data:= .fields #[rawInt 0,rawInt 0,.ref a,rawInt es.size,rawInt ep] }).get? b=some ob:=fun b ob e=>Heap.get?_push_of_some _ e
  have ne:a≠s.heap.objs.size:=i0 lt
  have n:=zeq SQ (k1 a)
  have l:zpd (s.heap.push { cls:= .type "set_iterator",data:= .fields #[rawInt 0,rawInt 0,.ref a,rawInt es.size,rawInt ep] }) s.heap.objs.size a (.int (0:Nat) 0) 0 es.size ep:=⟨_,Heap.get?_push_size _ rfl,rfl,rfl⟩
  have sz:(s.heap.push { cls:= .type "set_iterator",data:= .fields #[rawInt 0,rawInt 0,.ref a,rawInt es.size,rawInt ep] }).objs.size=s.heap.objs.size+1:=jz ..
  have aa:∀ b∈[s.heap.objs.size,a],b=a\/s.heap.objs.size<=b:=fun b hb=>by
   rcases (show b=s.heap.objs.size\/b=a by simpa using hb) with z | z
   ·exact .inr (lc z.symm)
   ·exact .inl z
  have ad:∀ b∈[s.heap.objs.size,a],b<(s.heap.push { cls:= .type "set_iterator",data:= .fields #[rawInt 0,rawInt 0,.ref a,rawInt es.size,rawInt ep] }).objs.size:=fun b hb=>by
   rw [sz]
   rcases (show b=s.heap.objs.size\/b=a by simpa using hb) with z | z
   ·rw [z]; exact iz _
   ·rw [z]; exact jc lt
  by_cases bt:w.params.followText "set-order" = true
  ·-- by the text's order
   obtain ⟨ms,r,u⟩:=zjr ((zi_ (w.params.setOrder a ep) es).map (·.2)) hi
   refine q s.heap.objs.size [s.heap.objs.size,a] _ ms _ _ s.drawn k1 aa (gv _) ad (by simp) r (u.trans y) (fun B hB=>zll (t:=t) (es:=es) (ep:=ep) ne _ (by have:=(zi_ (w.params.setOrder a ep) es).length_eq; simpa using this) (fun _=>0) ?_ ?_ hB) ⟨l,n⟩
   ·intro i x hx s' B' E' Q' f z
    refine zni bt f ?_
    rw [List.getElem?_map] at hx
    cases g:(pickOrder (w.params.setOrder a ep) es).toList[i]? with
    | none=>rw [g] at hx; cases hx
    | some e =>
     rw [g] at hx
     cases hx
     rw [Array.getElem?_toList] at g
     rw [g]
     exact z
   ·intro s' B' E' Q' f z
    refine zni bt f ?_
    have hsz:(pickOrder (w.params.setOrder a ep) es).size=es.size:=by have:=(zi_ (w.params.setOrder a ep) es).length_eq; simpa using this
    rw [Array.getElem?_eq_none (by omega)]
    exact z
  ·have bf:w.params.followText "set-order" = false:=jr.mpr bt
   have dr:(!t.plain && decide (es.size > 1))=false:=by
    rw [bf] at j
    simpa using j
   have ld:t.led=true:=by rw [hT.led]; unfold zpo; rw [bf]; rfl
   have am:t.place.size=es.size:=by
    simp only [SetTable.fits,j4,beq_iff_eq] at hf
    exact hf.1
   refine q s.heap.objs.size [s.heap.objs.size,a] _ ns _ _ s.drawn k1 aa (gv _) ad (by simp) hi y (fun B hB=>zll (t:=t) (es:=es) (ep:=ep) ne _ (by simp) (zxs t) ?_ ?_ hB) ⟨l,n⟩
   ·intro i x hx s' B' E' Q' f z
    refine zlm bf dr ld f ?_
    rw [List.getElem?_map] at hx
    cases g:es.toList[i]? with
    | none=>rw [g] at hx; cases hx
    | some e =>
     rw [g] at hx
     cases hx
     rw [Array.getElem?_toList] at g
     have an:i<es.size:=(Array.getElem?_eq_some_iff.mp g).1
     have eb:=zh9 hT.ris (i:=i) (by omega)
     have gp:t.place[i]? = some (t.place[i]'(by omega)):=Array.getElem?_eq_getElem (by omega)
     rw [eb,g,gp]
     have z':Q' (some (e.2,(t.place[i]?).getD 0+1)) s':=z
     rw [gp] at z'
     exact z'
   ·intro s' B' E' Q' f z
    refine zlm bf dr ld f ?_
    have eb:=zh9 hT.ris (i:=es.size) (by omega)
    rw [eb,Array.getElem?_eq_none (gv _)]
    exact z
theorem ztg {s:Shared}{a:Addr}{ks:List Int}{Q:List Value->Shared->Prop}(hh:A.handled=none)(X:znc P w s.heap a ks)(hd:ks.Nodup)(hn:ks.length<=1000)
  (q:∀ s' vs ns,(∀ b o,s.heap.get? b=some o->s'.heap.get? b=some o)->s'.gens=s.gens->s'.os=s.os->s.heap.objs.size<=s'.heap.objs.size->IntsAre vs ns->ns.Perm ks->Q vs s'):wpAny (model P w) A (collect (.ref a)) Q E s:=by
 unfold collect
 refine wpAny_bind (wpAny_runValue (codeAny_builtin F.entry_proto_collect ?_))
 rw [im F.plain_proto_collect _]
 refine wpAny_bind (m:=newList []) (wpAny_newObj_type (wpAny_pure ⟨plainId_quiet F.plain_list_iadd _,codeAny_builtin F.entry_list_iadd ?_⟩))
 rw [im F.plain_list_iadd _]
 obtain ⟨H0,g⟩:∃ H0:Heap,H0=s.heap.push { cls:= .type "list",data:= .seq ([]:List Value).toArray }:=⟨_,rfl⟩
 have t:H0.objs.size=s.heap.objs.size+1:=by rw [g]; exact jz ..
 have k0:∀ b o,s.heap.get? b=some o->H0.get? b=some o:=fun b o e=>by rw [g]; exact Heap.get?_push_of_some _ e
 have g0:H0.get? s.heap.objs.size=some { cls:= .type "list",data:= .seq ([]:List Value).toArray }:=by rw [g]; exact Heap.get?_push_size _ rfl
 show wpAny _ A.in1 (Builtin.List.listExtendWith (.ref s.heap.objs.size) (.ref a) (.ref s.heap.objs.size)) _ _ { s with heap:=s.heap.push _ }
 rw [<- g]
 have X0:znc P w H0 a ks:=X.keep fun o e=>k0 _ _ e
 have la:a<s.heap.objs.size:=by
  obtain ⟨o,_,_,_,ho,_⟩:=X
  exact i3 ho
 have r:Shared.TypeIs { s with heap:=H0 } (.ref a) "set" :=by
  obtain ⟨o,_,_,_,ho,ab,_⟩:=X0
  exact ⟨o,ho,ab.1⟩
 unfold Builtin.List.listExtendWith
 refine wpAny_bind (wpAny_typeOf r ?_)
 have n1:Builtin.List.listSameRef (.ref s.heap.objs.size) (.ref a)=false:=by
  show (s.heap.objs.size == a)=false
  exact beq_eq_false_iff_ne.mpr (jf la)
 have n2:(o6 "set" == o6 "list")=false:=by decide
 have n3:(o6 "set" == o6 "tuple")=false:=by decide
 simp only [n1,n2,n3,Bool.or_false,j3,if_false]
 refine wpAny_bind (z1y (s:={ s with heap:=H0 }) X0 hd fun it fp f ns St h1 d k1 aa n ad ae j hp W st=>?_)
 refine wpAny_bind (wpAny_holding ?_)
 have l:Shared.TypeIs { s with heap:=h1,drawn:=d } (.ref a) "set" :=by
  obtain ⟨o,ho,hc⟩:=r
  exact ⟨o,k1 _ _ ho,hc⟩
 unfold Builtin.List.listLengthHint
 refine wpAny_bind (wpAny_specialOf l SF.len_set ?_)
 wp_delta
 refine wpAny_bind (wpAny_isInstance (T:= "set") (b:=true) l (by rw [isSubtype_type]; kernel_rfl) ?_)
 show wpAny _ A.in1 (typeOf (Value.ref a) >>= _) _ _ _
 refine wpAny_bind (wpAny_typeOf l ?_)
 refine wpAny_pure ?_
 rw [if_pos (by decide)]
 refine wpAny_bind (wpAny_rule ?_)
 refine wpAny_bind ?_
 show wpAny _ A.in1 (updateSeq s.heap.objs.size (·.push .none) >>= fun _=>updateSeq s.heap.objs.size (·.pop)) _ _ _
 have y:h1.get? s.heap.objs.size=some { cls:= .type "list",data:= .seq ([]:List Value).toArray }:=k1 _ _ g0
 refine wpAny_bind (wpAny_updateSeq y rfl ?_)
 have p:=Heap.get?_update_self (Obj.mapSeq (·.push Value.none)) y rfl
 refine wpAny_updateSeq (hz:=by seq_fits) p rfl ?_
 have ac:=Heap.get?_update_self (Obj.mapSeq (·.pop)) p rfl
 have x:∀ b o,b≠s.heap.objs.size->h1.get? b=some o->((h1.update s.heap.objs.size (Obj.mapSeq (·.push Value.none))).update s.heap.objs.size (Obj.mapSeq (·.pop))).get? b=some o :=
  fun b o hb e=>(Heap.get?_update_other _ _ (Ne.symm hb)).trans ((Heap.get?_update_other _ _ (Ne.symm hb)).trans e)
 have v:s.heap.objs.size∉fp:=fun hm=>by
  rcases aa _ hm with e | e
  ·exact absurd e (jf la)
  ·have e2:H0.objs.size<=s.heap.objs.size:=e
   rw [t] at e2
   omega
 have hl:f.length<=sizeLine:=by
  have e1:=j.length
  have e2:=hp.length_eq
  have:f.length<=1000:=by omega
  exact gy this (by decide)
 refine wpAny_pure ⟨plainId_quiet F.plain_extend_loop _,codeAny_extend_loopS (W A.in1 hh).toS hl _ v _ f.length 0 _ _ _ rfl (ix _)
  ((W A.in1 hh).frame 0 _ _ st fun b hb o e=>x b o (fun z=>v (z ▸ hb)) e) ac (ItemsOf.nil _) fun s' c c' hm u h=>?_⟩
 show wpAny _ A (load s.heap.objs.size >>= _) _ _ s'
 refine wpAny_bind (wpAny_load u ?_)
 refine wpAny_pure (q s' c.toList ns (fun b ob e=>hm.heap b ob (fun hb=>?_) (x b ob (i0 (i3 e)) (k1 _ _ (k0 _ _ e)))) hm.gens hm.os (ie (i3 u)) ?_ hp)
 ·have lb:=i3 e
  rcases gx.mp hb with z | z
  ·exact jh _ (z ▸ lb)
  ·rw [gb.mp z] at lb
   have e2:H0.objs.size<=it:=n
   rw [t] at e2
   exact jh _ (gs lb (gy (jg _) e2))
 ·have e:c.toList=f:=by
   apply List.ext_getElem?
   intro i
   rcases Nat.lt_or_ge i c.size with hi | hi
   ·have z:=h.2 i c[i] (by simp [hi])
    rw [z]
    simp [hi]
   ·rw [List.getElem?_eq_none (by simpa using hi),List.getElem?_eq_none (by rw [<- h.1]; exact hi)]
  rw [e]
  exact j
theorem zwa {s:Shared}{a:Addr}{ks:List Int}{Q:Value->Shared->Prop}(hh:A.handled=none)(X:znc P w s.heap a ks)(hd:ks.Nodup)(hn:ks.length<64)
  (q:∀ (s':Shared) (r:Addr) (vs:List Value) (ns:List Int),(∀ b o,s.heap.get? b=some o->s'.heap.get? b=some o)->s'.gens=s.gens->s'.os=s.os->s.heap.objs.size<=r ->
   (∃ e,s'.heap.get? r=some (seqObj "list" vs.toArray e))->IntsAre vs ns->ns.Perm ks->ns.Pairwise (· <= ·)->Q (.ref r) s') :
  wpAny (model P w) A (call (.builtin "sorted") [.ref a]) Q E s:=by
 refine Calls.call_function_entry kind_sorted plain_sorted entry_sorted (args_sorted1 _) ?_
 unfold Builtin.«sorted»
 refine wpAny_bind (m:=checkCount "sorted" 1 1 _) (wpAny_pure ?_)
 refine wpAny_bind (ztg (by exact hh) X hd (by omega) fun s1 vs ns k1 g1 o1 z1 hi hp=>?_)
 have f:vs.length<64:=by
  have e1:=hi.length
  have e2:=hp.length_eq
  omega
 refine wpAny_bind (wpAny_newList (hsz:=gy (ie f) (by decide)) ?_)
 have d:(s1.heap.push (seqObj "list" vs.toArray 0)).get? s1.heap.objs.size=some (seqObj "list" vs.toArray 0):=Heap.get?_push_size _ rfl
 show wpAny _ _ _ _ _ { s1 with heap:=s1.heap.push (seqObj "list" vs.toArray 0) }
 refine wpAny_bind (wpAny_holding (wpAny_call_entry slot_list_sort ⟨_,d,rfl⟩ entry_list_sort (list_sort_tree d hi f fun out g a1 a2 a3=>⟨_,rfl,?_⟩) (args_list_sort _)))
 obtain ⟨H1,c⟩:∃ H1,H1=s1.heap.push (seqObj "list" vs.toArray 0):=⟨_,rfl⟩
 have z2:H1.objs.size=s1.heap.objs.size+1:=by rw [c]; exact size_push' _ _
 have kk:∀ b o,s1.heap.get? b=some o->(sortedHeap H1 s1.heap.objs.size vs out).get? b=some o:=fun b o e=>by
  rw [sortedHeap_old (i0 (i3 e)) (by rw [z2]; exact jc (i3 e)),c]
  exact Heap.get?_push_of_some _ e
 have ka:∃ e,(sortedHeap H1 s1.heap.objs.size vs out).get? s1.heap.objs.size=some (seqObj "list" out e):=sortedHeap_at (n:=0) (by rw [c]; exact d)
 rw [<- c]
 generalize sortedHeap H1 s1.heap.objs.size vs out=H2 at kk ka |-
 refine wpAny_pure ⟨_,rfl,q _ _ out.toList g (fun b o e=>?_) g1 o1 ?_ ?_ a1 (a2.trans hp) a3⟩
 ·exact kk _ _ (k1 _ _ e)
 ·exact z1
 ·exact ka
end
def zau (ns:List Int):List Int:=ns.mergeSort (fun a b=>decide (a<=b))
theorem zan (ns:List Int):(zau ns).Perm ns:=List.mergeSort_perm _ _
theorem zh2 (ns:List Int):(zau ns).Pairwise (· <= ·):=by
 have h:=List.pairwise_mergeSort (le:=fun a b:Int=>decide (a<=b)) (by intro a b c h1 h2; simp at *; omega) (by intro a b; simp; omega) ns
 exact h.imp fun h=>by simpa using h
theorem zns:∀ {a b:List Int},a.Perm b->a.Pairwise (· <= ·)->b.Pairwise (· <= ·)->a=b
 | [],b,p,_,_=>(mj.mp p).symm
 | x :: r,[],p,_,_=>absurd p.symm (by intro z; exact absurd (mj.mp z) (by simp))
 | x :: r,y :: q,p,h1,h2=>by
  obtain ⟨hx,hr⟩:=j0.mp h1
  obtain ⟨hy,hq⟩:=j0.mp h2
  have e:x=y:=by
   have m1:x∈y :: q:=p.subset (.head _)
   have m2:y∈x :: r:=p.symm.subset (.head _)
   rcases gx.mp m1 with e | m1
   ·exact e
   ·rcases gx.mp m2 with e | m2
    ·exact e.symm
    ·have:=hx y m2
     have:=hy x m1
     omega
  subst e
  rw [zns (List.Perm.cons_inv p) hr hq]
theorem ziv {a b:List Int}(p:a.Perm b)(h:a.Pairwise (· <= ·)):a=zau b:=zns (p.trans (zan b).symm) h (zh2 b)
theorem zbi (ns:List Int):(zau ns).length=ns.length:=(zan ns).length_eq
section
variable {X:Cx}
theorem zo6:zit X (.builtin "sorted") (fun xs H Q=>∃ (p:Addr) (ns:List Int),xs=[.ref p]/\SqL X.K H p (ns.map V.int)/\ns.length<64/\∀ l,H l=none->Q (.ref l) (upd H l (.lst ((zau ns).map V.int)))):=by
 intro pins s σ H xs us Q I r h
 obtain ⟨p,ns,rfl,hq,hl,q⟩:=h
 obtain ⟨u,rfl,ru⟩:=zhm r
 cases (show u=Value.ref p from ru)
 obtain ⟨its,rv,pl,hz⟩:=I.list hq
 have hi:IntsAre its ns:=zhi rv
 have c:=hi.length
 refine sorted_ints (vs:=its) pl.isList hi (by omega) fun out d a1 a2 a3=>?_
 obtain ⟨e,he⟩:=sortedAll_at s.heap its out
 have e2:=ziv a2 a3
 subst e2
 refine ⟨.ref (s.heap.objs.size+1),_,I.laid (a:=s.heap.objs.size+1) (o:= .lst ((zau ns).map V.int)) (t':=s.toks) (fun b o e=>sortedAll_old e) (jg _) ?_,rfl,q _ (I.hok.fresh (jg _))⟩
 exact ⟨by rw [gf,zbi]; exact gy (ie hl) (by decide),out.toList,e,zdq a1,he⟩
def stX (X:Cx)(l:Addr)(ks:List Int):HO:= .ext fun h=>znc X.prog X.w h l ks
theorem zut (hc:X.calm=true):zit X (.type "set") (fun xs H Q=>∃ (p:Addr) (ns:List Int),xs=[.ref p]/\SqL X.K H p (ns.map V.int)/\ns.length<=1000/\∀ l,H l=none->Q (.ref l) (upd H l (stX X l (zf2 ns)))):=by
 intro pins s σ H xs us Q I r h
 obtain ⟨p,ns,rfl,hq,hl,q⟩:=h
 obtain ⟨u,rfl,ru⟩:=zhm r
 cases (show u=Value.ref p from ru)
 obtain ⟨its,rv,pl,hz⟩:=I.list hq
 have hi:IntsAre its ns:=zhi rv
 have b:=hi.length
 refine zrn (its:=its.toArray) (ns:=ns) (I.ok.hd hc) pl.isList (by simpa using hi) (by rw [gu]; unfold scanBound; omega) fun h' tk hS hk=>?_
 refine ⟨.ref s.heap.objs.size,_,I.laid (a:=s.heap.objs.size) (o:=stX X s.heap.objs.size (zf2 ns)) (t':=tk) hk (gv _) ?_,rfl,q _ (I.hok.fresh (gv _))⟩
 have ez:its.toArray.size=ns.length:=by rw [gu,b]
 rw [ez] at hS
 refine ⟨hS,?_,fun h1 h2 x k=>x.keep k⟩
 obtain ⟨o,_,_,_,ho,_⟩:=hS
 exact ⟨o,ho⟩
theorem znz (hc:X.calm=true):zit X (.builtin "sorted") (fun xs H Q=>∃ (p:Addr) (ks:List Int),xs=[.ref p]/\H p=some (stX X p ks)/\ks.Nodup/\ks.length<64/\∀ l,H l=none->Q (.ref l) (upd H l (.lst ((zau ks).map V.int)))):=by
 intro pins s σ H xs us Q I r h
 obtain ⟨p,ks,rfl,hq,hd,hl,q⟩:=h
 obtain ⟨u,rfl,ru⟩:=zhm r
 cases (show u=Value.ref p from ru)
 obtain ⟨hS,_⟩:=I.hok p _ hq
 refine zwa (I.ok.hd hc) hS hd hl fun s' l vs ns k1 g1 o1 z1 a hi hp hs=>?_
 obtain ⟨e,he⟩:=a
 have e2:=ziv hp hs
 subst e2
 have fr:H l=none:=I.hok.fresh z1
 refine ⟨.ref l,upd H l (.lst ((zau ks).map V.int)),I.call' (ch:=[]) o1 (Un.laid k1 z1 fr) ?_ (by rw [g1]; exact I.bare) (fun b hb=>absurd hb (by simp)),rfl,q _ fr⟩
 refine I.hok.laid k1 z1 ⟨by rw [gf,zbi]; exact gy (ie hl) (by decide),vs,e,zdq hi,he⟩
def FnV (K:W.Frag)(H:Hp)(f:Addr)(fd:FuncData):Prop:=(∃ fo k0,H f=some (.frz fo k0)/\fo.data = .func fd)\/∃ oc od osl,K.lookup f=some ⟨oc,od,.func fd,osl⟩
theorem FnV.at {pins:List (Addr × Obj)}{σ:St}{H:Hp}{s:Shared}{f:Addr}{fd:FuncData}(I:Inv X pins σ H s)(h:FnV X.K H f fd):PySem.W.FnAt f s.heap:=by
 rcases h with ⟨fo,k0,h1,h2⟩ | ⟨oc,od,osl,h⟩
 ·obtain ⟨z,_⟩:=I.hok f _ h1
  obtain ⟨oc,od,dt,sl⟩:=fo
  cases (show dt=Data.func fd from h2)
  exact ⟨oc,od,fd,sl,z⟩
 ·exact ⟨oc,od,fd,osl,I.kIn _ _ h⟩
def z05 (K:W.Frag)(R:Addr->FuncData->Prop)(sp:Addr->FuncData->Sp)(tf:TE)(t:TA):TE:=fun σ H Q=>tf σ H fun v H1=>∃ f fd,v = .ref f/\FnV K H1 f fd/\R f fd/\t σ H1 fun vs H2=>FnV K H2 f fd/\sp f fd vs H2 Q E0
theorem zp8 {x:Str}{p pos:Pos}{e:Expr}{es:List Expr}{tf:TE}{t:TA}{k:Nat}{ps:List Str}{R:Addr->FuncData->Prop}{sp:Addr->FuncData->Sp}(hfe:PE X (.Name x p) tf)
  (G:∀ f fd,R f fd->zdm X.prog X.w X.K X.mg X.base CX0 k f fd ps (sp f fd))(hb:∀ f fd,R f fd->zcq X.K fd ps [])(hr:zej k X.A)(ha:PA X (e :: es) t)
  (he:starEach (e :: es) X.env=(false,eval e X.env) :: starEach es X.env:=by rfl)(hpl:(backTo pos (starEach es X.env)).any (·.1)=false:=by rfl) :
  PE X (.Call (.Name x p) (e :: es) [] pos) (z05 X.K R sp tf t):=by
 intro pins s σ H Q I h
 refine wpAny_Call_Name_kw (thn (hfe pins s σ H _ I h) fun u s1 ⟨v,H1,I1,r,f,fd,ev,hz,hR,q⟩=>?_)
 subst ev
 cases (show u=Value.ref f from r)
 refine PySem.W.callWith_F (hz.at I1) (thn (ha pos pins s1 σ H1 _ I1 q) fun us s2 ⟨vs,H2,I2,r2,a,q2⟩=>⟨a.at I2,?_⟩) he hpl
 exact znf (dvs:=[]) (ds:=[]) (G f fd hR) hr (hb f fd hR) .nil zcb I2 r2 (by rw [iy]; exact q2)
end
structure zx_ (K:W.Frag)(C:Addr)(m qual:Str)(st:Stmt)(ps:List Str)(ds:List Value) where
 f:Addr
 fd:FuncData
 ex:∃ (oc:Value) (od:Option Addr) (dV kV doc pm:Value) (an:Option Addr) (cdv ct:Value) (osl:Array (Option Value)),
  fd=PySem.W.fnOf m qual (zcg st) (zbj st) (zai st) dV kV doc pm an cdv ct/\K.lookup f=some ⟨oc,od,.func fd,osl⟩/\PySem.W.codeIn K cdv qual=true
 me:z0i K C m f
 b:zcq K fd ps []
 bd:zcq K fd ps ds
theorem zx_.ok {P:Program}{w:World}{K:W.Frag}{mg:Str->Option Value}{base:Heap}{C:Addr}{x qual:Str}{st:Stmt}{N ps:List Str}{ds:List Value}{k:Nat}{sp:Sp}(D:zx_ K C x qual st ps ds)(S:zam N ps (zai st))(len:∀ vs H Q E,sp vs H Q E->vs.length=ps.length)
  (hbody:∀ (cdv:Value) (A:Around) (outer:List Env) (s:Shared) (H:Hp) (vs:List V) (Q:VK) (E:XK),zej k (A.deeper (envOfC qual (zai st) s.heap.objs.size D.f cdv))->sp vs H Q E ->
   ∃ t,PSs (zq1 CX0 P w K mg base N qual (zai st) D.f cdv A outer s H E).nox (zbj st) t/\t { nx:=fun _ H'=>Q .non H',rt:=Q } (start N vs) H):zdm P w K mg base CX0 (k+1) D.f D.fd ps sp:=by
 obtain ⟨f,fd,⟨oc,od,dV,kV,doc,pm,an,cdv,ct,osl,rfl,lk,c⟩,me,b,bd⟩:=D
 refine z1g lk c S len fun A outer s H vs Q E hr a=>?_
 obtain ⟨t,h,q⟩:=hbody cdv A outer s H vs Q E hr a
 exact ⟨t,h.nox,q⟩
theorem z0b {us:List Value}(h:(us++([]:List Value)).length=4):∃ a b c d,us=[a,b,c,d] :=
 us4 (R:=fun us=>∃ a b c d,us=[a,b,c,d]) (fun a b c d=>⟨a,b,c,d,rfl⟩) us (by rwa [iy] at h)
theorem z2e {us:List Value}(h:(us++([]:List Value)).length=3):∃ a b c,us=[a,b,c] :=
 us3 (R:=fun us=>∃ a b c,us=[a,b,c]) (fun a b c=>⟨a,b,c,rfl⟩) us (by rwa [iy] at h)
theorem zz4 {us:List Value}{v:Value}(h:(us++[v]).length=4):∃ a b c,us=[a,b,c] :=
 us3 (R:=fun us=>∃ a b c,us=[a,b,c]) (fun a b c=>⟨a,b,c,rfl⟩) us (by rw [gl] at h; exact Nat.succ.inj h)
theorem z0f {us:List Value}{v:Value}(h:(us++[v]).length=3):∃ a b,us=[a,b] :=
 us2 (R:=fun us=>∃ a b,us=[a,b]) (fun a b=>⟨a,b,rfl⟩) us (by rw [gl] at h; exact Nat.succ.inj h)
def zj9 (key:Int->Int)(ns:List Int):List Int:=ns.mergeSort (fun a b=>decide (key a<=key b))
theorem zeu (key:Int->Int)(ns:List Int):(zj9 key ns).Perm ns:=List.mergeSort_perm _ _
theorem zd9 (key:Int->Int)(ns:List Int):(zj9 key ns).Pairwise (fun a b=>key a<=key b):=by
 have h:=List.pairwise_mergeSort (le:=fun a b:Int=>decide (key a<=key b)) (by intro a b c h1 h2; simp at *; omega) (by intro a b; simp; omega) ns
 exact h.imp fun h=>by simpa using h
theorem zle {key:Int->Int}:∀ {a b:List Int},a.Perm b->(∀ x∈b,∀ y∈b,key x=key y->x=y)->a.Pairwise (fun x y=>key x<=key y)->b.Pairwise (fun x y=>key x<=key y)->a=b
 | [],b,p,_,_,_=>(mj.mp p).symm
 | x :: r,[],p,_,_,_=>absurd p.symm (by intro z; exact absurd (mj.mp z) (by simp))
 | x :: r,y :: q,p,hj,h1,h2=>by
  obtain ⟨hx,hr⟩:=j0.mp h1
  obtain ⟨hy,hq⟩:=j0.mp h2
  have e:x=y:=by
   have m1:x∈y :: q:=p.subset (.head _)
   have m2:y∈x :: r:=p.symm.subset (.head _)
   refine hj x m1 y (.head _) ?_
   rcases gx.mp m1 with e | m1
   ·rw [e]
   ·rcases gx.mp m2 with e | m2
    ·rw [e]
    ·have:=hx y m2
     have:=hy x m1
     omega
  subst e
  rw [zle (List.Perm.cons_inv p) (fun u hu v hv=>hj u (.tail _ hu) v (.tail _ hv)) hr hq]
theorem zql {key:Int->Int}{a b:List Int}(p:a.Perm b)(hj:∀ x∈b,∀ y∈b,key x=key y->x=y)(h:a.Pairwise (fun x y=>key x<=key y)):a=zj9 key b :=
 zle (p.trans (zeu key b).symm) (fun x hx y hy=>hj x ((zeu key b).subset hx) y ((zeu key b).subset hy)) h (zd9 key b)
theorem zuy (key:Int->Int)(ns:List Int):(zj9 key ns).length=ns.length:=(zeu key ns).length_eq
theorem zw_ {vs:List Value}{a b:List Int}(h1:IntsAre vs a)(h2:IntsAre vs b):a=b:=h1.nums.symm.trans h2.nums
theorem zlv {key:Int->Int}:∀ {ps:List (Int × Value)},(∀ p∈ps,∃ n t,p=(key n,.int n t))->∃ ns,IntsAre (ps.map Prod.snd) ns/\ps.map Prod.fst=ns.map key
 | [],_=>⟨[],.nil,rfl⟩
 | p :: r,h=>by
  obtain ⟨n,t,rfl⟩:=h p (.head _)
  obtain ⟨ns,h1,h2⟩:=zlv (ps:=r) fun q hq=>h q (.tail _ hq)
  exact ⟨n :: ns,.cons n t h1,by rw [ig,ig,h2]⟩
theorem zob {key:Int->Int}:∀ {vs:List Value} {ns:List Int},IntsAre vs ns->∀ p∈(ns.map key).zip vs,∃ n t,p=(key n,Value.int n t)
 | _,_,.nil,p,hp=>by simp at hp
 | _,_,.cons n t h,p,hp=>by
  rw [ig,List.zip_cons_cons] at hp
  rcases gx.mp hp with rfl | hp
  ·exact ⟨n,t,rfl⟩
  ·exact zob h p hp
theorem ztn {key:Int->Int}{vs out:List Value}{ns:List Int}(hi:IntsAre vs ns)(hj:∀ x∈ns,∀ y∈ns,key x=key y->x=y)(h:KskOut false (ns.map key) vs out):IntsAre out (zj9 key ns):=by
 obtain ⟨ps,hp,rfl,ho⟩:=h
 obtain ⟨ms,h1,h2⟩:=zlv (ps:=ps) fun p q=>zob hi p (hp.subset q)
 have pv:(ps.map Prod.snd).Perm vs:=by
  have:=hp.map Prod.snd
  rw [List.map_snd_zip (by rw [gf]; exact lc hi.length)] at this
  exact this
 obtain ⟨ls,h3,h4⟩:=zjr pv hi
 have e:=zw_ h1 h3
 subst e
 have e2:=zql h4 hj (by
  have z:(ps.map Prod.fst).Pairwise (· <= ·):=by
   rw [mn]
   exact ho.imp fun h=>by simpa using h
  rw [h2,mn] at z
  exact z)
 rw [<- e2]
 exact h1
theorem z4j {P:Program}{w:World}{A:Around}{E:Value->Shared->Prop}{s:Shared}{a kS:Addr}{vs:List Value}{kz:List Int}{keys:Array Value}{e e1:Nat}{Q:PySem.Fin->Shared->Prop}(ho:s.heap.get? a=some (seqObj "list" #[] e1))(hs:s.heap.get? kS=some (seqObj "list" keys e))(hne:kS≠a)
  (hk:IntsAre keys.toList kz)(hlen:kz.length=vs.length)(h64:vs.length<64)
  (q:∀ (h':Heap) (out:Array Value),(∀ b o,b≠a->b≠kS->s.heap.get? b=some o->h'.get? b=some o)->(∃ c,h'.get? a=some (seqObj "list" out c))->(∃ o,h'.get? kS=some o)->KskOut false kz vs out.toList->Q (.done (.ret .none)) { s with heap:=h' }) :
  wpAny (model P w) A (ksk_end a false vs.toArray e1 (.ref kS) keys) Q E s:=by
 have hsz:keys.size=vs.length:=by
  have z:=hk.length
  rw [jb] at z
  omega
 have f:(keys.zip vs.toArray).size=vs.length:=by rw [Array.size_zip,hsz,gu,Nat.min_self]
 have tail:∀ st:SortSt,(arrOf st).Perm (keys.zip vs.toArray)->SortedTo (arrOf st) (arrOf st).size->failedOf st=none->wpAny (model P w) A (ksk_tail a false e1 (.ref kS) st) Q E s:=by
  intro st hp l hf
  have zo:(arrOf st).size=vs.length:=by rw [hp.size_eq,f]
  unfold ksk_tail
  dsimp only
  refine wpAny_bind (listUpdate_at hs rfl ?_ (by rw [hsz,sizeLine_eq]; omega) (ix _))
  refine wpAny_bind (wpAny_letGo ?_)
  have d:∀ b,b≠kS->(s.heap.update kS (Obj.mapSeq fun _=>(#[]:Array Value))).get? b=s.heap.get? b:=fun b hb=>Heap.get?_update_ne _ _ _ _ hb
  have g:(s.heap.update kS (Obj.mapSeq fun _=>(#[]:Array Value))).get? a=some (seqObj "list" #[] e1):=by rw [d a hne.symm]; exact ho
  have m:=get?_update_seq hs (fun _=>(#[]:Array Value))
  generalize s.heap.update kS (Obj.mapSeq fun _=>(#[]:Array Value))=h1 at d g m |-
  refine wpAny_bind (seqEpoch_at g rfl ?_)
  refine wpAny_bind (listUpdate_at g rfl ?_ (ix _) (by simp only [j3,if_false,Array.size_map,zo,sizeLine_eq]; omega))
  have p:=get?_update_seq g (fun _=>if (false:Bool)=true then (map (fun x:Keyed=>x.2) (arrOf st)).reverse else map (fun x:Keyed=>x.2) (arrOf st))
  have h:∀ b,b≠a->(h1.update a (Obj.mapSeq fun _=>if (false:Bool)=true then (map (fun x:Keyed=>x.2) (arrOf st)).reverse else map (fun x:Keyed=>x.2) (arrOf st))).get? b=h1.get? b:=fun b hb=>Heap.get?_update_ne _ _ _ _ hb
  rw [hf]
  simp only [bne_self_eq_false]
  rw [if_neg Bool.false_ne_true]
  refine wpAny_pure (q _ _ (fun b o hb r eb=>?_) ⟨_,p⟩ ⟨_,(h kS hne).trans m⟩ (ksk_out (b:=false) hk hp l))
  rw [h b hb,d b r]
  exact eb
 unfold ksk_end
 dsimp only
 rw [if_neg Bool.false_ne_true]
 by_cases h2:vs.toArray.size<2
 ·rw [if_pos h2,if_pos h2]
  refine wpAny_bind (wpAny_pure ?_)
  rw [StateT.run_pure]
  refine wpAny_bind (wpAny_pure ?_)
  refine tail _ (Array.Perm.refl _) ?_ rfl
  intro i j t hj
  have n:j<(keys.zip vs.toArray).size:=hj
  rw [f] at n
  rw [gu] at h2
  have:i=j:=by omega
  subst this
  exact Int.le_refl _
 ·rw [if_neg h2,if_neg h2]
  rw [gu] at h2
  rw [ksk_kind hk (by rw [hsz]; omega)]
  refine wpAny_bind (wpAny_pure ?_)
  refine wpAny_bind (wpAny_mono (wpS_sortRuns (a₀:=keys.zip vs.toArray) (st:=SortSt.mk' oneType' (keys.zip vs.toArray) #[] 7 none) (Q:=fun _ z=>(arrOf z).Perm (keys.zip vs.toArray)/\failedOf z=none/\SortedTo (arrOf z) (keys.zip vs.toArray).size)
   (ksk_intKeys hk) ⟨Array.Perm.refl _,rfl,rfl,rfl⟩ (by rw [f]; omega) (by rw [f]; exact h64) fun z a1 a2 a3=>⟨a1,a2,a3⟩) ?_ fun _ _ z=>z)
  rintro ⟨⟨⟩,z⟩ s' ⟨rfl,hp,hf,l⟩
  exact tail z hp (by rw [hp.size_eq]; exact l) hf
section
variable {X:Cx}
theorem zg5 {pins:List (Addr × Obj)}{σ:St}{H:Hp}{s:Shared}{it:Addr}{o:Obj}{h':Heap}{t':Nat}(I:Inv X pins σ H s)(k:∀ b,b≠it->h'.get? b=s.heap.get? b)(hn:H it=none)(hL:it≠X.env.locals)(h1:X.s₀.heap.objs.size<=it)(ho:s.heap.get? it=some o)(hd:∀ v,o.data≠ .cell v)
  (h3:∀ p∈X.pn++pins,p.1≠it):Inv X pins σ H { s with heap:=h',toks:=t' }:=by
 refine I.turned (fun b o hb e=>(k b hb).trans e) hn hL (.inr h1) (fun x c e z=>?_) h3
 obtain ⟨v,oc,hc,a⟩:=I.cell x c e
 rw [z,ho] at hc
 cases hc
 exact hd _ a
theorem zrm {pins:List (Addr × Obj)}{σ:St}{H:Hp}{s:Shared}{p f:Addr}{ns:List Int}{key:Int->Int}{R:Hp->Prop}{Q:VK}(I:Inv X pins σ H s)(hq:SqL X.K H p (ns.map V.int))(hl:ns.length<64)(hj:∀ x∈ns,∀ y∈ns,key x=key y->x=y)
  (hR:R H)(turn:∀ (pl:List (Addr × Obj)) (s':Shared) (H':Hp) (n:Int) (t:Tok),n∈ns->Inv X pl σ H' s'->R H'->wpAny (model X.prog X.w) X.A.in1.in1 (call (.ref f) [.int n t]) (EP X pl σ fun v H2=>v = .int (key n)/\R H2) (fun _ _=>False) s')
  (q:∀ H' l,R H'->H' l=none->H l=none->Q (.ref l) (upd H' l (.lst ((zj9 key ns).map V.int)))) :
  wpAny (model X.prog X.w) X.A (call (.builtin "sorted") [.ref p] [(Str.ofString "key",.ref f)]) (EP X pins σ Q) X.xe s:=by
 obtain ⟨vs,rv,pl,hz⟩:=I.list hq
 have hi:IntsAre vs ns:=zhi rv
 have am:=hi.length
 have ac:vs.length<=sizeLine:=by rw [sizeLine_eq]; omega
 refine call_function_entry_kw kind_sorted plain_sorted entry_sorted (ksk_s1 _ _) ?_
 unfold Builtin.«sorted»
 refine wpAny_bind (m:=checkCount "sorted" 1 1 _) (wpAny_pure ?_)
 refine wpAny_bind (collect_list pl.isList ?_ ac)
 refine wpAny_bind (wpAny_newList ?_ ac)
 have z0:((s.heap.push (seqObj "list" #[] 0)).update s.heap.objs.size (Obj.mapSeq (· ++ vs.toArray))).objs.size=s.heap.objs.size+1:=by rw [mz,size_push']
 have k0:∀ b o,s.heap.get? b=some o->((s.heap.push (seqObj "list" #[] 0)).update s.heap.objs.size (Obj.mapSeq (· ++ vs.toArray))).get? b=some o:=fun b o e=>by
  rw [Heap.get?_update_ne _ _ _ _ (i0 (i3 e))]
  exact Heap.get?_push_of_some _ e
 generalize ((s.heap.push (seqObj "list" #[] 0)).update s.heap.objs.size (Obj.mapSeq (· ++ vs.toArray)))=h0 at z0 k0 |-
 obtain ⟨a,ea⟩:∃ a,a=h0.objs.size:=⟨_,rfl⟩
 obtain ⟨h1,ae⟩:∃ h1,h1=h0.push (seqObj "list" vs.toArray 0):=⟨_,rfl⟩
 show wpAny _ _ _ _ _ { s with heap:=h0.push (seqObj "list" vs.toArray 0) }
 rw [<- ae]
 have ad:h1.get? a=some (seqObj "list" vs.toArray 0):=by rw [ae,ea]; exact Heap.get?_push_size _ rfl
 have z1:h1.objs.size=h0.objs.size+1:=by rw [ae]; exact size_push' _ _
 have k1:∀ b o,s.heap.get? b=some o->h1.get? b=some o:=fun b o e=>by rw [ae]; exact Heap.get?_push_of_some _ (k0 _ _ e)
 have la:s.heap.objs.size<=a:=by rw [ea,z0]; exact jg _
 rw [<- ea]
 refine wpAny_bind (wpAny_holding (wpAny_call_entry_kw slot_list_sort ⟨_,ad,rfl⟩ entry_list_sort ?body (ksk_l1 _ _)))
 show wpAny (model X.prog X.w) X.A.in1.in1 (Builtin.«list.sort» ⟨[.ref a],[(Str.ofString "key",.ref f)]⟩) _ _ _
 rw [ksk_t1]
 unfold ksk_tree
 refine wpAny_bind (listItems_at ad rfl ?_)
 refine wpAny_bind (listUpdate_at ad rfl ?_ (by rw [gu]; exact ac) (ix _))
 obtain ⟨e1,af⟩:∃ e1,(h1.update a (Obj.mapSeq fun _=>(#[]:Array Value))).get? a=some (seqObj "list" #[] e1):=⟨_,get?_update_seq ad fun _=> #[]⟩
 have k2:∀ b o,s.heap.get? b=some o->(h1.update a (Obj.mapSeq fun _=>(#[]:Array Value))).get? b=some o:=fun b o e=>by
  rw [Heap.get?_update_ne _ _ _ _ (i0 (gs (i3 e) la))]
  exact k1 _ _ e
 have z2:(h1.update a (Obj.mapSeq fun _=>(#[]:Array Value))).objs.size=a+1:=by rw [mz,z1,ea]
 show wpAny _ _ _ _ _ { s with heap:=h1.update a (Obj.mapSeq fun _=>(#[]:Array Value)) }
 generalize h1.update a (Obj.mapSeq fun _=>(#[]:Array Value))=h2 at af k2 z2 |-
 refine wpAny_bind (seqEpoch_at af rfl ?_)
 refine wpAny_bind (wpAny_newTuple ?_ (by show vs.length<=_; exact ac))
 refine wpAny_bind (wpAny_newList ?_ (ix _))
 refine wpAny_holding ?_
 obtain ⟨h3,ag⟩:∃ h3,h3=h2.push (seqObj "tuple" vs.toArray 0):=⟨_,rfl⟩
 show wpAny _ _ (ksk_rest a (.ref f) false vs.toArray e1 (.ref (h2.push (seqObj "tuple" vs.toArray 0)).objs.size)) _ _ { s with heap:=(h2.push (seqObj "tuple" vs.toArray 0)).push (seqObj "list" #[] 0) }
 rw [<- ag]
 have z3:h3.objs.size=a+2:=by rw [ag,size_push',z2]
 have k3:∀ b o,h2.get? b=some o->(h3.push (seqObj "list" #[] 0)).get? b=some o:=fun b o e=>by rw [ag]; exact Heap.get?_push_of_some _ (Heap.get?_push_of_some _ e)
 have ai:(h3.push (seqObj "list" #[] 0)).get? h3.objs.size=some (seqObj "list" #[] 0):=Heap.get?_push_size _ rfl
 obtain ⟨kS,ap⟩:∃ kS,kS=h3.objs.size:=⟨_,rfl⟩
 rw [<- ap] at ai |-
 have aj:kS≠a:=by omega
 have lk:s.heap.objs.size<=kS:=by omega
 generalize h3.push (seqObj "list" #[] 0)=h4 at k3 ai |-
 have I4:Inv X pins σ H { s with heap:=h4,toks:=s.toks }:=I.kept fun b o e=>k3 _ _ (k2 _ _ e)
 have av:=k3 _ _ af
 have aL:a≠X.env.locals:=jf (gs I.lt la)
 have kL:kS≠X.env.locals:=jf (gs I.lt lk)
 have ab:∀ (s':Shared) (H':Hp) (kA:Array Value) (e:Nat),s'.heap.get? kS=some (seqObj "list" kA e)->s'.heap.get? a=some (seqObj "list" #[] e1)->H' kS=none->H' a=none->Inv X pins σ H' s'->Inv X (pins++[(kS,seqObj "list" kA e),(a,seqObj "list" #[] e1)]) σ H' s':=fun s' H' kA e g1 g2 g3 g4 J=>by
  refine J.pins_of fun x hx=>?_
  rcases gm.mp hx with z | z
  ·exact J.pin x (g7 _ z)
  ·rcases gx.mp z with rfl | z
   ·exact ⟨g1,g3,kL,I.nofs lk,fun v z=>by cases z⟩
   ·rw [gb.mp z]
    exact ⟨g2,g4,aL,I.nofs la,fun v z=>by cases z⟩
 unfold ksk_rest
 refine wpAny_bind (wpAny_rule ?_)
 rw [<- Array.forIn_toList]
 simp only [List.toList_toArray]
 refine wpAny_bind (ksk_fold (fun i s'=>∃ H' kA e,Inv X (pins++[(kS,seqObj "list" kA e),(a,seqObj "list" #[] e1)]) σ H' s'/\R H'/\IntsAre kA.toList ((ns.map key).take i)) vs 0 _
  ⟨H,#[],0,ab _ _ _ _ ai av (I.hok.fresh lk) (I.hok.fresh la) I4,hR,by simpa using IntsAre.nil⟩ ?step ?done)
 case step =>
  rintro j x s' hx ⟨H',kA,e,J,ah,hk⟩
  simp only [Nat.zero_add] at hk |-
  have ay:j<vs.length:=(List.getElem?_eq_some_iff.mp hx).1
  obtain ⟨n,hn⟩:∃ n,ns[j]? = some n:=⟨_,List.getElem?_eq_getElem (by omega)⟩
  obtain ⟨u,hu,t,rfl⟩:=rv.get (i:=j) (x:= .int n) (by rw [List.getElem?_map,hn]; rfl)
  rw [hx] at hu
  cases hu
  have aw:kA.size<=vs.length:=by
   have y:=hk.length
   rw [jb,i5,gf] at y
   omega
  refine wpAny_bind (wpAny_attempt (wpAny_mono (turn _ s' H' n t (i4 hn) J ah) (fun v h he=>?_) fun _ _ z=>z.elim))
  obtain ⟨v',H2,J2,r2,rfl,aq⟩:=he
  obtain ⟨t2,rfl⟩:=r2
  have gk:=J2.pin (kS,seqObj "list" kA e) (g7 _ (g7 _ (.head _)))
  have ga:=J2.pin (a,seqObj "list" #[] e1) (g7 _ (g7 _ (.tail _ (.head _))))
  obtain ⟨c2,an⟩:∃ c2,(h.heap.update kS (Obj.mapSeq (·.push (.int (key n) t2)))).get? kS=some (seqObj "list" (kA.push (.int (key n) t2)) c2):=⟨_,get?_update_seq gk.1 (·.push (.int (key n) t2))⟩
  refine wpAny_bind (listUpdate_at gk.1 rfl ?_ (by rw [sizeLine_eq]; omega) (gy (lc (Array.size_push ..)) (by rw [sizeLine_eq]; omega)))
  have aa:∀ b,b≠kS->(h.heap.update kS (Obj.mapSeq (·.push (.int (key n) t2)))).get? b=h.heap.get? b:=fun b hb=>Heap.get?_update_ne _ _ _ _ hb
  generalize h.heap.update kS (Obj.mapSeq (·.push (.int (key n) t2)))=h5 at an aa |-
  have J3:Inv X pins σ H2 { h with heap:=h5,toks:=h.toks }:=zg5 J2.unpinned aa gk.2.1 kL (gy I.sz lk) gk.1 (fun v z=>by cases z) fun x hx=>i0 (gs (i3 (I.pin x hx).1) lk)
  refine wpAny_pure ⟨rfl,H2,kA.push (.int (key n) t2),c2,ab _ _ _ _ an ((aa a aj.symm).trans ga.1) gk.2.1 ga.2.1 J3,aq,?_⟩
  have ek:(ns.map key).take (j+1)=(ns.map key).take j++[key n]:=by rw [ja,List.getElem?_map,hn]; rfl
  rw [lz,ek]
  exact ksk_snoc hk
 case done =>
  rintro s' ⟨H',kA,e,J,ah,hk⟩
  have ar:IntsAre kA.toList (ns.map key):=by
   rw [iu (by rw [gf]; omega)] at hk
   exact hk
  have gk:=J.pin (kS,seqObj "list" kA e) (g7 _ (g7 _ (.head _)))
  have ga:=J.pin (a,seqObj "list" #[] e1) (g7 _ (g7 _ (.tail _ (.head _))))
  refine wpAny_bind (listItems_at gk.1 rfl ?_)
  refine z4j ga.1 gk.1 aj ar (by rw [gf]; exact am.symm) (by omega) fun h' out kp ⟨c,hc⟩ ⟨o,ax⟩ ko=>⟨_,rfl,?_⟩
  have al:=ztn hi hj ko
  have n2:∀ x∈X.pn++pins,x.1≠a/\x.1≠kS:=fun x hx=>have y:=i3 (I.pin x hx).1; ⟨i0 (gs y la),i0 (gs y lk)⟩
  have J3:Inv X pins σ (upd H' a (.lst ((zj9 key ns).map V.int))) { s' with heap:=h',toks:=s'.toks }:=by
   have ao:∀ d od,s'.heap.get? d=some od->(∀ v,od.data≠ .cell v)->∀ x c,X.env.cells.lookup x=some c->c≠d:=fun d od hd hn x c e z=>by
    obtain ⟨v,oc,ak,au⟩:=J.cell x c e
    rw [z,hd] at ak
    cases ak
    exact hn _ au
   have up:∀ b u,H' b=some u->(upd H' a (.lst ((zj9 key ns).map V.int))) b=some u:=fun b u e=>by
    rw [zab (fun z=>by rw [z,ga.2.1] at e; cases e)]
    exact e
   have g:∀ b:Addr,b∉[a,kS]->b≠a/\b≠kS:=fun b hb=>⟨fun z=>hb (by simp [z]),fun z=>hb (by simp [z])⟩
   have trk:∀ b u,H' b=some u->b≠a/\b≠kS:=fun b u e=>⟨fun z=>by (rw [z,ga.2.1] at e; cases e),fun z=>by (rw [z,gk.2.1] at e; cases e)⟩
   refine J.unpinned.step (g':=s'.gens) (d':=s'.drawn) (ch:=[a,kS]) (fun b hb=>?_) (fun b o _ _ hb e _=>kp b o (g b hb).1 (g b hb).2 e) (fun b o _ _ hb e _=>⟨o.slots,kp b o (g b hb).1 (g b hb).2 e⟩) (fun b o hb e n=>by rw [zab (g b hb).1]; exact n)
    (fun b o hb e=>⟨o,kp b o (g b hb).1 (g b hb).2 e⟩) (fun b xs e=>up b _ e) (fun b o u e=>up b _ e) (fun b ps e=>⟨#[],by rw [up b _ e]; simp⟩) (fun m hm=>?_) (fun b u e=>?_) J.bare
   ·rcases gx.mp hb with rfl | hb
    ·exact ⟨.inr (gy I.sz la),aL,ao _ _ ga.1 (fun v z=>by cases z),fun x hx=>(n2 x hx).1⟩
    ·rw [gb.mp hb]
     exact ⟨.inr (gy I.sz lk),kL,ao _ _ gk.1 (fun v z=>by cases z),fun x hx=>(n2 x hx).2⟩
   ·obtain ⟨o,es,ep,ho,r⟩:=hm
    exact ⟨o,es,ep,kp _ o aL.symm kL.symm ho,r⟩
   ·by_cases hb:b=a
    ·subst hb
     rw [zad] at e
     cases e
     exact ⟨by rw [gf,zuy,sizeLine_eq]; omega,out.toList,c,zdq al,hc⟩
    ·rw [zab hb] at e
     refine (J.hok b u e).stay (fun d v hd qd=>?_) (fun d qd=>up d _ qd) fun d xs qd=>up d _ qd
     have y:d≠a/\d≠kS:=by
      rcases hd with z | z
      ·rw [z]; exact trk b u e
      ·exact trk d _ z
     exact kp d v y.1 y.2 qd
  exact wpAny_pure ⟨_,rfl,.ref a,_,J3,rfl,q H' a ah ga.2.1 (I.hok.fresh la)⟩
end
structure zhq (name qual:Str)(params:Arguments)(body:Expr)(scope:Scope)(cells:List (Str × Addr))(fo:Obj)(clos:List (Str × Addr))(c':Addr):Prop where
 ob:∃ pm ctv,fo=kr name qual params body scope clos pm c' ctv
 sub:∀ x c,clos.lookup x=some c->cells.lookup x=some c
 free:∀ x c,clos.lookup x=some c->(x,NameKind.free)∈scope.names
 all:∀ y∈scope.names,y.2 = .free->∃ c,clos.lookup y.1=some c
 inj:∀ x y c,clos.lookup x=some c->clos.lookup y=some c->x=y
structure zww (H:Hp)(f:Addr)(name qual:Str)(params:Arguments)(body:Expr)(scope:Scope)(fr:List Str)(cv:List V)(fd:FuncData):Prop where
 ex:∃ fo cells clos c' oc k k',H f=some (.frz fo k)/\zhq name qual params body scope cells fo clos c'/\fo.data = .func fd/\fd.closure=clos/\fd.code = .ref c'/\H c'=some (.frz oc k')/\zeo oc qual /\
  ∀ (i:Nat) x v,fr[i]? = some x->cv[i]? = some v->∃ c,clos.lookup x=some c/\zf4 H c v
theorem zww.same {H H':Hp}{f:Addr}{name qual:Str}{params:Arguments}{body:Expr}{scope:Scope}{fr:List Str}{cv:List V}{fd:FuncData}(x:zww H f name qual params body scope fr cv fd)(h:∀ a o k,H a=some (.frz o k)->H' a=some (.frz o k)) :
  zww H' f name qual params body scope fr cv fd:=by
 obtain ⟨fo,cells,clos,c',oc,k,k',e1,s,e2,e3,e4,e5,cs,hv⟩:=x.ex
 exact ⟨fo,cells,clos,c',oc,k,k',h _ _ _ e1,s,e2,e3,e4,h _ _ _ e5,cs,fun i y v a b=>let ⟨c,q,z⟩:=hv i y v a b; ⟨c,q,z.same fun o k=>h c o k⟩⟩
def z38 (cells:List (Str × Addr))(P:Addr)(name qual:Str)(params:Arguments)(body:Expr)(scope:Scope)(pos:Pos):TE:=fun σ H Q=>∃ ps,H P=some (.tbl ps)/\TriplesOk ps.toList /\
 ((codeAmong pos ps.toList=none/\∀ f c' fo oc clos,H f=none->H c'=none->f≠c'->f≠P->c'≠P->zhq name qual params body scope cells fo clos c'->zeo oc qual ->
   Q (.ref f) (upd (upd (upd H P (.tbl (ps ++ #[rawInt pos.line,rawInt pos.col,.ref c']))) c' (.frz oc (.own c'))) f (.frz fo (.own f)))) \/
  (∃ c' oc k,codeAmong pos ps.toList=some (.ref c')/\H c'=some (.frz oc k)/\zeo oc qual/\∀ f fo clos,H f=none->zhq name qual params body scope cells fo clos c'->Q (.ref f) (upd H f (.frz fo (.own f)))))
section
variable {X:Cx}
theorem zp1 {params:Arguments}{body:Expr}{scope:Scope}{pos:Pos}{c P:Addr}(hcode:X.env.code = .ref c)(hC:PySem.W.CodeHd X.base c P)(hB:X.base.BuiltinsAt X.mg P)
  (hfr:∀ y∈scope.names,y.2 = .free->X.env.kindOf y.1=some .cell\/X.env.kindOf y.1=some .free)(hdef:defaultsOf params X.env=([],[]):=by rfl) :
  PE X (.Lambda params body scope pos) (z38 X.env.cells P "<lambda>" (X.env.qual ++ "<lambda>") params body scope pos):=by
 intro pins s σ H Q I h
 obtain ⟨ps,hP,ht,h⟩:=h
 obtain ⟨cl,g,ab,ak,ai⟩:=zk6 (scope:=scope) (env:=X.env) (fun y hy hf=>I.ok.has y.1 (hfr y hy hf))
 have ac:s.heap.get? P=some (o8 ps):=I.hok P _ hP
 have hg:s.heap.Ns mainGlobals X.mg:=I.ok.mod.glob.keeps I.bk
 have aq:mainGlobals≠P:=fun q=>by
  obtain ⟨o,es,ep,e,hd,_⟩:=hg
  rw [q,ac] at e
  cases e
  cases hd
 have am:s.heap.BuiltinsAt X.mg P:=by
  obtain ⟨bm,o,a1,a2,a3,a4,a5,a6⟩:=hB
  exact ⟨bm,o,a1,a2,a3,a4,I.bk _ _ a5,a6⟩
 have ah:∀ {ctv:Value} {c':Addr},zhq "<lambda>" (X.env.qual ++ "<lambda>") params body scope X.env.cells (kr "<lambda>" (X.env.qual ++ "<lambda>") params body scope cl ((X.mg "__name__").getD .none) c' ctv) cl c' :=
  fun {ctv c'}=>⟨⟨_,ctv,rfl⟩,ab,ai,ak,fun x y d h1 h2=>I.ok.inj x y d (ab x d h1) (ab y d h2)⟩
 refine PySem.W.kla_eval hdef ?_
 rcases h with ⟨w,h⟩ | ⟨c',oc,k,ae,av,au,h⟩
 ·refine PySem.W.kla_makeFunction g I.ok.glob hg hcode (hC.keeps I.bk) ac ht w aq am fun c' ctv h' tk ar p aa al af=>?_
  obtain ⟨c2,oc,vs,t,e2,aj,ap,ao⟩:=al
  cases e2
  have l:H c'=none:=I.hok.fresh p
  have j:H h'.objs.size=none:=I.hok.fresh (gy p (ie aa))
  have n1:h'.objs.size≠c':=jf aa
  have n2:h'.objs.size≠P:=fun z=>by rw [z,hP] at j; cases j
  have n3:c'≠P:=fun z=>by rw [z,hP] at l; cases l
  have q:=h h'.objs.size c' _ oc cl j l n1 n2 n3 (ah (ctv:=ctv)) ⟨vs,t,ap,ao⟩
  have i:∀ b,H b=none->b≠P:=fun b e z=>by rw [z,hP] at e; cases e
  have kp:∀ b o,b≠P->s.heap.get? b=some o->(h'.push (kr "<lambda>" (X.env.qual ++ "<lambda>") params body scope cl ((X.mg "__name__").getD .none) c' ctv)).get? b=some o:=fun b o hb e=>Heap.get?_push_of_some _ (ar b o hb e)
  have f:∀ b u,H b=some u->b≠P->(upd (upd (upd H P (.tbl (ps ++ #[rawInt pos.line,rawInt pos.col,.ref c']))) c' (.frz oc (.own c'))) h'.objs.size (.frz (kr "<lambda>" (X.env.qual ++ "<lambda>") params body scope cl ((X.mg "__name__").getD .none) c' ctv) (.own h'.objs.size))) b=some u:=fun b u e hb=>by
   rw [zab (zae e j),zab (zae e l),zab hb]
   exact e
  have I2:Inv X pins σ (upd (upd (upd H P (.tbl (ps ++ #[rawInt pos.line,rawInt pos.col,.ref c']))) c' (.frz oc (.own c'))) h'.objs.size (.frz (kr "<lambda>" (X.env.qual ++ "<lambda>") params body scope cl ((X.mg "__name__").getD .none) c' ctv) (.own h'.objs.size)))
    { s with heap:=h'.push (kr "<lambda>" (X.env.qual ++ "<lambda>") params body scope cl ((X.mg "__name__").getD .none) c' ctv),toks:=tk }:=by
   refine I.step (g':=s.gens) (d':=s.drawn) (ch:=[]) (fun _ z=>nomatch z) (fun b o _ _ _ e n=>kp b o (i b n) e) (fun b o _ _ _ e n=>⟨o.slots,kp b o (i b n) e⟩) (fun b o _ e n=>?_) (fun b o _ e=>?_)
    (fun b xs e=>f b _ e (fun z=>by rw [z,hP] at e; cases e)) (fun b o u e=>f b _ e (fun z=>by rw [z,hP] at e; cases e)) (fun b qs e=>?_) (fun m hm=>?_) (fun b u e=>?_) I.bare
   ·have lt:=i3 e
    rw [zab (i0 (gs lt (gy p (ie aa)))),zab (i0 (gs lt p)),zab (i b n)]
    exact n
   ·by_cases hb:b=P
    ·exact ⟨_,by rw [hb]; exact Heap.get?_push_of_some _ af⟩
    ·exact ⟨o,kp b o hb e⟩
   ·by_cases hb:b=P
    ·subst hb
     rw [hP] at e
     cases e
     exact ⟨_,by rw [zab n2.symm,zab n3.symm,zad]⟩
    ·exact ⟨#[],by rw [f b _ e hb]; simp⟩
   ·obtain ⟨o,es,ep,ho,r⟩:=hm
    exact ⟨o,es,ep,kp _ o (i _ I.free) ho,r⟩
   ·by_cases ag:b=h'.objs.size
    ·subst ag
     rw [zad] at e
     cases e
     exact ⟨Heap.get?_push_size _ rfl,_,Heap.get?_push_size _ rfl⟩
    ·rw [zab ag] at e
     by_cases an:b=c'
     ·subst an
      rw [zad] at e
      cases e
      exact ⟨Heap.get?_push_of_some _ aj,_,Heap.get?_push_of_some _ aj⟩
     ·rw [zab an] at e
      by_cases ad:b=P
      ·subst ad
       rw [zad] at e
       cases e
       exact Heap.get?_push_of_some _ af
      ·rw [zab ad] at e
       refine (I.hok b u e).stay (fun d v hd qd=>kp d v ?_ qd) (fun d qd=>f d _ qd (fun z=>by rw [z,hP] at qd; cases qd)) fun d xs qd=>f d _ qd (fun z=>by rw [z,hP] at qd; cases qd)
       rcases hd with z | z
       ·rw [z]
        exact ad
       ·exact fun y=>by rw [y,hP] at z; cases z
  exact ⟨.ref h'.objs.size,_,I2,rfl,q⟩
 ·refine PySem.W.kla_makeFunctionHit g I.ok.glob hg hcode (hC.keeps I.bk) ac ht ae am fun ctv h' tk hk hsz=>?_
  have q:=h h'.objs.size _ cl (I.hok.fresh hsz) (ah (ctv:=ctv))
  have I2:=I.laid (a:=h'.objs.size) (o:= .frz (kr "<lambda>" (X.env.qual ++ "<lambda>") params body scope cl ((X.mg "__name__").getD .none) c' ctv) (.own h'.objs.size)) (t':=tk)
   (h':=h'.push (kr "<lambda>" (X.env.qual ++ "<lambda>") params body scope cl ((X.mg "__name__").getD .none) c' ctv)) (fun b u e=>Heap.get?_push_of_some _ (hk b u e)) hsz ⟨Heap.get?_push_size _ rfl,_,Heap.get?_push_size _ rfl⟩
  exact ⟨.ref h'.objs.size,_,I2,rfl,q⟩
end
theorem zl6 {cells:List (Str × Addr)}{P:Addr}{name qual:Str}{params:Arguments}{body:Expr}{scope:Scope}{pos:Pos}{Q:VK}{σ:St}{H:Hp}(T:Tab H P pos qual)
  (k:∀ f H' fo clos c' oc k1 k2,(∀ b o,b≠P->H b=some o->H' b=some o)->Tab H' P pos qual->H f=none->H' f=some (.frz fo k1)->zhq name qual params body scope cells fo clos c'->H' c'=some (.frz oc k2)->zeo oc qual ->
   Q (.ref f) H'):z38 cells P name qual params body scope pos σ H Q:=by
 obtain ⟨ps,hP,ht,z⟩:=T
 refine ⟨ps,hP,ht,?_⟩
 rcases z with z | ⟨c',oc,k0,z1,z2,z3⟩
 ·refine .inl ⟨z,fun f c' fo oc clos hf hc n1 n2 n3 sh cs=>?_⟩
  refine k f _ fo clos c' oc _ _ (fun b o hb e=>?_) ⟨_,by rw [zab n2.symm,zab n3.symm,zad],?_,.inr ⟨c',oc,_,?_,by rw [zab n1.symm,zad],cs⟩⟩ hf zad sh (by rw [zab n1.symm,zad]) cs
  ·rw [zab (zae e hf),zab (zae e hc),zab hb]
   exact e
  ·rw [Array.toList_append]
   exact zh8 rfl rfl ht
  ·rw [Array.toList_append]
   exact codeAmong_snoc _ ht z
 ·refine .inr ⟨c',oc,k0,z1,z2,z3,fun f fo clos hf sh=>?_⟩
  refine k f _ fo clos c' oc _ _ (fun b o _ e=>by rw [zab (zae e hf)]; exact e) ⟨ps,by rw [zab (zae hP hf)]; exact hP,ht,.inr ⟨c',oc,k0,z1,by rw [zab (zae z2 hf)]; exact z2,z3⟩⟩ hf zad sh (by rw [zab (zae z2 hf)]; exact z2) z3
def RLm (name qual:Str)(params:Arguments)(body:Expr)(scope:Scope)(_:Addr)(fd:FuncData):Prop:=∃ clos pm c' ct,fd=nh name qual params body scope clos pm (.ref c') ct
theorem zly {name qual:Str}{params:Arguments}{body:Expr}{scope:Scope}{cells clos:List (Str × Addr)}{fo oc:Obj}{c' f:Addr}{k1 k2:HO}{H':Hp}{fr:List Str}{cv:List V}(sh:zhq name qual params body scope cells fo clos c')
  (hf:H' f=some (.frz fo k1))(hc':H' c'=some (.frz oc k2))(cs:zeo oc qual)(hfr:∀ (i:Nat) x v,fr[i]? = some x->cv[i]? = some v->(x,NameKind.free)∈scope.names/\∃ c,cells.lookup x=some c/\zf4 H' c v) :
  ∃ fd,fo.data = .func fd/\RLm name qual params body scope f fd/\zww H' f name qual params body scope fr cv fd:=by
 obtain ⟨pm,ctv,a⟩:=id sh.ob
 have hd:fo.data = .func (nh name qual params body scope clos pm (.ref c') ctv):=by rw [a]
 refine ⟨_,hd,⟨clos,pm,c',ctv,rfl⟩,⟨fo,cells,clos,c',oc,k1,k2,hf,sh,hd,rfl,rfl,hc',cs,fun i x v h1 h2=>?_⟩⟩
 obtain ⟨hx,c,hc,hv⟩:=hfr i x v h1 h2
 obtain ⟨c2,e2⟩:=sh.all (x,.free) hx rfl
 have e3:=sh.sub x c2 e2
 rw [hc] at e3
 cases e3
 exact ⟨c,e2,hv⟩
section
variable {P:Program} {w:World} {K:W.Frag} {mg:Str->Option Value} {base:Heap}
theorem zqn {k:Nat}{f:Addr}{name qual:Str}{params:Arguments}{body:Expr}{scope:Scope}{fd:FuncData}{N ps fr:List Str}{sp:List V->Sp}(S:zhd N ps fr scope)
  (len:∀ cv vs H Q E,sp cv vs H Q E->vs.length=ps.length)
  (hbody:∀ (clos:List (Str × Addr)) (cdv:Value) (A:Around) (outer:List Env) (s:Shared) (H:Hp) (cv vs:List V) (Q:VK) (E:XK),zej k (A.deeper (zqd qual scope clos s.heap.objs.size f cdv))->cv.length=fr.length->sp cv vs H Q E ->
   ∃ t,PE (zz9 P w K mg base N qual scope clos f cdv A outer s H) body t/\t ((vs++cv).map some++lw (N.length - (ps++fr).length) none) H Q) :
  zdm P w K mg base CX0 (k+1) f fd ps (fun vs H Q E=>∃ cv,cv.length=fr.length/\zww H f name qual params body scope fr cv fd/\sp cv vs H Q E):=by
 refine ⟨fun vs H Q E h=>let ⟨cv,_,_,q⟩:=h; len cv vs H Q E q,fun A outer s H args us vs Q E hr e0 hb r g=>?_⟩
 obtain ⟨cv,m,FV,g⟩:=g
 obtain ⟨fo,cells,clos,c',oc,k1,k2,e1,SH,e2,e3,e4,e5,cs,hv⟩:=FV.ex
 obtain ⟨pm,ctv,aa⟩:=SH.ob
 have hl:=len _ _ _ _ _ g
 have ah:us.length=ps.length:=by rw [<- hl]; exact r.length.symm
 have ad:s.heap.NoLimit:=e0.mod.nolimit.keeps fun b o e=>(e0.bs b o e).1
 obtain ⟨hf,_⟩:=e0.hok f _ e1
 obtain ⟨hc,_⟩:=e0.hok c' _ e5
 have ab:fd=nh name qual params body scope clos pm (.ref c') ctv:=by
  have z:Data.func fd=Data.func (nh name qual params body scope clos pm (.ref c') ctv):=by rw [<- e2,aa]
  exact Data.func.inj z
 obtain ⟨ae,t1,q1,q2⟩:=cs
 subst ab
 have ac:ps.Nodup:=by
  have z:(ps++fr).Nodup:=by rw [<- S.pre]; exact S.nd.sublist (kh _ _)
  exact (ke.mp z).1
 have ag:(ps++fr).length<=N.length:=by have:=congrArg l9 S.pre; rw [i5] at this; omega
 refine PySem.W.kla_callFunE hr.depth hf e2 S.co S.gen rfl ⟨c',oc,ae,t1,rfl,hc,q1,q2⟩ (hb _ _ _ _ ?_)
 refine wpAny_newFunctionEnv S.nocell (fun y hy=>S.par y.1 (ki hy).1) (fun h1 af n=>?_) S.kind
 have kp:∀ b o,s.heap.get? b=some o->h1.get? b=some o:=fun b o e=>(n.2 b (i0 (i3 e))).trans (Heap.get?_push_of_some _ e)
 refine ⟨ad.keeps kp,PySem.W.kla_codeExpr ?_⟩
 obtain ⟨t,ht,hq⟩:=hbody clos (.ref c') A outer s H cv vs Q E (hr.deeper _) m g
 have l:∀ b:Addr,b∉(zz9 P w K mg base N qual scope clos f (.ref c') A outer s H).ex:=fun b z=>absurd (show b∈([]:List Addr) from z) (by simp)
 have d:∀ x c,clos.lookup x=some c->∃ v,zf4 H c v:=fun x c e=>by
  have hx:=S.allfr _ (SH.free x c e) rfl
  obtain ⟨i,hi⟩:=List.getElem?_of_mem hx
  have:i<cv.length:=by rw [m]; exact (List.getElem?_eq_some_iff.mp hi).1
  obtain ⟨c2,z1,z2⟩:=hv i x cv[i] hi (by simp [this])
  rw [e] at z1
  cases z1
  exact ⟨_,z2⟩
 have I:Inv (zz9 P w K mg base N qual scope clos f (.ref c') A outer s H) [] ((vs++cv).map some++lw (N.length - (ps++fr).length) none) H { s with heap:=h1,toks:=s.toks+(ps.zip us).length }:=by
  refine ⟨⟨e0.mod,S.kind,rfl,rfl,gv _,SH.inj,fun y hy=>?_,fun y c z=>fT z,fun _=>hr.hd,Around.frames_deeper e0.frames,.inr ⟨rfl,rfl⟩,fun b z=>absurd z (l b),e0.bs,e0.bsz,fun b _ _=>l b,fun b z=>absurd z (l b),e0.funs,e0.frf⟩,
   rfl,e0.bare,Un.kept kp,⟨_,af,fun i y v g1 g2 g3=>?_⟩,fun y c e=>?_,e0.hok.fresh (gv _),fun y c e=>?_,fun p hp=>absurd (show p∈([]:List (Addr × Obj)) from hp) (by simp),e0.hok.kept kp,?_⟩
  ·have hy:scope.names.lookup y=some .cell\/scope.names.lookup y=some .free:=hy
   rcases hy with z | z
   ·exact absurd rfl (S.nocell _ (PySem.mem_of_lookup z))
   ·exact SH.all _ (PySem.mem_of_lookup z) rfl
  ·have g1:N[i]? = some y:=g1
   have hi:i<(vs++cv).length:=by
    by_cases hi:i<(vs++cv).length
    ·exact hi
    ·rw [List.getElem?_append_right (by simpa using hi),List.getElem?_replicate] at g2
     split at g2 <;> cases g2
   rw [List.getElem?_append_left (by simpa using hi),List.getElem?_map] at g2
   have j:(vs++cv)[i]? = some v:=by
    cases q:(vs++cv)[i]? with
    | none=>rw [q] at g2; cases g2
    | some z=>rw [q] at g2; cases g2; rfl
   have a:(ps++fr)[i]? = some y:=by
    rw [<- S.pre,List.getElem?_take_of_lt (by rw [gl] at hi |-; omega)]
    exact g1
   by_cases hp:i<ps.length
   ·rw [List.getElem?_append_left hp] at a
    rw [List.getElem?_append_left (by omega)] at j
    obtain ⟨u,hu,ru⟩:=r.get j
    exact ⟨u,ru,.inl ⟨S.par y (i4 a),zk5 (us:=us) ac a hu⟩⟩
   ·rw [List.getElem?_append_right (by omega)] at a
    rw [List.getElem?_append_right (by omega)] at j
    obtain ⟨c,z1,o,u,k,z2,z3,z4⟩:=hv (i - ps.length) y v a (by rw [<- hl]; exact j)
    obtain ⟨z5,_⟩:=e0.hok c _ z2
    exact ⟨u,z4,.inr ⟨.inr (S.fre y (i4 a)),c,z1,o,kp _ _ z5,z3⟩⟩
  ·obtain ⟨v,o,u,k,z2,z3,z4⟩:=d y c e
   obtain ⟨z5,_⟩:=e0.hok c _ z2
   exact ⟨_,o,kp _ _ z5,z3⟩
  ·obtain ⟨v,o,u,k,z2,_⟩:=d y c e
   exact ⟨fun z=>fT z,.inr ⟨o,k,z2⟩⟩
  ·show _=N.length
   have z1:(ps++fr).length=ps.length+fr.length:=gl
   rw [gl,gf,List.length_replicate,gl]
   omega
 exact wpAny_mono (ht [] _ _ H _ I hq) (fun u s' ⟨v,H',J,rv,q⟩=>⟨v,H',J.os,J.bare,J.base,J.hok,rv,q⟩) fun e s' hs=>hs.elim
end
def z09 (K:W.Frag)(Rr:Addr->FuncData->Prop)(sp:Addr->FuncData->Sp)(te tl:TE):TE:=fun σ H Q=>zgx te zt0 σ H fun vs H1=>zgx tl zt0 σ H1 fun zs H2=>∃ (p f:Addr) (fd:FuncData) (ns:List Int) (key:Int->Int),vs=[.ref p]/\zs=[.ref f]/\SqL K H2 p (ns.map V.int)/\ns.length<64 /\
 (∀ x∈ns,∀ y∈ns,key x=key y->x=y)/\Rr f fd/\(∀ n∈ns,∀ Q':VK,Q' (.int (key n)) H2->sp f fd [.int n] H2 Q' E0)/\∀ l,H2 l=none->Q (.ref l) (upd H2 l (.lst ((zj9 key ns).map V.int)))
theorem zvt {X:Cx}{x:Str}{e lam:Expr}{te tl:TE}{p pos kpos:Pos}{k:Nat}{ps:List Str}{Rr:Addr->FuncData->Prop}{sp:Addr->FuncData->Sp}(hg:Gl X x)(hm:X.mg x=none)(hv:bootBuiltins x=some (.builtin "sorted"))(G:∀ f fd,Rr f fd->zdm X.prog X.w X.K X.mg X.base CX0 k f fd ps (sp f fd))(hb:∀ f fd,Rr f fd->zcq X.K fd ps [])
  (hr:zej (k+2) X.A)(he:PE X e te)(hl:PE X lam tl)(hn:x≠ "__name__" :=by decide)(hdb:(x == ("__debug__" : Str))=false:=by decide)(hs:starEach [e] X.env=[(false,eval e X.env)]:=by rfl) :
  PE X (.Call (.Name x p) [e] [⟨some "key",lam,kpos⟩] pos) (z09 X.K Rr sp te tl):=by
 intro pins s σ H Q I h
 refine wpAny_Call_Name_kw (zjf I hg hm hv ?_ hn hdb)
 refine callWith_kw (thn (zaa he zag hs pos pins s σ H _ I h) fun us s1 ⟨vs,H1,I1,r1,q1⟩=>?_) (by rw [hs]; rfl) (by rw [hs]; rfl) rfl rfl
 ·refine thn (zp0 hl zxx pos pins s1 σ H1 _ I1 q1) fun ws s2 ⟨zs,H2,I2,rz,a,f,fd,ns,c,e1,e2,hq,d,hj,hR,g,q⟩=>?_
  subst e1 e2
  obtain ⟨v',rfl,rv⟩:=zhm r1
  obtain ⟨u',rfl,ru⟩:=zhm rz
  cases (show v'=Value.ref a from rv)
  cases (show u'=Value.ref f from ru)
  show wpAny _ _ (call (.builtin "sorted") [.ref a] [(Str.ofString "key",.ref f)]) _ _ _
  refine zrm (R:=fun H'=>H'=H2) I2 hq d hj rfl (fun pl s' H' n t hn J e=>?_) (fun H' l e hl _=>by subst e; exact q l hl)
  subst e
  have F:=G f fd hR
  have b:=g n hn (fun v H2=>v = .int (c n)/\H2=H') ⟨rfl,rfl⟩
  refine wpAny_call (codeAny_mono (F.run X.A.in1.in1 X.stack s' H' ⟨[.int n t],[]⟩ [.int n t] [.int n] _ E0 hr.in1.in1 J.env0.in1.in1 (by have y:=hb f fd hR s' [.int n t] J.kIn (by rw [iy]; exact F.len _ _ _ _ b); rw [iy] at y; exact y) (.cons ⟨t,rfl⟩ .nil) b) fun r i hq=>?_)
  cases r with
  | error e=>exact False.elim hq
  | ok fl =>
   cases fl with
   | ret u=>exact J.after hq
   | next=>exact False.elim hq
   | brk=>exact False.elim hq
   | cont=>exact False.elim hq
abbrev bmV:List Value:=[.type "ValueError",.type "Exception",.type "BaseException",.type "object"]
structure DfE (K:W.Frag)(mg:Str->Option Value)(x:Str) where
 C:Addr
 hm:mg x=some (.ref C)
 ex:PySem.W.excIn K C bmV "ValueError.__new__" = true
theorem zyt {K:W.Frag}{h:Heap}{C:Addr}{bmB:List Value}{newId:String}(X:K.In h)(q:PySem.W.excIn K C bmB newId=true) :
  ∃ bm N nm qn bs hdct sn sub ab col dd k0 k1 k2 k3 k5 mN,h.get? C=some (excClassObj nm qn C N bs bm hdct sn sub ab col dd k0 k1 k2 k3 k5 newId)/\h.Ns N mN/\mN "__init__" = none/\OwnTail h bmB bm:=by
 unfold PySem.W.excIn at q
 split at q
 ·rename_i dd cd sl ho
  split at q
  ·rename_i C1 bm k0 k1 k2 k3 n k5 hm hs
   simp only [j4,beq_iff_eq,js] at q
   obtain ⟨⟨⟨⟨⟨e1,e2⟩,a⟩,ht⟩,hok⟩,b⟩:=q
   subst e1 e2
   obtain ⟨nm,bs,mro,ns,qn,hd,sn,sub,ab,col,c⟩:=cd
   dsimp only at hm a hok b
   subst hm a
   obtain ⟨l⟩:=sl
   simp only at hs
   subst hs
   exact ⟨bm,ns,nm,qn,bs,hd,sn,sub,ab,col,dd,k0,k1,k2,k3,k5,_,X _ _ ho,.of_isNs (PySem.W.isNs_of_in X hok),PySem.W.nsMap_none_of_in X hok b,PySem.W.tail_of_in X ht⟩
  ·cases q
 ·cases q
def z2o (W:Hp->Prop)(t:TA):TS:=fun D σ H=>t σ H fun vs H1=>vs.length<=sizeLine/\W H1
theorem zfw {X:Cx}{x:Str}{np cpos pos:Pos}{e:Expr}{es:List Expr}{t:TA}{W:Hp->Prop}(D:DfE X.K X.mg x)(hg:Gl X x)(hc:X.calm=true)(ha:PA X (e :: es) t)
  (hxe:∀ (pins:List (Addr × Obj)) (σ:St) (H:Hp) (s:Shared) (h':Heap) (ea:Addr) (vs:List Value),Inv X pins σ H s->Heap.MadeExcOf s.heap h' ea (.ref D.C) vs->W H->X.xe (.ref ea) { s with heap:=h' })
  (hs:starEach (e :: es) X.env=(false,eval e X.env) :: starEach es X.env:=by rfl)(hpl:(backTo cpos (starEach es X.env)).any (·.1)=false:=by rfl)(hdb:(x == ("__debug__" : Str))=false:=by decide) :
  PS X (.Raise (some (.Call (.Name x np) (e :: es) [] cpos)) none pos) (z2o W t):=by
 intro pins s σ H D' I h
 obtain ⟨bm,N,nm,q,bs,hdct,sn,sub,ab,col,dd,k0,k1,k2,k3,k5,mN,hC,hN,a,T⟩:=zyt I.ok.mod.kin D.ex
 refine wpAny_Raise_call_subU (C:=D.C) (nm:=nm) (q:=q) (N:=N) (bs:=bs) (bm:=bm) (hdct:=hdct) (sn:=sn) (sub:=sub) (ab:=ab) (col:=col) (dd:=dd) (k0:=k0) (k1:=k1) (k2:=k2) (k3:=k3) (k5:=k5)
  jt (bmB:=bmV) (by decide +kernel) jt (mN:=mN) (T.hasType jt.hasBase) (I.ok.hd hc) (by rw [hs]; show (false || (backTo cpos (starEach es X.env)).any (·.1))=false; rw [hpl]; rfl) a (zl7 I hg D.hm ⟨rfl,?_⟩ hdb)
 have A1:=ha cpos pins s σ H _ I h
 rw [hs] at A1 |-
 refine Calls.evalArgs_plain (wpAny_mono A1 (fun us s2 h2=>?_) fun _ _ y=>y)
 obtain ⟨vs,H1,I1,r,hz,hw⟩:=h2
 exact ⟨rfl,by rw [<- r.length]; exact hz,I1.bk _ _ hC,hN.keeps I1.bk,T.keeps I1.bk,fun h' ea hm=>hxe pins σ H1 s2 h' ea us I1 hm hw⟩
section
variable {κ:Type} [DecidableEq κ]
def zdi (kvs:List (κ × V))(k:κ):Option V:=(kvs.find? fun kv=>decide (kv.1=k)).map (·.2)
def zd6 (kvs:List (κ × V))(k:κ)(v:V):List (κ × V) :=
 if (kvs.any fun kv=>decide (kv.1=k))=true then kvs.map (fun kv=>if kv.1=k then (kv.1,v) else kv) else kvs++[(k,v)]
def ze1 (kvs:List (κ × V))(k:κ):List (κ × V):=kvs.filter fun kv=>decide (kv.1≠k)
theorem ze5 {p:κ × V}{r:List (κ × V)}{k:κ}(e:p.1=k):zdi (p :: r) k=some p.2:=by simp [zdi,List.find?_cons,e]
theorem zd8 {p:κ × V}{r:List (κ × V)}{k:κ}(e:¬ p.1=k):zdi (p :: r) k=zdi r k:=by simp [zdi,List.find?_cons,e]
theorem ze3 (k:κ):∀ kvs:List (κ × V),(kvs.any fun kv=>decide (kv.1=k))=(zdi kvs k).isSome
 | []=>rfl
 | p :: r=>by
  rw [lg]
  by_cases e:p.1=k
  ·simp only [ze5 e,decide_eq_true e,Bool.true_or,m5]
  ·rw [zd8 e,decide_eq_false e,Bool.false_or]; exact ze3 k r
theorem ze4 (kvs:List (κ × V))(k:κ)(v:V):(zd6 kvs k v).length<=kvs.length+1:=by
 unfold zd6
 split
 ·rw [gf]; omega
 ·rw [gl,ic,jl]; omega
theorem ziy {kvs:List (κ × V)}{k:κ}(v:V)(h:zdi kvs k=none):zd6 kvs k v=kvs++[(k,v)]:=by
 unfold zd6
 rw [ze3,h]
 exact if_neg (by decide)
theorem zlr.isSome_eq {o:Option V}{u:Option Value}(r:zlr o u):o.isSome=u.isSome:=by
 cases o with
 | none=>cases u with
  | none=>rfl
  | some _=>exact (show False from r).elim
 | some _=>cases u with
  | none=>exact (show False from r).elim
  | some _=>rfl
theorem zlr.getD {o:Option V}{u:Option Value}{d:V}{d':Value}(r:zlr o u)(rd:zbs d d'):zbs (o.getD d) (u.getD d'):=by
 cases o with
 | none=>cases u with
  | none=>exact rd
  | some _=>exact (show False from r).elim
 | some _=>cases u with
  | none=>exact (show False from r).elim
  | some _=>exact r
theorem KV.val {kvs:List (κ × V)}{vs:List (κ × Value)}(r:KV kvs vs)(k:κ):zlr (zdi kvs k) (valueAt vs k):=by
 unfold KV at r
 induction r with
 | nil=>exact True.intro
 | @cons p q ps qs h t ih =>
  obtain ⟨h1,h2⟩:=h
  by_cases e:p.1=k
  ·have e':q.1=k:=h1.symm.trans e
   have b:valueAt (q :: qs) k=some q.2:=by simp [valueAt,List.find?_cons,e']
   rw [ze5 e,b]; exact h2
  ·have e':¬ q.1=k:=fun z=>e (h1.trans z)
   have b:valueAt (q :: qs) k=valueAt qs k:=by simp [valueAt,List.find?_cons,e']
   rw [zd8 e,b]; exact ih
theorem KV.any {kvs:List (κ × V)}{vs:List (κ × Value)}(r:KV kvs vs)(k:κ):(kvs.any fun kv=>decide (kv.1=k))=vs.any fun kv=>decide (kv.1=k):=by
 unfold KV at r
 induction r with
 | nil=>rfl
 | cons h t ih=>rw [lg,lg,ih,h.1]
theorem KV.repl {kvs:List (κ × V)}{vs:List (κ × Value)}(r:KV kvs vs)(k:κ){y:V}{u:Value}(ry:zbs y u) :
  KV (kvs.map fun kv=>if kv.1=k then (kv.1,y) else kv) (vs.map fun kv=>if kv.1=k then (kv.1,u) else kv):=by
 unfold KV at r |-
 induction r with
 | nil=>exact .nil
 | @cons p q ps qs h t ih =>
  rw [ig,ig]
  refine .cons ?_ ih
  obtain ⟨h1,h2⟩:=h
  by_cases e:p.1=k
  ·rw [if_pos e,if_pos (h1.symm.trans e)]; exact ⟨h1,ry⟩
  ·rw [if_neg e,if_neg (fun z=>e (h1.trans z))]; exact ⟨h1,h2⟩
theorem KV.put {kvs:List (κ × V)}{vs:List (κ × Value)}(r:KV kvs vs)(k:κ){y:V}{u:Value}(ry:zbs y u):KV (zd6 kvs k y) (stored vs k u):=by
 unfold zd6 stored
 rw [r.any k]
 by_cases e:(vs.any fun kv=>decide (kv.1=k))=true
 ·rw [if_pos e,if_pos e]; exact r.repl k ry
 ·rw [if_neg e,if_neg e]; exact Paired.snoc r ⟨rfl,ry⟩
theorem KV.drop {kvs:List (κ × V)}{vs:List (κ × Value)}(r:KV kvs vs)(k:κ):KV (ze1 kvs k) (without vs k):=by
 unfold KV at r |-
 unfold ze1 without
 induction r with
 | nil=>exact .nil
 | @cons p q ps qs h t ih =>
  obtain ⟨h1,h2⟩:=h
  rw [l8,l8]
  by_cases e:p.1=k
  ·have a:¬ decide (p.1≠k)=true:=by simp [e]
   have b:¬ decide (q.1≠k)=true:=by simp [h1.symm.trans e]
   rw [if_neg a,if_neg b]; exact ih
  ·have e':¬ q.1=k:=fun z=>e (h1.trans z)
   have a:decide (p.1≠k)=true:=by simp [e]
   have b:decide (q.1≠k)=true:=by simp [e']
   rw [if_pos a,if_pos b]; exact .cons ⟨h1,h2⟩ ih
theorem KV.keys {kvs:List (κ × V)}{vs:List (κ × Value)}(r:KV kvs vs):kvs.map (·.1)=vs.map (·.1):=by
 unfold KV at r
 induction r with
 | nil=>rfl
 | cons h t ih=>rw [ig,ig,ih,h.1]
theorem KV.length {kvs:List (κ × V)}{vs:List (κ × Value)}(r:KV kvs vs):kvs.length=vs.length:=Paired.length r
theorem zwz (kvs:List (κ × V))(k:κ):(ze1 kvs k).length<=kvs.length:=ib _ _
end
theorem zi9 {P:Program}{w:World}{k:Key}{u:Value}(r:zbs (kV k) u):(za7 P w).is k u=true:=by
 cases k with
 | inl i=>obtain ⟨t,e⟩:=(show ∃ t,u=Value.int i t from r); subst e; exact zph P w i t
 | inr x=>obtain ⟨t,e⟩:=(show ∃ t,u=Value.str x t from r); subst e; exact zpy P w x t
theorem zot {P:Program}{w:World}:∀ {ks:List Key} {us:List Value},zb3 (ks.map kV) us->ItemsAre (za7 P w) ks us
 | [],_,r=>by rw [mx] at r; cases r; exact .nil
 | k :: ks,_,r=>by
  rw [ig] at r
  cases r with
  | cons h t=>exact .cons (zi9 h) (zot t)
abbrev KT (H:Hp):List (List Key × V)->List (List Key × Addr × Value)->Prop:=Paired fun p q=>p.1=q.1/\H q.2.1=some (.tup (p.1.map kV))/\zbs p.2 q.2.2
theorem KT.val {H:Hp}{kvs:List (List Key × V)}{xs:List (List Key × Addr × Value)}(r:KT H kvs xs)(k:List Key):zlr (zdi kvs k) ((atKey xs k).map (·.2)):=by
 induction r with
 | nil=>exact True.intro
 | @cons p q ps qs h t ih =>
  obtain ⟨h1,_,h2⟩:=h
  by_cases e:p.1=k
  ·have e':q.1=k:=h1.symm.trans e
   have b:atKey (q :: qs) k=some q.2:=by simp [atKey,List.find?_cons,e']
   rw [ze5 e,b]; exact h2
  ·have e':¬ q.1=k:=fun z=>e (h1.trans z)
   have b:atKey (q :: qs) k=atKey qs k:=by simp [atKey,List.find?_cons,e']
   rw [zd8 e,b]; exact ih
theorem KT.repl {H:Hp}{kvs:List (List Key × V)}{xs:List (List Key × Addr × Value)}(r:KT H kvs xs)(k:List Key){y:V}{u:Value}(ry:zbs y u) :
  KT H (kvs.map fun kv=>if kv.1=k then (kv.1,y) else kv) (xs.map (putAt k u)):=by
 induction r with
 | nil=>exact .nil
 | @cons p q ps qs h t ih =>
  rw [ig,ig]
  refine .cons ?_ ih
  obtain ⟨h1,h2,h3⟩:=h
  unfold putAt
  by_cases e:p.1=k
  ·rw [if_pos e,if_pos (h1.symm.trans e)]; exact ⟨h1,h2,ry⟩
  ·rw [if_neg e,if_neg (fun z=>e (h1.trans z))]; exact ⟨h1,h2,h3⟩
theorem KT.put {H:Hp}{kvs:List (List Key × V)}{xs:List (List Key × Addr × Value)}(r:KT H kvs xs)(k:List Key){b:Addr}{y:V}{u:Value}(hb:H b=some (.tup (k.map kV)))(ry:zbs y u) :
  KT H (zd6 kvs k y) (storedH xs k b u):=by
 have e:(kvs.any fun kv=>decide (kv.1=k))=(atKey xs k).isSome:=by
  rw [ze3,(r.val k).isSome_eq,mh]
 unfold zd6 storedH
 rw [e]
 by_cases q:(atKey xs k).isSome=true
 ·rw [if_pos q,if_pos q]; exact r.repl k ry
 ·rw [if_neg q,if_neg q]; exact Paired.snoc r ⟨rfl,hb,ry⟩
theorem KT.keeps {H H':Hp}{kvs:List (List Key × V)}{xs:List (List Key × Addr × Value)}(r:KT H kvs xs)(ht:∀ b ys,H b=some (.tup ys)->H' b=some (.tup ys)):KT H' kvs xs :=
 Paired.mapP r fun _ _ z=>⟨z.1,ht _ _ z.2.1,z.2.2⟩
section
variable {P:Program} {w:World} {H:Hp} {h:Heap} {a:Addr}
theorem z0m {u:HO}(ok:HOk P w H h)(e:Rd H a u):zcl P w H h a u:=e.ok ok
theorem zkz {kvs:List (Key × V)}(ok:HOk P w H h)(e:Rd H a (.dK kvs)):kvs.length<=sizeLine/\(a == sysModules)=false/\∃ vs,KV kvs vs/\h.DictOf (za7 P w) a vs :=
 show zcl P w H h a (.dK kvs) from z0m ok e
theorem zoo {kvs:List (Key × V)}(ok:HOk P w H h)(e:H a=some (.dK kvs)):kvs.length<=sizeLine/\(a == sysModules)=false/\∃ vs,KV kvs vs/\h.DictOf (za7 P w) a vs:=zkz ok (.inl e)
theorem zf6 {ks:List Key}(ok:HOk P w H h)(e:H a=some (.tup (ks.map kV))):(tupleKind (za7 P w)).is h ks a:=by
 obtain ⟨_,its,r,o,h1,h2,n,h3⟩:=(show zcl P w H h a (.tup (ks.map kV)) from ok a _ e)
 exact ⟨o,its.toArray,n,h1,h2,h3,by simpa using zot r⟩
theorem zok {kvs:List (List Key × V)}(ok:HOk P w H h)(e:Rd H a (.dT kvs)):kvs.length<=sizeLine/\(a == sysModules)=false /\
  ∃ xs,KT H kvs xs/\h.DictOfH (tupleKind (za7 P w)) a xs:=by
 obtain ⟨z,y,xs,r,o,es,ep,h1,h2,h3,h4,h5⟩:=(show zcl P w H h a (.dT kvs) from z0m ok e)
 refine ⟨z,y,xs,r,o,es,ep,h1,h2,h3,h4,fun x hx=>?_,h5⟩
 have all:∀ {l:List (List Key × V)} {m:List (List Key × Addr × Value)},KT H l m->∀ x∈m,(tupleKind (za7 P w)).is h x.1 x.2.1:=by
  intro l m q
  induction q with
  | nil=>intro x hx; exact nomatch hx
  | @cons p q ps qs hq t ih =>
   intro x hx
   rcases gx.mp hx with e | hx
   ·subst e
    exact zf6 ok (by rw [<- hq.1]; exact hq.2.1)
   ·exact ih x hx
 exact all r x hx
theorem z2_ {kvs:List (List Key × V)}(ok:HOk P w H h)(e:H a=some (.dT kvs)):kvs.length<=sizeLine/\(a == sysModules)=false /\
  ∃ xs,KT H kvs xs/\h.DictOfH (tupleKind (za7 P w)) a xs:=zok ok (.inl e)
end
def zg0 (H:Hp)(a:Addr)(y:V)(r:Option V):Prop :=
 (∃ kvs k,Rd H a (.dK kvs)/\y=kV k/\r=zdi kvs k)\/∃ kvs k b,Rd H a (.dT kvs)/\y = .ref b/\H b=some (.tup (k.map kV))/\r=zdi kvs k
def zkv (H:Hp)(a:Addr)(y v:V)(H':Hp):Prop :=
 (∃ kvs k,H a=some (.dK kvs)/\y=kV k/\kvs.length<sizeLine/\H'=upd H a (.dK (zd6 kvs k v))) \/
 ∃ kvs k b,H a=some (.dT kvs)/\y = .ref b/\H b=some (.tup (k.map kV))/\kvs.length<sizeLine/\H'=upd H a (.dT (zd6 kvs k v))
theorem zg0.k {H:Hp}{a:Addr}{kvs:List (Key × V)}{k:Key}(e:H a=some (.dK kvs)):zg0 H a (kV k) (zdi kvs k):= .inl ⟨kvs,k,.inl e,rfl,rfl⟩
theorem zkv.k {H:Hp}{a:Addr}{kvs:List (Key × V)}{k:Key}{v:V}(e:H a=some (.dK kvs))(hl:kvs.length<sizeLine):zkv H a (kV k) v (upd H a (.dK (zd6 kvs k v))):= .inl ⟨kvs,k,e,rfl,hl,rfl⟩
section
variable {X:Cx} {pins:List (Addr × Obj)} {σ:St} {H:Hp} {s:Shared} {a:Addr} {y v:V} {u r:Value} {o:Option V} {A:Around} {E:Value->Shared->Prop}
theorem Inv.big (I:Inv X pins σ H s):sysModules<s.heap.objs.size:=by
 have h:mainGlobals<s.heap.objs.size:=(I.mod.glob.keeps I.bk).lt
 exact mi (by decide) h
theorem ztp {Q:Value->Shared->Prop}(hu:A.units+1<cLine)(I:Inv X pins σ H s)(g:zg0 H a y (some v))(ry:zbs y u)(h:∀ w' s',Inv X pins σ H s'->zbs v w'->Q w' s') :
  wpAny (model X.prog X.w) A (getItem (.ref a) u) Q E s:=by
 rcases g with ⟨kvs,k,e,ey,l⟩ | ⟨kvs,k,b,e,ey,eb,l⟩
 ·subst ey
  obtain ⟨z,hd,vs,d,dd⟩:=zkz I.hok e
  obtain ⟨w',hw,c⟩:=zlr.some_of (v:=v) (o:=valueAt vs k) (by rw [l]; exact d.val k)
  exact wpAny_getItem_of (zi9 ry) dd.mapOf hw (h w' _ (I.tok _) c)
 ·subst ey
  cases (show u=Value.ref b from ry)
  obtain ⟨z,hd,xs,d,dd⟩:=zok I.hok e
  obtain ⟨w',hw,c⟩:=zlr.some_of (v:=v) (o:=(atKey xs k).map (·.2)) (by rw [l]; exact d.val k)
  obtain ⟨p,hp,f⟩:=j6.mp hw
  refine wpAny_getItem_heap (tupleKind_room_in1 hu) (zf6 I.hok eb) dd hp ?_
  rw [f]
  exact h w' _ (I.tok _) c
theorem z4r {Q:Value->Shared->Prop}(hu:A.units+1<cLine)(I:Inv X pins σ H s)(g:zg0 H a y o)(ry:zbs y u)(h:∀ s',Inv X pins σ H s'->Q (.bool o.isSome) s') :
  wpAny (model X.prog X.w) A (compareOp .In u (.ref a)) Q E s:=by
 rcases g with ⟨kvs,k,e,ey,l⟩ | ⟨kvs,k,b,e,ey,eb,l⟩
 ·subst ey
  obtain ⟨z,hd,vs,c,dd⟩:=zkz I.hok e
  refine wpAny_in_of (zi9 ry) hd dd.mapOf ?_
  rw [<- (c.val k).isSome_eq,<- l]
  exact h _ (I.tok _)
 ·subst ey
  cases (show u=Value.ref b from ry)
  obtain ⟨z,hd,xs,c,dd⟩:=zok I.hok e
  refine wpAny_in_heap (tupleKind_room_in1 hu) (zf6 I.hok eb) hd dd ?_
  have q:=(c.val k).isSome_eq
  rw [mh] at q
  rw [<- q,<- l]
  exact h _ (I.tok _)
theorem zzn {Q:Value->Shared->Prop}(hu:A.units+1<cLine)(I:Inv X pins σ H s)(g:zg0 H a y o)(ry:zbs y u)(h:∀ s',Inv X pins σ H s'->Q (.bool (!o.isSome)) s') :
  wpAny (model X.prog X.w) A (compareOp .NotIn u (.ref a)) Q E s:=by
 rcases g with ⟨kvs,k,e,ey,l⟩ | ⟨kvs,k,b,e,ey,eb,l⟩
 ·subst ey
  obtain ⟨z,hd,vs,c,dd⟩:=zkz I.hok e
  refine wpAny_notIn_of (zi9 ry) hd dd.mapOf ?_
  rw [<- (c.val k).isSome_eq,<- l]
  exact h _ (I.tok _)
 ·subst ey
  cases (show u=Value.ref b from ry)
  obtain ⟨z,hd,xs,c,dd⟩:=zok I.hok e
  refine wpAny_notIn_heap (tupleKind_room_in1 hu) (zf6 I.hok eb) hd dd ?_
  have q:=(c.val k).isSome_eq
  rw [mh] at q
  rw [<- q,<- l]
  exact h _ (I.tok _)
theorem zjm {h':Heap}{t':Nat}{ob:HO}(I:Inv X pins σ H s)(mu:Mut (H a))(hs:Heap.SameBut a s.heap h')(he:∃ q,h'.get? a=some q)(new:zcl X.prog X.w (upd H a ob) h' a ob) :
  Inv X pins σ (upd H a ob) { s with heap:=h',toks:=t' } :=
 I.write (x:=a) (e:=a) mu (.inl rfl) (fun b q hb z=>(hs.2 b hb).trans z) he new
theorem zqw {P:Program}{w:World}{H':Hp}{h':Heap}{kvs:List (Key × V)}{vs:List (Key × Value)}(z:kvs.length<=sizeLine)(hd:(a == sysModules)=false)(rel:KV kvs vs)(dd:h'.DictOf (za7 P w) a vs) :
  zcl P w H' h' a (.dK kvs):=⟨z,hd,vs,rel,dd⟩
theorem zua {H':Hp}{Q:Unit->Shared->Prop}(hu:A.units+1<cLine)(I:Inv X pins σ H s)(g:zkv H a y v H')(ry:zbs y u)(rv:zbs v r)(h:∀ s',Inv X pins σ H' s'->Q () s') :
  wpAny (model X.prog X.w) A (setItem (.ref a) u r) Q E s:=by
 rcases g with ⟨kvs,k,e,ey,l,eH⟩ | ⟨kvs,k,b,e,ey,eb,l,eH⟩
 ·subst ey eH
  obtain ⟨z,hd,vs,d,dd⟩:=zoo I.hok e
  have hz:vs.length<=sizeLine:=by rw [<- d.length]; exact z
  have hl:(zd6 kvs k v).length<=sizeLine:=by have:=ze4 kvs k v; omega
  refine wpAny_setItem_pairs (hsz:=hz) (zi9 ry) dd fun h' f hs=>h _ ?_
  have he:∃ q,h'.get? a=some q:=let ⟨q,_,_,hq,_⟩:=f; ⟨q,hq⟩
  exact zjm I (by rw [e]; exact True.intro) hs he (zqw hl hd (d.put k rv) f)
 ·subst ey eH
  cases (show u=Value.ref b from ry)
  obtain ⟨z,hd,xs,d,dd⟩:=z2_ I.hok e
  have hz:xs.length<=sizeLine:=by rw [<- Paired.length d]; exact z
  have hl:(zd6 kvs k v).length<=sizeLine:=by have:=ze4 kvs k v; omega
  refine wpAny_setItem_heap (hsz:=hz) (tupleKind_room_in1 hu) (zf6 I.hok eb) dd fun h' f hs=>h _ ?_
  obtain ⟨q,es,ep,hq,h2,h3,h4,_,h5⟩:=f
  refine zjm I (by rw [e]; exact True.intro) hs ⟨q,hq⟩ ⟨hl,hd,_,(d.put k eb rv).keeps fun c ys ec=>?_,q,es,ep,hq,h2,h3,h4,h5⟩
  rw [zab (zcv ec e (fun z=>nomatch z))]
  exact ec
end
section
variable {X:Cx} {pins:List (Addr × Obj)} {σ:St} {H:Hp} {s:Shared} {a:Addr} {kvs:List (Key × V)} {k:Key} {u:Value} {A:Around} {E:Value->Shared->Prop}
theorem z1f {v:V}{more:List Value}{Q:Value->Shared->Prop}(I:Inv X pins σ H s)(e:H a=some (.dK kvs))(ry:zbs (kV k) u)(l:zdi kvs k=some v)(hm:more=[]\/∃ x,more=[x])
  (h:∀ w' s',Inv X pins σ (upd H a (.dK (ze1 kvs k))) s'->zbs v w'->Q w' s'):wpAny (model X.prog X.w) A (call (.builtin "dict.pop") (.ref a :: u :: more)) Q E s:=by
 obtain ⟨z,hd,vs,b,dd⟩:=zoo I.hok e
 obtain ⟨w',hw,d⟩:=zlr.some_of (v:=v) (o:=valueAt vs k) (by rw [<- l]; exact b.val k)
 have hp:(keyPart u).isSome=true:=by
  cases k with
  | inl i=>obtain ⟨t,q⟩:=(show ∃ t,u=Value.int i t from ry); subst q; rfl
  | inr x=>obtain ⟨t,q⟩:=(show ∃ t,u=Value.str x t from ry); subst q; rfl
 have ha:argsOk "dict.pop" ⟨.ref a :: u :: more,[]⟩:=by
  rcases hm with q | ⟨x,q⟩
  ·subst q; exact PySem.F.args_dict_pop_2 _ _
  ·subst q; exact PySem.F.args_dict_pop_3 _ _ _
 refine call_meetsIn kc dd.typeIs m7 ha (meets_dict_pop_there (za7 X.prog X.w) a (zi9 ry) more hm hp)
  ⟨vs,w',dd,by rw [<- b.length]; exact z,hw,fun h' c hs=>h w' _ ?_ d⟩
 have he:∃ q,h'.get? a=some q:=let ⟨q,_,_,hq,_⟩:=c; ⟨q,hq⟩
 exact zjm I (by rw [e]; exact True.intro) hs he (zqw (gy (zwz kvs k) z) hd (b.drop k) c)
theorem z0r {r:Value}{Q:Value->Shared->Prop}(I:Inv X pins σ H s)(e:H a=some (.dK kvs))(ry:zbs (kV k) u)(l:zdi kvs k=none)(h:∀ s',Inv X pins σ H s'->Q r s') :
  wpAny (model X.prog X.w) A (call (.builtin "dict.pop") [.ref a,u,r]) Q E s:=by
 obtain ⟨z,hd,vs,b,dd⟩:=zoo I.hok e
 have hn:valueAt vs k=none:=zlr.none_of (by rw [<- l]; exact b.val k)
 have hp:(keyPart u).isSome=true:=by
  cases k with
  | inl i=>obtain ⟨t,q⟩:=(show ∃ t,u=Value.int i t from ry); subst q; rfl
  | inr x=>obtain ⟨t,q⟩:=(show ∃ t,u=Value.str x t from ry); subst q; rfl
 exact call_meetsIn kc dd.typeIs m7 (PySem.F.args_dict_pop_3 _ _ _) (meets_dict_pop_default (za7 X.prog X.w) a (zi9 ry) hd hp r) ⟨vs,dd,hn,h _ (I.tok _)⟩
end
def z33 (i:Expr):Prop:=∀ ov iv,subscripted i false ov iv=operate [ov,iv] (getItem ov iv)
theorem zz7 {prog:Program}{w:World}{A:Around}{E:Value->Shared->Prop}{s:Shared}{env:Env}{value slice:Expr}{pos:Pos}{T id:String}{Q:Value->Shared->Prop}
  (hl:typeLookup (.type T) "__getitem__" = pure (some (.builtin id)))(hs:z33 slice)
  (h:wpAny (model prog w) A (eval value env) (fun o s₁=>wpAny (model prog w) A (eval slice env) (fun i s₂=>s₂.TypeIs o T/\wpAny (model prog w) A (getItem o i) Q E s₂) E s₁) E s) :
  wpAny (model prog w) A (eval (.Subscript value slice pos) env) Q E s:=by
 refine Subscript_ (wpAny_mono h (fun o s₁ h₁=>wpAny_mono h₁ (fun i s₂ h₂=>?_) fun _ _ x=>x) fun _ _ x=>x)
 obtain ⟨hT,h₂⟩:=h₂
 unfold subscriptTail
 refine wpAny_bind ?_
 rw [getitemInPython_of_ne hT.not_modules]
 refine wpAny_bind (wpAny_specialOf hT hl ?_)
 have a:wpAny (model prog w) A (subscripted slice false o i) (fun r s₃=>wpAny (model prog w) A (letTemporaryGo value o r >>= fun _=>pure r) Q E s₃) E s₂:=by
  rw [hs o i]
  exact wpAny_operating (wpAny_mono h₂ (fun r s₃ h₃=>wpAny_bind (wpAny_letTemporaryGo (wpAny_pure h₃))) fun _ _ x=>x)
 first
  | exact wpAny_pure (wpAny_bind a)
  | exact wpAny_bind (wpAny_pure (wpAny_bind a))
  | exact wpAny_bind a
theorem zpt {X:Cx}{pins:List (Addr × Obj)}{σ:St}{H:Hp}{s:Shared}{a:Addr}{y:V}{o:Option V}(I:Inv X pins σ H s)(g:zg0 H a y o):s.TypeIs (.ref a) "dict" :=by
 rcases g with ⟨kvs,k,e,_,_⟩ | ⟨kvs,k,b,e,_,_,_⟩
 ·obtain ⟨_,_,vs,_,dd⟩:=zkz I.hok e
  exact dd.typeIs
 ·obtain ⟨_,_,xs,_,dd⟩:=zok I.hok e
  exact dd.typeIs
def z3d (td ty:TE):TE:=fun σ H Q=>td σ H fun x H1=>ty σ H1 fun y H2=>∃ a v,x = .ref a/\zg0 H2 a y (some v)/\Q v H2
def z4o (ty td:TE):TE:=fun σ H Q=>ty σ H fun y H1=>td σ H1 fun x H2=>∃ a o,x = .ref a/\zg0 H2 a y o/\Q (.bl o.isSome) H2
def zzg (ty td:TE):TE:=fun σ H Q=>ty σ H fun y H1=>td σ H1 fun x H2=>∃ a o,x = .ref a/\zg0 H2 a y o/\Q (.bl (!o.isSome)) H2
def z3b (td ty tv:TE):TS:=fun D σ H=>tv σ H fun v H1=>td σ H1 fun x H2=>ty σ H2 fun y H3=>∃ a H4,x = .ref a/\zkv H3 a y v H4/\D.nx σ H4
section
variable {X:Cx} {o i value:Expr} {pos pos':Pos} {td ty tv:TE}
theorem zdt (hu:X.A.units+1<cLine)(ho:PE X o td)(hi:PE X i ty)(hs:z33 i):PE X (.Subscript o i pos) (z3d td ty):=by
 intro pins s σ H Q I h
 refine zz7 PySem.F.slot_dict_getitem.lookup hs (thn (ho pins s σ H _ I h) fun u s1 ⟨x,H1,I1,rx,q1⟩=>thn (hi pins s1 σ H1 _ I1 q1) fun iv s2 ⟨y,H2,I2,ry,a,v,ex,g,q2⟩=>?_)
 subst ex
 obtain rfl:u=Value.ref a:=rx
 exact ⟨zpt I2 g,ztp hu I2 g ry fun w' s3 I3 b=>⟨v,H2,I3,b,q2⟩⟩
theorem zr9 (hu:X.A.units+1<cLine)(hi:PE X i ty)(ho:PE X o td):PC X .In i o (z4o ty td):=by
 intro pins s σ H Q I h
 refine thn (hi pins s σ H _ I h) fun iv s1 ⟨y,H1,I1,ry,q1⟩=>thn (ho pins s1 σ H1 _ I1 q1) fun u s2 ⟨x,H2,I2,rx,a,ov,ex,g,q2⟩=>?_
 subst ex
 obtain rfl:u=Value.ref a:=rx
 exact z4r hu I2 g ry fun s3 I3=>⟨.bl ov.isSome,H2,I3,rfl,q2⟩
theorem zog (hu:X.A.units+1<cLine)(hi:PE X i ty)(ho:PE X o td):PC X .NotIn i o (zzg ty td):=by
 intro pins s σ H Q I h
 refine thn (hi pins s σ H _ I h) fun iv s1 ⟨y,H1,I1,ry,q1⟩=>thn (ho pins s1 σ H1 _ I1 q1) fun u s2 ⟨x,H2,I2,rx,a,ov,ex,g,q2⟩=>?_
 subst ex
 obtain rfl:u=Value.ref a:=rx
 exact zzn hu I2 g ry fun s3 I3=>⟨.bl (!ov.isSome),H2,I3,rfl,q2⟩
theorem zgg (hu:X.A.units+1<cLine)(ho:PE X o td)(hi:PE X i ty)(hv:PE X value tv)(hs:swapsWith value (some (.Subscript o i pos')) pos.line X.env=pure false) :
  PS X (.Assign [.Subscript o i pos'] value pos) (z3b td ty tv):=by
 intro pins s σ H D I h
 refine wpAny_Assign_Subscript (thn (hv pins s σ H _ I h) fun r s1 ⟨v,H1,I1,rv,q1⟩=>thn (ho pins s1 σ H1 _ I1 q1) fun u s2 ⟨x,H2,I2,rx,q2⟩=>thn (hi pins s2 σ H2 _ I2 q2) fun iv s3 ⟨y,H3,I3,ry,a,H4,ex,g,q3⟩=>?_) hs
 subst ex
 obtain rfl:u=Value.ref a:=rx
 exact zua hu I3 g ry rv fun s4 I4=>⟨σ,H4,I4,q3⟩
end
theorem zqk {P:Program}{w:World}{H:Hp}(h:Heap)(hb:sysModules<h.objs.size):zcl P w H (h.push { cls:= .type "dict",data:= .dict #[] }) h.objs.size (.dK []) :=
 ⟨ix _,beq_eq_false_iff_ne.mpr (Ne.symm (i0 hb)),[],.nil,Heap.DictOf.new h⟩
def z02:TE:=fun _ H Q=>∀ p,H p=none->Q (.ref p) (upd H p (.dK []))
section
variable {X:Cx} {pos:Pos}
theorem zd_:PE X (.Dict [] [] pos) z02:=fun pins s σ H Q I h =>
 wpAny_Dict_empty ⟨.ref s.heap.objs.size,_,I.laid (a:=s.heap.objs.size) (o:= .dK []) (t':=s.toks) (fun _ _ q=>Heap.get?_push_of_some _ q) (gv _) (zqk s.heap I.big),rfl,h _ (I.hok.fresh (gv _))⟩
end
def zsj:List (TE × TE)->St->Hp->(List (V × V)->Hp->Prop)->Prop
 | [],_,H,Q=>Q [] H
 | (tk,tv) :: r,σ,H,Q=>tk σ H fun x H1=>tv σ H1 fun y H2=>zsj r σ H2 fun ps H3=>Q ((x,y) :: ps) H3
abbrev VV:List (V × V)->List (Value × Value)->Prop:=Paired fun p q=>zbs p.1 q.1/\zbs p.2 q.2
def PPs (X:Cx)(pos:Pos)(keys:List (Option Expr))(values:List Expr)(trs:List (TE × TE)):Prop :=
 ∀ (pins:List (Addr × Obj)) (s:Shared) (σ:St) (H:Hp) (Q:List (V × V)->Hp->Prop),Inv X pins σ H s->zsj trs σ H Q ->
  wpAny (model X.prog X.w) X.A (evalPairs (pairTrees keys values X.env pos)) (fun vs s'=>∃ ps H',Inv X pins σ H' s'/\VV ps vs/\Q ps H') X.xe s
theorem zx1 {X:Cx}{pos:Pos}:PPs X pos [] [] []:=fun pins s σ H Q I h=>pairTrees_nil_walk ⟨[],H,I,.nil,h⟩
theorem zw9 {X:Cx}{pos:Pos}{k v:Expr}{ks:List (Option Expr)}{vs:List Expr}{tk tv:TE}{trs:List (TE × TE)}(hk:PE X k tk)(hv:PE X v tv)(hr:PPs X pos ks vs trs) :
  PPs X pos (some k :: ks) (v :: vs) ((tk,tv) :: trs):=fun pins s σ H Q I h =>
 pairTrees_cons_walk (thn (hk pins s σ H _ I h) fun u s1 ⟨x,H1,I1,rx,q1⟩=>thn (hv pins s1 σ H1 _ I1 q1) fun w2 s2 ⟨y,H2,I2,ry,q2⟩ =>
  thn (hr pins s2 σ H2 _ I2 q2) fun ws s3 ⟨ps,H3,I3,rel,q3⟩=>⟨(x,y) :: ps,H3,I3,.cons ⟨rx,ry⟩ rel,q3⟩)
def zia (kvs more:List (Key × V)):List (Key × V):=more.foldl (fun acc kv=>zd6 acc kv.1 kv.2) kvs
theorem KV.merge:∀ {more:List (Key × V)} {rs:List (Key × Value)} {kvs:List (Key × V)} {vs:List (Key × Value)},KV more rs->KV kvs vs->KV (zia kvs more) (merged vs rs):=by
 intro more rs kvs vs r
 unfold KV at r
 induction r generalizing kvs vs with
 | nil=>intro q; exact q
 | @cons p q ps qs h t ih =>
  intro r0
  have e:KV (zd6 kvs p.1 p.2) (stored vs q.1 q.2):=by
   have:=r0.put p.1 h.2
   rw [<- h.1]; exact this
  exact ih e
theorem zg_:∀ (more kvs:List (Key × V)),(zia kvs more).length<=kvs.length+more.length
 | [],kvs=>by show kvs.length<=kvs.length+0; omega
 | p :: r,kvs=>by
  have h1:=zg_ r (zd6 kvs p.1 p.2)
  have h2:=ze4 kvs p.1 p.2
  show (zia (zd6 kvs p.1 p.2) r).length<=_
  rw [ic]; omega
theorem zlu {P:Program}{w:World}:∀ {kvs:List (Key × V)} {ws:List (Value × Value)},VV (kvs.map fun kv=>(kV kv.1,kv.2)) ws->∃ rs,Carries (za7 P w) ws rs/\KV kvs rs
 | [],_,r=>by rw [mx] at r; cases r; exact ⟨[],True.intro,.nil⟩
 | p :: kvs,_,r=>by
  rw [ig] at r
  cases r with
  | @cons a b as bs h t =>
   obtain ⟨rs,c,q⟩:=zlu (P:=P) (w:=w) t
   obtain ⟨b1,b2⟩:=b
   exact ⟨(p.1,b2) :: rs,⟨zi9 h.1,rfl,c⟩,.cons ⟨rfl,h.2⟩ q⟩
def z3q (trs:List (TE × TE)):TE:=fun σ H Q=>∀ p,H p=none->zsj trs σ (upd H p (.dK [])) fun ps H2=>H2 p=some (.dK [])/\∃ kvs:List (Key × V),ps=kvs.map (fun kv=>(kV kv.1,kv.2))/\kvs.length<=15/\Q (.ref p) (upd H2 p (.dK (zia [] kvs)))
theorem zzm {X:Cx}{pos:Pos}{keys:List (Option Expr)}{values:List Expr}{trs:List (TE × TE)}(h:PPs X pos keys values trs)(hall:keys.all (·.isSome)=true)(hl:keys.length=values.length)(h0:keys≠[])
  (h15:keys.length<=15):PE X (.Dict keys values pos) (z3q trs):=by
 intro pins s σ H Q I q
 have hn:=I.hok.fresh (gv s.heap.objs.size)
 have I1:=I.laid (a:=s.heap.objs.size) (o:= .dK []) (h':=s.heap.push { cls:= .type "dict",data:= .dict #[] }) (t':=s.toks) (fun _ _ q=>Heap.get?_push_of_some _ q) (gv _) (zqk s.heap I.big)
 refine wpAny_Dict_walk (knd:=za7 X.prog X.w) hall hl h0 h15 (thn (h pins _ σ _ _ I1 (q _ hn)) fun ws s2 ⟨ps,H2,I2,d,e,kvs,ep,lk,q2⟩=>?_)
 subst ep
 obtain ⟨rs,c,rk⟩:=zlu (P:=X.prog) (w:=X.w) d
 obtain ⟨z,hd,f,r0,dd⟩:=zoo I2.hok e
 cases r0
 refine ⟨rs,c,dd,fun h' b hs=>⟨.ref s.heap.objs.size,_,?_,rfl,q2⟩⟩
 have hz:(zia [] kvs).length<=sizeLine:=by
  have h1:=zg_ kvs []
  rw [jl] at h1
  rw [sizeLine_eq]; omega
 have he:∃ q,h'.get? s.heap.objs.size=some q:=let ⟨q,_,_,hq,_⟩:=b; ⟨q,hq⟩
 exact zjm I2 (by rw [e]; exact True.intro) hs he (zqw hz hd (rk.merge .nil) b)
structure M1 (X:Cx)(o:Expr)(m:Str)(apos:Pos)(e:Expr)(cpos:Pos):Prop where
 base:attributeBase o m X.env (eval o X.env)=eval o X.env
 few:((backTo cpos (starEach [e] X.env)).all (fun x=> !x.1) && (backToKw cpos (keywordEach [] X.env)).all (fun x=>x.1.isSome)
  && decide (([e]:List Expr).length+([]:List Keyword).length+(if ([]:List Keyword).isEmpty then 0 else 1)<30))=true
 line:(apos.endLine == cpos.line)=true
 trees:backTo cpos (starEach [e] X.env)=[(false,eval e X.env)]
structure M2 (X:Cx)(o:Expr)(m:Str)(apos:Pos)(e f:Expr)(cpos:Pos):Prop where
 base:attributeBase o m X.env (eval o X.env)=eval o X.env
 few:((backTo cpos (starEach [e,f] X.env)).all (fun x=> !x.1) && (backToKw cpos (keywordEach [] X.env)).all (fun x=>x.1.isSome)
  && decide (([e,f]:List Expr).length+([]:List Keyword).length+(if ([]:List Keyword).isEmpty then 0 else 1)<30))=true
 line:(apos.endLine == cpos.line)=true
 trees:backTo cpos (starEach [e,f] X.env)=[(false,eval e X.env),(false,eval f X.env)]
def IsD (H:Hp)(a:Addr):Prop:=(∃ kvs,Rd H a (.dK kvs))\/∃ kvs,Rd H a (.dT kvs)
theorem znk {X:Cx}{pins:List (Addr × Obj)}{σ:St}{H:Hp}{s:Shared}{a:Addr}(I:Inv X pins σ H s)(d:IsD H a) :
  s.TypeIs (.ref a) "dict" /\(∀ b,Value.ref a = .ref b->∃ ob,s.heap.get? b=some ob/\ob.dict=none)/\(a == sysModules)=false:=by
 rcases d with ⟨kvs,e⟩ | ⟨kvs,e⟩
 ·obtain ⟨_,hd,vs,_,dd⟩:=zkz I.hok e
  refine ⟨dd.typeIs,fun b q=>?_,hd⟩
  cases q
  obtain ⟨ob,_,_,h1,h2,_⟩:=dd
  exact ⟨ob,h1,h2.2.1⟩
 ·obtain ⟨_,hd,xs,_,dd⟩:=zok I.hok e
  refine ⟨dd.typeIs,fun b q=>?_,hd⟩
  cases q
  obtain ⟨ob,_,_,h1,h2,_⟩:=dd
  exact ⟨ob,h1,h2.2.1⟩
section
variable {X:Cx} {pins:List (Addr × Obj)} {σ:St} {H:Hp} {s:Shared} {a:Addr} {y d:V} {u r:Value} {o:Option V} {A:Around} {E:Value->Shared->Prop}
theorem z0s {Q:Value->Shared->Prop}(hu:A.units+1<cLine)(I:Inv X pins σ H s)(g:zg0 H a y o)(ry:zbs y u)(h:∀ w' s',Inv X pins σ H s'->zbs (o.getD .non) w'->Q w' s') :
  wpAny (model X.prog X.w) A (call (.builtin "dict.get") [.ref a,u]) Q E s:=by
 rcases g with ⟨kvs,k,e,ey,l⟩ | ⟨kvs,k,b,e,ey,eb,l⟩
 ·subst ey
  obtain ⟨z,hd,vs,c,dd⟩:=zkz I.hok e
  refine call_meetsIn jk dd.typeIs jx (PySem.F.args_dict_get_2 _ _) (meets_dict_get (za7 X.prog X.w) a (zi9 ry) hd) ⟨_,dd.mapOf,h _ _ (I.tok _) ?_⟩
  rw [l]
  exact (c.val k).getD rfl
 ·subst ey
  cases (show u=Value.ref b from ry)
  obtain ⟨z,hd,xs,c,dd⟩:=zok I.hok e
  refine call_meetsIn jk dd.typeIs jx (PySem.F.args_dict_get_2 _ _) (meetsH_dict_get (tupleKind (za7 X.prog X.w)) a b hd) ⟨tupleKind_room_in1 hu,k,xs,zf6 I.hok eb,dd,h _ _ (I.tok _) ?_⟩
  rw [l]
  exact (c.val k).getD rfl
theorem z1z {Q:Value->Shared->Prop}(hu:A.units+1<cLine)(I:Inv X pins σ H s)(g:zg0 H a y o)(ry:zbs y u)(rd:zbs d r)(h:∀ w' s',Inv X pins σ H s'->zbs (o.getD d) w'->Q w' s') :
  wpAny (model X.prog X.w) A (call (.builtin "dict.get") [.ref a,u,r]) Q E s:=by
 rcases g with ⟨kvs,k,e,ey,l⟩ | ⟨kvs,k,b,e,ey,eb,l⟩
 ·subst ey
  obtain ⟨z,hd,vs,c,dd⟩:=zkz I.hok e
  refine call_meetsIn jk dd.typeIs jx (PySem.F.args_dict_get_3 _ _ _) (meets_dict_get_default (za7 X.prog X.w) a (zi9 ry) hd r) ⟨_,dd.mapOf,h _ _ (I.tok _) ?_⟩
  rw [l]
  exact (c.val k).getD rd
 ·subst ey
  cases (show u=Value.ref b from ry)
  obtain ⟨z,hd,xs,c,dd⟩:=zok I.hok e
  refine call_meetsIn jk dd.typeIs jx (PySem.F.args_dict_get_3 _ _ _) (meetsH_dict_get_default (tupleKind (za7 X.prog X.w)) a b hd r) ⟨tupleKind_room_in1 hu,k,xs,zf6 I.hok eb,dd,h _ _ (I.tok _) ?_⟩
  rw [l]
  exact (c.val k).getD rd
end
def z1t (td ty:TE):TE:=fun σ H Q=>td σ H fun x H1=>∃ a,x = .ref a/\IsD H1 a/\ty σ H1 fun y H2=>∃ o,zg0 H2 a y o/\Q (o.getD .non) H2
def z0_ (td ty tx:TE):TE:=fun σ H Q=>td σ H fun x H1=>∃ a,x = .ref a/\IsD H1 a/\ty σ H1 fun y H2=>tx σ H2 fun z H3=>∃ o,zg0 H3 a y o/\Q (o.getD z) H3
def z2b (td ty:TE):TE:=fun σ H Q=>td σ H fun x H1=>∃ a,x = .ref a/\IsD H1 a/\ty σ H1 fun y H2=>∃ kvs k v,H2 a=some (.dK kvs)/\y=kV k/\zdi kvs k=some v/\Q v (upd H2 a (.dK (ze1 kvs k)))
def z08 (td ty tx:TE):TE:=fun σ H Q=>td σ H fun x H1=>∃ a,x = .ref a/\IsD H1 a/\ty σ H1 fun y H2=>tx σ H2 fun z H3=>∃ kvs k,H3 a=some (.dK kvs)/\y=kV k /\
 (∀ v,zdi kvs k=some v->Q v (upd H3 a (.dK (ze1 kvs k))))/\(zdi kvs k=none->Q z H3)
section
variable {X:Cx} {o e f:Expr} {apos cpos:Pos} {td ty tx:TE}
theorem zwi (hu:X.A.units+1<cLine)(ho:PE X o td)(he:PE X e ty)(m:M1 X o "get" apos e cpos):PE X (.Call (.Attribute o "get" apos) [e] [] cpos) (z1t td ty):=by
 intro pins s σ H Q I h
 refine wpAny_Call_method m.base m.few m.line jj jk PySem.F.type_dict_get (thn (ho pins s σ H _ I h) fun u s1 ⟨x,H1,I1,rx,a,ex,d,q1⟩=>?_)
 subst ex
 obtain rfl:u=Value.ref a:=rx
 obtain ⟨t1,t2,_⟩:=znk I1 d
 refine ⟨t1,t2,?_⟩
 rw [m.trees]
 refine Calls.callWith_builtin rfl (Calls.evalArgs_plain (Calls.spliced_cons (thn (he pins s1 σ H1 _ I1 q1) fun iv s2 ⟨y,H2,I2,ry,ov,g,q2⟩=>Calls.spliced_nil ?_)))
 exact z0s hu I2 g ry fun w' s3 I3 b=>⟨_,H2,I3,b,q2⟩
theorem zvh (hu:X.A.units+1<cLine)(ho:PE X o td)(he:PE X e ty)(hf:PE X f tx)(m:M2 X o "get" apos e f cpos):PE X (.Call (.Attribute o "get" apos) [e,f] [] cpos) (z0_ td ty tx):=by
 intro pins s σ H Q I h
 refine wpAny_Call_method m.base m.few m.line jj jk PySem.F.type_dict_get (thn (ho pins s σ H _ I h) fun u s1 ⟨x,H1,I1,rx,a,ex,d,q1⟩=>?_)
 subst ex
 obtain rfl:u=Value.ref a:=rx
 obtain ⟨t1,t2,_⟩:=znk I1 d
 refine ⟨t1,t2,?_⟩
 rw [m.trees]
 refine Calls.callWith_builtin rfl (Calls.evalArgs_plain (Calls.spliced_cons (thn (he pins s1 σ H1 _ I1 q1) fun iv s2 ⟨y,H2,I2,ry,q2⟩ =>
  Calls.spliced_cons (thn (hf pins s2 σ H2 _ I2 q2) fun fv s3 ⟨z,H3,I3,rz,ov,g,q3⟩=>Calls.spliced_nil ?_))))
 exact z1z hu I3 g ry rz fun w' s4 I4 b=>⟨_,H3,I4,b,q3⟩
theorem zw4 (ho:PE X o td)(he:PE X e ty)(m:M1 X o "pop" apos e cpos):PE X (.Call (.Attribute o "pop" apos) [e] [] cpos) (z2b td ty):=by
 intro pins s σ H Q I h
 refine wpAny_Call_method m.base m.few m.line jj kc mk (thn (ho pins s σ H _ I h) fun u s1 ⟨x,H1,I1,rx,a,ex,d,q1⟩=>?_)
 subst ex
 obtain rfl:u=Value.ref a:=rx
 obtain ⟨t1,t2,_⟩:=znk I1 d
 refine ⟨t1,t2,?_⟩
 rw [m.trees]
 refine Calls.callWith_builtin rfl (Calls.evalArgs_plain (Calls.spliced_cons (thn (he pins s1 σ H1 _ I1 q1) fun iv s2 ⟨y,H2,I2,ry,kvs,k,v,ea,ey,l,q2⟩=>Calls.spliced_nil ?_)))
 subst ey
 exact z1f I2 ea ry l (.inl rfl) fun w' s3 I3 b=>⟨v,_,I3,b,q2⟩
theorem zp9 (ho:PE X o td)(he:PE X e ty)(hf:PE X f tx)(m:M2 X o "pop" apos e f cpos):PE X (.Call (.Attribute o "pop" apos) [e,f] [] cpos) (z08 td ty tx):=by
 intro pins s σ H Q I h
 refine wpAny_Call_method m.base m.few m.line jj kc mk (thn (ho pins s σ H _ I h) fun u s1 ⟨x,H1,I1,rx,a,ex,d,q1⟩=>?_)
 subst ex
 obtain rfl:u=Value.ref a:=rx
 obtain ⟨t1,t2,_⟩:=znk I1 d
 refine ⟨t1,t2,?_⟩
 rw [m.trees]
 refine Calls.callWith_builtin rfl (Calls.evalArgs_plain (Calls.spliced_cons (thn (he pins s1 σ H1 _ I1 q1) fun iv s2 ⟨y,H2,I2,ry,q2⟩ =>
  Calls.spliced_cons (thn (hf pins s2 σ H2 _ I2 q2) fun fv s3 ⟨z,H3,I3,rz,kvs,k,ea,ey,q3,q4⟩=>Calls.spliced_nil ?_))))
 subst ey
 cases l:zdi kvs k with
 | some v=>exact z1f I3 ea ry l (.inr ⟨fv,rfl⟩) fun w' s4 I4 b=>⟨v,_,I4,b,q3 v l⟩
 | none=>exact z0r I3 ea ry l fun s4 I4=>⟨z,H3,I4,rz,q4 l⟩
end
end L2
namespace L2
open PySem PySem.Spec PyProof.Rows
theorem zuu {ks:List Int}:∀ {us:List Value},us.length=ks.length->(∀ (j:Nat) (k:Int),ks[j]? = some k->∀ v:Value,us[j]? = some v->∃ t,v=Value.int k t)->IntsAre us ks:=by
 induction ks with
 | nil =>
  intro us hl _
  cases us with
  | nil=>exact .nil
  | cons _ _=>cases hl
 | cons k t ih =>
  intro us hl h
  cases us with
  | nil=>cases hl
  | cons u r =>
   obtain ⟨tk,rfl⟩:=h 0 k rfl u rfl
   exact .cons k tk (ih (by simpa using hl) fun j k' hk v hv=>h (j+1) k' hk v hv)
section
variable {P:Program} {w:World} {A:Around} {E:Value->Shared->Prop}
theorem zs2 {s:Shared}{a:Addr}{kvs:List (Key × Value)}{ks:List Int}{ep:Nat}{Q:List Value->Shared->Prop}(hh:A.handled=none)(lo:(a == sysModules)=false)(D:s.heap.DictAt (za7 P w) a kvs ep)(hk:kvs.map (·.1)=ks.map Sum.inl)(hn:ks.length<=1000)
  (q:∀ (h':Heap) (tk:Nat) (vs:List Value),(∀ b o,s.heap.get? b=some o->h'.get? b=some o)->s.heap.objs.size<=h'.objs.size->IntsAre vs ks->Q vs { s with heap:=h',toks:=tk }):wpAny (model P w) A (collect (.ref a)) Q E s:=by
 have hl:kvs.length=ks.length:=by
  have:=congrArg l9 hk
  simpa using this
 have la:a<s.heap.objs.size:=D.lt_size
 unfold collect
 refine wpAny_bind (wpAny_runValue (codeAny_builtin F.entry_proto_collect ?_))
 rw [im F.plain_proto_collect _]
 refine wpAny_bind (m:=newList []) (wpAny_newObj_type (wpAny_pure ⟨plainId_quiet F.plain_list_iadd _,codeAny_builtin F.entry_list_iadd ?_⟩))
 rw [im F.plain_list_iadd _]
 obtain ⟨H0,g⟩:∃ H0:Heap,H0=s.heap.push { cls:= .type "list",data:= .seq ([]:List Value).toArray }:=⟨_,rfl⟩
 have k0:∀ b o,s.heap.get? b=some o->H0.get? b=some o:=fun b o e=>by rw [g]; exact Heap.get?_push_of_some _ e
 have g0:H0.get? s.heap.objs.size=some { cls:= .type "list",data:= .seq #[] }:=by rw [g]; exact Heap.get?_push_size _ rfl
 show wpAny _ A.in1 (Builtin.List.listExtendWith (.ref s.heap.objs.size) (.ref a) (.ref s.heap.objs.size)) _ _ { s with heap:=s.heap.push _ }
 rw [<- g]
 have Kd:=o4 (prog:=P) (w:=w) (knd:=za7 P w) (kvs:=kvs) (ep:=ep) lo
 have D0:H0.DictAt (za7 P w) a kvs ep:=Kd.keep _ _ D fun b _ o e=>k0 b o e
 have h:∀ (h':Heap) (tk:Nat) (d:Array Value),(∀ b o,b≠s.heap.objs.size->H0.get? b=some o->h'.get? b=some o)->s.heap.objs.size<h'.objs.size->ItemsOf (fun i v=>∃ k x,kvs[i]? = some (k,x)/\(za7 P w).is k v=true) d kvs.length->Q d.toList { s with heap:=h',toks:=tk }:=fun h' tk d k1 z it=>by
  refine q h' tk d.toList (fun b o e=>k1 b o (i0 (i3 e)) (k0 b o e)) (ie z) (zuu (by rw [jb,it.1,hl]) fun j k hj v hv=>?_)
  obtain ⟨k',x,e1,e2⟩:=it.2 j v (by rw [<- Array.getElem?_toList]; exact hv)
  have e3:(kvs.map (·.1))[j]? = some k':=by rw [List.getElem?_map,e1]; rfl
  rw [hk,List.getElem?_map,hj] at e3
  cases e3
  exact lx e2
 have l:=PySem.W.kdl_extend (A:=A) (s:={ s with heap:=H0 }) (R:=fun r s'=>∃ h' tk d c,r = .ok (.ret (.ref s.heap.objs.size))/\s'={ s with heap:=h',toks:=tk }/\h'.get? s.heap.objs.size=some { cls:= .type "list",data:= .seq d c }/\Q d.toList { s with heap:=h',toks:=tk })
  Kd hh D0 s.heap.objs.size (jf la) (jf la) (.ref s.heap.objs.size) 0 g0 (fun h' tk d c k1 hS it=>⟨h',tk,d,c,rfl,rfl,hS,h h' tk d k1 (i3 hS) it⟩) (by rw [hl]; exact ie (zar hn))
 refine wpAny_mono l (fun f s' y=>?_) fun e s' y=>?_
 ·cases f with
  | done f =>
   obtain ⟨h',tk,d,c,e,rfl,hS,z⟩:=y
   cases e
   exact wpAny_bind (wpAny_load hS (wpAny_pure z))
  | again c1 =>
   refine ⟨y.1,codeAny_mono y.2 fun r s2 y2=>?_⟩
   obtain ⟨h',tk,d,c,rfl,rfl,hS,z⟩:=y2
   exact wpAny_bind (wpAny_load hS (wpAny_pure z))
 ·obtain ⟨_,_,_,_,e',_⟩:=y
  cases e'
theorem zwq {s:Shared}{a:Addr}{kvs:List (Key × Value)}{ks:List Int}{Q:Value->Shared->Prop}(hh:A.handled=none)(lo:(a == sysModules)=false)(D:s.heap.DictOf (za7 P w) a kvs)(hk:kvs.map (·.1)=ks.map Sum.inl)(hn:ks.length<64)
  (q:∀ (s':Shared) (r:Addr) (vs:List Value) (ns:List Int),(∀ b o,s.heap.get? b=some o->s'.heap.get? b=some o)->s'.gens=s.gens->s'.os=s.os->s.heap.objs.size<=r ->
   (∃ e,s'.heap.get? r=some (seqObj "list" vs.toArray e))->IntsAre vs ns->ns.Perm ks->ns.Pairwise (· <= ·)->Q (.ref r) s') :
  wpAny (model P w) A (call (.builtin "sorted") [.ref a]) Q E s:=by
 have hl:kvs.length=ks.length:=by
  have:=congrArg l9 hk
  simpa using this
 obtain ⟨ep,i⟩:=D.dictAt
 refine Calls.call_function_entry kind_sorted plain_sorted entry_sorted (args_sorted1 _) ?_
 unfold Builtin.«sorted»
 refine wpAny_bind (m:=checkCount "sorted" 1 1 _) (wpAny_pure ?_)
 refine wpAny_bind (zs2 (by exact hh) lo i hk (by omega) fun h' tk c k1 z0 hi=>?_)
 have g:c.length<64:=by
  have e1:=hi.length
  omega
 refine wpAny_bind (wpAny_newList (hsz:=gy (ie g) (by decide)) ?_)
 have f:(h'.push (seqObj "list" c.toArray 0)).get? h'.objs.size=some (seqObj "list" c.toArray 0):=Heap.get?_push_size _ rfl
 show wpAny _ _ _ _ _ { s with heap:=h'.push (seqObj "list" c.toArray 0),toks:=tk }
 refine wpAny_bind (wpAny_holding (wpAny_call_entry slot_list_sort ⟨_,f,rfl⟩ entry_list_sort (list_sort_tree f hi g fun out h a1 a2 a3=>⟨_,rfl,?_⟩) (args_list_sort _)))
 obtain ⟨H1,d⟩:∃ H1,H1=h'.push (seqObj "list" c.toArray 0):=⟨_,rfl⟩
 have z2:H1.objs.size=h'.objs.size+1:=by rw [d]; exact size_push' _ _
 have kk:∀ b o,h'.get? b=some o->(sortedHeap H1 h'.objs.size c out).get? b=some o:=fun b o e=>by
  rw [sortedHeap_old (i0 (i3 e)) (by rw [z2]; exact jc (i3 e)),d]
  exact Heap.get?_push_of_some _ e
 have ka:∃ e,(sortedHeap H1 h'.objs.size c out).get? h'.objs.size=some (seqObj "list" out e):=sortedHeap_at (n:=0) (by rw [d]; exact f)
 rw [<- d]
 generalize sortedHeap H1 h'.objs.size c out=H2 at kk ka |-
 refine wpAny_pure ⟨_,rfl,q _ _ out.toList h (fun b o e=>?_) rfl rfl ?_ ?_ a1 a2 a3⟩
 ·exact kk _ _ (k1 _ _ e)
 ·exact z0
 ·exact ka
end
section
variable {X:Cx}
theorem zea (hc:X.calm=true):zit X (.builtin "sorted") (fun xs H Q=>∃ (p:Addr) (kvs:List (Key × V)) (ks:List Int),xs=[.ref p]/\H p=some (.dK kvs)/\kvs.map (·.1)=ks.map Sum.inl/\ks.length<64/\∀ l,H l=none->Q (.ref l) (upd H l (.lst ((zau ks).map V.int)))):=by
 intro pins s σ H xs us Q I r h
 obtain ⟨p,kvs,ks,rfl,hq,hk,hl,q⟩:=h
 obtain ⟨u,rfl,ru⟩:=zhm r
 cases (show u=Value.ref p from ru)
 obtain ⟨_,lo,vs,kv,dd⟩:=zoo I.hok hq
 refine zwq (I.ok.hd hc) lo dd (kv.keys.symm.trans hk) hl fun s' l us ns k1 g1 o1 z1 a hi hp hs=>?_
 obtain ⟨e,he⟩:=a
 have e2:=ziv hp hs
 subst e2
 have fr:H l=none:=I.hok.fresh z1
 refine ⟨.ref l,upd H l (.lst ((zau ks).map V.int)),I.call' (ch:=[]) o1 (Un.laid k1 z1 fr) ?_ (by rw [g1]; exact I.bare) (fun b hb=>absurd hb (by simp)),rfl,q _ fr⟩
 refine I.hok.laid k1 z1 ⟨by rw [gf,zbi]; exact gy (ie hl) (by decide),us,e,zdq hi,he⟩
end
structure zu2 (K:W.Frag)(C:Addr)(m qual:Str)(st:Stmt)(ps:List Str) where
 f:Addr
 c:Addr
 P:Addr
 fd:FuncData
 ex:∃ (oc:Value) (od:Option Addr) (kV doc pm:Value) (an:Option Addr) (ct:Value) (osl:Array (Option Value)),
  fd=PySem.W.fnOf m qual (zcg st) (zbj st) (zai st) .none kV doc pm an (.ref c) ct/\K.lookup f=some ⟨oc,od,.func fd,osl⟩
 cd:PySem.W.codeIn K (.ref c) qual=true
 ch:PySem.W.codeHdIn K c P=true
 nt:K.lookup P=none
 me:z0i K C m f
 b:zcq K fd ps []
section
variable {P:Program} {w:World} {K:W.Frag} {mg:Str->Option Value} {base:Heap}
theorem zu2.ok {C:Addr}{m qual:Str}{st:Stmt}{N ps fz:List Str}{k:Nat}{sp:Sp}(D:zu2 K C m qual st ps)(hK:K.In base)(S:zam N ps (zai st))(hfz:∀ x∈fz,(zai st).names.lookup x=some .cell)(len:∀ vs H Q E,sp vs H Q E->vs.length=ps.length)
  (hbody:∀ (A:Around) (outer:List Env) (s:Shared) (H:Hp) (vs:List V) (Q:VK) (E:XK),zej k (A.deeper (envOfC qual (zai st) s.heap.objs.size D.f (.ref D.c)))->sp vs H Q E ->
   ∀ H1:Hp,zax H H1->(∀ (i:Nat) y v,y∈fz->ps[i]? = some y->vs[i]? = some v->∃ c,(envOfC qual (zai st) s.heap.objs.size D.f (.ref D.c)).cells.lookup y=some c/\zf4 H1 c v)->PySem.W.CodeHd base D.c D.P ->
   ∃ t,PSs (zq1 CX0 P w K mg base N qual (zai st) D.f (.ref D.c) A outer s H E (fun y=> !fz.contains y)).nox (zbj st) t/\t { nx:=fun _ H'=>Q .non H',rt:=Q } (start N vs) H1) :
  zdm P w K mg base CX0 (k+1) D.f D.fd ps sp:=by
 have hC:=ly hK D.ch
 obtain ⟨f,c,T,fd,⟨oc,od,kV,doc,pm,an,ct,osl,rfl,lk⟩,cd,ch,nt,me,b⟩:=D
 exact zxh lk cd S hfz len fun A outer s H vs Q E hr a H1 sm hc=>hbody A outer s H vs Q E hr a H1 sm hc hC
end
def z3k (a:Addr)(o:Obj)(kvs:List (Key × V)):It :=
 ⟨fun i H=>H a=some (.frz o (.dK kvs))/\i<kvs.length,fun i H x H'=>H'=H/\∃ kv,kvs[i]? = some kv/\x=kV kv.1,fun i H=>H a=some (.frz o (.dK kvs))/\kvs.length<=i⟩
theorem ztr {P:Program}{w:World}{K:W.Frag}{tg:Expr}{a it:Addr}{o:Obj}{kvs:List (Key × V)}{vs:List (Key × Value)}{ep:Nat}(rel:KV kvs vs)(hat:∀ h:Heap,h.get? a=some o->h.DictAt (za7 P w) a vs ep) :
  z1x P w K tg (z3k a o kvs) [it] it (fun i h=>h.IsKeyIter it a i vs.length ep) where
 mem:=by simp
 obj:=fun i h st b hb=>by
  have e:b=it:=by simpa using hb
  subst e
  obtain ⟨o,e,c,d⟩:=st
  exact ⟨o,e,fun v z=>by rw [d] at z; cases z⟩
 keep:=fun i h h' st k=>by
  obtain ⟨o,e,c,d⟩:=st
  exact ⟨o,k it (by simp) o e,c,d⟩
 item:=by
  intro X hP hw hK hc i pins s σ H E I hf st hg
  subst hP hw hK
  obtain ⟨hz,r⟩:=hg
  obtain ⟨f0,f1,f2,f3,f4,f5⟩:=hf it (by simp)
  obtain ⟨ho,_⟩:=I.hok a _ hz
  have g:=rel.length
  obtain ⟨⟨k,x⟩,hx⟩:∃ p,vs[i]? = some p:=⟨vs[i],by simp⟩
  obtain ⟨⟨k',x'⟩,q⟩:∃ p,kvs[i]? = some p:=⟨kvs[i],by simp⟩
  have ek:k'=k:=by
   have e1:=congrArg (fun l=>l[i]?) rel.keys
   simp only [List.getElem?_map,hx,q,lh] at e1
   exact Option.some.inj e1
  refine wpAny_pyNext_dict_item st (hat _ ho) hx fun f h' n m sb=>?_
  have I1:Inv X pins σ H { s with heap:=h' }:=I.turned (t':=s.toks) (fun b o hb e=>(sb.2 b hb).trans e) f0 f1 f3 f4 f5
  obtain ⟨o',e,c,d⟩:=id m
  have rk:zbs (kV k') f:=by
   rw [ek]
   rcases zbo n with ⟨j,t,rfl,rfl⟩ | ⟨y,t,rfl,rfl⟩
   ·exact ⟨t,rfl⟩
   ·exact ⟨t,rfl⟩
  exact ⟨f,rfl,zyf (s:={ s with heap:=h' }) e c d (by decide) ⟨kV k',H,I1,rk,⟨rfl,_,q,rfl⟩,m,fun b hb=>(hf b hb).1⟩⟩
 done:=by
  intro X hP hw hK hc i pins s σ H E I hf st hg
  subst hP hw hK
  obtain ⟨hz,u⟩:=hg
  obtain ⟨f0,f1,f2,f3,f4,f5⟩:=hf it (by simp)
  obtain ⟨ho,_⟩:=I.hok a _ hz
  have g:=rel.length
  exact wpAny_pyNext_dict_end (I.ok.hd hc) st (hat _ ho) (by simp; omega) fun h' eb=>⟨rfl,I.turned (t':=s.toks) (fun b o hb e=>eb b o hb e) f0 f1 f3 f4 f5⟩
 self:=fun _ _ _ _ _ st h=>wpAny_pyIter_keyiter st h
theorem Inv.ice {X:Cx}{pins:List (Addr × Obj)}{σ:St}{H:Hp}{s:Shared}{a:Addr}{kvs:List (Key × V)}(I:Inv X pins σ H s)(e:H a=some (.dK kvs)):∃ o,s.heap.get? a=some o/\Inv X pins σ (upd H a (.frz o (.dK kvs))) s:=by
 obtain ⟨z1,z2,vs,g,dd⟩:=zoo I.hok e
 obtain ⟨o,es,ep,ho,r⟩:=id dd
 refine ⟨o,ho,I.ok,I.os,I.bare,⟨I.base.keep,I.base.slot,fun b u q n hx=>?_,I.base.there,fun b xs q=>?_,fun b u k q=>?_,fun b ps q=>?_⟩,I.loc,I.cell,?_,fun y c q=>?_,fun p hp=>?_,fun b u q=>?_,I.len⟩
 ·have z:=I.base.free b u q n hx
  rw [zab (fun y=>by rw [y,e] at z; cases z)]
  exact z
 ·have z:=I.base.tups b xs q
  rw [zab (fun y=>by rw [y,e] at z; cases z)]
  exact z
 ·have z:=I.base.frzs b u k q
  rw [zab (fun y=>by rw [y,e] at z; cases z)]
  exact z
 ·obtain ⟨m,z⟩:=I.base.tbls b ps q
  exact ⟨m,by rw [zab (fun y=>by rw [y,e] at z; cases z)]; exact z⟩
 ·rw [zab (fun y=>by have z:=I.free; rw [y,e] at z; cases z)]
  exact I.free
 ·have z:=I.freeC y c q
  have f:c≠a:=fun y=>by
   rcases z.2 with w | ⟨_,_,w⟩
   ·rw [y,e] at w; cases w
   ·rw [y,e] at w; cases w
  rw [zab f]
  exact z
 ·obtain ⟨q,n,r⟩:=I.pin p hp
  refine ⟨q,?_,r⟩
  rw [zab (fun y=>by rw [y,e] at n; cases n)]
  exact n
 ·have own:∀ d x,H d=some (.own x)->upd H a (.frz o (.dK kvs)) d=some (.own x):=fun d x w=>by
   rw [zab (fun y=>by rw [y,e] at w; cases w)]
   exact w
  have tup:∀ d xs,H d=some (.tup xs)->upd H a (.frz o (.dK kvs)) d=some (.tup xs):=fun d x w=>by
   rw [zab (fun y=>by rw [y,e] at w; cases w)]
   exact w
  by_cases hb:b=a
  ·subst hb
   rw [zad] at q
   cases q
   exact ⟨ho,(I.hok b _ e).stay (fun _ _ _ q=>q) (fun d q=>own d _ q) fun d xs q=>tup d xs q⟩
  ·rw [zab hb] at q
   exact (I.hok b u q).stay (fun _ _ _ q=>q) (fun d q=>own d _ q) fun d xs q=>tup d xs q
def z3m (td:TE):TI:=fun σ H R=>td σ H fun x H1=>∃ a kvs,x = .ref a/\Rd H1 a (.dK kvs)/\∀ o H2,H2 a=some (.frz o (.dK kvs))->(∀ b,b≠a->H2 b=H1 b)->(∀ ob u,H1 a=some (.frz ob u)->H2 a=H1 a)->R (z3k a o kvs) H2
theorem zx6 {X:Cx}{tg l:Expr}{tl:TE}(hl:PE X l tl):PI X tg l (z3m tl):=by
 intro pins s σ H R I h
 refine thn (hl pins s σ H _ I h) fun v s1 ⟨x,H1,I1,r1,q1⟩=>?_
 obtain ⟨a,kvs,e,hr,q⟩:=q1
 subst e
 cases r1
 obtain ⟨o,H2,I2,hz,he,hi⟩:∃ o H2,Inv X pins σ H2 s1/\H2 a=some (.frz o (.dK kvs))/\(∀ b,b≠a->H2 b=H1 b)/\∀ ob u,H1 a=some (.frz ob u)->H2 a=H1 a:=by
  rcases hr with z | ⟨o,z⟩
  ·obtain ⟨o,ho,I2⟩:=I1.ice z
   exact ⟨o,_,I2,zad,fun b hb=>zab hb,fun ob u y=>by rw [z] at y; cases y⟩
  ·exact ⟨o,H1,I1,z,fun _ _=>rfl,fun _ _ _=>rfl⟩
 obtain ⟨ho,z1,z2,vs,f,dd⟩:=(show zcl X.prog X.w H2 s1.heap a (.frz o (.dK kvs)) from I2.hok a _ hz)
 obtain ⟨ep,d⟩:=dd.dictAt
 have c:∀ h:Heap,h.get? a=some o->h.DictAt (za7 X.prog X.w) a vs ep:=fun h e=>by
  obtain ⟨o',es,e',r⟩:=id d
  rw [ho] at e'
  cases e'
  exact ⟨o,es,e,r⟩
 refine wpAny_pyIter_dict z2 d ?_
 refine ⟨s1.heap.objs.size,[s1.heap.objs.size],_,_,H2,rfl,I2.kept (t':=s1.toks) fun b o e=>Heap.get?_push_of_some _ e,ztr f c,⟨_,Heap.get?_push_size _ rfl,rfl,rfl⟩,fun b hb=>?_,q o H2 hz he hi⟩
 have e:b=s1.heap.objs.size:=by simpa using hb
 subst e
 exact I2.fpOk (gv _) (I2.hok.fresh (gv _))
def DEq (K:W.Frag)(H:Hp)(x y:V):Prop:=∃ d e:PyData,DV K H d x/\DV K H e y/\d.canLay0=true/\e.canLay0=true/\d.depth<=60/\PyData.eqv d e=true
def z0o (K:W.Frag)(neg:Bool):R2:=fun x y H Q=>∃ (a b:Addr) (ka kb:List (Key × V)),x = .ref a/\y = .ref b/\Rd H a (.dK ka)/\Rd H b (.dK kb)/\ka.length=kb.length/\(∀ p∈ka,∃ y,zdi kb p.1=some y/\DEq K H p.2 y)/\Q (.bl (!neg)) H
theorem ztm {X:Cx}{pins:List (Addr × Obj)}{σ:St}{H:Hp}{s:Shared}{A:Around}(I:Inv X pins σ H s)(hu:A.units+62<cLine){kb:List (Key × V)}{vb:List (Key × Value)}(rb:KV kb vb) :
  ∀ {ka:List (Key × V)} {va:List (Key × Value)},KV ka va->(∀ p∈ka,∃ y,zdi kb p.1=some y/\DEq X.K H p.2 y)->PySem.W.KeqHits A.in1 s vb va true
 | [],_,.nil,_=> .nil
 | (k,v) :: r,_,.cons (b:=(k',u)) ⟨e,rv⟩ t,h=>by
  have e:k=k':=e
  subst e
  obtain ⟨y,hy,d,e,h1,h2,c1,c2,hd,he⟩:=h (k,v) (gj ..)
  have z:=rb.val k
  have hy:zdi kb k=some y:=hy
  rw [hy] at z
  cases q:valueAt vb k with
  | none=>rw [q] at z; exact False.elim z
  | some u' =>
   rw [q] at z
   have z:zbs y u':=z
   obtain ⟨as,ra⟩:=I.reads d v u h1 rv
   obtain ⟨bs,rb'⟩:=I.reads e y u' h2 z
   have k1:=SeqAt.eqAt_reads d e A.in1 s u u' as bs ra rb' c1 c2 (by
    have:=Nat.min_le_left d.depth e.depth
    rw [Around.in1_units]
    omega)
   rw [he] at k1
   exact PySem.W.KeqHits.hit (e:=true) (b:=true) q k1 (ztm I hu rb t fun p hp=>h p (gc _ hp))
theorem zx2 {X:Cx}(hu:X.A.units+64<cLine):OpR X (compareOp .NotEq) (z0o X.K true):=by
 intro pins s σ H x y v u Q I rx ry h
 obtain ⟨a,b,ka,kb,rfl,rfl,ha,hb,hl,hp,q⟩:=h
 cases (show v=Value.ref a from rx)
 cases (show u=Value.ref b from ry)
 obtain ⟨_,za,va,ra,da⟩:=zkz I.hok ha
 obtain ⟨_,zb,vb,rb,db⟩:=zkz I.hok hb
 have l1:=ra.length
 have l2:=rb.length
 have e:(va.length == vb.length && true)=true:=by simp; omega
 refine PySem.W.keq_ne za zb da db (by omega) (fun _=>ztm I (by omega) rb ra hp) ⟨.bl false,H,I,?_,q⟩
 rw [e]
 rfl
def z1d (td ty tx:TE):TE:=fun σ H Q=>td σ H fun x H1=>∃ a,x = .ref a/\IsD H1 a/\ty σ H1 fun y H2=>tx σ H2 fun z H3=>∃ kvs k,H3 a=some (.dK kvs)/\y=kV k/\kvs.length<sizeLine /\
 (∀ v,zdi kvs k=some v->Q v H3)/\(zdi kvs k=none->Q z (upd H3 a (.dK (zd6 kvs k z))))
theorem zqo {X:Cx}{o e f:Expr}{apos cpos:Pos}{td ty tx:TE}(ho:PE X o td)(he:PE X e ty)(hf:PE X f tx)(m:M2 X o "setdefault" apos e f cpos):PE X (.Call (.Attribute o "setdefault" apos) [e,f] [] cpos) (z1d td ty tx):=by
 intro pins s σ H Q I h
 refine wpAny_Call_method m.base m.few m.line jj PySem.F.slot_dict_setdefault PySem.F.type_dict_setdefault (thn (ho pins s σ H _ I h) fun u s1 ⟨x,H1,I1,rx,a,ex,d,q1⟩=>?_)
 subst ex
 obtain rfl:u=Value.ref a:=rx
 obtain ⟨t1,t2,_⟩:=znk I1 d
 refine ⟨t1,t2,?_⟩
 rw [m.trees]
 refine Calls.callWith_builtin rfl (Calls.evalArgs_plain (Calls.spliced_cons (thn (he pins s1 σ H1 _ I1 q1) fun iv s2 ⟨y,H2,I2,ry,q2⟩ =>
  Calls.spliced_cons (thn (hf pins s2 σ H2 _ I2 q2) fun fv s3 ⟨z,H3,I3,rz,kvs,k,ea,ey,hl,q3,q4⟩=>Calls.spliced_nil ?_))))
 subst ey
 obtain ⟨zz,hd,vs,b,dd⟩:=zoo I3.hok ea
 refine call_meetsIn PySem.F.slot_dict_setdefault dd.typeIs PySem.F.entry_dict_setdefault (PySem.F.args_dict_setdefault_3 _ _ _) (kt_meets_setdefault (za7 X.prog X.w) a (zi9 ry) hd fv) ⟨vs,dd,by rw [<- b.length]; exact zz,fun v hv=>?_,fun hn h' c hs=>?_⟩
 ·have r:=b.val k
  rw [hv] at r
  cases l:zdi kvs k with
  | none=>rw [l] at r; exact False.elim r
  | some v'=>rw [l] at r; exact ⟨v',H3,I3.tok _,r,q3 v' l⟩
 ·have l:zdi kvs k=none:=by
   have r:=b.val k
   rw [hn] at r
   cases l:zdi kvs k with
   | none=>rfl
   | some v'=>rw [l] at r; exact False.elim r
  have he:∃ q,h'.get? a=some q:=let ⟨q,_,_,hq,_⟩:=c; ⟨q,hq⟩
  have g:(zd6 kvs k z).length<=sizeLine:=by have:=ze4 kvs k z; omega
  exact ⟨z,_,zjm I3 (by rw [ea]; exact True.intro) hs he (zqw g hd (b.put k rz) c),rz,q4 l⟩
theorem Inv.thaw {X:Cx}{pins:List (Addr × Obj)}{σ:St}{H:Hp}{s:Shared}{a:Addr}{o:Obj}{kvs:List (Key × V)}(I:Inv X pins σ H s)(e:H a=some (.frz o (.dK kvs)))(h0:∀ ob u,X.H₀ a≠some (.frz ob u)):Inv X pins σ (upd H a (.dK kvs)) s:=by
 obtain ⟨ho,hd⟩:=(show zcl X.prog X.w H s.heap a (.frz o (.dK kvs)) from I.hok a _ e)
 obtain ⟨z1,z2,vs,l,dd⟩:=id hd
 obtain ⟨oo,es,ep,j,_,i,_⟩:=id dd
 have f:∀ y c,X.env.cells.lookup y=some c->c≠a:=fun y c q z=>by
  obtain ⟨v,oc,g,h⟩:=I.cell y c q
  rw [z,j] at g
  cases g
  rw [i] at h
  cases h
 refine ⟨I.ok,I.os,I.bare,⟨I.base.keep,I.base.slot,fun b u q n hx=>?_,I.base.there,fun b xs q=>?_,fun b u k q=>?_,fun b ps q=>?_⟩,I.loc,I.cell,?_,fun y c q=>?_,fun p hp=>?_,fun b u q=>?_,I.len⟩
 ·have z:=I.base.free b u q n hx
  rw [zab (fun y=>by rw [y,e] at z; cases z)]
  exact z
 ·have z:=I.base.tups b xs q
  rw [zab (fun y=>by rw [y,e] at z; cases z)]
  exact z
 ·have z:=I.base.frzs b u k q
  rw [zab (fun y=>h0 _ _ (y ▸ q))]
  exact z
 ·obtain ⟨m,z⟩:=I.base.tbls b ps q
  exact ⟨m,by rw [zab (fun y=>by rw [y,e] at z; cases z)]; exact z⟩
 ·rw [zab (fun y=>by have z:=I.free; rw [y,e] at z; cases z)]
  exact I.free
 ·rw [zab (f y c q)]
  exact I.freeC y c q
 ·obtain ⟨q,n,r⟩:=I.pin p hp
  refine ⟨q,?_,r⟩
  rw [zab (fun y=>by rw [y,e] at n; cases n)]
  exact n
 ·have own:∀ d x,H d=some (.own x)->upd H a (.dK kvs) d=some (.own x):=fun d x w=>by
   rw [zab (fun y=>by rw [y,e] at w; cases w)]
   exact w
  have tup:∀ d xs,H d=some (.tup xs)->upd H a (.dK kvs) d=some (.tup xs):=fun d x w=>by
   rw [zab (fun y=>by rw [y,e] at w; cases w)]
   exact w
  by_cases hb:b=a
  ·subst hb
   rw [zad] at q
   cases q
   exact zcl.stay (H:=H) hd (fun _ _ _ q=>q) (fun d q=>own d _ q) fun d xs q=>tup d xs q
  ·rw [zab hb] at q
   exact (I.hok b u q).stay (fun _ _ _ q=>q) (fun d q=>own d _ q) fun d xs q=>tup d xs q
theorem zyc {X:Cx}{e:Expr}{t:TE}{H0:Hp}(hH:X.H₀=H0)(h:PE X e t):PE X e (fun σ H Q=>t σ H fun v H1=>∃ a kvs o,H1 a=some (.frz o (.dK kvs))/\(∀ ob u,H0 a≠some (.frz ob u))/\Q v (upd H1 a (.dK kvs))):=by
 intro pins s σ H Q I hw
 refine thn (h pins s σ H _ I hw) fun v s1 ⟨x,H1,I1,r1,a,kvs,o,e1,e2,q⟩=>?_
 subst hH
 exact ⟨x,_,I1.thaw e1 e2,r1,q⟩
theorem zs1 {a D:Addr}{o:Obj}{kvs:List (Key × V)}{ns:List Int}{tc:TT}{Q:VK}{σr:St}{H:Hp}(p:Int->Bool)(hk:kvs.map (·.1)=ns.map Sum.inl)(hD:H D=none)(ha:H a=some (.frz o (.dK kvs)))(hlen:ns.length<=1000)
  (ht:∀ x∈ns,∀ H' (Qt:Bool->Hp->Prop),zax H H'->(∀ H'',zax H' H''->Qt (p x) H'')->tc (some (.int x) :: σr) H' Qt)
  (hq:∀ H',zax H H'->H' D=some (.lst ((ns.filter p).map V.int))->Q (.ref D) H') :
  zuf (z3k a o kvs) (znn 0) tc (zu5 0) Q D (none :: σr) (upd H D (.lst [])):=by
 have hl:kvs.length=ns.length:=by
  have:=congrArg l9 hk
  simpa using this
 refine ⟨fun i m σ H'=>m=ns.length - i/\i<=ns.length/\∃ v,σ=v :: σr/\zax H H'/\H' D=some (.lst (((ns.take i).filter p).map V.int)),⟨ns.length,by simp,ix _,none,rfl,zax.new H hD,zad⟩,?_⟩
 rintro i m σ H' ⟨rfl,hi,v,rfl,s,hd⟩
 by_cases b:i<ns.length
 ·refine .inr ⟨⟨s _ _ ha,by omega⟩,fun σ' H''=>i+1<=ns.length/\∃ v,σ'=v :: σr/\zax H H''/\H'' D=some (.lst (((ns.take (i+1)).filter p).map V.int)),fun σ' H'' z=>⟨ns.length - (i+1),by omega,rfl,z⟩,fun x H'' y=>?_⟩
  obtain ⟨rfl,kv,d,rfl⟩:=y
  have ek:kv.1=Sum.inl ns[i]:=by
   have e1:=congrArg (fun l=>l[i]?) hk
   simp only [List.getElem?_map,d,lh] at e1
   rw [List.getElem?_eq_getElem b] at e1
   exact Option.some.inj e1
  have et:ns.take (i+1)=ns.take i++[ns[i]]:=by rw [ik b]
  rw [ek]
  show znn 0 (V.int ns[i]) _ _ _
  refine ht ns[i] (kx b) H'' _ s fun H3 s2=>?_
  have c:=s2 _ _ hd
  by_cases hp:p ns[i]=true
  ·rw [if_pos hp]
   refine ⟨_,rfl,_,c,?_,⟨by omega,_,rfl,(s.trans s2).put hD,?_⟩⟩
   ·rw [gf]
    have:=ib p (ns.take i)
    rw [i5] at this
    exact zar (by omega)
   ·rw [zad,et,io,i9]
    simp [hp]
  ·rw [if_neg hp]
   refine ⟨by omega,_,rfl,s.trans s2,?_⟩
   rw [c,et,io]
   simp [hp]
 ·have e:i=ns.length:=by omega
  subst e
  rw [i6] at hd
  exact .inl ⟨⟨s _ _ ha,by omega⟩,hq H' s hd⟩
theorem zue {X:Cx}{K:W.Frag}{pos:Pos}{es:List Expr}{k:Nat}{t:TGs}{n:Nat}(hK:X.K=K)(hc:X.calm=true)(h:PGs X es t)
  (hn:(assignEach es X.env).length=n:=by rfl)(hst:(assignEach es X.env).findIdx? (·.1)=none:=by rfl):PG X (.Tuple es k pos) (z39 K n t):=hK ▸ zjg hc h hn hst
section
variable {X:Cx}
theorem zrg (hc:X.calm=true):zit X (.type "list") (fun xs H Q=>∃ (p:Addr) (kvs:List (Key × V)) (ks:List Int),xs=[.ref p]/\H p=some (.dK kvs)/\kvs.map (·.1)=ks.map Sum.inl/\ks.length<=1000/\∀ l,H l=none->Q (.ref l) (upd H l (.lst (ks.map V.int)))):=by
 intro pins s σ H xs us Q I r h
 obtain ⟨p,kvs,ks,rfl,hq,hk,hl,q⟩:=h
 obtain ⟨u,rfl,ru⟩:=zhm r
 cases (show u=Value.ref p from ru)
 obtain ⟨_,lo,vs,kv,dd⟩:=zoo I.hok hq
 obtain ⟨ep,e⟩:=dd.dictAt
 have d:vs.map (·.1)=ks.map Sum.inl:=kv.keys.symm.trans hk
 have a:vs.length=ks.length:=by
  have:=congrArg l9 d
  simpa using this
 refine PySem.W.kdl_call (o4 lo) (I.ok.hd hc) e (by rw [a]; exact ie (zar hl)) fun h' tk b c k1 hD it=>?_
 have hi:IntsAre b.toList ks:=zuu (by rw [jb,it.1,a]) fun j k hj v hv=>by
  obtain ⟨k',x,e1,e2⟩:=it.2 j v (by rw [<- Array.getElem?_toList]; exact hv)
  have e3:(vs.map (·.1))[j]? = some k':=by rw [List.getElem?_map,e1]; rfl
  rw [d,List.getElem?_map,hj] at e3
  cases e3
  exact lx e2
 refine ⟨.ref s.heap.objs.size,_,I.laid (t':=tk) k1 (gv _) (show zcl X.prog X.w _ h' _ (.lst (ks.map V.int)) from ⟨by rw [gf]; exact ie (zar hl),b.toList,c,zdq hi,by simpa using hD⟩),rfl,q _ (I.hok.fresh (gv _))⟩
end
def z2s (_ j:Int):Prop:=0<j/\j<=2 ^ 60
theorem zct {X:Cx}:OpR X (binaryOp .FloorDiv) (rI z2s fun i j=> .int (i / j)):=opI fun i j _ _ _ _ _ hc q=>by
 have h1:(0:Int)<j:=hc.1
 have h2:j<=2 ^ 60:=hc.2
 refine floordiv_int (by omega) (by rw [Int.fdiv_eq_ediv_of_nonneg i (by omega)]; exact q) (.inl (PyProof.noPylong_of_log2 ?_))
 have h3:j.natAbs<2 ^ 61:=by omega
 exact mi ((Nat.log2_lt (by omega)).mpr h3) (by decide)
theorem oL {α:Sort _}{a:α}{p:Prop}:a=a\/p:= .inl rfl
section
variable {X:Cx} {k k':Nat} {C:Addr} {st:Stmt} {ps:List Str} {sp:Sp} {x m q:Str} {p pos apos:Pos} {e o:Expr} {es:List Expr} {ta:TE} {t:TA}
theorem pmD {pl:Sem Bool}(he:PE X o ta)(c:Cls X.K C)(D:DfM X.K C m q st ps)(F:zdm X.prog X.w X.K X.mg X.base CX0 k D.f D.fd ps sp)(hr:zej k' X.A)(ha:PA X (e :: es) t)(hk:k<=k':=by decide)
  (hst:starEach (e :: es) X.env=(false,eval e X.env) :: starEach es X.env:=by rfl)(hpl:(backTo pos (starEach es X.env)).any (·.1)=false:=by rfl)
  (ht:eval (.Call (.Attribute o m apos) (e :: es) [] pos) X.env=(do
   let ov <- eval o X.env
   standAt apos.atName
   let (f,first) <- holding [ov] (getMethod ov m pl)
   callWith pos f first (backTo pos (starEach (e :: es) X.env)) (backToKw pos (keywordEach [] X.env))):=by rfl) :
  PE X (.Call (.Attribute o m apos) (e :: es) [] pos) (zyp C m sp [] E0 ta t):=zed he c D.me F (hr.mono hk) D.b .nil zcb ha hst hpl ht
theorem pfD (D:Df X.K X.mg x st ps)(F:zdm X.prog X.w X.K X.mg X.base CX0 k D.f D.fd ps sp)(hr:zej k' X.A)(hg:Gl X x)(ha:PA X (e :: es) t)(hk:k<=k':=by decide)(hdb:(x == ("__debug__" : Str))=false:=by decide)
  (he:starEach (e :: es) X.env=(false,eval e X.env) :: starEach es X.env:=by rfl)(hpl:(backTo pos (starEach es X.env)).any (·.1)=false:=by rfl):PE X (.Call (.Name x p) (e :: es) [] pos) (zt1 sp [] E0 t):=zh0 F (hr.mono hk) hg D.hm D.fn.kp D.b .nil zcb ha hdb he hpl
end
structure zv3 (K:W.Frag)(C:Addr)(m:Str)(f:Addr):Prop where
 sg:PySem.W.specialIn K (.ref C) "__getattribute__" = some (some (.builtin "type.__getattribute__"))
 rd:PySem.W.readsIn K C (.type "type")=true
 fc:PySem.W.findCls K (.ref C) (.type "type") m=some (.val (.ref f))
 kp:PySem.W.keepIn K (.ref f)=true
section
variable {X:Cx} {CX:CXT} {k:Nat} {f C:Addr} {fd:FuncData} {ps:List Str} {sp:Sp} {dvs:List V} {ds:List Value} {E:XK} {x m:Str} {p pos apos:Pos} {e:Expr} {es:List Expr} {t:TA}
theorem zu_ {pl:Sem Bool}(hg:Gl X x)(hm:X.mg x=some (.ref C))(hM:zv3 X.K C m f)(F:zdm X.prog X.w X.K X.mg X.base CX k f fd ps sp)(hr:zej k X.A)(hb:zcq X.K fd ps ds)(hd:zb3 dvs ds)(hx:zh6 CX X E)(ha:PA X (e :: es) t)
  (hdb:(x == ("__debug__" : Str))=false:=by decide)(hst:starEach (e :: es) X.env=(false,eval e X.env) :: starEach es X.env:=by rfl)(hpl:(backTo pos (starEach es X.env)).any (·.1)=false:=by rfl)
  (ht:eval (.Call (.Attribute (.Name x p) m apos) (e :: es) [] pos) X.env=(do
   let ov <- eval (.Name x p) X.env
   standAt apos.atName
   let (f,first) <- holding [ov] (getMethod ov m pl)
   callWith pos f first (backTo pos (starEach (e :: es) X.env)) (backToKw pos (keywordEach [] X.env))):=by rfl) :
  PE X (.Call (.Attribute (.Name x p) m apos) (e :: es) [] pos) (zt1 sp dvs E t):=by
 intro pins s σ H Q I h
 refine lm (pl:=pl) (thn (zzs (v:= .ref C) hg hm rfl hdb pins s σ H (fun v H'=>v = .ref C/\H'=H) I ⟨rfl,rfl⟩) fun u s1 ⟨y,H1,I1,ry,e1,e2⟩=>?_) ht
 subst e1 e2
 obtain rfl:u=Value.ref C:=ry
 refine PySem.W.method_cls I1.kIn hM.sg (PySem.W.cls_value I1.kIn hM.rd hM.fc rfl ?_)
 refine lq (first:=[]) (h₀:=X.base) I.ok.mod.kin hM.kp (thn (ha pos pins _ σ _ _ (I1.tok (s1.toks+1)) h) fun us s2 ⟨vs,H2,I2,r,q2⟩=>⟨I2.kIn,?_⟩) hst hpl
 exact znf (us:=us) (vs:=vs) F hr hb hd hx I2 r q2
end
theorem zrl (a v d:Value):argsOk "max" ⟨[a],[(Str.ofString "key",v),(Str.ofString "default",d)]⟩:=by unfold argsOk; kernel_rfl
def zo0 (kf:Nat->Int):Option (Nat × Value × Tok)->Array Value
 | none=> #[]
 | some (i,vb,tb)=> #[vb,.int (kf i) tb]
theorem zhp {kf:Nat->Int}:∀ {b:Option (Nat × Value × Tok)},(zo0 kf b).size<=sizeLine
 | none=>ix _
 | some (_,_,_)=>by
  show 2<=sizeLine
  rw [sizeLine_eq]
  decide
section
variable {X:Cx} {pins:List (Addr × Obj)} {σ:St} {H:Hp} {p f S it:Addr} {xs:List V} {Q:VK} {R:Result->Shared->Prop} {kf:Nat->Int}
theorem zv9 (hh:X.A.handled=none)(hq:SqL X.K H p xs)(hpi:p≠it)(hSi:S≠it)(hi0:X.s₀.heap.objs.size<=it)(hS0:X.s₀.heap.objs.size<=S)(hn:∀ x∈X.pn++pins,x.1≠it/\x.1≠S)
  (turn:∀ (pl:List (Addr × Obj)) (s':Shared) (i:Nat) (x:V) (v:Value),xs[i]? = some x->zbs x v->Inv X pl σ H s'->wpAny (model X.prog X.w) X.A.in1 (call (.ref f) [v]) (EP X pl σ fun y H2=>y = .int (kf i)/\H2=H) (fun _ _=>False) s')
  (hR:∀ v s',EP X pins σ Q v s'->R (.ok (.ret v)) s')(q0:xs=[]->Q .non H)(q1:∀ i x,xs[i]? = some x->(∀ j,j<xs.length->kf j<=kf i)->Q x H) :
  ∀ (r j:Nat) (s:Shared) (b:Option (Nat × Value × Tok)) (c:Nat) (oI:Obj),xs.length - j=r->j<=xs.length->Inv X (pins++[(S,seqObj "list" (zo0 kf b) c),(it,oI)]) σ H s->s.heap.IsListIter it p j ->
   (b=none->j=0)->(∀ i vb tb,b=some (i,vb,tb)->(∃ x,xs[i]? = some x/\zbs x vb)/\∀ j',j'<j->kf j'<=kf i) ->
   codeAny (model X.prog X.w) X.A (.builtin "max.loop" ⟨[.ref it,.ref f,.ref S],[(Str.ofString "default",.none)]⟩) R s:=by
 have d:(toString "max" ++ toString ".loop" : String) = "max.loop" :=by decide
 intro r
 induction r with
 | zero =>
  intro j s b c oI hr hj J hit ag ac
  have ej:j=xs.length:=by omega
  obtain ⟨its,rv,pl,hz⟩:=J.list hq
  have hsz:its.toArray.size=xs.length:=by rw [gu,<- rv.length]
  have W:=Walks.list (prog:=X.prog) (w:=X.w) (A:=X.A.in1) (by exact hh) it p hpi its.toArray
  have gS:=J.pin (S,seqObj "list" (zo0 kf b) c) (g7 _ (g7 _ (.head _)))
  have gI:=J.pin (it,oI) (g7 _ (g7 _ (.tail _ (.head _))))
  refine codeAny_builtin jy ?_
  rw [im ia _]
  show wpAny _ X.A.in1 (seqItems? (.ref S) >>= _) _ _ _
  refine wpAny_bind (wpAny_seqItems gS.1 rfl ?_)
  show wpAny _ X.A.in1 (tryCatch (pyNext (.ref it)) _ >>= _) _ _ _
  refine wpAny_bind (wpAny_tryCatch (W.done _ _ _ ⟨by rw [hsz,<- ej]; exact hit,pl.isList⟩ fun h' ae ad=>?_))
  have m:∀ b o,b≠it->s.heap.get? b=some o->h'.get? b=some o:=fun b o hb e=>ad b o (by simpa using hb) e
  have J1:Inv X pins σ H { s with heap:=h',toks:=ae }:=J.unpinned.turned m gI.2.1 gI.2.2.1 (.inr hi0) (fun x c e z=>by
   obtain ⟨v,oc,hc,af⟩:=J.cell x c e
   rw [z,gI.1] at hc
   cases hc
   exact gI.2.2.2.2 _ af) fun x hx=>(hn x hx).1
  cases b with
  | none =>
   have e0:=ag rfl
   have ex:xs=[]:=List.eq_nil_of_length_eq_zero (by omega)
   show wpAny _ X.A.in1 (rule _ >>= _) _ _ _
   refine wpAny_bind (wpAny_rule (wpAny_pure ?_))
   exact hR _ _ ⟨.non,H,J1,rfl,q0 ex⟩
  | some b =>
   obtain ⟨i,vb,tb⟩:=b
   obtain ⟨⟨x,hx,rx⟩,hm⟩:=ac i vb tb rfl
   have ao:=m S _ hSi gS.1
   show wpAny _ X.A.in1 (updateSeq S (fun _=> #[]) >>= _) _ _ _
   refine wpAny_bind ?_
   refine wpAny_updateSeq ao rfl (wpAny_bind (wpAny_letGo (wpAny_pure ?_))) (hz:=zhp)
   refine hR _ _ ⟨x,H,?_,rx,q1 i x hx fun j' l=>hm j' (by omega)⟩
   exact zg5 J1 (fun b hb=>Heap.get?_update_ne _ _ _ _ hb) gS.2.1 gS.2.2.1 hS0 ao (fun v z=>by cases z) fun x hx=>(hn x hx).2
 | succ r ih =>
  intro j s b c oI hr hj J hit ag ac
  obtain ⟨its,rv,pl,hz⟩:=J.list hq
  have hsz:its.toArray.size=xs.length:=by rw [gu,<- rv.length]
  have aa:j<xs.length:=by omega
  have W:=Walks.list (prog:=X.prog) (w:=X.w) (A:=X.A.in1) (by exact hh) it p hpi its.toArray
  have gS:=J.pin (S,seqObj "list" (zo0 kf b) c) (g7 _ (g7 _ (.head _)))
  have gI:=J.pin (it,oI) (g7 _ (g7 _ (.tail _ (.head _))))
  refine codeAny_builtin jy ?_
  rw [im ia _]
  show wpAny _ X.A.in1 (seqItems? (.ref S) >>= _) _ _ _
  refine wpAny_bind (wpAny_seqItems gS.1 rfl ?_)
  show wpAny _ X.A.in1 (tryCatch (pyNext (.ref it)) _ >>= _) _ _ _
  refine wpAny_bind (wpAny_tryCatch (W.item j _ _ _ (by rw [hsz]; exact aa) ⟨hit,pl.isList⟩ fun v h' ae hP al ad=>?_))
  have hv:its[j]? = some v:=by simpa using hP
  obtain ⟨x,hx⟩:∃ x,xs[j]? = some x:=⟨_,List.getElem?_eq_getElem aa⟩
  obtain ⟨u,hu,rx⟩:=rv.get (i:=j) (x:=x) hx
  rw [hv] at hu
  cases hu
  obtain ⟨a,ak,an,ah⟩:=id al.1
  have m:∀ b o,b≠it->s.heap.get? b=some o->h'.get? b=some o:=fun b o hb e=>ad b o (by simpa using hb) e
  have J1:Inv X pins σ H { s with heap:=h',toks:=ae }:=J.unpinned.turned m gI.2.1 gI.2.2.1 (.inr hi0) (fun x c e z=>by
   obtain ⟨v,oc,hc,af⟩:=J.cell x c e
   rw [z,gI.1] at hc
   cases hc
   exact gI.2.2.2.2 _ af) fun x hx=>(hn x hx).1
  have q:∀ (s':Shared) (kA:Array Value) (e:Nat) (o:Obj),(∀ v,o.data≠ .cell v)->s'.heap.get? S=some (seqObj "list" kA e)->s'.heap.get? it=some o->Inv X pins σ H s'->Inv X (pins++[(S,seqObj "list" kA e),(it,o)]) σ H s':=fun s' kA e o ho g1 g2 J=>by
   refine J.pins_of fun x hx=>?_
   rcases gm.mp hx with z | z
   ·exact J.pin x (g7 _ z)
   ·rcases gx.mp z with rfl | z
    ·exact ⟨g1,gS.2.1,gS.2.2.1,gS.2.2.2.1,fun v z=>by cases z⟩
    ·rw [gb.mp z]
     exact ⟨g2,gI.2.1,gI.2.2.1,gI.2.2.2.1,ho⟩
  have ab:∀ v,a.data≠ .cell v:=fun v z=>by rw [ah] at z; cases z
  have J2:=q _ _ c a ab (m S _ hSi gS.1) ak J1
  show wpAny _ X.A.in1 (tryCatch (holding [v] (call (.ref f) [v])) _ >>= _) _ _ _
  refine wpAny_bind (wpAny_tryCatch (wpAny_holding (wpAny_mono (turn _ _ j x v hx rx J2) (fun y s2 he=>?_) fun _ _ hF=>hF.elim)))
  obtain ⟨y',H2,J3,ry,rfl,rfl⟩:=he
  obtain ⟨t2,rfl⟩:=ry
  have g:=J3.pin (S,seqObj "list" (zo0 kf b) c) (g7 _ (g7 _ (.head _)))
  have ai:=J3.pin (it,a) (g7 _ (g7 _ (.tail _ (.head _))))
  have next:∀ (h5:Heap) (c2:Nat) (aj:Nat),h5.get? S=some (seqObj "list" (zo0 kf (some (j,v,t2))) c2)->(∀ b,b≠S->h5.get? b=s2.heap.get? b)->(∀ j',j'<j->kf j'<=kf j) ->
    codeAny (model X.prog X.w) X.A (.builtin "max.loop" ⟨[.ref it,.ref f,.ref S],[(Str.ofString "default",.none)]⟩) R { s2 with heap:=h5,toks:=aj }:=fun h5 c2 aj g5 n hm=>by
   have J4:Inv X pins σ H2 { s2 with heap:=h5,toks:=aj }:=zg5 J3.unpinned n g.2.1 g.2.2.1 hS0 g.1 (fun v z=>by cases z) fun x hx=>(hn x hx).2
   refine ih (j+1) _ (some (j,v,t2)) c2 a (by omega) aa (q _ _ _ _ ab g5 ((n it hSi.symm).trans ai.1) J4) ⟨a,(n it hSi.symm).trans ai.1,an,ah⟩ (fun z=>nomatch z) fun i vb tb e=>?_
   cases e
   refine ⟨⟨x,hx,rx⟩,fun j' l=>?_⟩
   by_cases e:j'=j
   ·rw [e]
    exact Int.le_refl _
   ·exact hm j' (by omega)
  cases b with
  | none =>
   have e0:=ag rfl
   show wpAny _ X.A.in1 (updateSeq S (fun _=> #[v,.int (kf j) t2]) >>= _) _ _ _
   refine wpAny_bind ?_
   refine wpAny_updateSeq g.1 rfl ?_ (hz:=zhp)
   rw [d]
   refine wpAny_pure ⟨plainId_quiet ia _,?_⟩
   exact next _ _ s2.toks (get?_update_seq g.1 fun _=> #[v,.int (kf j) t2]) (fun b hb=>Heap.get?_update_ne _ _ _ _ hb) fun j' l=>absurd l (by omega)
  | some b =>
   obtain ⟨i,vb,tb⟩:=b
   obtain ⟨ap,hm⟩:=ac i vb tb rfl
   show wpAny _ X.A.in1 (tryCatch (holding [v,.int (kf j) t2] (richCompare .Gt (.int (kf j) t2) (.int (kf i) tb) >>= _)) _ >>= _) _ _ _
   refine wpAny_bind (wpAny_tryCatch (wpAny_holding (wpAny_bind (CmpOf.ints_gt (prog:=X.prog) (w:=X.w) (A:=X.A.in1) (P:=fun i v=>∃ t,v = .int (kf i) t) kf (fun i v h=>h) j i _ _ _ _ _ ⟨t2,rfl⟩ ⟨tb,rfl⟩ ?_))))
   refine wpAny_bind (wpAny_holding (wpAny_truthy_bool ?_))
   refine wpAny_bind (wpAny_letGo (wpAny_pure ?_))
   by_cases am:kf j > kf i
   ·simp only [am,decide_true,if_true]
    refine wpAny_bind ?_
    refine wpAny_updateSeq g.1 rfl (wpAny_bind (wpAny_letGo ?_)) (hz:=zhp)
    rw [d]
    refine wpAny_pure ⟨plainId_quiet ia _,?_⟩
    exact next _ _ _ (get?_update_seq g.1 fun _=> #[v,.int (kf j) t2]) (fun b hb=>Heap.get?_update_ne _ _ _ _ hb) fun j' l=>by
     have:=hm j' l
     omega
   ·simp only [am,decide_false,j3,if_false]
    refine wpAny_bind (wpAny_letGo ?_)
    rw [d]
    refine wpAny_pure ⟨plainId_quiet ia _,ih (j+1) _ (some (i,vb,tb)) c a (by omega) aa J3 ⟨a,ai.1,an,ah⟩ (fun z=>nomatch z) fun i' ar aq e=>?_⟩
    cases e
    refine ⟨ap,fun j' l=>?_⟩
    by_cases e:j'=j
    ·rw [e]
     omega
    ·exact hm j' (by omega)
theorem zye {s:Shared}(I:Inv X pins σ H s)(hh:X.A.handled=none)(hq:SqL X.K H p xs)
  (turn:∀ (pl:List (Addr × Obj)) (s':Shared) (i:Nat) (x:V) (v:Value),xs[i]? = some x->zbs x v->Inv X pl σ H s'->wpAny (model X.prog X.w) X.A.in1 (call (.ref f) [v]) (EP X pl σ fun y H2=>y = .int (kf i)/\H2=H) (fun _ _=>False) s')
  (q0:xs=[]->Q .non H)(q1:∀ i x,xs[i]? = some x->(∀ j,j<xs.length->kf j<=kf i)->Q x H) :
  wpAny (model X.prog X.w) X.A (call (.builtin "max") [.ref p] [(Str.ofString "key",.ref f),(Str.ofString "default",.none)]) (EP X pins σ Q) X.xe s:=by
 have c:(toString "max" ++ toString ".loop" : String) = "max.loop" :=by decide
 obtain ⟨its,rv,pl,hz⟩:=I.list hq
 refine kmk_tree PySem.F.kind_max PySem.F.plain_max PySem.F.entry_max (zrl _ _ _) ?_
 show wpAny _ X.A.in1 (Builtin.Builtins.bindParams "max" ["key","default"] 0 ⟨[],[(Str.ofString "key",.ref f),(Str.ofString "default",.none)]⟩ >>= _) _ _ s
 refine wpAny_bind (wpAny_of_eq (show Builtin.Builtins.bindParams "max" ["key","default"] 0 ⟨[],[(Str.ofString "key",.ref f),(Str.ofString "default",.none)]⟩=pure [some (.ref f),some .none] from rfl) ?_)
 refine wpAny_bind (wpAny_pure ?_)
 refine wpAny_bind (wpAny_pyIter_list pl.isList ?_)
 refine wpAny_bind (wpAny_newList ?_ (ix _))
 rw [c]
 obtain ⟨h1,a⟩:∃ h1,h1=s.heap.push { cls:= .type "list_iterator",data:= .fields #[.ref p,.int 0 0] }:=⟨_,rfl⟩
 have z1:h1.objs.size=s.heap.objs.size+1:=by rw [a]; exact size_push' ..
 have gI:h1.get? s.heap.objs.size=some { cls:= .type "list_iterator",data:= .fields #[.ref p,.int 0 0] }:=by rw [a]; exact Heap.get?_push_size _ rfl
 have k1:∀ b o,s.heap.get? b=some o->h1.get? b=some o:=fun b o e=>by rw [a]; exact Heap.get?_push_of_some _ e
 rw [<- a]
 have gS:(h1.push (seqObj "list" #[] 0)).get? h1.objs.size=some (seqObj "list" #[] 0):=Heap.get?_push_size _ rfl
 have k2:∀ b o,h1.get? b=some o->(h1.push (seqObj "list" #[] 0)).get? b=some o:=fun b o e=>Heap.get?_push_of_some _ e
 have I2:Inv X pins σ H { s with heap:=h1.push (seqObj "list" #[] 0),toks:=s.toks }:=I.kept fun b o e=>k2 _ _ (k1 _ _ e)
 have lS:s.heap.objs.size<=h1.objs.size:=by omega
 have d:=I.lt
 refine wpAny_pure ⟨plainId_quiet ia _,?_⟩
 refine zv9 (Q:=Q) (pins:=pins) (σ:=σ) (H:=H) (xs:=xs) (kf:=kf) hh hq (i0 pl.lt) (fun z=>Nat.succ_ne_self _ (z1.symm.trans z)) I.sz (gy I.sz lS) (fun x hx=>have y:=i3 (I.pin x hx).1; ⟨i0 y,i0 (gs y lS)⟩) turn (fun v s' h=>h) q0 q1 _ 0 _ none 0 _ rfl (ix _) (I2.pins_of (pins':=pins++[(h1.objs.size,seqObj "list" (zo0 kf none) 0),(s.heap.objs.size,{ cls:= .type "list_iterator",data:= .fields #[.ref p,.int 0 0] })]) fun x hx=>?_) ⟨_,k2 _ _ gI,rfl,rfl⟩ (fun _=>rfl) (fun _ _ _ z=>nomatch z)
 rcases gm.mp hx with z | z
 ·exact I2.pin x (g7 _ z)
 ·rcases gx.mp z with rfl | z
  ·exact ⟨gS,I.hok.fresh lS,jf (gs d lS),I.nofs lS,fun v z=>by cases z⟩
  ·rw [gb.mp z]
   exact ⟨k2 _ _ gI,I.hok.fresh (gv _),jf d,I.nofs (gv _),fun v z=>by cases z⟩
def z3j (K:W.Frag)(Rr:Addr->FuncData->Prop)(sp:Addr->FuncData->Sp)(te tl:TE):TE:=fun σ H Q=>zgx te zt0 σ H fun vs H1=>zgx tl (zgx (tC .non) zt0) σ H1 fun zs H2=>∃ (p f:Addr) (fd:FuncData) (xs:List V) (kf:Nat->Int),vs=[.ref p]/\zs=[.ref f,.non]/\SqL K H2 p xs /\
 Rr f fd/\(∀ i x,xs[i]? = some x->∀ Q':VK,Q' (.int (kf i)) H2->sp f fd [x] H2 Q' E0)/\(xs=[]->Q .non H2)/\∀ i x,xs[i]? = some x->(∀ j,j<xs.length->kf j<=kf i)->Q x H2
theorem zy5 {x:Str}{e lam dn:Expr}{te tl:TE}{p pos kpos dpos:Pos}{k:Nat}{ps:List Str}{Rr:Addr->FuncData->Prop}{sp:Addr->FuncData->Sp}(hc:X.calm=true)(hg:Gl X x)(hm:X.mg x=none)(hv:bootBuiltins x=some (.builtin "max"))(G:∀ f fd,Rr f fd->zdm X.prog X.w X.K X.mg X.base CX0 k f fd ps (sp f fd))(hb:∀ f fd,Rr f fd->zcq X.K fd ps [])
  (hr:zej (k+1) X.A)(he:PE X e te)(hl:PE X lam tl)(hdn:PE X dn (tC .non))(hn:x≠ "__name__" :=by decide)(hdb:(x == ("__debug__" : Str))=false:=by decide)(hs:starEach [e] X.env=[(false,eval e X.env)]:=by rfl) :
  PE X (.Call (.Name x p) [e] [⟨some "key",lam,kpos⟩,⟨some "default",dn,dpos⟩] pos) (z3j X.K Rr sp te tl):=by
 intro pins s σ H Q I h
 refine wpAny_Call_Name_kw (zjf I hg hm hv ?_ hn hdb)
 refine callWith_kw (thn (zaa he zag hs pos pins s σ H _ I h) fun us s1 ⟨vs,H1,I1,r1,q1⟩=>?_) (by rw [hs]; rfl) (by rw [hs]; rfl) rfl rfl
 refine thn (zp0 hl (zp0 hdn zxx) pos pins s1 σ H1 _ I1 q1) fun ws s2 ⟨zs,H2,I2,rz,a,f,fd,xs,kf,e1,e2,hq,hR,j,q0,q2⟩=>?_
 subst e1 e2
 obtain ⟨v',rfl,rv⟩:=zhm r1
 cases (show v'=Value.ref a from rv)
 obtain ⟨u1,u2,rfl,m,l⟩:∃ u1 u2,ws=[u1,u2]/\zbs (.ref f) u1/\zbs .non u2:=by
  cases rz with
  | cons a b=>cases b with | cons c d=>cases d; exact ⟨_,_,rfl,a,c⟩
 cases (show u1=Value.ref f from m)
 cases (show u2=Value.none from l)
 show wpAny _ _ (call (.builtin "max") [.ref a] [(Str.ofString "key",.ref f),(Str.ofString "default",.none)]) _ _ _
 refine zye I2 (I2.ok.hd hc) hq (fun pl s' i y v hy ry J=>?_) q0 q2
 have F:=G f fd hR
 have g:=j i y hy (fun v H3=>v = .int (kf i)/\H3=H2) ⟨rfl,rfl⟩
 refine wpAny_call (codeAny_mono (F.run X.A.in1 X.stack s' H2 ⟨[v],[]⟩ [v] [y] _ E0 hr.in1 J.env0.in1 (by have z:=hb f fd hR s' [v] J.kIn (by rw [iy]; exact F.len _ _ _ _ g); rw [iy] at z; exact z) (.cons ry .nil) g) fun r n hq=>?_)
 cases r with
 | error e=>exact False.elim hq
 | ok fl =>
  cases fl with
  | ret u=>exact J.after hq
  | next=>exact False.elim hq
  | brk=>exact False.elim hq
  | cont=>exact False.elim hq
end
end L2
namespace HT
open PySem PyProof.Rows
section
open PySem.SeqAt
open PySem.AutoSeq1 (wpAny_loadPart')
open PySem.MeetsSeq PySem.MeetsSeq2 PySem.MeetsSeq3
theorem zwx (A:Around)(s:Shared)(a:Int)(t:Tok)(c:Int)(u:Tok)(prog:Program)(w:World)(E:Value->Shared->Prop)(Q:Value->Shared->Prop)(h:Q (.bool (decide (c<a))) s) :
  wpAny (model prog w) A (richCompare .Gt (.int a t) (.int c u)) Q E s :=
 (PyProof.Rows.gt_int h:wpAny (model prog w) A (compareOp .Gt (.int a t) (.int c u)) Q E s)
theorem zl4 (l b:Addr)(a c:Int)(p q:Str)(t1 t2 u1 u2:Tok)(n n2:Nat)(dd dd2:Option Addr)(sl sl2:Array (Option Value))(hpq:a=c->p=q) :
  Meets (Builtin.«tuple.__gt__» ⟨[.ref l,.ref b],[]⟩)
   (fun _ R s=>s.heap.get? l=some { cls:= .type "tuple",dict:=dd,data:= .seq #[.int a t1,.str p t2] n,slots:=sl }/\s.heap.get? b=some { cls:= .type "tuple",dict:=dd2,data:= .seq #[.int c u1,.str q u2] n2,slots:=sl2 } /\
    R (.ok (.ret (.bool (decide (c<a))))) s) :=
 .of_wp fun prog w A R s h=>by
  obtain ⟨hp,g,d,tk,os⟩:=s; obtain ⟨hl,hb,h⟩:=h
  have f2:=AutoSeq1.sub_tuple_tuple
  wp_walk using wpAny_loadPart' hl,wpAny_loadPart' hb,wpAny_forIn_list _ (fun rest b s'=>b.1=none/\s'=⟨hp,g,d,tk,os⟩/\(rest=[(Value.int a t1,Value.int c u1),(Value.str p t2,Value.str q u2)]\/rest=[(Value.str p t2,Value.str q u2)]/\a=c\/rest=[]/\a=c)) _
  case turn =>
   rintro ⟨y,x⟩ rest b s' ⟨hb',rfl,hz⟩
   rcases hz with hz | ⟨hz,e⟩ | ⟨hz,e⟩
   ·cases hz
    refine wpAny_bind (EqAt.int_int (A:=A.in1) (s:=⟨hp,g,d,tk,os⟩) a t1 c u1 prog w _ _ ?_)
    by_cases e:a=c
    ·rw [beq_iff_eq.mpr e]
     wp_walk
     exact ⟨rfl,rfl,.inr (.inl ⟨rfl,e⟩)⟩
    ·rw [beq_eq_false_iff_ne.mpr e]
     have hri:=zwx A.in1 ⟨hp,g,d,tk,os⟩ a t1 c u1 prog w
     wp_walk using hri
     exact ⟨_,rfl,by simpa using h⟩
   ·cases hz
    refine wpAny_bind (EqAt.str_str (A:=A.in1) (s:=⟨hp,g,d,tk,os⟩) p t2 q u2 prog w _ _ ?_)
    rw [beq_iff_eq.mpr (hpq e)]
    wp_walk
    exact ⟨rfl,rfl,.inr (.inr ⟨rfl,e⟩)⟩
   ·cases hz
  case fin =>
   rintro ⟨b1,b2⟩ s' ⟨hb',rfl,hz⟩
   simp only at hb'
   subst hb'
   rcases hz with hz | ⟨hz,e⟩ | ⟨hz,e⟩
   ·cases hz
   ·cases hz
   ·rw [decide_eq_false (by omega)] at h
    wp_walk
    exact ⟨_,rfl,by simpa [Builtin.Tuple.tupleCompareSizes] using h⟩
  case h =>
   exact ⟨rfl,rfl,.inl rfl⟩
end
section
variable {prog:Program} {w:World} {A:Around} {E:Value->Shared->Prop} {s:Shared}
theorem gt_pair {l b:Addr}{a c:Int}{p q:Str}{t1 t2 u1 u2:Tok}{Q:Value->Shared->Prop}(hl:IsTup s.heap l #[.int a t1,.str p t2])(hb:IsTup s.heap b #[.int c u1,.str q u2])(hpq:a=c->p=q)
  (hu:A.units<cLine)(h:Q (.bool (decide (c<a))) s):wpAny (model prog w) A (richCompare .Gt (.ref l) (.ref b)) Q E s:=by
 obtain ⟨⟨cls,dd,data,sl⟩,ho,hc,n,hd⟩:=id hl
 obtain ⟨⟨m,i,g,j⟩,e,d,n2,f⟩:=id hb
 simp only at hc hd d f
 subst hc hd d f
 exact richCompare_meets_room (op:= .Gt) ⟨_,ho,rfl⟩ ⟨_,e,rfl⟩ PySem.F.slot_tuple_gt PySem.F.entry_tuple_gt (PySem.F.args_tuple_gt_2 _ _) (zl4 l b a c p q t1 t2 u1 u2 n n2 dd i sl j hpq)
  ⟨ho,e,show Value.bool (decide (c<a))≠Value.notImplemented/\Q (.bool (decide (c<a))) s from ⟨(fun x=>nomatch x),h⟩⟩ hu
end
end HT
namespace L2
open PySem PySem.Spec PyProof.Rows PySem.W
def zrt:Option Addr->Array Value
 | none=> #[]
 | some t=> #[.ref t,.ref t]
theorem zhn:∀ {b:Option Addr},(zrt b).size<=sizeLine
 | none=>ix _
 | some _=>by
  show 2<=sizeLine
  rw [sizeLine_eq]
  decide
section
variable {X:Cx} {pins:List (Addr × Obj)} {σ:St} {H:Hp} {p S it:Addr} {ts:List Addr} {Q:VK} {R:Result->Shared->Prop} {fa:Addr->Int} {fb:Addr->Str}
theorem z36 {s:Shared}{t:Addr}{a:Int}{b:Str}{pl:List (Addr × Obj)}(J:Inv X pl σ H s)(h:H t=some (.tup [.int a,.str b])):∃ t1 t2,IsTup s.heap t #[.int a t1,.str b t2]:=by
 obtain ⟨us,e,hp,_⟩:=J.tuple (SqT.of h)
 cases e with
 | cons a b =>
  cases b with
  | cons c d =>
   cases d
   obtain ⟨t1,rfl⟩:=a
   obtain ⟨t2,rfl⟩:=c
   exact ⟨t1,t2,hp⟩
theorem zuo (hh:X.A.handled=none)(hu:X.A.in1.units<cLine)(hq:SqL X.K H p (ts.map V.ref))(ht:∀ t∈ts,H t=some (.tup [.int (fa t),.str (fb t)]))(hl:∀ t∈ts,∀ t'∈ts,fa t=fa t'->fb t=fb t')(hpi:p≠it)(hSi:S≠it)(hi0:X.s₀.heap.objs.size<=it)(hS0:X.s₀.heap.objs.size<=S)(hn:∀ x∈X.pn++pins,x.1≠it/\x.1≠S)
  (hR:∀ v s',EP X pins σ Q v s'->R (.ok (.ret v)) s')(hne:0<ts.length)(q1:∀ t∈ts,(∀ t'∈ts,fa t'<=fa t)->Q (.ref t) H) :
  ∀ (r j:Nat) (s:Shared) (b:Option Addr) (c:Nat) (oI:Obj),ts.length - j=r->j<=ts.length->Inv X (pins++[(S,seqObj "list" (zrt b) c),(it,oI)]) σ H s->s.heap.IsListIter it p j ->
   (b=none->j=0)->(∀ t,b=some t->t∈ts/\∀ t'∈ts.take j,fa t'<=fa t) ->
   codeAny (model X.prog X.w) X.A (.builtin "max.loop" ⟨[.ref it,.none,.ref S],[]⟩) R s:=by
 have d:(toString "max" ++ toString ".loop" : String) = "max.loop" :=by decide
 intro r
 induction r with
 | zero =>
  intro j s b c oI hr hj J hit ag ad
  have ej:j=ts.length:=by omega
  obtain ⟨its,rv,pl,hz⟩:=J.list hq
  have hsz:its.toArray.size=ts.length:=by rw [gu,<- rv.length,gf]
  have W:=Walks.list (prog:=X.prog) (w:=X.w) (A:=X.A.in1) (by exact hh) it p hpi its.toArray
  have gS:=J.pin (S,seqObj "list" (zrt b) c) (g7 _ (g7 _ (.head _)))
  have gI:=J.pin (it,oI) (g7 _ (g7 _ (.tail _ (.head _))))
  refine codeAny_builtin jy ?_
  rw [im ia _]
  show wpAny _ X.A.in1 (seqItems? (.ref S) >>= _) _ _ _
  refine wpAny_bind (wpAny_seqItems gS.1 rfl ?_)
  show wpAny _ X.A.in1 (tryCatch (pyNext (.ref it)) _ >>= _) _ _ _
  refine wpAny_bind (wpAny_tryCatch (W.done _ _ _ ⟨by rw [hsz,<- ej]; exact hit,pl.isList⟩ fun h' ab ae=>?_))
  have l:∀ b o,b≠it->s.heap.get? b=some o->h'.get? b=some o:=fun b o hb e=>ae b o (by simpa using hb) e
  have J1:Inv X pins σ H { s with heap:=h',toks:=ab }:=J.unpinned.turned l gI.2.1 gI.2.2.1 (.inr hi0) (fun x c e z=>by
   obtain ⟨v,oc,hc,af⟩:=J.cell x c e
   rw [z,gI.1] at hc
   cases hc
   exact gI.2.2.2.2 _ af) fun x hx=>(hn x hx).1
  cases b with
  | none =>
   have e0:=ag rfl
   omega
  | some b =>
   obtain ⟨n,hm⟩:=ad b rfl
   rw [ej,i6] at hm
   have ao:=l S _ hSi gS.1
   show wpAny _ X.A.in1 (updateSeq S (fun _=> #[]) >>= _) _ _ _
   refine wpAny_bind ?_
   refine wpAny_updateSeq ao rfl (wpAny_bind (wpAny_letGo (wpAny_pure ?_))) (hz:=zhn)
   refine hR _ _ ⟨.ref b,H,?_,rfl,q1 b n hm⟩
   exact zg5 J1 (fun b hb=>Heap.get?_update_ne _ _ _ _ hb) gS.2.1 gS.2.2.1 hS0 ao (fun v z=>by cases z) fun x hx=>(hn x hx).2
 | succ r ih =>
  intro j s b c oI hr hj J hit ag ad
  obtain ⟨its,rv,pl,hz⟩:=J.list hq
  have hsz:its.toArray.size=ts.length:=by rw [gu,<- rv.length,gf]
  have aa:j<ts.length:=by omega
  have W:=Walks.list (prog:=X.prog) (w:=X.w) (A:=X.A.in1) (by exact hh) it p hpi its.toArray
  have gS:=J.pin (S,seqObj "list" (zrt b) c) (g7 _ (g7 _ (.head _)))
  have gI:=J.pin (it,oI) (g7 _ (g7 _ (.tail _ (.head _))))
  refine codeAny_builtin jy ?_
  rw [im ia _]
  show wpAny _ X.A.in1 (seqItems? (.ref S) >>= _) _ _ _
  refine wpAny_bind (wpAny_seqItems gS.1 rfl ?_)
  show wpAny _ X.A.in1 (tryCatch (pyNext (.ref it)) _ >>= _) _ _ _
  refine wpAny_bind (wpAny_tryCatch (W.item j _ _ _ (by rw [hsz]; exact aa) ⟨hit,pl.isList⟩ fun v h' ab hP al ae=>?_))
  have hv:its[j]? = some v:=by simpa using hP
  obtain ⟨x,hx⟩:∃ x,ts[j]? = some x:=⟨_,List.getElem?_eq_getElem aa⟩
  have aj:=i4 hx
  obtain ⟨u,ak,rx⟩:=rv.get (i:=j) (x:=V.ref x) (by rw [List.getElem?_map,hx]; rfl)
  rw [hv] at ak
  cases ak
  cases (show v=Value.ref x from rx)
  obtain ⟨g,f,an,ah⟩:=id al.1
  have l:∀ b o,b≠it->s.heap.get? b=some o->h'.get? b=some o:=fun b o hb e=>ae b o (by simpa using hb) e
  have J1:Inv X pins σ H { s with heap:=h',toks:=ab }:=J.unpinned.turned l gI.2.1 gI.2.2.1 (.inr hi0) (fun x c e z=>by
   obtain ⟨v,oc,hc,af⟩:=J.cell x c e
   rw [z,gI.1] at hc
   cases hc
   exact gI.2.2.2.2 _ af) fun x hx=>(hn x hx).1
  have q:∀ (s':Shared) (kA:Array Value) (e:Nat) (o:Obj),(∀ v,o.data≠ .cell v)->s'.heap.get? S=some (seqObj "list" kA e)->s'.heap.get? it=some o->Inv X pins σ H s'->Inv X (pins++[(S,seqObj "list" kA e),(it,o)]) σ H s':=fun s' kA e o ho g1 g2 J=>by
   refine J.pins_of fun x hx=>?_
   rcases gm.mp hx with z | z
   ·exact J.pin x (g7 _ z)
   ·rcases gx.mp z with rfl | z
    ·exact ⟨g1,gS.2.1,gS.2.2.1,gS.2.2.2.1,fun v z=>by cases z⟩
    ·rw [gb.mp z]
     exact ⟨g2,gI.2.1,gI.2.2.1,gI.2.2.2.1,ho⟩
  have ac:∀ v,g.data≠ .cell v:=fun v z=>by rw [ah] at z; cases z
  have h:=l S _ hSi gS.1
  have tk:ts.take (j+1)=ts.take j++[x]:=by rw [ja,hx]; rfl
  have next:∀ (h5:Heap) (c2:Nat) (ai:Nat),h5.get? S=some (seqObj "list" (zrt (some x)) c2)->(∀ b,b≠S->h5.get? b=h'.get? b)->(∀ t'∈ts.take j,fa t'<=fa x) ->
    codeAny (model X.prog X.w) X.A (.builtin "max.loop" ⟨[.ref it,.none,.ref S],[]⟩) R { s with heap:=h5,toks:=ai }:=fun h5 c2 ai g5 m hm=>by
   have J4:Inv X pins σ H { s with heap:=h5,toks:=ai }:=zg5 (s:={ s with heap:=h',toks:=ab }) J1 m gS.2.1 gS.2.2.1 hS0 h (fun v z=>by cases z) fun x hx=>(hn x hx).2
   refine ih (j+1) _ (some x) c2 g (by omega) aa (q _ _ _ _ ac g5 ((m it hSi.symm).trans f) J4) ⟨g,(m it hSi.symm).trans f,an,ah⟩ (fun z=>nomatch z) fun t e=>?_
   cases e
   refine ⟨aj,fun t' a=>?_⟩
   rw [tk] at a
   rcases gm.mp a with y | y
   ·exact hm t' y
   ·rw [gb.mp y]
    exact Int.le_refl _
  cases b with
  | none =>
   have e0:=ag rfl
   show wpAny _ X.A.in1 (updateSeq S (fun _=> #[.ref x,.ref x]) >>= _) _ _ _
   refine wpAny_bind ?_
   refine wpAny_updateSeq h rfl ?_ (hz:=zhn)
   rw [d]
   refine wpAny_pure ⟨plainId_quiet ia _,?_⟩
   exact next _ _ _ (get?_update_seq h fun _=> #[.ref x,.ref x]) (fun b hb=>Heap.get?_update_ne _ _ _ _ hb) fun t' a=>by
    rw [e0,List.take_zero] at a
    cases a
  | some b =>
   obtain ⟨n,hm⟩:=ad b rfl
   obtain ⟨t1,t2,aq⟩:=z36 J1 (ht x aj)
   obtain ⟨u1,u2,ap⟩:=z36 J1 (ht b n)
   show wpAny _ X.A.in1 (tryCatch (holding [.ref x,.ref x] (richCompare .Gt (.ref x) (.ref b) >>= _)) _ >>= _) _ _ _
   refine wpAny_bind (wpAny_tryCatch (wpAny_holding (wpAny_bind (HT.gt_pair aq ap (hl x aj b n) hu ?_))))
   refine wpAny_bind (wpAny_holding (wpAny_truthy_bool ?_))
   refine wpAny_bind (wpAny_letGo (wpAny_pure ?_))
   by_cases am:fa b<fa x
   ·simp only [am,decide_true,if_true]
    refine wpAny_bind ?_
    refine wpAny_updateSeq h rfl (wpAny_bind (wpAny_letGo ?_)) (hz:=zhn)
    rw [d]
    refine wpAny_pure ⟨plainId_quiet ia _,?_⟩
    exact next _ _ _ (get?_update_seq h fun _=> #[.ref x,.ref x]) (fun b hb=>Heap.get?_update_ne _ _ _ _ hb) fun t' a=>by
     have:=hm t' a
     omega
   ·simp only [am,decide_false,j3,if_false]
    refine wpAny_bind (wpAny_letGo ?_)
    rw [d]
    refine wpAny_pure ⟨plainId_quiet ia _,ih (j+1) _ (some b) c g (by omega) aa (q _ _ c g ac h f (J1.tok _)) ⟨g,f,an,ah⟩ (fun z=>nomatch z) fun t e=>?_⟩
    cases e
    refine ⟨n,fun t' a=>?_⟩
    rw [tk] at a
    rcases gm.mp a with y | y
    ·exact hm t' y
    ·rw [gb.mp y]
     omega
theorem zs3 (hc:X.calm=true)(hu:X.A.units+64<cLine):zit X (.builtin "max") (fun xs H Q=>∃ (p:Addr) (ts:List Addr) (fa:Addr->Int) (fb:Addr->Str),xs=[.ref p]/\SqL X.K H p (ts.map V.ref)/\0<ts.length/\(∀ t∈ts,H t=some (.tup [.int (fa t),.str (fb t)]))/\(∀ t∈ts,∀ t'∈ts,fa t=fa t'->fb t=fb t')/\∀ t∈ts,(∀ t'∈ts,fa t'<=fa t)->Q (.ref t) H):=by
 intro pins s σ H xs us Q I r h
 obtain ⟨p,ts,fa,fb,rfl,hq,f,ht,hl,q1⟩:=h
 obtain ⟨u,rfl,ru⟩:=zhm r
 cases (show u=Value.ref p from ru)
 have c:(toString "max" ++ toString ".loop" : String) = "max.loop" :=by decide
 obtain ⟨its,rv,pl,hz⟩:=I.list hq
 refine call_function_tree PySem.F.kind_max PySem.F.plain_max PySem.F.entry_max (PySem.F.args_max1 _) ?_
 show wpAny _ X.A.in1 (Builtin.Builtins.bindParams "max" ["key","default"] 0 ⟨[],[]⟩ >>= _) _ _ s
 refine wpAny_bind (wpAny_of_eq (show Builtin.Builtins.bindParams "max" ["key","default"] 0 ⟨[],[]⟩=pure [none,none] from rfl) ?_)
 refine wpAny_bind (wpAny_pure ?_)
 refine wpAny_bind (wpAny_pyIter_list pl.isList ?_)
 refine wpAny_bind (wpAny_newList ?_ (ix _))
 rw [c]
 obtain ⟨h1,a⟩:∃ h1,h1=s.heap.push { cls:= .type "list_iterator",data:= .fields #[.ref p,.int 0 0] }:=⟨_,rfl⟩
 have z1:h1.objs.size=s.heap.objs.size+1:=by rw [a]; exact size_push' ..
 have gI:h1.get? s.heap.objs.size=some { cls:= .type "list_iterator",data:= .fields #[.ref p,.int 0 0] }:=by rw [a]; exact Heap.get?_push_size _ rfl
 have k1:∀ b o,s.heap.get? b=some o->h1.get? b=some o:=fun b o e=>by rw [a]; exact Heap.get?_push_of_some _ e
 rw [<- a]
 have gS:(h1.push (seqObj "list" #[] 0)).get? h1.objs.size=some (seqObj "list" #[] 0):=Heap.get?_push_size _ rfl
 have k2:∀ b o,h1.get? b=some o->(h1.push (seqObj "list" #[] 0)).get? b=some o:=fun b o e=>Heap.get?_push_of_some _ e
 have I2:Inv X pins σ H { s with heap:=h1.push (seqObj "list" #[] 0),toks:=s.toks }:=I.kept fun b o e=>k2 _ _ (k1 _ _ e)
 have lS:s.heap.objs.size<=h1.objs.size:=by omega
 have d:=I.lt
 refine wpAny_pure ⟨plainId_quiet ia _,?_⟩
 refine zuo (Q:=Q) (pins:=pins) (σ:=σ) (H:=H) (ts:=ts) (fa:=fa) (fb:=fb) (I.ok.hd hc) (by show X.A.units+1<cLine; omega) hq ht hl (i0 pl.lt) (fun z=>Nat.succ_ne_self _ (z1.symm.trans z)) I.sz (gy I.sz lS) (fun x hx=>have y:=i3 (I.pin x hx).1; ⟨i0 y,i0 (gs y lS)⟩) (fun v s' h=>h) f q1 _ 0 _ none 0 _ rfl (ix _) (I2.pins_of (pins':=pins++[(h1.objs.size,seqObj "list" (zrt none) 0),(s.heap.objs.size,{ cls:= .type "list_iterator",data:= .fields #[.ref p,.int 0 0] })]) fun x hx=>?_) ⟨_,k2 _ _ gI,rfl,rfl⟩ (fun _=>rfl) (fun _ z=>nomatch z)
 rcases gm.mp hx with z | z
 ·exact I2.pin x (g7 _ z)
 ·rcases gx.mp z with rfl | z
  ·exact ⟨gS,I.hok.fresh lS,jf (gs d lS),I.nofs lS,fun v z=>by cases z⟩
  ·rw [gb.mp z]
   exact ⟨k2 _ _ gI,I.hok.fresh (gv _),jf d,I.nofs (gv _),fun v z=>by cases z⟩
end
end L2
namespace NN
theorem zpg:∀ (a b:Nat),(a ^^^ b)+2 * (a &&& b)=a+b:=by
 intro a
 induction a using Nat.strongRecOn with
 | ind a ih =>
  intro b
  by_cases h:a=0
  ·subst h; simp
  ·have i:=ih (a / 2) (by omega) (b / 2)
   have x1:=Nat.xor_div_two (a:=a) (b:=b)
   have x2:=Nat.and_div_two (a:=a) (b:=b)
   have y1:=Nat.xor_mod_two_eq_one (a:=a) (b:=b)
   have y2:=Nat.and_mod_two_eq_one (a:=a) (b:=b)
   omega
theorem zyu (a b:Nat):a ^^^ b=2 * (a / 2 ^^^ b / 2)+(if a % 2=b % 2 then 0 else 1):=by
 have x1:=Nat.xor_div_two (a:=a) (b:=b)
 have y1:=Nat.xor_mod_two_eq_one (a:=a) (b:=b)
 split <;> omega
theorem zew (a b:Nat):a ^^^ b=0↔a=b:=by
 constructor
 ·intro h
  have:(a ^^^ b) ^^^ b=0 ^^^ b:=by rw [h]
  rw [Nat.xor_assoc,lu,Nat.xor_zero,Nat.zero_xor] at this
  exact this
 ·rintro rfl; exact lu _
theorem zfv (a b:Nat):a ^^^ (a ^^^ b)=b:=by
 rw [<- Nat.xor_assoc,lu,Nat.zero_xor]
end NN
namespace NN
def ze8 (a b:Nat):Nat->Option Nat
 | 0=>none
 | i+1=>if a / 2 ^ i % 2=b / 2 ^ i % 2 then ze8 a b i else some i
theorem zw5 {m k:Nat}(hm:m≠0):m.log2=k↔m / 2 ^ k=1:=by
 constructor
 ·intro h
  subst h
  have h1:=Nat.log2_self_le hm
  have h2:=@Nat.lt_log2_self m
  rw [n6] at h2
  have hp:0<2 ^ m.log2:=nq (by decide)
  refine (Nat.div_eq_iff hp).mpr ?_
  omega
 ·intro h
  have hp:0<2 ^ k:=nq (by decide)
  have h':=(Nat.div_eq_iff hp).mp h
  refine (Nat.log2_eq_iff hm).mpr ⟨by omega,?_⟩
  rw [n6]
  omega
theorem zmj (a b k:Nat):(a ^^^ b) / 2 ^ k=a / 2 ^ k ^^^ b / 2 ^ k:=Nat.xor_div_two_pow
theorem zlj {a b:Nat}:a ^^^ b=1↔b=a ^^^ 1:=by
 constructor
 ·intro h
  have:a ^^^ (a ^^^ b)=a ^^^ 1:=by rw [h]
  rw [zfv] at this
  exact this
 ·rintro rfl
  exact zfv a 1
theorem zli (a:Nat):a ^^^ 1≠a:=by
 intro h
 have:=(zlj (a:=a) (b:=a)).mpr h.symm
 rw [lu] at this
 cases this
theorem zi0 {a b k:Nat}(h:a≠b):(a ^^^ b).log2=k↔b / 2 ^ k=a / 2 ^ k ^^^ 1:=by
 have hm:a ^^^ b≠0:=fun z=>h ((zew a b).mp z)
 rw [zw5 hm,zmj,zlj]
theorem zz6 {a b k:Nat}(h:b / 2 ^ k=a / 2 ^ k ^^^ 1):a≠b:=fun e=>by
 subst e
 exact zli _ h.symm
theorem zd4 (a i:Nat):a / 2 ^ (i+1)=a / 2 ^ i / 2:=by
 rw [n6,Nat.div_div_eq_div_mul]
theorem zn4 {a b:Nat}:∀ (w:Nat),a / 2 ^ w=b / 2 ^ w->ze8 a b w=none->a=b
 | 0,h,_=>by simpa using h
 | i+1,h,e=>by
  unfold ze8 at e
  split at e
  ·rename_i hb
   rw [zd4,zd4] at h
   exact zn4 i (by omega) e
  ·cases e
theorem zjx {a b:Nat}:∀ (w k:Nat),a / 2 ^ w=b / 2 ^ w->ze8 a b w=some k->k<w/\b / 2 ^ k=a / 2 ^ k ^^^ 1
 | 0,k,_,e=>by cases e
 | i+1,k,h,e=>by
  unfold ze8 at e
  rw [zd4,zd4] at h
  split at e
  ·rename_i hb
   have:=zjx i k (by omega) e
   exact ⟨by omega,this.2⟩
  ·rename_i hb
   cases e
   refine ⟨by omega,?_⟩
   have x:=zyu (a / 2 ^ i) 1
   simp at x
   split at x <;> omega
theorem z0a {a b w:Nat}(ha:a<2 ^ w)(hb:b<2 ^ w):ze8 a b w=if a=b then none else some (a ^^^ b).log2:=by
 have h:a / 2 ^ w=b / 2 ^ w:=by rw [kg ha,kg hb]
 cases e:ze8 a b w with
 | none=>rw [if_pos (zn4 w h e)]
 | some k =>
  have q:=(zjx w k h e).2
  have ne:=zz6 q
  rw [if_neg ne,(zi0 ne).mpr q]
theorem log2_lt {a b w:Nat}(ha:a<2 ^ w)(hb:b<2 ^ w)(h:a≠b):(a ^^^ b).log2<w:=by
 have e:=z0a ha hb
 rw [if_neg h] at e
 exact (zjx w _ (by rw [kg ha,kg hb]) e).1
end NN
set_option maxHeartbeats 4000000
open PySem L2
theorem eI1 {A:Type}{p q:A->Prop}(a:A)(y:p a)(z:q a):∃ a,p a/\q a:=⟨a,y,z⟩
theorem eI2 {A B:Type}{p q:A->B->Prop}(a:A)(b:B)(y:p a b)(z:q a b):∃ a b,p a b/\q a b:=⟨a,b,y,z⟩
theorem eI3 {A B C:Type}{p q:A->B->C->Prop}(a:A)(b:B)(c:C)(y:p a b c)(z:q a b c):∃ a b c,p a b c/\q a b c:=⟨a,b,c,y,z⟩
theorem eI4 {A B C D:Type}{p q:A->B->C->D->Prop}(a:A)(b:B)(c:C)(d:D)(y:p a b c d)(z:q a b c d):∃ a b c d,p a b c d/\q a b c d:=⟨a,b,c,d,y,z⟩
theorem eI5 {A B C D E:Type}{p q:A->B->C->D->E->Prop}(a:A)(b:B)(c:C)(d:D)(e:E)(y:p a b c d e)(z:q a b c d e):∃ a b c d e,p a b c d e/\q a b c d e:=⟨a,b,c,d,e,y,z⟩
theorem eI6 {A B C D E F:Type}{p q:A->B->C->D->E->F->Prop}(a:A)(b:B)(c:C)(d:D)(e:E)(f:F)(y:p a b c d e f)(z:q a b c d e f):∃ a b c d e f,p a b c d e f/\q a b c d e f:=⟨a,b,c,d,e,f,y,z⟩
theorem eI7 {A B C D E F G:Type}{p q:A->B->C->D->E->F->G->Prop}(a:A)(b:B)(c:C)(d:D)(e:E)(f:F)(g:G)(y:p a b c d e f g)(z:q a b c d e f g):∃ a b c d e f g,p a b c d e f g/\q a b c d e f g:=⟨a,b,c,d,e,f,g,y,z⟩
theorem eI8 {A B C D E F G H:Type}{p q:A->B->C->D->E->F->G->H->Prop}(a:A)(b:B)(c:C)(d:D)(e:E)(f:F)(g:G)(h:H)(y:p a b c d e f g h)(z:q a b c d e f g h):∃ a b c d e f g h,p a b c d e f g h/\q a b c d e f g h:=⟨a,b,c,d,e,f,g,h,y,z⟩
local macro_rules | `(tactic| walk_at "ne") => `(tactic| first | assumption | (apply Ne.symm; assumption) | (intro z; subst z; simp_all; done) | grind [upd, zax])
local macro_rules | `(tactic| walk_at "hp") => `(tactic| first | assumption | exact zad | (refine (zab ?_).trans ?_; (focus (walk_at "ne")); walk_at "hp"))
local macro_rules | `(tactic| walk_at "fld") => `(tactic| fail)
local macro_rules | `(tactic| walk_at "ty") => `(tactic| first | exact zlf.int _ | exact zlf.bl _ | exact zlf.str _ | exact zlf.non | exact zlf.lst (by walk_at "hp") | exact zlf.tup (by walk_at "hp") | exact kit_int_int _ | exact kit_int_bool _ | exact kit_bool_bool _ | exact kit_bool_int _ | exact kit_list_list _ | exact kit_tuple_tuple _ | exact kit_str_str _ | exact kit_str_int _ | exact kit_none_int _ | exact kit_none_str _ | exact kit_int_str _ | exact kit_bool_str _ | exact kit_list_str _ | exact kit_list_int _ | exact kit_tuple_str _ | exact kit_tuple_int _ | exact kit_dict_str _ | exact kit_dict_int _)
local macro_rules | `(tactic| walk_at "ar") => `(tactic| (try dsimp only); first | decide | omega | (refine ⟨?_, ?_⟩ <;> first | decide | omega) | (refine ⟨?_, ?_, ?_⟩ <;> first | decide | omega) | (refine Or.inl ⟨?_, ?_⟩ <;> first | decide | omega) | (refine Or.inr ⟨?_, ?_⟩ <;> first | decide | omega))
local macro_rules | `(tactic| walk_at "c") => `(tactic| first | exact rfl | assumption | (walk_at "hp") | exact SqL.of (by walk_at "hp") | exact Or.inl (SqL.of (by walk_at "hp")) | exact Or.inl (by assumption) | exact SqT.of (by walk_at "hp") | exact Or.inr (SqT.of (by walk_at "hp")) | exact Or.inl ⟨rfl, _, SqL.of (by walk_at "hp")⟩ | exact ⟨_, SqL.of (by walk_at "hp")⟩ | (walk_at "fld") | (walk_at "ty") | exact zva _ _ | exact jd rfl | (walk_at "ar"))
local macro_rules | `(tactic| walk_at "e") => `(tactic| first | (apply And.intro; focus (walk_at "c"; done)) | (apply eI1; focus (walk_at "c"; done)) | (apply eI2; focus (walk_at "c"; done)) | (apply eI3; focus (walk_at "c"; done)) | (apply eI4; focus (walk_at "c"; done)) | (apply eI5; focus (walk_at "c"; done)) | (apply eI6; focus (walk_at "c"; done)) | (apply eI7; focus (walk_at "c"; done)) | (apply eI8; focus (walk_at "c"; done)) | (apply Exists.intro; walk_at "e") | assumption | (refine fun (C : Prop) f => ?_; apply f <;> try (focus (walk_at "c"; done))))
local macro_rules | `(tactic| kt_k) => `(tactic| (repeat (walk_at "e")); (first | (with_reducible refine z3f ?_; kt_k) | (with_reducible refine z3p ?_; kt_k) | skip))
local macro_rules | `(tactic| kd_p) => `(tactic| (intro _ _ _ _ h; first | (refine h _ ?_; intros; subst_vars; rfl) | (repeat (first | (obtain ⟨e, _⟩ := h; subst e; rfl) | (obtain ⟨_, h⟩ := h)))))
namespace NN
def top (i:Nat):Stmt:=PySem.Challenge.pw_nearnames_k52_seek_newest.main.body.getD i (.Pass ⟨0,0,0,0⟩)
theorem fS{N P:List Str}{s:Scope}(a:s.kind=.function:=by rfl)(b:s.isCoroutine=false:=by rfl)(c:s.isGenerator=false:=by rfl)(d:N.Nodup:=by decide +kernel)(e:N.take P.length=P:=by rfl)(f:∀ x∈P,s.names.lookup x=some .local\/s.names.lookup x=some .cell:=by decide +kernel)(g:∀ y∈s.names,y.2≠ .free:=by decide +kernel):zam N P s:=⟨a,b,c,d,e,f,g⟩
structure Txt (mg:Str->Option Value):Prop where
 n_len:mg "len" = none
 n_abs:mg "abs" = none
 n_isinstance:mg "isinstance" = none
 n_int:mg "int" = none
 n_bool:mg "bool" = none
 n_str:mg "str" = none
 n_list:mg "list" = none
 n_range:mg "range" = none
 n_min:mg "min" = none
 n_sorted:mg "sorted" = none
 n_sum:mg "sum" = none
 n_enumerate:mg "enumerate" = none
 n_set:mg "set" = none
 n_max:mg "max" = none
 n_all:mg "all" = none
 n_tuple:mg "tuple" = none
structure ZZ (P:Program)(w:World)(K:W.Frag)(mg:Str->Option Value)(base:Heap) where
 ba:DfC K mg "Bucket" ["room","order"]
 bb:DfC K mg "Table" ["own","wide","room","buckets"]
 bc:DfC K mg "Market" ["wide","room","tables","silent","things","layings"]
 bd:DfC K mg "Town" []
 be:DfM K ba.C "__init__" "Bucket.__init__" (zaf (top 20) 0) ["self","room"]
 bf:DfM K ba.C "names" "Bucket.names" (zaf (top 20) 4) ["self"]
 bg:DfM K ba.C "hears_when_full" "Bucket.hears_when_full" (zaf (top 20) 2) ["self","name","answers"]
 bh:DfM K ba.C "hears" "Bucket.hears" (zaf (top 20) 1) ["self","name","answers"]
 bi:Df K mg "far" (top 11) ["one","other"]
 bj:Df K mg "step" (top 13) ["one","other"]
 bk:DfF K mg "by_nearness" (top 12) ["goal","names"]
 bl:DfM K bb.C "__init__" "Table.__init__" (zaf (top 22) 0) ["self","own","wide","room"]
 bm:DfM K bb.C "bucket_of" "Table.bucket_of" (zaf (top 22) 3) ["self","name"]
 bn:DfM K bb.C "hears" "Table.hears" (zaf (top 22) 1) ["self","name","answers"]
 bo:DfM K bb.C "keeps" "Table.keeps" (zaf (top 22) 5) ["self"]
 bp:Df K mg "is_whole" (top 9) ["thing"]
 bq:Df K mg "is_name" (top 10) ["thing","wide"]
 br:DfM K bc.C "is_house" "Town.is_house" (zaf (top 25) 4) ["self","thing"]
 bs:DfM K bc.C "answers" "Town.answers" (zaf (top 25) 3) ["self","name"]
 bt:DfE K mg "NoHouse"
 bu:DfM K bc.C "check_house" "Town.check_house" (zaf (top 25) 16) ["self","thing"]
 bv:DfE K mg "NoName"
 bw:DfM K bc.C "check_name" "Town.check_name" (zaf (top 25) 15) ["self","thing"]
 bx:DfE K mg "Silent"
 bz:DfM K bc.C "check_answering" "Town.check_answering" (zaf (top 25) 17) ["self","thing"]
 b0:DfM K bc.C "houses" "Town.houses" (zaf (top 25) 1) ["self"]
 b1:Df K mg "is_size" (top 24) ["thing","most"]
 b2:DfE K mg "NoSize"
 b3:DfM K bd.C "__init__" "Town.__init__" (zaf (top 25) 0) ["self","wide","room"]
 b4:DfM K bc.C "__init__" "Market.__init__" (zaf (top 27) 0) ["self","wide","room"]
 b5:DfM K bc.C "answering" "Town.answering" (zaf (top 25) 2) ["self"]
 b6:zu2 K bc.C "hears_of" "Town.hears_of" (zaf (top 25) 25) ["self","house","name"]
 b7:DfM K bc.C "meet" "Town.meet" (zaf (top 25) 24) ["self","one","other"]
 b8:DfM K bc.C "come_to" "Town.come_to" (zaf (top 25) 8) ["self","house"]
 b9:DfM K bc.C "visits" "Town.visits" (zaf (top 25) 23) ["self","house","door"]
 ca:DfE K mg "Taken"
 cb:DfM K bc.C "settles" "Market.settles" (zaf (top 27) 9) ["self","house","visited"]
 cc:zx_ K bc.C "come" "Town.come" (zaf (top 25) 11) ["self","name","door"] [Value.none]
 cd:DfM K bc.C "hush" "Town.hush" (zaf (top 25) 13) ["self","house"]
 ce:DfM K bc.C "leaves" "Market.leaves" (zaf (top 27) 10) ["self","house"]
 cf:DfM K bc.C "go" "Town.go" (zaf (top 25) 12) ["self","house"]
 cg:zx_ K bb.C "nearest" "Table.nearest" (zaf (top 22) 6) ["self","goal","many","but"] [Value.none]
 ch:DfM K bc.C "puts" "Market.puts" (zaf (top 27) 7) ["self","house","key","thing"]
 ci:zu2 K bc.C "newest" "Market.newest" (zaf (top 27) 8) ["self","key","houses"]
 cj:DfM K bc.C "kept" "Market.kept" (zaf (top 27) 3) ["self","house"]
 ck:DfM K bc.C "tells" "Town.tells" (zaf (top 25) 7) ["self","house","goal","asker"]
 cl:Df K mg "note_told" (top 16) ["seen","start","house","told"]
 cm:Df K mg "standing" (top 17) ["seen","goal","room"]
 cn:Df K mg "first_unasked" (top 18) ["names","row"]
 co:Df K mg "asked" (top 15) ["start","goal","room","tells"]
 cp:DfM K ba.C "drops" "Bucket.drops" (zaf (top 20) 3) ["self","name"]
 cq:DfM K bb.C "drops" "Table.drops" (zaf (top 22) 2) ["self","name"]
 cr:DfM K bc.C "learns" "Town.learns" (zaf (top 25) 21) ["self","start","row"]
 cs:zu2 K bc.C "teller" "Town.teller" (zaf (top 25) 18) ["self"]
 ct:DfM K bc.C "ask" "Town.ask" (zaf (top 25) 9) ["self","start","goal"]
 cu:DfM K bc.C "lays" "Market.lays" (zaf (top 27) 5) ["self","start","key","thing"]
 cv:DfM K bc.C "lay" "Market.lay" (zaf (top 27) 1) ["self","start","key","text"]
 cw:Df K mg "_law_text" (top 35) ["_law_x"]
 cx:Df K mg "_law_cell_at" (top 29) ["_law_script","_law_k"]
 cz:Df K mg "_law_mixed" (top 30) ["_law_cell","_law_k"]
 c0:Df K mg "_law_draw" (top 31) ["_law_cell","_law_k","_law_plain"]
 c1:Df K mg "_law_sizes" (top 32) ["_law_script"]
 c2:Df K mg "_law_name" (top 33) ["_law_x","_law_wide","_law_base"]
 c3:Df K mg "_law_come" (top 34) ["_law_town","_law_x","_law_base","_law_most"]
 c4:Df K mg "_law_both" (top 36) ["_law_one","_law_other","_law_word","_law_house","_law_key"]
 c5:DfM K bc.C "seek" "Market.seek" (zaf (top 27) 2) ["self","start","key"]
 c6:Df K mg "_law_things" (top 37) ["_law_market"]
 c7:Df K mg "_law_sought" (top 38) ["_law_one","_law_other","_law_start","_law_key","_law_last"]
 c8:Df K mg "_law_turn" (top 39) ["_law_one","_law_other","_law_x","_law_key","_law_last"]
 c9:Df K mg "law" (top 40) ["_law_script"]
 da:Txt mg
 db:K.In base
 dc:base.BuiltinsAt mg bk.P
 dd:base.BuiltinsAt mg b6.P
 de:base.BuiltinsAt mg ci.P
 df:bk.P≠ci.P
 dg:base.BuiltinsAt mg cs.P
 dh:bk.P≠cs.P
 di:bk.P≠b6.P
 dj:cs.P≠b6.P
 dk:b6.P≠ci.P
 dl:cs.P≠ci.P
abbrev zld {P:Program}{w:World}{K:W.Frag}{mg:Str->Option Value}{base:Heap}(_:ZZ P w K mg base)(n:Nat){x:Str}{st:Stmt}{ps:List Str}(D:Df K mg x st ps)(sp:Sp):Prop:=zdm P w K mg base CX0 n D.f D.fd ps sp
abbrev z2w {P:Program}{w:World}{K:W.Frag}{mg:Str->Option Value}{base:Heap}(_:ZZ P w K mg base)(n:Nat){x:Str}{st:Stmt}{ps:List Str}(D:DfF K mg x st ps)(sp:Sp):Prop:=zdm P w K mg base CX0 n D.f D.fd ps sp
abbrev zb2 {P:Program}{w:World}{K:W.Frag}{mg:Str->Option Value}{base:Heap}(_:ZZ P w K mg base)(n:Nat){C:Addr}{m q:Str}{st:Stmt}{ps:List Str}(D:DfM K C m q st ps)(sp:Sp):Prop:=zdm P w K mg base CX0 n D.f D.fd ps sp
abbrev zxw {P:Program}{w:World}{K:W.Frag}{mg:Str->Option Value}{base:Heap}(_:ZZ P w K mg base)(n:Nat){C:Addr}{m q:Str}{st:Stmt}{ps:List Str}(D:zu2 K C m q st ps)(sp:Sp):Prop:=zdm P w K mg base CX0 n D.f D.fd ps sp
abbrev zxa {P:Program}{w:World}{K:W.Frag}{mg:Str->Option Value}{base:Heap}(_:ZZ P w K mg base)(n:Nat){C:Addr}{m q:Str}{st:Stmt}{ps:List Str}{ds:List Value}(D:zx_ K C m q st ps ds)(sp:Sp):Prop:=zdm P w K mg base CX0 n D.f D.fd ps sp
def bF (r:Int)(l:Addr):List (Str × V):=[(("room" : Str),V.int r),(("order" : Str),V.ref l)]
theorem z1s (r:Int)(l l':Addr):zc1 "order" (V.ref l') (bF r l)=bF r l':=by kernel_rfl
theorem z2g (r:Int)(l:Addr):zc1 "order" (V.ref l) (zc1 "room" (V.int r) [])=bF r l:=by kernel_rfl
structure zc0 (C:Addr)(H:Hp)(p l:Addr)(r:Int)(ns:List Int):Prop where
 ob:∃ dx,H p=some (.ins C dx (bF r l))
 li:H l=some (.lst (ns.map V.int))
def zya (C:Addr):Sp:=fun vs H Q _=>∃ (p dx:Addr) (r:Int),vs=[.ref p,.int r]/\H p=some (.ins C dx [])/\∀ (l:Addr) (H':Hp),H l=none->zc0 C H' p l r []->zrk p H H'->Q .non H'
@[irreducible] def zqi (K:W.Frag) (C:Addr) (R:Addr->FuncData->Prop) (spA:Addr->FuncData->Sp):Sp:=fun vs H Q _=>∃ (p l f:Addr) (r n x:Int) (ns:List Int) (fd:FuncData),vs=[.ref p,.int n,.ref f]/\zc0 C H p l r (x :: ns)/\ns.length<=1000 /\
 FnV K H f fd/\R f fd/\spA f fd [.int x] H (fun v H1=>∃ b,v = .bl b/\zc0 C H1 p l r (x :: ns)/\∀ (l':Addr) (H2:Hp),H1 l'=none->zc0 C H2 p l' r (ns++[if b then x else n])->zrk p H1 H2->Q (.str (if b then "full" else "instead")) H2) E0
@[irreducible] def zmp (K:W.Frag) (C:Addr) (R:Addr->FuncData->Prop) (spA:Addr->FuncData->Sp):Sp:=fun vs H Q E=>∃ (p l f:Addr) (r n:Int) (ns:List Int),vs=[.ref p,.int n,.ref f]/\zc0 C H p l r ns/\ns.length<=1000/\1<=r /\
 (n∈ns->∀ H',zc0 C H' p l r (ns.erase n++[n])->zrk l H H'->Q (.str "again") H') /\
 (n∉ns->(ns.length:Int)<r->∀ H',zc0 C H' p l r (ns++[n])->zrk l H H'->Q (.str "new") H') /\
 (n∉ns->r<=(ns.length:Int)->zqi K C R spA vs H Q E0)
def zyw (C:Addr):Sp:=fun vs H Q _=>∃ (p l:Addr) (r n:Int) (ns:List Int),vs=[.ref p,.int n]/\zc0 C H p l r ns /\
 ∀ H',zc0 C H' p l r (ns.erase n)->zrk l H H'->Q (.bl (decide (n∈ns))) H'
def zvx (C:Addr):Sp:=fun vs H Q _=>∃ (p l:Addr) (r:Int) (ns:List Int),vs=[.ref p]/\zc0 C H p l r ns /\
 ∀ (m:Addr) (H':Hp),H m=none->H' m=some (.lst (ns.map V.int))->zax H H'->Q (.ref m) H'

section
variable {P:Program} {w:World} {K:W.Frag} {mg:Str->Option Value} {base:Heap}
local macro_rules | `(tactic| walk_at "fld") => `(tactic| first | exact bF_room _ _ | exact bF_order _ _ | exact bF_full _ _ | exact bF_hears _ _ | exact bF_drops _ _ | exact bF_names _ _ | exact zek _)
theorem zg8:zam ["self","room"] ["self","room"] (zai (zaf (top 20) 0)):=fS
theorem zkg (Z:ZZ P w K mg base):zb2 Z 1 Z.be (zya Z.ba.C):=by
 have d:=Z.ba.cl
 obtain ⟨f,b,-⟩:=Z.ba.na
 refine Z.be.fn.ok zg8 (by kd_p) (fun cdv A outer s H vs Q E hr h=>?_)
 obtain ⟨p,dx,r,rfl,hp,k⟩:=h
 refine ⟨_,(zac (zdv (pv 0) (pv 1) rfl)
  (zah (zdv (pv 0) (zce zag) rfl))),?_⟩
 kt_k
 intro l hl
 have nl:l≠p:=(zae zad hl).symm
 have a:H l=none:=by rw [zab nl] at hl; exact hl
 kt_k
 show Q .non (upd (upd (upd H p (.ins _ dx (zc1 "room" (V.int r) []))) l (.lst [])) p (.ins _ dx (zc1 "order" (V.ref l) (zc1 "room" (V.int r) []))))
 rw [z2g]
 refine k l _ a ⟨⟨dx,zad⟩,?_⟩ fun c o e hc=>?_
 ·rw [zab nl,zad]
  rfl
 ·rw [zab hc,zab (zae e a),zab hc]
  exact e
theorem zjd:zam ["self"] ["self"] (zai (zaf (top 20) 4)):=fS
theorem zjh (Z:ZZ P w K mg base):zb2 Z 1 Z.bf (zvx Z.ba.C):=by
 have b:=Z.ba.cl
 obtain ⟨c,a,-⟩:=Z.ba.na
 refine Z.bf.fn.ok zjd (by kd_p) (fun cdv A outer s H vs Q E hr h=>?_)
 obtain ⟨p,l,r,ns,rfl,⟨⟨dx,hp⟩,hl⟩,k⟩:=h
 refine ⟨_,(zah (zat (zfj zig rfl Z.da.n_list zpp (zaa (za0 (pv 0) rfl) zag)))),?_⟩
 kt_k
 intro m hm
 exact k m _ hm zad (zax.new H hm)
def zwk (spA:Addr->FuncData->Sp):Prop:=∀ f fd vs H (Q Q':VK) E,(∀ v H',Q v H'->Q' v H')->spA f fd vs H Q E->spA f fd vs H Q' E
theorem zck:zam ["self","name","answers","first"] ["self","name","answers"] (zai (zaf (top 20) 2)):=fS
theorem zkw {psA:List Str}{R:Addr->FuncData->Prop}{spA:Addr->FuncData->Sp}(GA:∀ f fd,R f fd->zdm P w K mg base CX0 5 f fd psA (spA f fd))(bA:∀ f fd,R f fd->zcq K fd psA [])(mA:zwk spA)(Z:ZZ P w K mg base):zb2 Z 6 Z.bg (zqi K Z.ba.C R spA):=by
 have ad:=Z.ba.cl
 obtain ⟨ag,ac,-⟩:=Z.ba.na
 refine Z.bg.fn.ok zck (fun vs H Q E h=>?_) (fun cdv A outer s H vs Q E hr h=>?_) <;> unfold zqi at h
 ·obtain ⟨p,l,f,r,n,x,ns,fd,rfl,_⟩:=h
  rfl
 ·obtain ⟨p,l,f,r,n,x,ns,fd,rfl,⟨⟨dx,hp⟩,hl⟩,u,af,hR,k⟩:=h
  refine ⟨_,(zac (zaw (i:=3) zck.nd rfl oL (zey zei (za0 (pv 0) rfl) zal (fun _ _=>rfl)))
   (zac (zbz (zd2 (zp8 (pv 2) GA bA hr.mm (zaa (pv 3) zag)))
    (zac (zdv (pv 0) (za4 zj0 (zdo zev (za0 (pv 0) rfl) (zdx zal) zgl) (zce (zaa (pv 3) zag))) rfl)
    (zah (zat zcj)))
    zay)
   (zac (zdv (pv 0) (za4 zj0 (zdo zev (za0 (pv 0) rfl) (zdx zal) zgl) (zce (zaa (pv 1) zag))) rfl)
   (zah (zat zcj))))),?_⟩
  have hsz:ns.length+1<=sizeLine:=ie (zar (by omega)) |> fun _=>gy (Nat.succ_le_succ u) (by decide)
  kt_k
  refine mA _ _ _ _ _ _ _ (fun v H1 q=>?_) k
  obtain ⟨b,rfl,⟨⟨z,a⟩,ae⟩,k2⟩:=q
  refine ⟨b,rfl,?_⟩
  have t:∀ (y:Int) (p1 p2 p3:Addr),H1 p1=none->upd H1 p1 (.lst (zm2 ((x :: ns).map V.int) (some 1) none)) p2=none ->
    upd (upd H1 p1 (.lst (zm2 ((x :: ns).map V.int) (some 1) none))) p2 (.lst [V.int y]) p3=none->y=(if b then x else n) ->
    Q (.str (if b then "full" else "instead")) (upd (upd (upd (upd H1 p1 (.lst (zm2 ((x :: ns).map V.int) (some 1) none))) p2 (.lst [V.int y])) p3 (.lst (zm2 ((x :: ns).map V.int) (some 1) none++[V.int y]))) p (.ins Z.ba.C z (zc1 "order" (V.ref p3) (bF r l)))):=fun y p1 p2 p3 h1 h2 h3 hy=>by
   have n2:p1≠p2:=zae zad h2
   have aa:H1 p2=none:=by rw [zab n2.symm] at h2; exact h2
   have n3:p2≠p3:=zae zad h3
   have n4:p1≠p3:=by rintro rfl; rw [zab n2,zad] at h3; cases h3
   have m:H1 p3=none:=by rw [zab n3.symm,zab n4.symm] at h3; exact h3
   have g:p≠p3:=zae a m
   refine k2 p3 _ m ⟨⟨z,?_⟩,?_⟩ fun c o e hc=>?_
   ·rw [zad,z1s]
   ·rw [zab g.symm,zad,z30,hy]
    simp
   ·rw [zab hc,zab (zae e m),zab (zae e aa),zab (zae e h1)]
    exact e
  have ab:(zm2 ((x :: ns).map V.int) (some 1) none).length+1<=sizeLine:=by rw [z30,gf]; exact hsz
  cases b with
  | true =>
   kt_k
   intro p1 h1
   kt_k
   intro p2 h2
   kt_k
   intro p3 h3
   have d:p≠p1:=zae a h1
   have j:p≠p2:=by rintro rfl; rw [zab d,a] at h2; cases h2
   have g:p≠p3:=by rintro rfl; rw [zab j,zab d,a] at h3; cases h3
   kt_k
   exact t x p1 p2 p3 h1 h2 h3 rfl
  | false =>
   kt_k
   intro p1 h1
   kt_k
   intro p2 h2
   kt_k
   intro p3 h3
   have d:p≠p1:=zae a h1
   have j:p≠p2:=by rintro rfl; rw [zab d,a] at h2; cases h2
   have g:p≠p3:=by rintro rfl; rw [zab j,zab d,a] at h3; cases h3
   kt_k
   exact t n p1 p2 p3 h1 h2 h3 rfl
theorem zi5:zam ["self","name","answers"] ["self","name","answers"] (zai (zaf (top 20) 1)):=fS
theorem zj8 (Z:ZZ P w K mg base){psA:List Str}{R:Addr->FuncData->Prop}{spA:Addr->FuncData->Sp}(GA:∀ f fd,R f fd->zdm P w K mg base CX0 5 f fd psA (spA f fd))(bA:∀ f fd,R f fd->zcq K fd psA [])(mA:zwk spA):zb2 Z 7 Z.bh (zmp K Z.ba.C R spA):=by
 have j:=Z.ba.cl
 obtain ⟨m,g,-⟩:=Z.ba.na
 have b:=zkw GA bA mA Z
 refine Z.bh.fn.ok zi5 (fun vs H Q E h=>?_) (fun cdv A outer s H vs Q E hr h=>?_) <;> unfold zmp at h
 ·obtain ⟨p,l,f,r,n,ns,rfl,_⟩:=h
  rfl
 ·obtain ⟨p,l,f,r,n,ns,rfl,⟨⟨dx,hp⟩,hl⟩,d,q,kA,kN,kF⟩:=h
  have a:p≠l:=zcv hp hl (by intro z; cases z)
  refine ⟨_,(zac (zbz (zav znr (pv 1) (za0 (pv 0) rfl) (by with_unfolding_all rfl))
    (zac (zas (zn7 ip PySem.F.slot_list_remove PySem.F.type_list_remove zoj (za0 (pv 0) rfl) (zaa (pv 1) zag)))
    (zac (zas (zn7 ip PySem.F.slot_list_append PySem.F.type_list_append zet (za0 (pv 0) rfl) (zaa (pv 1) zag)))
    (zah (zat zcj))))
    zay)
   (zac (zbz (zav zrd (zbf zbh rfl Z.da.n_len zf_ (zaa (za0 (pv 0) rfl) zag)) (za0 (pv 0) rfl) (za6 _))
    (zac (zas (zn7 ip PySem.F.slot_list_append PySem.F.type_list_append zet (za0 (pv 0) rfl) (zaa (pv 1) zag)))
    (zah (zat zcj)))
    zay)
   (zah (zat (pmD (pv 0) Z.ba.cl Z.bg b hr (zaa (pv 1) (zaa (pv 2) zag))))))),?_⟩
  kt_k
  show if inV (V.int n) (ns.map V.int)=true then _ else _
  rw [zja]
  by_cases hn:n∈ns
  ·refine zov hn ?_
   have i:=iw hn
   have hsz:((ns.erase n).map V.int).length<sizeLine:=by rw [gf]; exact zar (by omega)
   kt_k
   refine kA hn _ ⟨⟨dx,by rw [zab a,zab a]; exact hp⟩,by rw [zad]; simp⟩ fun c o e hc=>by rw [zab hc,zab hc]; exact e
  ·refine zgj hn ?_
   kt_k
   show if decide (((ns.map V.int).length:Int)<r)=true then _ else _
   rw [gf]
   by_cases h2:(ns.length:Int)<r
   ·refine zov h2 ?_
    have hsz:(ns.map V.int).length<sizeLine:=by rw [gf]; exact zar (by omega)
    kt_k
    exact kN hn h2 _ ⟨⟨dx,by rw [zab a]; exact hp⟩,by rw [zad]; simp⟩ fun c o e hc=>by rw [zab hc]; exact e
   ·refine zgj h2 ?_
    have hf:=kF hn (by omega)
    kt_k
local macro_rules | `(tactic| walk_at "fld") => `(tactic| first | exact bF_room _ _ | exact bF_order _ _ | exact bF_full _ _ | exact bF_hears _ _ | exact bF_drops _ _ | exact bF_names _ _ | exact zek _)
theorem bx {i j:Int}(hi:0<=i)(hj:0<=j):Builtin.bitXor i j=((i.toNat ^^^ j.toNat:Nat):Int):=by
 have e:=zpg i.toNat j.toNat
 rw [PyProof.Rows.bitXor_and,PyProof.Rows.bitAnd_pp hi hj]
 omega
def z21:Sp:=fun vs H Q _=>∃ i j:Int,vs=[.int i,.int j]/\Q (.int (Builtin.bitXor i j)) H
theorem zw8 (k:Nat):((2 ^ k:Nat):Int)=2 ^ k:=by simp
theorem zwc {i j:Int}(hi:0<=i)(hj:0<=j)(h:i≠j):((Builtin.Int.intBits (Builtin.bitXor i j):Nat):Int) - 1=((i.toNat ^^^ j.toNat).log2:Nat):=by
 have hm:i.toNat ^^^ j.toNat≠0:=fun z=>h (by
  have:=(zew _ _).mp z
  omega)
 rw [bx hi hj]
 unfold Builtin.Int.intBits
 rw [if_neg (by simpa using hm),Int.natAbs_natCast]
 omega
def z18:Sp:=fun vs H Q _=>∃ i j:Int,vs=[.int i,.int j]/\Q (.int ((Builtin.Int.intBits (Builtin.bitXor i j):Nat) - 1)) H
theorem z0x:zam ["one","other"] ["one","other"] (zai (top 11)):=fS
theorem zxv (Z:ZZ P w K mg base):zld Z 1 Z.bi z21:=by
 refine Z.bi.fn.ok z0x (by kd_p) (fun cdv A outer s H vs Q E hr h=>?_)
 obtain ⟨i,j,rfl,k⟩:=h
 refine ⟨_,(zah (zat (za4 zxd (pv 0) (pv 1)))),?_⟩
 exact ⟨_,rfl,_,rfl,_,_,rfl,rfl,k⟩
theorem two_pow_pos (n:Nat):(0:Int)<2 ^ n:=by
 have h:=nq (n:=n) (show 0<2 by decide)
 have e:((2 ^ n:Nat):Int)=2 ^ n:=by simp
 omega
theorem zmz {ns:List Int}{y:Int}{p:Int->Prop}(h:∀ x∈ns,p x)(hy:p y):∀ x∈ns++[y],p x:=fun x hx=>by
 rcases gm.mp hx with z | z
 ·exact h x z
 ·rw [gb.mp z]
  exact hy
theorem zzd:zam ["one","other"] ["one","other"] (zai (top 13)):=fS
theorem zzy (Z:ZZ P w K mg base):zld Z 2 Z.bj z18:=by
 have a:=zxv Z
 refine Z.bj.fn.ok zzd (by kd_p) (fun cdv A outer s H vs Q E hr h=>?_)
 obtain ⟨i,j,rfl,k⟩:=h
 refine ⟨_,(zah (zat (za4 zxn (zoc (pfD Z.bi a hr rfl (zaa (pv 0) (zaa (pv 1) zag)))) zal))),?_⟩
 exact ⟨_,rfl,_,rfl,_,_,rfl,rfl,_,rfl,rfl,_,_,rfl,rfl,k⟩
theorem zun {g a b:Int}(hg:0<=g)(ha:0<=a)(hb:0<=b)(h:Builtin.bitXor g a=Builtin.bitXor g b):a=b:=by
 rw [bx hg ha,bx hg hb] at h
 have e1:=zfv g.toNat a.toNat
 have e2:=zfv g.toNat b.toNat
 have e3:g.toNat ^^^ a.toNat=g.toNat ^^^ b.toNat:=by omega
 rw [e3] at e1
 omega
def zuz:Pos:=⟨0,0,0,0⟩
def z4i (st:Stmt):Expr:=match (zbj st).getD 0 (.Pass zuz) with | .Return (some (.Call _ _ (k :: _) _)) _=>k.value | _=> .Constant .none 0 zuz
def zdk:Expr->Arguments | .Lambda a _ _ _=>a | _=>zcg (.Pass zuz)
def zdj:Expr->Expr | .Lambda _ b _ _=>b | e=>e
def zci:Expr->Scope | .Lambda _ _ s _=>s | _=>zai (.Pass zuz)
def zao:Expr->Pos | .Lambda _ _ _ p=>p | _=>zuz
def zda:Expr:=z4i (top 12)
def quL:Str:=(("by_nearness" : Str) ++ ".<locals>.") ++ "<lambda>"
abbrev RL:Addr->FuncData->Prop:=RLm "<lambda>" quL (zdk zda) (zdj zda) (zci zda)
abbrev z4w (H:Hp)(f:Addr)(cv:List V)(fd:FuncData):Prop:=zww H f "<lambda>" quL (zdk zda) (zdj zda) (zci zda) ["goal"] cv fd
def z2m (cv:List V):Sp:=fun vs H Q _=>∃ g n:Int,vs=[.int n]/\cv=[.int g]/\Q (.int (Builtin.bitXor g n)) H
def spL (f:Addr)(fd:FuncData):Sp:=fun vs H Q E=>∃ cv,cv.length=(["goal"]:List Str).length/\z4w H f cv fd/\z2m cv vs H Q E
def za3 (g:Int)(ns:List Int):List Int:=zj9 (Builtin.bitXor g) (zau (zf2 ns))
def z4s (K:W.Frag)(T:Addr):Sp:=fun vs H Q _=>∃ (g:Int) (p:Addr) (ns:List Int),vs=[.int g,.ref p]/\SqL K H p (ns.map V.int)/\ns.length<64/\0<=g/\(∀ n∈ns,0<=n)/\Tab H T (zao zda) quL /\
 ∀ (l:Addr) (H':Hp),(∀ b o,b≠T->H b=some o->H' b=some o)->Tab H' T (zao zda) quL->H l=none->H' l=some (.lst ((za3 g ns).map V.int))->Q (.ref l) H'
theorem zx9 {f:Addr}{fd:FuncData}(h:RL f fd):zcq K fd ["name"] []:=by
 obtain ⟨clos,pm,c',ct,rfl⟩:=h
 exact .all (us1 fun _=>rfl)
theorem z1w:zhd ["name","goal"] ["name"] ["goal"] (zci zda):=⟨rfl,rfl,rfl,by decide +kernel,by decide +kernel,by decide +kernel,by decide +kernel,by decide +kernel,by decide +kernel,by decide +kernel⟩
theorem z00 (Z:ZZ P w K mg base){f:Addr}{fd:FuncData}:zdm P w K mg base CX0 2 f fd ["name"] (spL f fd):=by
 have a:=zxv Z
 refine zqn (name:= "<lambda>") (qual:=quL) (params:=zdk zda) (body:=zdj zda) (sp:=z2m) z1w (fun cv vs H Q E h=>?_) (fun clos cdv A outer s H cv vs Q E hr c h=>?_)
 ·obtain ⟨g,n,rfl,_⟩:=h
  rfl
 ·obtain ⟨g,n,rfl,rfl,k⟩:=h
  refine ⟨_,(zh0 a hr.mm rfl Z.bi.hm Z.bi.fn.kp Z.bi.b .nil zcb (zaa (pv 1) (zaa (pv 0) zag))),?_⟩
  exact ⟨_,rfl,_,rfl,g,n,rfl,k⟩
theorem zk2:zam ["goal","names"] ["goal","names"] (zai (top 12)):=fS
theorem zv5 (Z:ZZ P w K mg base):z2w Z 5 Z.bk (z4s K Z.bk.P):=by
 refine Z.bk.ok Z.db zk2 (fz:=["goal"]) (by decide +kernel) (by kd_p) (fun A outer s H vs Q E hr h H1 sm t hC=>?_)
 obtain ⟨g,p,ns,rfl,hS,hl,hg,hn,hT,k⟩:=h
 have GL:∀ f fd,RL f fd->zdm P w K mg base CX0 2 f fd ["name"] (spL f fd):=fun f fd _=>z00 Z
 have bL:∀ f fd,RL f fd->zcq K fd ["name"] []:=fun f fd h=>zx9 h
 refine ⟨_,(zah (zat (zvt rfl Z.da.n_sorted zdy GL bL hr.mm (zbf (znz rfl) rfl Z.da.n_sorted zdy (zaa (zfj (zut rfl) rfl Z.da.n_set z0t (zaa (pv 1) zag)) zag)) (zp1 rfl hC Z.dc (zft (by kernel_rfl)))))),?_⟩
 obtain ⟨c1,ab,v1⟩:=t 0 "goal" (.int g) (by decide +kernel) rfl rfl
 have ag:Tab H1 Z.bk.P (zao zda) quL:=(sm.but Z.bk.P).2 _ _ hT
 have ad:=sm.seq hS
 refine ⟨_,rfl,p,ns,rfl,ad,by omega,fun l1 u=>?_⟩
 have ah:=zoa ns
 refine ⟨l1,zf2 ns,rfl,zad,zga ns,by omega,fun l2 aa=>?_⟩
 generalize r:upd (upd H1 l1 _) l2 _=H3
 have s3:zax H1 H3:=by
  rw [<- r]
  exact ((zax.refl H1).lay u).lay aa
 have j:H3 l2=some (.lst ((zau (zf2 ns)).map V.int)):=by rw [<- r,zad]
 have d:Tab H3 Z.bk.P (zao zda) quL:=(s3.but Z.bk.P).2 _ _ ag
 have nP:∀ {b:Addr} {xs:List V},H3 b=some (.lst xs)->b≠Z.bk.P:=fun {b xs} e z=>by
  obtain ⟨ps,hP,_⟩:=d
  rw [z,hP] at e
  cases e
 dsimp only [zt0,zgx]
 refine zl6 d fun f H' fo clos c' oc k1 k2 hb m hf af sh ae cs=>?_
 have keep:∀ c v,zf4 H3 c v->zf4 H' c v:=fun c v hv=>hv.same fun o k e=>hb c _ (fun z=>by
  obtain ⟨ps,hP,_⟩:=d
  rw [z,hP] at e
  cases e) e
 obtain ⟨fd,hd,hR,hF⟩:=zly (qual:=quL) (params:=zdk zda) (body:=zdj zda) (scope:=zci zda) (fr:=["goal"]) (cv:=[.int g]) sh af ae cs (fun i x v h1 h2=>by
  match i,h1,h2 with
  | 0,h1,h2 =>
   cases h1
   cases h2
   exact ⟨by decide +kernel,c1,ab,keep _ _ (v1.same fun o k e=>s3 _ _ e)⟩)
 have nn:∀ x∈zau (zf2 ns),0<=x:=fun x hx=>hn x (zen.mp ((zan _).subset hx))
 refine ⟨l2,f,fd,zau (zf2 ns),Builtin.bitXor g,rfl,rfl,SqL.of (hb _ _ (nP j) j),by rw [zbi]; omega,fun x hx y hy e=>zun hg (nn x hx) (nn y hy) e,hR,fun n _ Q' q=>⟨[.int g],rfl,hF,g,n,rfl,rfl,q⟩,fun l a=>?_⟩
 have s5:zax H' (upd H' l (.lst ((zj9 (Builtin.bitXor g) (zau (zf2 ns))).map V.int))):=(zax.refl H').lay a
 refine k l _ (fun b o ac e=>s5 _ _ (hb _ _ ac (s3 _ _ (sm _ _ e)))) ((s5.but Z.bk.P).2 _ _ m) ?_ zad
 cases e:H l with
 | none=>rfl
 | some o =>
  by_cases z:l=Z.bk.P
  ·obtain ⟨ps,hP,_⟩:=m
   rw [z,hP] at a
   cases a
  ·rw [hb _ _ z (s3 _ _ (sm _ _ e))] at a
   cases a
theorem zfs (g:Int)(ns:List Int):(za3 g ns).Perm (zf2 ns):=(zeu _ _).trans (zan _)
theorem za2 {g:Int}{ns:List Int}{x:Int}:x∈za3 g ns↔x∈ns:=(zfs g ns).mem_iff.trans zen
theorem zs4 (g:Int)(ns:List Int):(za3 g ns).length<=ns.length:=by
 rw [(zfs g ns).length_eq]
 exact zoa ns
def Nx (T:Addr)(H H':Hp):Prop:=(∀ b o,b≠T->H b=some o->H' b=some o)/\Tab H' T (zao zda) quL
theorem Nx.same {T:Addr}{H H1 H2:Hp}(a:Nx T H H1)(s:zax H1 H2):Nx T H H2:=⟨fun b o hb e=>s _ _ (a.1 b o hb e),(s.but T).2 _ _ a.2⟩
theorem Nx.trans {T:Addr}{H H1 H2:Hp}(a:Nx T H H1)(b:Nx T H1 H2):Nx T H H2:=⟨fun c o hc e=>b.1 c o hc (a.1 c o hc e),b.2⟩
theorem Nx.of {T:Addr}{H H1:Hp}(t:Tab H T (zao zda) quL)(s:zax H H1):Nx T H H1:=⟨fun b o _ e=>s _ _ e,(s.but T).2 _ _ t⟩
theorem Nx.free {T b:Addr}{H H1:Hp}(a:Nx T H H1)(e:H1 b=none):H b=none:=by
 cases q:H b with
 | none=>rfl
 | some o =>
  by_cases z:b=T
  ·obtain ⟨ps,hP,_⟩:=a.2
   rw [z,hP] at e
   cases e
  ·rw [a.1 b o z q] at e
   cases e
def zrz {α:Type}(f:Nat->α)(i:Nat)(x:α):Nat->α:=fun j=>if j=i then x else f j
theorem za5 {α:Type}{f:Nat->α}{i:Nat}{x:α}:zrz f i x i=x:=if_pos rfl
theorem zbb {α:Type}{f:Nat->α}{i j:Nat}{x:α}(h:j≠i):zrz f i x j=f j:=if_neg h
abbrev zqp (n:Nat)(f:Nat->Addr):List V:=(n8 n).map fun k=>V.ref (f k)
theorem zmy {n:Nat}{f:Nat->Addr}:(zqp n f).length=n:=by simp
theorem zqh {n:Nat}{f:Nat->Addr}{i:Nat}(h:i<n):(zqp n f)[i]? = some (V.ref (f i)):=by
 unfold zqp
 rw [List.getElem?_map,List.getElem?_range h]
 rfl
theorem zzi {n:Nat}{f:Nat->Addr}{i:Nat}{v:V}(h:(zqp n f)[i]? = some v):i<n/\v=V.ref (f i):=by
 obtain ⟨h1,_⟩:=List.getElem?_eq_some_iff.mp h
 rw [zmy] at h1
 rw [zqh h1] at h
 exact ⟨h1,(Option.some.inj h).symm⟩
theorem zzt {n:Nat}{f:Nat->Addr}{i:Int}(h0:0<=i)(h:i.toNat<n):atI (zqp n f) i=some (V.ref (f i.toNat)):=by
 have e:((i.toNat:Nat):Int)=i:=by omega
 have z:=zml (xs:=zqp n f) (j:=i.toNat) (v:=V.ref (f i.toNat)) (zqh h)
 rwa [e] at z
theorem zsr {n:Nat}{f:Nat->Addr}{b:Addr}:zqp n f++[V.ref b]=zqp (n+1) (zrz f n b):=by
 unfold zqp
 rw [List.range_succ,i9]
 congr 1
 ·refine j5 fun k hk=>?_
  rw [zbb (i0 (mq.mp hk))]
 ·simp [za5]
def zes (ns:Nat->List Int)(k:Nat):List Int:=((n8 k).map ns).flatten
theorem zfo {ns:Nat->List Int}{k:Nat}:zes ns (k+1)=zes ns k++ns k:=by
 unfold zes
 rw [List.range_succ]
 simp
theorem zs_ {ns:Nat->List Int}:∀ {j k:Nat},j<=k->(zes ns j).length<=(zes ns k).length
 | j,0,h=>by
  have:j=0:=by omega
  subst this
  exact gv _
 | j,k+1,h=>by
  by_cases e:j=k+1
  ·subst e
   exact gv _
  ·have:=zs_ (ns:=ns) (j:=j) (k:=k) (by omega)
   rw [zfo,gl]
   omega
def tF (own z r:Int)(l:Addr):List (Str × V):=[(("own" : Str),V.int own),(("wide" : Str),V.int z),(("room" : Str),V.int r),(("buckets" : Str),V.ref l)]
theorem z1r (o z r:Int)(l:Addr):zc1 "buckets" (V.ref l) (zc1 "room" (V.int r) (zc1 "wide" (V.int z) (zc1 "own" (V.int o) [])))=tF o z r l:=by kernel_rfl
structure zdg (CB CT:Addr)(H:Hp)(t bl:Addr)(own z r:Int)(n:Nat)(bA lA:Nat->Addr)(ns:Nat->List Int):Prop where
 ob:∃ dx,H t=some (.ins CT dx (tF own z r bl))
 li:H bl=some (.lst (zqp n bA))
 bk:∀ k,k<n->zc0 CB H (bA k) (lA k) r (ns k)
 bi:∀ i j,i<n->j<n->i≠j->bA i≠bA j
 lj:∀ i j,i<n->j<n->i≠j->lA i≠lA j
 nl:∀ k,k<n->lA k≠bl
structure z4h (n:Nat)(bl:Addr)(lA:Nat->Addr)(x:Addr):Prop where
 b:x≠bl
 l:∀ j,j<n->x≠lA j
section
variable {CB CT t bl:Addr} {own z r:Int} {n:Nat} {bA lA:Nat->Addr} {ns:Nat->List Int} {H H':Hp}
theorem zdg.keep (T:zdg CB CT H t bl own z r n bA lA ns)(s:∀ q o,(∀ ps,o≠ .tbl ps)->H q=some o->H' q=some o):zdg CB CT H' t bl own z r n bA lA ns:=by
 obtain ⟨⟨dx,h1⟩,h2,h3,h4,h5,h6⟩:=T
 refine ⟨⟨dx,s _ _ (fun _ z=>nomatch z) h1⟩,s _ _ (fun _ z=>nomatch z) h2,fun k hk=>?_,h4,h5,h6⟩
 obtain ⟨⟨dx,b1⟩,b2⟩:=h3 k hk
 exact ⟨⟨dx,s _ _ (fun _ z=>nomatch z) b1⟩,s _ _ (fun _ z=>nomatch z) b2⟩
theorem zdg.same (T:zdg CB CT H t bl own z r n bA lA ns)(s:zax H H'):zdg CB CT H' t bl own z r n bA lA ns:=T.keep fun q o _ e=>s q o e
theorem zdg.bne (T:zdg CB CT H t bl own z r n bA lA ns){k:Nat}(hk:k<n):bA k≠t:=fun e=>by
 obtain ⟨dx,h1⟩:=T.ob
 obtain ⟨dy,h2⟩:=(T.bk k hk).ob
 rw [e,h1] at h2
 have:=Option.some.inj h2
 injection this with _ _ h3
 exact absurd (congrArg l9 h3) (by simp [tF,bF])
theorem zdg.turn (T:zdg CB CT H t bl own z r n bA lA ns){k:Nat}(hk:k<n){l':Addr}{xs:List Int}(P:Addr->Prop)(hB:zc0 CB H' (bA k) l' r xs)(hl:l'=lA k\/H l'=none)
  (fr:∀ q o,(∀ ps,o≠ .tbl ps)->H q=some o->q≠bA k->q≠lA k->¬ P q->H' q=some o)(hP:∀ q,P q->z4h n bl lA q/\∃ ys,H q=some (.lst ys)):zdg CB CT H' t bl own z r n bA (zrz lA k l') (zrz ns k xs):=by
 have nP:∀ q C dx fs,H q=some (.ins C dx fs)->¬ P q:=fun q C dx fs e hp=>by
  obtain ⟨_,ys,e2⟩:=hP q hp
  rw [e] at e2
  cases e2
 obtain ⟨dx,h1⟩:=T.ob
 obtain ⟨⟨dk,d⟩,c⟩:=T.bk k hk
 refine ⟨⟨dx,fr _ _ (fun _ z=>nomatch z) h1 (T.bne hk).symm (fun e=>by rw [e,c] at h1; cases h1) (nP _ _ _ _ h1)⟩,?_,fun j hj=>?_,T.bi,fun i j hi hj a=>?_,fun j hj=>?_⟩
 ·exact fr _ _ (fun _ z=>nomatch z) T.li (fun e=>by have:=T.li; rw [e,d] at this; cases this) (T.nl k hk).symm (fun hp=>(hP _ hp).1.b rfl)
 ·by_cases e:j=k
  ·subst e
   rw [za5,za5]
   exact hB
  ·rw [zbb e,zbb e]
   obtain ⟨⟨dj,j1⟩,j2⟩:=T.bk j hj
   refine ⟨⟨dj,fr _ _ (fun _ z=>nomatch z) j1 (T.bi j k hj hk e) (fun z=>by rw [z,c] at j1; cases j1) (nP _ _ _ _ j1)⟩,fr _ _ (fun _ z=>nomatch z) j2 (fun z=>by rw [z,d] at j2; cases j2) (T.lj j k hj hk e) (fun hp=>(hP _ hp).1.l j hj rfl)⟩
 ·have new:∀ m,m<n->m≠k->l'≠lA m:=fun m hm e=>by
   rcases hl with z | z
   ·rw [z]
    exact T.lj k m hk hm e.symm
   ·intro y
    rw [y,(T.bk m hm).li] at z
    cases z
  by_cases e1:i=k
  ·subst e1
   rw [za5,zbb a.symm]
   exact new j hj a.symm
  ·by_cases e2:j=k
   ·subst e2
    rw [za5,zbb e1]
    exact (new i hi e1).symm
   ·rw [zbb e1,zbb e2]
    exact T.lj i j hi hj a
 ·by_cases e:j=k
  ·subst e
   rw [za5]
   rcases hl with z | z
   ·rw [z]
    exact T.nl j hj
   ·intro y
    rw [y,T.li] at z
    cases z
  ·rw [zbb e]
   exact T.nl j hj
end
local macro_rules | `(tactic| walk_at "fld") => `(tactic| first | exact tF_own _ _ _ _ | exact tF_wide _ _ _ _ | exact tF_room _ _ _ _ | exact tF_buckets _ _ _ _ | exact tF_n1 _ _ _ _ | exact tF_n2 _ _ _ _ | exact tF_n3 _ _ _ _ | exact tF_n4 _ _ _ _ | exact tF_n5 _ _ _ _ | exact tF_n6 _ _ _ _)
def za9 (a b:Int):Nat:=(a.toNat ^^^ b.toNat).log2
theorem ze7 {a b:Int}{n:Nat}(ha:0<=a)(hb:0<=b)(h1:a<2 ^ n)(h2:b<2 ^ n)(h:a≠b):za9 a b<n:=by
 have e:=zw8 n
 exact log2_lt (by omega) (by omega) (by omega)
def zz_ (CB CT:Addr):Sp:=fun vs H Q _=>∀ CC:Prop,(∀ (t dx:Addr) (own z r:Int),vs=[.ref t,.int own,.int z,.int r]->H t=some (.ins CT dx [])->0<=z->z<=60->(∀ (bl:Addr) (bA lA:Nat->Addr) (H':Hp),zdg CB CT H' t bl own z r z.toNat bA lA (fun _=>[])->H bl=none->(∀ k,k<z.toNat->H (bA k)=none/\H (lA k)=none)->zrk t H H'->Q .non H')->CC)->CC
def z1m (CB CT:Addr):Sp:=fun vs H Q _=>∀ CC:Prop,(∀ (t bl:Addr) (own z r m:Int) (n:Nat) (bA lA:Nat->Addr) (ns:Nat->List Int),vs=[.ref t,.int m]->zdg CB CT H t bl own z r n bA lA ns->own≠m->0<=own->0<=m->own<2 ^ n->m<2 ^ n->(Q (.ref (bA (za9 own m))) H)->CC)->CC
def zw6 (K:W.Frag)(CB CT:Addr)(R:Addr->FuncData->Prop)(spA:Addr->FuncData->Sp):Sp:=fun vs H Q _=>∃ (t bl f:Addr) (own z r m:Int) (n:Nat) (bA lA:Nat->Addr) (ns:Nat->List Int),vs=[.ref t,.int m,.ref f]/\zdg CB CT H t bl own z r n bA lA ns /\
 0<=own/\0<=m/\own<2 ^ n/\m<2 ^ n/\(own=m->Q (.str "own") H)/\(own≠m->zmp K CB R spA [.ref (bA (za9 own m)),.int m,.ref f] H Q E0)
def zvg (CB CT:Addr):Sp:=fun vs H Q _=>∀ CC:Prop,(∀ (t bl:Addr) (own z r m:Int) (n:Nat) (bA lA:Nat->Addr) (ns:Nat->List Int),vs=[.ref t,.int m]->zdg CB CT H t bl own z r n bA lA ns->0<=own->0<=m->own<2 ^ n->m<2 ^ n->((own=m->Q (.bl false) H)/\(own≠m->∀ H',zc0 CB H' (bA (za9 own m)) (lA (za9 own m)) r ((ns (za9 own m)).erase m)->zrk (lA (za9 own m)) H H'->Q (.bl (decide (m∈ns (za9 own m)))) H'))->CC)->CC
def zvl (CB CT:Addr):Sp:=fun vs H Q _=>∀ CC:Prop,(∀ (t bl:Addr) (own z r:Int) (n:Nat) (bA lA:Nat->Addr) (ns:Nat->List Int),vs=[.ref t]->zdg CB CT H t bl own z r n bA lA ns->(zes ns n).length<64->(∀ (m:Addr) (H':Hp),H m=none->H' m=some (.lst ((zau (zes ns n)).map V.int))->zax H H'->Q (.ref m) H')->CC)->CC
theorem zhx:zam ["self","own","wide","room"] ["self","own","wide","room"] (zai (zaf (top 22) 0)):=fS
theorem zl_ (Z:ZZ P w K mg base):zb2 Z 3 Z.bl (zz_ Z.ba.C Z.bb.C):=by
 have ar:=Z.bb.cl
 obtain ⟨au,ax,a1,ay,-⟩:=Z.bb.na
 have ah:=zkg Z
 refine Z.bl.fn.ok zhx (by kd_p) (fun cdv A outer s H vs Q E hr al=>?_)
 refine al _ fun t dx own z r aj ht hz av k=>?_
 subst aj
 refine ⟨_,(zac (zdv (pv 0) (pv 1) rfl)
  (zac (zdv (pv 0) (pv 2) rfl)
  (zac (zdv (pv 0) (pv 3) rfl)
  (zah (zdv (pv 0) (zht rfl (zbn (own:=["k"]) (caps:=[3]) (N':=["k","room"]) (by kernel_rfl)) (zs9 rfl Z.da.n_range (zaa (pv 2) zag)) (fun _ _ _ _ _=>(zaz (i:=0) (show (["k","room"]:List Str).Nodup by decide +kernel) rfl oL)) (fun _ _ _ _ _=>zr3) (fun _ _ _ _ _=>(zl0 (DfM.mk' Z.ba Z.be) ah hr.mm rfl Z.ba.hm Z.be.b .nil zcb (zaa (pv 1) zag)))) rfl))))),?_⟩
 kt_k
 generalize x:upd (upd (upd H t _) t _) t _=H3
 have aa:H3 t=some (.ins Z.bb.C dx (zc1 "room" (V.int r) (zc1 "wide" (V.int z) (zc1 "own" (V.int own) [])))):=by rw [<- x]; exact zad
 have ae:∀ c,c≠t->H3 c=H c:=fun c hc=>by rw [<- x,zab hc,zab hc,zab hc]
 clear x
 intro D hD
 have ai:D≠t:=(zae aa hD).symm
 refine zrs (lo:=0) (n:=z.toNat) (fun i σ H2=>zis (∃ (bA lA:Nat->Addr) (v0:Option V),σ=[v0,some (.int r)]/\H2 D=some (.lst (zqp i bA))/\(∀ k,k<i->zc0 Z.ba.C H2 (bA k) (lA k) r [])/\(∀ k,k<i->H3 (bA k)=none/\H3 (lA k)=none/\lA k≠D) /\
   (∀ i' j',i'<i->j'<i->i'≠j'->bA i'≠bA j'/\lA i'≠lA j')/\zax H3 H2)) ⟨⟨fun _=>0,fun _=>0,none,rfl,zad,fun _ h=>absurd h (by omega),fun _ h=>absurd h (by omega),fun _ _ h=>absurd h (by omega),zax.new H3 hD⟩⟩ ?_ ?_
 ·rintro i σ H2 hi ⟨bA,lA,v0,rfl,d,u,f,p,s2⟩
  kt_k
  intro b ag hb ap aq
  have a:∀ {q:Addr} {o:HO},H2 q=some o->q≠b/\q≠ag:=fun e=>⟨zae e hb,zae e ap⟩
  refine ⟨b,ag,r,rfl,zad,fun l H5 hl B5 af=>⟨rfl,zqp i bA,?_,by rw [zmy]; exact zar (by omega),?_⟩⟩
  ·exact af _ _ (by rw [zab (a d).1,zab (a d).2]; exact d) (a d).1
  have s5:zax H2 H5:=fun q o e=>af _ _ (by rw [zab (a e).1,zab (a e).2]; exact e) (a e).1
  have v:H2 l=none:=by
   cases q:H2 l with
   | none=>rfl
   | some o=>rw [zab (a q).1,zab (a q).2,q] at hl; cases hl
  have ad:l≠D:=(zae d v).symm
  have am:b≠D:=(zae d hb).symm
  obtain ⟨⟨ac,ak⟩,ao⟩:=B5
  refine ⟨⟨zrz bA i b,zrz lA i l,_,rfl,by rw [zad,zsr],fun k hk=>?_,fun k hk=>?_,fun i' j' aw a0 g=>?_,(s2.trans s5).put hD⟩⟩
  ·by_cases e:k=i
   ·rw [e,za5,za5]
    exact ⟨⟨ac,by rw [zab am]; exact ak⟩,by rw [zab ad]; exact ao⟩
   ·rw [zbb e,zbb e]
    obtain ⟨⟨ab,b1⟩,b2⟩:=u k (by omega)
    have an:bA k≠D:=zcv b1 d (by intro z; cases z)
    exact ⟨⟨ab,by rw [zab an]; exact s5 _ _ b1⟩,by rw [zab (f k (by omega)).2.2]; exact s5 _ _ b2⟩
  ·by_cases e:k=i
   ·rw [e,za5,za5]
    exact ⟨s2.free hb,s2.free v,ad⟩
   ·rw [zbb e,zbb e]
    exact f k (by omega)
  ·have nb:∀ m,m<i->b≠bA m/\l≠lA m:=fun m hm=>by
    obtain ⟨⟨az,b1⟩,b2⟩:=u m hm
    exact ⟨(zae b1 hb).symm,(zae b2 v).symm⟩
   by_cases e1:i'=i
   ·subst e1
    rw [za5,za5,zbb g.symm,zbb g.symm]
    exact nb j' (by omega)
   ·by_cases e2:j'=i
    ·subst e2
     rw [za5,za5,zbb e1,zbb e1]
     have:=nb i' (by omega)
     exact ⟨this.1.symm,this.2.symm⟩
    ·rw [zbb e1,zbb e1,zbb e2,zbb e2]
     exact p i' j' (by omega) (by omega) g
 ·rintro σ H2 ⟨bA,lA,v0,rfl,d,u,f,p,s2⟩
  have a2:=s2 _ _ aa
  kt_k
  show Q .non (upd H2 t (.ins Z.bb.C dx (zc1 "buckets" (V.ref D) (zc1 "room" (V.int r) (zc1 "wide" (V.int z) (zc1 "own" (V.int own) []))))))
  rw [z1r]
  have n3:∀ {q:Addr},H3 q=none->q≠t:=fun h=>(zae aa h).symm
  have y:∀ {q:Addr},H3 q=none->H q=none:=fun h=>by rw [<- ae _ (n3 h)]; exact h
  refine k D bA lA _ ⟨⟨dx,zad⟩,by rw [zab ai]; exact d,fun k hk=>?_,fun i j hi hj h=>(p i j hi hj h).1,fun i j hi hj h=>(p i j hi hj h).2,fun k hk=>(f k hk).2.2⟩ (y hD) (fun k hk=>⟨y (f k hk).1,y (f k hk).2.1⟩) fun c o e hc=>?_
  ·obtain ⟨⟨ab,b1⟩,b2⟩:=u k hk
   exact ⟨⟨ab,by rw [zab (n3 (f k hk).1)]; exact b1⟩,by rw [zab (n3 (f k hk).2.1)]; exact b2⟩
  ·rw [zab hc]
   exact s2 _ _ (by rw [ae _ hc]; exact e)
theorem zg1:zam ["self","name"] ["self","name"] (zai (zaf (top 22) 3)):=fS
theorem zh7 (Z:ZZ P w K mg base){CB:Addr}:zb2 Z 3 Z.bm (z1m CB Z.bb.C):=by
 have h:=Z.bb.cl
 obtain ⟨q,g,o,j,-⟩:=Z.bb.na
 have d:=zzy Z
 refine Z.bm.fn.ok zg1 (by kd_p) (fun cdv A outer s H vs Q E hr f=>?_)
 refine f _ fun t bl own z r m n bA lA ns c hT a h1 h2 h3 h4 k=>?_
 subst c
 obtain ⟨⟨dx,l⟩,p,-⟩:=id hT
 refine ⟨_,(zah (zat (zey zei (za0 (pv 0) rfl) (pfD Z.bj d hr rfl (zaa (za0 (pv 0) rfl) (zaa (pv 1) zag))) (fun _ _=>rfl)))),?_⟩
 have e:=zwc h1 h2 a
 have b:=ze7 h1 h2 h3 h4 a
 have i:atI (zqp n bA) (((Builtin.Int.intBits (Builtin.bitXor own m):Nat):Int) - 1)=some (V.ref (bA (za9 own m))):=by
  rw [e]
  exact zzt (by omega) (by rw [ji]; exact b)
 kt_k
theorem zkn:zam ["self","name","answers"] ["self","name","answers"] (zai (zaf (top 22) 1)):=fS
theorem zk3 (Z:ZZ P w K mg base){psA:List Str}{R:Addr->FuncData->Prop}{spA:Addr->FuncData->Sp}(GA:∀ f fd,R f fd->zdm P w K mg base CX0 5 f fd psA (spA f fd))(bA':∀ f fd,R f fd->zcq K fd psA [])(mA:zwk spA):zb2 Z 8 Z.bn (zw6 K Z.ba.C Z.bb.C R spA):=by
 have l:=Z.bb.cl
 obtain ⟨y,j,q,o,-⟩:=Z.bb.na
 have d:=zh7 (CB:=Z.ba.C) Z
 have g:=zj8 Z GA bA' mA
 refine Z.bn.fn.ok zkn (by kd_p) (fun cdv A outer s H vs Q E hr h=>?_)
 obtain ⟨t,bl,f,own,z,r,m,n,bA,lA,ns,rfl,hT,h1,h2,h3,h4,k1,k2⟩:=h
 obtain ⟨⟨dx,p⟩,v,i,-⟩:=id hT
 refine ⟨_,(zac (zbz (zav zmm (pv 1) (za0 (pv 0) rfl) (za6 _))
   (zah (zat zcj))
   zay)
  (zah (zat (pmD (pmD (pv 0) Z.bb.cl Z.bm d hr (zaa (pv 1) zag)) Z.ba.cl Z.bh g hr (zaa (pv 1) (zaa (pv 2) zag)))))),?_⟩
 kt_k
 by_cases b:m=own
 ·subst b
  refine zov rfl ?_
  exact k1 rfl
 ·have a:own≠m:=fun e=>b e.symm
  refine zgj (fun e=>b (by injection e)) ?_
  have c:=ze7 h1 h2 h3 h4 a
  obtain ⟨⟨dk,x⟩,u⟩:=i _ c
  have hf:=k2 a
  kt_k
theorem zee:zam ["self","names","bucket"] ["self"] (zai (zaf (top 22) 5)):=fS
theorem zf5 (Z:ZZ P w K mg base):zb2 Z 2 Z.bo (zvl Z.ba.C Z.bb.C):=by
 have ae:=Z.bb.cl
 obtain ⟨aj,ad,ai,ag,-⟩:=Z.bb.na
 have h:=zjh Z
 refine Z.bo.fn.ok zee (by kd_p) (fun cdv A outer s H vs Q E hr u=>?_)
 refine u _ fun t bl own z r n bA lA ns g hT aa k=>?_
 subst g
 obtain ⟨⟨dx,l⟩,e,q,-⟩:=id hT
 refine ⟨_,(zac (zaw (i:=1) zee.nd rfl oL (zce zag))
  (zac (zd5 PassesOwn.never rfl (zbr (za0 (pv 0) rfl)) (zaz (i:=2) zee.nd rfl oL)
   (zah (zas (zn7 ip PySem.F.slot_list_extend PySem.F.type_list_extend ztz (pv 1) (zaa (zcm (pv 2) Z.ba.cl Z.bf.me h hr.mm Z.bf.b .nil zcb) zag)))))
  (zah (zat (zbf zo6 rfl Z.da.n_sorted zdy (zaa (pv 1) zag)))))),?_⟩
 kt_k
 intro p hp
 have s0:zax H (upd H p (.lst [])):=zax.new H hp
 have ab:=s0 _ _ l
 have ac:=s0 _ _ e
 kt_k
 refine zcn (K:=K) (a:=bl) (xs:=zqp n bA) (fun i σ H2=>zis (∃ v:Option V,σ=[some (.ref t),some (.ref p),v]/\zax H H2/\H2 p=some (.lst ((zes ns i).map V.int))))
  ⟨⟨none,rfl,s0,zad⟩⟩ (fun i σ H2 _ ⟨_,_,s2,_⟩=>SqL.of (s2 _ _ e)) ?_ ?_
 ·rintro i y σ H2 hi ⟨v,rfl,s2,c⟩
  obtain ⟨d,rfl⟩:=zzi hi
  obtain ⟨⟨dk,f⟩,o⟩:=q _ d
  have hB:zc0 Z.ba.C H2 (bA i) (lA i) r (ns i):=⟨⟨dk,s2 _ _ f⟩,s2 _ _ o⟩
  have x:=s2 _ _ f
  kt_k
  intro m H3 hm af s3
  have ah:=s3 _ _ c
  have hsz:((zes ns i).map V.int).length+((ns i).map V.int).length<=sizeLine:=by
   have e1:=zs_ (ns:=ns) (j:=i+1) (k:=n) d
   rw [zfo,gl] at e1
   rw [gf,gf]
   exact ie (zar (by omega))
  kt_k
  refine ⟨⟨_,rfl,(s2.trans s3).put hp,?_⟩⟩
  rw [zad,zfo,i9]
 ·rintro σ H2 ⟨v,rfl,s2,c⟩
  rw [zmy] at c
  kt_k
  intro m hm
  exact k m _ (s2.free hm) zad (s2.put (s2.free hm))
theorem zpz:zam ["thing"] ["thing"] (zai (top 9)):=fS
def zgv (K:W.Frag)(H:Hp)(v:V):Prop:=(∃ b,v = .bl b)\/∃ t,zlf K H v t/\o5 K t (.type "int")=some false
def zvf (K:W.Frag):Sp:=fun vs H Q _=>∃ v,vs=[v]/\((∃ i,v = .int i)/\Q (.bl true) H\/zgv K H v/\Q (.bl false) H)
theorem zjb (Z:ZZ P w K mg base):zld Z 1 Z.bp (zvf K):=by
 refine Z.bp.fn.ok zpz (by kd_p) (fun cdv A outer s H vs Q E hr h=>?_)
 obtain ⟨v,rfl,h⟩:=h
 refine ⟨_,(zah (zat (zls (zbf zmb rfl Z.da.n_isinstance ze_ (zaa (pv 0) (zaa (zyi rfl Z.da.n_int z0n) zag))) (zla (z2a (zbf zmb rfl Z.da.n_isinstance ze_ (zaa (pv 0) (zaa (zyi rfl Z.da.n_bool zzp) zag)))))))),?_⟩
 rcases h with ⟨⟨i,rfl⟩,k⟩ | ⟨⟨b,rfl⟩ | ⟨t,ht,hk⟩,k⟩
 ·kt_k
 ·kt_k
 ·kt_k
theorem zrc:zam ["thing","wide"] ["thing","wide"] (zai (top 10)):=fS
def zvd (K:W.Frag):Sp:=fun vs H Q _=>∃ (v:V) (z:Int),vs=[v,.int z]/\((∃ i,v = .int i/\Q (.bl (decide (0<=i) && decide (((Builtin.Int.intBits i:Nat):Int)<=z))) H)\/zgv K H v/\Q (.bl false) H)
theorem zln (Z:ZZ P w K mg base):zld Z 2 Z.bq (zvd K):=by
 have a:=zjb Z
 refine Z.bq.fn.ok zrc (by kd_p) (fun cdv A outer s H vs Q E hr h=>?_)
 obtain ⟨v,z,rfl,h⟩:=h
 refine ⟨_,(zah (zat (zls (pfD Z.bp a hr rfl (zaa (pv 0) zag)) (zls (zj1 z3i (pv 0) zal (za6 _)) (zla (zj1 zx3 (zoc (pv 0)) (pv 1) (za6 _))))))),?_⟩
 rcases h with ⟨i,rfl,k⟩ | ⟨hw,k⟩
 ·refine ⟨_,rfl,_,rfl,.inl ⟨⟨i,rfl⟩,?_⟩⟩
  kt_k
  by_cases hi:0<=i
  ·refine zov hi ?_
   rw [decide_eq_true hi,Bool.true_and] at k
   kt_k
  ·refine zgj hi ?_
   rw [decide_eq_false hi,Bool.false_and] at k
   exact k
 ·refine ⟨_,rfl,_,rfl,.inr ⟨hw,?_⟩⟩
  kt_k
def z07 (sp:Sp):Prop:=∀ vs H Q Q' E,(∀ v H,Q v H->Q' v H)->sp vs H Q E->sp vs H Q' E
structure Th where
 a:Addr
 n:Int
 s:Str
def inD (l:List (Int × Th)):List (Key × V):=l.map fun e=>(Sum.inl e.1,V.ref e.2.a)
def thD (ks:List Int)(ad:Int->Addr):List (Key × V):=ks.map fun k=>(Sum.inl k,V.ref (ad k))
def zby (l:List (Int × Th))(h:Int):Option Th:=(l.find? fun e=>decide (e.1=h)).map (·.2)
def zgf (l:List (Int × Th))(h:Int)(t:Th):List (Int × Th):=if (zby l h).isSome then l.map (fun e=>if e.1=h then (h,t) else e) else l++[(h,t)]
def zk8 (l:List (Int × Th))(h:Int):List (Int × Th):=l.filter fun e=> !decide (e.1=h)
theorem zm0 {l:List (Int × Th)}{h:Int}:zdi (inD l) (Sum.inl h)=(zby l h).map fun t=>V.ref t.a:=by
 unfold zdi inD zby
 rw [List.find?_map]
 have e:((fun kv:Key × V=>decide (kv.1=Sum.inl h)) ∘ fun e:Int × Th=>((Sum.inl e.1:Key),V.ref e.2.a))=fun e=>decide (e.1=h):=by
  funext e
  show decide ((Sum.inl e.1:Key)=Sum.inl h)=decide (e.1=h)
  exact decide_eq_decide.mpr ⟨fun z=>by injection z,fun z=>by rw [z]⟩
 rw [e]
 cases l.find? fun e=>decide (e.1=h) <;> rfl
theorem zsm {l:List (Int × Th)}{h:Int}{t:Th}:zd6 (inD l) (Sum.inl h) (V.ref t.a)=inD (zgf l h t):=by
 unfold zd6 zgf
 rw [ze3,zm0]
 cases e:zby l h with
 | none =>
  simp only [Option.map_none,Option.isSome_none,j3,if_false]
  unfold inD
  rw [i9]
  rfl
 | some u =>
  simp only [lh,m5,if_true]
  unfold inD
  rw [jn,jn]
  refine j5 fun x _=>?_
  show (if (Sum.inl x.1:Key)=Sum.inl h then ((Sum.inl x.1:Key),V.ref t.a) else ((Sum.inl x.1:Key),V.ref x.2.a))=(Sum.inl (if x.1=h then (h,t) else x).1,V.ref (if x.1=h then (h,t) else x).2.a)
  by_cases z:x.1=h
  ·rw [if_pos (by rw [z]),if_pos z,z]
  ·rw [if_neg (fun y=>z (by injection y)),if_neg z]
theorem zwf {l:List (Int × Th)}{h:Int}:ze1 (inD l) (Sum.inl h)=inD (zk8 l h):=by
 unfold ze1 inD zk8
 rw [md]
 congr 1
 refine lr fun x _=>?_
 show decide ((Sum.inl x.1:Key)≠Sum.inl h) = !decide (x.1=h)
 by_cases e:x.1=h
 ·rw [e]
  simp
 ·rw [decide_eq_false e]
  simp [e]
theorem zfi {ks:List Int}{ad:Int->Addr}{k:Int}:zdi (thD ks ad) (Sum.inl k)=if k∈ks then some (V.ref (ad k)) else none:=by
 induction ks with
 | nil=>rfl
 | cons h t ih =>
  by_cases e:h=k
  ·subst e
   rw [if_pos (gj ..)]
   exact ze5 rfl
  ·have z:zdi (thD (h :: t) ad) (Sum.inl k)=zdi (thD t ad) (Sum.inl k):=zd8 (by simpa using e)
   rw [z,ih]
   by_cases m:k∈t
   ·rw [if_pos m,if_pos (gc _ m)]
   ·rw [if_neg m,if_neg (by simp [m,Ne.symm e])]
theorem zmt {ks:List Int}{ad:Int->Addr}:(thD ks ad).map (·.1)=ks.map Sum.inl:=by
 unfold thD
 rw [jn]
 rfl
theorem zp3 {l:List (Int × Th)}{h g:Int}{t:Th}:zby (zgf l h t) g=if g=h then some t else zby l g:=by
 unfold zgf
 by_cases e:(zby l h).isSome=true
 ·rw [if_pos e]
  unfold zby at e |-
  induction l with
  | nil=>simp at e
  | cons x r ih =>
   rw [ig,List.find?_cons,List.find?_cons]
   by_cases z:x.1=h
   ·rw [if_pos z]
    by_cases y:g=h
    ·rw [if_pos y]
     simp [y]
    ·rw [if_neg y]
     have n1:decide (h=g)=false:=decide_eq_false (Ne.symm y)
     have n2:decide (x.1=g)=false:=decide_eq_false (fun w=>y (w.symm.trans z))
     simp only [n1,n2]
     clear ih e
     induction r with
     | nil=>rfl
     | cons u r ih =>
      rw [ig,List.find?_cons,List.find?_cons]
      by_cases z':u.1=h
      ·rw [if_pos z']
       have n3:decide (u.1=g)=false:=decide_eq_false (fun w=>y (w.symm.trans z'))
       simp only [n1,n3]
       exact ih
      ·rw [if_neg z']
       cases decide (u.1=g) with
       | true=>rfl
       | false=>exact ih
   ·rw [if_neg z]
    have e':(map (fun x:Int × Th=>x.2) (find? (fun e=>decide (e.1=h)) r)).isSome=true:=by
     rw [List.find?_cons,decide_eq_false z] at e
     exact e
    have:=ih e'
    by_cases y:g=h
    ·rw [if_pos y] at this |-
     have n1:decide (x.1=g)=false:=decide_eq_false (fun w=>z (w.trans y))
     simp only [n1]
     exact this
    ·rw [if_neg y] at this |-
     cases decide (x.1=g) with
     | true=>rfl
     | false=>exact this
 ·rw [if_neg e]
  have e:zby l h=none:=by
   cases q:zby l h with
   | none=>rfl
   | some u=>rw [q] at e; exact absurd rfl e
  unfold zby at e |-
  rw [List.find?_append]
  by_cases y:g=h
  ·subst y
   rw [if_pos rfl]
   rw [jp] at e
   rw [e]
   simp
  ·rw [if_neg y]
   cases q:find? (fun e=>decide (e.1=g)) l with
   | some u=>rfl
   | none=>simp [Ne.symm y]
theorem zbx {l:List (Int × Th)}{h:Int}{t:Th}(e:zby l h=some t):(h,t)∈l:=by
 unfold zby at e
 obtain ⟨x,h1,h2⟩:=j6.mp e
 have a:=List.mem_of_find?_eq_some h1
 have b:=List.find?_some h1
 obtain ⟨x1,x2⟩:=x
 have b:x1=h:=by simpa using b
 subst b
 subst h2
 exact a
theorem ziz {l:List (Int × Th)}{h:Int}{t:Th}{e:Int × Th}(m:e∈zgf l h t):e∈l\/e=(h,t):=by
 unfold zgf at m
 split at m
 ·obtain ⟨x,hx,rfl⟩:=ju.mp m
  by_cases z:x.1=h
  ·rw [if_pos z]
   exact .inr rfl
  ·rw [if_neg z]
   exact .inl hx
 ·exact (gm.mp m).elim .inl fun y=> .inr (gb.mp y)
theorem zp6 {l:List (Int × Th)}{h:Int}{t:Th}:(zgf l h t).length<=l.length+1:=by
 unfold zgf
 split
 ·rw [gf]
  omega
 ·rw [gl,gq]
  omega
structure zco (H:Hp)(gd:Addr)(ks:List Int)(ad:Int->Addr)(G:Int->List (Int × Th)):Prop where
 tg:H gd=some (.dK (thD ks ad))
 it:∀ k∈ks,H (ad k)=some (.dK (inD (G k)))
 tu:∀ k∈ks,∀ e∈G k,H e.2.a=some (.tup [.int k,.int e.2.n,.str e.2.s])
 nk:ks.Nodup
 ni:∀ k∈ks,∀ k'∈ks,ad k=ad k'->k=k'
 ne:∀ k∈ks,ad k≠gd
 go:∀ k,k∉ks->G k=[]
theorem zco.keep {H H':Hp}{gd:Addr}{ks:List Int}{ad:Int->Addr}{G:Int->List (Int × Th)}(M:zco H gd ks ad G)(s:∀ q o,(q=gd\/(∃ k∈ks,q=ad k)\/∃ xs,o = .tup xs)->H q=some o->H' q=some o):zco H' gd ks ad G :=
 ⟨s _ _ (.inl rfl) M.tg,fun k hk=>s _ _ (.inr (.inl ⟨k,hk,rfl⟩)) (M.it k hk),fun k hk e he=>s _ _ (.inr (.inr ⟨_,rfl⟩)) (M.tu k hk e he),M.nk,M.ni,M.ne,M.go⟩
theorem zco.same {H H':Hp}{gd:Addr}{ks:List Int}{ad:Int->Addr}{G:Int->List (Int × Th)}(M:zco H gd ks ad G)(s:zax H H'):zco H' gd ks ad G:=M.keep fun q o _ e=>s _ _ e
def wF (z r:Int)(td sd:Addr)(d:Addr × Addr × Int):List (Str × V):=[(("wide" : Str),V.int z),(("room" : Str),V.int r),(("tables" : Str),V.ref td),(("silent" : Str),V.ref sd),(("things" : Str),V.ref d.2.1),(("layings" : Str),V.int d.2.2)]
theorem z19 (z r:Int)(a b:Addr)(d:Addr × Addr × Int)(n:Int):zc1 "layings" (V.int n) (wF z r a b d)=wF z r a b (d.1,d.2.1,n):=by kernel_rfl
theorem z04 (z r:Int)(a b x g:Addr):zc1 "layings" (V.int 0) (zc1 "things" (V.ref g) (zc1 "silent" (V.ref b) (zc1 "tables" (V.ref a) (zc1 "room" (V.int r) (zc1 "wide" (V.int z) [])))))=wF z r a b (x,g,0):=by kernel_rfl
theorem z25 (m:Str)(h:m∉(["wide","room","tables","silent","things","layings"]:List Str))(z r:Int)(a b:Addr)(d:Addr × Addr × Int):(wF z r a b d).lookup m=none:=by
 simp only [gx,jq,or_false,not_or] at h
 obtain ⟨h1,h2,h3,h4,h5,h6⟩:=h
 have e1:(m == "wide")=false:=beq_eq_false_iff_ne.mpr h1
 have e2:(m == "room")=false:=beq_eq_false_iff_ne.mpr h2
 have e3:(m == "tables")=false:=beq_eq_false_iff_ne.mpr h3
 have e4:(m == "silent")=false:=beq_eq_false_iff_ne.mpr h4
 have e5:(m == "things")=false:=beq_eq_false_iff_ne.mpr h5
 have e6:(m == "layings")=false:=beq_eq_false_iff_ne.mpr h6
 unfold wF
 simp only [List.lookup,e1,e2,e3,e4,e5,e6]
structure zbp where
 t:Addr
 bl:Addr
 bA:Nat->Addr
 lA:Nat->Addr
 ns:Nat->List Int
def zcs (hs:List Int)(T:Int->zbp):List (Key × V):=hs.map fun h=>(Sum.inl h,V.ref (T h).t)
def zfm (sil:List Int):List (Key × V):=sil.map fun h=>(Sum.inl h,V.bl true)
structure zaj (CB CT CW:Addr)(H:Hp)(w td sd:Addr)(z r:Int)(hs sil:List Int)(T:Int->zbp):Prop where
 ob:∃ dx:Addr × Addr × Int,H w=some (.ins CW dx.1 (wF z r td sd dx))
 tb:H td=some (.dK (zcs hs T))
 si:H sd=some (.dK (zfm sil))
 ta:∀ h∈hs,zdg CB CT H (T h).t (T h).bl h z r z.toNat (T h).bA (T h).lA (T h).ns
 nd:hs.Nodup
 hb:∀ h∈hs,0<=h/\h<2 ^ z.toNat
 z1:1<=z
 z2:z<=60
 r1:1<=r
 r2:r<=8
 ln:hs.length<=60
 ts:td≠sd
theorem zaj.keep {CB CT CW:Addr}{H H':Hp}{w td sd:Addr}{z r:Int}{hs sil:List Int}{T:Int->zbp}(W:zaj CB CT CW H w td sd z r hs sil T)(s:∀ q o,(∀ ps,o≠ .tbl ps)->H q=some o->H' q=some o):zaj CB CT CW H' w td sd z r hs sil T:=by
 obtain ⟨⟨dx,h1⟩,h2,h3,h4,h5,h6,h7,h8,h9,c,b,a⟩:=W
 exact ⟨⟨dx,s _ _ (fun _ z=>nomatch z) h1⟩,s _ _ (fun _ z=>nomatch z) h2,s _ _ (fun _ z=>nomatch z) h3,fun h hh=>(h4 h hh).keep s,h5,h6,h7,h8,h9,c,b,a⟩
theorem zdu {hs:List Int}{T:Int->zbp}{i:Int}:zdi (zcs hs T) (Sum.inl i)=if i∈hs then some (V.ref (T i).t) else none:=by
 induction hs with
 | nil=>rfl
 | cons h t ih =>
  by_cases e:h=i
  ·subst e
   rw [if_pos (gj ..)]
   exact ze5 rfl
  ·have z:zdi (zcs (h :: t) T) (Sum.inl i)=zdi (zcs t T) (Sum.inl i):=zd8 (by simpa using e)
   rw [z,ih]
   by_cases m:i∈t
   ·rw [if_pos m,if_pos (gc _ m)]
   ·rw [if_neg m,if_neg (by simp [m,Ne.symm e])]
theorem zgs {sil:List Int}{i:Int}:(zdi (zfm sil) (Sum.inl i)).isSome=decide (i∈sil):=by
 induction sil with
 | nil=>rfl
 | cons h t ih =>
  by_cases e:h=i
  ·subst e
   have z:zdi (zfm (h :: t)) (Sum.inl h)=some (V.bl true):=ze5 rfl
   rw [z]
   simp
  ·have z:zdi (zfm (h :: t)) (Sum.inl i)=zdi (zfm t) (Sum.inl i):=zd8 (by simpa using e)
   rw [z,ih]
   simp [Ne.symm e]
theorem zyq {i z:Int}(hi:0<=i)(hz:0<=z):decide (((Builtin.Int.intBits i:Nat):Int)<=z)=decide (i<2 ^ z.toNat):=by
 have c:((2 ^ z.toNat:Nat):Int)=2 ^ z.toNat:=by simp
 have hp:=two_pow_pos z.toNat
 by_cases h0:i=0
 ·subst h0
  have e:Builtin.Int.intBits 0=0:=by decide +kernel
  rw [e,decide_eq_true (by omega),decide_eq_true hp]
 ·have e:Builtin.Int.intBits i=i.natAbs.log2+1:=by
   unfold Builtin.Int.intBits
   rw [if_neg (by simpa using h0)]
  rw [e]
  have l:=Nat.log2_lt (n:=i.natAbs) (k:=z.toNat) (by omega)
  refine decide_eq_decide.mpr ⟨fun h=>?_,fun h=>?_⟩
  ·have:=l.mp (by omega)
   omega
  ·have:=l.mpr (by omega)
   omega
def zgy (z i:Int):Bool:=decide (0<=i) && decide (((Builtin.Int.intBits i:Nat):Int)<=z)
theorem zfr {z i:Int}(h0:0<=i)(h1:i<2 ^ z.toNat)(hz:1<=z):zgy z i=true:=by
 unfold zgy
 rw [decide_eq_true h0,zyq h0 (by omega),decide_eq_true h1]
 rfl
local macro_rules | `(tactic| walk_at "fld") => `(tactic| first | exact wF_wide _ _ _ _ _ | exact wF_room _ _ _ _ _ | exact wF_tables _ _ _ _ _ | exact wF_silent _ _ _ _ _ | exact wF_things _ _ _ _ _ | exact wF_layings _ _ _ _ _ | exact z25 _ (by decide +kernel) _ _ _ _ _ | exact zg0.k (k := Sum.inl _) (by walk_at "hp"))
def zsd (K:W.Frag)(CB CT CW:Addr):Sp:=fun vs H Q _=>∃ (w td sd:Addr) (z r:Int) (hs sil:List Int) (T:Int->zbp) (v:V),vs=[.ref w,v]/\zaj CB CT CW H w td sd z r hs sil T/\((∃ i,v = .int i/\Q (.bl (zgy z i && decide (i∈hs))) H)\/zgv K H v/\Q (.bl false) H)
def zn8 (K:W.Frag)(CB CT CW:Addr):Sp:=fun vs H Q _=>∃ (w td sd:Addr) (z r:Int) (hs sil:List Int) (T:Int->zbp) (v:V),vs=[.ref w,v]/\zaj CB CT CW H w td sd z r hs sil T/\((∃ i,v = .int i/\Q (.bl (zgy z i && decide (i∈hs) && !decide (i∈sil))) H)\/zgv K H v/\Q (.bl false) H)
theorem zio:zam ["self","thing"] ["self","thing"] (zai (zaf (top 25) 4)):=fS
theorem zdf (Z:ZZ P w K mg base){CB CT:Addr}:zb2 Z 3 Z.br (zsd K CB CT Z.bc.C):=by
 have d:=Z.bc.cl
 obtain ⟨f,c,e,g,-⟩:=Z.bc.na
 have a:=zln Z
 refine Z.br.fn.ok zio (by kd_p) (fun cdv A outer s H vs Q E hr h=>?_)
 obtain ⟨w,td,sd,z,r,hs,sil,TT,v,rfl,hW,h⟩:=h
 obtain ⟨⟨dx,l⟩,b,j,-⟩:=id hW
 refine ⟨_,(zah (zat (zls (pfD Z.bq a hr rfl (zaa (pv 1) (zaa (za0 (pv 0) rfl) zag))) (zla (zxq (zr9 (zdd hr) (pv 1) (za0 (pv 0) rfl))))))),?_⟩
 kt_k
 rcases h with ⟨i,rfl,k⟩ | ⟨hw,k⟩
 ·refine .inl ⟨i,rfl,?_⟩
  refine ⟨_,rfl,?_⟩
  change if zgy z i=true then _ else _
  cases hn:zgy z i with
  | true =>
   rw [hn,Bool.true_and] at k
   kt_k
   rw [zdu]
   by_cases m:i∈hs
   ·rw [if_pos m]
    rw [decide_eq_true m] at k
    exact k
   ·rw [if_neg m]
    rw [decide_eq_false m] at k
    exact k
  | false =>
   rw [hn,Bool.false_and] at k
   kt_k
 ·refine .inr ⟨hw,?_⟩
  kt_k
theorem zji:zam ["self","name"] ["self","name"] (zai (zaf (top 25) 3)):=fS
theorem zb8 (Z:ZZ P w K mg base){CB CT:Addr}:zb2 Z 4 Z.bs (zn8 K CB CT Z.bc.C):=by
 have d:=Z.bc.cl
 obtain ⟨f,c,e,g,-⟩:=Z.bc.na
 have a:=zdf (CB:=CB) (CT:=CT) Z
 refine Z.bs.fn.ok zji (by kd_p) (fun cdv A outer s H vs Q E hr h=>?_)
 obtain ⟨w,td,sd,z,r,hs,sil,TT,v,rfl,hW,h⟩:=h
 obtain ⟨⟨dx,l⟩,b,j,-⟩:=id hW
 refine ⟨_,(zah (zat (zls (pmD (pv 0) Z.bc.cl Z.br a hr (zaa (pv 1) zag)) (zla (zxq (zog (zdd hr) (pv 1) (za0 (pv 0) rfl))))))),?_⟩
 kt_k
 rcases h with ⟨i,rfl,k⟩ | ⟨hw,k⟩
 ·refine .inl ⟨i,rfl,?_⟩
  refine ⟨_,rfl,?_⟩
  cases hn:(zgy z i && decide (i∈hs)) with
  | true =>
   rw [hn,Bool.true_and] at k
   kt_k
   rw [zgs]
   exact k
  | false =>
   rw [hn,Bool.false_and] at k
   kt_k
 ·refine .inr ⟨hw,?_⟩
  kt_k
theorem zgh:zam ["self","thing"] ["self","thing"] (zai (zaf (top 25) 16)):=fS
def zne (CB CT CW:Addr):Sp:=fun vs H Q _=>∀ CC:Prop,(∀ (w td sd:Addr) (z r:Int) (hs sil:List Int) (T:Int->zbp) (i:Int),vs=[.ref w,.int i]->zaj CB CT CW H w td sd z r hs sil T->i∈hs->(Q .non H)->CC)->CC
theorem zbv (Z:ZZ P w K mg base){CB CT:Addr}:zb2 Z 4 Z.bu (zne CB CT Z.bc.C):=by
 have e:=Z.bc.cl
 have c:=zdf (CB:=CB) (CT:=CT) Z
 refine Z.bu.fn.ok zgh (by kd_p) (fun cdv A outer s H vs Q E hr a=>?_)
 refine a _ fun w td sd z r hs sil TT i b hW hi k=>?_
 subst b
 obtain ⟨⟨dx,g⟩,d,f,-⟩:=id hW
 have hn:zgy z i=true:=zfr (hW.hb i hi).1 (hW.hb i hi).2 hW.z1
 refine ⟨_,(zah (zbz (zid (zd2 (pmD (pv 0) Z.bc.cl Z.br c hr (zaa (pv 1) zag))))
   (zah (zfw (W:=fun _=>False) Z.bt rfl rfl (zaa zcj zag) (fun _ _ _ _ _ _ _ _ _ hw=>hw.elim)))
   zay)),?_⟩
 kt_k
 refine .inl ⟨i,rfl,?_⟩
 rw [hn,decide_eq_true hi]
 kt_k
theorem zhb:zam ["self","thing"] ["self","thing"] (zai (zaf (top 25) 15)):=fS
def zpx (CB CT CW:Addr):Sp:=fun vs H Q _=>∀ CC:Prop,(∀ (w td sd:Addr) (z r:Int) (hs sil:List Int) (T:Int->zbp) (i:Int),vs=[.ref w,.int i]->zaj CB CT CW H w td sd z r hs sil T->0<=i->i<2 ^ z.toNat->(Q .non H)->CC)->CC
theorem zd7 (Z:ZZ P w K mg base){CB CT:Addr}:zb2 Z 3 Z.bw (zpx CB CT Z.bc.C):=by
 have f:=Z.bc.cl
 obtain ⟨h,e,g,j,-⟩:=Z.bc.na
 have a:=zln Z
 refine Z.bw.fn.ok zhb (by kd_p) (fun cdv A outer s H vs Q E hr b=>?_)
 refine b _ fun w td sd z r hs sil TT i c hW h0 h1 k=>?_
 subst c
 obtain ⟨⟨dx,m⟩,d,l,-⟩:=id hW
 have hn:zgy z i=true:=zfr h0 h1 hW.z1
 refine ⟨_,(zah (zbz (zid (zd2 (pfD Z.bq a hr rfl (zaa (pv 1) (zaa (za0 (pv 0) rfl) zag)))))
   (zah (zfw (W:=fun _=>False) Z.bv rfl rfl (zaa zcj zag) (fun _ _ _ _ _ _ _ _ _ hw=>hw.elim)))
   zay)),?_⟩
 kt_k
 refine .inl ⟨i,rfl,?_⟩
 unfold zgy at hn
 rw [hn]
 kt_k
theorem ze0:zam ["self","thing"] ["self","thing"] (zai (zaf (top 25) 17)):=fS
def zq7 (CB CT CW:Addr):Sp:=fun vs H Q _=>∀ CC:Prop,(∀ (w td sd:Addr) (z r:Int) (hs sil:List Int) (T:Int->zbp) (i:Int),vs=[.ref w,.int i]->zaj CB CT CW H w td sd z r hs sil T->i∈hs->i∉sil->(Q .non H)->CC)->CC
theorem zbw (Z:ZZ P w K mg base){CB CT:Addr}:zb2 Z 5 Z.bz (zq7 CB CT Z.bc.C):=by
 have g:=Z.bc.cl
 have d:=zbv (CB:=CB) (CT:=CT) Z
 have c:=zb8 (CB:=CB) (CT:=CT) Z
 refine Z.bz.fn.ok ze0 (by kd_p) (fun cdv A outer s H vs Q E hr a=>?_)
 refine a _ fun w td sd z r hs sil TT i b hW hi e k=>?_
 subst b
 obtain ⟨⟨dx,j⟩,f,h,-⟩:=id hW
 have hn:zgy z i=true:=zfr (hW.hb i hi).1 (hW.hb i hi).2 hW.z1
 refine ⟨_,(zac (zas (pmD (pv 0) Z.bc.cl Z.bu d hr (zaa (pv 1) zag)))
  (zah (zbz (zid (zd2 (pmD (pv 0) Z.bc.cl Z.bs c hr (zaa (pv 1) zag))))
   (zah (zfw (W:=fun _=>False) Z.bx rfl rfl (zaa zcj zag) (fun _ _ _ _ _ _ _ _ _ hw=>hw.elim)))
   zay))),?_⟩
 kt_k
 refine .inl ⟨i,rfl,?_⟩
 rw [hn,decide_eq_true hi,decide_eq_false e]
 kt_k
theorem zku:zam ["self"] ["self"] (zai (zaf (top 25) 1)):=fS
def zvr (CB CT CW:Addr):Sp:=fun vs H Q _=>∀ CC:Prop,(∀ (w td sd:Addr) (z r:Int) (hs sil:List Int) (T:Int->zbp),vs=[.ref w]->zaj CB CT CW H w td sd z r hs sil T->(∀ l,H l=none->Q (.ref l) (upd H l (.lst ((zau hs).map V.int))))->CC)->CC
theorem zc8 (Z:ZZ P w K mg base){CB CT:Addr}:zb2 Z 1 Z.b0 (zvr CB CT Z.bc.C):=by
 have g:=Z.bc.cl
 obtain ⟨j,e,h,l,-⟩:=Z.bc.na
 refine Z.b0.fn.ok zku (by kd_p) (fun cdv A outer s H vs Q E hr a=>?_)
 refine a _ fun w td sd z r hs sil TT c hW k=>?_
 subst c
 obtain ⟨⟨dx,n⟩,d,m,-⟩:=id hW
 have i:=hW.ln
 have b:(zcs hs TT).map (·.1)=hs.map Sum.inl:=by
  unfold zcs
  rw [jn]
  rfl
 have f:hs.length<64:=by omega
 refine ⟨_,(zah (zat (zbf (zea rfl) rfl Z.da.n_sorted zdy (zaa (za0 (pv 0) rfl) zag)))),?_⟩
 kt_k
def zvb (v:V)(most:Int):Bool:=match v with | .int i=>decide (1<=i) && decide (i<=most) | _=>false
def zsi (K:W.Frag)(H:Hp)(v:V):Prop:=(∃ i,v = .int i)\/zgv K H v/\∀ i,v≠ .int i
def zv0 (K:W.Frag):Sp:=fun vs H Q _=>∃ (v:V) (m:Int),vs=[v,.int m]/\zsi K H v/\Q (.bl (zvb v m)) H
theorem zrr:zam ["thing","most"] ["thing","most"] (zai (top 24)):=fS
theorem zq0 (Z:ZZ P w K mg base):zld Z 2 Z.b1 (zv0 K):=by
 have b:=zjb Z
 refine Z.b1.fn.ok zrr (by kd_p) (fun cdv A outer s H vs Q E hr h=>?_)
 obtain ⟨v,m,rfl,hk,k⟩:=h
 refine ⟨_,(zah (zat (zls (pfD Z.bp b hr rfl (zaa (pv 0) zag)) (zla (zvo zx3 zx3 zal (pv 0) (pv 1)))))),?_⟩
 rcases hk with ⟨i,rfl⟩ | ⟨hw,a⟩
 ·refine ⟨_,rfl,_,rfl,.inl ⟨⟨i,rfl⟩,?_⟩⟩
  kt_k
  have k:Q (.bl (decide (1<=i) && decide (i<=m))) H:=k
  by_cases h1:1<=i
  ·rw [decide_eq_true h1,Bool.true_and] at k
   refine zov h1 ?_
   kt_k
  ·rw [decide_eq_false h1,Bool.false_and] at k
   refine zgj h1 ?_
   exact k
 ·have e:zvb v m=false:=by
   cases v <;> first | rfl | exact absurd rfl (a _)
  rw [e] at k
  refine ⟨_,rfl,_,rfl,.inr ⟨hw,?_⟩⟩
  kt_k
theorem zij:zam ["self","wide","room"] ["self","wide","room"] (zai (zaf (top 25) 0)):=fS
def zu7 (CW:Addr):Sp:=fun vs H Q _=>∀ CC:Prop,(∀ (w dx:Addr) (z r:Int),vs=[.ref w,.int z,.int r]->H w=some (.ins CW dx [])->1<=z->z<=60->1<=r->r<=8->(∀ (td sd:Addr) (H':Hp),H' w=some (.ins CW dx (zc1 "silent" (V.ref sd) (zc1 "tables" (V.ref td) (zc1 "room" (V.int r) (zc1 "wide" (V.int z) [])))))->H' td=some (.dK [])->H' sd=some (.dK [])->H td=none->H sd=none->td≠sd->td≠w->sd≠w->zrk w H H'->Q .non H')->CC)->CC
theorem zl9 (Z:ZZ P w K mg base):zb2 Z 3 Z.b3 (zu7 Z.bc.C):=by
 have v:=Z.bc.cl
 obtain ⟨ac,u,aa,y,-⟩:=Z.bc.na
 have j:=zq0 Z
 refine Z.b3.fn.ok zij (by kd_p) (fun cdv A outer s H vs Q E hr n=>?_)
 refine n _ fun w dx z r m hw p q t l k=>?_
 subst m
 have e1:zvb (.int z) 60=true:=by
  show (decide (1<=z) && decide (z<=60))=true
  rw [decide_eq_true p,decide_eq_true q]
  rfl
 have e2:zvb (.int r) 8=true:=by
  show (decide (1<=r) && decide (r<=8))=true
  rw [decide_eq_true t,decide_eq_true l]
  rfl
 have x:zsi K H (.int z):= .inl ⟨z,rfl⟩
 have ab:zsi K H (.int r):= .inl ⟨r,rfl⟩
 refine ⟨_,(zac (zbz (zid (zd2 (pfD Z.b1 j hr rfl (zaa (pv 1) (zaa zal zag)))))
   (zah (zfw (W:=fun _=>False) Z.b2 rfl rfl (zaa zcj zag) (fun _ _ _ _ _ _ _ _ _ hw=>hw.elim)))
   zay)
  (zac (zbz (zid (zd2 (pfD Z.b1 j hr rfl (zaa (pv 2) (zaa zal zag)))))
   (zah (zfw (W:=fun _=>False) Z.b2 rfl rfl (zaa zcj zag) (fun _ _ _ _ _ _ _ _ _ hw=>hw.elim)))
   zay)
  (zac (zdv (pv 0) (pv 1) rfl)
  (zac (zdv (pv 0) (pv 2) rfl)
  (zac (zdv (pv 0) zd_ rfl)
  (zah (zdv (pv 0) zd_ rfl))))))),?_⟩
 kt_k
 rw [e1]
 kt_k
 rw [e2]
 kt_k
 intro td i
 have a:td≠w:=(zae zad i).symm
 have f:H td=none:=by rw [zab a,zab a] at i; exact i
 kt_k
 intro sd b
 have d:sd≠w:=fun e=>by rw [e,zad] at b; cases b
 have h:td≠sd:=fun e=>by rw [<- e,zab a,zad] at b; cases b
 have g:H sd=none:=by rw [zab d,zab h.symm,zab d,zab d] at b; exact b
 kt_k
 refine k td sd _ zad ?_ ?_ f g h a d fun c o e hc=>?_
 ·rw [zab a,zab h,zab a,zad]
 ·rw [zab d,zad]
 ·rw [zab hc,zab (zae e g),zab hc,zab (zae e f),zab hc,zab hc]
  exact e
theorem zg4:zam ["self","wide","room"] ["self","wide","room"] (zai (zaf (top 27) 0)):=fS
def zy2 (CB CT CW:Addr):Sp:=fun vs H Q _=>∀ CC:Prop,(∀ (w dx:Addr) (z r:Int),vs=[.ref w,.int z,.int r]->H w=some (.ins CW dx [])->1<=z->z<=60->1<=r->r<=8->(∀ (td sd gd:Addr) (H':Hp) (T:Int->zbp),zaj CB CT CW H' w td sd z r [] [] T->H' w=some (.ins CW dx (wF z r td sd (dx,gd,0)))->zco H' gd [] (fun _=>0) (fun _=>[])->H td=none->H sd=none->H gd=none->td≠sd->gd≠td->gd≠sd->zrk w H H'->Q .non H')->CC)->CC
theorem zkq (Z:ZZ P w K mg base){CB CT:Addr}(hM_Town___init__:zv3 K Z.bd.C "__init__" Z.b3.f):zb2 Z 4 Z.b4 (zy2 CB CT Z.bc.C):=by
 have ak:=Z.bc.cl
 obtain ⟨ao,aj,an,al,ap,am,-⟩:=Z.bc.na
 have a:=Z.bd.hm
 have ac:=zl9 Z
 refine Z.b4.fn.ok zg4 (by kd_p) (fun cdv A outer s H vs Q E hr ae=>?_)
 refine ae _ fun w dx z r aa hw af ag ah y k=>?_
 subst aa
 refine ⟨_,(zac (zas (zu_ rfl a hM_Town___init__ ac hr.mm Z.b3.b .nil zcb (zaa (pv 0) (zaa (pv 1) (zaa (pv 2) zag)))))
  (zac (zdv (pv 0) zd_ rfl)
  (zah (zdv (pv 0) zal rfl)))),?_⟩
 kt_k
 intro td sd H1 v j i ad ai n q t m
 kt_k
 intro gd d
 have l:gd≠w:=(zae v d).symm
 have p:gd≠td:=(zae j d).symm
 have u:gd≠sd:=(zae i d).symm
 have g:H gd=none:=by
  cases e:H gd with
  | none=>rfl
  | some o =>
   rw [m _ _ e l] at d
   cases d
 kt_k
 have ab:∀ H2:Hp,H2=upd (upd (upd H1 gd (.dK [])) w (.ins Z.bc.C dx (zc1 "things" (V.ref gd) (zc1 "silent" (V.ref sd) (zc1 "tables" (V.ref td) (zc1 "room" (V.int r) (zc1 "wide" (V.int z) []))))))) w (.ins Z.bc.C dx (zc1 "layings" (V.int 0) (zc1 "things" (V.ref gd) (zc1 "silent" (V.ref sd) (zc1 "tables" (V.ref td) (zc1 "room" (V.int r) (zc1 "wide" (V.int z) [])))))))->Q .non H2:=fun H2 e2=>by
  have ew:H2 w=some (.ins Z.bc.C dx (wF z r td sd (dx,gd,0))):=by rw [e2,zad,z04 (x:=dx)]
  have et:H2 td=some (.dK []):=by rw [e2,zab q,zab q,zab p.symm]; exact j
  have es:H2 sd=some (.dK []):=by rw [e2,zab t,zab t,zab u.symm]; exact i
  have eg:H2 gd=some (.dK []):=by rw [e2,zab l,zab l,zad]
  refine k td sd gd H2 (fun _=>⟨0,0,fun _=>0,fun _=>0,fun _=>[]⟩) ⟨⟨(dx,gd,0),ew⟩,et,es,fun h hh=>(nomatch hh),j7,fun h hh=>(nomatch hh),af,ag,ah,y,by decide,n⟩ ew ⟨eg,fun _ h=>(nomatch h),fun _ h=>(nomatch h),j7,fun _ h=>(nomatch h),fun _ h=>(nomatch h),fun _ _=>rfl⟩ ad ai g n p u fun c o e hc=>?_
  rw [e2,zab hc,zab hc,zab (zae e g)]
  exact m _ _ e hc
 exact ab _ rfl
theorem zdg.keepD {CB CT t bl:Addr}{own z r:Int}{n:Nat}{bA lA:Nat->Addr}{ns:Nat->List Int}{H H':Hp}(T:zdg CB CT H t bl own z r n bA lA ns)(s:∀ q o,(∀ ps,o≠ .tbl ps)->(∀ d,o≠ .dK d)->H q=some o->H' q=some o):zdg CB CT H' t bl own z r n bA lA ns:=by
 obtain ⟨⟨dx,h1⟩,h2,h3,h4,h5,h6⟩:=T
 refine ⟨⟨dx,s _ _ (fun _ z=>nomatch z) (fun _ z=>nomatch z) h1⟩,s _ _ (fun _ z=>nomatch z) (fun _ z=>nomatch z) h2,fun k hk=>?_,h4,h5,h6⟩
 obtain ⟨⟨dx,b1⟩,b2⟩:=h3 k hk
 exact ⟨⟨dx,s _ _ (fun _ z=>nomatch z) (fun _ z=>nomatch z) b1⟩,s _ _ (fun _ z=>nomatch z) (fun _ z=>nomatch z) b2⟩
theorem zhj:zam ["self"] ["self"] (zai (zaf (top 25) 2)):=fS
def zpi (CB CT CW:Addr):Sp:=fun vs H Q _=>∀ CC:Prop,(∀ (w td sd:Addr) (z r:Int) (hs sil:List Int) (T:Int->zbp),vs=[.ref w]->zaj CB CT CW H w td sd z r hs sil T->(∀ (l:Addr) (H':Hp),zax H H'->H l=none->H' l=some (.lst (((zau hs).filter fun h=> !decide (h∈sil)).map V.int))->Q (.ref l) H')->CC)->CC
theorem zc6 (Z:ZZ P w K mg base){CB CT:Addr}:zb2 Z 5 Z.b5 (zpi CB CT Z.bc.C):=by
 have u:=Z.bc.cl
 have g:=zc8 (CB:=CB) (CT:=CT) Z
 have m:=zb8 (CB:=CB) (CT:=CT) Z
 refine Z.b5.fn.ok zhj (by kd_p) (fun cdv A outer s H vs Q E hr j=>?_)
 refine j _ fun w td sd z r hs sil TT d hW k=>?_
 subst d
 obtain ⟨⟨dx,ab⟩,t,aa,-⟩:=id hW
 have v:=hW.ln
 refine ⟨_,(zah (zat (zht rfl (zbn (own:=["house"]) (caps:=[0]) (N':=["house","self"]) (by kernel_rfl)) (zbr (zcm (pv 0) Z.bc.cl Z.b0.me g hr.mm Z.b0.b .nil zcb)) (fun _ _ _ _ _=>(zaz (i:=0) (show (["house","self"]:List Str).Nodup by decide +kernel) rfl oL)) (fun _ _ _ _ _=>(zfl (zd2 (pmD (pv 1) Z.bc.cl Z.bs m hr (zaa (pv 0) zag))))) (fun _ _ _ _ _=>(pv 0))))),?_⟩
 kt_k
 intro l hl
 kt_k
 intro D hD
 have s1:zax H (upd H l (.lst ((zau hs).map V.int))):=zax.new H hl
 have c:upd H l (.lst ((zau hs).map V.int)) l=some (.lst ((zau hs).map V.int)):=zad
 generalize upd H l (.lst ((zau hs).map V.int))=H1 at s1 c hD |-
 refine zgk (fun h=> !decide (h∈sil)) hD (SqL.of c) (by rw [zbi]; omega) (fun x hx H2 Qt s2 q=>?_) fun H2 s2 f=>?_
 ·have a:x∈hs:=(zan hs).subset hx
  have n:zaj CB CT Z.bc.C H2 w td sd z r hs sil TT:=hW.keep fun q o _ e=>s2 _ _ (s1 _ _ e)
  obtain ⟨y,p⟩:=n.ob
  have hn:zgy z x=true:=zfr (hW.hb x a).1 (hW.hb x a).2 hW.z1
  kt_k
  refine .inl ⟨x,rfl,?_⟩
  rw [hn,decide_eq_true a,Bool.true_and,Bool.true_and]
  kt_k
  exact q H2 (zax.refl H2)
 ·exact k D H2 (s1.trans s2) (s1.free hD) f
theorem Tab.hold {T1:Addr}{po:Pos}{qu:Str}{H H':Hp}(t:Tab H T1 po qu)(s:∀ q o,((∃ x k,o = .frz x k)\/q=T1)->H q=some o->H' q=some o):Tab H' T1 po qu:=by
 obtain ⟨ps,h1,h2,z⟩:=t
 refine ⟨ps,s _ _ (.inr rfl) h1,h2,?_⟩
 rcases z with z | ⟨c',oc,k,z1,z2,z3⟩
 ·exact .inl z
 ·exact .inr ⟨c',oc,k,z1,s _ _ (.inl ⟨_,_,rfl⟩) z2,z3⟩
def zf3 (r:Int)(aw:Int->Bool)(ns:List Int)(n:Int):List Int :=
 if n∈ns then ns.erase n++[n] else if (ns.length:Int)<r then ns++[n] else match ns with | []=>[] | x :: t=>t++[if aw x then x else n]
def zdh {α:Type}(N:Int->α)(h:Int)(x:α):Int->α:=fun g=>if g=h then x else N g
theorem zak {α:Type}{N:Int->α}{h:Int}{x:α}:zdh N h x h=x:=if_pos rfl
theorem zap {α:Type}{N:Int->α}{h g:Int}{x:α}(e:g≠h):zdh N h x g=N g:=if_neg e
def zhe (r:Int)(aw:Int->Bool)(N:Int->Nat->List Int)(h n:Int):Int->Nat->List Int:=zdh N h (zrz (N h) (za9 h n) (zf3 r aw (N h (za9 h n)) n))
def zgd (r:Int)(aw:Int->Bool)(N:Int->Nat->List Int)(a b:Int):Int->Nat->List Int:=zhe r aw (zhe r aw N a b) b a
def zbu (r:Int)(aw:Int->Bool)(N:Int->Nat->List Int)(a:Int):List Int->Int->Nat->List Int
 | []=>N
 | b :: t=>zbu r aw (zgd r aw N a b) a t
theorem zic {r:Int}{aw:Int->Bool}{a b:Int}:∀ {l:List Int} {N:Int->Nat->List Int},zbu r aw N a (l++[b])=zgd r aw (zbu r aw N a l) a b
 | [],_=>rfl
 | _ :: t,_=>zic (l:=t)
theorem zsh {r:Int}{aw:Int->Bool}{ns:List Int}{n m:Int}(h:m∈zf3 r aw ns n):m∈ns\/m=n:=by
 unfold zf3 at h
 split at h
 ·rcases gm.mp h with h | h
  ·exact .inl (List.mem_of_mem_erase h)
  ·exact .inr (gb.mp h)
 ·split at h
  ·rcases gm.mp h with h | h
   ·exact .inl h
   ·exact .inr (gb.mp h)
  ·split at h
   ·cases h
   ·rename_i x t _ _
    rcases gm.mp h with h | h
    ·exact .inl (gc _ h)
    ·have e:=gb.mp h
     split at e
     ·exact .inl (e ▸ gj ..)
     ·exact .inr e
theorem zbd {l:List Int}{x:Int}(h:l.Nodup)(hx:x∉l):(l++[x]).Nodup:=ke.mpr ⟨h,by simp,fun a ha b hb e=>hx (by rw [<- gb.mp hb,<- e]; exact ha)⟩
theorem zps {r:Int}{aw:Int->Bool}{ns:List Int}{n:Int}(h:ns.Nodup):(zf3 r aw ns n).Nodup:=by
 unfold zf3
 split
 ·exact zbd (h.erase n) (List.Nodup.not_mem_erase h)
 ·rename_i hn
  split
  ·exact zbd h hn
  ·split
   ·exact j7
   ·obtain ⟨h1,h2⟩:=ir.mp h
    split
    ·exact zbd h2 h1
    ·exact zbd h2 fun z=>hn (gc _ z)
theorem ztf {r:Int}{aw:Int->Bool}{ns:List Int}{n:Int}(hr:1<=r)(h:(ns.length:Int)<=r):((zf3 r aw ns n).length:Int)<=r:=by
 unfold zf3
 split
 ·rename_i hn
  have:=iw hn
  have:=List.length_pos_of_mem hn
  rw [gl,gq]
  omega
 ·split
  ·rw [gl,gq]
   omega
  ·split
   ·simp only [jl]
    omega
   ·rw [gl,gq]
    rw [ic] at h
    exact h
structure NOk (pool:List Int)(z:Nat)(r:Int)(hs:List Int)(N:Int->Nat->List Int):Prop where
 nd:∀ h∈hs,∀ k,(N h k).Nodup
 le:∀ h∈hs,∀ k,((N h k).length:Int)<=r
 st:∀ h∈hs,∀ k,∀ m∈N h k,m∈pool/\m≠h/\za9 h m=k
theorem NOk.hear {pool:List Int}{z:Nat}{r:Int}{hs:List Int}{N:Int->Nat->List Int}(O:NOk pool z r hs N)(hr:1<=r){aw:Int->Bool}{a b:Int}(hb:b∈pool)(hne:b≠a):NOk pool z r hs (zhe r aw N a b):=by
 unfold zhe
 refine ⟨fun h hh k=>?_,fun h hh k=>?_,fun h hh k m hm=>?_⟩
 ·by_cases e:h=a
  ·subst e
   rw [zak]
   by_cases e2:k=za9 h b
   ·subst e2
    rw [za5]
    exact zps (O.nd h hh _)
   ·rw [zbb e2]
    exact O.nd h hh _
  ·rw [zap e]
   exact O.nd h hh _
 ·by_cases e:h=a
  ·subst e
   rw [zak]
   by_cases e2:k=za9 h b
   ·subst e2
    rw [za5]
    exact ztf hr (O.le h hh _)
   ·rw [zbb e2]
    exact O.le h hh _
  ·rw [zap e]
   exact O.le h hh _
 ·by_cases e:h=a
  ·subst e
   rw [zak] at hm
   by_cases e2:k=za9 h b
   ·subst e2
    rw [za5] at hm
    rcases zsh hm with y | rfl
    ·exact O.st h hh _ m y
    ·exact ⟨hb,hne,rfl⟩
   ·rw [zbb e2] at hm
    exact O.st h hh _ m hm
  ·rw [zap e] at hm
   exact O.st h hh _ m hm
theorem NOk.meet {pool:List Int}{z:Nat}{r:Int}{hs:List Int}{N:Int->Nat->List Int}(O:NOk pool z r hs N)(hr:1<=r){aw:Int->Bool}{a b:Int}(ha:a∈pool)(hb:b∈pool)(hne:b≠a):NOk pool z r hs (zgd r aw N a b):=(O.hear hr hb hne).hear hr ha hne.symm
theorem zc7 {ns:Nat->List Int}{m:Int}:∀ {n:Nat},m∈zes ns n↔∃ k,k<n/\m∈ns k
 | 0=>⟨fun h=>(nomatch h),fun ⟨k,h,_⟩=>absurd h (Nat.not_lt_zero k)⟩
 | n+1=>by
  rw [zfo,gm,zc7 (n:=n)]
  constructor
  ·rintro (⟨k,h1,h2⟩ | h)
   ·exact ⟨k,jc h1,h2⟩
   ·exact ⟨n,iz n,h⟩
  ·rintro ⟨k,h1,h2⟩
   by_cases e:k=n
   ·subst e
    exact .inr h2
   ·exact .inl ⟨k,by omega,h2⟩
theorem zlp {ns:Nat->List Int}{st:Int->Nat}(h1:∀ k,(ns k).Nodup)(h2:∀ k,∀ m∈ns k,st m=k):∀ {n:Nat},(zes ns n).Nodup
 | 0=>j7
 | n+1=>by
  rw [zfo]
  refine ke.mpr ⟨zlp h1 h2,h1 n,fun a ha b hb e=>?_⟩
  subst e
  obtain ⟨k,hk,hm⟩:=zc7.mp ha
  have:=h2 k a hm
  have:=h2 n a hb
  omega
theorem NOk.cat {pool:List Int}{z:Nat}{r:Int}{hs:List Int}{N:Int->Nat->List Int}(O:NOk pool z r hs N){h:Int}(hh:h∈hs)(n:Nat):(zes (N h) n).Nodup:=zlp (st:=za9 h) (O.nd h hh) fun k m hm=>(O.st h hh k m hm).2.2
theorem zbc:∀ {a b:List Int},a.Nodup->(∀ x∈a,x∈b)->a.length<=b.length
 | [],_,_,_=>ix _
 | x :: a,b,h,s=>by
  obtain ⟨h1,h2⟩:=ir.mp h
  have hx:=s x (gj ..)
  have:=zbc (b:=b.erase x) h2 fun y hy=>(List.mem_erase_of_ne (fun (e:y=x)=>h1 (by rw [<- e]; exact hy))).mpr (s y (gc _ hy))
  have e:=iw hx
  have:=List.length_pos_of_mem hx
  rw [ic]
  omega
theorem NOk.len {pool:List Int}{z:Nat}{r:Int}{hs:List Int}{N:Int->Nat->List Int}(O:NOk pool z r hs N){h:Int}(hh:h∈hs)(n:Nat):(zes (N h) n).length<=pool.length :=
 zbc (O.cat hh n) fun x hx=>by
  obtain ⟨k,_,hm⟩:=zc7.mp hx
  exact (O.st h hh k x hm).1
theorem zwt {a b:List Int}(p:a.Perm b):zau a=zau b:=ziv ((zan a).trans p) (zh2 a)
theorem zzc {a b:List Int}(ha:a.Nodup)(hb:b.Nodup)(h:∀ x,x∈a↔x∈b):a.Perm b:=(List.perm_ext_iff_of_nodup ha hb).mpr h
inductive Rch (E:Int->Int->Prop) (d:Int):Int->Prop where
 | own:Rch E d d
 | go {a b:Int}:Rch E d a->E a b->Rch E d b
theorem Rch.of_closed {E:Int->Int->Prop}{d:Int}{ks:List Int}(hd:d∈ks)(hc:∀ a∈ks,∀ b,E a b->b∈ks){x:Int}(h:Rch E d x):x∈ks:=by
 induction h with
 | own=>exact hd
 | go _ e ih=>exact hc _ ih _ e
def zr0 (z:Nat)(aw:Int->Bool)(N:Int->Nat->List Int)(a b:Int):Prop:=b∈zes (N a) z/\aw b=true
theorem zb9 {l:List Int}{j:Nat}{x:Int}(h:l[j]? = some x):l.take (j+1)=l.take j++[x]:=by
 obtain ⟨h1,h2⟩:=List.getElem?_eq_some_iff.mp h
 rw [ik h1,h2]
structure zb4 (z:Nat)(hs:List Int)(T:Int->zbp):Prop where
 b:∀ h∈hs,∀ g∈hs,h≠g->∀ i j,i<z->j<z->(T h).bA i≠(T g).bA j
 l:∀ h∈hs,∀ g∈hs,h≠g->∀ i j,i<z->j<z->(T h).lA i≠(T g).lA j
 n:∀ h∈hs,∀ g∈hs,h≠g->∀ j,j<z->(T h).bl≠(T g).lA j
def zoe (T:Int->zbp)(h:Int)(k:Nat)(l':Addr)(xs:List Int):Int->zbp:=zdh T h ⟨(T h).t,(T h).bl,(T h).bA,zrz (T h).lA k l',zrz (T h).ns k xs⟩
def Own (td sd:Addr)(z:Nat)(hs:List Int)(T:Int->zbp)(q:Addr):Prop:=q=td\/q=sd\/∃ h∈hs,q=(T h).bl\/∃ k,k<z/\(q=(T h).bA k\/q=(T h).lA k)
structure zd1 (T1:Addr)(H H':Hp)(O O':Addr->Prop):Prop where
 k:∀ q o,(∀ ps,o≠ .tbl ps)->H q=some o->¬ O q->H' q=some o
 o:∀ q,O' q->O q\/H q=none
 e:∀ q,H' q=none->H q=none
 t:∀ q ps,H q=some (.tbl ps)->q≠T1->H' q=some (.tbl ps)
theorem zd1.refl {T1:Addr}(H:Hp)(O:Addr->Prop):zd1 T1 H H O O:=⟨fun _ _ _ e _=>e,fun _ h=> .inl h,fun _ h=>h,fun _ _ e _=>e⟩
theorem zd1.same {T1:Addr}{H H':Hp}{O:Addr->Prop}(s:zax H H'):zd1 T1 H H' O O:=⟨fun _ _ _ e _=>s _ _ e,fun _ h=> .inl h,fun q h=>s.free h,fun _ _ e _=>s _ _ e⟩
theorem zd1.trans {T1:Addr}{H H1 H2:Hp}{O O1 O2:Addr->Prop}(a:zd1 T1 H H1 O O1)(b:zd1 T1 H1 H2 O1 O2):zd1 T1 H H2 O O2:=by
 refine ⟨fun q o ho e hn=>b.k q o ho (a.k q o ho e hn) fun z=>?_,fun q z=>?_,fun q h=>a.e q (b.e q h),fun q ps e hq=>b.t q ps (a.t q ps e hq) hq⟩
 ·rcases a.o q z with y | y
  ·exact hn y
  ·rw [e] at y
   cases y
 ·rcases b.o q z with y | y
  ·exact a.o q y
  ·exact .inr (a.e q y)
theorem zdg.only {CB CT t bl:Addr}{own z r:Int}{n:Nat}{bA lA:Nat->Addr}{ns:Nat->List Int}{H H':Hp}(T:zdg CB CT H t bl own z r n bA lA ns)(s1:∀ o,H t=some o->H' t=some o)(s2:∀ o,H bl=some o->H' bl=some o)
  (s3:∀ k,k<n->∀ o,H (bA k)=some o->H' (bA k)=some o)(s4:∀ k,k<n->∀ o,H (lA k)=some o->H' (lA k)=some o):zdg CB CT H' t bl own z r n bA lA ns:=by
 obtain ⟨⟨dx,h1⟩,h2,h3,h4,h5,h6⟩:=T
 refine ⟨⟨dx,s1 _ h1⟩,s2 _ h2,fun k hk=>?_,h4,h5,h6⟩
 obtain ⟨⟨dx,b1⟩,b2⟩:=h3 k hk
 exact ⟨⟨dx,s3 k hk _ b1⟩,s4 k hk _ b2⟩
theorem zoq {C C' dx dx':Addr}{f g:List (Str × V)}{H:Hp}{p q:Addr}(h1:H p=some (.ins C dx f))(h2:H q=some (.ins C' dx' g))(hl:f.length≠g.length):p≠q:=fun e=>by
 rw [e,h2] at h1
 have:=Option.some.inj h1
 injection this with _ _ h3
 exact hl (congrArg l9 h3.symm)
theorem zsv {T:Int->zbp}{h:Int}{k:Nat}{l':Addr}{xs:List Int}:(fun g=>(zoe T h k l' xs g).ns)=zdh (fun g=>(T g).ns) h (zrz (T h).ns k xs):=by
 funext g
 unfold zoe
 by_cases e:g=h
 ·subst e
  rw [zak,zak]
 ·rw [zap e,zap e]
theorem z1a {T:Int->zbp}{h g:Int}{k:Nat}{l':Addr}{xs:List Int}:(zoe T h k l' xs g).t=(T g).t:=by
 unfold zoe
 by_cases e:g=h
 ·subst e
  rw [zak]
 ·rw [zap e]
theorem zts {T:Int->zbp}{h g:Int}{k:Nat}{l':Addr}{xs:List Int}:(zoe T h k l' xs g).bl=(T g).bl:=by
 unfold zoe
 by_cases e:g=h
 ·subst e
  rw [zak]
 ·rw [zap e]
theorem zoz {T:Int->zbp}{h g:Int}{k:Nat}{l':Addr}{xs:List Int}:(zoe T h k l' xs g).bA=(T g).bA:=by
 unfold zoe
 by_cases e:g=h
 ·subst e
  rw [zak]
 ·rw [zap e]
theorem zmq {T:Int->zbp}{h g:Int}{k j:Nat}{l':Addr}{xs:List Int}:(g=h/\j=k/\(zoe T h k l' xs g).lA j=l')\/(¬ (g=h/\j=k)/\(zoe T h k l' xs g).lA j=(T g).lA j):=by
 unfold zoe
 by_cases e:g=h
 ·subst e
  rw [zak]
  by_cases e2:j=k
  ·subst e2
   exact .inl ⟨rfl,rfl,za5⟩
  ·exact .inr ⟨fun z=>e2 z.2,zbb e2⟩
 ·rw [zap e]
  exact .inr ⟨fun z=>e z.1,rfl⟩
theorem zq6 {hs:List Int}{T:Int->zbp}{h:Int}{k:Nat}{l':Addr}{xs:List Int}:zcs hs (zoe T h k l' xs)=zcs hs T:=by
 unfold zcs
 exact j5 fun g _=>by rw [z1a]
section
variable {CB CT CW w td sd:Addr} {H H':Hp} {z r:Int} {hs sil:List Int} {T:Int->zbp}
theorem zaj.turn {T1:Addr}(W:zaj CB CT CW H w td sd z r hs sil T)(A:zb4 z.toNat hs T){h:Int}(hh:h∈hs){k:Nat}(hk:k<z.toNat){l':Addr}{xs:List Int}(hB:zc0 CB H' ((T h).bA k) l' r xs)(hl:l'=(T h).lA k\/H l'=none)
  (fr:∀ q o,(∀ ps,o≠ .tbl ps)->H q=some o->q≠(T h).bA k->q≠(T h).lA k->H' q=some o)(he:∀ q,H' q=none->H q=none)(ft:∀ q ps,H q=some (.tbl ps)->q≠T1->H' q=some (.tbl ps)) :
  zaj CB CT CW H' w td sd z r hs sil (zoe T h k l' xs)/\zb4 z.toNat hs (zoe T h k l' xs)/\zd1 T1 H H' (Own td sd z.toNat hs T) (Own td sd z.toNat hs (zoe T h k l' xs)):=by
 obtain ⟨⟨dx,ab⟩,x,aa,u,aj,ag,al,am,an,ah,ai,af⟩:=id W
 have ae:=u h hh
 obtain ⟨⟨dk,d⟩,p⟩:=ae.bk k hk
 have ao:∀ g∈hs,∀ j,j<z.toNat->∃ ys,H ((T g).lA j)=some (.lst ys):=fun g hg j hj=>⟨_,((u g hg).bk j hj).li⟩
 refine ⟨⟨⟨dx,?_⟩,?_,?_,fun g hg=>?_,aj,ag,al,am,an,ah,ai,af⟩,⟨?_,?_,?_⟩,⟨fun q o ho e hn=>?_,fun q hq=>?_,fun q hq=>?_,ft⟩⟩
 ·exact fr _ _ (fun _ z=>nomatch z) ab (zoq ab d (by simp [wF,bF])) (zcv ab p (by intro z; cases z))
 ·rw [zq6]
  exact fr _ _ (fun _ z=>nomatch z) x (zcv x d (by intro z; cases z)) (zcv x p (by intro z; cases z))
 ·exact fr _ _ (fun _ z=>nomatch z) aa (zcv aa d (by intro z; cases z)) (zcv aa p (by intro z; cases z))
 ·by_cases e:g=h
  ·subst e
   have:=ae.turn hk (fun _=>False) hB hl (fun q o ho e a b _=>fr q o ho e a b) (fun _ z=>z.elim)
   unfold zoe
   rw [zak]
   exact this
  ·unfold zoe
   rw [zap e]
   have t:=u g hg
   obtain ⟨dg,ak⟩:=t.ob
   refine t.only (fun o eo=>?_) (fun o eo=>?_) (fun j hj o eo=>?_) (fun j hj o eo=>?_)
   ·have e1:=ak.symm.trans eo
    cases e1
    exact fr _ _ (fun _ z=>nomatch z) eo (zoq eo d (by simp [tF,bF])) (zcv eo p (by intro z; cases z))
   ·have e1:=t.li.symm.trans eo
    cases e1
    exact fr _ _ (fun _ z=>nomatch z) eo (zcv eo d (by intro z; cases z)) (A.n g hg h hh e k hk)
   ·obtain ⟨⟨dj,ad⟩,ac⟩:=t.bk j hj
    have e1:=ad.symm.trans eo
    cases e1
    exact fr _ _ (fun _ z=>nomatch z) eo (A.b g hg h hh e j k hj hk) (zcv eo p (by intro z; cases z))
   ·obtain ⟨⟨dj,ad⟩,ac⟩:=t.bk j hj
    have e1:=ac.symm.trans eo
    cases e1
    exact fr _ _ (fun _ z=>nomatch z) eo (zcv eo d (by intro z; cases z)) (A.l g hg h hh e j k hj hk)
 ·intro g hg g' f c i j hi hj
  rw [zoz,zoz]
  exact A.b g hg g' f c i j hi hj
 ·intro g hg g' f c i j hi hj
  have fresh:∀ s∈hs,s≠h->∀ m,m<z.toNat->l'≠(T s).lA m:=fun s v hn m hm=>by
   rcases hl with y | y
   ·rw [y]
    exact A.l h hh s v (Ne.symm hn) k m hk hm
   ·obtain ⟨ys,hy⟩:=ao s v m hm
    exact (zae hy y).symm
  rcases zmq (T:=T) (h:=h) (g:=g) (k:=k) (j:=i) (l':=l') (xs:=xs) with ⟨a1,a2,a3⟩ | ⟨a1,a3⟩ <;> rcases zmq (T:=T) (h:=h) (g:=g') (k:=k) (j:=j) (l':=l') (xs:=xs) with ⟨b1,b2,b3⟩ | ⟨b1,b3⟩
  ·exact absurd (a1.trans b1.symm) c
  ·rw [a3,b3]
   exact fresh g' f (fun y=>c (a1.trans y.symm)) j hj
  ·rw [a3,b3]
   exact (fresh g hg (fun y=>c (y.trans b1.symm)) i hi).symm
  ·rw [a3,b3]
   exact A.l g hg g' f c i j hi hj
 ·intro g hg g' f c j hj
  rw [zts]
  rcases zmq (T:=T) (h:=h) (g:=g') (k:=k) (j:=j) (l':=l') (xs:=xs) with ⟨b1,b2,b3⟩ | ⟨b1,b3⟩
  ·rw [b3]
   rcases hl with y | y
   ·rw [y]
    exact A.n g hg h hh (fun y=>c (y.trans b1.symm)) k hk
   ·exact zae (u g hg).li y
  ·rw [b3]
   exact A.n g hg g' f c j hj
 ·exact fr q o ho e (fun y=>hn (.inr (.inr ⟨h,hh,.inr ⟨k,hk,.inl y⟩⟩))) (fun y=>hn (.inr (.inr ⟨h,hh,.inr ⟨k,hk,.inr y⟩⟩)))
 ·rcases hq with y | y | ⟨g,hg,y | ⟨j,hj,y⟩⟩
  ·exact .inl (.inl y)
  ·exact .inl (.inr (.inl y))
  ·rw [zts] at y
   exact .inl (.inr (.inr ⟨g,hg,.inl y⟩))
  ·rw [zoz] at y
   rcases y with y | y
   ·exact .inl (.inr (.inr ⟨g,hg,.inr ⟨j,hj,.inl y⟩⟩))
   ·rcases zmq (T:=T) (h:=h) (g:=g) (k:=k) (j:=j) (l':=l') (xs:=xs) with ⟨b1,b2,b3⟩ | ⟨b1,b3⟩
    ·rw [b3] at y
     subst y
     rcases hl with y | y
     ·exact .inl (.inr (.inr ⟨h,hh,.inr ⟨k,hk,.inr y⟩⟩))
     ·exact .inr y
    ·rw [b3] at y
     exact .inl (.inr (.inr ⟨g,hg,.inr ⟨j,hj,.inr y⟩⟩))
 ·exact he q hq
end
def zdz:Expr:=match (zbj (zaf (top 25) 25)).getD 0 (.Pass zuz) with | .Expr (.Call _ (_ :: e :: _) _ _) _=>e | _=> .Constant .none 0 zuz
def quH:Str:=(("Town.hears_of" : Str) ++ ".<locals>.") ++ "<lambda>"
abbrev RH:Addr->FuncData->Prop:=RLm "<lambda>" quH (zdk zdz) (zdj zdz) (zci zdz)
abbrev z4e (H:Hp)(f:Addr)(cv:List V)(fd:FuncData):Prop:=zww H f "<lambda>" quH (zdk zdz) (zdj zdz) (zci zdz) ["self"] cv fd
def z34 (K:W.Frag)(CB CT CW:Addr)(cv:List V):Sp:=fun vs H Q E=>∃ (w:Addr) (i:V),vs=[i]/\cv=[.ref w]/\(∃ dx fs,H w=some (.ins CW dx fs)/\fs.lookup ("answers" : Str)=none)/\zn8 K CB CT CW [.ref w,i] H Q E
def spH (K:W.Frag)(CB CT CW:Addr)(f:Addr)(fd:FuncData):Sp:=fun vs H Q E=>∃ cv,cv.length=(["self"]:List Str).length/\z4e H f cv fd/\z34 K CB CT CW cv vs H Q E
theorem zw0 {K:W.Frag}{CB CT CW:Addr}:zwk (spH K CB CT CW):=fun f fd vs H Q Q' E hq h=>by
 obtain ⟨cv,h1,h2,w,i,e1,e2,h3,w',td,sd,z,r,hs,sil,T,v,e3,hW,k⟩:=h
 refine ⟨cv,h1,h2,w,i,e1,e2,h3,w',td,sd,z,r,hs,sil,T,v,e3,hW,?_⟩
 rcases k with ⟨j,e,k⟩ | ⟨a,k⟩
 ·exact .inl ⟨j,e,hq _ _ k⟩
 ·exact .inr ⟨a,hq _ _ k⟩
def awB (hs sil:List Int)(x:Int):Bool:=decide (x∈hs) && !decide (x∈sil)
theorem zqb {z:Int}{hs sil:List Int}(hb:∀ h∈hs,0<=h/\h<2 ^ z.toNat)(z1:1<=z)(x:Int):(zgy z x && decide (x∈hs) && !decide (x∈sil))=awB hs sil x:=by
 unfold awB
 by_cases e:x∈hs
 ·rw [zfr (hb x e).1 (hb x e).2 z1,Bool.true_and]
 ·rw [decide_eq_false e,Bool.and_false,Bool.false_and]
theorem zy8 {f:Addr}{fd:FuncData}(h:RH f fd):zcq K fd ["first"] []:=by
 obtain ⟨clos,pm,c',ct,rfl⟩:=h
 exact .all (us1 fun _=>rfl)
theorem zy7:zhd ["first","self"] ["first"] ["self"] (zci zdz):=⟨rfl,rfl,rfl,by decide +kernel,by decide +kernel,by decide +kernel,by decide +kernel,by decide +kernel,by decide +kernel,by decide +kernel⟩
theorem zzq (Z:ZZ P w K mg base){CB CT:Addr}{f:Addr}{fd:FuncData}:zdm P w K mg base CX0 5 f fd ["first"] (spH K CB CT Z.bc.C f fd):=by
 have c:=zb8 (CB:=CB) (CT:=CT) Z
 refine zqn (name:= "<lambda>") (qual:=quH) (params:=zdk zdz) (body:=zdj zdz) (sp:=z34 K CB CT Z.bc.C) zy7 (fun cv vs H Q E h=>?_) (fun clos cdv A outer s H cv vs Q E hr d h=>?_)
 ·obtain ⟨w,i,rfl,_⟩:=h
  rfl
 ·obtain ⟨w,i,rfl,rfl,⟨dx,fs,hw,a⟩,k⟩:=h
  refine ⟨_,(zed (pv 1) Z.bc.cl Z.bs.me c hr.mm Z.bs.b .nil zcb (zaa (pv 0) zag)),?_⟩
  exact ⟨_,rfl,w,dx,fs,rfl,hw,a,_,rfl,k⟩
def zuq (K:W.Frag)(CB CT CW T1:Addr):Sp:=fun vs H Q _=>∀ CC:Prop,(∀ (w td sd:Addr) (z r:Int) (hs sil:List Int) (T:Int->zbp) (h n:Int),vs=[.ref w,.int h,.int n]->zaj CB CT CW H w td sd z r hs sil T->zb4 z.toNat hs T->h∈hs->0<=n->n<2 ^ z.toNat->n≠h->((∀ k,((T h).ns k).length<=1000))->Tab H T1 (zao zdz) quH->(∀ (H':Hp) (T':Int->zbp),zaj CB CT CW H' w td sd z r hs sil T'->zb4 z.toNat hs T'->(fun g=>(T' g).ns)=zhe r (awB hs sil) (fun g=>(T g).ns) h n->zd1 T1 H H' (Own td sd z.toNat hs T) (Own td sd z.toNat hs T')->Tab H' T1 (zao zdz) quH->Q .non H')->CC)->CC
theorem ziu:zam ["self","house","name"] ["self","house","name"] (zai (zaf (top 25) 25)):=fS
theorem zii (Z:ZZ P w K mg base):zxw Z 9 Z.b6 (zuq K Z.ba.C Z.bb.C Z.bc.C Z.b6.P):=by
 have a8:=Z.bc.cl
 obtain ⟨bf,bi,bq,bo,-⟩:=Z.bc.na
 have GA:∀ f fd,RH f fd->zdm P w K mg base CX0 5 f fd ["first"] (spH K Z.ba.C Z.bb.C Z.bc.C f fd):=fun f fd _=>zzq Z
 have bA:∀ f fd,RH f fd->zcq K fd ["first"] []:=fun f fd h=>zy8 h
 have av:=zk3 Z GA bA zw0
 refine Z.b6.ok Z.db ziu (fz:=["self"]) (by decide +kernel) (by kd_p) (fun A outer s H vs Q E hr ay H1 sm ar hC=>?_)
 refine ay _ fun w td sd z r hs sil TT h n au ai hA hh ag ao af ab hT k0=>?_
 subst au
 have hW:zaj Z.ba.C Z.bb.C Z.bc.C H1 w td sd z r hs sil TT:=ai.keep fun q o _ e=>sm _ _ e
 have k:∀ (H':Hp) (T':Int->zbp),zaj Z.ba.C Z.bb.C Z.bc.C H' w td sd z r hs sil T'->zb4 z.toNat hs T'->(fun g=>(T' g).ns)=zhe r (awB hs sil) (fun g=>(TT g).ns) h n->zd1 Z.b6.P H1 H' (Own td sd z.toNat hs TT) (Own td sd z.toNat hs T')->Tab H' Z.b6.P (zao zdz) quH->Q .non H':=fun H' T' a b c d e=>k0 H' T' a b c ((zd1.same sm).trans d) e
 have an:Tab H1 Z.b6.P (zao zdz) quH:=(sm.but _).2 _ _ hT
 clear k0 ai
 obtain ⟨⟨dx,be⟩,aq,bp,a2,bd,l,az,bg,a3,a9,bj,bh⟩:=id hW
 have aw:=a2 h hh
 obtain ⟨br,a5⟩:=aw.ob
 have hg:zg0 H1 td (V.int h) (some (V.ref (TT h).t)):=by
  have:=zg0.k (k:=Sum.inl h) aq
  rw [zdu,if_pos hh] at this
  exact this
 obtain ⟨c1,ax,v1⟩:=ar 0 "self" (.ref w) (by decide +kernel) rfl rfl
 refine ⟨_,(zah (zas (pmD (zdt (zdd hr) (za0 (pv 0) rfl) (pv 1) (fun _ _=>rfl)) Z.bb.cl Z.bn av hr (zaa (pv 2) (zaa (zp1 rfl hC Z.dd (zft (by kernel_rfl))) zag))))),?_⟩
 kt_k
 refine zl6 an fun f H2 fo clos c' oc k1 k2 hb u hf ak sh a0 cs=>?_
 have nP:∀ {b:Addr} {o:HO},(∀ ps,o≠ .tbl ps)->H1 b=some o->H2 b=some o:=fun {b o} ho e=>hb b o (fun y=>by
  obtain ⟨ps,hP,_⟩:=an
  rw [y,hP] at e
  cases e
  exact ho _ rfl) e
 have keep:∀ c v,zf4 H1 c v->zf4 H2 c v:=fun c v hv=>hv.same fun o k e=>nP (fun _ z=>nomatch z) e
 obtain ⟨fd,hd,hR,hF⟩:=zly (qual:=quH) (params:=zdk zdz) (body:=zdj zdz) (scope:=zci zdz) (fr:=["self"]) (cv:=[.ref w]) sh ak a0 cs (fun i x v h1 h2=>by
  match i,h1,h2 with
  | 0,h1,h2 =>
   cases h1
   cases h2
   exact ⟨by decide +kernel,c1,ax,keep _ _ v1⟩)
 have ac:zaj Z.ba.C Z.bb.C Z.bc.C H2 w td sd z r hs sil TT:=hW.keep fun q o ho e=>nP ho e
 have d2:zd1 Z.b6.P H1 H2 (Own td sd z.toNat hs TT) (Own td sd z.toNat hs TT):=⟨fun q o ho e _=>nP ho e,fun _ y=> .inl y,(fun q e=>by
  by_cases y:q=Z.b6.P
  ·obtain ⟨ps,hP,_⟩:=u
   rw [y,hP] at e
   cases e
  ·cases eq:H1 q with
   | none=>rfl
   | some o =>
    rw [hb q o y eq] at e
    cases e),fun q ps e y=>hb q _ y e⟩
 obtain ⟨⟨bm,al⟩,a6,a4,ap,-⟩:=id ac
 have m:=ap h hh
 obtain ⟨a7,a1⟩:=m.ob
 have am:za9 h n<z.toNat:=ze7 (l h hh).1 ag (l h hh).2 ao (Ne.symm af)
 have j:=m.bk _ am
 have ad:∀ (H3:Hp) (l':Addr) (xs:List Int),xs=zf3 r (awB hs sil) ((TT h).ns (za9 h n)) n->zc0 Z.ba.C H3 ((TT h).bA (za9 h n)) l' r xs->(l'=(TT h).lA (za9 h n)\/H2 l'=none)->(zrk ((TT h).lA (za9 h n)) H2 H3/\l'=(TT h).lA (za9 h n)\/zrk ((TT h).bA (za9 h n)) H2 H3)->Q .non H3:=fun H3 l' xs p B3 ae aa=>by
  have fr:∀ q o,H2 q=some o->q≠(TT h).bA (za9 h n)->q≠(TT h).lA (za9 h n)->H3 q=some o:=fun q o e a b=>by
   rcases aa with ⟨y,_⟩ | y
   ·exact y q o e b
   ·exact y q o e a
  have he:∀ q,H3 q=none->H2 q=none:=fun q e=>by
   cases eq:H2 q with
   | none=>rfl
   | some o =>
    exfalso
    obtain ⟨⟨db,y1⟩,y2⟩:=B3
    rcases aa with ⟨y,rfl⟩ | y
    ·by_cases e2:q=(TT h).lA (za9 h n)
     ·rw [e2,y2] at e
      cases e
     ·rw [y q o eq e2] at e
      cases e
    ·by_cases e2:q=(TT h).bA (za9 h n)
     ·rw [e2,y1] at e
      cases e
     ·rw [y q o eq e2] at e
      cases e
  obtain ⟨W3,A3,d3⟩:=ac.turn hA hh am B3 ae (fun q o _ e a b=>fr q o e a b) he (fun q ps e _=>fr q _ e (fun y=>by
   obtain ⟨⟨db,y1⟩,_⟩:=id j
   rw [y,y1] at e
   cases e) (fun y=>by
   rw [y,j.li] at e
   cases e))
  refine k H3 _ W3 A3 ?_ (d2.trans d3) (Tab.hold u fun q o ho e=>?_)
  ·rw [zsv,p]
   rfl
  ·obtain ⟨⟨db,y1⟩,y2⟩:=id j
   refine fr q o e (fun y=>?_) (fun y=>?_)
   ·subst y
    rcases ho with ⟨x,kk,rfl⟩ | y
    ·rw [y1] at e
     cases e
    ·obtain ⟨ps,hP,_⟩:=u
     rw [<- y,y1] at hP
     cases hP
   ·subst y
    rcases ho with ⟨x,kk,rfl⟩ | y
    ·rw [y2] at e
     cases e
    ·obtain ⟨ps,hP,_⟩:=u
     rw [<- y,y2] at hP
     cases hP
 refine ⟨(TT h).t,(TT h).bl,f,h,z,r,n,z.toNat,(TT h).bA,(TT h).lA,(TT h).ns,rfl,m,(l h hh).1,ag,(l h hh).2,ao,fun y=>absurd y.symm af,fun _=>?_⟩
 unfold zmp
 refine ⟨_,_,f,r,n,_,rfl,j,ab _,a3,fun hm H3 B3 b3=>?_,fun hm hl H3 B3 b3=>?_,fun hm hl=>?_⟩
 ·exact ad H3 _ _ (by unfold zf3; rw [if_pos hm]) B3 (.inl rfl) (.inl ⟨b3,rfl⟩)
 ·exact ad H3 _ _ (by unfold zf3; rw [if_neg hm,if_pos hl]) B3 (.inl rfl) (.inl ⟨b3,rfl⟩)
 ·have aj:∃ x xs,(TT h).ns (za9 h n)=x :: xs:=by
   cases e:(TT h).ns (za9 h n) with
   | nil =>
    rw [e] at hl
    exact absurd hl (by simp only [jl]; omega)
   | cons x xs=>exact ⟨x,xs,rfl⟩
  obtain ⟨x,xs,p⟩:=aj
  have ah:xs.length<=1000:=by
   have:=ab (za9 h n)
   rw [p,ic] at this
   omega
  rw [p] at j
  unfold zqi
  refine ⟨_,_,f,r,n,x,xs,fd,rfl,j,ah,.inl ⟨fo,k1,ak,hd⟩,hR,[.ref w],rfl,hF,w,.int x,rfl,rfl,⟨_,_,al,z25 _ (by decide +kernel) _ _ _ _ _⟩,w,td,sd,z,r,hs,sil,TT,.int x,rfl,ac,.inl ⟨x,rfl,_,rfl,j,fun l' H3 ae B3 b3=>?_⟩⟩
  rw [zqb l az x] at B3
  refine ad H3 l' _ ?_ B3 (.inr ae) (.inr b3)
  unfold zf3
  rw [if_neg hm,if_neg (show ¬ (((TT h).ns (za9 h n)).length:Int)<r by omega),p]
def z2f (K:W.Frag)(CB CT CW T1:Addr):Sp:=fun vs H Q _=>∀ CC:Prop,(∀ (w td sd:Addr) (z r:Int) (hs sil:List Int) (T:Int->zbp) (h n:Int),vs=[.ref w,.int h,.int n]->zaj CB CT CW H w td sd z r hs sil T->zb4 z.toNat hs T->h∈hs->n∈hs->n≠h->((∀ g∈hs,∀ k,((T g).ns k).length<=1000))->Tab H T1 (zao zdz) quH->(∀ (H':Hp) (T':Int->zbp),zaj CB CT CW H' w td sd z r hs sil T'->zb4 z.toNat hs T'->(fun g=>(T' g).ns)=zgd r (awB hs sil) (fun g=>(T g).ns) h n->zd1 T1 H H' (Own td sd z.toNat hs T) (Own td sd z.toNat hs T')->Tab H' T1 (zao zdz) quH->Q .non H')->CC)->CC
theorem zn5:zam ["self","one","other"] ["self","one","other"] (zai (zaf (top 25) 24)):=fS
theorem zie (Z:ZZ P w K mg base):zb2 Z 10 Z.b7 (z2f K Z.ba.C Z.bb.C Z.bc.C Z.b6.P):=by
 have p:=Z.bc.cl
 have e:=zii Z
 refine Z.b7.fn.ok zn5 (by kd_p) (fun cdv A outer s H vs Q E hr j=>?_)
 refine j _ fun w td sd z r hs sil TT h n i hW hA hh hn c a hT k=>?_
 subst i
 obtain ⟨dx,x⟩:=hW.ob
 have f:=hW.hb n hn
 have y:=f.1
 have ac:=f.2
 have q:=a h hh
 refine ⟨_,(zac (zas (zed (pv 0) Z.bc.cl Z.b6.me e hr.mm Z.b6.b .nil zcb (zaa (pv 1) (zaa (pv 2) zag))))
  (zah (zas (zed (pv 0) Z.bc.cl Z.b6.me e hr.mm Z.b6.b .nil zcb (zaa (pv 2) (zaa (pv 1) zag)))))),?_⟩
 kt_k
 intro H1 T1 W1 A1 e1 d1 ab
 obtain ⟨aa,o⟩:=W1.ob
 have d:=W1.hb h hh
 have t:=d.1
 have v:=d.2
 have m:h≠n:=Ne.symm c
 have u:∀ k,((T1 n).ns k).length<=1000:=fun k=>by
  have e2:=congrFun (congrFun e1 n) k
  have e2:(T1 n).ns k=zhe r (awB hs sil) (fun g=>(TT g).ns) h n n k:=e2
  unfold zhe at e2
  rw [zap c] at e2
  rw [e2]
  exact a n hn k
 kt_k
 intro H2 T2 W2 A2 e2 d2 l
 refine k H2 T2 W2 A2 ?_ (d1.trans d2) l
 unfold zgd
 rw [e2,e1]
structure CT (E:Int->Int->Prop)(d:Int)(ks ws:List Int):Prop where
 nd:ks.Nodup
 dm:d∈ks
 re:∀ x∈ks,Rch E d x
 ws:∀ x∈ws,x∈ks
theorem zqm {ks:List Int}{x:Int}(h:x∉ks):zd6 (zfm ks) (Sum.inl x) (V.bl true)=zfm (ks++[x]):=by
 have e:zdi (zfm ks) (Sum.inl x)=none:=by
  have:=zgs (sil:=ks) (i:=x)
  rw [decide_eq_false h] at this
  exact Option.isSome_eq_false_iff.mp this |> fun z=>by simpa using z
 rw [ziy _ e]
 unfold zfm
 rw [i9]
 rfl
theorem zrq (l:List Int):l=[]\/∃ t a,l=t++[a]:=by
 rcases List.eq_nil_or_concat l with h | ⟨t,a,h⟩
 ·exact .inl h
 ·exact .inr ⟨t,a,by rw [h,List.concat_eq_append]⟩
theorem zfu {l:List Int}{a:Int}:(l++[a]).map V.int=l.map V.int++[V.int a]:=by simp
theorem zte {l:List Int}{a:Int}:((l++[a]).map V.int).dropLast=l.map V.int:=by
 rw [zfu,List.dropLast_concat]
theorem zb5:zam ["self","house","reached","waiting","here","name"] ["self","house"] (zai (zaf (top 25) 8)):=fS
def zu8 (CB CT CW:Addr):Sp:=fun vs H Q _=>∀ CC:Prop,(∀ (w td sd:Addr) (z r:Int) (hs sil:List Int) (T:Int->zbp) (i:Int),vs=[.ref w,.int i]->zaj CB CT CW H w td sd z r hs sil T->i∈hs->i∉sil->((∀ g∈hs,(zes (T g).ns z.toNat).length<64))->(∀ (l:Addr) (ks:List Int) (H':Hp),zax H H'->H l=none->H' l=some (.lst ((zau ks).map V.int))->ks.Nodup->(∀ x,x∈ks↔Rch (zr0 z.toNat (awB hs sil) (fun g=>(T g).ns)) i x)->Q (.ref l) H')->CC)->CC
theorem zjv (Z:ZZ P w K mg base):zb2 Z 6 Z.b8 (zu8 Z.ba.C Z.bb.C Z.bc.C):=by
 have cd:=Z.bc.cl
 obtain ⟨cf,b9,ci,ch,-⟩:=Z.bc.na
 have bh:=zf5 Z
 have be:=zb8 (CB:=Z.ba.C) (CT:=Z.bb.C) Z
 have bu:=zbw (CB:=Z.ba.C) (CT:=Z.bb.C) Z
 refine Z.b8.fn.ok zb5 (by kd_p) (fun cdv A outer s H vs Q E hr bq=>?_)
 refine bq _ fun w td sd z r hs sil TT i ax hW hi cm av k=>?_
 subst ax
 obtain ⟨⟨dx,bp⟩,bn,cb,bm,-⟩:=id hW
 have cg:=hW.ln
 generalize hE:zr0 z.toNat (awB hs sil) (fun g=>(TT g).ns)=E at k
 have ad:∀ x,Rch E i x->x∈hs:=fun x hx=>by
  subst hE
  cases hx with
  | own=>exact hi
  | go _ e =>
   have e2:=e.2
   unfold awB at e2
   simp only [j4,decide_eq_true_eq] at e2
   exact e2.1
 have ar:∀ {ks ws:List Int},CT E i ks ws->ks.length<=hs.length:=fun c=>zbc c.nd fun x hx=>ad x (c.re x hx)
 refine ⟨_,(zac (zas (pmD (pv 0) Z.bc.cl Z.bz bu hr (zaa (pv 1) zag)))
  (zac (zaw (i:=2) zb5.nd rfl oL (zzm (zw9 (pv 1) zhg zx1) rfl rfl (fun z=>nomatch z) (jd rfl)))
  (zac (zaw (i:=3) zb5.nd rfl oL (zce (zaa (pv 1) zag)))
  (zac (zp7 PassesOwn.never (zav zy6 (zbf zbh rfl Z.da.n_len zf_ (zaa (pv 3) zag)) zal (za6 _))
   (zac (zaw (i:=4) zb5.nd rfl oL (zxu ip PySem.F.slot_list_pop PySem.F.type_list_pop z17 (pv 3)))
   (zah (zd5 PassesOwn.never rfl (zbr (zcm (zdt (zdd hr) (za0 (pv 0) rfl) (pv 4) (fun _ _=>rfl)) Z.bb.cl Z.bo.me bh hr.mm Z.bo.b .nil zcb)) (zaz (i:=5) zb5.nd rfl oL)
    (zah (zbz (PW.pt (zol (ztk (zog (zdd hr) (pv 5) (pv 2))) (zj4 (zd2 (pmD (pv 0) Z.bc.cl Z.bs be hr (zaa (pv 5) zag))))))
     (zac (zgg (zdd hr) (pv 2) (pv 5) zhg rfl)
     (zah (zas (zn7 ip PySem.F.slot_list_append PySem.F.type_list_append zet (pv 3) (zaa (pv 5) zag)))))
     zay))))))
  (zah (zat (zbf (zea rfl) rfl Z.da.n_sorted zdy (zaa (pv 2) zag)))))))),?_⟩
 kt_k
 intro rc ay
 refine ⟨_,rfl,?_⟩
 refine ⟨zad,[(Sum.inl i,V.bl true)],rfl,(show 1<=15 by decide),?_⟩
 have s1:zax H (upd (upd H rc (.dK [])) rc (.dK (zia [] [(Sum.inl i,V.bl true)]))):=((zax.refl H).lay ay).put ay
 have ah:upd (upd H rc (.dK [])) rc (.dK (zia [] [(Sum.inl i,V.bl true)])) rc=some (.dK (zfm [i])):=zad
 generalize upd (upd H rc (.dK [])) rc (.dK (zia [] [(Sum.inl i,V.bl true)]))=H1 at s1 ah |-
 kt_k
 intro wt az
 have s2:zax H (upd H1 wt (.lst [V.int i])):=s1.put (s1.free az)
 have aq:upd H1 wt (.lst [V.int i]) wt=some (.lst [V.int i]):=zad
 have au:upd H1 wt (.lst [V.int i]) rc=some (.dK (zfm [i])):=by rw [zab (zae ah az)]; exact ah
 have ap:H wt=none:=s1.free az
 generalize upd H1 wt (.lst [V.int i])=H2 at s2 aq au |-
 have c0:CT E i [i] [i]:=⟨by simp,gb.mpr rfl,fun x hx=>gb.mp hx ▸ Rch.own,fun x hx=>hx⟩
 kt_k
 refine ⟨fun m σ H3=>zis (∃ (v4 v5:Option V) (ks ws:List Int),σ=[some (.ref w),some (.int i),some (.ref rc),some (.ref wt),v4,v5]/\zax H H3/\H3 rc=some (.dK (zfm ks))/\H3 wt=some (.lst (ws.map V.int))/\CT E i ks ws/\(∀ a∈ks,a∉ws->∀ b,E a b->b∈ks)/\m=2 * (hs.length - ks.length)+ws.length/\ws.length<=2 * ks.length),⟨_,⟨none,none,[i],[i],rfl,s2,au,aq,c0,fun a ha hn=>absurd ha hn,rfl,by simp⟩⟩,?_⟩
 rintro m σ H3 ⟨v4,v5,ks,ws,rfl,s3,ao,ak,c3,a0,hm,bw⟩
 have b7:=ar c3
 rcases zrq ws with rfl | ⟨u,a,rfl⟩
 ·have b0:map (fun x:Key × V=>x.fst) (zfm ks)=map Sum.inl ks:=by
   unfold zfm
   rw [jn]
   rfl
  have cc:ks.length<64:=by omega
  kt_k
  intro l hl
  refine k l ks _ (s3.put (s3.free hl)) (s3.free hl) zad c3.nd fun x=>⟨c3.re x,fun h=>Rch.of_closed c3.dm (fun a ha b e=>a0 a ha (fun z=>nomatch z) b e) h⟩
 ·have ak:H3 wt=some (.lst ((u++[a]).map V.int)):=ak
  have ha:a∈ks:=c3.ws a (g7 _ (gb.mpr rfl))
  have aw:=ad a (c3.re a ha)
  have s4:zax H (upd H3 wt (.lst (((u++[a]).map V.int).dropLast))):=s3.put ap
  have b1:=s4 _ _ bp
  have bd:=(bm a aw).same s4
  obtain ⟨ce,b3⟩:=bd.ob
  have cj:zg0 (upd H3 wt (.lst (((u++[a]).map V.int).dropLast))) td (V.int a) (some (V.ref (TT a).t)):=by
   have:=zg0.k (k:=Sum.inl a) (s4 _ _ bn)
   rw [zdu,if_pos aw] at this
   exact this
  have an:upd H3 wt (.lst (((u++[a]).map V.int).dropLast)) rc=some (.dK (zfm ks)):=by rw [zab (zcv ao ak (by intro z; cases z))]; exact ao
  have a6:upd H3 wt (.lst (((u++[a]).map V.int).dropLast)) wt=some (.lst (u.map V.int)):=by rw [zad,zte]
  have ca:=av a aw
  have bi:((u++[a]).map V.int).length=u.length+1:=by simp
  have bf:((u++[a]).map V.int)[((u++[a]).map V.int).length - 1]? = some (V.int a):=by rw [zfu]; simp
  have a3:(0:Int)<((((u++[a]).map V.int).length:Nat):Int):=by rw [bi]; omega
  kt_k
  refine zov a3 ?_
  refine ⟨fun σ' H'=>zis (∃ (v4 v5:Option V) (ks ws:List Int),σ'=[some (.ref w),some (.int i),some (.ref rc),some (.ref wt),v4,v5]/\zax H H'/\H' rc=some (.dK (zfm ks))/\H' wt=some (.lst (ws.map V.int))/\CT E i ks ws/\(∀ a∈ks,a∉ws->∀ b,E a b->b∈ks)/\2 * (hs.length - ks.length)+ws.length<m/\ws.length<=2 * ks.length),fun σ' H' ⟨v4,v5,ks,ws,e,a,b,c,d,f,g,h⟩=>⟨_,g,⟨v4,v5,ks,ws,e,a,b,c,d,f,rfl,h⟩⟩,?_⟩
  kt_k
  intro kl H5 ai a4 s5
  have bt:kl≠wt:=fun e=>by rw [e,zad] at ai; cases ai
  have bg:kl≠rc:=(zae an ai).symm
  have a2:=s5 _ _ an
  have a5:=s5 _ _ a6
  kt_k
  refine zcn (K:=K) (a:=kl) (xs:=(zau (zes (TT a).ns z.toNat)).map V.int) (fun j σ H6=>zis (∃ (v5:Option V) (n p:List Int),σ=[some (.ref w),some (.int i),some (.ref rc),some (.ref wt),some (.int a),v5]/\zax H H6/\H6 kl=some (.lst ((zau (zes (TT a).ns z.toNat)).map V.int))/\H6 rc=some (.dK (zfm n))/\H6 wt=some (.lst (p.map V.int))/\CT E i n p/\a∈n /\
    (∀ g∈n,g∉p->g=a\/∀ b,E g b->b∈n)/\(∀ x∈(zau (zes (TT a).ns z.toNat)).take j,awB hs sil x=true->x∈n)/\2 * (hs.length - n.length)+p.length<m/\p.length<=2 * n.length)) ?_ (fun j σ H6 _ ⟨_,_,_,_,_,e,_⟩=>SqL.of e) ?_ ?_
  ·refine ⟨⟨_,ks,u,rfl,s4.trans s5,a4,a2,a5,⟨c3.nd,c3.dm,c3.re,fun x hx=>c3.ws x (gr _ hx)⟩,ha,fun g hg hn=>?_,fun x hx=>absurd hx (by simp),?_,?_⟩⟩
   ·by_cases e:g=a
    ·exact .inl e
    ·exact .inr fun b=>a0 g hg (fun y=>by
      rcases gm.mp y with y | y
      ·exact hn y
      ·exact e (gb.mp y)) b
   ·rw [hm,gl,gq]
    omega
   ·rw [gl,gq] at bw
    omega
  ·rintro j y σ H6 hj ⟨v5,n,p,rfl,s6,ac,aa,v,c6,aj,ag,al,am,ae⟩
   obtain ⟨x,hx,rfl⟩:∃ x,(zau (zes (TT a).ns z.toNat))[j]? = some x/\y=V.int x:=by
    rw [List.getElem?_map] at hj
    cases e:(zau (zes (TT a).ns z.toNat))[j]? with
    | none=>rw [e] at hj; cases hj
    | some x=>rw [e] at hj; exact ⟨x,rfl,(Option.some.inj hj).symm⟩
   have bv:x∈zes (TT a).ns z.toNat:=(zan _).subset (i4 hx)
   have htk:(zau (zes (TT a).ns z.toNat)).take (j+1)=(zau (zes (TT a).ns z.toNat)).take j++[x]:=zb9 hx
   have bj:zaj Z.ba.C Z.bb.C Z.bc.C H6 w td sd z r hs sil TT:=hW.keep fun q o _ e=>s6 _ _ e
   obtain ⟨ck,b4⟩:=bj.ob
   have br:=ar c6
   have ax:=zgs (sil:=n) (i:=x)
   kt_k
   rw [ax]
   by_cases af:x∈n
   ·rw [decide_eq_true af]
    refine ⟨⟨_,n,p,rfl,s6,ac,aa,v,c6,aj,ag,fun y hy ab=>?_,am,ae⟩⟩
    rw [htk] at hy
    rcases gm.mp hy with hy | hy
    ·exact al y hy ab
    ·exact gb.mp hy ▸ af
   ·rw [decide_eq_false af]
    kt_k
    refine .inl ⟨x,rfl,?_⟩
    rw [zqb hW.hb hW.z1 x]
    cases a1:awB hs sil x with
    | false =>
     kt_k
     refine ⟨⟨_,n,p,rfl,s6,ac,aa,v,c6,aj,ag,fun y hy ab=>?_,am,ae⟩⟩
     rw [htk] at hy
     rcases gm.mp hy with hy | hy
     ·exact al y hy ab
     ·rw [gb.mp hy,a1] at ab
      cases ab
    | true =>
     have a9:(zfm n).length<sizeLine:=by
      unfold zfm
      rw [gf]
      exact zar (by omega)
     have b6:zkv H6 rc (V.int x) (V.bl true) (upd H6 rc (.dK (zd6 (zfm n) (Sum.inl x) (V.bl true)))):=zkv.k (k:=Sum.inl x) aa a9
     have a7:wt≠rc:=zcv v aa (by intro z; cases z)
     have b2:upd H6 rc (.dK (zd6 (zfm n) (Sum.inl x) (V.bl true))) wt=some (.lst (p.map V.int)):=by rw [zab a7]; exact v
     have b5:(p.map V.int).length<sizeLine:=by
      rw [gf]
      exact zar (by omega)
     kt_k
     have a8:Rch E i x:=by
      subst hE
      exact .go (c6.re a aj) ⟨bv,a1⟩
     refine ⟨⟨_,n++[x],p++[x],rfl,(s6.put ay).put ap,?_,?_,?_,⟨zbd c6.nd af,gr _ c6.dm,fun y hy=>?_,fun y hy=>?_⟩,gr _ aj,fun g hg hn=>?_,fun y hy ab=>?_,?_,?_⟩⟩
     ·rw [zab bt,zab bg]
      exact ac
     ·rw [zab a7.symm,zad,zqm af]
     ·rw [zad,zfu]
     ·rcases gm.mp hy with y1 | y1
      ·exact c6.re y y1
      ·exact gb.mp y1 ▸ a8
     ·rcases gm.mp hy with y1 | y1
      ·exact gr _ (c6.ws y y1)
      ·exact g7 _ y1
     ·rcases gm.mp hg with y1 | y1
      ·rcases ag g y1 (fun z=>hn (gr _ z)) with e | e
       ·exact .inl e
       ·exact .inr fun b hb=>gr _ (e b hb)
      ·exact absurd (g7 _ y1) hn
     ·rw [htk] at hy
      rcases gm.mp hy with hy | hy
      ·exact gr _ (al y hy ab)
      ·exact g7 _ hy
     ·have:=zbc (zbd c6.nd af) (b:=hs) fun y hy=>(gm.mp hy).elim (fun z=>ad y (c6.re y z)) fun z=>ad y (gb.mp z ▸ a8)
      rw [gl,gq] at this |-
      rw [gl,gq]
      omega
     ·rw [gl,gq,gl,gq]
      omega
  ·rintro σ H6 ⟨v5,n,p,rfl,s6,ac,aa,v,c6,aj,ag,al,am,ae⟩
   refine ⟨⟨_,_,n,p,rfl,s6,aa,v,c6,fun g hg hn b hb=>?_,am,ae⟩⟩
   rcases ag g hg hn with rfl | e
   ·subst hE
    refine al b ?_ hb.2
    rw [iu (by rw [gf]; exact gv _)]
    exact (zan _).symm.subset hb.1
   ·exact e b hb
theorem zaj.ex {CB CT CW w td sd:Addr}{H:Hp}{z r:Int}{hs sil:List Int}{T:Int->zbp}(W:zaj CB CT CW H w td sd z r hs sil T){q:Addr}(h:Own td sd z.toNat hs T q):∃ o,H q=some o:=by
 rcases h with rfl | rfl | ⟨g,hg,rfl | ⟨k,hk,rfl | rfl⟩⟩
 ·exact ⟨_,W.tb⟩
 ·exact ⟨_,W.si⟩
 ·exact ⟨_,(W.ta g hg).li⟩
 ·obtain ⟨⟨d,e⟩,_⟩:=(W.ta g hg).bk k hk
  exact ⟨_,e⟩
 ·exact ⟨_,((W.ta g hg).bk k hk).li⟩
theorem zaj.notOwn {CB CT CW w td sd:Addr}{H:Hp}{z r:Int}{hs sil:List Int}{T:Int->zbp}(W:zaj CB CT CW H w td sd z r hs sil T){q:Addr}(h:H q=none):¬ Own td sd z.toNat hs T q:=fun y=>by
 obtain ⟨o,e⟩:=W.ex y
 rw [h] at e
 cases e
def z1o (h:Int)(y:Int):Bool:= !decide (V.int y=V.int h)
theorem zyk {h y:Int}(e:z1o h y=true):y≠h:=fun z=>by
 subst z
 unfold z1o at e
 rw [decide_eq_true rfl] at e
 cases e
def zix (h:Int)(ks:List Int):List Int:=(zau ks).filter (z1o h)
theorem zl3 {h x:Int}{ks:List Int}(hx:x∈zix h ks):x∈ks/\x≠h:=by
 obtain ⟨a,b⟩:=gz.mp hx
 exact ⟨(zan _).subset a,zyk b⟩
theorem NOk.meets {pool:List Int}{z:Nat}{r:Int}{hs:List Int}(hr:1<=r){aw:Int->Bool}{a:Int}(ha:a∈pool):∀ {l:List Int} {N:Int->Nat->List Int},(∀ x∈l,x∈pool/\x≠a)->NOk pool z r hs N->NOk pool z r hs (zbu r aw N a l)
 | [],_,_,O=>O
 | b :: t,N,h,O=>NOk.meets (l:=t) hr ha (fun x hx=>h x (gc _ hx)) (O.meet hr ha (h b (gj ..)).1 (h b (gj ..)).2)
theorem zef:zam ["self","house","door","visited","name"] ["self","house","door"] (zai (zaf (top 25) 23)):=fS
def zvn (CB CT CW T1:Addr):Sp:=fun vs H Q _=>∀ CC:Prop,(∀ (w td sd:Addr) (z r:Int) (hs sil pool:List Int) (T:Int->zbp) (h d:Int),vs=[.ref w,.int h,.int d]->zaj CB CT CW H w td sd z r hs sil T->zb4 z.toNat hs T->h∈hs->d∈hs->d∉sil->NOk pool z.toNat r hs (fun g=>(T g).ns)->pool.length<64->((∀ x∈hs,x∈pool))->Tab H T1 (zao zdz) quH->(∀ (l:Addr) (ks:List Int) (H':Hp) (T':Int->zbp),ks.Nodup->(∀ x,x∈ks↔Rch (zr0 z.toNat (awB hs sil) (fun g=>(T g).ns)) d x)->zaj CB CT CW H' w td sd z r hs sil T'->zb4 z.toNat hs T'->(fun g=>(T' g).ns)=zbu r (awB hs sil) (fun g=>(T g).ns) h (zix h ks)->zd1 T1 H H' (Own td sd z.toNat hs T) (Own td sd z.toNat hs T')->Tab H' T1 (zao zdz) quH->H l=none->¬ Own td sd z.toNat hs T' l->H' l=some (.lst ((zix h ks).map V.int))->Q (.ref l) H')->CC)->CC
theorem zks (Z:ZZ P w K mg base):zb2 Z 11 Z.b9 (zvn Z.ba.C Z.bb.C Z.bc.C Z.b6.P):=by
 have ao:=Z.bc.cl
 have ai:=zjv Z
 have ab:=zie Z
 refine Z.b9.fn.ok zef (by kd_p) (fun cdv A outer s H vs Q E hr ae=>?_)
 refine ae _ fun w td sd z r hs sil pool TT h d ad hW hA hh hd az hO af u hT k=>?_
 subst ad
 obtain ⟨dx,ar⟩:=hW.ob
 have ay:=hW.ln
 have ak:=hW.r1
 have ap:=hW.r2
 have am:∀ g∈hs,(zes (TT g).ns z.toNat).length<64:=fun g hg=>je (hO.len hg z.toNat) af
 refine ⟨_,(zac (zmk (i:=3) zef.nd rfl oL rfl (zbn (own:=["name"]) (caps:=[1]) (N':=["name","house"]) (by kernel_rfl)) (zbr (pmD (pv 0) Z.bc.cl Z.b8 ai hr (zaa (pv 2) zag))) (fun _ _ _ _ _=>(zaz (i:=0) (show (["name","house"]:List Str).Nodup by decide +kernel) rfl oL)) (fun _ _ _ _ _=>(zfl (zav zv4 (pv 0) (pv 1) (za6 _)))) (fun _ _ _ _ _=>(pv 0)))
  (zac (zd5 PassesOwn.never rfl (zbr (pv 3)) (zaz (i:=4) zef.nd rfl oL)
   (zah (zas (pmD (pv 0) Z.bc.cl Z.b7 ab hr (zaa (pv 1) (zaa (pv 4) zag))))))
  (zah (zat (pv 3))))),?_⟩
 kt_k
 intro l ks H1 s1 hl ac n f
 have au:zaj Z.ba.C Z.bb.C Z.bc.C H1 w td sd z r hs sil TT:=hW.keep fun q o _ e=>s1 _ _ e
 have b:∀ x∈ks,x∈hs:=fun x hx=>by
  have hx:=(f x).mp hx
  cases hx with
  | own=>exact hd
  | go _ e =>
   have e2:=e.2
   unfold awB at e2
   simp only [j4,decide_eq_true_eq] at e2
   exact e2.1
 have av:ks.length<=hs.length:=zbc n b
 kt_k
 intro D hD
 refine zgk (z1o h) hD (SqL.of ac) (by rw [zbi]; omega) (fun x hx H2 Qt s2 q=>?_) fun H2 s2 c=>?_
 ·kt_k
  exact q H2 (zax.refl H2)
 ·have c:H2 D=some (.lst ((zix h ks).map V.int)):=c
  have m:zax H H2:=s1.trans s2
  have ah:zaj Z.ba.C Z.bb.C Z.bc.C H2 w td sd z r hs sil TT:=hW.keep fun q o _ e=>m _ _ e
  have ag:Tab H2 Z.b6.P (zao zdz) quH:=(m.but _).2 _ _ hT
  have t:H D=none:=s1.free hD
  have nD:=hW.notOwn t
  kt_k
  refine zcn (K:=K) (a:=D) (xs:=(zix h ks).map V.int) (fun j σ H6=>zis (∃ (v:Option V) (T6:Int->zbp),σ=[some (.ref w),some (.int h),some (.int d),some (.ref D),v]/\zaj Z.ba.C Z.bb.C Z.bc.C H6 w td sd z r hs sil T6/\zb4 z.toNat hs T6/\(fun g=>(T6 g).ns)=zbu r (awB hs sil) (fun g=>(TT g).ns) h ((zix h ks).take j)/\zd1 Z.b6.P H2 H6 (Own td sd z.toNat hs TT) (Own td sd z.toNat hs T6)/\Tab H6 Z.b6.P (zao zdz) quH)) ?_ (fun j σ H6 _ ⟨_,_,_,_,_,_,e,_⟩=>SqL.of (e.k _ _ (fun _ z=>nomatch z) c nD)) ?_ ?_
  ·exact ⟨⟨_,TT,rfl,ah,hA,rfl,zd1.refl _ _,ag⟩⟩
  ·rintro j y σ H6 hj ⟨v,T6,rfl,W6,A6,e6,d6,p⟩
   obtain ⟨x,hx,rfl⟩:∃ x,(zix h ks)[j]? = some x/\y=V.int x:=by
    rw [List.getElem?_map] at hj
    cases e:(zix h ks)[j]? with
    | none=>rw [e] at hj; cases hj
    | some x=>rw [e] at hj; exact ⟨x,rfl,(Option.some.inj hj).symm⟩
   have aa:=zl3 (i4 hx)
   have aq:=b x aa.1
   have ax:=aa.2
   have O6:NOk pool z.toNat r hs (fun g=>(T6 g).ns):=by
    rw [e6]
    exact NOk.meets ak (u h hh) (fun y hy=>by
     have:=zl3 (i8 hy)
     exact ⟨u y (b y this.1),this.2⟩) hO
   have al:∀ g∈hs,∀ k,((T6 g).ns k).length<=1000:=fun g hg k=>by
    have:(((T6 g).ns k).length:Int)<=r:=O6.le g hg k
    omega
   obtain ⟨aw,an⟩:=W6.ob
   kt_k
   intro H7 T7 W7 A7 e7 d7 aj
   refine ⟨⟨_,T7,rfl,W7,A7,?_,d6.trans d7,aj⟩⟩
   rw [e7,e6,zb9 hx,zic]
  ·rintro σ H6 ⟨v,T6,rfl,W6,A6,e6,d6,p⟩
   rw [gf,i6] at e6
   kt_k
   refine k D ks H6 T6 n f W6 A6 e6 ((zd1.same m).trans d6) p t (fun y=>?_) (d6.k _ _ (fun _ z=>nomatch z) c nD)
   rcases d6.o D y with y | y
   ·exact nD y
   ·rw [c] at y
    cases y
theorem zih:zam ["self","name","door","visited"] ["self","name","door"] (zai (zaf (top 25) 11)):=fS
def zkf (N:Int->Nat->List Int)(i:Int):Int->Nat->List Int:=zdh N i (fun _=>[])
def zx0 (spS:Sp)(CB CT CW T1:Addr):Sp:=fun vs H Q _=>∀ CC:Prop,(∀ (w td sd:Addr) (z r:Int) (hs sil pool:List Int) (T:Int->zbp) (i:Int) (dv:V),vs=[.ref w,.int i,dv]->zaj CB CT CW H w td sd z r hs sil T->zb4 z.toNat hs T->0<=i->i<2 ^ z.toNat->i∉hs->hs.length<60->NOk pool z.toNat r hs (fun g=>(T g).ns)->pool.length<64->((∀ x∈hs,x∈pool))->i∈pool->((dv = .non\/∃ d,dv = .int d/\d∈hs/\d∉sil))->Tab H T1 (zao zdz) quH->(∀ (l:Addr) (vis:List Int) (H':Hp) (T':Int->zbp),(dv = .non->vis=[])->(∀ d,dv = .int d->∃ ks:List Int,ks.Nodup/\(∀ x,x∈ks↔Rch (zr0 z.toNat (awB (hs++[i]) sil) (zkf (fun g=>(T g).ns) i)) d x)/\vis=zix i ks)->zaj CB CT CW H' w td sd z r (hs++[i]) sil T'->zb4 z.toNat (hs++[i]) T'->(fun g=>(T' g).ns)=zbu r (awB (hs++[i]) sil) (zkf (fun g=>(T g).ns) i) i vis->zd1 T1 H H' (Own td sd z.toNat hs T) (Own td sd z.toNat (hs++[i]) T')->Tab H' T1 (zao zdz) quH->H l=none->¬ Own td sd z.toNat (hs++[i]) T' l->H' l=some (.lst (vis.map V.int))->spS [.ref w,.int i,.ref l] H' (fun _ H2=>Q (.ref l) H2) E0)->CC)->CC
theorem zn_ (Z:ZZ P w K mg base){spS:Sp}(mS:z07 spS)(zdc:zb2 Z 11 Z.cb spS):zxa Z 12 Z.cc (zx0 spS Z.ba.C Z.bb.C Z.bc.C Z.b6.P):=by
 have b1:=Z.bc.cl
 obtain ⟨b2,bv,cf,cd,-⟩:=Z.bc.na
 have az:=zl_ Z
 have bj:=zd7 (CB:=Z.ba.C) (CT:=Z.bb.C) Z
 have be:=zdf (CB:=Z.ba.C) (CT:=Z.bb.C) Z
 have bn:=zbw (CB:=Z.ba.C) (CT:=Z.bb.C) Z
 have bp:=zks Z
 refine Z.cc.ok zih (by kd_p) (fun cdv A outer s H vs Q E hr bg=>?_)
 refine bg _ fun w td sd z r hs sil pool TT i dv bd hW hA h0 h1 aj bq hO b3 a6 a2 bm bi k=>?_
 subst bd
 obtain ⟨⟨dx,bf⟩,au,a5,ar,a8,a0,ap,bh,bo,a1,b7,aq⟩:=id hW
 have hn:zgy z i=true:=zfr h0 h1 ap
 have aw:∀ (t c:Addr),H t=none->H c=none->c≠t->∀ (bl:Addr) (bA lA:Nat->Addr) (H1:Hp),zdg Z.ba.C Z.bb.C H1 t bl i z r z.toNat bA lA (fun _=>[])->upd (upd H c (.own t)) t (.ins Z.bb.C c []) bl=none ->
   (∀ k,k<z.toNat->upd (upd H c (.own t)) t (.ins Z.bb.C c []) (bA k)=none/\upd (upd H c (.own t)) t (.ins Z.bb.C c []) (lA k)=none)->zrk t (upd (upd H c (.own t)) t (.ins Z.bb.C c [])) H1 ->
   ∃ (H2:Hp) (T2:Int->zbp),H2=upd H1 td (.dK (zd6 (zcs hs TT) (Sum.inl i) (V.ref t)))/\H1 td=some (.dK (zcs hs TT))/\H1 w=some (.ins Z.bc.C dx.1 (wF z r td sd dx))/\zaj Z.ba.C Z.bb.C Z.bc.C H2 w td sd z r (hs++[i]) sil T2/\zb4 z.toNat (hs++[i]) T2/\(fun g=>(T2 g).ns)=zkf (fun g=>(TT g).ns) i/\zd1 Z.b6.P H H2 (Own td sd z.toNat hs TT) (Own td sd z.toNat (hs++[i]) T2)/\Tab H2 Z.b6.P (zao zdz) quH:=fun t c ht ad ai bl bA lA H1 ab ae u af=>by
  have s1:zax H H1:=fun q o e=>af q o (by rw [zab (zae e ht),zab (zae e ad)]; exact e) (zae e ht)
  have ak:∀ {q:Addr},upd (upd H c (.own t)) t (.ins Z.bb.C c []) q=none->H q=none:=fun {q} e=>by
   cases eq:H q with
   | none=>rfl
   | some o =>
    rw [zab (zae eq ht),zab (zae eq ad),eq] at e
    cases e
  have f:=s1 _ _ au
  have ac:=s1 _ _ bf
  have ce:w≠td:=zcv ac f (by intro z; cases z)
  let T2:Int->zbp:=zdh TT i ⟨t,bl,bA,lA,fun _=>[]⟩
  have eT:∀ h∈hs,T2 h=TT h:=fun h hh=>zap (fun e=>aj (by rw [<- e]; exact hh))
  have aa:T2 i=⟨t,bl,bA,lA,fun _=>[]⟩:=zak
  have fr:∀ q o,(∀ ps,o≠ .tbl ps)->(∀ d,o≠ .dK d)->H1 q=some o->upd H1 td (.dK (zd6 (zcs hs TT) (Sum.inl i) (V.ref t))) q=some o:=fun q o _ hd e=>by
   rw [zab (fun y=>by rw [y,f] at e; exact hd _ (Option.some.inj e).symm)]
   exact e
  have mem:∀ {h:Int},h∈hs++[i]->h∈hs/\T2 h=TT h\/h=i:=fun {h} hh=>by
   rcases gm.mp hh with m | m
   ·exact .inl ⟨m,eT h m⟩
   ·exact .inr (gb.mp m)
  have ag:∀ h∈hs,∀ j,j<z.toNat->(∃ o,H ((TT h).bA j)=some o)/\(∃ o,H ((TT h).lA j)=some o):=fun h hh j hj=>⟨hW.ex (.inr (.inr ⟨h,hh,.inr ⟨j,hj,.inl rfl⟩⟩)),hW.ex (.inr (.inr ⟨h,hh,.inr ⟨j,hj,.inr rfl⟩⟩))⟩
  have nb:∀ k,k<z.toNat->H (bA k)=none/\H (lA k)=none:=fun k hk=>⟨ak (u k hk).1,ak (u k hk).2⟩
  refine ⟨_,T2,rfl,f,ac,⟨⟨dx,?_⟩,?_,?_,fun h hh=>?_,zbd a8 aj,fun h hh=>?_,ap,bh,bo,a1,?_,aq⟩,⟨?_,?_,?_⟩,?_,⟨?_,?_,?_,fun q ps e _=>by
   rw [zab (fun y=>by rw [y,au] at e; cases e)]
   exact s1 _ _ e⟩,?_⟩
  ·exact fr _ _ (fun _ z=>nomatch z) (fun _ z=>nomatch z) ac
  ·rw [zad,ziy _ (by rw [zdu,if_neg aj])]
   unfold zcs
   rw [i9]
   congr 2
   congr 1
   ·exact j5 fun h hh=>by rw [eT h hh]
   ·show [(Sum.inl i,V.ref t)]=[(Sum.inl i,V.ref (T2 i).t)]
    rw [aa]
  ·rw [zab aq.symm]
   exact s1 _ _ a5
  ·rcases mem hh with ⟨m,e⟩ | rfl
   ·rw [e]
    exact (((ar h m).same s1).keepD fr)
   ·rw [aa]
    exact ab.keepD fr
  ·rcases gm.mp hh with m | m
   ·exact a0 h m
   ·rw [gb.mp m]
    exact ⟨h0,h1⟩
  ·rw [gl,gq]
   omega
  ·intro h hh g hg p a b ha hb
   rcases mem hh with ⟨m1,e1⟩ | rfl <;> rcases mem hg with ⟨m2,e2⟩ | rfl
   ·rw [e1,e2]
    exact hA.b h m1 g m2 p a b ha hb
   ·rw [e1,aa]
    obtain ⟨o,eo⟩:=(ag h m1 a ha).1
    exact zae eo (nb b hb).1
   ·rw [e2,aa]
    obtain ⟨o,eo⟩:=(ag g m2 b hb).1
    exact (zae eo (nb a ha).1).symm
   ·exact absurd rfl p
  ·intro h hh g hg p a b ha hb
   rcases mem hh with ⟨m1,e1⟩ | rfl <;> rcases mem hg with ⟨m2,e2⟩ | rfl
   ·rw [e1,e2]
    exact hA.l h m1 g m2 p a b ha hb
   ·rw [e1,aa]
    obtain ⟨o,eo⟩:=(ag h m1 a ha).2
    exact zae eo (nb b hb).2
   ·rw [e2,aa]
    obtain ⟨o,eo⟩:=(ag g m2 b hb).2
    exact (zae eo (nb a ha).2).symm
   ·exact absurd rfl p
  ·intro h hh g hg p b hb
   rcases mem hh with ⟨m1,e1⟩ | rfl <;> rcases mem hg with ⟨m2,e2⟩ | rfl
   ·rw [e1,e2]
    exact hA.n h m1 g m2 p b hb
   ·rw [e1,aa]
    exact zae (ar h m1).li (nb b hb).2
   ·rw [e2,aa]
    obtain ⟨o,eo⟩:=(ag g m2 b hb).2
    exact (zae eo (ak ae)).symm
   ·exact absurd rfl p
  ·funext g
   show (zdh TT i ⟨t,bl,bA,lA,fun _=>[]⟩ g).ns=zdh (fun g=>(TT g).ns) i (fun _=>[]) g
   by_cases e:g=i
   ·subst e
    rw [zak,zak]
   ·rw [zap e,zap e]
  ·intro q o ho e a4
   rw [zab (fun y=>a4 (.inl y))]
   exact s1 _ _ e
  ·intro q hq
   rcases hq with y | y | ⟨h,hh,y⟩
   ·exact .inl (.inl y)
   ·exact .inl (.inr (.inl y))
   ·rcases mem hh with ⟨m,e⟩ | rfl
    ·rw [e] at y
     exact .inl (.inr (.inr ⟨h,m,y⟩))
    ·rw [aa] at y
     rcases y with rfl | ⟨j,hj,rfl | rfl⟩
     ·exact .inr (ak ae)
     ·exact .inr (nb j hj).1
     ·exact .inr (nb j hj).2
  ·intro q hq
   by_cases e:q=td
   ·rw [e,zad] at hq
    cases hq
   ·rw [zab e] at hq
    exact s1.free hq
  ·have ay:Tab H1 Z.b6.P (zao zdz) quH:=(s1.but _).2 _ _ bi
   refine Tab.hold ay fun q o ho e=>?_
   rw [zab (fun y=>?_)]
   ·exact e
   ·rw [y,f] at e
    cases e
    rcases ho with ⟨x,kk,e2⟩ | e2
    ·cases e2
    ·obtain ⟨ps,hP,_⟩:=ay
     rw [<- e2,y,f] at hP
     cases hP
 have ao:(zcs hs TT).length<sizeLine:=by
  unfold zcs
  rw [gf]
  exact zar (by omega)
 refine ⟨_,(zac (zas (pmD (pv 0) Z.bc.cl Z.bw bj hr (zaa (pv 1) zag)))
  (zac (zbz (zd2 (pmD (pv 0) Z.bc.cl Z.br be hr (zaa (pv 1) zag)))
   (zah (zfw (W:=fun _=>False) Z.ca rfl rfl (zaa zcj zag) (fun _ _ _ _ _ _ _ _ _ hw=>hw.elim)))
   zay)
  (zac (zbz (zav zge (pv 2) zcd (za6 _))
   (zah (zas (pmD (pv 0) Z.bc.cl Z.bz bn hr (zaa (pv 2) zag))))
   zay)
  (zac (zgg (zdd hr) (za0 (pv 0) rfl) (pv 1) (zl0 (DfM.mk' Z.bb Z.bl) az hr.mm rfl Z.bb.hm Z.bl.b .nil zcb (zaa (pv 1) (zaa (za0 (pv 0) rfl) (zaa (za0 (pv 0) rfl) zag)))) rfl)
  (zac (zaw (i:=3) zih.nd rfl oL (zmo (zav zlb (pv 2) zcd (za6 _)) (zce zag) (pmD (pv 0) Z.bc.cl Z.b9 bp hr (zaa (pv 1) (zaa (pv 2) zag)))))
  (zac (zas (pmD (pv 0) Z.bc.cl Z.cb zdc hr (zaa (pv 1) (zaa (pv 3) zag))))
  (zah (zat (pv 3))))))))),?_⟩
 kt_k
 refine .inl ⟨i,rfl,?_⟩
 rw [hn,decide_eq_false aj]
 rcases bm with rfl | ⟨d,rfl,hd,b0⟩
 ·kt_k
  intro t c ht ad ai
  kt_k
  intro bl bA lA H1 ab ae u af
  obtain ⟨H2,T2,rfl,f,ac,W2,A2,e2,d2,al⟩:=aw t c ht ad ai bl bA lA H1 ab ae u af
  have ah:zkv H1 td (V.int i) (V.ref t) (upd H1 td (.dK (zd6 (zcs hs TT) (Sum.inl i) (V.ref t)))):=zkv.k (k:=Sum.inl i) f ao
  generalize upd H1 td (.dK (zd6 (zcs hs TT) (Sum.inl i) (V.ref t)))=H2 at ah W2 d2 al |-
  kt_k
  intro l hl
  have s3:zax H2 (upd H2 l (.lst [])):=zax.new H2 hl
  have am:upd H2 l (.lst []) l=some (.lst []):=zad
  generalize upd H2 l (.lst [])=H3 at s3 am |-
  have W3:zaj Z.ba.C Z.bb.C Z.bc.C H3 w td sd z r (hs++[i]) sil T2:=W2.keep fun q o _ e=>s3 _ _ e
  obtain ⟨a9,ax⟩:=W3.ob
  kt_k
  refine mS _ _ _ _ _ (fun v H4 hq=>?_) (k l [] H3 T2 (fun _=>rfl) (fun d y=>(nomatch y)) W3 A2 e2 (d2.trans (zd1.same s3)) ((s3.but _).2 _ _ al) (d2.e _ hl) (W2.notOwn hl) am)
  kt_k
 ·kt_k
  intro t c ht ad ai
  kt_k
  intro bl bA lA H1 ab ae u af
  obtain ⟨H2,T2,rfl,f,ac,W2,A2,e2,d2,al⟩:=aw t c ht ad ai bl bA lA H1 ab ae u af
  have ah:zkv H1 td (V.int i) (V.ref t) (upd H1 td (.dK (zd6 (zcs hs TT) (Sum.inl i) (V.ref t)))):=zkv.k (k:=Sum.inl i) f ao
  generalize upd H1 td (.dK (zd6 (zcs hs TT) (Sum.inl i) (V.ref t)))=H2 at ah W2 d2 al |-
  have O2:NOk pool z.toNat r (hs++[i]) (fun g=>(T2 g).ns):=by
   rw [e2]
   unfold zkf
   refine ⟨fun h hh k=>?_,fun h hh k=>?_,fun h hh k m hm=>?_⟩
   ·by_cases e:h=i
    ·rw [e,zak]
     exact j7
    ·rw [zap e]
     exact hO.nd h ((gm.mp hh).elim id fun y=>absurd (gb.mp y) e) k
   ·by_cases e:h=i
    ·rw [e,zak]
     simp only [jl]
     omega
    ·rw [zap e]
     exact hO.le h ((gm.mp hh).elim id fun y=>absurd (gb.mp y) e) k
   ·by_cases e:h=i
    ·rw [e,zak] at hm
     cases hm
    ·rw [zap e] at hm
     exact hO.st h ((gm.mp hh).elim id fun y=>absurd (gb.mp y) e) k m hm
  have bt:∀ x∈hs++[i],x∈pool:=fun x hx=>(gm.mp hx).elim (a6 x) fun y=>gb.mp y ▸ a2
  have b5:i∈hs++[i]:=g7 _ (gb.mpr rfl)
  have b4:d∈hs++[i]:=gr _ hd
  obtain ⟨b8,bu⟩:=W2.ob
  kt_k
  intro l ks H3 T3 av an W3 A3 e3 d3 a3 hl a7 am
  obtain ⟨a9,ax⟩:=W3.ob
  rw [e2] at an e3
  kt_k
  refine mS _ _ _ _ _ (fun v H4 hq=>?_) (k l (zix i ks) H3 T3 (fun y=>(nomatch y)) (fun d' y=>⟨ks,av,by cases y; exact an,rfl⟩) W3 A3 e3 (d2.trans d3) a3 (d2.e _ hl) a7 am)
  kt_k
def zf0 (h:Int)(l:List Int):List Int:=l.filter fun x=> !decide (x=h)
def zc5 (h:Int)(l:List Int):List Int:=if h∈l then l else l++[h]
theorem zb_ {h x:Int}{l:List Int}:x∈zf0 h l↔x∈l/\x≠h:=by
 unfold zf0
 rw [gz]
 simp
theorem zfz {h:Int}{l:List Int}(hn:l.Nodup):(zf0 h l).Nodup:=hn.filter _
theorem ztt {h:Int}{l:List Int}:(zf0 h l).length<=l.length:=ib _ _
theorem zyj {h:Int}{l:List Int}(hh:h∉l):zf0 h l=l:=by
 unfold zf0
 refine List.filter_eq_self.mpr fun x hx=>?_
 rw [decide_eq_false (fun (e:x=h)=>hh (by rw [<- e]; exact hx))]
 rfl
theorem zus {h:Int}{hs:List Int}{T:Int->zbp}:ze1 (zcs hs T) (Sum.inl h)=zcs (zf0 h hs) T:=by
 unfold ze1 zcs zf0
 rw [md]
 congr 1
 refine lr fun x _=>?_
 show decide ((Sum.inl x:Key)≠Sum.inl h) = !decide (x=h)
 by_cases e:x=h
 ·subst e
  simp
 ·rw [decide_eq_false e]
  simp [e]
theorem zwy {h:Int}{sil:List Int}:ze1 (zfm sil) (Sum.inl h)=zfm (zf0 h sil):=by
 unfold ze1 zfm zf0
 rw [md]
 congr 1
 refine lr fun x _=>?_
 show decide ((Sum.inl x:Key)≠Sum.inl h) = !decide (x=h)
 by_cases e:x=h
 ·subst e
  simp
 ·rw [decide_eq_false e]
  simp [e]
theorem zyn {h:Int}{sil:List Int}:zd6 (zfm sil) (Sum.inl h) (V.bl true)=zfm (zc5 h sil):=by
 unfold zc5
 by_cases e:h∈sil
 ·rw [if_pos e]
  unfold zd6
  rw [if_pos (by rw [ze3,zgs,decide_eq_true e])]
  unfold zfm
  rw [jn]
  refine j5 fun x _=>?_
  show (if (Sum.inl x:Key)=Sum.inl h then ((Sum.inl x:Key),V.bl true) else ((Sum.inl x:Key),V.bl true))=_
  split <;> rfl
 ·rw [if_neg e]
  exact zqm e
section
variable {CB CT CW w td sd:Addr} {H H':Hp} {z r:Int} {hs sil:List Int} {T:Int->zbp}
theorem zaj.dicts (W:zaj CB CT CW H w td sd z r hs sil T){hs' sil':List Int}(k:∀ q o,H q=some o->q≠td->q≠sd->H' q=some o)(e1:H' td=some (.dK (zcs hs' T)))(e2:H' sd=some (.dK (zfm sil')))(hn:hs'.Nodup)(hm:∀ x∈hs',x∈hs)(hl:hs'.length<=60):zaj CB CT CW H' w td sd z r hs' sil' T:=by
 obtain ⟨⟨dx,h1⟩,h2,h3,h4,h5,h6,h7,h8,h9,b,c,a⟩:=W
 have up:∀ q o,(∀ d,o≠ .dK d)->H q=some o->H' q=some o:=fun q o hd e=>k q o e (fun y=>by rw [y,h2] at e; exact hd _ (Option.some.inj e).symm) (fun y=>by rw [y,h3] at e; exact hd _ (Option.some.inj e).symm)
 exact ⟨⟨dx,up _ _ (fun _ z=>nomatch z) h1⟩,e1,e2,fun h hh=>(h4 h (hm h hh)).keepD fun q o _ hd e=>up q o hd e,hn,fun h hh=>h6 h (hm h hh),h7,h8,h9,b,hl,a⟩
theorem zb4.sub {n:Nat}{hs':List Int}(A:zb4 n hs T)(hm:∀ x∈hs',x∈hs):zb4 n hs' T:=⟨fun h hh g hg=>A.b h (hm h hh) g (hm g hg),fun h hh g hg=>A.l h (hm h hh) g (hm g hg),fun h hh g hg=>A.n h (hm h hh) g (hm g hg)⟩
theorem NOk.sub {pool:List Int}{n:Nat}{hs':List Int}{N:Int->Nat->List Int}(O:NOk pool n r hs N)(hm:∀ x∈hs',x∈hs):NOk pool n r hs' N:=⟨fun h hh=>O.nd h (hm h hh),fun h hh=>O.le h (hm h hh),fun h hh=>O.st h (hm h hh)⟩
theorem zd1.dicts {T1:Addr}(W:zaj CB CT CW H w td sd z r hs sil T){hs':List Int}(k:∀ q o,H q=some o->q≠td->q≠sd->H' q=some o)(x1:∃ o,H' td=some o)(x2:∃ o,H' sd=some o)(hm:∀ x∈hs',x∈hs):zd1 T1 H H' (Own td sd z.toNat hs T) (Own td sd z.toNat hs' T):=by
 refine ⟨fun q o _ e hn=>k q o e (fun y=>hn (.inl y)) (fun y=>hn (.inr (.inl y))),fun q hq=>?_,fun q hq=>?_,fun q ps e _=>k q _ e (fun y=>by rw [y,W.tb] at e; cases e) (fun y=>by rw [y,W.si] at e; cases e)⟩
 ·rcases hq with y | y | ⟨g,hg,y⟩
  ·exact .inl (.inl y)
  ·exact .inl (.inr (.inl y))
  ·exact .inl (.inr (.inr ⟨g,hm g hg,y⟩))
 ·cases e:H q with
  | none=>rfl
  | some o =>
   exfalso
   by_cases y1:q=td
   ·obtain ⟨o1,e1⟩:=x1
    rw [y1,e1] at hq
    cases hq
   ·by_cases y2:q=sd
    ·obtain ⟨o1,e1⟩:=x2
     rw [y2,e1] at hq
     cases hq
    ·rw [k q o e y1 y2] at hq
     cases hq
theorem Tab.dicts {T1:Addr}{po:Pos}{qu:Str}(W:zaj CB CT CW H w td sd z r hs sil T)(t:Tab H T1 po qu)(k:∀ q o,H q=some o->q≠td->q≠sd->H' q=some o):Tab H' T1 po qu:=Tab.hold t fun q o ho e=>by
 have key:∀ d,o≠ .dK d:=fun d y=>by
  subst y
  rcases ho with ⟨x,kk,e2⟩ | e2
  ·cases e2
  ·obtain ⟨ps,hP,_⟩:=t
   rw [<- e2,e] at hP
   cases hP
 exact k q o e (fun y=>by rw [y,W.tb] at e; exact key _ (Option.some.inj e).symm) (fun y=>by rw [y,W.si] at e; exact key _ (Option.some.inj e).symm)
end
theorem zn3:zam ["self","house"] ["self","house"] (zai (zaf (top 25) 13)):=fS
def z1k (CB CT CW:Addr):Sp:=fun vs H Q _=>∀ CC:Prop,(∀ (w td sd:Addr) (z r:Int) (hs sil:List Int) (T:Int->zbp) (i:Int),vs=[.ref w,.int i]->zaj CB CT CW H w td sd z r hs sil T->i∈hs->sil.length<=900->(∀ (H':Hp),zaj CB CT CW H' w td sd z r hs (zc5 i sil) T->(∀ q o,H q=some o->q≠td->q≠sd->H' q=some o)->Q .non H')->CC)->CC
theorem znv (Z:ZZ P w K mg base){CB CT:Addr}:zb2 Z 5 Z.cd (z1k CB CT Z.bc.C):=by
 have l:=Z.bc.cl
 obtain ⟨u,j,t,m,-⟩:=Z.bc.na
 have g:=zbv (CB:=CB) (CT:=CT) Z
 refine Z.cd.fn.ok zn3 (by kd_p) (fun cdv A outer s H vs Q E hr f=>?_)
 refine f _ fun w td sd z r hs sil TT i c hW hi p k=>?_
 subst c
 obtain ⟨⟨dx,n⟩,b,d,-⟩:=id hW
 have a:(zfm sil).length<sizeLine:=by
  unfold zfm
  rw [gf]
  exact zar (by omega)
 have h:zkv H sd (V.int i) (V.bl true) (upd H sd (.dK (zd6 (zfm sil) (Sum.inl i) (V.bl true)))):=zkv.k (k:=Sum.inl i) d a
 have kk:∀ q o,H q=some o->q≠td->q≠sd->upd H sd (.dK (zd6 (zfm sil) (Sum.inl i) (V.bl true))) q=some o:=fun q o e _ y=>by rw [zab y]; exact e
 have hk:=k _ (hW.dicts kk (by rw [zab hW.ts]; exact b) (by rw [zad,zyn]) hW.nd (fun x hx=>hx) hW.ln) kk
 refine ⟨_,(zac (zas (pmD (pv 0) Z.bc.cl Z.bu g hr (zaa (pv 1) zag)))
  (zah (zgg (zdd hr) (za0 (pv 0) rfl) (pv 1) zhg rfl))),?_⟩
 kt_k
theorem zrw:zam ["self","house"] ["self","house"] (zai (zaf (top 25) 12)):=fS
def z4d (spS:Sp)(CB CT CW:Addr):Sp:=fun vs H Q _=>∀ CC:Prop,(∀ (w td sd:Addr) (z r:Int) (hs sil:List Int) (T:Int->zbp) (i:Int),vs=[.ref w,.int i]->zaj CB CT CW H w td sd z r hs sil T->i∈hs->(∀ (H':Hp),zaj CB CT CW H' w td sd z r (zf0 i hs) (zf0 i sil) T->(∀ q o,H q=some o->q≠td->q≠sd->H' q=some o)->spS [.ref w,.int i] H' (fun _ H2=>Q .non H2) E0)->CC)->CC
theorem zrv (Z:ZZ P w K mg base){CB CT:Addr}{spS:Sp}(zdr:zb2 Z 4 Z.ce spS):zb2 Z 5 Z.cf (z4d spS CB CT Z.bc.C):=by
 have aa:=Z.bc.cl
 obtain ⟨ad,u,ac,ab,-⟩:=Z.bc.na
 have n:=zbv (CB:=CB) (CT:=CT) Z
 refine Z.cf.fn.ok zrw (by kd_p) (fun cdv A outer s H vs Q E hr m=>?_)
 refine m _ fun w td sd z r hs sil TT i j hW hi k=>?_
 subst j
 obtain ⟨⟨dx,f⟩,d,l,-⟩:=id hW
 have h:zdi (zcs hs TT) (Sum.inl i)=some (V.ref (TT i).t):=by rw [zdu,if_pos hi]
 refine ⟨_,(zac (zas (pmD (pv 0) Z.bc.cl Z.bu n hr (zaa (pv 1) zag)))
  (zac (zas (zw4 (za0 (pv 0) rfl) (pv 1) ⟨rfl,rfl,rfl,rfl⟩))
  (zac (zas (zp9 (za0 (pv 0) rfl) (pv 1) zcd ⟨rfl,rfl,rfl,rfl⟩))
  (zah (zas (pmD (pv 0) Z.bc.cl Z.ce zdr hr (zaa (pv 1) zag))))))),?_⟩
 kt_k
 refine ⟨.inl ⟨_,.inl d⟩,_,rfl,_,Sum.inl i,_,d,rfl,h,?_⟩
 have nw:w≠td:=zcv f d (by intro z; cases z)
 have c:upd H td (.dK (ze1 (zcs hs TT) (Sum.inl i))) w=some (.ins Z.bc.C dx.1 (wF z r td sd dx)):=by rw [zab nw]; exact f
 have a:upd H td (.dK (ze1 (zcs hs TT) (Sum.inl i))) sd=some (.dK (zfm sil)):=by rw [zab hW.ts.symm]; exact l
 have b:upd H td (.dK (ze1 (zcs hs TT) (Sum.inl i))) td=some (.dK (zcs (zf0 i hs) TT)):=by rw [zad,zus]
 have k1:∀ q o,H q=some o->q≠td->upd H td (.dK (ze1 (zcs hs TT) (Sum.inl i))) q=some o:=fun q o e y=>by rw [zab y]; exact e
 generalize upd H td (.dK (ze1 (zcs hs TT) (Sum.inl i)))=H1 at c a b k1 |-
 kt_k
 refine ⟨.inl ⟨_,.inl a⟩,_,rfl,_,Sum.inl i,a,rfl,fun v hv=>?_,fun hv=>?_⟩
 ·have k2:∀ q o,H q=some o->q≠td->q≠sd->upd H1 sd (.dK (ze1 (zfm sil) (Sum.inl i))) q=some o:=fun q o e y1 y2=>by rw [zab y2]; exact k1 q o e y1
  have hk:=k _ (hW.dicts k2 (by rw [zab hW.ts]; exact b) (by rw [zad,zwy]) (zfz hW.nd) (fun x hx=>(zb_.mp hx).1) (gy ztt hW.ln)) k2
  have p:upd H1 sd (.dK (ze1 (zfm sil) (Sum.inl i))) w=some (.ins Z.bc.C dx.1 (wF z r td sd dx)):=by rw [zab (zcv c a (by intro z; cases z))]; exact c
  kt_k
 ·have g:i∉sil:=fun y=>by
   have:=zgs (sil:=sil) (i:=i)
   rw [hv,decide_eq_true y] at this
   cases this
  have hk:=k H1 (hW.dicts (fun q o e y1 _=>k1 q o e y1) b (by rw [zyj g]; exact a) (zfz hW.nd) (fun x hx=>(zb_.mp hx).1) (gy ztt hW.ln)) (fun q o e y1 _=>k1 q o e y1)
  kt_k
theorem zi1 (ns:List Int){m:Int}(hm:0<=m):zm2 (ns.map V.int) none (some m)=(ns.take m.toNat).map V.int:=by
 obtain ⟨k,rfl⟩:∃ k:Nat,m=k:=⟨m.toNat,by omega⟩
 unfold zm2
 rw [HT.sIx_none,HT.sIx_nat,mr,Nat.sub_zero,gf,<- o0,ji]
 congr 1
 rcases Nat.le_total k ns.length with h | h
 ·rw [Nat.min_eq_left h]
 ·rw [Nat.min_eq_right h,i6,iu h]
def zyg (K:W.Frag)(CB CT T0:Addr):Sp:=fun vs H Q _=>∀ CC:Prop,(∀ (t bl:Addr) (own z r g many:Int) (bv:V) (n:Nat) (bA lA:Nat->Addr) (ns:Nat->List Int),vs=[.ref t,.int g,.int many,bv]->zdg CB CT H t bl own z r n bA lA ns->(zes ns n).length<64->((∀ y∈zes ns n,0<=y))->0<=g->0<=many->((bv = .non\/∃ b,bv = .int b))->Tab H T0 (zao zda) quL->(∀ (l:Addr) (H':Hp),Nx T0 H H'->H l=none->H' l=some (.lst (((za3 g ((zau (zes ns n)).filter fun y=> !decide (V.int y=bv))).take many.toNat).map V.int))->Q (.ref l) H')->CC)->CC
theorem zfd:zam ["self","goal","many","but","names"] ["self","goal","many","but"] (zai (zaf (top 22) 6)):=fS
theorem zir (Z:ZZ P w K mg base):zxa Z 6 Z.cg (zyg K Z.ba.C Z.bb.C Z.bk.P):=by
 have ad:=Z.bb.cl
 have aa:=zv5 Z
 have p:=zf5 Z
 refine Z.cg.ok zfd (by kd_p) (fun cdv A outer s H vs Q E hr v=>?_)
 refine v _ fun t bl own z r g ac bv n bA lA ns h hT d o hg c f a k=>?_
 subst h
 obtain ⟨dx,af⟩:=hT.ob
 refine ⟨_,(zac (zmk (i:=4) zfd.nd rfl oL rfl (zbn (own:=["name"]) (caps:=[3]) (N':=["name","but"]) (by kernel_rfl)) (zbr (zcm (pv 0) Z.bb.cl Z.bo.me p hr.mm Z.bo.b .nil zcb)) (fun _ _ _ _ _=>(zaz (i:=0) (show (["name","but"]:List Str).Nodup by decide +kernel) rfl oL)) (fun _ _ _ _ _=>(zfl (zav zv4 (pv 0) (pv 1) (za6 _)))) (fun _ _ _ _ _=>(pv 0)))
  (zah (zat (zdo zev (zh0 aa hr.mm rfl Z.bk.hm Z.bk.kp Z.bk.b .nil zcb (zaa (pv 1) (zaa (pv 4) zag))) zgl (zdx (pv 2)))))),?_⟩
 kt_k
 intro m H1 hm j s1
 kt_k
 intro D hD
 refine zgk (fun y=> !decide (V.int y=bv)) hD (SqL.of j) (by rw [zbi]; omega) (fun x hx H2 Qt s2 q=>?_) fun H2 s2 ae=>?_
 ·have sc:z3u (V.int x) bv=true:=by rcases f with rfl | ⟨b,rfl⟩ <;> rfl
  exact ⟨_,rfl,_,rfl,sc,_,rfl,q H2 (zax.refl H2)⟩
 ·have ah:Tab H2 Z.bk.P (zao zda) quL:=((s1.trans s2).but _).2 _ _ a
  have u:((zau (zes ns n)).filter fun y=> !decide (V.int y=bv)).length<64:=je (ib _ _) (by rw [zbi]; exact d)
  have ab:∀ y∈(zau (zes ns n)).filter fun y=> !decide (V.int y=bv),0<=y:=fun y hy=>o y ((zan _).subset (gz.mp hy).1)
  kt_k
  intro l H3 nb e hl ag
  have N3:Nx Z.bk.P H H3:=(Nx.of a (s1.trans s2)).trans ⟨nb,e⟩
  kt_k
  rw [zi1 _ c]
  intro q hq
  exact k q _ (N3.same (zax.new H3 hq)) (N3.free hq) zad
def Ng (gd:Addr)(ks:List Int)(ad:Int->Addr)(q:Addr):Prop:=q=gd\/∃ k∈ks,q=ad k
theorem zco.bounds {H:Hp}{gd:Addr}{ks:List Int}{ad:Int->Addr}{G:Int->List (Int × Th)}(M:zco H gd ks ad G){q:Addr}(h:Ng gd ks ad q):∃ d,H q=some (.dK d):=by
 rcases h with rfl | ⟨k,hk,rfl⟩
 ·exact ⟨_,M.tg⟩
 ·exact ⟨_,M.it k hk⟩
theorem zi3 {h x:Int}{l:List Int}:x∈zc5 h l↔x∈l\/x=h:=by
 unfold zc5
 split
 ·exact ⟨.inl,fun y=>y.elim id fun e=>by rw [e]; assumption⟩
 ·rw [gm,gb]
theorem zst {ks:List Int}{ad:Int->Addr}{k:Int}{d:Addr}(hk:k∉ks):zd6 (thD ks ad) (Sum.inl k) (V.ref d)=thD (ks++[k]) (zdh ad k d):=by
 rw [ziy _ (by rw [zfi,if_neg hk])]
 unfold thD
 rw [i9]
 congr 1
 ·exact j5 fun x hx=>by rw [zap (fun e=>hk (by rw [<- e]; exact hx))]
 ·show [(Sum.inl k,V.ref d)]=[(Sum.inl k,V.ref (zdh ad k d k))]
  rw [zak]
theorem zco.put {H:Hp}{gd:Addr}{ks:List Int}{ad:Int->Addr}{G:Int->List (Int × Th)}(M:zco H gd ks ad G){k h:Int}{t:Th}(hk:k∈ks)(ht:H t.a=some (.tup [.int k,.int t.n,.str t.s])):zco (upd H (ad k) (.dK (inD (zgf (G k) h t)))) gd ks ad (zdh G k (zgf (G k) h t)):=by
 have tup:∀ {a:Addr} {xs:List V},H a=some (.tup xs)->upd H (ad k) (.dK (inD (zgf (G k) h t))) a=some (.tup xs):=fun e=>by
  rw [zab (fun z=>by rw [z,M.it k hk] at e; cases e)]
  exact e
 refine ⟨?_,fun x hx=>?_,fun x hx e he=>?_,M.nk,M.ni,M.ne,fun x hx=>?_⟩
 ·rw [zab (M.ne k hk).symm]
  exact M.tg
 ·by_cases e:x=k
  ·rw [e,zad,zak]
  ·rw [zab (fun z=>e (M.ni x hx k hk z)),zap e]
   exact M.it x hx
 ·by_cases z:x=k
  ·rw [z,zak] at he
   rw [z]
   rcases ziz he with y | rfl
   ·exact tup (M.tu k hk e y)
   ·exact tup ht
  ·rw [zap z] at he
   exact tup (M.tu x hx e he)
 ·rw [zap (fun e=>hx (by rw [e]; exact hk))]
  exact M.go x hx
theorem zco.new {H:Hp}{gd:Addr}{ks:List Int}{ad:Int->Addr}{G:Int->List (Int × Th)}(M:zco H gd ks ad G){k h:Int}{t:Th}{d:Addr}(hk:k∉ks)(ht:H t.a=some (.tup [.int k,.int t.n,.str t.s]))(hd:H d=none){H':Hp}(e1:H' gd=some (.dK (thD (ks++[k]) (zdh ad k d))))(e2:H' d=some (.dK (inD (zgf (G k) h t))))(e3:∀ q o,H q=some o->q≠gd->H' q=some o):zco H' gd (ks++[k]) (zdh ad k d) (zdh G k (zgf (G k) h t)):=by
 have f:d≠gd:=(zae M.tg hd).symm
 have c:∀ x∈ks,zdh ad k d x=ad x:=fun x hx=>zap (fun e=>hk (by rw [<- e]; exact hx))
 have tup:∀ {a:Addr} {xs:List V},H a=some (.tup xs)->H' a=some (.tup xs):=fun e=>e3 _ _ e (fun z=>by rw [z,M.tg] at e; cases e)
 have mem:∀ {x:Int},x∈ks++[k]->x∈ks\/x=k:=fun hx=>(gm.mp hx).imp id gb.mp
 refine ⟨e1,fun x hx=>?_,fun x hx e he=>?_,zbd M.nk hk,fun x hx y hy e=>?_,fun x hx=>?_,fun x hx=>?_⟩
 ·rcases mem hx with y | rfl
  ·rw [c x y,zap (fun e=>hk (by rw [<- e]; exact y))]
   exact e3 _ _ (M.it x y) (M.ne x y)
  ·rw [zak,zak]
   exact e2
 ·rcases mem hx with y | rfl
  ·rw [zap (fun e=>hk (by rw [<- e]; exact y))] at he
   exact tup (M.tu x y e he)
  ·rw [zak,M.go _ hk] at he
   rcases ziz he with y | rfl
   ·cases y
   ·exact tup ht
 ·rcases mem hx with a | rfl <;> rcases mem hy with b | rfl
  ·rw [c x a,c y b] at e
   exact M.ni x a y b e
  ·rw [c x a,zak] at e
   exact absurd e (zae (M.it x a) hd)
  ·rw [c y b,zak] at e
   exact absurd e.symm (zae (M.it y b) hd)
  ·rfl
 ·rcases mem hx with y | rfl
  ·rw [c x y]
   exact M.ne x y
  ·rw [zak]
   exact f
 ·have hx:x∉ks/\x≠k:=⟨fun y=>hx (gr _ y),fun y=>hx (g7 _ (gb.mpr y))⟩
  rw [zap hx.2]
  exact M.go x hx.1
theorem zf9:zam ["self","house","key","thing","keepers"] ["self","house","key","thing"] (zai (zaf (top 27) 7)):=fS
def z0q (CW:Addr):Sp:=fun vs H Q _=>∀ CC:Prop,(∀ (w td sd:Addr) (z r:Int) (dx:Addr × Addr × Int) (ks:List Int) (ad:Int->Addr) (G:Int->List (Int × Th)) (h k:Int) (t:Th),vs=[.ref w,.int h,.int k,.ref t.a]->H w=some (.ins CW dx.1 (wF z r td sd dx))->zco H dx.2.1 ks ad G->H t.a=some (.tup [.int k,.int t.n,.str t.s])->ks.length<=900->(G k).length<=900->(∀ (H':Hp) (ad':Int->Addr),zco H' dx.2.1 (zc5 k ks) ad' (zdh G k (zgf (G k) h t))->(∀ T1,zd1 T1 H H' (Ng dx.2.1 ks ad) (Ng dx.2.1 (zc5 k ks) ad'))->(k∈ks->ad'=ad)->Q .non H')->CC)->CC
theorem zf7 (Z:ZZ P w K mg base):zb2 Z 1 Z.ch (z0q Z.bc.C):=by
 have af:=Z.bc.cl
 obtain ⟨ak,ae,aj,ah,al,ai,-⟩:=Z.bc.na
 refine Z.ch.fn.ok zf9 (by kd_p) (fun cdv A outer s H vs Q E hr ac=>?_)
 refine ac _ fun w td sd z r dx ks ad G h kk t aa g M ht ag ab k=>?_
 subst aa
 have u:(thD ks ad).length<sizeLine:=by
  unfold thD
  rw [gf]
  exact zar (by omega)
 have p:∀ l:List (Int × Th),l.length<=900->(inD l).length<sizeLine:=fun l hl=>by
  unfold inD
  rw [gf]
  exact zar (by omega)
 refine ⟨_,(zac (zaw (i:=4) zf9.nd rfl oL (zqo (za0 (pv 0) rfl) (pv 2) zd_ ⟨rfl,rfl,rfl,rfl⟩))
  (zah (zgg (zdd hr) (pv 4) (pv 1) (pv 3) rfl))),?_⟩
 kt_k
 refine ⟨.inl ⟨_,.inl M.tg⟩,?_⟩
 kt_k
 intro d hd
 have j:d≠dx.2.1:=(zae M.tg hd).symm
 refine ⟨_,Sum.inl kk,by rw [zab j.symm]; exact M.tg,rfl,u,fun v hv=>?_,fun hv=>?_⟩
 ·rw [zfi] at hv
  by_cases hk:kk∈ks
  ·rw [if_pos hk] at hv
   cases hv
   have s1:zax H (upd H d (.dK [])):=zax.new H hd
   have M1:=M.same s1
   have n:=s1 _ _ ht
   have f:=s1 _ _ g
   have b:=M1.it kk hk
   generalize upd H d (.dK [])=H1 at s1 M1 n f b |-
   have c:zkv H1 (ad kk) (V.int h) (V.ref t.a) (upd H1 (ad kk) (.dK (zd6 (inD (G kk)) (Sum.inl h) (V.ref t.a)))):=zkv.k (k:=Sum.inl h) b (p _ ab)
   rw [zsm] at c
   kt_k
   have ea:zc5 kk ks=ks:=by
    unfold zc5
    rw [if_pos hk]
   refine k _ ad (by rw [ea]; exact M1.put hk n) (fun T1=>?_) fun _=>rfl
   rw [ea]
   refine ⟨fun q o _ e hn=>?_,fun q y=> .inl y,fun q e=>?_,fun q ps e _=>?_⟩
   ·rw [zab (fun y=>hn (.inr ⟨kk,hk,y⟩))]
    exact s1 _ _ e
   ·by_cases y:q=ad kk
    ·rw [y,zad] at e
     cases e
    ·rw [zab y] at e
     exact s1.free e
   ·rw [zab (fun y=>by rw [y,M.it kk hk] at e; cases e)]
    exact s1 _ _ e
  ·rw [if_neg hk] at hv
   cases hv
 ·rw [zfi] at hv
  by_cases hk:kk∈ks
  ·rw [if_pos hk] at hv
   cases hv
  ·rw [zst hk]
   have ea:zc5 kk ks=ks++[kk]:=by
    unfold zc5
    rw [if_neg hk]
   have b:upd (upd H d (.dK [])) dx.2.1 (.dK (thD (ks++[kk]) (zdh ad kk d))) d=some (.dK (inD [])):=by
    rw [zab j,zad]
    rfl
   have f:upd (upd H d (.dK [])) dx.2.1 (.dK (thD (ks++[kk]) (zdh ad kk d))) w=some (.ins Z.bc.C dx.1 (wF z r td sd dx)):=by
    rw [zab (zcv g M.tg (by intro z; cases z)),zab (zae g hd)]
    exact g
   have g1:upd (upd H d (.dK [])) dx.2.1 (.dK (thD (ks++[kk]) (zdh ad kk d))) dx.2.1=some (.dK (thD (ks++[kk]) (zdh ad kk d))):=zad
   have o1:∀ q o,H q=some o->q≠dx.2.1->upd (upd H d (.dK [])) dx.2.1 (.dK (thD (ks++[kk]) (zdh ad kk d))) q=some o:=fun q o e y=>by
    rw [zab y,zab (zae e hd)]
    exact e
   have f1:∀ q,upd (upd H d (.dK [])) dx.2.1 (.dK (thD (ks++[kk]) (zdh ad kk d))) q=none->H q=none:=fun q e=>by
    by_cases y:q=dx.2.1
    ·rw [y,zad] at e
     cases e
    ·rw [zab y] at e
     by_cases y2:q=d
     ·rw [y2]
      exact hd
     ·rw [zab y2] at e
      exact e
   generalize upd (upd H d (.dK [])) dx.2.1 (.dK (thD (ks++[kk]) (zdh ad kk d)))=H1 at b f g1 o1 f1 |-
   have c:zkv H1 d (V.int h) (V.ref t.a) (upd H1 d (.dK (zd6 (inD []) (Sum.inl h) (V.ref t.a)))):=zkv.k (k:=Sum.inl h) b (p _ (ix _))
   rw [zsm] at c
   kt_k
   refine k _ (zdh ad kk d) ?_ (fun T1=>?_) fun y=>absurd y hk
   ·rw [ea]
    refine M.new hk ht hd ?_ ?_ fun q o e y=>?_
    ·rw [zab j.symm]
     exact g1
    ·rw [zad,M.go kk hk]
    ·rw [zab (zae e hd)]
     exact o1 q o e y
   ·rw [ea]
    refine ⟨fun q o _ e hn=>?_,fun q y=>?_,fun q e=>?_,fun q ps e _=>?_⟩
    ·rw [zab (zae e hd)]
     exact o1 q o e fun y=>hn (.inl y)
    ·rcases y with y | ⟨x,hx,y⟩
     ·exact .inl (.inl y)
     ·rcases gm.mp hx with m | m
      ·rw [zap (fun e=>hk (by rw [<- e]; exact m))] at y
       exact .inl (.inr ⟨x,m,y⟩)
      ·rw [gb.mp m,zak] at y
       exact .inr (by rw [y]; exact hd)
    ·by_cases y:q=d
     ·rw [y]
      exact hd
     ·rw [zab y] at e
      exact f1 q e
    ·rw [zab (zae e hd)]
     exact o1 q _ e (fun y=>by rw [y,M.tg] at e; cases e)
def zgq:Expr:=match (zbj (zaf (top 27) 8)).getD 2 (.Pass zuz) with | .Return (some (.Call _ _ (k :: _) _)) _=>k.value | _=> .Constant .none 0 zuz
def quN:Str:=(("Market.newest" : Str) ++ ".<locals>.") ++ "<lambda>"
abbrev RN:Addr->FuncData->Prop:=RLm "<lambda>" quN (zdk zgq) (zdj zgq) (zci zgq)
abbrev z4u (H:Hp)(f:Addr)(cv:List V)(fd:FuncData):Prop:=zww H f "<lambda>" quN (zdk zgq) (zdj zgq) (zci zgq) [] cv fd
def z32 (cv:List V):Sp:=fun vs H Q _=>∃ (a:Addr) (x y:V) (n:Int),vs=[.ref a]/\cv=[]/\H a=some (.tup [x,.int n,y])/\Q (.int n) H
def spN (f:Addr)(fd:FuncData):Sp:=fun vs H Q E=>∃ cv,cv.length=([]:List Str).length/\z4u H f cv fd/\z32 cv vs H Q E
def Ny (T:Addr)(H H':Hp):Prop:=(∀ b o,b≠T->H b=some o->H' b=some o)/\Tab H' T (zao zgq) quN
def thV (ts:List Th):List V:=ts.map fun t=>V.ref t.a
theorem zmx {α:Type}{f:Int->Option α}{cs:List Int}{i:Nat}{c:Int}(h:cs[i]? = some c):(cs.take (i+1)).filterMap f=(cs.take i).filterMap f++(f c).toList:=by
 rw [ja,h,List.filterMap_append]
 congr 1
theorem zy9 {f:Addr}{fd:FuncData}(h:RN f fd):zcq K fd ["thing"] []:=by
 obtain ⟨clos,pm,c',ct,rfl⟩:=h
 exact .all (us1 fun _=>rfl)
theorem zze:zhd ["thing"] ["thing"] [] (zci zgq):=⟨rfl,rfl,rfl,by decide +kernel,by decide +kernel,by decide +kernel,by decide +kernel,by decide +kernel,by decide +kernel,by decide +kernel⟩
theorem zz8 {f:Addr}{fd:FuncData}:zdm P w K mg base CX0 1 f fd ["thing"] (spN f fd):=by
 refine zqn (name:= "<lambda>") (qual:=quN) (params:=zdk zgq) (body:=zdj zgq) (sp:=z32) zze (fun cv vs H Q E h=>?_) (fun clos cdv A outer s H cv vs Q E hr b h=>?_)
 ·obtain ⟨a,x,y,n,rfl,_⟩:=h
  rfl
 ·obtain ⟨a,x,y,n,rfl,rfl,ha,k⟩:=h
  refine ⟨_,(zey zj5 (pv 0) zal (fun _ _=>rfl)),?_⟩
  kt_k
theorem zdb:zam ["self","key","houses","keepers","things"] ["self","key","houses"] (zai (zaf (top 27) 8)):=fS
def zu6 (K:W.Frag)(CW T4:Addr):Sp:=fun vs H Q _=>∀ CC:Prop,(∀ (w td sd:Addr) (z r:Int) (dx:Addr × Addr × Int) (ks:List Int) (ad:Int->Addr) (G:Int->List (Int × Th)) (k:Int) (cl:Addr) (cs:List Int),vs=[.ref w,.int k,.ref cl]->H w=some (.ins CW dx.1 (wF z r td sd dx))->zco H dx.2.1 ks ad G->SqL K H cl (cs.map V.int)->cs.length<=900->Tab H T4 (zao zgq) quN->(∀ H',Ny T4 H H'->((∀ c∈cs,zby (G k) c=none)->Q .non H')/\∀ t c,c∈cs->zby (G k) c=some t->(∀ c'∈cs,∀ t',zby (G k) c'=some t'->t'.n<=t.n)->Q (.ref t.a) H')->CC)->CC
theorem zfa (Z:ZZ P w K mg base):zxw Z 3 Z.ci (zu6 K Z.bc.C Z.ci.P):=by
 have ao:=Z.bc.cl
 obtain ⟨au,aw,az,ax,av,ay,-⟩:=Z.bc.na
 have GL:∀ f fd,RN f fd->zdm P w K mg base CX0 1 f fd ["thing"] (spN f fd):=fun f fd _=>zz8
 have bL:∀ f fd,RN f fd->zcq K fd ["thing"] []:=fun f fd h=>zy9 h
 refine Z.ci.ok Z.db zdb (fz:=[]) (by decide +kernel) (by kd_p) (fun A outer s H vs Q E hr af H1 sm ap hC=>?_)
 refine af _ fun w td sd z r dx ks ad G kk cl cs ac q M0 ai hl aj k=>?_
 subst ac
 have ar:=sm _ _ q
 have M:=M0.same sm
 have hq:=sm.seq ai
 have hT:=(sm.but Z.ci.P).2 _ _ aj
 refine ⟨_,(zac (zaw (i:=3) zdb.nd rfl (Or.inr rfl) (zvh (zdd hr) (za0 (pv 0) rfl) (pv 1) zd_ ⟨rfl,rfl,rfl,rfl⟩))
  (zac (zmk (i:=4) zdb.nd rfl oL rfl (zbn (own:=["house"]) (caps:=[3]) (N':=["house","keepers"]) (by kernel_rfl)) (zbr (pv 2)) (fun _ _ _ _ _=>(zaz (i:=0) (show (["house","keepers"]:List Str).Nodup by decide +kernel) rfl oL)) (fun _ _ _ _ _=>(zfl (ztk (zr9 (zdd hr) (pv 0) (pv 1))))) (fun _ _ _ _ _=>(zdt (zdd hr) (pv 1) (pv 0) (fun _ _=>rfl))))
  (zah (zat (zy5 rfl rfl Z.da.n_max zxc GL bL hr.mm (pv 4) (zp1 rfl hC Z.de (zft (by kernel_rfl))) zcd))))),?_⟩
 kt_k
 refine ⟨.inl ⟨_,.inl M.tg⟩,?_⟩
 kt_k
 intro d hd
 have s1:zax H1 (upd H1 d (.dK [])):=zax.new H1 hd
 have p:upd H1 d (.dK []) d=some (.dK []):=zad
 generalize upd H1 d (.dK [])=H2 at s1 p |-
 have M2:=M.same s1
 have hg:=zg0.k (k:=Sum.inl kk) M2.tg
 obtain ⟨kd,ab,ag⟩:∃ kd,(zdi (thD ks ad) (Sum.inl kk)).getD (V.ref d)=V.ref kd/\H2 kd=some (.dK (inD (G kk))):=by
  rw [zfi]
  by_cases hk:kk∈ks
  ·rw [if_pos hk]
   exact ⟨_,rfl,M2.it kk hk⟩
  ·rw [if_neg hk,M.go kk hk]
   exact ⟨d,rfl,p⟩
 refine ⟨_,hg,?_⟩
 rw [ab]
 have aa:=s1.seq hq
 kt_k
 refine ⟨⟨_,aa⟩,fun D hD=>?_⟩
 refine zem (K:=K) (a:=cl) (xs:=cs.map V.int) (fun i σ H3=>zis (∃ v,σ=[v,some (.ref kd)]/\zax H2 H3/\H3 D=some (.lst (thV ((cs.take i).filterMap (zby (G kk))))))) ⟨⟨none,rfl,zax.new H2 hD,zad⟩⟩ (fun i σ H3 _ ⟨v,_,s3,_⟩=>s3.seq aa) ?_ ?_
 ·rintro i y σ H3 hi ⟨v,rfl,s3,g⟩
  obtain ⟨c,hc,rfl⟩:∃ c,cs[i]? = some c/\y=V.int c:=by
   rw [List.getElem?_map] at hi
   cases e:cs[i]? with
   | none=>rw [e] at hi; cases hi
   | some x=>rw [e] at hi; exact ⟨x,rfl,(Option.some.inj hi).symm⟩
  have m:=zg0.k (k:=Sum.inl c) (s3 _ _ ag)
  rw [zm0] at m
  have an:(thV ((cs.take i).filterMap (zby (G kk)))).length<sizeLine:=by
   unfold thV
   rw [gf]
   have:=List.length_filterMap_le (zby (G kk)) (cs.take i)
   have:(cs.take i).length<=cs.length:=by rw [i5]; omega
   exact zar (by omega)
  cases e:zby (G kk) c with
  | none =>
   rw [e] at m
   kt_k
   refine ⟨⟨_,rfl,s3,?_⟩⟩
   rw [g,zmx hc,e]
   rw [show (none:Option Th).toList=[] from rfl,iy]
  | some t =>
   rw [e] at m
   kt_k
   refine ⟨⟨_,rfl,s3.put hD,?_⟩⟩
   rw [zad,zmx hc,e]
   unfold thV
   rw [i9]
   rfl
 ·rintro σ H3 ⟨v,rfl,s3,g⟩
  rw [gf,i6] at g
  have u:Tab H3 Z.ci.P (zao zgq) quN:=((s1.trans s3).but _).2 _ _ hT
  refine ⟨_,rfl,?_⟩
  dsimp only [zt0,zgx]
  refine zl6 u fun f H' fo clos c' oc k1 k2 hb al hf ah sh l ak=>?_
  obtain ⟨fd,aq,hR,hF⟩:=zly (qual:=quN) (params:=zdk zgq) (body:=zdj zgq) (scope:=zci zgq) (fr:=[]) (cv:=[]) sh ah l ak (fun i x v h1 h2=>by cases h1)
  have nP:∀ {b:Addr} {o:HO},(∀ ps,o≠ .tbl ps)->H3 b=some o->H' b=some o:=fun {b o} ho e=>hb _ _ (fun y=>by
   obtain ⟨ps,hP,_⟩:=u
   rw [y,hP] at e
   cases e
   exact ho _ rfl) e
  have M3:=M2.same s3
  have ny:Ny Z.ci.P H H':=⟨fun b o ae e=>hb _ _ ae (s3 _ _ (s1 _ _ (sm _ _ e))),al⟩
  have at_:∀ (i:Nat) (x:V),(thV (cs.filterMap (zby (G kk))))[i]? = some x->∃ t c,x=V.ref t.a/\c∈cs/\zby (G kk) c=some t/\(cs.filterMap (zby (G kk)))[i]? = some t:=fun i x hx=>by
   unfold thV at hx
   rw [List.getElem?_map] at hx
   obtain ⟨t,ht,rfl⟩:=j6.mp hx
   obtain ⟨c,hc,e⟩:=ij.mp (i4 ht)
   exact ⟨t,c,rfl,hc,e,ht⟩
  obtain ⟨q0,q1⟩:=k H' ny
  refine ⟨D,f,fd,thV (cs.filterMap (zby (G kk))),fun i=>((cs.filterMap (zby (G kk)))[i]?.map (·.n)).getD 0,rfl,rfl,SqL.of (nP (fun _ z=>nomatch z) g),hR,fun i x hx Q' q'=>?_,fun e=>?_,fun i x hx hm=>?_⟩
  ·obtain ⟨t,c,rfl,hc,e,ht⟩:=at_ i x hx
   have hk:kk∈ks:=by
    refine Decidable.byContradiction fun hk=>?_
    rw [M.go kk hk] at e
    cases e
   have am:H' t.a=some (.tup [.int kk,.int t.n,.str t.s]):=nP (fun _ z=>nomatch z) (M3.tu kk hk _ (zbx e))
   replace q':Q' (.int (((cs.filterMap (zby (G kk)))[i]?.map (·.n)).getD 0)) H':=q'
   rw [ht] at q'
   exact ⟨[],rfl,hF,_,_,_,_,rfl,rfl,am,q'⟩
  ·refine q0 fun c hc=>?_
   cases e2:zby (G kk) c with
   | none=>rfl
   | some t =>
    have:=ij.mpr ⟨c,hc,e2⟩
    unfold thV at e
    rw [List.map_eq_nil_iff] at e
    rw [e] at this
    cases this
  ·obtain ⟨t,c,rfl,hc,e,ht⟩:=at_ i x hx
   refine q1 t c hc e fun c' l t' e'=>?_
   obtain ⟨j,hj⟩:=List.getElem?_of_mem (ij.mpr ⟨c',l,e'⟩)
   have:=hm j (by
    unfold thV
    rw [gf]
    exact (List.getElem?_eq_some_iff.mp hj).1)
   simp only [ht,hj,lh,nz] at this
   exact this
theorem zco.set {H:Hp}{gd:Addr}{ks:List Int}{ad:Int->Addr}{G:Int->List (Int × Th)}(M:zco H gd ks ad G){k:Int}{l:List (Int × Th)}(hk:k∈ks)(hl:∀ e∈l,e∈G k):zco (upd H (ad k) (.dK (inD l))) gd ks ad (zdh G k l):=by
 have tup:∀ {a:Addr} {xs:List V},H a=some (.tup xs)->upd H (ad k) (.dK (inD l)) a=some (.tup xs):=fun e=>by
  rw [zab (fun z=>by rw [z,M.it k hk] at e; cases e)]
  exact e
 refine ⟨?_,fun x hx=>?_,fun x hx e he=>?_,M.nk,M.ni,M.ne,fun x hx=>?_⟩
 ·rw [zab (M.ne k hk).symm]
  exact M.tg
 ·by_cases e:x=k
  ·rw [e,zad,zak]
  ·rw [zab (fun z=>e (M.ni x hx k hk z)),zap e]
   exact M.it x hx
 ·by_cases z:x=k
  ·rw [z,zak] at he
   rw [z]
   exact tup (M.tu k hk e (hl e he))
  ·rw [zap z] at he
   exact tup (M.tu x hx e he)
 ·rw [zap (fun e=>hx (by rw [e]; exact hk))]
  exact M.go x hx
theorem zfp {l:List (Int × Th)}{h:Int}:∀ e∈zk8 l h,e∈l:=fun e he=>(gz.mp he).1
theorem zzr {l:List (Int × Th)}{h:Int}(e:zby l h=none):zk8 l h=l:=by
 unfold zk8
 refine List.filter_eq_self.mpr fun x hx=>?_
 unfold zby at e
 rw [jp,List.find?_eq_none] at e
 have:=e x hx
 simpa using this
theorem zzw {H H':Hp}{gd:Addr}{ks:List Int}{ad:Int->Addr}{k:Int}{o:HO}{d:List (Key × V)}(hk:k∈ks)(hd:H (ad k)=some (.dK d))(e:H'=upd H (ad k) o)(T1:Addr):zd1 T1 H H' (Ng gd ks ad) (Ng gd ks ad):=by
 subst e
 refine ⟨fun q o _ e hn=>?_,fun q y=> .inl y,fun q e=>?_,fun q ps e _=>?_⟩
 ·rw [zab (fun y=>hn (.inr ⟨k,hk,y⟩))]
  exact e
 ·by_cases y:q=ad k
  ·rw [y,zad] at e
   cases e
  ·rw [zab y] at e
   exact e
 ·rw [zab (fun y=>by rw [y,hd] at e; cases e)]
  exact e
theorem zfc:zam ["self","house","key"] ["self","house"] (zai (zaf (top 27) 10)):=fS
def ztu (CW:Addr):Sp:=fun vs H Q _=>∀ CC:Prop,(∀ (w td sd:Addr) (z r:Int) (dx:Addr × Addr × Int) (ks:List Int) (ad:Int->Addr) (G:Int->List (Int × Th)) (h:Int),vs=[.ref w,.int h]->H w=some (.ins CW dx.1 (wF z r td sd dx))->zco H dx.2.1 ks ad G->ks.length<=900->(∀ H',zco H' dx.2.1 ks ad (fun k=>zk8 (G k) h)->(∀ T1,zd1 T1 H H' (Ng dx.2.1 ks ad) (Ng dx.2.1 ks ad))->Q .non H')->CC)->CC
theorem zil (Z:ZZ P w K mg base):zb2 Z 1 Z.ce (ztu Z.bc.C):=by
 have ae:=Z.bc.cl
 obtain ⟨ag,ai,am,aj,ah,al,-⟩:=Z.bc.na
 refine Z.ce.fn.ok zfc (by kd_p) (fun cdv A outer s H vs Q E hr q=>?_)
 refine q _ fun w td sd z r dx ks ad G h o p M ak k=>?_
 subst o
 have aa:=zmt (ks:=ks) (ad:=ad)
 have af:=M.tg
 have ab:ks.length<=1000:=by omega
 refine ⟨_,(zah (zd5 PassesOwn.never rfl (zbr (zfj (zrg rfl) rfl Z.da.n_list zpp (zaa (za0 (pv 0) rfl) zag))) (zaz (i:=2) zfc.nd rfl oL)
   (zah (zas (zp9 (zdt (zdd hr) (za0 (pv 0) rfl) (pv 2) (fun _ _=>rfl)) (pv 1) zcd ⟨rfl,rfl,rfl,rfl⟩))))),?_⟩
 kt_k
 intro l hl
 have s1:zax H (upd H l (.lst (ks.map V.int))):=zax.new H hl
 have g:upd H l (.lst (ks.map V.int)) l=some (.lst (ks.map V.int)):=zad
 generalize upd H l (.lst (ks.map V.int))=H1 at s1 g |-
 have M1:=M.same s1
 have f:=s1 _ _ p
 have nl:¬ Ng dx.2.1 ks ad l:=fun y=>by
  obtain ⟨d,e⟩:=M1.bounds y
  rw [g] at e
  cases e
 have nw:¬ Ng dx.2.1 ks ad w:=fun y=>by
  obtain ⟨d,e⟩:=M1.bounds y
  rw [f] at e
  cases e
 kt_k
 refine zcn (K:=K) (a:=l) (xs:=ks.map V.int) (fun j σ H2=>zis (∃ v,σ=[some (.ref w),some (.int h),v]/\zco H2 dx.2.1 ks ad (fun k=>if k∈ks.take j then zk8 (G k) h else G k)/\∀ T1,zd1 T1 H1 H2 (Ng dx.2.1 ks ad) (Ng dx.2.1 ks ad))) ?_ (fun j σ H2 _ ⟨_,_,_,d2⟩=>SqL.of ((d2 0).k _ _ (fun _ z=>nomatch z) g nl)) ?_ ?_
 ·refine ⟨⟨_,rfl,?_,fun T1=>zd1.refl _ _⟩⟩
  have e:(fun k=>if k∈ks.take 0 then zk8 (G k) h else G k)=G:=by
   funext k
   rw [List.take_zero,if_neg (fun z=>nomatch z)]
  rw [e]
  exact M1
 ·rintro j y σ H2 hj ⟨v,rfl,M2,d2⟩
  obtain ⟨x,hx,rfl⟩:∃ x,ks[j]? = some x/\y=V.int x:=by
   rw [List.getElem?_map] at hj
   cases e:ks[j]? with
   | none=>rw [e] at hj; cases hj
   | some x=>rw [e] at hj; exact ⟨x,rfl,(Option.some.inj hj).symm⟩
  have c:x∈ks:=i4 hx
  have n:x∉ks.take j:=fun y=>by
   obtain ⟨i,hi,e⟩:=List.mem_take_iff_getElem.mp y
   obtain ⟨h2,e2⟩:=List.getElem?_eq_some_iff.mp hx
   have:=(ku M.nk).mp (e.trans e2.symm)
   omega
  have ac:H2 w=some (.ins Z.bc.C dx.1 (wF z r td sd dx)):=(d2 0).k _ _ (fun _ z=>nomatch z) f nw
  have t:=zg0.k (k:=Sum.inl x) M2.tg
  rw [zfi,if_pos c] at t
  have b:=M2.it x c
  rw [if_neg n] at b
  have ek:(fun k=>if k∈ks.take (j+1) then zk8 (G k) h else G k)=zdh (fun k=>if k∈ks.take j then zk8 (G k) h else G k) x (zk8 (G x) h):=by
   funext k
   rw [zb9 hx]
   by_cases e:k=x
   ·rw [e,zak,if_pos (g7 _ (gb.mpr rfl))]
   ·rw [zap e]
    by_cases m:k∈ks.take j
    ·rw [if_pos m,if_pos (gr _ m)]
    ·rw [if_neg m,if_neg (fun y=>(gm.mp y).elim m fun z=>e (gb.mp z))]
  kt_k
  refine ⟨.inl ⟨_,.inl b⟩,_,rfl,_,Sum.inl h,b,rfl,fun u hu=>?_,fun hu=>?_⟩
  ·rw [zwf]
   refine ⟨⟨_,rfl,?_,fun T1=>(d2 T1).trans (zzw c b rfl T1)⟩⟩
   rw [ek]
   exact M2.set c fun e he=>by
    rw [if_neg n]
    exact zfp e he
  ·refine ⟨⟨_,rfl,?_,d2⟩⟩
   rw [zm0,jp] at hu
   rw [ek,zzr hu]
   have e:zdh (fun k=>if k∈ks.take j then zk8 (G k) h else G k) x (G x)=fun k=>if k∈ks.take j then zk8 (G k) h else G k:=by
    funext k
    by_cases e:k=x
    ·rw [e,zak,if_neg n]
    ·rw [zap e]
   rw [e]
   exact M2
 ·rintro σ H2 ⟨v,rfl,M2,d2⟩
  have e:(fun k=>if k∈ks.take (ks.map V.int).length then zk8 (G k) h else G k)=fun k=>zk8 (G k) h:=by
   funext k
   rw [gf,i6]
   by_cases m:k∈ks
   ·rw [if_pos m]
   ·rw [if_neg m,M.go k m]
    rfl
  rw [e] at M2
  exact k H2 M2 fun T1=>(zd1.same s1).trans (d2 T1)
theorem zkl:zam ["self","house"] ["self","house"] (zai (zaf (top 27) 3)):=fS
def zkt (ks:List Int)(G:Int->List (Int × Th))(h:Int):List Th:=(zau ks).filterMap fun k=>zby (G k) h
def z2i (CB CT CW:Addr):Sp:=fun vs H Q _=>∀ CC:Prop,(∀ (w td sd:Addr) (z r:Int) (hs sil:List Int) (T:Int->zbp) (dx:Addr × Addr × Int) (ks:List Int) (ad:Int->Addr) (G:Int->List (Int × Th)) (h:Int),vs=[.ref w,.int h]->zaj CB CT CW H w td sd z r hs sil T->h∈hs->H w=some (.ins CW dx.1 (wF z r td sd dx))->zco H dx.2.1 ks ad G->ks.length<64->(∀ (l:Addr) (H':Hp),zax H H'->H l=none->H' l=some (.lst (thV (zkt ks G h)))->Q (.ref l) H')->CC)->CC
theorem zkp (Z:ZZ P w K mg base){CB CT:Addr}:zb2 Z 5 Z.cj (z2i CB CT Z.bc.C):=by
 have ae:=Z.bc.cl
 obtain ⟨ak,ac,aj,ah,al,ai,-⟩:=Z.bc.na
 have u:=zbv (CB:=CB) (CT:=CT) Z
 refine Z.cj.fn.ok zkl (by kd_p) (fun cdv A outer s H vs Q E hr p=>?_)
 refine p _ fun w td sd z r hs sil TT dx ks ad G h m hW hh n M ag k=>?_
 subst m
 have q:=zmt (ks:=ks) (ad:=ad)
 have af:=M.tg
 refine ⟨_,(zac (zas (pmD (pv 0) Z.bc.cl Z.bu u hr (zaa (pv 1) zag)))
  (zah (zat (zht rfl (zbn (own:=["key"]) (caps:=[1,0]) (N':=["key","house","self"]) (by kernel_rfl)) (zbr (zbf (zea rfl) rfl Z.da.n_sorted zdy (zaa (za0 (pv 0) rfl) zag))) (fun _ _ _ _ _=>(zaz (i:=0) (show (["key","house","self"]:List Str).Nodup by decide +kernel) rfl oL)) (fun _ _ _ _ _=>(zfl (ztk (zr9 (zdd hr) (pv 1) (zdt (zdd hr) (zr4 (K:=K) rfl (pv 2) rfl) (pv 0) (fun _ _=>rfl)))))) (fun _ _ _ _ _=>(zdt (zdd hr) (zdt (zdd hr) (zr4 (K:=K) rfl (pv 2) rfl) (pv 0) (fun _ _=>rfl)) (pv 1) (fun _ _=>rfl))))))),?_⟩
 kt_k
 intro l hl
 have s1:zax H (upd H l (.lst ((zau ks).map V.int))):=zax.new H hl
 have f:upd H l (.lst ((zau ks).map V.int)) l=some (.lst ((zau ks).map V.int)):=zad
 generalize upd H l (.lst ((zau ks).map V.int))=H1 at s1 f |-
 kt_k
 intro D hD
 refine zem (K:=K) (a:=l) (xs:=(zau ks).map V.int) (fun i σ H3=>zis (∃ v,σ=[v,some (.int h),some (.ref w)]/\zax H1 H3/\H3 D=some (.lst (thV (((zau ks).take i).filterMap fun k=>zby (G k) h))))) ⟨⟨none,rfl,zax.new H1 hD,zad⟩⟩ (fun i σ H3 _ ⟨v,_,s3,_⟩=>s3.seq (SqL.of f)) ?_ ?_
 ·rintro i y σ H3 hi ⟨v,rfl,s3,b⟩
  obtain ⟨c,hc,rfl⟩:∃ c,(zau ks)[i]? = some c/\y=V.int c:=by
   rw [List.getElem?_map] at hi
   cases e:(zau ks)[i]? with
   | none=>rw [e] at hi; cases hi
   | some x=>rw [e] at hi; exact ⟨x,rfl,(Option.some.inj hi).symm⟩
  have g:c∈ks:=(zan _).subset (i4 hc)
  have j:=s1.trans s3
  have M3:=M.same j
  have ab:=j _ _ n
  have o:=zg0.k (k:=Sum.inl c) M3.tg
  rw [zfi,if_pos g] at o
  have d:=zg0.k (k:=Sum.inl h) (M3.it c g)
  rw [zm0] at d
  have aa:(thV (((zau ks).take i).filterMap fun k=>zby (G k) h)).length<sizeLine:=by
   unfold thV
   rw [gf]
   have:=List.length_filterMap_le (fun k=>zby (G k) h) ((zau ks).take i)
   have:((zau ks).take i).length<=(zau ks).length:=by rw [i5]; omega
   have:=zbi ks
   exact zar (by omega)
  cases e:zby (G c) h with
  | none =>
   rw [e] at d
   kt_k
   refine ⟨⟨_,rfl,s3,?_⟩⟩
   rw [b,zmx hc,e]
   rw [show (none:Option Th).toList=[] from rfl,iy]
  | some t =>
   rw [e] at d
   kt_k
   refine ⟨⟨_,rfl,s3.put hD,?_⟩⟩
   rw [zad,zmx hc,e]
   unfold thV
   rw [i9]
   rfl
 ·rintro σ H3 ⟨v,rfl,s3,b⟩
  rw [gf,i6] at b
  exact k D H3 (s1.trans s3) (s1.free hD) b
structure Kw (T0 T4:Addr)(O:Addr->Prop)(H H':Hp):Prop where
 k:∀ q o,q≠T0->q≠T4->¬ O q->H q=some o->H' q=some o
 t0:Tab H' T0 (zao zda) quL
 t4:Tab H' T4 (zao zgq) quN
 e:∀ q,H' q=none->H q=none
theorem Kw.refl {T0 T4:Addr}{O:Addr->Prop}{H:Hp}(t0:Tab H T0 (zao zda) quL)(t4:Tab H T4 (zao zgq) quN):Kw T0 T4 O H H:=⟨fun _ _ _ _ _ e=>e,t0,t4,fun _ e=>e⟩
theorem Kw.trans {T0 T4:Addr}{O:Addr->Prop}{H H1 H2:Hp}(a:Kw T0 T4 O H H1)(b:Kw T0 T4 O H1 H2):Kw T0 T4 O H H2:=⟨fun q o h0 h4 hn e=>b.k q o h0 h4 hn (a.k q o h0 h4 hn e),b.t0,b.t4,fun q e=>a.e q (b.e q e)⟩
theorem za1 {H:Hp}{T:Addr}{po:Pos}{qu:Str}(t:Tab H T po qu):∃ ps,H T=some (.tbl ps):=by
 obtain ⟨ps,h,_⟩:=t
 exact ⟨ps,h⟩
theorem Tab.past {H H':Hp}{Ta Tb:Addr}{po:Pos}{qu:Str}(t:Tab H Ta po qu)(n:Ta≠Tb)(hb:∃ ps,H Tb=some (.tbl ps))(k:∀ b o,b≠Tb->H b=some o->H' b=some o):Tab H' Ta po qu:=Tab.hold t fun q o ho e=>k q o (fun y=>by
 rcases ho with ⟨x,kk,rfl⟩ | y2
 ·obtain ⟨ps,hp⟩:=hb
  rw [y,hp] at e
  cases e
 ·exact n (y2.symm.trans y)) e
theorem Tab.deed {H H':Hp}{O O':Addr->Prop}{Ta:Addr}{po:Pos}{qu:Str}(t:Tab H Ta po qu)(d:∀ T1,zd1 T1 H H' O O')(hO:∀ q,O q->∃ x,H q=some (.dK x)):Tab H' Ta po qu:=Tab.hold t fun q o ho e=>by
 rcases ho with ⟨x,kk,rfl⟩ | y
 ·exact (d 0).k q _ (fun _ z=>nomatch z) e fun y=>by
   obtain ⟨x,e2⟩:=hO q y
   rw [e] at e2
   cases e2
 ·obtain ⟨ps,hp⟩:=za1 t
  rw [y,hp] at e
  cases e
  rw [y]
  exact (d (Ta+1)).t Ta ps hp (i0 (iz _))
theorem zhc {H H':Hp}{T:Addr}(h:∃ ps,H' T=some (.tbl ps))(k:∀ b o,b≠T->H b=some o->H' b=some o):∀ q,H' q=none->H q=none:=fun q e=>by
 cases eq:H q with
 | none=>rfl
 | some o =>
  by_cases y:q=T
  ·obtain ⟨ps,hp⟩:=h
   rw [y,hp] at e
   cases e
  ·rw [k q o y eq] at e
   cases e
theorem Kw.same {T0 T4:Addr}{O:Addr->Prop}{H H1 H2:Hp}(a:Kw T0 T4 O H H1)(s:zax H1 H2):Kw T0 T4 O H H2:=⟨fun q o h0 h4 hn e=>s _ _ (a.k q o h0 h4 hn e),(s.but T0).2 _ _ a.t0,(s.but T4).2 _ _ a.t4,fun q e=>a.e q (s.free e)⟩
theorem Kw.ny {T0 T4:Addr}{O:Addr->Prop}{H H1 H2:Hp}(a:Kw T0 T4 O H H1)(n:T0≠T4)(b:Ny T4 H1 H2):Kw T0 T4 O H H2:=⟨fun q o h0 h4 hn e=>b.1 _ _ h4 (a.k q o h0 h4 hn e),Tab.past a.t0 n (za1 a.t4) b.1,b.2,fun q e=>a.e q (zhc (za1 b.2) b.1 q e)⟩
theorem Kw.nx {T0 T4:Addr}{O:Addr->Prop}{H H1 H2:Hp}(a:Kw T0 T4 O H H1)(n:T0≠T4)(b:∀ b o,b≠T0->H1 b=some o->H2 b=some o)(t:Tab H2 T0 (zao zda) quL):Kw T0 T4 O H H2:=⟨fun q o h0 h4 hn e=>b _ _ h0 (a.k q o h0 h4 hn e),t,Tab.past a.t4 n.symm (za1 a.t0) b,fun q e=>a.e q (zhc (za1 t) b q e)⟩
theorem Kw.deed {T0 T4:Addr}{O:Addr->Prop}{H H1 H2:Hp}(a:Kw T0 T4 O H H1)(d:∀ T1,zd1 T1 H1 H2 O O)(hO:∀ q,O q->∃ x,H1 q=some (.dK x)):Kw T0 T4 O H H2:=⟨fun q o h0 h4 hn e=>by
 have e1:=a.k q o h0 h4 hn e
 by_cases z:∃ ps,o = .tbl ps
 ·obtain ⟨ps,rfl⟩:=z
  exact (d (q+1)).t q ps e1 (i0 (iz _))
 ·exact (d 0).k q o (fun ps y=>z ⟨ps,y⟩) e1 hn,Tab.deed a.t0 d hO,Tab.deed a.t4 d hO,fun q e=>a.e q ((d 0).e q e)⟩
theorem Kw.ob {T0 T4:Addr}{O:Addr->Prop}{H H1:Hp}(a:Kw T0 T4 O H H1)(t0:∃ ps,H T0=some (.tbl ps))(t4:∃ ps,H T4=some (.tbl ps))(hO:∀ q,O q->∃ x,H q=some (.dK x)){q:Addr}{o:HO}(h1:∀ ps,o≠ .tbl ps)(h2:∀ d,o≠ .dK d)(e:H q=some o):H1 q=some o:=a.k q o (fun y=>by
 obtain ⟨ps,hp⟩:=t0
 rw [y,hp] at e
 exact h1 ps (Option.some.inj e).symm) (fun y=>by
 obtain ⟨ps,hp⟩:=t4
 rw [y,hp] at e
 exact h1 ps (Option.some.inj e).symm) (fun y=>by
 obtain ⟨d,hd⟩:=hO q y
 rw [hd] at e
 exact h2 d (Option.some.inj e).symm) e
def zhk (r:Int)(h:Int)(vis:List Int)(k:Int)(l l':List (Int × Th)):Prop :=
 ((∀ c∈vis++[h],zby l c=none)\/h∉(za3 k (vis++[h])).take r.toNat)/\l'=l \/
 ∃ t c,c∈vis++[h]/\zby l c=some t/\(∀ c'∈vis++[h],∀ t',zby l c'=some t'->t'.n<=t.n)/\h∈(za3 k (vis++[h])).take r.toNat/\l'=zgf l h t
theorem zca:zam ["self","house","visited","circle","key","thing"] ["self","house","visited"] (zai (zaf (top 27) 9)):=fS
def zlq (K:W.Frag)(CW T0 T4:Addr):Sp:=fun vs H Q _=>∃ (w td sd:Addr) (z r:Int) (dx:Addr × Addr × Int) (ks:List Int) (ad:Int->Addr) (G:Int->List (Int × Th)) (h:Int) (vl:Addr) (vis:List Int),vs=[.ref w,.int h,.ref vl]/\H w=some (.ins CW dx.1 (wF z r td sd dx))/\zco H dx.2.1 ks ad G/\H vl=some (.lst (vis.map V.int))/\vis.length<60/\0<=h/\(∀ x∈vis,0<=x)/\ks.length<64/\(∀ k∈ks,0<=k)/\(∀ k,(G k).length<=800)/\1<=r/\Tab H T0 (zao zda) quL/\Tab H T4 (zao zgq) quN /\
 ∀ (H':Hp) (G':Int->List (Int × Th)),zco H' dx.2.1 ks ad G'->(∀ k∈ks,zhk r h vis k (G k) (G' k))->Kw T0 T4 (Ng dx.2.1 ks ad) H H'->Q .non H'
theorem zjy {K:W.Frag}{CW T0 T4:Addr}:z07 (zlq K CW T0 T4):=fun vs H Q Q' E hq h=>by
 obtain ⟨w,td,sd,z,r,dx,ks,ad,G,h,vl,vis,a1,a2,a3,a4,a5,a6,a7,a8,a9,a10,a11,a12,a13,k⟩:=h
 exact ⟨w,td,sd,z,r,dx,ks,ad,G,h,vl,vis,a1,a2,a3,a4,a5,a6,a7,a8,a9,a10,a11,a12,a13,fun H' G' b1 b2 b3=>hq _ _ (k H' G' b1 b2 b3)⟩
theorem zho (Z:ZZ P w K mg base):zb2 Z 6 Z.cb (zlq K Z.bc.C Z.bk.P Z.ci.P):=by
 have b5:=Z.bc.cl
 obtain ⟨b7,bz,cf,ce,b9,b0,-⟩:=Z.bc.na
 have bi:=zv5 Z
 have ba:=zf7 Z
 have bh:=zfa Z
 refine Z.cb.fn.ok zca (by kd_p) (fun cdv A outer s H vs Q E hr h=>?_)
 obtain ⟨w,td,sd,z,r,dx,ks,ad,G,h,vl,d,rfl,ar,M,hq,ca,a1,a4,cd,a3,a9,ck,ao,ax,k⟩:=h
 have bg:=zmt (ks:=ks) (ad:=ad)
 have x0:=za1 ao
 have x4:=za1 ax
 have b6:∀ q,Ng dx.2.1 ks ad q->∃ x,H q=some (.dK x):=fun q y=>M.bounds y
 refine ⟨_,(zac (zaw (i:=3) zca.nd rfl oL (za4 zj0 (pv 2) (zce (zaa (pv 1) zag))))
  (zah (zd5 PassesOwn.never rfl (zbr (zbf (zea rfl) rfl Z.da.n_sorted zdy (zaa (za0 (pv 0) rfl) zag))) (zaz (i:=4) zca.nd rfl oL)
   (zac (zaw (i:=5) zca.nd rfl oL (zed (pv 0) Z.bc.cl Z.ci.me bh hr.mm Z.ci.b .nil zcb (zaa (pv 4) (zaa (pv 3) zag))))
   (zah (zbz (PW.pt (zol (zav zge (pv 5) zcd (za6 _)) (zj4 (zav znr (pv 1) (zdo zev (zh0 bi hr.mm rfl Z.bk.hm Z.bk.kp Z.bk.b .nil zcb (zaa (pv 4) (zaa (pv 3) zag))) zgl (zdx (za0 (pv 0) rfl))) (by with_unfolding_all rfl)))))
    (zah (zas (pmD (pv 0) Z.bc.cl Z.ch ba hr (zaa (pv 1) (zaa (pv 4) (zaa (pv 5) zag))))))
    zay)))))),?_⟩
 kt_k
 intro l1 a5
 generalize az:upd H l1 _=H1
 obtain ⟨s1,e1⟩:=nw a5 az
 clear az
 have cg:=s1 _ _ hq
 have hsz:(d.map V.int).length+[V.int h].length<=sizeLine:=by
  rw [gf]
  exact ie (zar (by simp only [gq]; omega))
 kt_k
 intro cl ak
 rw [<- zfu]
 generalize au:upd H1 cl _=H2
 obtain ⟨s2,e2⟩:=nw ak au
 clear au
 have ah:=s1.trans s2
 have M2:=M.same ah
 have bq:=M2.tg
 have br:=ah _ _ ar
 kt_k
 intro sl a8
 generalize ap:upd H2 sl _=H3
 obtain ⟨s3,e3⟩:=nw a8 ap
 clear ap
 have p:=ah.trans s3
 have M3:=M.same p
 have u:=p _ _ ar
 have ab:=s3 _ _ e2
 have g:∃ ps,H3 Z.bk.P=some (.tbl ps):=let ⟨ps,e⟩:=x0; ⟨ps,p _ _ e⟩
 have l:∃ ps,H3 Z.ci.P=some (.tbl ps):=let ⟨ps,e⟩:=x4; ⟨ps,p _ _ e⟩
 have f:∀ q,Ng dx.2.1 ks ad q->∃ x,H3 q=some (.dK x):=fun q y=>M3.bounds y
 have af:Kw Z.bk.P Z.ci.P (Ng dx.2.1 ks ad) H H3:=(Kw.refl ao ax).same p
 have cpos:∀ n∈d++[h],0<=n:=fun n hn=>(gm.mp hn).elim (a4 n) fun y=>gb.mp y ▸ a1
 have bm:(d++[h]).length<64:=by
  rw [gl,gq]
  omega
 have a7:(d++[h]).length<=900:=by omega
 kt_k
 refine zcn (K:=K) (a:=sl) (xs:=(zau ks).map V.int) (fun j σ H6=>zis (∃ (v4 v5:Option V) (G6:Int->List (Int × Th)),σ=[some (.ref w),some (.int h),some (.ref vl),some (.ref cl),v4,v5]/\zco H6 dx.2.1 ks ad G6/\(∀ k∈(zau ks).take j,zhk r h d k (G k) (G6 k))/\(∀ k,k∉(zau ks).take j->G6 k=G k)/\Kw Z.bk.P Z.ci.P (Ng dx.2.1 ks ad) H3 H6)) ?_ (fun j σ H6 _ ⟨_,_,_,_,_,_,_,k6⟩=>SqL.of (k6.ob g l f (fun _ z=>nomatch z) (fun _ z=>nomatch z) e3)) ?_ ?_
 ·exact ⟨⟨_,_,G,rfl,M3,fun k hk=>absurd hk (by simp),fun _ _=>rfl,Kw.refl af.t0 af.t4⟩⟩
 ·rintro j y σ H6 hj ⟨v4,v5,G6,rfl,M6,aa,ae,k6⟩
  obtain ⟨x,hx,rfl⟩:∃ x,(zau ks)[j]? = some x/\y=V.int x:=by
   rw [List.getElem?_map] at hj
   cases e:(zau ks)[j]? with
   | none=>rw [e] at hj; cases hj
   | some x=>rw [e] at hj; exact ⟨x,rfl,(Option.some.inj hj).symm⟩
  have m:x∈ks:=(zan _).subset (i4 hx)
  have a2:(zau ks).Nodup:=(zan ks).nodup_iff.mpr M.nk
  have a0:x∉(zau ks).take j:=fun y=>by
   obtain ⟨i,hi,e⟩:=List.mem_take_iff_getElem.mp y
   obtain ⟨h2,e2⟩:=List.getElem?_eq_some_iff.mp hx
   have:=(ku a2).mp (e.trans e2.symm)
   omega
  have eG:=ae x a0
  have bn:H6 w=some (.ins Z.bc.C dx.1 (wF z r td sd dx)):=k6.ob g l f (fun _ z=>nomatch z) (fun _ z=>nomatch z) u
  have an:H6 cl=some (.lst ((d++[h]).map V.int)):=k6.ob g l f (fun _ z=>nomatch z) (fun _ z=>nomatch z) ab
  have bw:SqL K H6 cl ((d++[h]).map V.int):=SqL.of an
  have cc:=k6.t4
  have ai:∀ (H7:Hp) (G7:List (Int × Th)) (v5:Option V),zco H7 dx.2.1 ks ad (zdh G6 x G7)->zhk r h d x (G x) G7->Kw Z.bk.P Z.ci.P (Ng dx.2.1 ks ad) H3 H7->∃ (v4 v5':Option V) (G6:Int->List (Int × Th)),[some (V.ref w),some (V.int h),some (V.ref vl),some (V.ref cl),some (V.int x),v5]=[some (.ref w),some (.int h),some (.ref vl),some (.ref cl),v4,v5']/\zco H7 dx.2.1 ks ad G6/\(∀ k∈(zau ks).take (j+1),zhk r h d k (G k) (G6 k))/\(∀ k,k∉(zau ks).take (j+1)->G6 k=G k)/\Kw Z.bk.P Z.ci.P (Ng dx.2.1 ks ad) H3 H7:=fun H7 G7 v5 M7 bf k7=>by
   refine ⟨_,_,_,rfl,M7,fun k hk=>?_,fun k hk=>?_,k7⟩
   ·rw [zb9 hx] at hk
    by_cases e:k=x
    ·rw [e,zak]
     exact bf
    ·rw [zap e]
     exact aa k ((gm.mp hk).elim id fun z=>absurd (gb.mp z) e)
   ·rw [zb9 hx] at hk
    have hk:k∉(zau ks).take j/\k≠x:=⟨fun y=>hk (gr _ y),fun y=>hk (g7 _ (gb.mpr y))⟩
    rw [zap hk.2]
    exact ae k hk.1
  have eS:zdh G6 x (G x)=G6:=by
   funext k
   by_cases e:k=x
   ·rw [e,zak,eG]
   ·rw [zap e]
  kt_k
  intro H7 av
  have k7:=k6.ny Z.df av
  rw [eG]
  have bd:=za1 k6.t4
  have M7:zco H7 dx.2.1 ks ad G6:=M6.keep fun q o ho e=>av.1 q o (fun y=>by
   obtain ⟨ps,hp⟩:=bd
   rw [y,hp] at e
   cases e
   rcases ho with z | ⟨kk,aj,z⟩ | ⟨xs,z⟩
   ·rw [y] at z
    rw [z,M6.tg] at hp
    cases hp
   ·rw [y] at z
    rw [z,M6.it kk aj] at hp
    cases hp
   ·cases z) e
  refine ⟨fun ac=>?_,fun t c hc ht am=>?_⟩
  ·kt_k
   exact ⟨ai H7 (G x) _ (by rw [eS]; exact M7) (.inl ⟨.inl ac,rfl⟩) k7⟩
  ·have bj:H7 w=some (.ins Z.bc.C dx.1 (wF z r td sd dx)):=k7.ob g l f (fun _ z=>nomatch z) (fun _ z=>nomatch z) u
   have ay:H7 cl=some (.lst ((d++[h]).map V.int)):=k7.ob g l f (fun _ z=>nomatch z) (fun _ z=>nomatch z) ab
   have b2:SqL K H7 cl ((d++[h]).map V.int):=SqL.of ay
   have bv:=k7.t0
   have b3:=a3 x m
   have cj:H7 t.a=some (.tup [.int x,.int t.n,.str t.s]):=M7.tu x m (c,t) (by rw [eG]; exact zbx ht)
   kt_k
   intro nl H8 b8 t8 b4 e8
   have k8:=k7.nx Z.df b8 t8
   have bb:=za1 k7.t0
   have M8:zco H8 dx.2.1 ks ad G6:=M7.keep fun q o ho e=>b8 q o (fun y=>by
    obtain ⟨ps,hp⟩:=bb
    rw [y,hp] at e
    cases e
    rcases ho with z | ⟨kk,aj,z⟩ | ⟨xs,z⟩
    ·rw [y] at z
     rw [z,M7.tg] at hp
     cases hp
    ·rw [y] at z
     rw [z,M7.it kk aj] at hp
     cases hp
    ·cases z) e
   have al:H8 w=some (.ins Z.bc.C dx.1 (wF z r td sd dx)):=k8.ob g l f (fun _ z=>nomatch z) (fun _ z=>nomatch z) u
   kt_k
   intro l2 a6
   rw [zi1 _ (by omega)]
   generalize aq:upd H8 l2 _=H9
   obtain ⟨s9,e9⟩:=nw a6 aq
   clear aq
   have M9:=M8.same s9
   have k9:=k8.same s9
   have bo:=s9 _ _ al
   have bp:H9 t.a=some (.tup [.int x,.int t.n,.str t.s]):=M9.tu x m (c,t) (by rw [eG]; exact zbx ht)
   have bu:=zek ((za3 x (d++[h])).take r.toNat)
   have bt:(G6 x).length<=900:=by
    rw [eG]
    have:=a9 x
    omega
   have b1:ks.length<=900:=by omega
   kt_k
   rw [zja]
   by_cases v:h∈(za3 x (d++[h])).take r.toNat
   ·rw [decide_eq_true v]
    kt_k
    intro be bl ag aw ea
    have el:zc5 x ks=ks:=by
     unfold zc5
     rw [if_pos m]
    rw [el] at ag aw
    obtain rfl:=ea m
    rw [eG] at ag
    exact ⟨ai be (zgf (G x) h t) _ ag (.inr ⟨t,c,hc,ht,am,v,rfl⟩) (k9.deed aw fun q y=>M9.bounds y)⟩
   ·rw [decide_eq_false v]
    kt_k
    exact ⟨ai H9 (G x) _ (by rw [eS]; exact M9) (.inl ⟨.inr v,rfl⟩) k9⟩
 ·rintro σ H6 ⟨v4,v5,G6,rfl,M6,aa,ae,k6⟩
  rw [gf,i6] at aa
  exact k H6 G6 M6 (fun k hk=>aa k ((zan _).symm.subset hk)) (af.trans k6)
structure Nz (ex:Addr->Prop)(TB:Hp->Prop)(H H':Hp):Prop where
 k:∀ q o,¬ ex q->H q=some o->H' q=some o
 t:TB H'
structure TBO (T0:Addr)(ex:Addr->Prop)(TB:Hp->Prop):Prop where
 hold:∀ {H H':Hp},TB H->(∀ q o,((∃ x k,o=HO.frz x k)\/ex q)->H q=some o->H' q=some o)->TB H'
 is:∀ {H:Hp} {q:Addr},TB H->ex q->∃ ps,H q=some (.tbl ps)
 t0:∀ {H:Hp},TB H->Tab H T0 (zao zda) quL
 e0:ex T0
 up:∀ {H H':Hp},TB H->(∀ b o,b≠T0->H b=some o->H' b=some o)->Tab H' T0 (zao zda) quL->TB H'
section
variable {T0:Addr} {ex:Addr->Prop} {TB:Hp->Prop} {H H1 H2:Hp}
theorem Nz.of (B:TBO T0 ex TB)(t:TB H)(s:zax H H1):Nz ex TB H H1:=⟨fun q o _ e=>s _ _ e,B.hold t fun q o _ e=>s _ _ e⟩
theorem Nz.trans (a:Nz ex TB H H1)(b:Nz ex TB H1 H2):Nz ex TB H H2:=⟨fun q o h e=>b.k q o h (a.k q o h e),b.t⟩
theorem Nz.keep (B:TBO T0 ex TB)(t:TB H)(a:Nz ex TB H H1):∀ q o,(∀ ps,o≠ .tbl ps)->H q=some o->H1 q=some o:=fun q o ho e=>a.k q o (fun y=>by
 obtain ⟨ps,hP⟩:=B.is t y
 rw [hP] at e
 cases e
 exact ho _ rfl) e
theorem Nz.lst (B:TBO T0 ex TB)(t:TB H)(a:Nz ex TB H H1){b:Addr}{xs:List V}(e:H b=some (.lst xs)):H1 b=some (.lst xs):=a.keep B t _ _ (fun _ z=>nomatch z) e
theorem Nz.free (B:TBO T0 ex TB)(a:Nz ex TB H H1){b:Addr}(e:H1 b=none):H b=none:=by
 cases eq:H b with
 | none=>rfl
 | some o =>
  rcases Classical.em (ex b) with y | y
  ·obtain ⟨ps,hP⟩:=B.is a.t y
   rw [hP] at e
   cases e
  ·rw [a.k _ _ y eq] at e
   cases e
theorem Nz.putO (B:TBO T0 ex TB)(a:Nz ex TB H H1){b:Addr}{o u:HO}(e:H b=none)(e1:H1 b=some o)(n1:∀ ps,o≠ .tbl ps)(n2:∀ x k,o≠ .frz x k):Nz ex TB H (upd H1 b u):=by
 refine ⟨fun q o' h z=>?_,B.hold a.t fun q o' ho z=>?_⟩
 ·rw [zab (zae z e)]
  exact a.k q o' h z
 ·rw [zab (fun y=>?_)]
  ·exact z
  ·rw [y,e1] at z
   cases z
   rcases ho with ⟨x,k,z2⟩ | z2
   ·exact n2 _ _ z2
   ·obtain ⟨ps,hP⟩:=B.is a.t z2
    rw [y,e1] at hP
    exact n1 _ (Option.some.inj hP)
theorem Nz.put (B:TBO T0 ex TB)(a:Nz ex TB H H1){b:Addr}{xs ys:List V}(e:H b=none)(e1:H1 b=some (.lst xs)):Nz ex TB H (upd H1 b (.lst ys)):=a.putO B e e1 (fun _ z=>nomatch z) (fun _ _ z=>nomatch z)
theorem Nz.putD (B:TBO T0 ex TB)(a:Nz ex TB H H1){b:Addr}{xs ys:List (Key × V)}(e:H b=none)(e1:H1 b=some (.dK xs)):Nz ex TB H (upd H1 b (.dK ys)):=a.putO B e e1 (fun _ z=>nomatch z) (fun _ _ z=>nomatch z)
theorem Nz.by (B:TBO T0 ex TB)(t:TB H)(kp:∀ b o,b≠T0->H b=some o->H1 b=some o)(t':Tab H1 T0 (zao zda) quL):Nz ex TB H H1:=⟨fun q o h e=>kp q o (fun y=>h (y ▸ B.e0)) e,B.up t kp t'⟩
theorem z0y:TBO T0 (fun q=>q=T0) (fun H=>Tab H T0 (zao zda) quL):=⟨fun t h=>Tab.hold t h,fun {H q} t y=>by
 obtain ⟨ps,hP,_⟩:=t
 exact ⟨ps,by rw [y]; exact hP⟩,fun t=>t,rfl,fun _ _ t'=>t'⟩
theorem Nz.nx (a:Nz (fun q=>q=T0) (fun H=>Tab H T0 (zao zda) quL) H H1):Nx T0 H H1:=⟨fun b o h e=>a.k b o h e,a.t⟩
theorem Nz.ofNx (a:Nx T0 H H1):Nz (fun q=>q=T0) (fun H=>Tab H T0 (zao zda) quL) H H1:=⟨fun b o h e=>a.1 b o h e,a.2⟩
end
theorem zgn {ns:List Int}{i:Nat}{y:V}(h:(ns.map V.int)[i]? = some y):∃ n,ns[i]? = some n/\y=V.int n:=by
 rw [List.getElem?_map] at h
 cases e:ns[i]? with
 | none=>rw [e] at h; cases h
 | some n=>rw [e] at h; cases h; exact ⟨n,rfl,rfl⟩
def ovI:Option Int->V
 | none=> .non
 | some n=> .int n
structure z35 (K:W.Frag)(ex:Addr->Prop)(TB:Hp->Prop)(f:Addr)(fd:FuncData)(spA:Sp)(hs:List Int)(tell:Int->Int->Option (List Int))(g:Int)(St:Hp->Prop):Prop where
 nx:∀ H H',St H->Nz ex TB H H'->St H'
 tb:∀ H,St H->TB H
 fn:∀ H,St H->FnV K H f fd
 ca:∀ (H:Hp) (Q:VK) (i a:Int),St H->(tell i a=none->∀ H',Nz ex TB H H'->Q .non H')->(∀ xs,tell i a=some xs->∀ (l:Addr) (H':Hp),Nz ex TB H H'->H l=none->H' l=some (.lst (xs.map V.int))->Q (.ref l) H')->spA [.int i,.int g,.int a] H Q E0
 su:∀ i a xs,tell i a=some xs->xs.length<64/\∀ y∈xs,0<=y
 aw:∀ i a,(tell i a).isSome=true->i∈hs
 sa:∀ i a b,(tell i a).isSome=(tell i b).isSome
def zaq (z r:Int)(hs sil:List Int)(N:Int->Nat->List Int)(g i a:Int):Option (List Int):=if awB hs sil i=true then some ((za3 g ((zau (zes (N i) z.toNat)).filter fun y=> !decide (V.int y=V.int a))).take r.toNat) else none
def zp_ (z:Int)(hs:List Int)(N:Int->Nat->List Int):Prop:=∀ h∈hs,(zes (N h) z.toNat).length<64/\∀ y∈zes (N h) z.toNat,0<=y
def zqt (CB CT CW T0:Addr):Sp:=fun vs H Q _=>∃ (w td sd:Addr) (z r:Int) (hs sil:List Int) (T:Int->zbp) (i g a:Int),vs=[.ref w,.int i,.int g,.int a]/\zaj CB CT CW H w td sd z r hs sil T/\zp_ z hs (fun h=>(T h).ns)/\0<=g/\Tab H T0 (zao zda) quL /\
 (zaq z r hs sil (fun h=>(T h).ns) g i a=none->Q .non H)/\(∀ xs,zaq z r hs sil (fun h=>(T h).ns) g i a=some xs->∀ (l:Addr) (H':Hp),Nx T0 H H'->H l=none->H' l=some (.lst (xs.map V.int))->Q (.ref l) H')
theorem zjt {hs sil:List Int}{x:Int}(h:awB hs sil x=true):x∈hs/\x∉sil:=by
 unfold awB at h
 simp only [j4,decide_eq_true_eq,js,decide_eq_false_iff_not] at h
 exact h
theorem zmu:zam ["self","house","goal","asker"] ["self","house","goal","asker"] (zai (zaf (top 25) 7)):=fS
theorem zm7 (Z:ZZ P w K mg base):zb2 Z 7 Z.ck (zqt Z.ba.C Z.bb.C Z.bc.C Z.bk.P):=by
 have aa:=Z.bc.cl
 obtain ⟨ai,v,ag,ac,-⟩:=Z.bc.na
 have e:=zir Z
 have j:=zb8 (CB:=Z.ba.C) (CT:=Z.bb.C) Z
 refine Z.ck.fn.ok zmu (by kd_p) (fun cdv A outer s H vs Q E hr h=>?_)
 obtain ⟨w,td,sd,z,r,hs,sil,TT,i,g,a,rfl,hW,f,hg,o,k1,k2⟩:=h
 obtain ⟨⟨dx,af⟩,d,ae,m,-⟩:=id hW
 refine ⟨_,(zac (zbz (zid (zd2 (pmD (pv 0) Z.bc.cl Z.bs j hr (zaa (pv 1) zag))))
   (zah (zat zcd))
   zay)
  (zah (zat (zed (zdt (zdd hr) (za0 (pv 0) rfl) (pv 1) (fun _ _=>rfl)) Z.bb.cl Z.cg.me e hr.mm Z.cg.b .nil zcb (zaa (pv 2) (zaa (za0 (pv 0) rfl) (zaa (pv 3) zag))))))),?_⟩
 cases c:awB hs sil i with
 | false =>
  kt_k
  refine .inl ⟨i,rfl,?_⟩
  rw [zqb hW.hb hW.z1 i,c]
  have hk:=k1 (by unfold zaq; rw [c]; rfl)
  kt_k
 | true =>
  obtain ⟨hi,ak⟩:=zjt c
  have n:=m i hi
  obtain ⟨ad,p⟩:=n.ob
  have aj:zg0 H td (V.int i) (some (V.ref (TT i).t)):=by
   have:=zg0.k (k:=Sum.inl i) d
   rw [zdu,if_pos hi] at this
   exact this
  have u:0<=r:=by have:=hW.r1; omega
  have ab:V.int a=V.non\/∃ x,V.int a=V.int x:= .inr ⟨a,rfl⟩
  obtain ⟨q,ah⟩:=f i hi
  have k3:∀ (l:Addr) (H':Hp),Nx Z.bk.P H H'->H l=none->H' l=some (.lst (((za3 g ((zau (zes (TT i).ns z.toNat)).filter fun y=> !decide (V.int y=V.int a))).take r.toNat).map V.int))->Q (.ref l) H':=k2 _ (by unfold zaq; rw [if_pos c])
  kt_k
  refine .inl ⟨i,rfl,?_⟩
  rw [zqb hW.hb hW.z1 i,c]
  kt_k
def zg3:Expr:=match (zbj (zaf (top 25) 18)).getD 0 (.Pass zuz) with | .Return (some e) _=>e | _=> .Constant .none 0 zuz
def quT:Str:=(("Town.teller" : Str) ++ ".<locals>.") ++ "<lambda>"
abbrev RT:Addr->FuncData->Prop:=RLm "<lambda>" quT (zdk zg3) (zdj zg3) (zci zg3)
abbrev z2t (H:Hp)(f:Addr)(cv:List V)(fd:FuncData):Prop:=zww H f "<lambda>" quT (zdk zg3) (zdj zg3) (zci zg3) ["self"] cv fd
def z3y (CB CT CW T0:Addr)(cv:List V):Sp:=fun vs H Q E=>∃ (w:Addr) (i g a:V),vs=[i,g,a]/\cv=[.ref w]/\(∃ dx fs,H w=some (.ins CW dx fs)/\fs.lookup ("tells" : Str)=none)/\zqt CB CT CW T0 [.ref w,i,g,a] H Q E
def spT (CB CT CW T0:Addr)(f:Addr)(fd:FuncData):Sp:=fun vs H Q E=>∃ cv,cv.length=(["self"]:List Str).length/\z2t H f cv fd/\z3y CB CT CW T0 cv vs H Q E
theorem zzu {f:Addr}{fd:FuncData}(h:RT f fd):zcq K fd ["house","goal","asker"] []:=by
 obtain ⟨clos,pm,c',ct,rfl⟩:=h
 exact .all (us3 fun _ _ _=>rfl)
theorem zy4:zhd ["house","goal","asker","self"] ["house","goal","asker"] ["self"] (zci zg3):=⟨rfl,rfl,rfl,by decide +kernel,by decide +kernel,by decide +kernel,by decide +kernel,by decide +kernel,by decide +kernel,by decide +kernel⟩
theorem zx4 (Z:ZZ P w K mg base){f:Addr}{fd:FuncData}:zdm P w K mg base CX0 8 f fd ["house","goal","asker"] (spT Z.ba.C Z.bb.C Z.bc.C Z.bk.P f fd):=by
 have d:=zm7 Z
 refine zqn (name:= "<lambda>") (qual:=quT) (params:=zdk zg3) (body:=zdj zg3) (sp:=z3y Z.ba.C Z.bb.C Z.bc.C Z.bk.P) zy4 (fun cv vs H Q E h=>?_) (fun clos cdv A outer s H cv vs Q E hr e h=>?_)
 ·obtain ⟨w,i,g,a,rfl,_⟩:=h
  rfl
 ·obtain ⟨w,i,g,a,rfl,rfl,⟨dx,fs,hw,c⟩,k⟩:=h
  refine ⟨_,(zed (pv 3) Z.bc.cl Z.ck.me d hr.mm Z.ck.b .nil zcb (zaa (pv 0) (zaa (pv 1) (zaa (pv 2) zag)))),?_⟩
  exact ⟨_,rfl,w,dx,fs,rfl,hw,c,_,rfl,_,rfl,_,rfl,k⟩
def zvj (T1:Addr):Sp:=fun vs H Q _=>∃ w:Addr,vs=[.ref w]/\Tab H T1 (zao zg3) quT /\
 ∀ (f:Addr) (fd:FuncData) (fo:Obj) (k:HO) (H':Hp),(∀ b o,b≠T1->H b=some o->H' b=some o)->Tab H' T1 (zao zg3) quT->H f=none->RT f fd->H' f=some (.frz fo k)->fo.data = .func fd->z2t H' f [.ref w] fd->Q (.ref f) H'
theorem zk7:zam ["self"] ["self"] (zai (zaf (top 25) 18)):=fS
theorem zkr (Z:ZZ P w K mg base){CW:Addr}(D:zu2 K CW "teller" "Town.teller" (zaf (top 25) 18) ["self"])(hB:base.BuiltinsAt mg D.P):zdm P w K mg base CX0 1 D.f D.fd ["self"] (zvj D.P):=by
 refine D.ok Z.db zk7 (fz:=["self"]) (by decide +kernel) (by kd_p) (fun A outer s H vs Q E hr h H1 sm g hC=>?_)
 obtain ⟨w,rfl,hT,k⟩:=h
 refine ⟨_,(zah (zat (zp1 rfl hC hB (zft (by kernel_rfl))))),?_⟩
 obtain ⟨c1,l,v1⟩:=g 0 "self" (.ref w) (by decide +kernel) rfl rfl
 have d:Tab H1 D.P (zao zg3) quT:=(sm.but D.P).2 _ _ hT
 refine zl6 d fun f H' fo clos c' oc k1 k2 hb m hf a sh j cs=>?_
 have keep:∀ c v,zf4 H1 c v->zf4 H' c v:=fun c v hv=>hv.same fun o k e=>hb c _ (fun z=>by
  obtain ⟨ps,hP,_⟩:=d
  rw [z,hP] at e
  cases e) e
 obtain ⟨fd,hd,hR,hF⟩:=zly (qual:=quT) (params:=zdk zg3) (body:=zdj zg3) (scope:=zci zg3) (fr:=["self"]) (cv:=[.ref w]) sh a j cs (fun i x v h1 h2=>by
  match i,h1,h2 with
  | 0,h1,h2 =>
   cases h1
   cases h2
   exact ⟨by decide +kernel,c1,l,keep _ _ v1⟩)
 exact k f fd fo k1 H' (fun b o h e=>hb b o h (sm b o e)) m (sm.free hf) hR a hd hF
theorem Nx.keep {T:Addr}{H H1:Hp}(a:Nx T H H1)(t:Tab H T (zao zda) quL):∀ q o,(∀ ps,o≠ .tbl ps)->H q=some o->H1 q=some o:=fun q o ho e=>a.1 q o (fun z=>by
 obtain ⟨ps,hP,_⟩:=t
 rw [z,hP] at e
 cases e
 exact ho _ rfl) e
theorem zyv {z r:Int}{hs sil:List Int}{N:Int->Nat->List Int}{g i a:Int}{xs:List Int}(hk:zp_ z hs N)(e:zaq z r hs sil N g i a=some xs):xs.length<64/\∀ y∈xs,0<=y:=by
 unfold zaq at e
 split at e
 ·rename_i b
  cases e
  obtain ⟨h1,h2⟩:=hk i (zjt b).1
  constructor
  ·have a1:=zs4 g ((zau (zes (N i) z.toNat)).filter fun y=> !decide (V.int y=V.int a))
   have a2:=ib (fun y=> !decide (V.int y=V.int a)) (zau (zes (N i) z.toNat))
   rw [zbi] at a2
   rw [i5]
   omega
  ·intro y hy
   have y1:=(zfs g _).subset (i8 hy)
   have y2:=(gz.mp (zen.mp y1)).1
   exact h2 y ((zan _).subset y2)
 ·cases e
theorem zhr {z r:Int}{hs sil:List Int}{N:Int->Nat->List Int}{g i a:Int}:(zaq z r hs sil N g i a).isSome=awB hs sil i:=by
 unfold zaq
 cases awB hs sil i <;> rfl
structure z4k (CB CT CW T0:Addr)(w td sd:Addr)(z r:Int)(hs sil:List Int)(T:Int->zbp)(f:Addr)(fd:FuncData)(fo:Obj)(k:HO)(H:Hp):Prop where
 W:zaj CB CT CW H w td sd z r hs sil T
 t:Tab H T0 (zao zda) quL
 o:H f=some (.frz fo k)
 l:z2t H f [.ref w] fd
theorem zza {K:W.Frag}{CB CT CW T0:Addr}{w td sd:Addr}{z r:Int}{hs sil:List Int}{T:Int->zbp}{f:Addr}{fd:FuncData}{fo:Obj}{k:HO}(hk:zp_ z hs (fun h=>(T h).ns))(hfd:fo.data = .func fd){g:Int}(hg:0<=g) :
  z35 K (fun q=>q=T0) (fun H=>Tab H T0 (zao zda) quL) f fd (spT CB CT CW T0 f fd) hs (zaq z r hs sil (fun h=>(T h).ns) g) g (z4k CB CT CW T0 w td sd z r hs sil T f fd fo k):=by
 refine ⟨fun H H' S N=>⟨S.W.keep (N.keep z0y S.t),N.t,N.keep z0y S.t _ _ (fun _ z=>nomatch z) S.o,S.l.same fun a o k e=>N.keep z0y S.t _ _ (fun _ z=>nomatch z) e⟩,fun H S=>S.t,fun H S=> .inl ⟨fo,k,S.o,hfd⟩,fun H Q i a S h1 h2=>?_,fun i a xs e=>zyv hk e,fun i a e=>?_,fun i a b=>by rw [zhr,zhr]⟩
 ·obtain ⟨dx,c⟩:=S.W.ob
  exact ⟨[.ref w],rfl,S.l,w,.int i,.int g,.int a,rfl,rfl,⟨_,_,c,z25 _ (by decide +kernel) _ _ _ _ _⟩,w,td,sd,z,r,hs,sil,T,i,g,a,rfl,S.W,hk,hg,S.t,fun e=>h1 e H (Nz.of z0y S.t (zax.refl H)),fun xs e l H' n=>h2 xs e l H' (Nz.ofNx n)⟩
 ·rw [zhr] at e
  exact (zjt e).1
structure Kx (T0 T1:Addr)(H H':Hp):Prop where
 k:∀ q o,(∀ ps,o≠ .tbl ps)->H q=some o->H' q=some o
 t0:Tab H' T0 (zao zda) quL
 t1:Tab H' T1 (zao zg3) quT
 b:∀ q ps,H q=some (.tbl ps)->q≠T0->q≠T1->H' q=some (.tbl ps)
 e:∀ q,H' q=none->H q=none
theorem Kx.trans {T0 T1:Addr}{H H1 H2:Hp}(a:Kx T0 T1 H H1)(b:Kx T0 T1 H1 H2):Kx T0 T1 H H2:=⟨fun q o h e=>b.k q o h (a.k q o h e),b.t0,b.t1,fun q ps e y1 y2=>b.b q ps (a.b q ps e y1 y2) y1 y2,fun q e=>a.e q (b.e q e)⟩
theorem Kx.nx {T0 T1:Addr}{H H':Hp}(hne:T0≠T1)(a:Tab H T0 (zao zda) quL)(b:Tab H T1 (zao zg3) quT)(n:Nx T0 H H'):Kx T0 T1 H H':=by
 refine ⟨n.keep a,n.2,Tab.hold b fun q o h e=>n.1 q o (fun y=>?_) e,fun q ps e y _=>n.1 q _ y e,fun q e=>n.free e⟩
 rcases h with ⟨x,k,rfl⟩ | h
 ·obtain ⟨ps,hP,_⟩:=a
  rw [y,hP] at e
  cases e
 ·exact hne (y.symm.trans h)
theorem Kx.tab {T0 T1 Ti:Addr}{H H':Hp}{po:Pos}{qu:Str}(a:Kx T0 T1 H H')(t:Tab H Ti po qu)(h0:Ti≠T0)(h1:Ti≠T1):Tab H' Ti po qu:=Tab.hold t fun q o ho e=>by
 rcases ho with ⟨x,k,rfl⟩ | rfl
 ·exact a.k q _ (fun _ z=>nomatch z) e
 ·obtain ⟨ps,hP,_⟩:=t
  rw [hP] at e
  cases e
  exact a.b _ _ hP h0 h1
def zsz (T3:Addr)(H H':Hp):Prop:=∀ (Ti:Addr) (po:Pos) (qu:Str),Ti≠T3->Tab H Ti po qu->Tab H' Ti po qu
theorem zaj.kind {CB CT CW w td sd:Addr}{H:Hp}{z r:Int}{hs sil:List Int}{T:Int->zbp}(W:zaj CB CT CW H w td sd z r hs sil T){q:Addr}{x:Obj}{k:HO}(e:H q=some (.frz x k)):¬ Own td sd z.toNat hs T q:=fun y=>by
 rcases y with rfl | rfl | ⟨g,hg,rfl | ⟨j,hj,rfl | rfl⟩⟩
 ·rw [W.tb] at e
  cases e
 ·rw [W.si] at e
  cases e
 ·rw [(W.ta g hg).li] at e
  cases e
 ·obtain ⟨⟨d,e1⟩,_⟩:=(W.ta g hg).bk j hj
  rw [e1] at e
  cases e
 ·rw [((W.ta g hg).bk j hj).li] at e
  cases e
theorem zsz.deed {CB CT CW w td sd T3:Addr}{H H':Hp}{z r:Int}{hs sil:List Int}{T:Int->zbp}{O':Addr->Prop}(W:zaj CB CT CW H w td sd z r hs sil T)(d:zd1 T3 H H' (Own td sd z.toNat hs T) O'):zsz T3 H H':=fun Ti po qu hn t=>Tab.hold t fun q o ho e=>by
 rcases ho with ⟨x,k,rfl⟩ | rfl
 ·exact d.k q _ (fun _ z=>nomatch z) e (W.kind e)
 ·obtain ⟨ps,hP,_⟩:=t
  rw [hP] at e
  cases e
  exact d.t _ _ hP hn
def tv (L:Int->Addr)(tl:Int->Option (List Int))(n:Int):V:=match tl n with | none=>V.non | some _=>V.ref (L n)
theorem zl1 {L:Int->Addr}{tl:Int->Option (List Int)}{n:Int}(h:tl n=none):tv L tl n=V.non:=by
 unfold tv
 rw [h]
theorem zmg {L:Int->Addr}{tl:Int->Option (List Int)}{n:Int}{ns:List Int}(h:tl n=some ns):tv L tl n=V.ref (L n):=by
 unfold tv
 rw [h]
structure zj6 (pool:List Int)(tl:Int->Option (List Int)):Prop where
 le:pool.length<=60
 nn:∀ n∈pool,0<=n
 ns:∀ n∈pool,∀ ns,tl n=some ns->ns.length<=12/\∀ m∈ns,m∈pool
theorem zmr:∀ {l m:List Int},l.Nodup->(∀ x∈l,x∈m)->l.length<=m.length:=fun {l m} a b=>zbc a b
theorem zhs {g:Int}{ns l:List Int}(hg:0<=g)(hn:∀ y∈ns,0<=y)(hd:l.Nodup)(hm:∀ y,y∈l↔y∈ns)(hs:l.Pairwise (fun x y=>Builtin.bitXor g x<=Builtin.bitXor g y)):l=za3 g ns:=by
 have p:l.Perm (zf2 ns):=(List.perm_ext_iff_of_nodup hd (zga ns)).mpr fun y=>(hm y).trans zen.symm
 exact zql (p.trans (zan _).symm) (fun x hx y hy e=>zun hg (hn x (zen.mp ((zan _).subset hx))) (hn y (zen.mp ((zan _).subset hy))) e) hs
theorem zcp (g:Int)(ns:List Int):(za3 g ns).Nodup:=(zfs g ns).nodup_iff.mpr (zga ns)
theorem _root_.PySem.Paired.mp {α β:Type}{F G:α->β->Prop}{a:List α}{b:List β}(h:Paired F a b)(f:∀ x y,F x y->G x y):Paired G a b:=L2.Paired.mapP h f
theorem _root_.PySem.Paired.len {α β:Type}{F:α->β->Prop}:∀ {a:List α} {b:List β},Paired F a b->a.length=b.length
 | _,_,.nil=>rfl
 | _,_,.cons _ t=>by rw [ic,ic,PySem.Paired.len t]
theorem zj7 {α β:Type}{F:α->β->Prop}{x:α}{y:β}(h:F x y):∀ {a:List α} {b:List β},Paired F a b->Paired F (a++[x]) (b++[y])
 | _,_,.nil=> .cons h .nil
 | _,_,.cons r t=> .cons r (zj7 h t)
def z0g (p:Int->Bool):List Int->List Int
 | []=>[]
 | x :: r=>if p x then [x] else x :: z0g p r
theorem znl {p:Int->Bool}:∀ {l:List Int} {i:Nat} {n:Int},(∀ x∈l.take i,p x=false)->l[i]? = some n->p n=true->l.find? p=some n/\z0g p l=l.take (i+1)
 | [],i,n,_,h,_=>by simp at h
 | x :: r,0,n,_,h,hp=>by
  cases h
  exact ⟨by simp [hp],by simp [z0g,hp]⟩
 | x :: r,i+1,n,h,hi,hp=>by
  have hx:=h x (by simp)
  obtain ⟨h1,h2⟩:=znl (l:=r) (i:=i) (fun y hy=>h y (by simp [hy])) hi hp
  exact ⟨by simp [hx,h1],by simp [z0g,hx,h2]⟩
theorem zqs {p:Int->Bool}:∀ {l:List Int},(∀ x∈l,p x=false)->l.find? p=none/\z0g p l=l
 | [],_=>⟨rfl,rfl⟩
 | x :: r,h=>by
  have hx:=h x (by simp)
  obtain ⟨h1,h2⟩:=zqs (l:=r) fun y hy=>h y (by simp [hy])
  exact ⟨by simp [hx,h1],by simp [z0g,hx,h2]⟩
theorem zdp {α β:Type}{F:α->β->Prop}{f:α->V}:∀ {ps:List α} {R:List β} {j:Nat} {x:V},Paired F ps R->(ps.map f)[j]? = some x->∃ p h,ps[j]? = some p/\R[j]? = some h/\x=f p/\F p h
 | _,_,j,x,.nil,e=>by simp at e
 | _,_,0,x,.cons (a:=p) (b:=h) r t,e=>by
  simp at e
  exact ⟨p,h,rfl,rfl,e.symm,r⟩
 | _,_,j+1,x,.cons (a:=p) (b:=h) r t,e=>by
  obtain ⟨p',h',a1,a2,a3,a4⟩:=zdp t (f:=f) (j:=j) (x:=x) (by simpa using e)
  exact ⟨p',h',a1,a2,a3,a4⟩
def zpc (tl:Int->Option (List Int))(st h:Int):List Int:=((tl h).getD []).filter fun n=> !decide (n=st)
def zhh (tl:Int->Option (List Int))(st:Int)(R:List Int):List Int:=R.flatMap (zpc tl st)
def zi6 (tl:Int->Option (List Int))(R:List Int):List Int:=R.filter fun h=> !(tl h).isSome
def flR (tl:Int->Option (List Int))(R:List Int)(n:Int):Bool:= !decide (n∈zi6 tl R)
def zb6 (tl:Int->Option (List Int))(st g:Int)(rm:Nat)(R:List Int):List Int:=((za3 g (zhh tl st R)).filter (flR tl R)).take rm
def zu4 (R:List Int)(n:Int):Bool:= !decide (n∈R)
def zcy (tl:Int->Option (List Int))(st g:Int)(rm:Nat)(R:List Int):Option Int:=(zb6 tl st g rm R).find? (zu4 R)
inductive Row (tl:Int->Option (List Int)) (st g:Int) (rm:Nat):List Int->Prop
 | one:Row tl st g rm [st]
 | more {R:List Int} {h:Int}:Row tl st g rm R->zcy tl st g rm R=some h->Row tl st g rm (R++[h])
section
variable {tl:Int->Option (List Int)} {st g:Int} {rm:Nat} {R R':List Int} {pool:List Int}
theorem Row.pos (x:Row tl st g rm R):0<R.length:=by
 cases x
 ·simp
 ·simp
theorem Row.head (x:Row tl st g rm R):R[0]? = some st:=by
 induction x with
 | one=>rfl
 | @more R h x _ ih=>rw [List.getElem?_append_left x.pos]; exact ih
theorem Row.get (x:Row tl st g rm R):∀ {i:Nat} {h:Int},R[i+1]? = some h->zcy tl st g rm (R.take (i+1))=some h:=by
 induction x with
 | one=>intro i h e; simp at e
 | @more R n x e ih =>
  intro i h hi
  by_cases z:i+1<R.length
  ·rw [List.getElem?_append_left z] at hi
   rw [List.take_append_of_le_length (by omega)]
   exact ih hi
  ·have hl:=(List.getElem?_eq_some_iff.mp hi).1
   rw [gl,gq] at hl
   have e1:i+1=R.length:=by omega
   rw [e1,List.getElem?_append_right (gv _),Nat.sub_self] at hi
   cases hi
   rw [e1,List.take_left]
   exact e
theorem Row.pre (x:Row tl st g rm R)(y:Row tl st g rm R'):∀ k,k<=R.length->k<=R'.length->R.take k=R'.take k
 | 0,_,_=>by simp
 | 1,h1,h2=>by
  have e1:=x.head
  have e2:=y.head
  cases R with
  | nil=>cases e1
  | cons a r =>
   cases R' with
   | nil=>cases e2
   | cons b s =>
    cases e1
    cases e2
    rfl
 | k+2,h1,h2=>by
  have ih:=Row.pre x y (k+1) (by omega) (by omega)
  have e1:=x.get (i:=k) (h:=R[k+1]) (by simp)
  have e2:=y.get (i:=k) (h:=R'[k+1]) (by simp)
  rw [ih,e2] at e1
  rw [ik (show k+1<R.length by omega),ik (show k+1<R'.length by omega),ih,Option.some.inj e1]
theorem Row.det (x:Row tl st g rm R)(y:Row tl st g rm R')(hx:zcy tl st g rm R=none)(hy:zcy tl st g rm R'=none):R=R':=by
 have a:∀ {A B:List Int},Row tl st g rm A->Row tl st g rm B->zcy tl st g rm A=none->¬ A.length<B.length:=fun {A B} x y hx lt=>by
  have e:=Row.pre x y A.length (gv _) (ie lt)
  rw [i6] at e
  obtain ⟨i,hi⟩:∃ i,A.length=i+1:=⟨A.length - 1,by have:=x.pos; omega⟩
  obtain ⟨v,hv⟩:∃ v,B[i+1]? = some v:=⟨B[i+1],by simp⟩
  have e2:=y.get hv
  rw [<- hi,<- e,hx] at e2
  cases e2
 have h1:=a x y hx
 have h2:=a y x hy
 have e:=Row.pre x y R.length (gv _) (by omega)
 rw [i6,iu (by omega)] at e
 exact e
theorem zfh (o:zj6 pool tl)(hR:∀ h∈R,h∈pool):∀ n∈zhh tl st R,n∈pool/\n≠st:=fun n hn=>by
 obtain ⟨h,hh,hm⟩:=List.mem_flatMap.mp hn
 unfold zpc at hm
 obtain ⟨h1,h2⟩:=gz.mp hm
 refine ⟨?_,by simpa using h2⟩
 cases e:tl h with
 | none=>rw [e] at h1; cases h1
 | some ns=>rw [e] at h1; exact (o.ns h (hR h hh) ns e).2 n h1
theorem zhz:∀ n∈zb6 tl st g rm R,n∈zhh tl st R/\flR tl R n=true:=fun n hn=>by
 obtain ⟨h1,h2⟩:=gz.mp (i8 hn)
 exact ⟨za2.mp h1,h2⟩
theorem zsl {h:Int}(e:zcy tl st g rm R=some h):h∈zb6 tl st g rm R/\¬ h∈R:=by
 have h1:=List.find?_some e
 have h2:=List.mem_of_find?_eq_some e
 unfold zu4 at h1
 exact ⟨h2,by simpa using h1⟩
theorem Row.ok (o:zj6 pool tl)(hst:st∈pool)(x:Row tl st g rm R):(∀ h∈R,h∈pool)/\R.Nodup:=by
 induction x with
 | one=>exact ⟨fun h hh=>by rw [gb.mp hh]; exact hst,by simp⟩
 | more x e ih =>
  obtain ⟨h1,h2⟩:=zsl e
  exact ⟨zmz ih.1 (zfh o ih.1 _ (zhz _ h1).1).1,zbd ih.2 h2⟩
theorem zh5 {ns ks:List Int}{p:Int->Bool}(hg:0<=g)(hn:∀ y∈ns,0<=y)(hk:∀ y,y∈ks↔y∈ns):(za3 g ns).filter p=za3 g (ks.filter p):=by
 refine zhs hg (fun y hy=>hn y ((hk y).mp (gz.mp hy).1)) ((zcp g ns).filter _) (fun y=>?_) ((zd9 _ _).filter _)
 rw [gz,gz,za2,hk]
end
def zch (ks:List Int)(fl:Int->Bool):List (Key × V):=ks.map fun n=>(Sum.inl n,V.bl (fl n))
theorem zgz {fl:Int->Bool}{n:Int}:∀ {ks:List Int},n∈ks->zdi (zch ks fl) (Sum.inl n)=some (V.bl (fl n))
 | [],h=>nomatch h
 | m :: r,h=>by
  by_cases e:m=n
  ·subst e
   exact ze5 rfl
  ·have hr:n∈r:=by
    rcases gx.mp h with z | z
    ·exact absurd z.symm e
    ·exact z
   have z:zdi (zch (m :: r) fl) (Sum.inl n)=zdi (zch r fl) (Sum.inl n):=zd8 fun z=>e (Sum.inl.inj z)
   rw [z,zgz hr]
theorem zn9 {fl:Int->Bool}{n:Int}:∀ {ks:List Int},¬ n∈ks->zdi (zch ks fl) (Sum.inl n)=none
 | [],_=>rfl
 | m :: r,h=>by
  have z:zdi (zch (m :: r) fl) (Sum.inl n)=zdi (zch r fl) (Sum.inl n):=zd8 fun z=>h (by
   have:=Sum.inl.inj z
   rw [<- this]
   exact gj ..)
  rw [z,zn9 fun y=>h (gc _ y)]
theorem zsy {ks:List Int}{fl:Int->Bool}{h:Int}{b:Bool}(hh:h∈ks):zd6 (zch ks fl) (Sum.inl h) (V.bl b)=zch ks (fun n=>if n=h then b else fl n):=by
 have a:((zch ks fl).any fun kv=>decide (kv.1=(Sum.inl h:Key)))=true:=by rw [ze3,zgz hh]; rfl
 unfold zd6
 rw [if_pos a]
 unfold zch
 rw [jn]
 refine j5 fun n hn=>?_
 show (if (Sum.inl n:Key)=Sum.inl h then ((Sum.inl n:Key),V.bl b) else (Sum.inl n,V.bl (fl n)))=(Sum.inl n,V.bl (if n=h then b else fl n))
 by_cases e:n=h
 ·rw [if_pos (by rw [e]),if_pos e]
 ·rw [if_neg fun z=>e (Sum.inl.inj z),if_neg e]
theorem zyr {H:Hp}{p:Addr}{a b:HO}:upd (upd H p a) p b=upd H p b:=funext fun q=>by
 by_cases e:q=p
 ·rw [e,zad,zad]
 ·rw [zab e,zab e,zab e]
def z2x (tl:Int->Option (List Int))(Lr:Int->Addr)(H:Hp)(p:Addr)(h:Int):Prop:=H p=some (.tup [.int h,tv Lr tl h])
structure zel (H:Hp)(rl:Addr)(R:List Int)(tl:Int->Option (List Int))(Lr:Int->Addr):Prop where
 ex:∃ ps:List Addr,H rl=some (.lst (ps.map V.ref))/\Paired (z2x tl Lr H) ps R
def z0k:Sp:=fun vs H Q _=>∃ (sd:Addr) (st h:Int) (v:V) (ks:List Int) (fl:Int->Bool),vs=[.ref sd,.int st,.int h,v]/\H sd=some (.dK (zch ks fl))/\ks.Nodup/\ks.length<=100 /\
 ((v = .non/\h∈ks/\Q .non (upd H sd (.dK (zch ks (fun n=>if n=h then false else fl n))))) \/
  ∃ (p:Addr) (ns:List Int),v = .ref p/\H p=some (.lst (ns.map V.int))/\ns.length<=12/\(∀ n∈ns,n≠st->¬ n∈ks->fl n=true) /\
  ∀ ks':List Int,ks'.Nodup->(∀ n,n∈ks'↔n∈ks\/(n∈ns/\n≠st))->Q .non (upd H sd (.dK (zch ks' fl))))
def zlk (T0:Addr):Sp:=fun vs H Q _=>∃ (sd:Addr) (g rm:Int) (ks:List Int) (fl:Int->Bool),vs=[.ref sd,.int g,.int rm]/\H sd=some (.dK (zch ks fl))/\ks.length<=60/\0<=g/\0<=rm/\(∀ n∈ks,0<=n)/\Tab H T0 (zao zda) quL /\
 ∀ (l:Addr) (H':Hp),(∀ b o,b≠T0->H b=some o->H' b=some o)->Tab H' T0 (zao zda) quL->H l=none->H' l=some (.lst (((za3 g (ks.filter fl)).take rm.toNat).map V.int))->Q (.ref l) H'
def zug:Sp:=fun vs H Q _=>∃ (nl rl:Addr) (names R:List Int) (tl:Int->Option (List Int)) (Lr:Int->Addr),vs=[.ref nl,.ref rl]/\H nl=some (.lst (names.map V.int))/\zel H rl R tl Lr/\R.length<=100/\∀ H',zax H H'->Q (ovI (names.find? (zu4 R))) H'
theorem zib:zam ["seen","start","house","told","name"] ["seen","start","house","told"] (zai (top 16)):=fS
theorem zzf (Z:ZZ P w K mg base):zld Z 1 Z.cl z0k:=by
 refine Z.cl.fn.ok zib (by kd_p) (fun cdv A outer s H vs Q E hr h=>?_)
 obtain ⟨sd,st,h,v,ks,fl,rfl,o,aa,hl,hc⟩:=h
 refine ⟨_,(zac (zbz (zav zlb (pv 3) zcd (za6 _))
   (zac (zgg (zdd hr) (pv 0) (pv 2) zhg rfl)
   (zah zys))
   zay)
  (zah (zd5 PassesOwn.never rfl (zbr (pv 3)) (zaz (i:=4) zib.nd rfl oL)
   (zah (zbz (zav zv4 (pv 4) (pv 1) (za6 _))
    (zah (zas (zqo (pv 0) (pv 4) zhg ⟨rfl,rfl,rfl,rfl⟩)))
    zay))))),?_⟩
 have u:∀ {ks:List Int},ks.length<=200->(zch ks fl).length<sizeLine:=fun {ks} h=>by
  unfold zch
  rw [gf]
  exact zar (by omega)
 rcases hc with ⟨rfl,hh,q⟩ | ⟨p,ns,rfl,hp,af,ac,q⟩
 ·refine ⟨_,rfl,rfl,_,rfl,?_⟩
  refine zov rfl ?_
  refine ⟨_,rfl,_,rfl,sd,_,rfl,zkv.k (k:=Sum.inl h) o (u (by omega)),?_⟩
  rw [zsy hh]
  exact q
 ·refine ⟨_,rfl,rfl,_,rfl,?_⟩
  refine zgj (fun z=>nomatch z) ?_
  refine ⟨_,rfl,p,rfl,⟨_,SqL.of hp⟩,?_⟩
  have r:p≠sd:=fun z=>by rw [z,o] at hp; cases hp
  refine zcn (K:=K) (a:=p) (xs:=ns.map V.int) (fun i σ H2=>zis (∃ (v4:Option V) (c:List Int),σ=[some (.ref sd),some (.int st),some (.int h),some (.ref p),v4]/\H2=upd H sd (.dK (zch c fl))/\c.Nodup/\c.length<=ks.length+i/\∀ n,n∈c↔n∈ks\/(n∈ns.take i/\n≠st)))
   ⟨⟨none,ks,rfl,funext fun q=>?_,aa,gv _,fun n=>by simp⟩⟩ (fun i σ H2 _ ⟨_,_,_,e,_⟩=>SqL.of (by rw [e,zab r]; exact hp)) ?_ ?_
  ·by_cases e:q=sd
   ·rw [e,zad,o]
   ·rw [zab e]
  ·rintro i y σ H2 hi ⟨v4,c,rfl,rfl,d,x,g⟩
   obtain ⟨n,hn,rfl⟩:=zgn hi
   have ae:i<ns.length:=(List.getElem?_eq_some_iff.mp hn).1
   have et:ns.take (i+1)=ns.take i++[n]:=by rw [ja,hn]; rfl
   have f:∀ m,(m∈ks\/(m∈ns.take (i+1)/\m≠st))↔m∈c\/(m=n/\m≠st):=fun m=>by
    rw [g,et,gm,gb]
    constructor
    ·rintro (z | ⟨z | z,y⟩)
     ·exact .inl (.inl z)
     ·exact .inl (.inr ⟨z,y⟩)
     ·exact .inr ⟨z,y⟩
    ·rintro ((z | ⟨z,y⟩) | ⟨z,y⟩)
     ·exact .inl z
     ·exact .inr ⟨.inl z,y⟩
     ·exact .inr ⟨.inr z,y⟩
   refine ⟨_,rfl,_,rfl,rfl,_,rfl,?_⟩
   by_cases j:n=st
   ·refine zve (by rw [j]) ?_
    refine ⟨⟨_,c,rfl,rfl,d,by omega,fun m=>?_⟩⟩
    rw [f]
    exact ⟨.inl,fun z=>z.elim id fun ⟨a,b⟩=>absurd (a.trans j) b⟩
   ·refine zw7 (zzj j) ?_
    have t:upd H sd (.dK (zch c fl)) sd=some (.dK (zch c fl)):=zad
    refine ⟨_,rfl,sd,rfl,.inl ⟨_,.inl t⟩,_,rfl,zch c fl,Sum.inl n,t,rfl,u (by omega),fun v e=>?_,fun e=>?_⟩
    ·have l:n∈c:=by
      by_cases z:n∈c
      ·exact z
      ·rw [zn9 z] at e; cases e
     refine ⟨⟨_,c,rfl,rfl,d,by omega,fun m=>?_⟩⟩
     rw [f]
     exact ⟨.inl,fun z=>z.elim id fun ⟨a,_⟩=>a ▸ l⟩
    ·have l:¬ n∈c:=fun z=>by rw [zgz z] at e; cases e
     have ad:¬ n∈ks:=fun z=>l ((g n).mpr (.inl z))
     have ab:=ac n (i4 hn) j ad
     refine ⟨⟨_,c++[n],rfl,?_,zbd d l,by simp; omega,fun m=>?_⟩⟩
     ·rw [ziy _ e,zyr]
      unfold zch
      rw [i9,<- ab]
      rfl
     ·rw [f,gm,gb]
      exact ⟨fun z=>z.imp id fun a=>⟨a,a ▸ j⟩,fun z=>z.imp id fun a=>a.1⟩
  ·rintro σ H2 ⟨v4,c,rfl,rfl,d,x,g⟩
   rw [gf,i6] at g
   exact q c d g
theorem zpu:zam ["seen","goal","room"] ["seen","goal","room"] (zai (top 17)):=fS
theorem zo1 (Z:ZZ P w K mg base):zld Z 6 Z.cm (zlk Z.bk.P):=by
 have y:=zv5 Z
 refine Z.cm.fn.ok zpu (by kd_p) (fun cdv A outer s H vs Q E hr h=>?_)
 obtain ⟨sd,g,rm,ks,fl,rfl,f,hl,hg,t,v,hT,k⟩:=h
 refine ⟨_,(zah (zat (zdo zev (zh0 y hr.mm rfl Z.bk.hm Z.bk.kp Z.bk.b .nil zcb (zaa (pv 1) (zaa (zyc (H0:=H) rfl (zht rfl (zbn (own:=["name"]) (caps:=[0]) (N':=["name","seen"]) (by kernel_rfl)) (zx6 (pv 0)) (fun _ _ _ _ _=>(zaz (i:=0) (show (["name","seen"]:List Str).Nodup by decide +kernel) rfl oL)) (fun _ _ _ _ _=>(zfl (zd2 (zdt (zdd hr) (pv 1) (pv 0) (fun _ _=>rfl))))) (fun _ _ _ _ _=>(pv 0)))) zag))) zgl (zdx (pv 2))))),?_⟩
 refine ⟨_,rfl,_,rfl,sd,zch ks fl,rfl,.inl f,fun o H1 h1 p aa Dl c=>?_⟩
 have hk:(zch ks fl).map (·.1)=ks.map Sum.inl:=by unfold zch; rw [jn]; rfl
 have d:Dl≠sd:=fun z=>by rw [z,h1] at c; cases c
 have ad:H Dl=none:=by rw [<- p Dl d]; exact c
 refine zs1 fl hk c h1 (by omega) (fun x hx H' Qt s q=>?_) fun H2 s2 r=>?_
 ·refine ⟨_,rfl,_,rfl,sd,_,rfl,.inl ⟨_,Sum.inl x,.inr ⟨o,s _ _ h1⟩,rfl,(zgz hx).symm⟩,_,rfl,q H' (zax.refl H')⟩
 ·refine ⟨sd,zch ks fl,o,s2 _ _ h1,fun ob u e=>(by rw [f] at e; cases e),?_⟩
  have s3:zax H (upd H2 sd (.dK (zch ks fl))):=fun b u e=>by
   by_cases z:b=sd
   ·subst z
    rw [zad,<- e,f]
   ·rw [zab z]
    refine s2 _ _ ?_
    rw [p b z]
    exact e
  have m:upd H2 sd (.dK (zch ks fl)) Dl=some (.lst ((ks.filter fl).map V.int)):=by rw [zab d]; exact r
  generalize upd H2 sd (.dK (zch ks fl))=H3 at s3 m
  have ae:(ks.filter fl).length<=ks.length:=ib _ _
  refine ⟨g,Dl,ks.filter fl,rfl,SqL.of m,by omega,hg,fun n hn=>v n (gz.mp hn).1,(s3.but _).2 _ _ hT,fun l H4 kp j ac ab=>?_⟩
  kt_k
  rw [zi1 _ t]
  intro l2 a
  have s5:zax H4 (upd H4 l2 (.lst (((za3 g (ks.filter fl)).take rm.toNat).map V.int))):=zax.new H4 a
  refine k l2 _ (fun b u hb e=>s5 _ _ (kp b u hb (s3 _ _ e))) ((s5.but _).2 _ _ j) ?_ zad
  cases e:H l2 with
  | none=>rfl
  | some u =>
   by_cases z:l2=Z.bk.P
   ·obtain ⟨ps,hP,_⟩:=j
    rw [z,hP] at a
    cases a
   ·rw [kp _ _ z (s3 _ _ e)] at a
    cases a
theorem zde:zam ["names","row","done","name"] ["names","row"] (zai (top 18)):=fS
theorem zwv (Z:ZZ P w K mg base):zld Z 1 Z.cn zug:=by
 refine Z.cn.fn.ok zde (by kd_p) (fun cdv A outer s H vs Q E hr h=>?_)
 obtain ⟨nl,rl,names,R,tl,Lr,rfl,l,hR,v,k⟩:=h
 refine ⟨_,(zac (zmk (i:=2) zde.nd rfl oL rfl (zbn (own:=["house","told"]) (caps:=[]) (N':=["house","told"]) (by kernel_rfl)) (zbr (pv 1)) (fun _ _ _ _ _=>(zue (K:=K) (n:=2) rfl rfl (zbl (zaz (i:=0) (show (["house","told"]:List Str).Nodup by decide +kernel) rfl oL) (zbl (zaz (i:=1) (show (["house","told"]:List Str).Nodup by decide +kernel) rfl oL) zfg)))) (fun _ _ _ _ _=>zr3) (fun _ _ _ _ _=>(pv 0)))
  (zac (zd5 PassesOwn.never rfl (zbr (pv 0)) (zaz (i:=3) zde.nd rfl oL)
   (zah (zbz (zav zfn (pv 3) (pv 2) (by with_unfolding_all rfl))
    (zah (zat (pv 3)))
    zay)))
  (zah (zat zcd)))),?_⟩
 obtain ⟨ps,r,d⟩:=hR.ex
 have t:=d.len
 kt_k
 intro Dl f
 refine zem (xs:=ps.map V.ref) (fun j σ H'=>zis (∃ v1 v2:Option V,σ=[v1,v2]/\zax H H'/\H' Dl=some (.lst ((R.take j).map V.int)))) ⟨⟨none,none,rfl,zax.new H f,zad⟩⟩ (fun j σ H' _ ⟨_,_,_,s,_⟩=>SqL.of (s _ _ r)) ?_ ?_
 ·rintro j x σ H' hj ⟨v1,v2,rfl,s,hD⟩
  have aa:j<R.length:=by
   have:=(List.getElem?_eq_some_iff.mp hj).1
   rw [gf] at this
   omega
  obtain ⟨p,h,hp,hh,rfl,q⟩:=zdp d hj
  have u:=s _ _ (show H p=_ from q)
  have hsz:((R.take j).map V.int).length<sizeLine:=by rw [gf,i5]; exact zar (by omega)
  kt_k
  refine ⟨⟨_,_,rfl,s.put f,?_⟩⟩
  rw [zad,ja,hh]
  simp
 rintro σ H2 ⟨v1,v2,rfl,s2,m⟩
 rw [gf,t,i6] at m
 have g:=s2 _ _ l
 have o:=zek R
 kt_k
 refine zcn (K:=K) (a:=nl) (xs:=names.map V.int) (fun i σ H'=>zis (∃ v3:Option V,σ=[some (.ref nl),some (.ref rl),some (.ref Dl),v3]/\H'=H2/\∀ x∈names.take i,zu4 R x=false))
  ⟨⟨none,rfl,rfl,fun _ h=>(nomatch h)⟩⟩ (fun i σ H' _ ⟨_,_,e,_⟩=>by rw [e]; exact SqL.of g) ?_ ?_
 ·rintro i y σ H' hi ⟨v3,rfl,rfl,b⟩
  obtain ⟨n,hn,rfl⟩:=zgn hi
  have et:names.take (i+1)=names.take i++[n]:=by rw [ja,hn]; rfl
  kt_k
  show if (!inV (V.int n) (R.map V.int))=true then _ else _
  rw [zja]
  by_cases c:n∈R
  ·refine zve c ?_
   refine ⟨⟨_,rfl,rfl,fun x hx=>?_⟩⟩
   rw [et,gm,gb] at hx
   rcases hx with z | z
   ·exact b x z
   ·rw [z]
    unfold zu4
    simp [c]
  ·refine zw7 c ?_
   refine ⟨_,rfl,?_⟩
   have e:=(znl (p:=zu4 R) b hn (by unfold zu4; simp [c])).1
   have z:=k _ s2
   rw [e] at z
   exact z
 ·rintro σ H' ⟨v3,rfl,rfl,b⟩
  rw [gf,i6] at b
  have e:=(zqs (p:=zu4 R) b).1
  have z:=k _ s2
  rw [e] at z
  exact z
theorem zel.same {H H1:Hp}{rl:Addr}{R:List Int}{tl:Int->Option (List Int)}{Lr:Int->Addr}(c:zel H rl R tl Lr)(s:zax H H1):zel H1 rl R tl Lr:=by
 obtain ⟨ps,h,hp⟩:=c.ex
 exact ⟨ps,s _ _ h,hp.mp fun p t e=>s _ _ e⟩
theorem zel.more {H:Hp}{rl p:Addr}{R:List Int}{n:Int}{tl:Int->Option (List Int)}{Lr Lr':Int->Addr}{ps:List Addr}(h:H rl=some (.lst (ps.map V.ref)))(hp:Paired (z2x tl Lr H) ps R)(hn:H p=none)(hL:∀ m∈R,tv Lr' tl m=tv Lr tl m) :
  zel (upd (upd H p (.tup [.int n,tv Lr' tl n])) rl (.lst (ps.map V.ref++[.ref p]))) rl (R++[n]) tl Lr':=by
 have c:p≠rl:=fun z=>by rw [z,h] at hn; cases hn
 have d:Paired (z2x tl Lr' H) ps R:=by
  clear h hn
  induction hp with
  | nil=>exact .nil
  | @cons a b ps R e _ ih =>
   refine .cons ?_ (ih fun m hm=>hL m (gc _ hm))
   show H a=some (.tup [.int b,tv Lr' tl b])
   rw [hL b (gj ..)]
   exact e
 refine ⟨ps++[p],by rw [zad]; simp,zj7 ?_ (d.mp fun a b e=>?_)⟩
 ·show upd _ _ _ p=_
  rw [zab c,zad]
 ·have e:H a=some (.tup [.int b,tv Lr' tl b]):=e
  show upd _ _ _ a=_
  rw [zab (fun z=>by rw [z,h] at e; cases e),zab (zae e hn)]
  exact e
theorem zlo {tl:Int->Option (List Int)}{R:List Int}{h:Int}:zi6 tl (R++[h])=zi6 tl R++if (tl h).isSome then [] else [h]:=by
 unfold zi6
 rw [io]
 cases e:tl h with
 | none=>simp [e]
 | some ns=>simp [e]
theorem zwm {tl:Int->Option (List Int)}{R:List Int}{h:Int}{ns:List Int}(e:tl h=some ns):flR tl (R++[h])=flR tl R:=funext fun n=>by
 unfold flR
 rw [zlo,e]
 simp
theorem zv2 {tl:Int->Option (List Int)}{R:List Int}{h:Int}(e:tl h=none):flR tl (R++[h])=fun n=>if n=h then false else flR tl R n:=funext fun n=>by
 unfold flR
 rw [zlo,e]
 by_cases z:n=h
 ·simp [z]
 ·simp [z]
theorem znu {tl:Int->Option (List Int)}{st:Int}{R:List Int}{h:Int}:zhh tl st (R++[h])=zhh tl st R++zpc tl st h:=by
 unfold zhh
 simp
theorem zw3 {pool:List Int}{tl:Int->Option (List Int)}{st g:Int}{rm:Nat}{R ks:List Int}(o:zj6 pool tl)(hR:∀ h∈R,h∈pool)(hg:0<=g)(hm:∀ n,n∈ks↔n∈zhh tl st R):(za3 g (ks.filter (flR tl R))).take rm=zb6 tl st g rm R:=by
 unfold zb6
 rw [zh5 hg (fun y hy=>o.nn y (zfh o hR y hy).1) hm]
theorem zqf {pool:List Int}{tl:Int->Option (List Int)}{st:Int}{R ks:List Int}(o:zj6 pool tl)(hR:∀ h∈R,h∈pool)(hd:ks.Nodup)(hm:∀ n,n∈ks↔n∈zhh tl st R):ks.length<=60 :=
 gy (zmr hd fun n hn=>(zfh o hR n ((hm n).mp hn)).1) o.le
structure z3v (ex:Addr->Prop)(TB:Hp->Prop)(H:Hp)(tl:Int->Option (List Int))(st:Int)(rl sd:Addr)(R ks:List Int)(Lr:Int->Addr)(H2:Hp):Prop where
 nx:Nz ex TB H H2
 row:zel H2 rl R tl Lr
 ls:∀ m∈R,∀ ns,tl m=some ns->H (Lr m)=none/\Lr m≠rl/\H2 (Lr m)=some (.lst (ns.map V.int))
 seen:H2 sd=some (.dK (zch ks (flR tl R)))
 nd:ks.Nodup
 mem:∀ n,n∈ks↔n∈zhh tl st R
 qs:∀ x∈R,tl x=none->x∈ks
def zwe (K:W.Frag)(ex:Addr->Prop)(TB:Hp->Prop)(RR:Addr->FuncData->Prop)(spA:Addr->FuncData->Sp):Sp:=fun vs H Q _=>∃ (st g rm:Int) (f:Addr) (fd:FuncData) (hs pool:List Int) (tell:Int->Int->Option (List Int)) (St:Hp->Prop),vs=[.int st,.int g,.int rm,.ref f]/\z35 K ex TB f fd (spA f fd) hs tell g St/\St H/\RR f fd/\zj6 pool (fun h=>tell h st)/\st∈pool/\(tell st st).isSome=true/\0<=g/\0<=rm /\
 ∀ (t rl fl:Addr) (R:List Int) (Lr:Int->Addr) (H':Hp),Row (fun h=>tell h st) st g rm.toNat R->zcy (fun h=>tell h st) st g rm.toNat R=none->Nz ex TB H H'->H' t=some (.tup [.ref rl,.ref fl])->zel H' rl R (fun h=>tell h st) Lr->(∀ m∈R,∀ ns,tell m st=some ns->H (Lr m)=none/\Lr m≠rl/\H' (Lr m)=some (.lst (ns.map V.int)))->H rl=none->H fl=none->fl≠rl->H' fl=some (.lst ((zb6 (fun h=>tell h st) st g rm.toNat R).map V.int))->Q (.ref t) H'
theorem zel.nx {T0:Addr}{ex:Addr->Prop}{TB:Hp->Prop}{H H1:Hp}{rl:Addr}{R:List Int}{tl:Int->Option (List Int)}{Lr:Int->Addr}(c:zel H rl R tl Lr)(B:TBO T0 ex TB)(t:TB H)(a:Nz ex TB H H1):zel H1 rl R tl Lr:=by
 obtain ⟨ps,h,hp⟩:=c.ex
 exact ⟨ps,a.lst B t h,hp.mp fun p _ e=>a.keep B t _ _ (fun _ z=>nomatch z) e⟩
theorem zd3:zam ["start","goal","room","tells","row","seen","found","house","told"] ["start","goal","room","tells"] (zai (top 15)):=fS
theorem zti (Z:ZZ P w K mg base){ex:Addr->Prop}{TB:Hp->Prop}{psA:List Str}{RR:Addr->FuncData->Prop}{spA:Addr->FuncData->Sp}(GA:∀ f fd,RR f fd->zdm P w K mg base CX0 8 f fd psA (spA f fd))(bA:∀ f fd,RR f fd->zcq K fd psA [])(B:TBO Z.bk.P ex TB):zld Z 9 Z.co (zwe K ex TB RR spA):=by
 have b9:=zzf Z
 have b6:=zo1 Z
 have cd:=zwv Z
 refine Z.co.fn.ok zd3 (by kd_p) (fun cdv A outer s H vs Q E hr h=>?_)
 obtain ⟨st,g,rm,f,fd,hs,pool,tell,St,rfl,W,r,hR,hP,bo,a3,hg,cc,k⟩:=h
 refine ⟨_,(zac (zaw (i:=4) zd3.nd rfl oL (zce zag))
  (zac (zaw (i:=5) zd3.nd rfl oL zd_)
  (zac (zaw (i:=6) zd3.nd rfl oL (zce zag))
  (zac (zaw (i:=7) zd3.nd rfl oL (pv 0))
  (zac (zp7 PassesOwn.never (zav zge (pv 7) zcd (za6 _))
   (zac (zaw (i:=8) zd3.nd rfl oL (zp8 (pv 3) GA bA hr.mm (zaa (pv 7) (zaa (pv 1) (zaa (pv 0) zag)))))
   (zac (zas (zn7 ip PySem.F.slot_list_append PySem.F.type_list_append zet (pv 4) (zaa (zno (zaa (pv 7) (zaa (zmo (zav zlb (pv 8) zcd (za6 _)) zcd (zfj zig rfl Z.da.n_list zpp (zaa (pv 8) zag))) zag))) zag)))
   (zac (zas (pfD Z.cl b9 hr rfl (zaa (pv 5) (zaa (pv 0) (zaa (pv 7) (zaa (pv 8) zag))))))
   (zac (zaw (i:=6) zd3.nd rfl oL (pfD Z.cm b6 hr rfl (zaa (pv 5) (zaa (pv 1) (zaa (pv 2) zag)))))
   (zah (zaw (i:=7) zd3.nd rfl oL (pfD Z.cn cd hr rfl (zaa (pv 6) (zaa (pv 4) zag))))))))))
  (zah (zat (zno (zaa (pv 4) (zaa (pv 6) zag)))))))))),?_⟩
 have h9:=hP.le
 generalize b8:(fun h=>tell h st)=tl at hP k
 have ap:∀ h,tell h st=tl h:=fun h=>by rw [<- b8]
 have hT:=W.tb _ r
 kt_k
 intro rl au
 have s1:zax H (upd H rl (.lst [])):=zax.new H au
 have e1:upd H rl (.lst []) rl=some (.lst []):=zad
 generalize upd H rl (.lst [])=H1 at s1 e1
 kt_k
 intro sd av
 have s2:zax H1 (upd H1 sd (.dK [])):=zax.new H1 av
 have e2:upd H1 sd (.dK []) sd=some (.dK []):=zad
 generalize upd H1 sd (.dK [])=H2 at s2 e2
 kt_k
 intro bc am
 have s3:zax H2 (upd H2 bc (.lst [])):=zax.new H2 am
 generalize upd H2 bc (.lst [])=H3 at s3
 have ax:H sd=none:=s1.free av
 have aa:rl≠sd:=fun z=>by rw [<- z,e1] at av; cases av
 have b5:=s1.trans (s2.trans s3)
 kt_k
 refine ⟨fun m σ H4=>zis (∃ (o:Option Int) (fl:Addr) (R ks:List Int) (Lr:Int->Addr) (v8:Option V),σ=[some (.int st),some (.int g),some (.int rm),some (.ref f),some (.ref rl),some (.ref sd),some (.ref fl),some (ovI o),v8]/\z3v ex TB H tl st rl sd R ks Lr H4 /\
   ((R=[]/\o=some st)\/(Row tl st g rm.toNat R/\o=zcy tl st g rm.toNat R/\H fl=none/\fl≠rl/\H4 fl=some (.lst ((zb6 tl st g rm.toNat R).map V.int))))/\m=61 - R.length),
  ⟨_,⟨some st,bc,[],[],fun _=>0,none,rfl,⟨Nz.of B hT b5,⟨[],s3 _ _ (s2 _ _ e1),.nil⟩,fun _ z=>(nomatch z),s3 _ _ e2,j7,fun n=>by simp [zhh],fun _ z=>(nomatch z)⟩,.inl ⟨rfl,rfl⟩,rfl⟩⟩,?_⟩
 rintro m σ H4 ⟨o,fl,R,ks,Lr,v8,rfl,I,az,rfl⟩
 cases o with
 | none =>
  obtain ⟨ab,cf,am,bz,bi⟩:Row tl st g rm.toNat R/\none=zcy tl st g rm.toNat R/\H fl=none/\fl≠rl/\H4 fl=some (.lst ((zb6 tl st g rm.toNat R).map V.int)):=by
   rcases az with ⟨_,z⟩ | z
   ·cases z
   ·exact z
  refine ⟨_,rfl,rfl,_,rfl,?_⟩
  refine zve rfl ?_
  refine ⟨_,rfl,_,rfl,(jd rfl),fun t ht=>?_⟩
  have s5:zax H4 (upd H4 t (.tup [V.ref rl,V.ref fl])):=zax.new H4 ht
  exact k t rl fl R Lr _ ab cf.symm (I.nx.trans (Nz.of B (W.tb _ (W.nx _ _ r I.nx)) s5)) zad (I.row.same s5) (fun m hm ns e=>by
   rw [ap] at e
   obtain ⟨a,b,c⟩:=I.ls m hm ns e
   exact ⟨a,b,s5 _ _ c⟩) au am bz (s5 _ _ bi)
 | some h =>
  have af:(∀ x∈R,x∈pool)/\R.Nodup/\h∈pool/\¬ h∈R/\(tl h=none->h∈ks)/\(Row tl st g rm.toNat (R++[h])):=by
   rcases az with ⟨rfl,z⟩ | ⟨ab,z,_⟩
   ·cases z
    exact ⟨fun _ z=>(nomatch z),j7,bo,jq,fun z=>(by rw [ap,z] at a3; cases a3),.one⟩
   ·obtain ⟨a1,a2⟩:=ab.ok hP bo
    obtain ⟨b1,b2⟩:=zsl z.symm
    have b3:=(zhz _ b1).1
    exact ⟨a1,a2,(zfh hP a1 _ b3).1,b2,fun _=>(I.mem h).mpr b3,.more ab z.symm⟩
  obtain ⟨af,cg,bf,b0,bn,bg⟩:=af
  have b7:(R++[h]).length<=60:=gy (zmr (zbd cg b0) (zmz af bf)) h9
  rw [gl,gq] at b7
  have a6:=W.nx _ _ r I.nx
  have T4:=W.tb _ a6
  refine ⟨_,rfl,rfl,_,rfl,?_⟩
  refine zw7 (fun z=>nomatch z) ?_
  refine ⟨fun σ' H'=>∃ m',m'<61 - R.length/\zis (∃ (o:Option Int) (fl:Addr) (R ks:List Int) (Lr:Int->Addr) (v8:Option V),σ'=[some (.int st),some (.int g),some (.int rm),some (.ref f),some (.ref rl),some (.ref sd),some (.ref fl),some (ovI o),v8]/\z3v ex TB H tl st rl sd R ks Lr H' /\
   ((R=[]/\o=some st)\/(Row tl st g rm.toNat R/\o=zcy tl st g rm.toNat R/\H fl=none/\fl≠rl/\H' fl=some (.lst ((zb6 tl st g rm.toNat R).map V.int))))/\m'=61 - R.length),fun _ _ z=>z,?_⟩
  have ck:=zqf hP af I.nd I.mem
  have a4:∀ (H8:Hp) (v8:V) (Lr':Int->Addr) (j:List Int),Nz ex TB H H8->zel H8 rl (R++[h]) tl Lr'->(∀ m∈R++[h],∀ ns,tl m=some ns->H (Lr' m)=none/\Lr' m≠rl/\H8 (Lr' m)=some (.lst (ns.map V.int)))->H8 sd=some (.dK (zch j (flR tl (R++[h]))))->j.Nodup->(∀ n,n∈j↔n∈zhh tl st (R++[h]))->(∀ x∈R++[h],tl x=none->x∈j) ->
    z31 (z2c (zt1 (zlk Z.bk.P) [] E0 (zgx (zu5 5) (zgx (zu5 1) (zgx (zu5 2) zt0)))) (znn 6)) (z2c (zt1 zug [] E0 (zgx (zu5 6) (zgx (zu5 4) zt0))) (znn 7))
     { nx:=fun σ' H'=>∃ m',m'<61 - R.length/\zis (∃ (o:Option Int) (fl:Addr) (R ks:List Int) (Lr:Int->Addr) (v8:Option V),σ'=[some (.int st),some (.int g),some (.int rm),some (.ref f),some (.ref rl),some (.ref sd),some (.ref fl),some (ovI o),v8]/\z3v ex TB H tl st rl sd R ks Lr H' /\
      ((R=[]/\o=some st)\/(Row tl st g rm.toNat R/\o=zcy tl st g rm.toNat R/\H fl=none/\fl≠rl/\H' fl=some (.lst ((zb6 tl st g rm.toNat R).map V.int))))/\m'=61 - R.length),rt:=Q }
     [some (.int st),some (.int g),some (.int rm),some (.ref f),some (.ref rl),some (.ref sd),some (.ref fl),some (.int h),some v8] H8:=fun H8 v8 Lr' j K8 R8 L8 bm ad ac cb=>by
   have aj:=zmz af bf
   have cj:=zqf hP aj ad ac
   have T8:=W.tb _ (W.nx _ _ r K8)
   refine ⟨_,rfl,_,rfl,_,rfl,sd,g,rm,j,_,rfl,bm,by omega,hg,cc,fun n hn=>hP.nn n (zfh hP aj n ((ac n).mp hn)).1,B.t0 T8,fun lf H9 ci ch a8 ao=>?_⟩
   rw [zw3 hP aj hg ac] at ao
   have aq:Nz ex TB H8 H9:=Nz.by B T8 ci ch
   have a0:=aq.keep B T8
   have b4:H9 sd=some (.dK (zch j (flR tl (R++[h])))):=a0 _ _ (fun _ z=>nomatch z) bm
   have R9:zel H9 rl (R++[h]) tl Lr':=R8.nx B T8 aq
   have L9:∀ m∈R++[h],∀ ns,tl m=some ns->H (Lr' m)=none/\Lr' m≠rl/\H9 (Lr' m)=some (.lst (ns.map V.int)):=fun m hm ns e=>by
    obtain ⟨a,b,c⟩:=L8 m hm ns e
    exact ⟨a,b,a0 _ _ (fun _ z=>nomatch z) c⟩
   have bj:lf≠rl:=fun z=>by
    obtain ⟨_,y,_⟩:=R8.ex
    rw [z,y] at a8
    cases a8
   have bv:H lf=none:=K8.free B a8
   refine ⟨_,rfl,_,rfl,lf,rl,_,R++[h],tl,Lr',rfl,ao,R9,by simp; omega,fun cq al=>?_⟩
   exact ⟨61 - (R++[h]).length,by simp; omega,⟨zcy tl st g rm.toNat (R++[h]),lf,R++[h],j,Lr',_,rfl,⟨(K8.trans aq).trans (Nz.of B aq.t al),R9.same al,fun m hm ns e=>by
    obtain ⟨a,b,c⟩:=L9 m hm ns e
    exact ⟨a,b,al _ _ c⟩,al _ _ b4,ad,ac,cb⟩,.inr ⟨bg,rfl,bv,bj,al _ _ ao⟩,rfl⟩⟩
  have bq:=W.fn _ a6
  refine ⟨_,rfl,f,fd,rfl,bq,hR,_,rfl,_,rfl,_,rfl,bq,W.ca H4 _ h st a6 (fun en H5 u=>?_) fun ns en l0 H5 u bl aw=>?_⟩
  ·-- silent
   have d:tl h=none:=(ap h).symm.trans en
   have N5:=I.nx.trans u
   have bd:=I.row.nx B T4 u
   have ai:=u.keep B T4
   have ae:H5 sd=some (.dK (zch ks (flR tl R))):=ai _ _ (fun _ z=>nomatch z) I.seen
   have L5:∀ m∈R,∀ ns,tl m=some ns->H (Lr m)=none/\Lr m≠rl/\H5 (Lr m)=some (.lst (ns.map V.int)):=fun m hm ns e=>by
    obtain ⟨a,b,c⟩:=I.ls m hm ns e
    exact ⟨a,b,ai _ _ (fun _ z=>nomatch z) c⟩
   obtain ⟨ps,p,ak⟩:=bd.ex
   have ah:(ps.map V.ref).length<sizeLine:=by rw [gf,ak.len]; exact zar (by omega)
   refine ⟨_,rfl,.inl ⟨rfl,_,SqL.of p⟩,_,rfl,_,rfl,rfl,_,rfl,?_⟩
   refine zov rfl ?_
   refine ⟨(jd rfl),fun t ht=>?_⟩
   have ag:t≠rl:=fun z=>by rw [z,p] at ht; cases ht
   refine ⟨rl,_,_,rfl,rfl,(zab ag.symm).trans p,ah,?_⟩
   have T5:=W.tb _ (W.nx _ _ r N5)
   have K6:Nz ex TB H (upd (upd H5 t (.tup [ovI (some h),V.non])) rl (.lst (ps.map V.ref++[V.ref t]))):=(N5.trans (Nz.of B T5 (zax.new H5 ht))).put B au (xs:=ps.map V.ref) ((zab ag.symm).trans p)
   have R6:zel (upd (upd H5 t (.tup [ovI (some h),V.non])) rl (.lst (ps.map V.ref++[V.ref t]))) rl (R++[h]) tl Lr:=by
    have z:=zel.more (n:=h) (Lr':=Lr) p ak ht fun _ _=>rfl
    rw [zl1 d] at z
    exact z
   have a5:∀ q o,q≠rl->H5 q=some o->upd (upd H5 t (.tup [ovI (some h),V.non])) rl (.lst (ps.map V.ref++[V.ref t])) q=some o:=fun q o hq e=>by
    rw [zab hq,zab (zae e ht)]
    exact e
   generalize upd (upd H5 t (.tup [ovI (some h),V.non])) rl (.lst (ps.map V.ref++[V.ref t]))=H6 at K6 R6 a5
   have ba:=a5 _ _ aa.symm ae
   refine ⟨_,rfl,_,rfl,_,rfl,_,rfl,sd,st,h,V.non,ks,flR tl R,rfl,ba,I.nd,by omega,.inl ⟨rfl,bn d,?_⟩⟩
   rw [<- zv2 d]
   refine a4 _ V.non Lr ks (K6.putD B ax ba) ?_ (fun m hm ns e=>?_) zad I.nd (fun n=>?_) (fun x hx e=>?_)
   ·obtain ⟨qs,a9,bb⟩:=R6.ex
    refine ⟨qs,(zab aa).trans a9,bb.mp fun a b e=>?_⟩
    have e:H6 a=_:=e
    exact (zab (fun z=>by rw [z,ba] at e; cases e)).trans e
   ·rw [gm,gb] at hm
    rcases hm with z | z
    ·obtain ⟨a,b,c⟩:=L5 m z ns e
     exact ⟨a,b,by rw [zab (fun y=>by rw [y,ae] at c; cases c)]; exact a5 _ _ b c⟩
    ·rw [z,d] at e
     cases e
   ·rw [I.mem,znu]
    unfold zpc
    rw [d]
    simp
   ·rw [gm,gb] at hx
    rcases hx with z | z
    ·exact I.qs x z e
    ·rw [z]
     exact bn d
  ·have d:tl h=some ns:=(ap h).symm.trans en
   have N5:=I.nx.trans u
   have ai:=u.keep B T4
   obtain ⟨bw,cp⟩:=hP.ns h bf ns d
   have ae:H5 sd=some (.dK (zch ks (flR tl R))):=ai _ _ (fun _ z=>nomatch z) I.seen
   have bd:zel H5 rl R tl Lr:=I.row.nx B T4 u
   have L5:∀ m∈R,∀ ns,tl m=some ns->H (Lr m)=none/\Lr m≠rl/\H5 (Lr m)=some (.lst (ns.map V.int)):=fun m hm ns e=>by
    obtain ⟨a,b,c⟩:=I.ls m hm ns e
    exact ⟨a,b,ai _ _ (fun _ z=>nomatch z) c⟩
   obtain ⟨ps,p,ak⟩:=bd.ex
   have ah:(ps.map V.ref).length<sizeLine:=by rw [gf,ak.len]; exact zar (by omega)
   have be:l0≠rl:=fun z=>by
    obtain ⟨_,y,_⟩:=I.row.ex
    rw [z,y] at bl
    cases bl
   refine ⟨_,rfl,.inl ⟨rfl,_,SqL.of p⟩,_,rfl,_,rfl,rfl,_,rfl,?_⟩
   refine zgj (fun z=>nomatch z) ?_
   refine ⟨_,rfl,l0,ns.map V.int,rfl,.inl (SqL.of aw),fun l hl=>?_⟩
   refine ⟨(jd rfl),fun t ht=>?_⟩
   have s6:zax H5 (upd H5 l (.lst (ns.map V.int))):=zax.new H5 hl
   have e6:upd H5 l (.lst (ns.map V.int)) l=some (.lst (ns.map V.int)):=zad
   have T5:=W.tb _ (W.nx _ _ r N5)
   have ay:l≠rl:=fun z=>by rw [z,p] at hl; cases hl
   have br:H l=none:=N5.free B hl
   generalize upd H5 l (.lst (ns.map V.int))=H6 at s6 ht e6 |-
   have v:=s6 _ _ p
   have ag:t≠rl:=fun z=>by rw [z,v] at ht; cases ht
   refine ⟨rl,_,_,rfl,rfl,(zab ag.symm).trans v,ah,?_⟩
   have N6:=N5.trans (Nz.of B T5 s6)
   have T6:=W.tb _ (W.nx _ _ r N6)
   have K7:Nz ex TB H (upd (upd H6 t (.tup [ovI (some h),V.ref l])) rl (.lst (ps.map V.ref++[V.ref t]))):=(N6.trans (Nz.of B T6 (zax.new H6 ht))).put B au (xs:=ps.map V.ref) ((zab ag.symm).trans v)
   let Lr':Int->Addr:=fun m=>if m=h then l else Lr m
   have bp:Lr' h=l:=if_pos rfl
   have bu:∀ m∈R,Lr' m=Lr m:=fun m hm=>if_neg fun (z:m=h)=>b0 (z ▸ hm)
   have R7:zel (upd (upd H6 t (.tup [ovI (some h),V.ref l])) rl (.lst (ps.map V.ref++[V.ref t]))) rl (R++[h]) tl Lr':=by
    have z:=zel.more (n:=h) (Lr':=Lr') v (ak.mp fun a b e=>s6 _ _ e) ht fun m hm=>by unfold tv; rw [bu m hm]
    rw [zmg d,bp] at z
    exact z
   have an:∀ q o,q≠rl->H6 q=some o->upd (upd H6 t (.tup [ovI (some h),V.ref l])) rl (.lst (ps.map V.ref++[V.ref t])) q=some o:=fun q o hq e=>by
    rw [zab hq,zab (zae e ht)]
    exact e
   have L7:∀ m∈R++[h],∀ ns,tl m=some ns->H (Lr' m)=none/\Lr' m≠rl/\upd (upd H6 t (.tup [ovI (some h),V.ref l])) rl (.lst (ps.map V.ref++[V.ref t])) (Lr' m)=some (.lst (ns.map V.int)):=fun m hm a7 e=>by
    rw [gm,gb] at hm
    rcases hm with z | z
    ·rw [bu m z]
     obtain ⟨a,b,c⟩:=L5 m z a7 e
     exact ⟨a,b,an _ _ b (s6 _ _ c)⟩
    ·subst z
     rw [d] at e
     cases e
     rw [bp]
     exact ⟨br,ay,an _ _ ay e6⟩
   generalize upd (upd H6 t (.tup [ovI (some h),V.ref l])) rl (.lst (ps.map V.ref++[V.ref t]))=H7 at K7 R7 an L7
   have ar:=an _ _ aa.symm (s6 _ _ ae)
   have bt:=an _ _ be (s6 _ _ aw)
   refine ⟨_,rfl,_,rfl,_,rfl,_,rfl,sd,st,h,V.ref l0,ks,flR tl R,rfl,ar,I.nd,by omega,.inr ⟨l0,ns,rfl,bt,bw,fun n _ cr ce=>?_,fun j ad bh=>?_⟩⟩
   ·unfold flR
    rw [js,decide_eq_false_iff_not]
    intro z
    unfold zi6 at z
    obtain ⟨z1,z2⟩:=gz.mp z
    refine ce (I.qs n z1 ?_)
    cases e:tl n with
    | none=>rfl
    | some _=>rw [e] at z2; cases z2
   ·rw [<- zwm (R:=R) d]
    refine a4 _ (V.ref l0) Lr' j (K7.putD B ax ar) ?_ (fun m hm a7 e=>?_) zad ad (fun n=>?_) fun x hx e=>?_
    ·obtain ⟨qs,a9,bb⟩:=R7.ex
     refine ⟨qs,(zab aa).trans a9,bb.mp fun a b e=>?_⟩
     have e:H7 a=_:=e
     exact (zab (fun z=>by rw [z,ar] at e; cases e)).trans e
    ·obtain ⟨a,b,c⟩:=L7 m hm a7 e
     exact ⟨a,b,by rw [zab (fun y=>by rw [y,ar] at c; cases c)]; exact c⟩
    ·rw [bh,I.mem,znu,gm]
     unfold zpc
     rw [d]
     simp
    ·rw [gm,gb] at hx
     rcases hx with z | z
     ·exact (bh x).mpr (.inl (I.qs x z e))
     ·rw [z,d] at e
      cases e
def zre (N:Int->Nat->List Int)(h n:Int):Int->Nat->List Int:=zdh N h (zrz (N h) (za9 h n) ((N h (za9 h n)).erase n))
def learn1 (r:Int)(aw:Int->Bool)(tl:Int->Option (List Int))(N:Int->Nat->List Int)(st h:Int):Int->Nat->List Int:=if (tl h).isSome=true then zgd r aw N st h else zre N st h
def zcr (r:Int)(aw:Int->Bool)(tl:Int->Option (List Int))(N:Int->Nat->List Int)(st:Int):List Int->Int->Nat->List Int
 | []=>N
 | h :: t=>zcr r aw tl (learn1 r aw tl N st h) st t
theorem zgb {r:Int}{aw:Int->Bool}{tl:Int->Option (List Int)}{st h:Int}:∀ {l:List Int} {N:Int->Nat->List Int},zcr r aw tl N st (l++[h])=learn1 r aw tl (zcr r aw tl N st l) st h
 | [],_=>rfl
 | _ :: t,_=>zgb (l:=t)
theorem NOk.drop {pool:List Int}{z:Nat}{r:Int}{hs:List Int}{N:Int->Nat->List Int}(O:NOk pool z r hs N){a b:Int}:NOk pool z r hs (zre N a b):=by
 have sub:∀ h k,∃ m,zre N a b h k=N h k\/zre N a b h k=(N h k).erase m:=fun h k=>by
  unfold zre
  by_cases e:h=a
  ·subst e
   rw [zak]
   by_cases e2:k=za9 h b
   ·subst e2
    rw [za5]
    exact ⟨b,.inr rfl⟩
   ·rw [zbb e2]
    exact ⟨b,.inl rfl⟩
  ·rw [zap e]
   exact ⟨b,.inl rfl⟩
 refine ⟨fun h hh k=>?_,fun h hh k=>?_,fun h hh k m hm=>?_⟩
 ·obtain ⟨m,e | e⟩:=sub h k
  ·rw [e]
   exact O.nd h hh k
  ·rw [e]
   exact (O.nd h hh k).erase m
 ·obtain ⟨m,e | e⟩:=sub h k
  ·rw [e]
   exact O.le h hh k
  ·rw [e]
   have:=O.le h hh k
   have:=List.length_erase_le (a:=m) (l:=N h k)
   omega
 ·obtain ⟨n,e | e⟩:=sub h k
  ·rw [e] at hm
   exact O.st h hh k m hm
  ·rw [e] at hm
   exact O.st h hh k m (List.mem_of_mem_erase hm)
theorem NOk.learn1 {pool:List Int}{z:Nat}{r:Int}{hs:List Int}{N:Int->Nat->List Int}(O:NOk pool z r hs N)(hr:1<=r){aw:Int->Bool}{tl:Int->Option (List Int)}{a b:Int}(ha:a∈pool)(hb:b∈pool)(hne:b≠a):NOk pool z r hs (learn1 r aw tl N a b):=by
 unfold NN.learn1
 split
 ·exact O.meet hr ha hb hne
 ·exact O.drop
theorem NOk.learn {pool:List Int}{z:Nat}{r:Int}{hs:List Int}(hr:1<=r){aw:Int->Bool}{tl:Int->Option (List Int)}{a:Int}(ha:a∈pool):∀ {l:List Int} {N:Int->Nat->List Int},NOk pool z r hs N->(∀ x∈l,x∈pool/\x≠a)->NOk pool z r hs (zcr r aw tl N a l)
 | [],_,O,_=>O
 | x :: t,_,O,h=>NOk.learn (l:=t) hr ha (O.learn1 hr ha (h x (gj ..)).1 (h x (gj ..)).2) fun y hy=>h y (gc _ hy)
theorem zaj.tupN {CB CT CW w td sd:Addr}{H:Hp}{z r:Int}{hs sil:List Int}{T:Int->zbp}(W:zaj CB CT CW H w td sd z r hs sil T){q:Addr}{xs:List V}(e:H q=some (.tup xs)):¬ Own td sd z.toNat hs T q:=fun y=>by
 rcases y with rfl | rfl | ⟨g,hg,rfl | ⟨j,hj,rfl | rfl⟩⟩
 ·rw [W.tb] at e
  cases e
 ·rw [W.si] at e
  cases e
 ·rw [(W.ta g hg).li] at e
  cases e
 ·obtain ⟨⟨d,e1⟩,_⟩:=(W.ta g hg).bk j hj
  rw [e1] at e
  cases e
 ·rw [((W.ta g hg).bk j hj).li] at e
  cases e
theorem zt7 (x:V)(xs:List V):zm2 (x :: xs) (some 1) none=xs:=by
 unfold zm2
 have e1:HT.sIx (x :: xs).length 0 (some 1)=1:=by
  have:=HT.sIx_nat (x :: xs).length 0 1
  rw [show ((1:Nat):Int)=1 from rfl] at this
  rw [this]
  simp
 rw [e1,HT.sIx_none,List.drop_succ_cons,mr]
 exact iu (by simp)
theorem zaj.dropped {CB CT CW w td sd T1:Addr}{H H':Hp}{z r:Int}{hs sil:List Int}{T:Int->zbp}(W:zaj CB CT CW H w td sd z r hs sil T)(A:zb4 z.toNat hs T)(t:Tab H T1 (zao zdz) quH){h n:Int}(hh:h∈hs)(hst:za9 h n<z.toNat)
  (B:zc0 CB H' ((T h).bA (za9 h n)) ((T h).lA (za9 h n)) r (((T h).ns (za9 h n)).erase n))(b:zrk ((T h).lA (za9 h n)) H H') :
  ∃ T',zaj CB CT CW H' w td sd z r hs sil T'/\zb4 z.toNat hs T'/\(fun g=>(T' g).ns)=zre (fun g=>(T g).ns) h n/\zd1 T1 H H' (Own td sd z.toNat hs T) (Own td sd z.toNat hs T')/\Tab H' T1 (zao zdz) quH:=by
 have a:=(W.ta h hh).bk _ hst
 have he:∀ q,H' q=none->H q=none:=fun q e=>by
  cases eq:H q with
  | none=>rfl
  | some o =>
   exfalso
   by_cases e2:q=(T h).lA (za9 h n)
   ·rw [e2,B.li] at e
    cases e
   ·rw [b q o eq e2] at e
    cases e
 obtain ⟨W3,A3,d3⟩:=W.turn (T1:=T1) A hh hst B (.inl rfl) (fun q o _ e _ y=>b q o e y) he (fun q ps e _=>b q _ e (fun y=>by
  rw [y,a.li] at e
  cases e))
 refine ⟨_,W3,A3,?_,d3,Tab.hold t fun q o ho e=>b q o e (fun y=>?_)⟩
 ·rw [zsv]
  rfl
 ·subst y
  rcases ho with ⟨x,kk,rfl⟩ | y
  ·rw [a.li] at e
   cases e
  ·obtain ⟨ps,hP,_⟩:=t
   rw [<- y,a.li] at hP
   cases hP
def zvz (CB CT CW T1:Addr):Sp:=fun vs H Q _=>∀ CC:Prop,(∀ (w td sd rl:Addr) (z r:Int) (hs sil pool rest:List Int) (T:Int->zbp) (st:Int) (tl:Int->Option (List Int)) (Lr:Int->Addr),vs=[.ref w,.int st,.ref rl]->zaj CB CT CW H w td sd z r hs sil T->zb4 z.toNat hs T->NOk pool z.toNat r hs (fun g=>(T g).ns)->st∈hs->st∈pool->zel H rl (st :: rest) tl Lr->rest.length<=60->((∀ h∈rest,h∈pool/\h≠st/\0<=h/\h<2 ^ z.toNat/\((tl h).isSome=true->h∈hs)))->Tab H T1 (zao zdz) quH->(∀ (H':Hp) (T':Int->zbp),zaj CB CT CW H' w td sd z r hs sil T'->zb4 z.toNat hs T'->(fun g=>(T' g).ns)=zcr r (awB hs sil) tl (fun g=>(T g).ns) st rest->zd1 T1 H H' (Own td sd z.toNat hs T) (Own td sd z.toNat hs T')->Tab H' T1 (zao zdz) quH->Q .non H')->CC)->CC
theorem zju:zam ["self","name"] ["self","name"] (zai (zaf (top 20) 3)):=fS
theorem zjn (Z:ZZ P w K mg base):zb2 Z 1 Z.cp (zyw Z.ba.C):=by
 have d:=Z.ba.cl
 obtain ⟨f,b,-⟩:=Z.ba.na
 refine Z.cp.fn.ok zju (by kd_p) (fun cdv A outer s H vs Q E hr h=>?_)
 obtain ⟨p,l,r,n,ns,rfl,⟨⟨dx,hp⟩,hl⟩,k⟩:=h
 have a:p≠l:=zcv hp hl (by intro z; cases z)
 refine ⟨_,(zac (zbz (zav zfn (pv 1) (za0 (pv 0) rfl) (by with_unfolding_all rfl))
   (zah (zat zhg))
   zay)
  (zac (zas (zn7 ip PySem.F.slot_list_remove PySem.F.type_list_remove zoj (za0 (pv 0) rfl) (zaa (pv 1) zag)))
  (zah (zat zhg)))),?_⟩
 kt_k
 show if (!inV (V.int n) (ns.map V.int))=true then _ else _
 rw [zja]
 by_cases hn:n∈ns
 ·refine zve hn ?_
  kt_k
  have q:=k (upd H l (.lst ((ns.erase n).map V.int))) ⟨⟨dx,by rw [zab a]; exact hp⟩,zad⟩ fun c o e hc=>by rw [zab hc]; exact e
  rw [decide_eq_true hn] at q
  exact q
 ·refine zw7 hn ?_
  have q:=k H ⟨⟨dx,hp⟩,by rw [List.erase_of_not_mem hn]; exact hl⟩ fun c o e hc=>e
  rw [decide_eq_false hn] at q
  exact q
theorem zkk:zam ["self","name"] ["self","name"] (zai (zaf (top 22) 2)):=fS
theorem zko (Z:ZZ P w K mg base):zb2 Z 4 Z.cq (zvg Z.ba.C Z.bb.C):=by
 have o:=Z.bb.cl
 obtain ⟨aa,l,u,p,-⟩:=Z.bb.na
 have f:=zh7 (CB:=Z.ba.C) Z
 have h:=zjn Z
 refine Z.cq.fn.ok zkk (by kd_p) (fun cdv A outer s H vs Q E hr j=>?_)
 refine j _ fun t bl own z r m n bA lA ns g hT h1 h2 h3 h4 c=>?_
 subst g
 obtain ⟨k1,k2⟩:=c
 obtain ⟨⟨dx,q⟩,x,i,-⟩:=id hT
 refine ⟨_,(zac (zbz (zav zmm (pv 1) (za0 (pv 0) rfl) (za6 _))
   (zah (zat zhg))
   zay)
  (zah (zat (pmD (pmD (pv 0) Z.bb.cl Z.bm f hr (zaa (pv 1) zag)) Z.ba.cl Z.cp h hr (zaa (pv 1) zag))))),?_⟩
 kt_k
 by_cases b:m=own
 ·subst b
  refine zov rfl ?_
  exact k1 rfl
 ·have a:own≠m:=fun e=>b e.symm
  refine zgj (fun e=>b (by injection e)) ?_
  have d:=ze7 h1 h2 h3 h4 a
  have hB:=i _ d
  obtain ⟨⟨dk,y⟩,v⟩:=id hB
  have kk:=k2 a
  kt_k
theorem zeh:zam ["self","start","row","house","told"] ["self","start","row"] (zai (zaf (top 25) 21)):=fS
theorem zkj (Z:ZZ P w K mg base):zb2 Z 11 Z.cr (zvz Z.ba.C Z.bb.C Z.bc.C Z.b6.P):=by
 have aw:=Z.bc.cl
 obtain ⟨a0,a3,a6,a5,-⟩:=Z.bc.na
 have ah:=zie Z
 have am:=zko Z
 refine Z.cr.fn.ok zeh (by kd_p) (fun cdv A outer s H vs Q E hr ak=>?_)
 refine ak _ fun w td sd rl z r hs sil pool j TT st tl Lr aj hW hA hO m c aa ax b hT k=>?_
 subst aj
 obtain ⟨ps,a7,af⟩:=aa.ex
 cases af with
 | @cons p0 _ pt _ hp0 hpt =>
 have aq:=hW.r1
 have ay:=hW.r2
 refine ⟨_,(zah (zd5 PassesOwn.never rfl (zbr (zdo zev (pv 2) (zdx zal) zgl)) (zjg (n:=2) rfl (zbl (zaz (i:=3) zeh.nd rfl oL) (zbl (zaz (i:=4) zeh.nd rfl oL) zfg)))
   (zah (zbz (zav zlb (pv 4) zcd (za6 _))
    (zah (zas (pmD (zdt (zdd hr) (za0 (pv 0) rfl) (pv 1) (fun _ _=>rfl)) Z.bb.cl Z.cq am hr (zaa (pv 3) zag))))
    (zah (zas (pmD (pv 0) Z.bc.cl Z.b7 ah hr (zaa (pv 1) (zaa (pv 3) zag))))))))),?_⟩
 kt_k
 rw [ig,zt7]
 intro sl ab
 have s1:zax H (upd H sl (.lst (pt.map V.ref))):=zax.new H ab
 have e1:upd H sl (.lst (pt.map V.ref)) sl=some (.lst (pt.map V.ref)):=zad
 generalize upd H sl (.lst (pt.map V.ref))=H1 at s1 e1 |-
 have W1:=hW.keep (H':=H1) fun q o _ e=>s1 _ _ e
 have ao:¬ Own td sd z.toNat hs TT sl:=hW.notOwn ab
 have ac:=hpt.len
 kt_k
 refine zcn (K:=K) (a:=sl) (xs:=pt.map V.ref) (fun i σ H2=>zis (∃ (v3 v4:Option V) (T2:Int->zbp),σ=[some (.ref w),some (.int st),some (.ref rl),v3,v4]/\zaj Z.ba.C Z.bb.C Z.bc.C H2 w td sd z r hs sil T2/\zb4 z.toNat hs T2/\(fun g=>(T2 g).ns)=zcr r (awB hs sil) tl (fun g=>(TT g).ns) st (j.take i)/\zd1 Z.b6.P H1 H2 (Own td sd z.toNat hs TT) (Own td sd z.toNat hs T2)/\Tab H2 Z.b6.P (zao zdz) quH))
  ⟨⟨_,_,TT,rfl,W1,hA,rfl,zd1.refl _ _,(s1.but _).2 _ _ hT⟩⟩ (fun i σ H2 _ ⟨_,_,_,_,_,_,_,d,_⟩=>SqL.of (d.k _ _ (fun _ z=>nomatch z) e1 ao)) ?_ ?_
 ·rintro i y σ H2 hi ⟨v3,v4,T2,rfl,W2,A2,e2,d2,t2⟩
  obtain ⟨p,h,hp,hh,rfl,l⟩:=zdp hpt hi
  have l:H p=some (.tup [.int h,tv Lr tl h]):=l
  have u:H2 p=some (.tup [.int h,tv Lr tl h]):=d2.k _ _ (fun _ z=>nomatch z) (s1 _ _ l) (hW.tupN l)
  obtain ⟨a8,ag,al,ai,an⟩:=b h (i4 hh)
  have et:j.take (i+1)=j.take i++[h]:=by rw [ja,hh]; rfl
  have O2:NOk pool z.toNat r hs (fun g=>(T2 g).ns):=by
   rw [e2]
   exact NOk.learn aq c hO fun x hx=>⟨(b x (i8 hx)).1,(b x (i8 hx)).2.1⟩
  have az:∀ g∈hs,∀ k,((T2 g).ns k).length<=1000:=fun g hg k=>by
   have:(((T2 g).ns k).length:Int)<=r:=O2.le g hg k
   omega
  obtain ⟨⟨a4,av⟩,ad,ar,ae,-⟩:=id W2
  have ap:=ae st m
  obtain ⟨a1,au⟩:=ap.ob
  have hg:zg0 H2 td (V.int st) (some (V.ref (T2 st).t)):=by
   have:=zg0.k (k:=Sum.inl st) ad
   rw [zdu,if_pos m] at this
   exact this
  have v:=W2.hb st m
  cases f:tl h with
  | none =>
   rw [zl1 f] at u
   have c:za9 st h<z.toNat:=ze7 v.1 al v.2 ai (Ne.symm ag)
   kt_k
   intro _ H3 B3 b3
   obtain ⟨T3,W3,A3,e3,d3,t3⟩:=W2.dropped A2 t2 m c B3 b3
   refine ⟨⟨_,_,T3,rfl,W3,A3,?_,d2.trans d3,t3⟩⟩
   rw [e3,e2,et,zgb]
   unfold learn1
   rw [f]
   rfl
  | some ns =>
   rw [zmg f] at u
   have a2:=an (by rw [f]; rfl)
   kt_k
   intro H3 T3 W3 A3 e3 d3 t3
   refine ⟨⟨_,_,T3,rfl,W3,A3,?_,d2.trans d3,t3⟩⟩
   rw [e3,e2,et,zgb]
   unfold learn1
   rw [f]
   rfl
 ·rintro σ H2 ⟨v3,v4,T2,rfl,W2,A2,e2,d2,t2⟩
  rw [gf,ac,i6] at e2
  exact k H2 T2 W2 A2 e2 ((zd1.same s1).trans d2) t2
theorem zc4 {z r:Int}{hs sil pool:List Int}{N:Int->Nat->List Int}{g st:Int}(O:NOk pool z.toNat r hs N)(hr:r<=8)(hl:pool.length<=60)(hn:∀ x∈pool,0<=x):zj6 pool (fun h=>zaq z r hs sil N g h st):=by
 refine ⟨hl,hn,fun n _ ns e=>?_⟩
 have e:zaq z r hs sil N g n st=some ns:=e
 unfold zaq at e
 split at e
 ·rename_i a
  cases e
  refine ⟨?_,fun m hm=>?_⟩
  ·rw [i5]
   omega
  ·have y2:=(gz.mp (za2.mp (i8 hm))).1
   obtain ⟨k,_,hm⟩:=zc7.mp ((zan _).subset y2)
   exact (O.st n (zjt a).1 k m hm).1
 ·cases e
structure z0j (T0 T1 T3:Addr)(H H':Hp)(O O':Addr->Prop):Prop where
 k:∀ q o,(∀ ps,o≠ .tbl ps)->H q=some o->¬ O q->H' q=some o
 o:∀ q,O' q->O q\/H q=none
 e:∀ q,H' q=none->H q=none
 t:∀ q ps,H q=some (.tbl ps)->q≠T0->q≠T1->q≠T3->H' q=some (.tbl ps)
 t0:Tab H' T0 (zao zda) quL
 t1:Tab H' T1 (zao zg3) quT
 t3:Tab H' T3 (zao zdz) quH
def zsw (CB CT CW T0 T1 T3:Addr):Sp:=fun vs H Q _=>∀ CC:Prop,(∀ (w td sd:Addr) (z r:Int) (hs sil pool:List Int) (T:Int->zbp) (i g:Int),vs=[.ref w,.int i,.int g]->zaj CB CT CW H w td sd z r hs sil T->zb4 z.toNat hs T->NOk pool z.toNat r hs (fun h=>(T h).ns)->pool.length<=60->((∀ x∈pool,0<=x/\x<2 ^ z.toNat))->((∀ x∈hs,x∈pool))->i∈hs->i∉sil->0<=g->g<2 ^ z.toNat->Tab H T0 (zao zda) quL->Tab H T1 (zao zg3) quT->Tab H T3 (zao zdz) quH->(∀ (t rl fl:Addr) (rest:List Int) (Lr:Int->Addr) (H':Hp) (T':Int->zbp),Row (fun h=>zaq z r hs sil (fun h=>(T h).ns) g h i) i g r.toNat (i :: rest)->zcy (fun h=>zaq z r hs sil (fun h=>(T h).ns) g h i) i g r.toNat (i :: rest)=none->zaj CB CT CW H' w td sd z r hs sil T'->zb4 z.toNat hs T'->(fun h=>(T' h).ns)=zcr r (awB hs sil) (fun h=>zaq z r hs sil (fun h=>(T h).ns) g h i) (fun h=>(T h).ns) i rest->z0j T0 T1 T3 H H' (Own td sd z.toNat hs T) (Own td sd z.toNat hs T')->H' t=some (.tup [.ref rl,.ref fl])->zel H' rl (i :: rest) (fun h=>zaq z r hs sil (fun h=>(T h).ns) g h i) Lr->(∀ m∈i :: rest,∀ ns,zaq z r hs sil (fun h=>(T h).ns) g m i=some ns->H (Lr m)=none/\Lr m≠rl/\H' (Lr m)=some (.lst (ns.map V.int))/\¬ Own td sd z.toNat hs T' (Lr m))->H rl=none->H fl=none->fl≠rl->¬ Own td sd z.toNat hs T' fl->H' fl=some (.lst ((zb6 (fun h=>zaq z r hs sil (fun h=>(T h).ns) g h i) i g r.toNat (i :: rest)).map V.int))->Q (.ref t) H')->CC)->CC
theorem zjl:zam ["self","start","goal","answer"] ["self","start","goal"] (zai (zaf (top 25) 9)):=fS
theorem zgm (Z:ZZ P w K mg base):zb2 Z 12 Z.ct (zsw Z.ba.C Z.bb.C Z.bc.C Z.bk.P Z.cs.P Z.b6.P):=by
 have bg:=Z.bc.cl
 obtain ⟨bi,bl,bp,bo,-⟩:=Z.bc.na
 have GA:∀ f fd,RT f fd->zdm P w K mg base CX0 8 f fd ["house","goal","asker"] (spT Z.ba.C Z.bb.C Z.bc.C Z.bk.P f fd):=fun f fd _=>zx4 Z
 have bA:∀ f fd,RT f fd->zcq K fd ["house","goal","asker"] []:=fun f fd h=>zzu h
 have a3:=zd7 (CB:=Z.ba.C) (CT:=Z.bb.C) Z
 have a6:=zbw (CB:=Z.ba.C) (CT:=Z.bb.C) Z
 have az:=zkr Z Z.cs Z.dg
 have a8:=zti Z GA bA z0y
 have a1:=zkj Z
 refine Z.ct.fn.ok zjl (by kd_p) (fun cdv A outer s H vs Q E hr aw=>?_)
 refine aw _ fun w td sd z r hs sil pool TT i g aq hW hA hO ah ab u hi be hg bm a5 aj a0 k=>?_
 subst aq
 obtain ⟨dx,bh⟩:=hW.ob
 have bq:=hW.r1
 have an:=hW.r2
 have ap:zp_ z hs (fun h=>(TT h).ns):=fun h hh=>⟨je (hO.len hh z.toNat) (by omega),fun y hy=>by
  obtain ⟨kk,_,hm⟩:=zc7.mp hy
  exact (ab y (hO.st h hh kk y hm).1).1⟩
 refine ⟨_,(zac (zas (pmD (pv 0) Z.bc.cl Z.bz a6 hr (zaa (pv 1) zag)))
  (zac (zas (pmD (pv 0) Z.bc.cl Z.bw a3 hr (zaa (pv 2) zag)))
  (zac (zaw (i:=3) zjl.nd rfl oL (pfD Z.co a8 hr rfl (zaa (pv 1) (zaa (pv 2) (zaa (za0 (pv 0) rfl) (zaa (zcm (pv 0) Z.bc.cl Z.cs.me az hr.mm Z.cs.b .nil zcb) zag))))))
  (zac (zas (pmD (pv 0) Z.bc.cl Z.cr a1 hr (zaa (pv 1) (zaa (zey zj5 (pv 3) zal (fun _ _=>rfl)) zag))))
  (zah (zat (pv 3))))))),?_⟩
 kt_k
 intro f fd fo k0 H1 aa j hf hR ao ar hF
 have kp:∀ q o,(∀ ps,o≠ .tbl ps)->H q=some o->H1 q=some o:=fun q o ho e=>aa q o (fun y=>by
  obtain ⟨ps,hP,_⟩:=aj
  rw [y,hP] at e
  cases e
  exact ho _ rfl) e
 have v:Tab H1 Z.bk.P (zao zda) quL:=Tab.hold a5 fun q o h e=>aa q o (fun y=>by
  rcases h with ⟨x,k,rfl⟩ | h
  ·obtain ⟨ps,hP,_⟩:=aj
   rw [y,hP] at e
   cases e
  ·exact Z.dh (h.symm.trans y)) e
 have W1:=hW.keep kp
 have ae:(zaq z r hs sil (fun h=>(TT h).ns) g i i).isSome=true:=by
  rw [zhr]
  unfold awB
  rw [decide_eq_true hi,decide_eq_false be]
  rfl
 have free:∀ {q:Addr},H1 q=none->H q=none:=fun {q} e=>by
  cases eq:H q with
  | none=>rfl
  | some o =>
   by_cases y:q=Z.cs.P
   ·obtain ⟨ps,hP,_⟩:=j
    rw [y,hP] at e
    cases e
   ·rw [aa q o y eq] at e
    cases e
 have K1:Kx Z.bk.P Z.cs.P H H1:=⟨kp,v,j,fun q ps e _ y=>aa q _ y e,fun q e=>free e⟩
 have n:zj6 pool (fun h=>zaq z r hs sil (fun h=>(TT h).ns) g h i):=zc4 hO an ah fun x hx=>(ab x hx).1
 have al:0<=r:=by omega
 refine ⟨i,g,r,f,fd,hs,pool,_,_,rfl,zza ap ar hg,⟨W1,v,ao,hF⟩,hR,n,u i hi,ae,hg,al,fun t rl fl R Lr H2 l a2 N2 ht ay av ag ad ai ac=>?_⟩
 have K2:Kx Z.bk.P Z.cs.P H H2:=K1.trans (Kx.nx Z.dh v j N2.nx)
 have W2:=hW.keep K2.k
 have t3:=K2.tab a0 Z.di.symm Z.dj.symm
 obtain ⟨d,rfl⟩:∃ d,R=i :: d:=by
  have:=l.head
  cases R with
  | nil=>cases this
  | cons a b =>
   cases this
   exact ⟨b,rfl⟩
 obtain ⟨af,a4⟩:=l.ok n (u i hi)
 obtain ⟨am,ax⟩:=ir.mp a4
 have a7:d.length<=60:=gy (zmr ax fun x hx=>af x (gc _ hx)) ah
 have bd:∀ h∈d,h∈pool/\h≠i/\0<=h/\h<2 ^ z.toNat/\((zaq z r hs sil (fun h=>(TT h).ns) g h i).isSome=true->h∈hs):=fun h hh=>by
  have hp:=af h (gc _ hh)
  refine ⟨hp,fun e=>am (e ▸ hh),(ab h hp).1,(ab h hp).2,fun e=>?_⟩
  rw [zhr] at e
  exact (zjt e).1
 have bj:=u i hi
 obtain ⟨bn,bf⟩:=W2.ob
 have a9:¬ Own td sd z.toNat hs TT rl:=hW.notOwn (free ag)
 kt_k
 intro H3 T3 W3 A3 e3 d3 au
 have kt:=zsz.deed W2 d3
 have no:∀ {q:Addr} {o:HO},H q=none->H2 q=some o->¬ Own td sd z.toNat hs T3 q:=fun {q o} e e2 y=>by
  rcases d3.o q y with y | y
  ·exact hW.notOwn e y
  ·rw [e2] at y
   cases y
 kt_k
 refine k t rl fl d Lr H3 T3 l a2 W3 A3 e3 ⟨fun q o ho e hn=>d3.k q o ho (K2.k q o ho e) hn,fun q y=>(d3.o q y).imp id (K2.e q),fun q e=>K2.e q (d3.e q e),fun q ps e y0 y1 y3=>d3.t q ps (K2.b q ps e y0 y1) y3,kt _ _ _ Z.di K2.t0,kt _ _ _ Z.dj K2.t1,au⟩ (d3.k _ _ (fun _ z=>nomatch z) ht (W2.tupN ht)) ?_ (fun m hm ns e=>?_) (free ag) (free ad) ai (no (free ad) ac) (d3.k _ _ (fun _ z=>nomatch z) ac (hW.notOwn (free ad)))
 ·obtain ⟨ps,u,ak⟩:=ay.ex
  exact ⟨ps,d3.k _ _ (fun _ z=>nomatch z) u a9,ak.mp fun p h e=>d3.k _ _ (fun _ z=>nomatch z) e (W2.tupN e)⟩
 ·obtain ⟨a,b,c⟩:=av m hm ns e
  exact ⟨free a,b,d3.k _ _ (fun _ z=>nomatch z) c (hW.notOwn (free a)),no (free a) c⟩
theorem zm4 {tl:Int->Option (List Int)}{st g:Int}{rm:Nat}{R:List Int}(e:zcy tl st g rm R=none):∀ n∈zb6 tl st g rm R,n∈R/\(tl n).isSome=true:=fun n hn=>by
 have h1:=List.find?_eq_none.mp e n hn
 unfold zu4 at h1
 have hR:n∈R:=by simpa using h1
 refine ⟨hR,?_⟩
 have h2:=(zhz n hn).2
 unfold flR zi6 at h2
 simp only [js,decide_eq_false_iff_not,gz,not_and,Bool.not_eq_false'] at h2
 have h3:=h2 hR
 cases e2:tl n with
 | none=>simp [e2] at h3
 | some x=>rfl
theorem zmw {z r:Int}{hs sil:List Int}{N:Int->Nat->List Int}{g i a:Int}(h:(zaq z r hs sil N g i a).isSome=true):i∈hs/\i∉sil:=by
 rw [zhr] at h
 exact zjt h
def Om (td sd:Addr)(z:Nat)(hs:List Int)(T:Int->zbp)(gd:Addr)(ks:List Int)(ad:Int->Addr)(q:Addr):Prop:=Own td sd z hs T q\/Ng gd ks ad q
structure Mq (T0 T1 T3 T4:Addr)(H H':Hp)(O O':Addr->Prop):Prop where
 k:∀ q o,(∀ ps,o≠ .tbl ps)->H q=some o->¬ O q->H' q=some o
 o:∀ q,O' q->O q\/H q=none
 e:∀ q,H' q=none->H q=none
 t0:Tab H' T0 (zao zda) quL
 t1:Tab H' T1 (zao zg3) quT
 t3:Tab H' T3 (zao zdz) quH
 t4:Tab H' T4 (zao zgq) quN
theorem Mq.trans {T0 T1 T3 T4:Addr}{H H1 H2:Hp}{O O1 O2:Addr->Prop}(a:Mq T0 T1 T3 T4 H H1 O O1)(b:Mq T0 T1 T3 T4 H1 H2 O1 O2):Mq T0 T1 T3 T4 H H2 O O2:=by
 refine ⟨fun q o ho e hn=>b.k q o ho (a.k q o ho e hn) fun z=>?_,fun q z=>?_,fun q h=>a.e q (b.e q h),b.t0,b.t1,b.t3,b.t4⟩
 ·rcases a.o q z with y | y
  ·exact hn y
  ·rw [e] at y
   cases y
 ·rcases b.o q z with y | y
  ·exact a.o q y
  ·exact .inr (a.e q y)
theorem Mq.same {T0 T1 T3 T4:Addr}{H H1 H2:Hp}{O O1:Addr->Prop}(a:Mq T0 T1 T3 T4 H H1 O O1)(s:zax H1 H2):Mq T0 T1 T3 T4 H H2 O O1:=⟨fun q o ho e hn=>s _ _ (a.k q o ho e hn),a.o,fun q e=>a.e q (s.free e),(s.but _).2 _ _ a.t0,(s.but _).2 _ _ a.t1,(s.but _).2 _ _ a.t3,(s.but _).2 _ _ a.t4⟩
structure Dj (td sd gd:Addr)(ks:List Int)(ad:Int->Addr):Prop where
 t:¬ Ng gd ks ad td
 s:¬ Ng gd ks ad sd
theorem zaj.own_ng {CB CT CW w td sd gd:Addr}{H:Hp}{z r:Int}{hs sil ks:List Int}{T:Int->zbp}{ad:Int->Addr}{G:Int->List (Int × Th)}(W:zaj CB CT CW H w td sd z r hs sil T)(M:zco H gd ks ad G)(d:Dj td sd gd ks ad){q:Addr}(h:Ng gd ks ad q):¬ Own td sd z.toNat hs T q:=fun y=>by
 obtain ⟨x,e⟩:=M.bounds h
 rcases y with y | y | ⟨g,hg,y | ⟨j,hj,y | y⟩⟩
 ·exact d.t (y ▸ h)
 ·exact d.s (y ▸ h)
 ·rw [y,(W.ta g hg).li] at e
  cases e
 ·obtain ⟨⟨d1,e1⟩,_⟩:=(W.ta g hg).bk j hj
  rw [y,e1] at e
  cases e
 ·rw [y,((W.ta g hg).bk j hj).li] at e
  cases e
theorem zaj.things {CB CT CW w td sd gd:Addr}{H H':Hp}{z r:Int}{hs sil ks:List Int}{T:Int->zbp}{ad:Int->Addr}{G:Int->List (Int × Th)}(W:zaj CB CT CW H w td sd z r hs sil T)(M:zco H gd ks ad G)(d:Dj td sd gd ks ad)(k:∀ q o,(∀ ps,o≠ .tbl ps)->H q=some o->¬ Ng gd ks ad q->H' q=some o):zaj CB CT CW H' w td sd z r hs sil T:=by
 obtain ⟨⟨dx,h1⟩,h2,h3,h4,h5,h6,h7,h8,h9,c,b,a⟩:=W
 have nd:∀ {q:Addr} {o:HO},H q=some o->(∀ x,o≠ .dK x)->¬ Ng gd ks ad q:=fun {q o} e ho y=>by
  obtain ⟨x,e2⟩:=M.bounds y
  rw [e2] at e
  exact ho x (Option.some.inj e).symm
 refine ⟨⟨dx,k _ _ (fun _ z=>nomatch z) h1 (nd h1 fun _ z=>nomatch z)⟩,k _ _ (fun _ z=>nomatch z) h2 d.t,k _ _ (fun _ z=>nomatch z) h3 d.s,fun h hh=>(h4 h hh).keepD fun q o ho hd e=>k q o ho e (nd e hd),h5,h6,h7,h8,h9,c,b,a⟩
def zb0 (l:List (Int × Th))(hs:List Int)(t:Th):List (Int × Th):=hs.foldl (fun l h=>zgf l h t) l
theorem zo4 {l:List (Int × Th)}{hs:List Int}{h:Int}{t:Th}:zb0 l (hs++[h]) t=zgf (zb0 l hs t) h t:=by
 unfold zb0
 rw [List.foldl_append]
 rfl
theorem zlw {t:Th}:∀ {hs:List Int} {l:List (Int × Th)},(zb0 l hs t).length<=l.length+hs.length
 | [],l=>gv _
 | h :: r,l=>by
  have a:=zlw (t:=t) (hs:=r) (l:=zgf l h t)
  have b:=zp6 (l:=l) (h:=h) (t:=t)
  show (zb0 (zgf l h t) r t).length<=_
  rw [ic]
  omega
theorem zgi {t:Th}{g:Int}:∀ {hs:List Int} {l:List (Int × Th)},zby (zb0 l hs t) g=if g∈hs then some t else zby l g
 | [],l=>by
  rw [if_neg (fun z=>nomatch z)]
  rfl
 | h :: r,l=>by
  show zby (zb0 (zgf l h t) r t) g=_
  rw [zgi,zp3]
  by_cases a:g∈r
  ·rw [if_pos a,if_pos (gc _ a)]
  ·rw [if_neg a]
   by_cases b:g=h
   ·rw [if_pos b,if_pos (by rw [b]; exact gj ..)]
   ·rw [if_neg b,if_neg (fun y=>(gx.mp y).elim b a)]
theorem zro {k:Int}{ks:List Int}:zc5 k (zc5 k ks)=zc5 k ks:=by
 unfold zc5
 by_cases h:k∈ks
 ·simp [h]
 ·simp [h]
theorem zaj.wN {CB CT CW w td sd:Addr}{H:Hp}{z r:Int}{hs sil:List Int}{T:Int->zbp}(W:zaj CB CT CW H w td sd z r hs sil T):¬ Own td sd z.toNat hs T w:=fun y=>by
 obtain ⟨dx,e⟩:=W.ob
 rcases y with y | y | ⟨g,hg,y | ⟨j,hj,y | y⟩⟩
 ·rw [y,W.tb] at e
  cases e
 ·rw [y,W.si] at e
  cases e
 ·rw [y,(W.ta g hg).li] at e
  cases e
 ·obtain ⟨⟨d1,e1⟩,_⟩:=(W.ta g hg).bk j hj
  exact zoq e e1 (by simp [wF,bF]) y
 ·rw [y,((W.ta g hg).bk j hj).li] at e
  cases e
theorem zco.asked {CB CT CW w td sd gd T0 T1 T3:Addr}{H H':Hp}{z r:Int}{hs sil ks:List Int}{T:Int->zbp}{ad:Int->Addr}{G:Int->List (Int × Th)}{O':Addr->Prop}(M:zco H gd ks ad G)(W:zaj CB CT CW H w td sd z r hs sil T)(d:Dj td sd gd ks ad)(a:z0j T0 T1 T3 H H' (Own td sd z.toNat hs T) O'):zco H' gd ks ad G :=
 ⟨a.k _ _ (fun _ z=>nomatch z) M.tg (W.own_ng M d (.inl rfl)),fun k hk=>a.k _ _ (fun _ z=>nomatch z) (M.it k hk) (W.own_ng M d (.inr ⟨k,hk,rfl⟩)),fun k hk e he=>a.k _ _ (fun _ z=>nomatch z) (M.tu k hk e he) (W.tupN (M.tu k hk e he)),M.nk,M.ni,M.ne,M.go⟩
theorem Mq.asked {CB CT CW w td sd gd T0 T1 T3 T4:Addr}{H H':Hp}{z r:Int}{hs sil ks:List Int}{T T':Int->zbp}{ad:Int->Addr}(W:zaj CB CT CW H w td sd z r hs sil T)(n0:T0≠T4)(n1:T1≠T4)(n3:T3≠T4)(t4:Tab H T4 (zao zgq) quN)(a:z0j T0 T1 T3 H H' (Own td sd z.toNat hs T) (Own td sd z.toNat hs T')):Mq T0 T1 T3 T4 H H' (Om td sd z.toNat hs T gd ks ad) (Om td sd z.toNat hs T' gd ks ad):=by
 refine ⟨fun q o ho e hn=>a.k q o ho e fun y=>hn (.inl y),fun q y=>?_,a.e,a.t0,a.t1,a.t3,Tab.hold t4 fun q o ho e=>?_⟩
 ·rcases y with y | y
  ·exact (a.o q y).imp .inl id
  ·exact .inl (.inr y)
 ·rcases ho with ⟨x,k,rfl⟩ | rfl
  ·exact a.k q _ (fun _ z=>nomatch z) e (W.kind e)
  ·obtain ⟨ps,hP⟩:=za1 t4
   rw [hP] at e
   cases e
   exact a.t _ _ hP n0.symm n1.symm n3.symm
theorem Mq.nx {T0 T1 T3 T4:Addr}{H H1 H2:Hp}{O O1:Addr->Prop}(a:Mq T0 T1 T3 T4 H H1 O O1)(n1:T0≠T1)(n3:T0≠T3)(n4:T0≠T4)(b:∀ b o,b≠T0->H1 b=some o->H2 b=some o)(t:Tab H2 T0 (zao zda) quL):Mq T0 T1 T3 T4 H H2 O O1:=⟨fun q o ho e hn=>b _ _ (fun y=>by
 obtain ⟨ps,hp⟩:=za1 a.t0
 have e1:=a.k q o ho e hn
 rw [y,hp] at e1
 exact ho ps (Option.some.inj e1).symm) (a.k q o ho e hn),a.o,fun q e=>a.e q (zhc (za1 t) b q e),t,Tab.past a.t1 n1.symm (za1 a.t0) b,Tab.past a.t3 n3.symm (za1 a.t0) b,Tab.past a.t4 n4.symm (za1 a.t0) b⟩
theorem Mq.put {td sd gd T0 T1 T3 T4:Addr}{H H1 H2:Hp}{O:Addr->Prop}{z:Nat}{hs ks ks':List Int}{T:Int->zbp}{ad ad':Int->Addr}{G:Int->List (Int × Th)}(a:Mq T0 T1 T3 T4 H H1 O (Om td sd z hs T gd ks ad))(M:zco H1 gd ks ad G)(d:∀ T1,zd1 T1 H1 H2 (Ng gd ks ad) (Ng gd ks' ad')):Mq T0 T1 T3 T4 H H2 O (Om td sd z hs T gd ks' ad'):=by
 have hO:∀ q,Ng gd ks ad q->∃ x,H1 q=some (.dK x):=fun q y=>M.bounds y
 refine a.trans ⟨fun q o ho e hn=>(d 0).k q o ho e fun y=>hn (.inr y),fun q y=>?_,(d 0).e,Tab.deed a.t0 d hO,Tab.deed a.t1 d hO,Tab.deed a.t3 d hO,Tab.deed a.t4 d hO⟩
 rcases y with y | y
 ·exact .inl (.inl y)
 ·exact ((d 0).o q y).imp .inr id
theorem zaj.count {CB CT CW w td sd:Addr}{H H':Hp}{z r:Int}{hs sil:List Int}{T:Int->zbp}{d:Addr × Addr × Int}(W:zaj CB CT CW H w td sd z r hs sil T)(e:H' w=some (.ins CW d.1 (wF z r td sd d)))(k:∀ q o,q≠w->H q=some o->H' q=some o):zaj CB CT CW H' w td sd z r hs sil T:=by
 obtain ⟨⟨dx,h1⟩,h2,h3,h4,h5,h6,h7,h8,h9,i,f,c⟩:=W
 refine ⟨⟨d,e⟩,k _ _ (zcv h1 h2 (by intro z; cases z)).symm h2,k _ _ (zcv h1 h3 (by intro z; cases z)).symm h3,fun h hh=>?_,h5,h6,h7,h8,h9,i,f,c⟩
 have hT:=h4 h hh
 obtain ⟨dg,g⟩:=hT.ob
 refine hT.only (fun o eo=>?_) (fun o eo=>?_) (fun j hj o eo=>?_) (fun j hj o eo=>?_)
 ·have e1:=g.symm.trans eo
  cases e1
  exact k _ _ (zoq eo h1 (by simp [tF,wF])) eo
 ·have e1:=hT.li.symm.trans eo
  cases e1
  exact k _ _ (zcv eo h1 (by intro z; cases z)) eo
 ·obtain ⟨⟨dj,a⟩,b⟩:=hT.bk j hj
  have e1:=a.symm.trans eo
  cases e1
  exact k _ _ (zoq eo h1 (by simp [bF,wF])) eo
 ·obtain ⟨⟨dj,a⟩,b⟩:=hT.bk j hj
  have e1:=b.symm.trans eo
  cases e1
  exact k _ _ (zcv eo h1 (by intro z; cases z)) eo
theorem Tab.count {H H':Hp}{w C dx:Addr}{fs:List (Str × V)}{Ti:Addr}{po:Pos}{qu:Str}(t:Tab H Ti po qu)(hw:H w=some (.ins C dx fs))(k:∀ q o,q≠w->H q=some o->H' q=some o):Tab H' Ti po qu:=Tab.hold t fun q o ho e=>k q o (fun y=>by
 rcases ho with ⟨x,kk,rfl⟩ | y2
 ·rw [y,hw] at e
  cases e
 ·obtain ⟨ps,hp⟩:=za1 t
  rw [<- y2,y,hw] at hp
  cases hp) e
theorem zc9:zam ["self","start","key","thing","found","keepers","house"] ["self","start","key","thing"] (zai (zaf (top 27) 5)):=fS
def zxt (CB CT CW T0 T1 T3 T4:Addr):Sp:=fun vs H Q _=>∀ CC:Prop,(∀ (w td sd:Addr) (z r:Int) (hs sil pool:List Int) (T:Int->zbp) (i g:Int) (dx:Addr × Addr × Int) (ks:List Int) (ad:Int->Addr) (G:Int->List (Int × Th)) (t:Th),vs=[.ref w,.int i,.int g,.ref t.a]->zaj CB CT CW H w td sd z r hs sil T->zb4 z.toNat hs T->NOk pool z.toNat r hs (fun h=>(T h).ns)->pool.length<=60->((∀ x∈pool,0<=x/\x<2 ^ z.toNat))->((∀ x∈hs,x∈pool))->i∈hs->i∉sil->0<=g->g<2 ^ z.toNat->Tab H T0 (zao zda) quL->Tab H T1 (zao zg3) quT->Tab H T3 (zao zdz) quH->Tab H T4 (zao zgq) quN->H w=some (.ins CW dx.1 (wF z r td sd dx))->zco H dx.2.1 ks ad G->Dj td sd dx.2.1 ks ad->H t.a=some (.tup [.int g,.int t.n,.str t.s])->ks.length<=800->(G g).length<=800->(∀ (l:Addr) (rest kp:List Int) (H':Hp) (T':Int->zbp) (ad':Int->Addr),Row (fun h=>zaq z r hs sil (fun h=>(T h).ns) g h i) i g r.toNat (i :: rest)->zcy (fun h=>zaq z r hs sil (fun h=>(T h).ns) g h i) i g r.toNat (i :: rest)=none->zaj CB CT CW H' w td sd z r hs sil T'->zb4 z.toNat hs T'->(fun h=>(T' h).ns)=zcr r (awB hs sil) (fun h=>zaq z r hs sil (fun h=>(T h).ns) g h i) (fun h=>(T h).ns) i rest->kp=(za3 g (zb6 (fun h=>zaq z r hs sil (fun h=>(T h).ns) g h i) i g r.toNat (i :: rest)++[i])).take r.toNat->H' w=some (.ins CW dx.1 (wF z r td sd dx))->zco H' dx.2.1 (zc5 g ks) ad' (zdh G g (zb0 (G g) kp t))->Dj td sd dx.2.1 (zc5 g ks) ad'->Mq T0 T1 T3 T4 H H' (Om td sd z.toNat hs T dx.2.1 ks ad) (Om td sd z.toNat hs T' dx.2.1 (zc5 g ks) ad')->H l=none->¬ Om td sd z.toNat hs T' dx.2.1 (zc5 g ks) ad' l->H' l=some (.lst (kp.map V.int))->Q (.ref l) H')->CC)->CC
theorem zk1 (Z:ZZ P w K mg base){kA:Nat}{CB CT T1 T3 T4:Addr}(zbe:zdm P w K mg base CX0 kA Z.ct.f Z.ct.fd ["self","start","goal"] (zsw CB CT Z.bc.C Z.bk.P T1 T3))(hkA:kA<=15)(n01:Z.bk.P≠T1)(n03:Z.bk.P≠T3)(n04:Z.bk.P≠T4)(n14:T1≠T4)(n34:T3≠T4):zb2 Z 16 Z.cu (zxt CB CT Z.bc.C Z.bk.P T1 T3 T4):=by
 have b1:=Z.bc.cl
 obtain ⟨b5,bt,cb,b9,b7,bv,-⟩:=Z.bc.na
 have zbe:=zbe.mono hkA
 have a5:=zv5 Z
 have bg:=zf7 Z
 refine Z.cu.fn.ok zc9 (by kd_p) (fun cdv A outer s H vs Q E hr bf=>?_)
 refine bf _ fun w td sd z r hs sil pool TT i g dx ks ad G t bb hW hA hO b6 bl a7 hi cf ca b2 bw cc bu bh be M dj ht br b3 k=>?_
 subst bb
 have ce:=hW.r1
 refine ⟨_,(zac (zaw (i:=4) zc9.nd rfl oL (zey zj5 (pmD (pv 0) Z.bc.cl Z.ct zbe hr (zaa (pv 1) (zaa (pv 2) zag))) zal (fun _ _=>rfl)))
  (zac (zaw (i:=5) zc9.nd rfl oL (zdo zev (zh0 a5 hr.mm rfl Z.bk.hm Z.bk.kp Z.bk.b .nil zcb (zaa (pv 2) (zaa (za4 zj0 (pv 4) (zce (zaa (pv 1) zag))) zag))) zgl (zdx (za0 (pv 0) rfl))))
  (zac (zd5 PassesOwn.never rfl (zbr (pv 5)) (zaz (i:=6) zc9.nd rfl oL)
   (zah (zas (pmD (pv 0) Z.bc.cl Z.ch bg hr (zaa (pv 6) (zaa (pv 2) (zaa (pv 3) zag)))))))
  (zah (zat (pv 5)))))),?_⟩
 kt_k
 intro t1 rl fl ag Lr H1 aa ap ae W1 A1 e1 d1 bn _ _ _ _ _ _ aj
 have M1:=M.asked hW dj d1
 have q1:=Mq.asked (gd:=dx.2.1) (ks:=ks) (ad:=ad) hW n04 n14 n34 bh d1
 have a3:H1 w=some (.ins Z.bc.C dx.1 (wF z r td sd dx)):=d1.k _ _ (fun _ z=>nomatch z) be hW.wN
 have bi:H1 t.a=some (.tup [.int g,.int t.n,.str t.s]):=d1.k _ _ (fun _ z=>nomatch z) ht (hW.tupN ht)
 have ar:=zm4 ae
 have av:(zb6 (fun h=>zaq z r hs sil (fun h=>(TT h).ns) g h i) i g r.toNat (i :: ag)).length<=8:=by
  unfold zb6
  rw [i5]
  have:=hW.r2
  omega
 obtain ⟨c,hF⟩:∃ f,f=zb6 (fun h=>zaq z r hs sil (fun h=>(TT h).ns) g h i) i g r.toNat (i :: ag):=⟨_,rfl⟩
 rw [<- hF] at aj ar av
 kt_k
 intro l1 a9
 generalize ay:upd H1 l1 _=H2
 obtain ⟨s2,e2⟩:=nw a9 ay
 clear ay
 have bq:=s2 _ _ aj
 have hsz:(c.map V.int).length+[V.int i].length<=sizeLine:=by
  rw [gf]
  exact ie (zar (by simp only [gq]; omega))
 kt_k
 intro l2 bd
 rw [<- zfu]
 generalize aw:upd H2 l2 _=H3
 obtain ⟨s3,e3⟩:=nw bd aw
 clear aw
 have af:=s2.trans s3
 have q3:=q1.same af
 have W3:zaj CB CT Z.bc.C H3 w td sd z r hs sil aa:=W1.keep fun q o _ e=>af _ _ e
 have M3:=M1.same af
 have a2:=af _ _ a3
 have a6:=af _ _ bi
 have bp:SqL K H3 l2 ((c++[i]).map V.int):=SqL.of e3
 have ax:∀ n∈c++[i],n∈hs:=fun n hn=>(gm.mp hn).elim (fun y=>(zmw (ar n y).2).1) fun y=>gb.mp y ▸ hi
 have cpos:∀ n∈c++[i],0<=n:=fun n hn=>(bl n (a7 n (ax n hn))).1
 have bo:(c++[i]).length<64:=by
  rw [gl,gq]
  omega
 have au:=q3.t0
 kt_k
 intro nl H4 b4 t4 b0 e4
 have q4:=q3.nx n01 n03 n04 b4 t4
 have p:∀ q o,(∀ ps,o≠ .tbl ps)->H3 q=some o->H4 q=some o:=fun q o ho e=>b4 q o (fun y=>by
  obtain ⟨ps,hp⟩:=za1 au
  rw [y,hp] at e
  exact ho ps (Option.some.inj e).symm) e
 have W4:zaj CB CT Z.bc.C H4 w td sd z r hs sil aa:=W3.keep p
 have M4:zco H4 dx.2.1 ks ad G:=⟨p _ _ (fun _ z=>nomatch z) M3.tg,fun k hk=>p _ _ (fun _ z=>nomatch z) (M3.it k hk),fun k hk e he=>p _ _ (fun _ z=>nomatch z) (M3.tu k hk e he),M3.nk,M3.ni,M3.ne,M3.go⟩
 have am:H4 w=some (.ins Z.bc.C dx.1 (wF z r td sd dx)):=p _ _ (fun _ z=>nomatch z) a2
 have ba:H4 t.a=some (.tup [.int g,.int t.n,.str t.s]):=p _ _ (fun _ z=>nomatch z) a6
 kt_k
 intro kl ak
 rw [zi1 _ (by omega)]
 obtain ⟨kp,ah⟩:∃ kp,kp=(za3 g (c++[i])).take r.toNat:=⟨_,rfl⟩
 rw [<- ah]
 generalize a0:upd H4 kl _=H5
 obtain ⟨s5,e5⟩:=nw ak a0
 clear a0
 have q5:=q4.same s5
 have W5:zaj CB CT Z.bc.C H5 w td sd z r hs sil aa:=W4.keep fun q o _ e=>s5 _ _ e
 have M5:=M4.same s5
 have ao:=s5 _ _ am
 have bm:=s5 _ _ ba
 have bj:=W4.notOwn ak
 have a1:=q4.e kl ak
 have bz:kp.length<=9:=by
  rw [ah,i5]
  have:=hW.r2
  omega
 have a8:kp≠[]:=fun y=>by
  have h1:(za3 g (c++[i])).length≠0:=fun y=>by
   have:=za2 (g:=g) (ns:=c++[i]) (x:=i)
   rw [j9.mp y] at this
   cases this.mpr (g7 _ (gb.mpr rfl))
  have h2:=congrArg l9 ah
  rw [y,i5,jl] at h2
  omega
 kt_k
 refine zcn (K:=K) (a:=kl) (xs:=kp.map V.int) (fun j σ H6=>zis (∃ (v:Option V) (m:List Int) (u:Int->Addr),σ=[some (.ref w),some (.int i),some (.int g),some (.ref t.a),some (.ref fl),some (.ref kl),v]/\(j=0->m=ks)/\(j≠0->m=zc5 g ks)/\zco H6 dx.2.1 m u (zdh G g (zb0 (G g) (kp.take j) t))/\Dj td sd dx.2.1 m u/\zaj CB CT Z.bc.C H6 w td sd z r hs sil aa/\Mq Z.bk.P T1 T3 T4 H H6 (Om td sd z.toNat hs TT dx.2.1 ks ad) (Om td sd z.toNat hs aa dx.2.1 m u)/\H6 w=some (.ins Z.bc.C dx.1 (wF z r td sd dx))/\H6 t.a=some (.tup [.int g,.int t.n,.str t.s])/\H6 kl=some (.lst (kp.map V.int)))) ?_ (fun j σ H6 _ ⟨_,_,_,_,_,_,_,_,_,_,_,_,e6⟩=>SqL.of e6) ?_ ?_
 ·refine ⟨⟨_,ks,ad,rfl,fun _=>rfl,fun y=>absurd rfl y,?_,dj,W5,q5,ao,bm,e5⟩⟩
  have e:zdh G g (zb0 (G g) (kp.take 0) t)=G:=by
   funext k
   by_cases e:k=g
   ·rw [e,zak]
    rfl
   ·rw [zap e]
  rw [e]
  exact M5
 ·rintro j y σ H6 hj ⟨v,m,u,rfl,al,ai,M6,ab,W6,q6,ac,az,e6⟩
  obtain ⟨x,hx,rfl⟩:∃ x,kp[j]? = some x/\y=V.int x:=by
   rw [List.getElem?_map] at hj
   cases e:kp[j]? with
   | none=>rw [e] at hj; cases hj
   | some x=>rw [e] at hj; exact ⟨x,rfl,(Option.some.inj hj).symm⟩
  have ea:zc5 g m=zc5 g ks:=by
   by_cases y:j=0
   ·rw [al y]
   ·rw [ai y,zro]
  have b8:m.length<=900:=by
   have:(zc5 g ks).length<=ks.length+1:=by
    unfold zc5
    split
    ·omega
    ·rw [gl,gq]
     omega
   by_cases y:j=0
   ·rw [al y]
    omega
   ·rw [ai y]
    omega
  have cd:(zdh G g (zb0 (G g) (kp.take j) t) g).length<=900:=by
   rw [zak]
   have a:=zlw (t:=t) (hs:=kp.take j) (l:=G g)
   have b:(kp.take j).length<=kp.length:=by rw [i5]; omega
   omega
  kt_k
  intro H7 aq M7 d7 _
  have W7:=W6.things M6 ab (d7 0).k
  have an:Dj td sd dx.2.1 (zc5 g m) aq:=by
   refine ⟨fun y=>?_,fun y=>?_⟩
   ·rcases (d7 0).o _ y with z | z
    ·exact ab.t z
    ·rw [W6.tb] at z
     cases z
   ·rcases (d7 0).o _ y with z | z
    ·exact ab.s z
    ·rw [W6.si] at z
     cases z
  have nd:∀ {q:Addr} {o:HO},H6 q=some o->(∀ ps,o≠ .tbl ps)->(∀ d,o≠ .dK d)->H7 q=some o:=fun {q o} e h1 h2=>(d7 0).k q o h1 e fun y=>by
   obtain ⟨x,e2⟩:=M6.bounds y
   rw [e2] at e
   exact h2 x (Option.some.inj e).symm
  have q7:=q6.put M6 d7
  rw [ea] at M7 an q7
  refine ⟨⟨_,zc5 g ks,aq,rfl,fun y=>absurd y (Nat.succ_ne_zero _),fun _=>rfl,?_,an,W7,q7,nd ac (fun _ z=>nomatch z) (fun _ z=>nomatch z),nd az (fun _ z=>nomatch z) (fun _ z=>nomatch z),nd e6 (fun _ z=>nomatch z) (fun _ z=>nomatch z)⟩⟩
  have e:zdh G g (zb0 (G g) (kp.take (j+1)) t)=zdh (zdh G g (zb0 (G g) (kp.take j) t)) g (zgf (zdh G g (zb0 (G g) (kp.take j) t) g) x t):=by
   funext k
   by_cases e:k=g
   ·rw [e,zak,zak,zak,zb9 hx,zo4]
   ·rw [zap e,zap e,zap e]
  rw [e]
  exact M7
 ·rintro σ H6 ⟨v,m,u,rfl,al,ai,M6,ab,W6,q6,ac,az,e6⟩
  have a4:(kp.map V.int).length≠0:=fun y=>a8 (j9.mp (by rw [gf] at y; exact y))
  have ek:=ai a4
  subst ek
  rw [gf,i6] at M6
  kt_k
  refine k kl ag kp H6 aa u ap ae W6 A1 e1 (by rw [ah,hF]) ac M6 ab q6 a1 (fun y=>?_) e6
  rcases y with y | y
  ·exact bj y
  ·obtain ⟨x,e2⟩:=M6.bounds y
   rw [e6] at e2
   cases e2
theorem zgw:zam ["self","start","key","text","keepers"] ["self","start","key","text"] (zai (zaf (top 27) 1)):=fS
def z3g (CB CT CW T0 T1 T3 T4:Addr):Sp:=fun vs H Q _=>∀ CC:Prop,(∀ (w td sd:Addr) (z r:Int) (hs sil pool:List Int) (T:Int->zbp) (i g:Int) (s:Str) (dx:Addr × Addr × Int) (ks:List Int) (ad:Int->Addr) (G:Int->List (Int × Th)),vs=[.ref w,.int i,.int g,.str s]->zaj CB CT CW H w td sd z r hs sil T->zb4 z.toNat hs T->NOk pool z.toNat r hs (fun h=>(T h).ns)->pool.length<=60->((∀ x∈pool,0<=x/\x<2 ^ z.toNat))->((∀ x∈hs,x∈pool))->i∈hs->i∉sil->0<=g->g<2 ^ z.toNat->Tab H T0 (zao zda) quL->Tab H T1 (zao zg3) quT->Tab H T3 (zao zdz) quH->Tab H T4 (zao zgq) quN->H w=some (.ins CW dx.1 (wF z r td sd dx))->zco H dx.2.1 ks ad G->Dj td sd dx.2.1 ks ad->ks.length<=800->(G g).length<=800->(∀ (l a:Addr) (rest kp:List Int) (H':Hp) (T':Int->zbp) (ad':Int->Addr),Row (fun h=>zaq z r hs sil (fun h=>(T h).ns) g h i) i g r.toNat (i :: rest)->zcy (fun h=>zaq z r hs sil (fun h=>(T h).ns) g h i) i g r.toNat (i :: rest)=none->zaj CB CT CW H' w td sd z r hs sil T'->zb4 z.toNat hs T'->(fun h=>(T' h).ns)=zcr r (awB hs sil) (fun h=>zaq z r hs sil (fun h=>(T h).ns) g h i) (fun h=>(T h).ns) i rest->kp=(za3 g (zb6 (fun h=>zaq z r hs sil (fun h=>(T h).ns) g h i) i g r.toNat (i :: rest)++[i])).take r.toNat->H' w=some (.ins CW dx.1 (wF z r td sd (dx.1,dx.2.1,dx.2.2+1)))->zco H' dx.2.1 (zc5 g ks) ad' (zdh G g (zb0 (G g) kp ⟨a,dx.2.2,s⟩))->Dj td sd dx.2.1 (zc5 g ks) ad'->Tab H' T0 (zao zda) quL->Tab H' T1 (zao zg3) quT->Tab H' T3 (zao zdz) quH->Tab H' T4 (zao zgq) quN->(∀ q o,(∀ ps,o≠ .tbl ps)->H q=some o->¬ Om td sd z.toNat hs T dx.2.1 ks ad q->q≠w->H' q=some o)->(∀ q,Om td sd z.toNat hs T' dx.2.1 (zc5 g ks) ad' q->Om td sd z.toNat hs T dx.2.1 ks ad q\/H q=none)->(∀ q,H' q=none->H q=none)->H l=none->¬ Om td sd z.toNat hs T' dx.2.1 (zc5 g ks) ad' l->H' l=some (.lst (kp.map V.int))->Q (.ref l) H')->CC)->CC
theorem zl2 (Z:ZZ P w K mg base){CB CT T0 T1 T3 T4:Addr}(ze6:zb2 Z 16 Z.cu (zxt CB CT Z.bc.C T0 T1 T3 T4)):zb2 Z 17 Z.cv (z3g CB CT Z.bc.C T0 T1 T3 T4):=by
 have al:=Z.bc.cl
 obtain ⟨ap,au,a0,av,ar,aw,-⟩:=Z.bc.na
 refine Z.cv.fn.ok zgw (by kd_p) (fun cdv A outer s H vs Q E hr p=>?_)
 refine p _ fun w td sd z r hs sil pool TT i g s dx ks ad G j hW hA hO aq ay az hi a1 ax am ae af aa v m M dj an ao k=>?_
 subst j
 refine ⟨_,(zac (zaw (i:=4) zgw.nd rfl oL (pmD (pv 0) Z.bc.cl Z.cu ze6 hr (zaa (pv 1) (zaa (pv 2) (zaa (zno (zaa (pv 2) (zaa (za0 (pv 0) rfl) (zaa (pv 3) zag)))) zag)))))
  (zac (zdv (pv 0) (za4 zfb (za0 (pv 0) rfl) zal) rfl)
  (zah (zat (pv 4))))),?_⟩
 kt_k
 intro a ha
 generalize h:upd H a _=H1
 obtain ⟨s1,e1⟩:=nw ha h
 clear h
 obtain ⟨t,ht⟩:∃ t:Th,t=⟨a,dx.2.2,s⟩:=⟨_,rfl⟩
 have ea:a=t.a:=by rw [ht]
 have e1:H1 t.a=some (.tup [V.int g,V.int t.n,V.str t.s]):=by rw [ht]; exact e1
 rw [ea]
 have W1:zaj CB CT Z.bc.C H1 w td sd z r hs sil TT:=hW.keep fun q o _ e=>s1 _ _ e
 have M1:=M.same s1
 have ak:=s1 _ _ m
 have ah:Tab H1 T0 (zao zda) quL:=(s1.but _).2 _ _ ae
 have ag:Tab H1 T1 (zao zg3) quT:=(s1.but _).2 _ _ af
 have aj:Tab H1 T3 (zao zdz) quH:=(s1.but _).2 _ _ aa
 have ai:Tab H1 T4 (zao zgq) quN:=(s1.but _).2 _ _ v
 kt_k
 intro l c kp H2 ac ab c1 c2 W2 A2 c3 c4 b M2 u q2 hl nl el
 kt_k
 rw [z19]
 have ew:upd H2 w (.ins Z.bc.C dx.1 (wF z r td sd (dx.1,dx.2.1,dx.2.2+1))) w=some (.ins Z.bc.C dx.1 (wF z r td sd (dx.1,dx.2.1,dx.2.2+1))):=zad
 have ek:∀ q o,q≠w->H2 q=some o->upd H2 w (.ins Z.bc.C dx.1 (wF z r td sd (dx.1,dx.2.1,dx.2.2+1))) q=some o:=fun q o y e=>by
  rw [zab y]
  exact e
 have ee:∀ q,upd H2 w (.ins Z.bc.C dx.1 (wF z r td sd (dx.1,dx.2.1,dx.2.2+1))) q=none->H2 q=none:=fun q e=>by
  by_cases y:q=w
  ·rw [y,zad] at e
   cases e
  ·rw [zab y] at e
   exact e
 generalize upd H2 w (.ins Z.bc.C dx.1 (wF z r td sd (dx.1,dx.2.1,dx.2.2+1)))=H3 at ew ek ee |-
 have nw:∀ {q:Addr} {o:HO},H2 q=some o->(∀ C d f,o≠ .ins C d f)->H3 q=some o:=fun {q o} e ho=>ek q o (fun y=>by
  rw [y,b] at e
  exact ho _ _ _ (Option.some.inj e).symm) e
 refine k l a c kp H3 ac ab c1 c2 (W2.count (d:=(dx.1,dx.2.1,dx.2.2+1)) ew ek) A2 c3 c4 ew ?_ u (Tab.count q2.t0 b ek) (Tab.count q2.t1 b ek) (Tab.count q2.t3 b ek) (Tab.count q2.t4 b ek) (fun q o ho e hn y=>ek q o y (q2.k q o ho (s1 _ _ e) hn)) (fun q y=>(q2.o q y).imp id fun z=>s1.free z) (fun q e=>s1.free (q2.e q (ee q e))) (s1.free hl) nl (nw el (fun _ _ _ z=>nomatch z))
 rw [<- ht]
 exact ⟨nw M2.tg (fun _ _ _ z=>nomatch z),fun x hx=>nw (M2.it x hx) (fun _ _ _ z=>nomatch z),fun x hx e he=>nw (M2.tu x hx e he) (fun _ _ _ z=>nomatch z),M2.nk,M2.ni,M2.ne,M2.go⟩
def znx (H H':Hp)(O O':Addr->Prop):Prop:=∀ q xs,H q=some (.lst xs)->¬ O q->H' q=some (.lst xs)/\¬ O' q
theorem znx.of {H H':Hp}{O O':Addr->Prop}(k:∀ q o,(∀ ps,o≠ .tbl ps)->H q=some o->¬ O q->H' q=some o)(o:∀ q,O' q->O q\/H q=none):znx H H' O O':=fun q xs e hn=>⟨k _ _ (fun _ z=>nomatch z) e hn,fun y=>by
 rcases o q y with y | y
 ·exact hn y
 ·rw [e] at y
  cases y⟩
theorem NOk.pool {pool pool':List Int}{z:Nat}{r:Int}{hs:List Int}{N:Int->Nat->List Int}(O:NOk pool z r hs N)(h:∀ x∈pool,x∈pool'):NOk pool' z r hs N:=⟨O.nd,O.le,fun g hg k m hm=>⟨h m (O.st g hg k m hm).1,(O.st g hg k m hm).2⟩⟩
theorem NOk.comer {pool:List Int}{z:Nat}{r:Int}{hs:List Int}{N:Int->Nat->List Int}(O:NOk pool z r hs N)(hr:1<=r)(i:Int):NOk pool z r (hs++[i]) (zkf N i):=by
 unfold zkf
 refine ⟨fun h hh k=>?_,fun h hh k=>?_,fun h hh k m hm=>?_⟩
 ·by_cases e:h=i
  ·rw [e,zak]
   exact j7
  ·rw [zap e]
   exact O.nd h ((gm.mp hh).elim id fun y=>absurd (gb.mp y) e) k
 ·by_cases e:h=i
  ·rw [e,zak]
   simp only [jl]
   omega
  ·rw [zap e]
   exact O.le h ((gm.mp hh).elim id fun y=>absurd (gb.mp y) e) k
 ·by_cases e:h=i
  ·rw [e,zak] at hm
   cases hm
  ·rw [zap e] at hm
   exact O.st h ((gm.mp hh).elim id fun y=>absurd (gb.mp y) e) k m hm
theorem ztd {z:Nat}{hs sil:List Int}{N:Int->Nat->List Int}{d i:Int}{ks:List Int}(hm:∀ x,x∈ks↔Rch (zr0 z (awB hs sil) N) d x)(hd:d∈hs):∀ x∈zix i ks,x∈hs/\x≠i:=fun x hx=>by
 have a:=zl3 hx
 refine ⟨?_,a.2⟩
 have b:=(hm x).mp a.1
 cases b with
 | own=>exact hd
 | go _ e=>exact (zjt e.2).1
theorem zv7 {h x:Int}{l:List Int}(hx:x∈zc5 h l):x∈l\/x=h:=by
 unfold zc5 at hx
 split at hx
 ·exact .inl hx
 ·exact (gm.mp hx).elim .inl fun y=> .inr (gb.mp y)
theorem zq4 {h:Int}{l:List Int}(hn:l.Nodup):(zc5 h l).Nodup:=by
 unfold zc5
 split
 ·exact hn
 ·rename_i e
  exact zbd hn e
theorem zkd {c:Int}{l:List Int}(h0:l≠[]):∃ h,h∈l/\atI (l.map V.int) (c % (((l.map V.int).length:Nat):Int))=some (V.int h):=by
 rw [gf]
 have hp:=List.length_pos_iff.mpr h0
 have a:(0:Int)<((l.length:Nat):Int):=by omega
 have a1:=Int.emod_nonneg c (Int.ne_of_gt a)
 have a2:=Int.emod_lt_of_pos c a
 have b:(c % ((l.length:Nat):Int)).toNat<l.length:=by omega
 refine ⟨l[(c % ((l.length:Nat):Int)).toNat],kx b,?_⟩
 have e:(((c % ((l.length:Nat):Int)).toNat:Nat):Int)=c % ((l.length:Nat):Int):=by omega
 have z:=zml (xs:=l.map V.int) (j:=(c % ((l.length:Nat):Int)).toNat) (v:=V.int l[(c % ((l.length:Nat):Int)).toNat]) (by simp [b])
 rwa [e] at z
theorem zl5 {l:List Int}(h0:l≠[]):(0:Int)<(((l.map V.int).length:Nat):Int):=by
 have hp:=List.length_pos_iff.mpr h0
 rw [gf]
 omega
structure Std (CB CT CW T0 T1 T3:Addr)(H:Hp)(w td sd:Addr)(z r:Int)(hs sil pool:List Int)(T:Int->zbp):Prop where
 W:zaj CB CT CW H w td sd z r hs sil T
 A:zb4 z.toNat hs T
 O:NOk pool z.toNat r hs (fun g=>(T g).ns)
 pq:∀ x∈hs,x∈pool
 pb:∀ x∈pool,0<=x/\x<2 ^ z.toNat
 sm:∀ x∈sil,x∈hs
 sn:sil.Nodup
 n12:hs.length<=12
 t0:Tab H T0 (zao zda) quL
 t1:Tab H T1 (zao zg3) quT
 t3:Tab H T3 (zao zdz) quH
section
variable {CB CT CW T0 T1 T3:Addr} {H H3:Hp} {w td sd:Addr} {z r:Int} {hs sil pool:List Int} {T T':Int->zbp}
theorem Std.same (X:Std CB CT CW T0 T1 T3 H w td sd z r hs sil pool T)(s:zax H H3):Std CB CT CW T0 T1 T3 H3 w td sd z r hs sil pool T:=⟨X.W.keep fun q o _ e=>s _ _ e,X.A,X.O,X.pq,X.pb,X.sm,X.sn,X.n12,(s.but _).2 _ _ X.t0,(s.but _).2 _ _ X.t1,(s.but _).2 _ _ X.t3⟩
theorem Std.sl (X:Std CB CT CW T0 T1 T3 H w td sd z r hs sil pool T):sil.length<=12:=gy (zbc X.sn X.sm) X.n12
theorem Std.come (X:Std CB CT CW T0 T1 T3 H w td sd z r hs sil pool T)(n0:T0≠T3)(n1:T1≠T3){i:Int}{vis:List Int}(h12:hs.length<12)(hi:0<=i/\i<2 ^ z.toNat)(hv:∀ x∈vis,x∈hs++[i]/\x≠i)(W3:zaj CB CT CW H3 w td sd z r (hs++[i]) sil T')(A3:zb4 z.toNat (hs++[i]) T')
  (e3:(fun g=>(T' g).ns)=zbu r (awB (hs++[i]) sil) (zkf (fun g=>(T g).ns) i) i vis)(d3:zd1 T3 H H3 (Own td sd z.toNat hs T) (Own td sd z.toNat (hs++[i]) T'))(t3:Tab H3 T3 (zao zdz) quH) :
  Std CB CT CW T0 T1 T3 H3 w td sd z r (hs++[i]) sil (pool++[i]) T'/\znx H H3 (Own td sd z.toNat hs T) (Own td sd z.toNat (hs++[i]) T'):=by
 have b:=W3.r1
 have a:∀ x∈hs++[i],x∈pool++[i]:=fun x hx=>(gm.mp hx).elim (fun y=>gr _ (X.pq x y)) fun y=>g7 _ y
 have c:i∈pool++[i]:=g7 _ (gb.mpr rfl)
 have kt:=zsz.deed X.W d3
 refine ⟨⟨W3,A3,?_,a,fun x hx=>(gm.mp hx).elim (X.pb x) fun y=>gb.mp y ▸ hi,fun x hx=>gr _ (X.sm x hx),X.sn,by rw [gl,gq]; omega,kt _ _ _ n0 X.t0,kt _ _ _ n1 X.t1,t3⟩,znx.of d3.k d3.o⟩
 rw [e3]
 exact NOk.meets b c (fun x hx=>⟨a x (hv x hx).1,(hv x hx).2⟩) ((X.O.pool fun x hx=>gr _ hx).comer b i)
theorem Std.dicts (X:Std CB CT CW T0 T1 T3 H w td sd z r hs sil pool T){hs' sil':List Int}(hn:hs'.Nodup)(hm:∀ x∈hs',x∈hs)(sm:∀ x∈sil',x∈hs')(sn:sil'.Nodup)(W4:zaj CB CT CW H3 w td sd z r hs' sil' T)(k4:∀ q o,H q=some o->q≠td->q≠sd->H3 q=some o) :
  Std CB CT CW T0 T1 T3 H3 w td sd z r hs' sil' pool T/\znx H H3 (Own td sd z.toNat hs T) (Own td sd z.toNat hs' T):=by
 have d4:zd1 T3 H H3 (Own td sd z.toNat hs T) (Own td sd z.toNat hs' T):=zd1.dicts X.W k4 ⟨_,W4.tb⟩ ⟨_,W4.si⟩ hm
 exact ⟨⟨W4,X.A.sub hm,X.O.sub hm,fun x hx=>X.pq x (hm x hx),X.pb,sm,sn,gy (zbc hn hm) X.n12,Tab.dicts X.W X.t0 k4,Tab.dicts X.W X.t1 k4,Tab.dicts X.W X.t3 k4⟩,znx.of d4.k d4.o⟩
theorem Std.asked (X:Std CB CT CW T0 T1 T3 H w td sd z r hs sil pool T){i g:Int}{rest:List Int}(hp:pool.length<=60)(hi:i∈hs)(hR:Row (fun h=>zaq z r hs sil (fun h=>(T h).ns) g h i) i g r.toNat (i :: rest))(W3:zaj CB CT CW H3 w td sd z r hs sil T')(A3:zb4 z.toNat hs T')
  (e3:(fun g=>(T' g).ns)=zcr r (awB hs sil) (fun h=>zaq z r hs sil (fun h=>(T h).ns) g h i) (fun h=>(T h).ns) i rest)(d3:z0j T0 T1 T3 H H3 (Own td sd z.toNat hs T) (Own td sd z.toNat hs T')) :
  Std CB CT CW T0 T1 T3 H3 w td sd z r hs sil pool T'/\znx H H3 (Own td sd z.toNat hs T) (Own td sd z.toNat hs T'):=by
 have a:=X.pq i hi
 obtain ⟨c,d⟩:=hR.ok (zc4 X.O W3.r2 hp fun x hx=>(X.pb x hx).1) a
 obtain ⟨b,-⟩:=ir.mp d
 refine ⟨⟨W3,A3,?_,X.pq,X.pb,X.sm,X.sn,X.n12,d3.t0,d3.t1,d3.t3⟩,znx.of d3.k d3.o⟩
 rw [e3]
 exact NOk.learn W3.r1 a X.O fun x hx=>⟨c x (gc _ hx),fun e=>b (e ▸ hx)⟩
end
theorem zux {l:List (Int × Th)}{h:Int}:zby l h=none↔h∉l.map (·.1):=by
 unfold zby
 rw [jp,List.find?_eq_none]
 constructor
 ·intro a y
  obtain ⟨e,he,rfl⟩:=ju.mp y
  exact a e he (by simp)
 ·intro a e he y
  exact a (ju.mpr ⟨e,he,by simpa using y⟩)
theorem znt {l:List (Int × Th)}{h:Int}{t:Th}(hn:(l.map (·.1)).Nodup):((zgf l h t).map (·.1)).Nodup:=by
 unfold zgf
 by_cases e:(zby l h).isSome=true
 ·rw [if_pos e,jn]
  have:((fun x:Int × Th=>x.1) ∘ fun e:Int × Th=>if e.1=h then (h,t) else e)=fun x=>x.1:=by
   funext x
   show (if x.1=h then (h,t) else x).1=x.1
   by_cases y:x.1=h
   ·rw [if_pos y,y]
   ·rw [if_neg y]
  rw [this]
  exact hn
 ·rw [if_neg e,i9]
  have e:zby l h=none:=by
   cases q:zby l h with
   | none=>rfl
   | some u=>rw [q] at e; exact absurd rfl e
  exact zbd hn (zux.mp e)
theorem zj3 {t:Th}:∀ {hs:List Int} {l:List (Int × Th)},(l.map (·.1)).Nodup->((zb0 l hs t).map (·.1)).Nodup
 | [],_,h=>h
 | x :: r,l,h=>zj3 (hs:=r) (l:=zgf l x t) (znt h)
theorem zhu {t:Th}{e:Int × Th}:∀ {hs:List Int} {l:List (Int × Th)},e∈zb0 l hs t->e∈l\/e.1∈hs/\e.2=t
 | [],_,h=> .inl h
 | x :: r,l,h=>by
  rcases zhu (hs:=r) (l:=zgf l x t) h with y | y
  ·rcases ziz y with y | y
   ·exact .inl y
   ·exact .inr ⟨by rw [y]; exact gj ..,by rw [y]⟩
  ·exact .inr ⟨gc _ y.1,y.2⟩
theorem zt2 {l:List (Int × Th)}{h:Int}(hn:(l.map (·.1)).Nodup):((zk8 l h).map (·.1)).Nodup:=hn.sublist (List.Sublist.map _ j8)
structure zd0 (CB CT CW T0 T1 T3 T4:Addr)(H:Hp)(w td sd:Addr)(z r:Int)(hs sil pool:List Int)(T:Int->zbp)(dx:Addr × Addr × Int)(ks:List Int)(ad:Int->Addr)(G:Int->List (Int × Th)):Prop where
 X:Std CB CT CW T0 T1 T3 H w td sd z r hs sil pool T
 ob:H w=some (.ins CW dx.1 (wF z r td sd dx))
 M:zco H dx.2.1 ks ad G
 dj:Dj td sd dx.2.1 ks ad
 t4:Tab H T4 (zao zgq) quN
 kb:∀ k∈ks,0<=k/\k<2 ^ z.toNat
 gh:∀ k,∀ e∈G k,e.1∈hs
 gn:∀ k,((G k).map (·.1)).Nodup
 un:∀ k,∀ e∈G k,∀ e'∈G k,e.2.n=e'.2.n->e.2=e'.2
 lt:∀ k,∀ e∈G k,e.2.n<dx.2.2
section
variable {CB CT CW T0 T1 T3 T4:Addr} {H H3:Hp} {w td sd:Addr} {z r:Int} {hs sil pool:List Int} {T T':Int->zbp} {dx:Addr × Addr × Int} {ks:List Int} {ad:Int->Addr} {G G':Int->List (Int × Th)}
theorem zd0.same (X:zd0 CB CT CW T0 T1 T3 T4 H w td sd z r hs sil pool T dx ks ad G)(s:zax H H3):zd0 CB CT CW T0 T1 T3 T4 H3 w td sd z r hs sil pool T dx ks ad G:=⟨X.X.same s,s _ _ X.ob,X.M.same s,X.dj,(s.but _).2 _ _ X.t4,X.kb,X.gh,X.gn,X.un,X.lt⟩
theorem zco.deed {O':Addr->Prop}(M:zco H dx.2.1 ks ad G)(W:zaj CB CT CW H w td sd z r hs sil T)(d:Dj td sd dx.2.1 ks ad)(a:∀ q o,(∀ ps,o≠ .tbl ps)->H q=some o->¬ Own td sd z.toNat hs T q->H3 q=some o):zco H3 dx.2.1 ks ad G :=
 ⟨a _ _ (fun _ z=>nomatch z) M.tg (W.own_ng M d (.inl rfl)),fun k hk=>a _ _ (fun _ z=>nomatch z) (M.it k hk) (W.own_ng M d (.inr ⟨k,hk,rfl⟩)),fun k hk e he=>a _ _ (fun _ z=>nomatch z) (M.tu k hk e he) (W.tupN (M.tu k hk e he)),M.nk,M.ni,M.ne,M.go⟩
theorem Std.things (X:Std CB CT CW T0 T1 T3 H w td sd z r hs sil pool T)(M:zco H dx.2.1 ks ad G)(d:Dj td sd dx.2.1 ks ad)(n1:T1≠T4)(n3:T3≠T4)(n01:T0≠T1)(n03:T0≠T3)(t4:Tab H T4 (zao zgq) quN)(a:Kw T0 T4 (Ng dx.2.1 ks ad) H H3):Std CB CT CW T0 T1 T3 H3 w td sd z r hs sil pool T:=by
 have x0:=za1 X.t0
 have x4:=za1 t4
 have kk:∀ q o,(∀ ps,o≠ .tbl ps)->H q=some o->¬ Ng dx.2.1 ks ad q->H3 q=some o:=fun q o ho e hn=>a.k q o (fun y=>by
  obtain ⟨ps,hp⟩:=x0
  rw [y,hp] at e
  exact ho ps (Option.some.inj e).symm) (fun y=>by
  obtain ⟨ps,hp⟩:=x4
  rw [y,hp] at e
  exact ho ps (Option.some.inj e).symm) hn e
 have nn:∀ {q:Addr} {o:HO},H q=some o->(∀ x,o≠ .dK x)->¬ Ng dx.2.1 ks ad q:=fun {q o} e ho y=>by
  obtain ⟨x,e2⟩:=M.bounds y
  rw [e2] at e
  exact ho x (Option.some.inj e).symm
 have tt:∀ {Ti:Addr} {po:Pos} {qu:Str},Ti≠T0->Ti≠T4->Tab H Ti po qu->Tab H3 Ti po qu:=fun {Ti po qu} h0 h4 t=>Tab.hold t fun q o ho e=>by
  rcases ho with ⟨x,k,rfl⟩ | rfl
  ·exact kk q _ (fun _ z=>nomatch z) e (nn e fun _ z=>nomatch z)
  ·obtain ⟨ps,hp⟩:=za1 t
   rw [hp] at e
   cases e
   exact a.k _ _ h0 h4 (nn hp fun _ z=>nomatch z) hp
 exact ⟨X.W.things M d kk,X.A,X.O,X.pq,X.pb,X.sm,X.sn,X.n12,a.t0,tt n01.symm n1 X.t1,tt n03.symm n3 X.t3⟩
theorem zd0.len (X:zd0 CB CT CW T0 T1 T3 T4 H w td sd z r hs sil pool T dx ks ad G)(k:Int):(G k).length<=12:=by
 have:=zbc (X.gn k) (b:=hs) fun x hx=>by
  obtain ⟨e,he,rfl⟩:=ju.mp hx
  exact X.gh k e he
 rw [gf] at this
 exact gy this X.X.n12
theorem zd0.asked (X:zd0 CB CT CW T0 T1 T3 T4 H w td sd z r hs sil pool T dx ks ad G)(n0:T0≠T4)(n1:T1≠T4)(n3:T3≠T4){i g:Int}{rest:List Int}(hp:pool.length<=60)(hi:i∈hs)(hR:Row (fun h=>zaq z r hs sil (fun h=>(T h).ns) g h i) i g r.toNat (i :: rest))(W3:zaj CB CT CW H3 w td sd z r hs sil T')(A3:zb4 z.toNat hs T')
  (e3:(fun g=>(T' g).ns)=zcr r (awB hs sil) (fun h=>zaq z r hs sil (fun h=>(T h).ns) g h i) (fun h=>(T h).ns) i rest)(d3:z0j T0 T1 T3 H H3 (Own td sd z.toNat hs T) (Own td sd z.toNat hs T')):zd0 CB CT CW T0 T1 T3 T4 H3 w td sd z r hs sil pool T' dx ks ad G :=
 ⟨(X.X.asked hp hi hR W3 A3 e3 d3).1,d3.k _ _ (fun _ z=>nomatch z) X.ob X.X.W.wN,X.M.asked X.X.W X.dj d3,X.dj,(Mq.asked (gd:=dx.2.1) (ks:=ks) (ad:=ad) X.X.W n0 n1 n3 X.t4 d3).t4,X.kb,X.gh,X.gn,X.un,X.lt⟩
theorem zco.dicts (M:zco H dx.2.1 ks ad G)(W:zaj CB CT CW H w td sd z r hs sil T)(d:Dj td sd dx.2.1 ks ad)(k:∀ q o,H q=some o->q≠td->q≠sd->H3 q=some o):zco H3 dx.2.1 ks ad G :=
 M.keep fun q o ho e=>by
  have a:q≠td:=fun y=>by
   rcases ho with z | z | ⟨xs,z⟩
   ·exact d.t (.inl (y ▸ z))
   ·exact d.t (.inr (y ▸ z))
   ·rw [y,W.tb] at e
    cases e
    cases z
  have b:q≠sd:=fun y=>by
   rcases ho with z | z | ⟨xs,z⟩
   ·exact d.s (.inl (y ▸ z))
   ·exact d.s (.inr (y ▸ z))
   ·rw [y,W.si] at e
    cases e
    cases z
  exact k q o e a b
theorem zd0.hushed (X:zd0 CB CT CW T0 T1 T3 T4 H w td sd z r hs sil pool T dx ks ad G){h:Int}(hh:h∈hs)(W3:zaj CB CT CW H3 w td sd z r hs (zc5 h sil) T)(k3:∀ q o,H q=some o->q≠td->q≠sd->H3 q=some o):zd0 CB CT CW T0 T1 T3 T4 H3 w td sd z r hs (zc5 h sil) pool T dx ks ad G :=
 ⟨(X.X.dicts X.X.W.nd (fun x hx=>hx) (fun x hx=>(zv7 hx).elim (X.X.sm x) fun e=>e ▸ hh) (zq4 X.X.sn) W3 k3).1,k3 _ _ X.ob (zcv X.ob X.X.W.tb (by intro z; cases z)) (zcv X.ob X.X.W.si (by intro z; cases z)),X.M.dicts X.X.W X.dj k3,X.dj,Tab.dicts X.X.W X.t4 k3,X.kb,X.gh,X.gn,X.un,X.lt⟩
theorem z0z {i g:Int}{rest kp:List Int}{N:Int->Nat->List Int}(hi:i∈hs)(hns:i∉sil)(c2:zcy (fun h=>zaq z r hs sil N g h i) i g r.toNat (i :: rest)=none)(c4:kp=(za3 g (zb6 (fun h=>zaq z r hs sil N g h i) i g r.toNat (i :: rest)++[i])).take r.toNat):∀ x∈kp,x∈hs/\x∉sil:=fun x hx=>by
 rw [c4] at hx
 rcases gm.mp (za2.mp (i8 hx)) with y | y
 ·exact zmw (zm4 c2 x y).2
 ·rw [gb.mp y]
  exact ⟨hi,hns⟩
theorem zd0.laid (X:zd0 CB CT CW T0 T1 T3 T4 H w td sd z r hs sil pool T dx ks ad G){i g:Int}{s:Str}{a:Addr}{rest kp:List Int}{ad':Int->Addr}(hp:pool.length<=60)(hi:i∈hs)(hg:0<=g/\g<2 ^ z.toNat)(hk:∀ x∈kp,x∈hs)(hR:Row (fun h=>zaq z r hs sil (fun h=>(T h).ns) g h i) i g r.toNat (i :: rest))(W3:zaj CB CT CW H3 w td sd z r hs sil T')(A3:zb4 z.toNat hs T')
  (e3:(fun g=>(T' g).ns)=zcr r (awB hs sil) (fun h=>zaq z r hs sil (fun h=>(T h).ns) g h i) (fun h=>(T h).ns) i rest)(hob:H3 w=some (.ins CW dx.1 (wF z r td sd (dx.1,dx.2.1,dx.2.2+1))))(M3:zco H3 dx.2.1 (zc5 g ks) ad' (zdh G g (zb0 (G g) kp ⟨a,dx.2.2,s⟩)))(d3:Dj td sd dx.2.1 (zc5 g ks) ad')(t0:Tab H3 T0 (zao zda) quL)(t1:Tab H3 T1 (zao zg3) quT)(t3:Tab H3 T3 (zao zdz) quH)(t4:Tab H3 T4 (zao zgq) quN) :
  zd0 CB CT CW T0 T1 T3 T4 H3 w td sd z r hs sil pool T' (dx.1,dx.2.1,dx.2.2+1) (zc5 g ks) ad' (zdh G g (zb0 (G g) kp ⟨a,dx.2.2,s⟩)):=by
 have Y:=X.X
 have b:=Y.pq i hi
 obtain ⟨c,f⟩:=hR.ok (zc4 Y.O W3.r2 hp fun x hx=>(Y.pb x hx).1) b
 obtain ⟨d,-⟩:=ir.mp f
 have O3:NOk pool z.toNat r hs (fun g=>(T' g).ns):=by
  rw [e3]
  exact NOk.learn W3.r1 b Y.O fun x hx=>⟨c x (gc _ hx),fun e=>d (e ▸ hx)⟩
 have cs:∀ (k:Int) (e:Int × Th),e∈zdh G g (zb0 (G g) kp ⟨a,dx.2.2,s⟩) k->e∈G k\/k=g/\e.1∈kp/\e.2=⟨a,dx.2.2,s⟩:=fun k e he=>by
  by_cases y:k=g
  ·rw [y,zak] at he
   rw [y]
   exact (zhu he).imp id fun z=>⟨rfl,z⟩
  ·rw [zap y] at he
   exact .inl he
 refine ⟨⟨W3,A3,O3,Y.pq,Y.pb,Y.sm,Y.sn,Y.n12,t0,t1,t3⟩,hob,M3,d3,t4,fun k hk=>?_,fun k e he=>?_,fun k=>?_,fun k e he e' j hn=>?_,fun k e he=>?_⟩
 ·rcases zi3.mp hk with y | y
  ·exact X.kb k y
  ·rw [y]
   exact hg
 ·rcases cs k e he with y | ⟨_,y,_⟩
  ·exact X.gh k e y
  ·exact hk _ y
 ·by_cases y:k=g
  ·rw [y,zak]
   exact zj3 (X.gn g)
  ·rw [zap y]
   exact X.gn k
 ·rcases cs k e he with y | ⟨_,_,y⟩ <;> rcases cs k e' j with y' | ⟨_,_,y'⟩
  ·exact X.un k e y e' y' hn
  ·have:=X.lt k e y
   rw [y'] at hn
   have hn:e.2.n=dx.2.2:=hn
   omega
  ·have:=X.lt k e' y'
   rw [y] at hn
   have hn:dx.2.2=e'.2.n:=hn
   omega
  ·rw [y,y']
 ·show e.2.n<dx.2.2+1
  rcases cs k e he with y | ⟨_,_,y⟩
  ·have:=X.lt k e y
   omega
  ·rw [y]
   show dx.2.2<dx.2.2+1
   omega
theorem zd0.gone (X:zd0 CB CT CW T0 T1 T3 T4 H w td sd z r hs sil pool T dx ks ad G){h:Int}{H4:Hp}(W3:zaj CB CT CW H3 w td sd z r (zf0 h hs) (zf0 h sil) T)(k3:∀ q o,H q=some o->q≠td->q≠sd->H3 q=some o)(M4:zco H4 dx.2.1 ks ad (fun k=>zk8 (G k) h))(d4:∀ T1,zd1 T1 H3 H4 (Ng dx.2.1 ks ad) (Ng dx.2.1 ks ad)):zd0 CB CT CW T0 T1 T3 T4 H4 w td sd z r (zf0 h hs) (zf0 h sil) pool T dx ks ad (fun k=>zk8 (G k) h):=by
 have Y:=(X.X.dicts (zfz X.X.W.nd) (fun x hx=>(zb_.mp hx).1) (fun x hx=>zb_.mpr ⟨X.X.sm x (zb_.mp hx).1,(zb_.mp hx).2⟩) (zfz X.X.sn) W3 k3).1
 have M3:=X.M.dicts X.X.W X.dj k3
 have hO:∀ q,Ng dx.2.1 ks ad q->∃ x,H3 q=some (.dK x):=fun q y=>M3.bounds y
 have a:H3 w=some (.ins CW dx.1 (wF z r td sd dx)):=k3 _ _ X.ob (zcv X.ob X.X.W.tb (by intro z; cases z)) (zcv X.ob X.X.W.si (by intro z; cases z))
 refine ⟨⟨Y.W.things M3 X.dj (d4 0).k,Y.A,Y.O,Y.pq,Y.pb,Y.sm,Y.sn,Y.n12,Tab.deed Y.t0 d4 hO,Tab.deed Y.t1 d4 hO,Tab.deed Y.t3 d4 hO⟩,(d4 0).k _ _ (fun _ z=>nomatch z) a fun y=>?_,M4,X.dj,Tab.deed (Tab.dicts X.X.W X.t4 k3) d4 hO,X.kb,fun k e he=>?_,fun k=>zt2 (X.gn k),fun k e he e' b hn=>X.un k e (zfp e he) e' (zfp e' b) hn,fun k e he=>X.lt k e (zfp e he)⟩
 ·obtain ⟨x,e⟩:=hO w y
  rw [a] at e
  cases e
 ·refine zb_.mpr ⟨X.gh k e (zfp e he),?_⟩
  have:=(gz.mp he).2
  simpa using this
theorem zd0.came (X:zd0 CB CT CW T0 T1 T3 T4 H w td sd z r hs sil pool T dx ks ad G)(n0:T0≠T3)(n1:T1≠T3)(n4:T4≠T3){i:Int}{vis:List Int}(h12:hs.length<12)(hi:0<=i/\i<2 ^ z.toNat)(hv:∀ x∈vis,x∈hs++[i]/\x≠i)(W3:zaj CB CT CW H3 w td sd z r (hs++[i]) sil T')(A3:zb4 z.toNat (hs++[i]) T')
  (e3:(fun g=>(T' g).ns)=zbu r (awB (hs++[i]) sil) (zkf (fun g=>(T g).ns) i) i vis)(d3:zd1 T3 H H3 (Own td sd z.toNat hs T) (Own td sd z.toNat (hs++[i]) T'))(t3:Tab H3 T3 (zao zdz) quH):zd0 CB CT CW T0 T1 T3 T4 H3 w td sd z r (hs++[i]) sil (pool++[i]) T' dx ks ad G :=
 ⟨(X.X.come n0 n1 h12 hi hv W3 A3 e3 d3 t3).1,d3.k _ _ (fun _ z=>nomatch z) X.ob X.X.W.wN,X.M.deed (O':=fun _=>False) X.X.W X.dj d3.k,X.dj,zsz.deed X.X.W d3 _ _ _ n4 X.t4,X.kb,fun k e he=>gr _ (X.gh k e he),X.gn,X.un,X.lt⟩
theorem zd0.settled (X:zd0 CB CT CW T0 T1 T3 T4 H w td sd z r hs sil pool T dx ks ad G)(n1:T1≠T4)(n3:T3≠T4)(n01:T0≠T1)(n03:T0≠T3){h:Int}{vis:List Int}(hh:h∈hs)(M3:zco H3 dx.2.1 ks ad G')(st:∀ k∈ks,zhk r h vis k (G k) (G' k))(a:Kw T0 T4 (Ng dx.2.1 ks ad) H H3):zd0 CB CT CW T0 T1 T3 T4 H3 w td sd z r hs sil pool T dx ks ad G':=by
 have cs:∀ (k:Int) (e:Int × Th),e∈G' k->e∈G k\/e.1=h/\∃ c,(c,e.2)∈G k:=fun k e he=>by
  by_cases hk:k∈ks
  ·rcases st k hk with ⟨_,y⟩ | ⟨t,c,_,y,_,_,y2⟩
   ·rw [y] at he
    exact .inl he
   ·rw [y2] at he
    rcases ziz he with z | z
    ·exact .inl z
    ·rw [z]
     exact .inr ⟨rfl,c,zbx y⟩
  ·rw [M3.go k hk] at he
   cases he
 have b:∀ (k:Int) (e:Int × Th),e∈G' k->∃ c,(c,e.2)∈G k:=fun k e he=>(cs k e he).elim (fun y=>⟨e.1,y⟩) fun y=>y.2
 refine ⟨X.X.things X.M X.dj n1 n3 n01 n03 X.t4 a,a.ob (za1 X.X.t0) (za1 X.t4) (fun q y=>X.M.bounds y) (fun _ z=>nomatch z) (fun _ z=>nomatch z) X.ob,M3,X.dj,a.t4,X.kb,fun k e he=>?_,fun k=>?_,fun k e he e' d hn=>?_,fun k e he=>?_⟩
 ·rcases cs k e he with y | ⟨y,_⟩
  ·exact X.gh k e y
  ·rw [y]
   exact hh
 ·by_cases hk:k∈ks
  ·rcases st k hk with ⟨_,y⟩ | ⟨t,c,_,y,_,_,y2⟩
   ·rw [y]
    exact X.gn k
   ·rw [y2]
    exact znt (X.gn k)
  ·rw [M3.go k hk]
   exact j7
 ·obtain ⟨c,y⟩:=b k e he
  obtain ⟨c',y'⟩:=b k e' d
  exact X.un k (c,e.2) y (c',e'.2) y' hn
 ·obtain ⟨c,y⟩:=b k e he
  exact X.lt k (c,e.2) y
end
abbrev Tg:=Int × Int × Str
def tgD (e:Tg):PyData:= .tuple [.int e.1,.int e.2.1,.str e.2.2]
def TgH (H:Hp)(p:Addr)(e:Tg):Prop:=H p=some (.tup [.int e.1,.int e.2.1,.str e.2.2])
theorem zu0 {K:W.Frag}{H:Hp}:∀ {ps:List Addr} {es:List Tg},Paired (TgH H) ps es->DVs K H (es.map tgD) (ps.map V.ref)
 | _,_,.nil=>by unfold DVs; rfl
 | _,_,@Paired.cons _ _ _ p e ps es x t=>by
  show DVs K H (tgD e :: es.map tgD) (.ref p :: ps.map V.ref)
  have x:H p=some (.tup [.int e.1,.int e.2.1,.str e.2.2]):=x
  unfold DVs
  refine ⟨_,_,rfl,?_,zu0 t⟩
  unfold tgD DV
  refine ⟨p,_,rfl,SqT.of x,?_⟩
  unfold DVs
  refine ⟨_,_,rfl,by unfold DV; rfl,?_⟩
  unfold DVs
  refine ⟨_,_,rfl,by unfold DV; rfl,?_⟩
  unfold DVs
  refine ⟨_,_,rfl,by unfold DV; rfl,?_⟩
  unfold DVs
  rfl
theorem zs8:∀ es:List Tg,PyData.eqvAll (es.map tgD) (es.map tgD)=true
 | []=>by simp [PyData.eqvAll]
 | e :: es=>by
  have ih:=zs8 es
  simp [PyData.eqvAll,PyData.eqv,tgD,ih]
def zwo (es:List Tg):PyData:= .list (es.map tgD)
theorem zxo {K:W.Frag}{H:Hp}{l:Addr}{ps:List Addr}{es:List Tg}(a:H l=some (.lst (ps.map V.ref)))(b:Paired (TgH H) ps es):DV K H (zwo es) (.ref l):=by
 unfold zwo DV
 exact ⟨l,_,rfl,SqL.of a,zu0 b⟩
theorem zsq {es:List Tg}(h:∀ e∈es,PyData.strOk e.2.2=true):PyData.canLay0 (zwo es)=true:=by
 unfold zwo PyData.canLay0
 exact zo8 fun e he=>by simp [tgD,PyData.canLay0,PyData.canLayAll0,h e he]
theorem okS (s:String):PyData.strOk (Str.ofString s)=true:=by
 unfold PyData.strOk
 rw [Str.ofString_eq_toList]
 simp only [List.all_toArray,List.all_map,jo,Function.comp,decide_eq_true_eq]
 intro c _
 have h:=c.valid
 simp only [UInt32.isValidChar,Nat.isValidChar] at h
 show c.val.toNat<1114112
 omega
theorem zyb {a b:Str}(ha:PyData.strOk a=true)(hb:PyData.strOk b=true):PyData.strOk (a++b)=true:=by
 unfold PyData.strOk at ha hb |-
 show (a.cps++b.cps).all _=true
 rw [Array.all_append,ha,hb]
 rfl
theorem zvu (es:List Tg):PyData.depth (zwo es)<=2:=by
 unfold zwo PyData.depth
 have:=zmh (g:=tgD) (n:=1) (xs:=es) fun e _=>by simp [tgD,PyData.depth,PyData.depthAll]
 omega
def prT (t:Th):Int × Str:=(t.n,t.s)
def zim (ks:List Int)(G:Int->List (Int × Th))(h:Int):List Tg:=(zau ks).filterMap fun k=>((zby (G k) h).map prT).map fun p=>(k,p)
theorem zod {H:Hp}{gd:Addr}{ks:List Int}{ad:Int->Addr}{G:Int->List (Int × Th)}{h:Int}(M:zco H gd ks ad G):∀ {l:List Int},(∀ k∈l,k∈ks)->Paired (TgH H) ((l.filterMap fun k=>zby (G k) h).map (·.a)) (l.filterMap fun k=>((zby (G k) h).map prT).map fun p=>(k,p))
 | [],_=> .nil
 | k :: r,hl=>by
  have ih:=zod (h:=h) M (l:=r) fun x hx=>hl x (gc _ hx)
  rw [iq,iq]
  cases e:zby (G k) h with
  | none=>exact ih
  | some t=>exact .cons (M.tu k (hl k (gj ..)) (h,t) (zbx e)) ih
theorem zs5 {H:Hp}{gd:Addr}{ks:List Int}{ad:Int->Addr}{G:Int->List (Int × Th)}{h:Int}(M:zco H gd ks ad G):Paired (TgH H) ((zkt ks G h).map (·.a)) (zim ks G h):=zod M fun k hk=>(zan _).subset hk
theorem zr_ {ts:List Th}:thV ts=(ts.map (·.a)).map V.ref:=by
 unfold thV
 rw [jn]
 rfl
def z1b:Sp:=fun vs H Q _=>∃ x:Int,vs=[.int x]/\∀ (s:Str) (H':Hp),PyData.strOk s=true->zax H H'->Q (.str s) H'
theorem zv1:zam ["_law_x"] ["_law_x"] (zai (top 35)):=fS
theorem zsc (x:Int){a b c d e:Str}(ha:PyData.strOk a=true)(hb:PyData.strOk b=true)(hc:PyData.strOk c=true)(hd:PyData.strOk d=true)(he:PyData.strOk e=true):∃ s,PyData.strOk s=true/\atI [V.str a,V.str b,V.str c,V.str d,V.str e] (x % 5)=some (V.str s):=by
 have h:x % 5=0\/x % 5=1\/x % 5=2\/x % 5=3\/x % 5=4:=by omega
 rcases h with h | h | h | h | h <;> rw [h]
 ·exact ⟨_,ha,rfl⟩
 ·exact ⟨_,hb,rfl⟩
 ·exact ⟨_,hc,rfl⟩
 ·exact ⟨_,hd,rfl⟩
 ·exact ⟨_,he,rfl⟩
theorem zvp (Z:ZZ P w K mg base):zld Z 1 Z.cw z1b:=by
 refine Z.cw.fn.ok zv1 (by kd_p) (fun cdv A outer s H vs Q E hr h=>?_)
 obtain ⟨x,rfl,k⟩:=h
 have b:(x / 8 % 1000).natAbs.log2<1920:=je (Nat.log2_le_self _) (by omega)
 have f:=PyProof.Rows.int_text_len_1921 b
 have e:(("t" : Str).length:Nat)+(Str.ofString (toString (x / 8 % 1000))).length<=sizeLine:=by
  have:("t" : Str).length=1:=by decide +kernel
  have:sizeLine ≥ 2000:=by decide +kernel
  omega
 obtain ⟨s,hs,d⟩:=zsc x (okS "") (okS "a") (okS "A b:?") (okS "thing") (zyb (okS "t") (okS (toString (x / 8 % 1000))))
 refine ⟨_,(zah (zat (zey zei (zce (zaa zcj (zaa zcj (zaa zcj (zaa zcj (zaa (za4 zru zcj (zfj zop rfl Z.da.n_str zxi (zaa (za4 zcf (za4 zct (pv 0) zal) zal) zag))) zag)))))) (za4 zcf (pv 0) zal) (fun _ _=>rfl)))),?_⟩
 kt_k
 intro p1 c
 generalize a:upd H p1 _=H1
 obtain ⟨s1,e1⟩:=nw c a
 clear a
 kt_k
 exact k s H1 hs s1
def zcc (hs sil:List Int):List Int:=(zau hs).filter fun h=> !decide (h∈sil)
theorem zbk {hs sil:List Int}{x:Int}:x∈zcc hs sil↔x∈hs/\x∉sil:=by
 unfold zcc
 rw [gz]
 refine ⟨fun ⟨a,b⟩=>⟨(zan _).subset a,by simpa using b⟩,fun ⟨a,b⟩=>⟨(zan _).symm.subset a,by simpa using b⟩⟩
def zss:HO->Prop
 | .lst _=>True
 | .tup _=>True
 | .dK _=>True
 | .frz _ _=>True
 | _=>False
theorem zss.nt {o:HO}(h:zss o):∀ ps,o≠ .tbl ps:=fun ps e=>by subst e; exact h
structure Kl (H H':Hp)(O O':Addr->Prop):Prop where
 k:∀ q o,zss o->H q=some o->¬ O q->H' q=some o
 o:∀ q,O' q->O q\/H q=none
 e:∀ q,H' q=none->H q=none
theorem Kl.trans {H H1 H':Hp}{O O1 O':Addr->Prop}(a:Kl H H1 O O1)(b:Kl H1 H' O1 O'):Kl H H' O O':=by
 refine ⟨fun q o ho e hn=>b.k q o ho (a.k q o ho e hn) fun y=>?_,fun q y=>?_,fun q y=>a.e q (b.e q y)⟩
 ·rcases a.o q y with z | z
  ·exact hn z
  ·rw [e] at z
   cases z
 ·rcases b.o q y with z | z
  ·exact a.o q z
  ·exact .inr (a.e q z)
theorem Kl.same {H H':Hp}{O:Addr->Prop}(s:zax H H'):Kl H H' O O:=⟨fun q o _ e _=>s _ _ e,fun _ y=> .inl y,fun _ e=>s.free e⟩
theorem Kl.lst {H H':Hp}{O O':Addr->Prop}(a:Kl H H' O O'){q:Addr}{xs:List V}(e:H q=some (.lst xs))(hn:¬ O q):H' q=some (.lst xs)/\¬ O' q:=⟨a.k q _ trivial e hn,fun y=>(a.o q y).elim hn fun z=>by rw [e] at z; cases z⟩
theorem zaj.past {CB CT CW w td sd:Addr}{H H':Hp}{z r:Int}{hs sil:List Int}{T:Int->zbp}{O:Addr->Prop}(W:zaj CB CT CW H w td sd z r hs sil T)(hO:∀ q,O q->¬ Own td sd z.toNat hs T q/\((∃ x,H q=some (.dK x))\/∃ x,H q=some (.lst x)))(k:∀ q o,H q=some o->¬ O q->H' q=some o):zaj CB CT CW H' w td sd z r hs sil T:=by
 obtain ⟨⟨dx,h1⟩,h2,h3,h4,h5,h6,h7,h8,h9,c,b,a⟩:=W
 have nd:∀ {q:Addr} {C d:Addr} {fs:List (Str × V)},H q=some (.ins C d fs)->¬ O q:=fun {q C d fs} e y=>by
  rcases (hO q y).2 with ⟨x,e2⟩ | ⟨x,e2⟩ <;> rw [e2] at e <;> cases e
 have no:∀ {q:Addr},Own td sd z.toNat hs T q->¬ O q:=fun h y=>(hO _ y).1 h
 refine ⟨⟨dx,k _ _ h1 (nd h1)⟩,k _ _ h2 (no (.inl rfl)),k _ _ h3 (no (.inr (.inl rfl))),fun h hh=>(h4 h hh).only (fun o e=>?_) (fun o e=>k _ _ e (no (.inr (.inr ⟨h,hh,.inl rfl⟩)))) (fun j hj o e=>k _ _ e (no (.inr (.inr ⟨h,hh,.inr ⟨j,hj,.inl rfl⟩⟩)))) (fun j hj o e=>k _ _ e (no (.inr (.inr ⟨h,hh,.inr ⟨j,hj,.inr rfl⟩⟩)))),h5,h6,h7,h8,h9,c,b,a⟩
 obtain ⟨dt,e1⟩:=(h4 h hh).ob
 exact k _ _ e (nd e1)
section
variable {CB CT CW T0 T1 T3 T4:Addr} {H H3:Hp} {w td sd:Addr} {z r:Int} {hs sil pool:List Int} {T:Int->zbp} {dx:Addr × Addr × Int} {ks:List Int} {ad:Int->Addr} {G:Int->List (Int × Th)} {O:Addr->Prop}
theorem zd0.past (X:zd0 CB CT CW T0 T1 T3 T4 H w td sd z r hs sil pool T dx ks ad G)(hO:∀ q,O q->¬ Om td sd z.toNat hs T dx.2.1 ks ad q/\((∃ x,H q=some (.dK x))\/∃ x,H q=some (.lst x)))(k:∀ q o,H q=some o->¬ O q->H3 q=some o):zd0 CB CT CW T0 T1 T3 T4 H3 w td sd z r hs sil pool T dx ks ad G:=by
 have nd:∀ {q:Addr} {o:HO},H q=some o->(∀ x,o≠ .dK x)->(∀ x,o≠ .lst x)->¬ O q:=fun {q o} e h1 h2 y=>by
  rcases (hO q y).2 with ⟨x,e2⟩ | ⟨x,e2⟩ <;> rw [e2] at e
  ·exact h1 x (Option.some.inj e).symm
  ·exact h2 x (Option.some.inj e).symm
 have tt:∀ {Ti:Addr} {po:Pos} {qu:Str},Tab H Ti po qu->Tab H3 Ti po qu:=fun {Ti po qu} t=>Tab.hold t fun q o ho e=>by
  rcases ho with ⟨x,j,rfl⟩ | rfl
  ·exact k q _ e (nd e (fun _ z=>nomatch z) (fun _ z=>nomatch z))
  ·obtain ⟨ps,hp⟩:=za1 t
   rw [hp] at e
   cases e
   exact k _ _ hp (nd hp (fun _ z=>nomatch z) (fun _ z=>nomatch z))
 have no:∀ {q:Addr},Om td sd z.toNat hs T dx.2.1 ks ad q->¬ O q:=fun h y=>(hO _ y).1 h
 refine ⟨⟨X.X.W.past (fun q y=>⟨fun h=>(hO q y).1 (.inl h),(hO q y).2⟩) k,X.X.A,X.X.O,X.X.pq,X.X.pb,X.X.sm,X.X.sn,X.X.n12,tt X.X.t0,tt X.X.t1,tt X.X.t3⟩,k _ _ X.ob (nd X.ob (fun _ z=>nomatch z) (fun _ z=>nomatch z)),X.M.keep fun q o ho e=>k q o e ?_,X.dj,tt X.t4,X.kb,X.gh,X.gn,X.un,X.lt⟩
 rcases ho with y | ⟨j,hj,y⟩ | ⟨xs,y⟩
 ·exact no (.inr (.inl y))
 ·exact no (.inr (.inr ⟨j,hj,y⟩))
 ·subst y
  exact nd e (fun _ z=>nomatch z) (fun _ z=>nomatch z)
theorem zd0.tupM (X:zd0 CB CT CW T0 T1 T3 T4 H w td sd z r hs sil pool T dx ks ad G){q:Addr}{xs:List V}(e:H q=some (.tup xs)):¬ Om td sd z.toNat hs T dx.2.1 ks ad q:=fun y=>by
 rcases y with y | y
 ·exact X.X.W.tupN e y
 ·obtain ⟨d,e2⟩:=X.M.bounds y
  rw [e] at e2
  cases e2
theorem zd0.noneM (X:zd0 CB CT CW T0 T1 T3 T4 H w td sd z r hs sil pool T dx ks ad G){q:Addr}(e:H q=none):¬ Om td sd z.toNat hs T dx.2.1 ks ad q:=fun y=>by
 rcases y with y | y
 ·exact X.X.W.notOwn e y
 ·obtain ⟨d,e2⟩:=X.M.bounds y
  rw [e] at e2
  cases e2
end
def zx7 (K:W.Frag):Sp:=fun vs H Q _=>∃ (a:Addr) (ns:List Int) (k:Int),vs=[.ref a,.int k]/\SqL K H a (ns.map V.int)/\0<=k/\∀ c:Int,Q (.int c) H
theorem eqT {a b:Int}(c:decide (V.int a=V.int b)=true):a=b:=V.int.inj (of_decide_eq_true c)
theorem eqF {a b:Int}(c:¬ decide (V.int a=V.int b)=true):¬ a=b:=fun y=>c (decide_eq_true (congrArg V.int y))
def zny (c k:Int):Int:=(((c % 2147483629+48271 * (k+1)) % 2147483647 * ((c % 2147483629+48271 * (k+1)) % 2147483647)+69621 * k+7) % 2147483587) * (((c % 2147483629+48271 * (k+1)) % 2147483647 * ((c % 2147483629+48271 * (k+1)) % 2147483647)+69621 * k+7) % 2147483587) % 2147483579
def zox (c k:Int)(b:Bool):Int:=if b=true then c % 10 ^ 60 else (zny (c % 10 ^ 60) k * 2147483629+zny (c % 10 ^ 60) (k+64)) * 2147483629+zny (c % 10 ^ 60) (k+128)
def zfe (x z b:Int):Int:=if x / (1 * 2 ^ z.toNat) % 2=1 then Builtin.bitXor b (x % 16) % (1 * 2 ^ z.toNat) else x % (1 * 2 ^ z.toNat)
def z1i:Sp:=fun vs H Q _=>∃ (c k:Int) (b:Bool),vs=[.int c,.int k,.bl b]/\Q (.int (zox c k b)) H
def zz3 (K:W.Frag):Sp:=fun vs H Q _=>∃ (a:Addr) (ss:List Int),vs=[.ref a]/\SqL K H a (ss.map V.int)/\∀ (p:Addr) (z r:Int) (b:Bool) (H':Hp),1<=z->z<=60->1<=r->r<=8->zax H H'->H' p=some (.tup [.int z,.int r,.bl b])->Q (.ref p) H'
def z1c:Sp:=fun vs H Q _=>∃ x z b:Int,vs=[.int x,.int z,.int b]/\1<=z/\z<=60/\(0<=zfe x z b->zfe x z b<2 ^ z.toNat->Q (.int (zfe x z b)) H)
theorem zzo {z:Int}(h1:1<=z)(h2:z<=60):(0:Int)<1 * 2 ^ z.toNat/\(1:Int) * 2 ^ z.toNat<=2 ^ 60:=by
 have a:(2 ^ z.toNat:Nat)<=2 ^ 60:=Nat.pow_le_pow_right (by decide) (by omega)
 have b:=two_pow_pos z.toNat
 have e1:((2 ^ z.toNat:Nat):Int)=2 ^ z.toNat:=by simp
 have e2:((2 ^ 60:Nat):Int)=2 ^ 60:=by simp
 omega
theorem zum (x:Int):∃ z,1<=z/\z<=60/\atI [V.int 3,V.int 4,V.int 5,V.int 6,V.int 8,V.int 60] (x % 6)=some (V.int z):=by
 have h:x % 6=0\/x % 6=1\/x % 6=2\/x % 6=3\/x % 6=4\/x % 6=5:=by omega
 rcases h with h | h | h | h | h | h <;> rw [h]
 ·exact ⟨3,by decide,by decide,rfl⟩
 ·exact ⟨4,by decide,by decide,rfl⟩
 ·exact ⟨5,by decide,by decide,rfl⟩
 ·exact ⟨6,by decide,by decide,rfl⟩
 ·exact ⟨8,by decide,by decide,rfl⟩
 ·exact ⟨60,by decide,by decide,rfl⟩
theorem ztq (x:Int):∃ r,1<=r/\r<=8/\atI [V.int 1,V.int 2,V.int 2,V.int 3,V.int 8] (x / 6 % 5)=some (V.int r):=by
 have h:x / 6 % 5=0\/x / 6 % 5=1\/x / 6 % 5=2\/x / 6 % 5=3\/x / 6 % 5=4:=by omega
 rcases h with h | h | h | h | h <;> rw [h]
 ·exact ⟨1,by decide,by decide,rfl⟩
 ·exact ⟨2,by decide,by decide,rfl⟩
 ·exact ⟨2,by decide,by decide,rfl⟩
 ·exact ⟨3,by decide,by decide,rfl⟩
 ·exact ⟨8,by decide,by decide,rfl⟩
theorem zo3:zam ["_law_script","_law_k"] ["_law_script","_law_k"] (zai (top 29)):=fS
theorem zj_ (Z:ZZ P w K mg base):zld Z 1 Z.cx (zx7 K):=by
 refine Z.cx.fn.ok zo3 (by kd_p) (fun cdv A outer s H vs Q E hr h=>?_)
 obtain ⟨a,ns,i,rfl,hS,hi,k⟩:=h
 refine ⟨_,(zac (zbz (zav zrd (pv 1) (zbf zbh rfl Z.da.n_len zf_ (zaa (pv 0) zag)) (za6 _))
   (zah (zat (zey zei (pv 0) (pv 1) (fun _ _=>rfl))))
   zay)
  (zah (zat zal))),?_⟩
 kt_k
 refine z2y (fun c=>?_) (fun c=>?_)
 ·have c':=of_decide_eq_true c
  rw [gf] at c'
  have b:i.toNat<ns.length:=by omega
  have d:atI (ns.map V.int) i=some (V.int ns[i.toNat]):=by
   have e:((i.toNat:Nat):Int)=i:=by omega
   have z:=zml (xs:=ns.map V.int) (j:=i.toNat) (v:=V.int ns[i.toNat]) (by simp [b])
   rwa [e] at z
  kt_k
  exact k _
 ·exact k 0
def zwp:Sp:=fun vs H Q _=>∃ c k:Int,vs=[.int c,.int k]/\Q (.int (zny c k)) H
theorem zje:zam ["_law_cell","_law_k","_law_number"] ["_law_cell","_law_k"] (zai (top 30)):=fS
theorem zos (Z:ZZ P w K mg base):zld Z 1 Z.cz zwp:=by
 refine Z.cz.fn.ok zje (by kd_p) (fun cdv A outer s H vs Q E hr h=>?_)
 obtain ⟨c,i,rfl,k⟩:=h
 refine ⟨_,(zac (zaw (i:=2) zje.nd rfl oL (za4 zcf (za4 zfb (za4 zcf (pv 0) zal) (za4 zlh zal (za4 zfb (pv 1) zal))) zal))
  (zac (zaw (i:=2) zje.nd rfl oL (za4 zcf (za4 zfb (za4 zfb (za4 zlh (pv 2) (pv 2)) (za4 zlh zal (pv 1))) zal) zal))
  (zah (zat (za4 zcf (za4 zlh (pv 2) (pv 2)) zal))))),?_⟩
 kt_k
theorem zm_:zam ["_law_cell","_law_k","_law_plain","_law_number"] ["_law_cell","_law_k","_law_plain"] (zai (top 31)):=fS
theorem zvy (Z:ZZ P w K mg base):zld Z 2 Z.c0 z1i:=by
 have a:=zos Z
 refine Z.c0.fn.ok zm_ (by kd_p) (fun cdv A outer s H vs Q E hr h=>?_)
 obtain ⟨c,i,b,rfl,k⟩:=h
 refine ⟨_,(zac (zaw (i:=0) zm_.nd rfl oL (za4 zcf (pv 0) (za4 z01 zal zal)))
  (zac (zbz (zd2 (pv 2))
   (zah (zat (pv 0)))
   zay)
  (zac (zaw (i:=3) zm_.nd rfl oL (za4 zfb (za4 zlh (pfD Z.cz a hr rfl (zaa (pv 0) (zaa (pv 1) zag))) zal) (pfD Z.cz a hr rfl (zaa (pv 0) (zaa (za4 zfb (pv 1) zal) zag)))))
  (zah (zat (za4 zfb (za4 zlh (pv 3) zal) (pfD Z.cz a hr rfl (zaa (pv 0) (zaa (za4 zfb (pv 1) zal) zag))))))))),?_⟩
 kt_k
 unfold zox at k
 refine z2y (fun c=>?_) (fun c=>?_)
 ·rw [if_pos c] at k
  kt_k
 ·rw [if_neg c] at k
  kt_k
theorem zn6:zam ["_law_script","_law_x"] ["_law_script"] (zai (top 32)):=fS
theorem zty (Z:ZZ P w K mg base):zld Z 2 Z.c1 (zz3 K):=by
 have j:=zos Z
 have g:=zj_ Z
 refine Z.c1.fn.ok zn6 (by kd_p) (fun cdv A outer s H vs Q E hr h=>?_)
 obtain ⟨a,ss,rfl,hS,k⟩:=h
 refine ⟨_,(zac (zaw (i:=1) zn6.nd rfl oL (pfD Z.cz j hr rfl (zaa (pfD Z.cx g hr rfl (zaa (pv 0) (zaa zal zag))) (zaa zal zag))))
  (zah (zat (zno (zaa (zey zei (zce (zaa zal (zaa zal (zaa zal (zaa zal (zaa zal (zaa zal zag))))))) (za4 zcf (pv 1) zal) (fun _ _=>rfl)) (zaa (zey zei (zce (zaa zal (zaa zal (zaa zal (zaa zal (zaa zal zag)))))) (za4 zcf (za4 zct (pv 1) zal) zal) (fun _ _=>rfl)) (zaa (zj1 zmm (za4 zcf (za4 zct (pv 1) zal) zal) zal (za6 _)) zag))))))),?_⟩
 kt_k
 intro c
 kt_k
 generalize zny c 0=x
 obtain ⟨z,l,m,az⟩:=zum x
 obtain ⟨r,o,f,ar⟩:=ztq x
 kt_k
 intro p1 p
 generalize d:upd H p1 _=H1
 obtain ⟨s1,e1⟩:=nw p d
 clear d
 kt_k
 intro p2 e
 generalize b:upd H1 p2 _=H2
 obtain ⟨s2,e2⟩:=nw e b
 clear b
 kt_k
 intro p3 n
 exact k p3 z r _ _ l m o f ((s1.trans s2).lay n) zad
theorem zqa:zam ["_law_x","_law_wide","_law_base","_law_many"] ["_law_x","_law_wide","_law_base"] (zai (top 33)):=fS
theorem zqj (Z:ZZ P w K mg base):zld Z 1 Z.c2 z1c:=by
 refine Z.c2.fn.ok zqa (by kd_p) (fun cdv A outer s H vs Q E hr h=>?_)
 obtain ⟨x,z,b,rfl,a,d,k⟩:=h
 obtain ⟨q1,q2⟩:=zzo a d
 have em:∀ y:Int,0<=y % (1 * 2 ^ z.toNat)/\y % (1 * 2 ^ z.toNat)<2 ^ z.toNat:=fun y=>by
  have a1:=Int.emod_nonneg y (Int.ne_of_gt q1)
  have a2:=Int.emod_lt_of_pos y q1
  exact ⟨a1,by rw [Int.one_mul] at a2 |-; exact a2⟩
 refine ⟨_,(zac (zaw (i:=3) zqa.nd rfl oL (za4 zt3 zal (pv 1)))
  (zac (zbz (zav zmm (za4 zcf (za4 zct (pv 0) (pv 3)) zal) zal (za6 _))
   (zah (zat (za4 zcf (za4 zxd (pv 2) (za4 zcf (pv 0) zal)) (pv 3))))
   zay)
  (zah (zat (za4 zcf (pv 0) (pv 3)))))),?_⟩
 unfold zfe at k
 kt_k
 refine z2y (fun c=>?_) (fun c=>?_)
 ·rw [if_pos (eqT c)] at k
  kt_k
  exact k (em _).1 (em _).2
 ·rw [if_neg (eqF c)] at k
  kt_k
  exact k (em _).1 (em _).2
theorem zz0 {h:Int}{ks:List Int}(hn:ks.Nodup):(zix h ks).Nodup:=by
 unfold zix
 exact ((zan ks).nodup_iff.mpr hn).sublist j8
section
variable {CB CT CW T0 T1 T3 T4:Addr} {H H3:Hp} {w td sd:Addr} {z r:Int} {hs sil pool:List Int} {T:Int->zbp} {dx:Addr × Addr × Int} {ks:List Int} {ad:Int->Addr} {G:Int->List (Int × Th)}
theorem zd0.kl_dicts {hs' sil':List Int}(X:zd0 CB CT CW T0 T1 T3 T4 H w td sd z r hs sil pool T dx ks ad G)(hm:∀ x∈hs',x∈hs)(W3:zaj CB CT CW H3 w td sd z r hs' sil' T)(k3:∀ q o,H q=some o->q≠td->q≠sd->H3 q=some o):Kl H H3 (Om td sd z.toNat hs T dx.2.1 ks ad) (Om td sd z.toNat hs' T dx.2.1 ks ad):=by
 refine ⟨fun q o _ e hn=>k3 q o e (fun y=>hn (.inl (.inl y))) (fun y=>hn (.inl (.inr (.inl y)))),fun q y=> .inl ?_,fun q e=>?_⟩
 ·rcases y with y | y
  ·rcases y with y | y | ⟨h,hh,y⟩
   ·exact .inl (.inl y)
   ·exact .inl (.inr (.inl y))
   ·exact .inl (.inr (.inr ⟨h,hm h hh,y⟩))
  ·exact .inr y
 ·cases eq:H q with
  | none=>rfl
  | some o =>
   by_cases y:q=td
   ·rw [y,W3.tb] at e
    cases e
   ·by_cases y2:q=sd
    ·rw [y2,W3.si] at e
     cases e
    ·rw [k3 q o eq y y2] at e
     cases e
end
structure TwS where
 hs:List Int
 sil:List Int
 pool:List Int
 N:Int->Nat->List Int
noncomputable def z2q (h:Int) (E:Int->Int->Prop) (d:Int):List Int:=zix h (Classical.epsilon fun ks:List Int=>ks.Nodup/\∀ x,x∈ks↔Rch E d x)
theorem zui {h d:Int}{E:Int->Int->Prop}{ks:List Int}(h1:ks.Nodup)(h2:∀ x,x∈ks↔Rch E d x):zix h ks=z2q h E d:=by
 have e:=Classical.epsilon_spec (p:=fun ks:List Int=>ks.Nodup/\∀ x,x∈ks↔Rch E d x) ⟨ks,h1,h2⟩
 unfold z2q zix
 rw [zwt (zzc h1 e.1 fun x=>by rw [h2,e.2])]
noncomputable def z3_ (tl:Int->Option (List Int)) (i g:Int) (rm:Nat):List Int:=Classical.epsilon fun rest:List Int=>Row tl i g rm (i :: rest)/\zcy tl i g rm (i :: rest)=none
theorem zpr {tl:Int->Option (List Int)}{i g:Int}{rm:Nat}{rest:List Int}(h1:Row tl i g rm (i :: rest))(h2:zcy tl i g rm (i :: rest)=none):rest=z3_ tl i g rm:=by
 have e:=Classical.epsilon_spec (p:=fun rest:List Int=>Row tl i g rm (i :: rest)/\zcy tl i g rm (i :: rest)=none) ⟨rest,h1,h2⟩
 exact (List.cons.inj (h1.det e.1 h2 e.2)).2
def zky (l:List Int)(c:Int):Int:=match atI (l.map V.int) (c % (((l.map V.int).length:Nat):Int)) with | some (.int h)=>h | _=>0
theorem zuv {l:List Int}{c:Int}(h0:l≠[]):zky l c∈l/\atI (l.map V.int) (c % (((l.map V.int).length:Nat):Int))=some (V.int (zky l c)):=by
 obtain ⟨h,h1,h2⟩:=zkd (c:=c) h0
 have e:zky l c=h:=by
  unfold zky
  rw [h2]
 rw [e]
 exact ⟨h1,h2⟩
noncomputable def zoh (z r n:Int) (dv:Option Int) (s:TwS):TwS:=⟨s.hs++[n],s.sil,s.pool++[n],zbu r (awB (s.hs++[n]) s.sil) (zkf s.N n) n (match dv with | none=>[] | some d=>z2q n (zr0 z.toNat (awB (s.hs++[n]) s.sil) (zkf s.N n)) d)⟩
noncomputable def zxy (z r h g:Int) (s:TwS):TwS:=⟨s.hs,s.sil,s.pool,zcr r (awB s.hs s.sil) (fun i=>zaq z r s.hs s.sil s.N g i h) s.N h (z3_ (fun i=>zaq z r s.hs s.sil s.N g i h) h g r.toNat)⟩
noncomputable def zg9 (z r mo x b:Int) (s:TwS):TwS :=
 if zfe x z b∈s.hs\/¬ ((s.hs.length:Nat):Int)<mo then s else zoh z r (zfe x z b) (if zcc s.hs s.sil=[] then none else some (zky (zcc s.hs s.sil) (x / 2 / (1 * 2 ^ z.toNat)))) s
structure Km (w:Addr)(H H':Hp)(O O':Addr->Prop):Prop where
 k:∀ q o,(∀ ps,o≠ .tbl ps)->H q=some o->¬ O q->q≠w->H' q=some o
 o:∀ q,O' q->O q\/H q=none
 e:∀ q,H' q=none->H q=none
theorem Km.trans {w:Addr}{H H1 H':Hp}{O O1 O':Addr->Prop}(a:Km w H H1 O O1)(b:Km w H1 H' O1 O'):Km w H H' O O':=by
 refine ⟨fun q o ho e hn hw=>b.k q o ho (a.k q o ho e hn hw) (fun y=>?_) hw,fun q y=>?_,fun q y=>a.e q (b.e q y)⟩
 ·rcases a.o q y with z | z
  ·exact hn z
  ·rw [e] at z
   cases z
 ·rcases b.o q y with z | z
  ·exact a.o q z
  ·exact .inr (a.e q z)
theorem Km.same {w:Addr}{H H':Hp}{O:Addr->Prop}(s:zax H H'):Km w H H' O O:=⟨fun q o _ e _ _=>s _ _ e,fun _ y=> .inl y,fun _ e=>s.free e⟩
theorem Km.kl {w:Addr}{H H':Hp}{O O':Addr->Prop}(d:Km w H H' O O'){C dx:Addr}{fs:List (Str × V)}(h:H w=some (.ins C dx fs)):Kl H H' O O':=⟨fun q o ho e hn=>d.k q o ho.nt e hn (fun y=>by
 rw [y,h] at e
 cases e
 exact ho),d.o,d.e⟩
theorem zaj.insOff {CB CT CW w td sd:Addr}{H:Hp}{z r:Int}{hs sil:List Int}{T:Int->zbp}(W:zaj CB CT CW H w td sd z r hs sil T){q C dx:Addr}{fs:List (Str × V)}(e:H q=some (.ins C dx fs))(hf:fs.length≠2):¬ Own td sd z.toNat hs T q:=fun y=>by
 rcases y with rfl | rfl | ⟨g,hg,rfl | ⟨j,hj,rfl | rfl⟩⟩
 ·rw [W.tb] at e
  cases e
 ·rw [W.si] at e
  cases e
 ·rw [(W.ta g hg).li] at e
  cases e
 ·obtain ⟨⟨d,e1⟩,_⟩:=(W.ta g hg).bk j hj
  rw [e1] at e
  cases e
  exact hf rfl
 ·rw [((W.ta g hg).bk j hj).li] at e
  cases e
section
variable {CB CT CW T0 T1 T3 T4:Addr} {H H':Hp} {w td sd v ud vd:Addr} {z r:Int} {hs sil pool hs' sil' pool' hs2 sil2 pool2:List Int} {T T' U:Int->zbp} {dx dx' dy:Addr × Addr × Int} {ks ks' lk:List Int} {ad ad' bd:Int->Addr} {G G' B:Int->List (Int × Th)}
theorem zd0.insM (X:zd0 CB CT CW T0 T1 T3 T4 H w td sd z r hs sil pool T dx ks ad G){q C d:Addr}{fs:List (Str × V)}(e:H q=some (.ins C d fs))(hf:fs.length≠2):¬ Om td sd z.toNat hs T dx.2.1 ks ad q:=fun y=>by
 rcases y with y | y
 ·exact X.X.W.insOff e hf y
 ·obtain ⟨d,e2⟩:=X.M.bounds y
  rw [e] at e2
  cases e2
theorem zd0.beside (X:zd0 CB CT CW T0 T1 T3 T4 H w td sd z r hs sil pool T dx ks ad G)(Y:zd0 CB CT CW T0 T1 T3 T4 H v ud vd z r hs2 sil2 pool2 U dy lk bd B){td' sd':Addr}(X':zd0 CB CT CW T0 T1 T3 T4 H' w td' sd' z r hs' sil' pool' T' dx' ks' ad' G')(d:Km w H H' (Om td sd z.toNat hs T dx.2.1 ks ad) (Om td' sd' z.toNat hs' T' dx'.2.1 ks' ad'))(sp:∀ q,Om td sd z.toNat hs T dx.2.1 ks ad q->¬ Om ud vd z.toNat hs2 U dy.2.1 lk bd q)(vw:v≠w) :
  zd0 CB CT CW T0 T1 T3 T4 H' v ud vd z r hs2 sil2 pool2 U dy lk bd B/\∀ q,Om td' sd' z.toNat hs' T' dx'.2.1 ks' ad' q->¬ Om ud vd z.toNat hs2 U dy.2.1 lk bd q:=by
 have a:∀ {q:Addr},Om ud vd z.toNat hs2 U dy.2.1 lk bd q->¬ Om td sd z.toNat hs T dx.2.1 ks ad q:=fun y y2=>sp _ y2 y
 have nw:∀ {q:Addr} {o:HO},H q=some o->(∀ C d fs,o = .ins C d fs->fs.length≠6)->q≠w:=fun {q o} e h y=>by
  rw [y,X.ob] at e
  exact h _ _ _ (Option.some.inj e).symm rfl
 have kk:∀ {q:Addr} {x:HO},H q=some x->(∀ ps,x≠ .tbl ps)->¬ Om td sd z.toNat hs T dx.2.1 ks ad q->q≠w->∀ o,H q=some o->H' q=some o:=fun {q x} hx hn hq hw o e=>d.k q o (fun ps y=>hn ps ((Option.some.inj (hx.symm.trans e)).trans y)) e hq hw
 have W2:zaj CB CT CW H' v ud vd z r hs2 sil2 U:=by
  obtain ⟨⟨dx,h1⟩,h2,h3,h4,h5,h6,h7,h8,h9,c,b,f⟩:=Y.X.W
  refine ⟨⟨dx,kk h1 (fun _ z=>nomatch z) (X.insM h1 (show (6:Nat)≠2 by decide)) vw _ h1⟩,kk h2 (fun _ z=>nomatch z) (a (.inl (.inl rfl))) (nw h2 fun _ _ _ z=>nomatch z) _ h2,kk h3 (fun _ z=>nomatch z) (a (.inl (.inr (.inl rfl)))) (nw h3 fun _ _ _ z=>nomatch z) _ h3,fun g hg=>?_,h5,h6,h7,h8,h9,c,b,f⟩
  have Tg:=h4 g hg
  obtain ⟨dt,e1⟩:=Tg.ob
  refine Tg.only (kk e1 (fun _ z=>nomatch z) (X.insM e1 (show (4:Nat)≠2 by decide)) (nw e1 fun C d fs y=>by cases y; exact (show (4:Nat)≠6 by decide))) (kk Tg.li (fun _ z=>nomatch z) (a (.inl (.inr (.inr ⟨g,hg,.inl rfl⟩)))) (nw Tg.li fun _ _ _ z=>nomatch z)) (fun j hj=>?_) fun j hj=>kk (Tg.bk j hj).li (fun _ z=>nomatch z) (a (.inl (.inr (.inr ⟨g,hg,.inr ⟨j,hj,.inr rfl⟩⟩)))) (nw (Tg.bk j hj).li fun _ _ _ z=>nomatch z)
  obtain ⟨⟨d,e2⟩,_⟩:=Tg.bk j hj
  exact kk e2 (fun _ z=>nomatch z) (a (.inl (.inr (.inr ⟨g,hg,.inr ⟨j,hj,.inl rfl⟩⟩)))) (nw e2 fun C d fs y=>by cases y; exact (show (2:Nat)≠6 by decide))
 refine ⟨⟨⟨W2,Y.X.A,Y.X.O,Y.X.pq,Y.X.pb,Y.X.sm,Y.X.sn,Y.X.n12,X'.X.t0,X'.X.t1,X'.X.t3⟩,d.k _ _ (fun _ z=>nomatch z) Y.ob (X.insM Y.ob (show (6:Nat)≠2 by decide)) vw,Y.M.keep fun q o ho e=>?_,Y.dj,X'.t4,Y.kb,Y.gh,Y.gn,Y.un,Y.lt⟩,fun q y y2=>?_⟩
 ·rcases ho with y | ⟨j,hj,y⟩ | ⟨xs,y⟩
  ·have e2:=Y.M.tg
   rw [y] at e |-
   exact kk e2 (fun _ z=>nomatch z) (a (.inr (.inl rfl))) (nw e2 fun _ _ _ z=>nomatch z) _ e
  ·have e2:=Y.M.it j hj
   rw [y] at e |-
   exact kk e2 (fun _ z=>nomatch z) (a (.inr (.inr ⟨j,hj,rfl⟩))) (nw e2 fun _ _ _ z=>nomatch z) _ e
  ·subst y
   exact d.k _ _ (fun _ z=>nomatch z) e (X.tupM e) (nw e fun _ _ _ z=>nomatch z)
 ·rcases d.o q y with z | z
  ·exact sp q z y2
  ·exact Y.noneM z y2
end
structure MD where
 td:Addr
 sd:Addr
 T:Int->zbp
 dx:Addr × Addr × Int
 ks:List Int
 ad:Int->Addr
 G:Int->List (Int × Th)
def MD.O (m:MD)(z:Int)(hs:List Int):Addr->Prop:=Om m.td m.sd z.toNat hs m.T m.dx.2.1 m.ks m.ad
structure MS (CB CT CW T0 T1 T3 T4:Addr)(H:Hp)(w:Addr)(z r:Int)(s:TwS)(m:MD):Prop where
 X:zd0 CB CT CW T0 T1 T3 T4 H w m.td m.sd z r s.hs s.sil s.pool m.T m.dx m.ks m.ad m.G
 n:(fun g=>(m.T g).ns)=s.N
structure Tw (CB CT CW T0 T1 T3 T4:Addr)(H:Hp)(w v:Addr)(z r:Int)(s:TwS)(m p:MD):Prop where
 a:MS CB CT CW T0 T1 T3 T4 H w z r s m
 b:MS CB CT CW T0 T1 T3 T4 H v z r s p
 sp:∀ q,m.O z s.hs q->¬ p.O z s.hs q
 vw:v≠w
section
variable {CB CT CW T0 T1 T3 T4:Addr} {H H1 H3 H4:Hp} {w v:Addr} {z r:Int} {s s':TwS} {m m' p p':MD}
theorem MS.same (X:MS CB CT CW T0 T1 T3 T4 H w z r s m)(h:zax H H1):MS CB CT CW T0 T1 T3 T4 H1 w z r s m:=⟨X.X.same h,X.n⟩
theorem Tw.same (X:Tw CB CT CW T0 T1 T3 T4 H w v z r s m p)(h:zax H H1):Tw CB CT CW T0 T1 T3 T4 H1 w v z r s m p:=⟨X.a.same h,X.b.same h,X.sp,X.vw⟩
structure Tw1 (CB CT CW T0 T1 T3 T4:Addr)(H:Hp)(w v:Addr)(z r:Int)(s s':TwS)(m p:MD):Prop where
 a:MS CB CT CW T0 T1 T3 T4 H w z r s' m
 b:MS CB CT CW T0 T1 T3 T4 H v z r s p
 sp:∀ q,m.O z s'.hs q->¬ p.O z s.hs q
 vw:v≠w
theorem Tw.first (X:Tw CB CT CW T0 T1 T3 T4 H w v z r s m p)(A:MS CB CT CW T0 T1 T3 T4 H1 w z r s' m')(d:Km w H H1 (m.O z s.hs) (m'.O z s'.hs)):Tw1 CB CT CW T0 T1 T3 T4 H1 w v z r s s' m' p/\Kl H H1 (fun q=>m.O z s.hs q\/p.O z s.hs q) (fun q=>m'.O z s'.hs q\/p.O z s.hs q):=by
 obtain ⟨B1,c⟩:=X.a.X.beside X.b.X A.X d X.sp X.vw
 have kl:=d.kl X.a.X.ob
 exact ⟨⟨A,⟨B1,X.b.n⟩,c,X.vw⟩,fun q o ho e hn=>kl.k q o ho e fun y=>hn (.inl y),fun q y=>y.elim (fun y=>(d.o q y).imp .inl id) fun y=> .inl (.inr y),d.e⟩
theorem Tw1.second (X:Tw1 CB CT CW T0 T1 T3 T4 H w v z r s s' m p)(B:MS CB CT CW T0 T1 T3 T4 H1 v z r s' p')(d:Km v H H1 (p.O z s.hs) (p'.O z s'.hs)):Tw CB CT CW T0 T1 T3 T4 H1 w v z r s' m p'/\Kl H H1 (fun q=>m.O z s'.hs q\/p.O z s.hs q) (fun q=>m.O z s'.hs q\/p'.O z s'.hs q):=by
 obtain ⟨A1,c⟩:=X.b.X.beside X.a.X B.X d (fun q y y2=>X.sp q y2 y) X.vw.symm
 have kl:=d.kl X.b.X.ob
 exact ⟨⟨⟨A1,X.a.n⟩,B,fun q y y2=>c q y2 y,X.vw⟩,fun q o ho e hn=>kl.k q o ho e fun y=>hn (.inr y),fun q y=>y.elim (fun y=> .inl (.inl y)) fun y=>(d.o q y).imp .inr id,d.e⟩
theorem MS.hush (X:MS CB CT CW T0 T1 T3 T4 H w z r s m){h:Int}(hh:h∈s.hs)(W3:zaj CB CT CW H3 w m.td m.sd z r s.hs (zc5 h s.sil) m.T)(k3:∀ q o,H q=some o->q≠m.td->q≠m.sd->H3 q=some o):MS CB CT CW T0 T1 T3 T4 H3 w z r ⟨s.hs,zc5 h s.sil,s.pool,s.N⟩ m/\Km w H H3 (m.O z s.hs) (m.O z s.hs):=by
 have kl:=X.X.kl_dicts (fun x hx=>hx) W3 k3
 exact ⟨⟨X.X.hushed hh W3 k3,X.n⟩,fun q o _ e hn _=>k3 q o e (fun y=>hn (.inl (.inl y))) (fun y=>hn (.inl (.inr (.inl y)))),fun q y=> .inl y,kl.e⟩
theorem MS.ask (X:MS CB CT CW T0 T1 T3 T4 H w z r s m)(hp:s.pool.length<=60)(n0:T0≠T4)(n1:T1≠T4)(n3:T3≠T4){i g:Int}{rest:List Int}{T':Int->zbp}(hi:i∈s.hs)(hR:Row (fun h=>zaq z r s.hs s.sil (fun h=>(m.T h).ns) g h i) i g r.toNat (i :: rest))(hx:zcy (fun h=>zaq z r s.hs s.sil (fun h=>(m.T h).ns) g h i) i g r.toNat (i :: rest)=none)(W3:zaj CB CT CW H3 w m.td m.sd z r s.hs s.sil T')(A3:zb4 z.toNat s.hs T')
  (e3:(fun g=>(T' g).ns)=zcr r (awB s.hs s.sil) (fun h=>zaq z r s.hs s.sil (fun h=>(m.T h).ns) g h i) (fun h=>(m.T h).ns) i rest)(d3:z0j T0 T1 T3 H H3 (Own m.td m.sd z.toNat s.hs m.T) (Own m.td m.sd z.toNat s.hs T')):MS CB CT CW T0 T1 T3 T4 H3 w z r (zxy z r i g s) ⟨m.td,m.sd,T',m.dx,m.ks,m.ad,m.G⟩/\Km w H H3 (m.O z s.hs) (Om m.td m.sd z.toNat s.hs T' m.dx.2.1 m.ks m.ad):=by
 have q:=Mq.asked (gd:=m.dx.2.1) (ks:=m.ks) (ad:=m.ad) X.X.X.W n0 n1 n3 X.X.t4 d3
 refine ⟨⟨X.X.asked n0 n1 n3 hp hi hR W3 A3 e3 d3,?_⟩,fun _ _ ho e hn _=>q.k _ _ ho e hn,q.o,q.e⟩
 rw [zpr hR hx] at e3
 rw [X.n] at e3
 exact e3
theorem MS.go (X:MS CB CT CW T0 T1 T3 T4 H w z r s m){h:Int}(W3:zaj CB CT CW H3 w m.td m.sd z r (zf0 h s.hs) (zf0 h s.sil) m.T)(k3:∀ q o,H q=some o->q≠m.td->q≠m.sd->H3 q=some o)(M4:zco H4 m.dx.2.1 m.ks m.ad (fun k=>zk8 (m.G k) h))(d4:∀ T1,zd1 T1 H3 H4 (Ng m.dx.2.1 m.ks m.ad) (Ng m.dx.2.1 m.ks m.ad)) :
  MS CB CT CW T0 T1 T3 T4 H4 w z r ⟨zf0 h s.hs,zf0 h s.sil,s.pool,s.N⟩ ⟨m.td,m.sd,m.T,m.dx,m.ks,m.ad,fun k=>zk8 (m.G k) h⟩/\Km w H H4 (m.O z s.hs) (m.O z (zf0 h s.hs)):=by
 have kl:=X.X.kl_dicts (fun x hx=>(zb_.mp hx).1) W3 k3
 have k1:Km w H H3 (m.O z s.hs) (m.O z (zf0 h s.hs)):=⟨fun q o _ e hn _=>k3 q o e (fun y=>hn (.inl (.inl y))) (fun y=>hn (.inl (.inr (.inl y)))),kl.o,kl.e⟩
 have k2:Km w H3 H4 (m.O z (zf0 h s.hs)) (m.O z (zf0 h s.hs)):=⟨fun q o ho e hn _=>(d4 0).k q o ho e fun y=>hn (.inr y),fun q y=> .inl y,(d4 0).e⟩
 exact ⟨⟨X.X.gone W3 k3 M4 d4,X.n⟩,k1.trans k2⟩
theorem MS.come (X:MS CB CT CW T0 T1 T3 T4 H w z r s m)(hk:m.ks=[])(n0:T0≠T3)(n1:T1≠T3)(n4:T4≠T3)(n14:T1≠T4)(n34:T3≠T4)(n01:T0≠T1){n:Int}(h12:s.hs.length<12)(hn0:0<=n)(hn1:n<2 ^ z.toNat){dv:V}{od:Option Int}(hd:(dv = .non/\od=none)\/∃ d,dv = .int d/\od=some d/\d∈s.hs){vis:List Int}{T':Int->zbp}{G':Int->List (Int × Th)}
  (a1:dv = .non->vis=[])(a2:∀ d,dv = .int d->∃ ks:List Int,ks.Nodup/\(∀ x,x∈ks↔Rch (zr0 z.toNat (awB (s.hs++[n]) s.sil) (zkf (fun g=>(m.T g).ns) n)) d x)/\vis=zix n ks)
  (W3:zaj CB CT CW H3 w m.td m.sd z r (s.hs++[n]) s.sil T')(A3:zb4 z.toNat (s.hs++[n]) T')(e3:(fun g=>(T' g).ns)=zbu r (awB (s.hs++[n]) s.sil) (zkf (fun g=>(m.T g).ns) n) n vis)(d3:zd1 T3 H H3 (Own m.td m.sd z.toNat s.hs m.T) (Own m.td m.sd z.toNat (s.hs++[n]) T'))(t3:Tab H3 T3 (zao zdz) quH)(M4:zco H4 m.dx.2.1 m.ks m.ad G')(kw:Kw T0 T4 (Ng m.dx.2.1 m.ks m.ad) H3 H4) :
  MS CB CT CW T0 T1 T3 T4 H4 w z r (zoh z r n od s) ⟨m.td,m.sd,T',m.dx,m.ks,m.ad,G'⟩/\Km w H H4 (m.O z s.hs) (Om m.td m.sd z.toNat (s.hs++[n]) T' m.dx.2.1 m.ks m.ad):=by
 have hv:(∀ x∈vis,x∈s.hs++[n]/\x≠n)/\zbu r (awB (s.hs++[n]) s.sil) (zkf s.N n) n vis=(zoh z r n od s).N:=by
  rcases hd with ⟨rfl,rfl⟩ | ⟨d,rfl,rfl,hd⟩
  ·rw [a1 rfl]
   exact ⟨fun x hx=>(nomatch hx),rfl⟩
  ·obtain ⟨kk,b1,b2,rfl⟩:=a2 d rfl
   refine ⟨ztd b2 (gr _ hd),?_⟩
   rw [zui b1 b2,X.n]
   rfl
 have X3:=X.X.came n0 n1 n4 h12 ⟨hn0,hn1⟩ hv.1 W3 A3 e3 d3 t3
 have st:∀ k∈m.ks,zhk r n vis k (m.G k) (G' k):=fun k a=>by
  rw [hk] at a
  cases a
 have X4:=X3.settled n14 n34 n01 n0 (g7 _ (gb.mpr rfl)) M4 st kw
 have kl:Km w H H3 (m.O z s.hs) (Om m.td m.sd z.toNat (s.hs++[n]) T' m.dx.2.1 m.ks m.ad):=⟨fun q o ho e hn _=>d3.k q o ho e fun y=>hn (.inl y),fun q y=>y.elim (fun y=>(d3.o q y).imp .inl id) fun y=> .inl (.inr y),d3.e⟩
 have k2:Km w H3 H4 (Om m.td m.sd z.toNat (s.hs++[n]) T' m.dx.2.1 m.ks m.ad) (Om m.td m.sd z.toNat (s.hs++[n]) T' m.dx.2.1 m.ks m.ad):=⟨fun q o ho e hn _=>kw.k q o (fun y=>by
  obtain ⟨ps,hp⟩:=za1 X3.X.t0
  rw [y,hp] at e
  exact ho ps (Option.some.inj e).symm) (fun y=>by
  obtain ⟨ps,hp⟩:=za1 X3.t4
  rw [y,hp] at e
  exact ho ps (Option.some.inj e).symm) (fun y=>hn (.inr y)) e,fun q y=> .inl y,kw.e⟩
 refine ⟨⟨X4,?_⟩,kl.trans k2⟩
 rw [X.n,hv.2] at e3
 exact e3
end
theorem zqx {z:Int}{hs sil:List Int}{N:Int->Nat->List Int}{n:Int}{dv:V}(hd:dv = .non\/∃ d,dv = .int d/\d∈hs){vis:List Int}(a1:dv = .non->vis=[])(a2:∀ d,dv = .int d->∃ ks:List Int,ks.Nodup/\(∀ x,x∈ks↔Rch (zr0 z.toNat (awB (hs++[n]) sil) N) d x)/\vis=zix n ks):(∀ x∈vis,x∈hs++[n]/\x≠n)/\vis.length<=hs.length+1:=by
 have hv:(∀ x∈vis,x∈hs++[n]/\x≠n)/\vis.Nodup:=by
  rcases hd with rfl | ⟨d,rfl,hd⟩
  ·rw [a1 rfl]
   exact ⟨fun x hx=>(nomatch hx),j7⟩
  ·obtain ⟨kk,b1,b2,rfl⟩:=a2 d rfl
   exact ⟨ztd b2 (gr _ hd),zz0 b1⟩
 refine ⟨hv.1,?_⟩
 have:=zbc hv.2 (b:=hs++[n]) fun x hx=>(hv.1 x hx).1
 rw [gl,gq] at this
 exact this
def MTo (CB CT CW T0 T1 T3 T4:Addr)(w:Addr)(z r:Int)(s:TwS)(m:MD)(F:TwS)(H:Hp)(Q:VK):Prop:=∀ (H':Hp) (m':MD),MS CB CT CW T0 T1 T3 T4 H' w z r F m'->m'.ks=m.ks->m'.dx=m.dx->Km w H H' (m.O z s.hs) (m'.O z F.hs)->Q .non H'
section
variable {CB CT CW T0 T1 T3 T4 w:Addr} {z r:Int} {s F:TwS} {m:MD} {H H1:Hp} {Q:VK}
theorem MTo.same (k:MTo CB CT CW T0 T1 T3 T4 w z r s m F H Q)(h:zax H H1):MTo CB CT CW T0 T1 T3 T4 w z r s m F H1 Q:=fun H' m' a b c d=>k H' m' a b c ((Km.same h).trans d)
theorem MTo.end (k:MTo CB CT CW T0 T1 T3 T4 w z r s m F H Q)(X:MS CB CT CW T0 T1 T3 T4 H w z r s m)(eF:F=s):Q .non H:=by
 subst eF
 exact k H m X rfl rfl (Km.same (zax.refl H))
end
def zx8 (CB CT CW T0 T1 T3 T4:Addr):Sp:=fun vs H Q _=>∀ CC:Prop,(∀ (w:Addr) (z r:Int) (s:TwS) (m:MD) (x b mo:Int),vs=[.ref w,.int x,.int b,.int mo]->MS CB CT CW T0 T1 T3 T4 H w z r s m->m.ks=[]->mo<=11->s.pool.length<60->(MTo CB CT CW T0 T1 T3 T4 w z r s m (zg9 z r mo x b s) H Q)->CC)->CC
theorem ziw:zam ["_law_town","_law_x","_law_base","_law_most","_law_live","_law_name_here"] ["_law_town","_law_x","_law_base","_law_most"] (zai (top 34)):=fS
theorem zvk (Z:ZZ P w K mg base){T1:Addr}(n01:Z.bk.P≠T1)(n13:T1≠Z.b6.P)(n14:T1≠Z.ci.P):zld Z 13 Z.c3 (zx8 Z.ba.C Z.bb.C Z.bc.C Z.bk.P T1 Z.b6.P Z.ci.P):=by
 have bj:=Z.bc.cl
 obtain ⟨bp,bv,b1,bw,bt,bz,-⟩:=Z.bc.na
 have bg:zdm P w K mg base CX0 11 _ _ _ _:=(zho Z).mono (by decide)
 have ah:=zc8 (CB:=Z.ba.C) (CT:=Z.bb.C) Z
 have au:=zc6 (CB:=Z.ba.C) (CT:=Z.bb.C) Z
 have v:=zn_ Z zjy bg
 have a7:=zqj Z
 refine Z.c3.fn.ok ziw (by kd_p) (fun cdv A outer s H vs Q E hr av=>?_)
 refine av _ fun w z r a8 a6 x b mo aq X aj b3 an k=>?_
 subst aq
 obtain ⟨hs,sil,pool,N⟩:=a8
 obtain ⟨td,sd,TT,dx,ks,ad,G⟩:=a6
 obtain rfl:_=N:=X.n
 dsimp only at aj an
 subst aj
 generalize hF:zg9 z r mo x b ⟨hs,sil,pool,fun g=>(TT g).ns⟩=F at k
 unfold zg9 at hF
 dsimp only at hF
 have aw:=X.X.X.W.z1
 have ay:=X.X.X.W.z2
 have ak:=X.X.X.W.r1
 obtain ⟨q1,q2⟩:=zzo aw ay
 have hW:=X.X.X.W
 have aa:=X.X.ob
 dsimp only at hW aa
 refine ⟨_,(zac (zaw (i:=4) ziw.nd rfl oL (zcm (pv 0) Z.bc.cl Z.b5.me au hr.mm Z.b5.b .nil zcb))
  (zac (zaw (i:=5) ziw.nd rfl oL (pfD Z.c2 a7 hr rfl (zaa (pv 1) (zaa (za0 (pv 0) rfl) (zaa (pv 2) zag)))))
  (zac (zaw (i:=1) ziw.nd rfl oL (za4 zct (za4 zct (pv 1) zal) (za4 zt3 zal (za0 (pv 0) rfl))))
  (zah (zbz (PW.pt (zol (zav zfn (pv 5) (zcm (pv 0) Z.bc.cl Z.b0.me ah hr.mm Z.b0.b .nil zcb) (by with_unfolding_all rfl)) (zj4 (zav zrd (zbf zbh rfl Z.da.n_len zf_ (zaa (zcm (pv 0) Z.bc.cl Z.b0.me ah hr.mm Z.b0.b .nil zcb) zag)) (pv 3) (za6 _)))))
   (zah (zbz (zav (z2l hr.units) (pv 4) (zce zag) (za6 _))
    (zah (zas (zed (pv 0) Z.bc.cl Z.cc.me v hr.mm Z.cc.bd (.cons (show zbs .non Value.none from rfl) .nil) zcb (zaa (pv 5) zag))))
    (zah (zas (zed (pv 0) Z.bc.cl Z.cc.me v hr.mm Z.cc.b .nil zcb (zaa (pv 5) (zaa (zey zei (pv 4) (za4 zcf (pv 1) (zbf zbh rfl Z.da.n_len zf_ (zaa (pv 4) zag))) (fun _ _=>rfl)) zag)))))))
   zay))))),?_⟩
 kt_k
 intro al H1 s1 ax f
 have f:H1 al=some (.lst ((zcc hs sil).map V.int)):=f
 have X1:=X.same s1
 have k1:=k.same s1
 have af:=X1.X.X.W
 have p:=X1.X.ob
 dsimp only at af p
 clear k X hW s1 ax aa
 kt_k
 intro a j
 generalize zfe x z b=n at hF a j
 kt_k
 intro l1 ap
 generalize ae:upd H1 l1 _=H2
 obtain ⟨s2,e2⟩:=nw ap ae
 clear ae
 have bn:=zek (zau hs)
 have X2:=X1.same s2
 have k2:=k1.same s2
 have a0:=X2.X.X.W
 have ai:=X2.X.ob
 dsimp only at a0 ai
 have ag:=s2 _ _ f
 clear X1 k1 af p s2
 kt_k
 rw [zja]
 by_cases l:n∈zau hs
 ·rw [decide_eq_true l]
  kt_k
  exact k2.end X2 (hF.symm.trans (if_pos (.inl ((zan _).subset l))))
 ·rw [decide_eq_false l]
  kt_k
  intro l2 ar
  generalize ac:upd H2 l2 _=H3
  obtain ⟨s3,e3⟩:=nw ar ac
  clear ac
  have X3:=X2.same s3
  have k3:=k2.same s3
  have ab:=s3 _ _ ag
  clear X2 k2 s3
  kt_k
  rw [gf,zbi]
  by_cases h8:((hs.length:Nat):Int)<mo
  ·refine zov h8 ?_
   have ao:n∉hs:=fun y=>l ((zan _).symm.subset y)
   have m:¬ (n∈hs\/¬ ((hs.length:Nat):Int)<mo):=fun y=>y.elim ao fun y=>y h8
   have bo:hs.length<60:=by omega
   have o:hs.length<12:=by omega
   kt_k
   intro e0 a3
   generalize am:upd H3 e0 _=H4
   obtain ⟨s4,e4⟩:=nw a3 am
   replace e4:H4 e0=some (.lst (([]:List Int).map V.int)):=e4
   clear am
   have X4:=X3.same s4
   have k4:=k3.same s4
   have bi:=s4 _ _ ab
   have az:=X4.X.X.W
   have a5:=X4.X.X.A
   have bm:=X4.X.X.t3
   have u:=X4.X.ob
   have br:NOk (pool++[n]) z.toNat r hs (fun g=>(TT g).ns):=X4.X.X.O.pool fun x hx=>gr _ hx
   have bq:(pool++[n]).length<64:=by rw [gl,gq]; omega
   have b2:∀ x∈hs,x∈pool++[n]:=fun x hx=>gr _ (X4.X.X.pq x hx)
   have bu:n∈pool++[n]:=g7 _ (gb.mpr rfl)
   dsimp only at az a5 u
   kt_k
   by_cases e:zcc hs sil=[]
   ·refine zov e ?_
    have a9:V.non=V.non\/∃ d,V.non=V.int d/\d∈hs/\d∉sil:= .inl rfl
    kt_k
    intro l5 h H5 T5 a1 a2 W5 A5 e5 d5 t5 _ _ f5
    obtain ⟨hv,a4⟩:=zqx (.inl rfl) a1 a2
    have X5:=X4.X.came Z.di n13 Z.dk.symm o ⟨a,j⟩ hv W5 A5 e5 d5 t5
    refine ⟨w,td,sd,z,r,dx,[],ad,G,n,l5,h,rfl,X5.ob,X5.M,f5,by omega,a,fun x hx=>(W5.hb x (hv x hx).1).1,by decide,fun x hx=>(nomatch hx),fun x=>gy (X5.len x) (by decide),ak,X5.X.t0,X5.t4,fun H8 G8 M8 be q=>?_⟩
    obtain ⟨A8,d8⟩:=X4.come (od:=none) rfl Z.di n13 Z.dk.symm n14 Z.dk n01 o a j (.inl ⟨rfl,rfl⟩) a1 a2 W5 A5 e5 d5 t5 M8 q
    rw [show zoh z r n none ⟨hs,sil,pool,fun g=>(TT g).ns⟩=F by rw [<- hF,if_neg m,if_pos e]] at A8
    kt_k
    refine k4 H8 _ A8 rfl rfl ?_
    rw [<- hF,if_neg m]
    exact d8
   ·refine zgj e ?_
    obtain ⟨hd,bl⟩:=zuv (c:=x / 2 / (1 * 2 ^ z.toNat)) e
    have bh:=zl5 e
    obtain ⟨t,bf⟩:=zbk.mp hd
    have a9:V.int (zky (zcc hs sil) (x / 2 / (1 * 2 ^ z.toNat)))=V.non\/∃ d',V.int (zky (zcc hs sil) (x / 2 / (1 * 2 ^ z.toNat)))=V.int d'/\d'∈hs/\d'∉sil:= .inr ⟨_,rfl,t,bf⟩
    kt_k
    intro l5 h H5 T5 a1 a2 W5 A5 e5 d5 t5 _ _ f5
    obtain ⟨hv,a4⟩:=zqx (.inr ⟨_,rfl,t⟩) a1 a2
    have X5:=X4.X.came Z.di n13 Z.dk.symm o ⟨a,j⟩ hv W5 A5 e5 d5 t5
    refine ⟨w,td,sd,z,r,dx,[],ad,G,n,l5,h,rfl,X5.ob,X5.M,f5,by omega,a,fun x hx=>(W5.hb x (hv x hx).1).1,by decide,fun x hx=>(nomatch hx),fun x=>gy (X5.len x) (by decide),ak,X5.X.t0,X5.t4,fun H8 G8 M8 be q=>?_⟩
    obtain ⟨A8,d8⟩:=X4.come (od:=some (zky (zcc hs sil) (x / 2 / (1 * 2 ^ z.toNat)))) rfl Z.di n13 Z.dk.symm n14 Z.dk n01 o a j (.inr ⟨_,rfl,rfl,t⟩) a1 a2 W5 A5 e5 d5 t5 M8 q
    rw [show zoh z r n (some (zky (zcc hs sil) (x / 2 / (1 * 2 ^ z.toNat)))) ⟨hs,sil,pool,fun g=>(TT g).ns⟩=F by rw [<- hF,if_neg m,if_neg e]] at A8
    kt_k
    refine k4 H8 _ A8 rfl rfl ?_
    rw [<- hF,if_neg m]
    exact d8
  ·refine zgj h8 ?_
   kt_k
   exact k3.end X3 (hF.symm.trans (if_pos (.inr h8)))
def doG (wd:Str)(h:Int)(G:Int->List (Int × Th)):Int->List (Int × Th):=if wd=("go" : Str) then fun k=>zk8 (G k) h else G
structure Dn (wd:Str)(h:Int)(m m':MD):Prop where
 ks:m'.ks=m.ks
 dx:m'.dx=m.dx
 G:m'.G=doG wd h m.G
def zyz (z r:Int)(wd:Str)(h g:Int)(s F:TwS):Prop:=(wd=("ask" : Str)/\F=zxy z r h g s)\/(wd=("hush" : Str)/\F=⟨s.hs,zc5 h s.sil,s.pool,s.N⟩)\/(wd=("go" : Str)/\F=⟨zf0 h s.hs,zf0 h s.sil,s.pool,s.N⟩)
def O2 (m p:MD)(z:Int)(a b:List Int):Addr->Prop:=fun q=>m.O z a q\/p.O z b q
def BSt (CB CT CW T0 T1 T3 T4 w v:Addr)(z r:Int)(s F:TwS)(wd:Str)(h:Int)(m p:MD)(H0:Hp)(j:Nat)(H:Hp):Prop :=
 match j with
 | 0=>Tw CB CT CW T0 T1 T3 T4 H w v z r s m p/\Kl H0 H (O2 m p z s.hs s.hs) (O2 m p z s.hs s.hs)
 | 1=>∃ m2,Tw1 CB CT CW T0 T1 T3 T4 H w v z r s F m2 p/\Dn wd h m m2/\Kl H0 H (O2 m p z s.hs s.hs) (O2 m2 p z F.hs s.hs)
 | _=>∃ m2 p2,Tw CB CT CW T0 T1 T3 T4 H w v z r F m2 p2/\Dn wd h m m2/\Dn wd h p p2/\Kl H0 H (O2 m p z s.hs s.hs) (O2 m2 p2 z F.hs F.hs)
section
variable {CB CT CW T0 T1 T3 T4 w v:Addr} {z r:Int} {s F:TwS} {wd:Str} {h:Int} {m p:MD} {H0 H:Hp}
theorem BSt.step {j:Nat}{y:V}(hy:[V.ref w,V.ref v][j]? = some y)(b:BSt CB CT CW T0 T1 T3 T4 w v z r s F wd h m p H0 j H):∃ u mm,y = .ref u/\(mm=m\/mm=p)/\MS CB CT CW T0 T1 T3 T4 H u z r s mm/\∀ H3 mm',MS CB CT CW T0 T1 T3 T4 H3 u z r F mm'->Dn wd h mm mm'->Km u H H3 (mm.O z s.hs) (mm'.O z F.hs)->BSt CB CT CW T0 T1 T3 T4 w v z r s F wd h m p H0 (j+1) H3:=by
 match j,hy,b with
 | 0,hy,b =>
  cases hy
  obtain ⟨X,k⟩:=b
  refine ⟨w,m,rfl,.inl rfl,X.a,fun H3 mm' A d km=>?_⟩
  obtain ⟨X1,k1⟩:=X.first A km
  exact ⟨mm',X1,d,k.trans k1⟩
 | 1,hy,b =>
  cases hy
  obtain ⟨m2,X,d2,k⟩:=b
  refine ⟨v,p,rfl,.inr rfl,X.b,fun H3 mm' A d km=>?_⟩
  obtain ⟨X1,k1⟩:=X.second A km
  exact ⟨m2,mm',X1,d2,d,k.trans k1⟩
 | j+2,hy,b=>cases hy
theorem BSt.kl {j:Nat}(b:BSt CB CT CW T0 T1 T3 T4 w v z r s F wd h m p H0 j H):∃ O',Kl H0 H (O2 m p z s.hs s.hs) O':=by
 match j,b with
 | 0,b=>exact ⟨_,b.2⟩
 | 1,b =>
  obtain ⟨_,_,_,k⟩:=b
  exact ⟨_,k⟩
 | j+2,b =>
  obtain ⟨_,_,_,_,_,k⟩:=b
  exact ⟨_,k⟩
end
def z2d (CB CT CW T0 T1 T3 T4:Addr):Sp:=fun vs H Q _=>∀ CC:Prop,(∀ (w v:Addr) (z r:Int) (s F:TwS) (m p:MD) (wd:Str) (h g:Int),vs=[.ref w,.ref v,.str wd,.int h,.int g]->Tw CB CT CW T0 T1 T3 T4 H w v z r s m p->zyz z r wd h g s F->s.pool.length<=60->h∈s.hs->h∉s.sil->0<=g->g<2 ^ z.toNat->m.ks.length<=60->p.ks.length<=60->(∀ (H':Hp) (m' p':MD),Tw CB CT CW T0 T1 T3 T4 H' w v z r F m' p'->Dn wd h m m'->Dn wd h p p'->Kl H H' (O2 m p z s.hs s.hs) (O2 m' p' z F.hs F.hs)->Q .non H')->CC)->CC
theorem zu9:("ask" : Str)≠("go" : Str):=by decide +kernel
theorem zv6:("hush" : Str)≠("go" : Str):=by decide +kernel
theorem zqg:zam ["_law_one","_law_other","_law_word","_law_house","_law_key","_law_market"] ["_law_one","_law_other","_law_word","_law_house","_law_key"] (zai (top 36)):=fS
theorem zwr (Z:ZZ P w K mg base){T4:Addr}(n04:Z.bk.P≠T4)(n14:Z.cs.P≠T4)(n34:Z.b6.P≠T4):zld Z 13 Z.c4 (z2d Z.ba.C Z.bb.C Z.bc.C Z.bk.P Z.cs.P Z.b6.P T4):=by
 have aj:=Z.bc.cl
 obtain ⟨ao,aq,ay,au,ap,av,-⟩:=Z.bc.na
 have ab:zdm P w K mg base CX0 4 _ _ _ _:=(zil Z).mono (by decide)
 have o:=znv (CB:=Z.ba.C) (CT:=Z.bb.C) Z
 have af:=zrv (CB:=Z.ba.C) (CT:=Z.bb.C) Z ab
 have n:=zgm Z
 refine Z.c4.fn.ok zqg (by kd_p) (fun cdv A outer s H vs Q E hr ac=>?_)
 refine ac _ fun w v z r s F m p wd h g x X aa l hh ak aw al q ad k=>?_
 subst x
 refine ⟨_,(zah (zd5 PassesOwn.never rfl (zbr (zce (zaa (pv 0) (zaa (pv 1) zag)))) (zaz (i:=5) zqg.nd rfl oL)
   (zac (zbz (zav zmm (pv 2) zcj (za6 _))
    (zah (zas (pmD (pv 5) Z.bc.cl Z.ct n hr (zaa (pv 3) (zaa (pv 4) zag)))))
    zay)
   (zac (zbz (zav zmm (pv 2) zcj (za6 _))
    (zah (zas (pmD (pv 5) Z.bc.cl Z.cd o hr (zaa (pv 3) zag))))
    zay)
   (zah (zbz (zav zmm (pv 2) zcj (za6 _))
    (zah (zas (pmD (pv 5) Z.bc.cl Z.cf af hr (zaa (pv 3) zag))))
    zay)))))),?_⟩
 kt_k
 intro L hL
 generalize d:upd H L _=H1
 obtain ⟨s1,e1⟩:=nw hL d
 clear d
 have nL:¬ O2 m p z s.hs s.hs L:=fun y=>y.elim (X.a.X.noneM hL) (X.b.X.noneM hL)
 have ag:Kl H H1 (O2 m p z s.hs s.hs) (O2 m p z s.hs s.hs):=Kl.same s1
 kt_k
 refine zcn (K:=K) (a:=L) (xs:=[V.ref w,V.ref v]) (fun j σ H2=>zis (∃ v5:Option V,σ=[some (.ref w),some (.ref v),some (.str wd),some (.int h),some (.int g),v5]/\BSt Z.ba.C Z.bb.C Z.bc.C Z.bk.P Z.cs.P Z.b6.P T4 w v z r s F wd h m p H1 j H2)) ⟨⟨_,rfl,X.same s1,Kl.same (zax.refl _)⟩⟩ (fun j σ H2 _ ⟨_,_,b⟩=>SqL.of ((b.kl.choose_spec).lst e1 nL).1) ?_ ?_
 ·rintro j y σ H2 hj ⟨v5,rfl,b⟩
  obtain ⟨u,mm,rfl,f,Y,nx⟩:=b.step hj
  have ar:mm.ks.length<=60:=f.elim (fun e=>e ▸ q) fun e=>e ▸ ad
  clear b f
  have hW:=Y.X.X.W
  have am:=Y.X.ob
  have hA:=Y.X.X.A
  have hO:=Y.X.X.O
  have t0:=Y.X.X.t0
  have t1:=Y.X.X.t1
  have t3:=Y.X.X.t3
  have a0:=Y.X.X.pq
  have ax:=Y.X.X.pb
  have an:s.sil.length<=900:=by have:=Y.X.X.sl; omega
  rcases aa with ⟨rfl,rfl⟩ | ⟨rfl,rfl⟩ | ⟨rfl,rfl⟩
  ·kt_k
   intro t rl fl ah Lr H3 T3 c ae W3 A3 e3 K3 _ _ _ _ _ _ _ _
   obtain ⟨B3,d3⟩:=Y.ask l n04 n14 n34 hh c ae W3 A3 e3 K3
   kt_k
   exact ⟨⟨_,rfl,nx H3 _ B3 ⟨rfl,rfl,by unfold doG; rw [if_neg zu9]⟩ d3⟩⟩
  ·kt_k
   intro H3 W3 k3
   obtain ⟨B3,d3⟩:=Y.hush hh W3 k3
   kt_k
   exact ⟨⟨_,rfl,nx H3 _ B3 ⟨rfl,rfl,by unfold doG; rw [if_neg zv6]⟩ d3⟩⟩
  ·kt_k
   intro H3 W3 k3
   have ai:H3 u=some (.ins Z.bc.C mm.dx.1 (wF z r mm.td mm.sd mm.dx)):=k3 _ _ Y.X.ob (zcv Y.X.ob hW.tb (by intro z; cases z)) (zcv Y.X.ob hW.si (by intro z; cases z))
   have M3:=Y.X.M.dicts hW Y.X.dj k3
   have az:mm.ks.length<=900:=by omega
   kt_k
   intro H4 M4 d4
   obtain ⟨B4,d5⟩:=Y.go W3 k3 M4 d4
   kt_k
   exact ⟨⟨_,rfl,nx H4 _ B4 ⟨rfl,rfl,by unfold doG; rw [if_pos rfl]⟩ d5⟩⟩
 ·rintro σ H2 ⟨v5,rfl,b⟩
  obtain ⟨m2,p2,X2,d1,d2,kl⟩:=b
  kt_k
  exact k H2 m2 p2 X2 d1 d2 (ag.trans kl)
section
variable {CB CT CW T0 T1 T3 T4:Addr} {H H3:Hp} {w v:Addr} {z r:Int} {s:TwS} {m p:MD}
theorem Tw.swap (X:Tw CB CT CW T0 T1 T3 T4 H w v z r s m p):Tw CB CT CW T0 T1 T3 T4 H v w z r s p m:=⟨X.b,X.a,fun q y y2=>X.sp q y2 y,X.vw.symm⟩
theorem MS.laid (X:MS CB CT CW T0 T1 T3 T4 H w z r s m)(hp:s.pool.length<=60){i g:Int}{tx:Str}{a:Addr}{rest kp:List Int}{T':Int->zbp}{ad':Int->Addr}(hi:i∈s.hs)(hg:0<=g/\g<2 ^ z.toNat)(hk:∀ x∈kp,x∈s.hs)(hR:Row (fun h=>zaq z r s.hs s.sil (fun h=>(m.T h).ns) g h i) i g r.toNat (i :: rest))(hx:zcy (fun h=>zaq z r s.hs s.sil (fun h=>(m.T h).ns) g h i) i g r.toNat (i :: rest)=none)(W3:zaj CB CT CW H3 w m.td m.sd z r s.hs s.sil T')(A3:zb4 z.toNat s.hs T')
  (e3:(fun g=>(T' g).ns)=zcr r (awB s.hs s.sil) (fun h=>zaq z r s.hs s.sil (fun h=>(m.T h).ns) g h i) (fun h=>(m.T h).ns) i rest)(hob:H3 w=some (.ins CW m.dx.1 (wF z r m.td m.sd (m.dx.1,m.dx.2.1,m.dx.2.2+1))))(M3:zco H3 m.dx.2.1 (zc5 g m.ks) ad' (zdh m.G g (zb0 (m.G g) kp ⟨a,m.dx.2.2,tx⟩)))(d3:Dj m.td m.sd m.dx.2.1 (zc5 g m.ks) ad')(t0:Tab H3 T0 (zao zda) quL)(t1:Tab H3 T1 (zao zg3) quT)(t3:Tab H3 T3 (zao zdz) quH)(t4:Tab H3 T4 (zao zgq) quN)
  (kk:∀ q o,(∀ ps,o≠ .tbl ps)->H q=some o->¬ Om m.td m.sd z.toNat s.hs m.T m.dx.2.1 m.ks m.ad q->q≠w->H3 q=some o)(oo:∀ q,Om m.td m.sd z.toNat s.hs T' m.dx.2.1 (zc5 g m.ks) ad' q->Om m.td m.sd z.toNat s.hs m.T m.dx.2.1 m.ks m.ad q\/H q=none)(ee:∀ q,H3 q=none->H q=none) :
  MS CB CT CW T0 T1 T3 T4 H3 w z r (zxy z r i g s) ⟨m.td,m.sd,T',(m.dx.1,m.dx.2.1,m.dx.2.2+1),zc5 g m.ks,ad',zdh m.G g (zb0 (m.G g) kp ⟨a,m.dx.2.2,tx⟩)⟩/\Km w H H3 (m.O z s.hs) (Om m.td m.sd z.toNat s.hs T' m.dx.2.1 (zc5 g m.ks) ad'):=by
 refine ⟨⟨X.X.laid hp hi hg hk hR W3 A3 e3 hob M3 d3 t0 t1 t3 t4,?_⟩,kk,oo,ee⟩
 rw [zpr hR hx,X.n] at e3
 exact e3
theorem Tw.past {O:Addr->Prop}(X:Tw CB CT CW T0 T1 T3 T4 H w v z r s m p)(hO:∀ q,O q->¬ O2 m p z s.hs s.hs q/\((∃ x,H q=some (.dK x))\/∃ x,H q=some (.lst x)))(k:∀ q o,H q=some o->¬ O q->H3 q=some o):Tw CB CT CW T0 T1 T3 T4 H3 w v z r s m p :=
 ⟨⟨X.a.X.past (fun q y=>⟨fun h=>(hO q y).1 (.inl h),(hO q y).2⟩) k,X.a.n⟩,⟨X.b.X.past (fun q y=>⟨fun h=>(hO q y).1 (.inr h),(hO q y).2⟩) k,X.b.n⟩,X.sp,X.vw⟩
theorem Tw.none (X:Tw CB CT CW T0 T1 T3 T4 H w v z r s m p){q:Addr}(e:H q=Option.none):¬ O2 m p z s.hs s.hs q:=fun y=>y.elim (X.a.X.noneM e) (X.b.X.noneM e)
end
theorem Kl.orc {H H':Hp}{A B A' B':Addr->Prop}(d:Kl H H' (fun q=>A q\/B q) (fun q=>A' q\/B' q)):Kl H H' (fun q=>B q\/A q) (fun q=>B' q\/A' q):=⟨fun q o ho e hn=>d.k q o ho e fun y=>hn y.symm,fun q y=>(d.o q y.symm).imp Or.symm id,d.e⟩
theorem Kl.with {H H':Hp}{O O':Addr->Prop}{N N':Addr->Prop}(d:Kl H H' O O')(hl:∀ q,N' q->N q\/H q=none):Kl H H' (fun q=>O q\/N q) (fun q=>O' q\/N' q):=⟨fun q o ho e hn=>d.k q o ho e fun y=>hn (.inl y),fun q y=>y.elim (fun y=>(d.o q y).imp .inl id) fun y=>(hl q y).imp .inr id,d.e⟩
theorem zqc {h:Int}{l:List Int}:(zc5 h l).length<=l.length+1:=by
 unfold zc5
 split
 ·omega
 ·rw [gl,gq]
  omega
theorem zhv {α:Type}{p:α->Bool}{e:α}(h:p e=true):[e].filter p=[e]:=by rw [l8,if_pos h]; rfl
theorem zjj {α:Type}{p:α->Bool}{e:α}(h:p e=false):[e].filter p=[]:=by rw [l8,if_neg (by rw [h]; exact Bool.false_ne_true)]; rfl
def ovS:Option Th->V
 | none=> .non
 | some t=> .str t.s
def z0h (l:List (Int × Th))(cs:List Int):Option Th->Prop
 | none=>∀ c∈cs,zby l c=none
 | some t=>∃ c∈cs,zby l c=some t/\∀ c'∈cs,∀ t',zby l c'=some t'->t'.n<=t.n
theorem MS.ny {CB CT CW T0 T1 T3 T4 w:Addr}{H H3:Hp}{z r:Int}{s:TwS}{m:MD}(X:MS CB CT CW T0 T1 T3 T4 H w z r s m)(n0:T0≠T4)(n1:T1≠T4)(n3:T3≠T4)(a:Ny T4 H H3):MS CB CT CW T0 T1 T3 T4 H3 w z r s m/\∀ O:Addr->Prop,Km w H H3 O O:=by
 have x4:=za1 X.X.t4
 have kk:∀ q o,(∀ ps,o≠ .tbl ps)->H q=some o->H3 q=some o:=fun q o ho e=>a.1 q o (fun y=>by
  obtain ⟨ps,hp⟩:=x4
  rw [y,hp] at e
  exact ho ps (Option.some.inj e).symm) e
 refine ⟨⟨⟨⟨X.X.X.W.keep kk,X.X.X.A,X.X.X.O,X.X.X.pq,X.X.X.pb,X.X.X.sm,X.X.X.sn,X.X.X.n12,Tab.past X.X.X.t0 n0 x4 a.1,Tab.past X.X.X.t1 n1 x4 a.1,Tab.past X.X.X.t3 n3 x4 a.1⟩,kk _ _ (fun _ z=>nomatch z) X.X.ob,X.X.M.keep fun q o ho e=>kk q o ?_ e,X.X.dj,a.2,X.X.kb,X.X.gh,X.X.gn,X.X.un,X.X.lt⟩,X.n⟩,fun O=>⟨fun q o ho e _ _=>kk q o ho e,fun q y=> .inl y,zhc (za1 a.2) a.1⟩⟩
 rcases ho with y | ⟨j,hj,y⟩ | ⟨xs,y⟩
 ·rw [y,X.X.M.tg] at e
  cases e
  exact fun _ z=>nomatch z
 ·rw [y,X.X.M.it j hj] at e
  cases e
  exact fun _ z=>nomatch z
 ·rw [y]
  exact fun _ z=>nomatch z
def z1n (CB CT CW T0 T1 T3 T4:Addr):Sp:=fun vs H Q _=>∀ CC:Prop,(∀ (w:Addr) (z r:Int) (s:TwS) (m:MD) (i g:Int),vs=[.ref w,.int i,.int g]->MS CB CT CW T0 T1 T3 T4 H w z r s m->s.pool.length<=60->i∈s.hs->i∉s.sil->0<=g->g<2 ^ z.toNat->(∀ (H':Hp) (T':Int->zbp) (rest:List Int) (o:Option Th),Row (fun h=>zaq z r s.hs s.sil s.N g h i) i g r.toNat (i :: rest)->zcy (fun h=>zaq z r s.hs s.sil s.N g h i) i g r.toNat (i :: rest)=none->z0h (m.G g) ((i :: rest).filter fun h=>(zaq z r s.hs s.sil s.N g h i).isSome) o->MS CB CT CW T0 T1 T3 T4 H' w z r (zxy z r i g s) ⟨m.td,m.sd,T',m.dx,m.ks,m.ad,m.G⟩->Km w H H' (m.O z s.hs) (Om m.td m.sd z.toNat s.hs T' m.dx.2.1 m.ks m.ad)->Q (ovS o) H')->CC)->CC
theorem zeb:zam ["self","start","key","row","thing"] ["self","start","key"] (zai (zaf (top 27) 2)):=fS
theorem zkh (Z:ZZ P w K mg base){kA:Nat}{CB CT T0 T1 T3:Addr}(zbe:zdm P w K mg base CX0 kA Z.ct.f Z.ct.fd ["self","start","goal"] (zsw CB CT Z.bc.C T0 T1 T3))(hkA:kA<=15)(n04:T0≠Z.ci.P)(n14:T1≠Z.ci.P)(n34:T3≠Z.ci.P):zb2 Z 16 Z.c5 (z1n CB CT Z.bc.C T0 T1 T3 Z.ci.P):=by
 have au:=Z.bc.cl
 obtain ⟨ay,a1,a8,a5,a0,a6,-⟩:=Z.bc.na
 have zbe:=zbe.mono hkA
 have am:=zfa Z
 refine Z.c5.fn.ok zeb (by kd_p) (fun cdv A outer s H vs Q E hr ae=>?_)
 refine ae _ fun w z r s m i g ab X l hi a2 a7 ax k=>?_
 subst ab
 have hW:=X.X.X.W
 have hA:=X.X.X.A
 have hO:=X.X.X.O
 have ad:=X.X.ob
 have t0:=X.X.X.t0
 have t1:=X.X.X.t1
 have t3:=X.X.X.t3
 have ak:=X.X.X.pq
 have ai:=X.X.X.pb
 refine ⟨_,(zac (zaw (i:=3) zeb.nd rfl oL (zey zj5 (pmD (pv 0) Z.bc.cl Z.ct zbe hr (zaa (pv 1) (zaa (pv 2) zag))) zal (fun _ _=>rfl)))
  (zac (zaw (i:=4) zeb.nd rfl oL (zed (pv 0) Z.bc.cl Z.ci.me am hr.mm Z.ci.b .nil zcb (zaa (pv 2) (zaa (zht rfl (zbn (own:=["house","told"]) (caps:=[]) (N':=["house","told"]) (by kernel_rfl)) (zbr (pv 3)) (fun _ _ _ _ _=>(zue (K:=K) (n:=2) rfl rfl (zbl (zaz (i:=0) (show (["house","told"]:List Str).Nodup by decide +kernel) rfl oL) (zbl (zaz (i:=1) (show (["house","told"]:List Str).Nodup by decide +kernel) rfl oL) zfg)))) (fun _ _ _ _ _=>(zfl (zav zge (pv 1) zcd (za6 _)))) (fun _ _ _ _ _=>(pv 0))) zag))))
  (zah (zat (zmo (zav zlb (pv 4) zcd (za6 _)) zcd (zey zj5 (pv 4) zal (fun _ _=>rfl))))))),?_⟩
 kt_k
 intro t rl fl d Lr H1 q e o W1 A1 e1 K1 an v _ _ _ _ _ _
 obtain ⟨B1,d1⟩:=X.ask l n04 n14 n34 hi e o W1 A1 e1 K1
 obtain ⟨ps,aj,pp⟩:=v.ex
 have af:=pp.len
 have av:(i :: d).length<=60:=by
  obtain ⟨aa,ah⟩:=e.ok (zc4 hO hW.r2 l fun x hx=>(ai x hx).1) (ak i hi)
  exact gy (zbc ah aa) l
 rw [X.n] at e o pp
 have aq:=B1.X.ob
 have az:=B1.X.M
 have ao:=B1.X.t4
 clear hW hA hO ad t0 t1 t3 W1 A1 e1 K1
 kt_k
 intro D hD
 refine zem (K:=K) (a:=rl) (xs:=ps.map V.ref) (fun j σ H2=>zis (∃ v0 v1:Option V,σ=[v0,v1]/\zax H1 H2/\H2 D=some (.lst ((((i :: d).take j).filter fun h=>(zaq z r s.hs s.sil s.N g h i).isSome).map V.int)))) ⟨⟨none,none,rfl,zax.new H1 hD,zad⟩⟩ (fun j σ H2 _ ⟨_,_,_,s2,_⟩=>SqL.of (s2 _ _ aj)) ?_ ?_
 ·rintro j y σ H2 hj ⟨v0,v1,rfl,s2,e2⟩
  obtain ⟨p,h,hp,hh,rfl,hx⟩:=zdp pp hj
  have hx:=s2 _ _ (show H1 p=_ from hx)
  have ar:((((i :: d).take j).filter fun h=>(zaq z r s.hs s.sil s.N g h i).isSome).map V.int).length<sizeLine:=by
   rw [gf]
   have:=ib (fun h=>(zaq z r s.hs s.sil s.N g h i).isSome) ((i :: d).take j)
   rw [i5] at this
   exact zar (by omega)
  have et:=zb9 hh
  cases ev:zaq z r s.hs s.sil s.N g h i with
  | none =>
   rw [zl1 (tl:=fun h=>zaq z r s.hs s.sil s.N g h i) ev] at hx
   kt_k
   refine ⟨⟨_,_,rfl,s2,?_⟩⟩
   rw [et,io,zjj (p:=fun h=>(zaq z r s.hs s.sil s.N g h i).isSome) (by show (zaq z r s.hs s.sil s.N g h i).isSome=false; rw [ev]; rfl),iy]
   exact e2
  | some ns =>
   rw [zmg (tl:=fun h=>zaq z r s.hs s.sil s.N g h i) ev] at hx
   kt_k
   refine ⟨⟨_,_,rfl,s2.put hD,?_⟩⟩
   rw [zad,et,io,zhv (p:=fun h=>(zaq z r s.hs s.sil s.N g h i).isSome) (by show (zaq z r s.hs s.sil s.N g h i).isSome=true; rw [ev]; rfl),i9]
   rfl
 ·rintro σ H2 ⟨v0,v1,rfl,s2,e2⟩
  rw [gf,af,i6] at e2
  have B2:=B1.same s2
  have ap:=B2.X.ob
  have ac:=B2.X.M
  have ba:=B2.X.t4
  have a3:SqL K H2 D (((i :: d).filter fun h=>(zaq z r s.hs s.sil s.N g h i).isSome).map V.int):=SqL.of e2
  have a4:((i :: d).filter fun h=>(zaq z r s.hs s.sil s.N g h i).isSome).length<=900:=by
   have:=ib (fun h=>(zaq z r s.hs s.sil s.N g h i).isSome) (i :: d)
   omega
  kt_k
  intro H3 ny
  obtain ⟨B3,k3⟩:=B2.ny n04 n14 n34 ny
  have kA:=(d1.trans (Km.same s2)).trans (k3 _)
  refine ⟨fun ag=>?_,fun t c hc ht u=>?_⟩
  ·kt_k
   exact k H3 q d none e o ag B3 kA
  ·have al:g∈m.ks:=by
    refine Decidable.byContradiction fun hk=>?_
    have:=ac.go g hk
    dsimp only at this
    rw [this] at ht
    cases ht
   have a9:=B3.X.M.tu g al (c,t) (zbx ht)
   have aw:atI [V.int g,V.int t.n,V.str t.s] 2=some (V.str t.s):=rfl
   kt_k
   exact k H3 q d (some t) e o ⟨c,hc,ht,u⟩ B3 kA
theorem zpn {r:Int}{aw:Int->Bool}{ns:List Int}{n:Int}(ha:∀ x∈ns,aw x=true):∀ x∈ns,x∈zf3 r aw ns n:=fun x hx=>by
 unfold zf3
 split
 ·by_cases e:x=n
  ·exact g7 _ (gb.mpr e)
  ·exact gr _ ((List.mem_erase_of_ne e).mpr hx)
 ·split
  ·exact gr _ hx
  ·cases ns with
   | nil=>cases hx
   | cons y t =>
    show x∈t++[if aw y then y else n]
    rw [if_pos (ha y (gj ..))]
    rcases gx.mp hx with e | e
    ·exact g7 _ (gb.mpr e)
    ·exact gr _ e
theorem zpe {r:Int}{aw:Int->Bool}{ns:List Int}{n:Int}(h:(ns.length:Int)<=r):n∈zf3 r aw ns n\/((zf3 r aw ns n).length:Int)=r:=by
 unfold zf3
 split
 ·exact .inl (g7 _ (gb.mpr rfl))
 ·split
  ·exact .inl (g7 _ (gb.mpr rfl))
  ·rename_i _ hl
   right
   cases ns with
   | nil =>
    simp only [jl] at h hl |-
    omega
   | cons y t =>
    show (((t++[if aw y then y else n]).length:Nat):Int)=r
    rw [gl,gq]
    rw [ic] at h hl
    omega
def Up (hs:List Int)(N N':Int->Nat->List Int):Prop:=∀ h∈hs,∀ k,∀ x∈N h k,x∈N' h k
theorem Up.trans {hs:List Int}{N N1 N2:Int->Nat->List Int}(a:Up hs N N1)(b:Up hs N1 N2):Up hs N N2:=fun h hh k x hx=>b h hh k x (a h hh k x hx)
def Met (r:Int)(N:Int->Nat->List Int)(a b:Int):Prop:=b∈N a (za9 a b)\/((N a (za9 a b)).length:Int)=r
section
variable {z:Nat} {r:Int} {hs:List Int} {N N':Int->Nat->List Int} {aw:Int->Bool} {a b:Int}
theorem Met.up (O:NOk hs z r hs N)(O':NOk hs z r hs N')(ha:a∈hs)(u:Up hs N N')(m:Met r N a b):Met r N' a b:=by
 rcases m with m | m
 ·exact .inl (u a ha _ b m)
 ·right
  have h1:=zbc (O.nd a ha (za9 a b)) (u a ha (za9 a b))
  have h2:=O'.le a ha (za9 a b)
  omega
theorem zqr (O:NOk hs z r hs N)(haw:∀ x∈hs,aw x=true):Up hs N (zhe r aw N a b):=fun h hh k x hx=>by
 unfold zhe
 by_cases e:h=a
 ·subst e
  rw [zak]
  by_cases ek:k=za9 h b
  ·subst ek
   rw [za5]
   exact zpn (fun y hy=>haw y (O.st h hh _ y hy).1) x hx
  ·rw [zbb ek]
   exact hx
 ·rw [zap e]
  exact hx
theorem zoi (O:NOk hs z r hs N)(ha:a∈hs):Met r (zhe r aw N a b) a b:=by
 unfold Met zhe
 rw [zak,za5]
 exact zpe (O.le a ha _)
theorem zqe (O:NOk hs z r hs N)(hr:1<=r)(haw:∀ x∈hs,aw x=true)(ha:a∈hs)(hb:b∈hs)(hne:b≠a):Up hs N (zgd r aw N a b)/\Met r (zgd r aw N a b) a b/\Met r (zgd r aw N a b) b a:=by
 have O1:NOk hs z r hs (zhe r aw N a b):=O.hear hr hb hne
 have O2:NOk hs z r hs (zgd r aw N a b):=O.meet hr ha hb hne
 have u1:=zqr (a:=a) (b:=b) O haw
 have u2:Up hs (zhe r aw N a b) (zgd r aw N a b):=zqr O1 haw
 exact ⟨u1.trans u2,Met.up O1 O2 ha u2 (zoi O ha),zoi O1 hb⟩
theorem zlg (hr:1<=r)(haw:∀ x∈hs,aw x=true)(ha:a∈hs):∀ {l:List Int} {N:Int->Nat->List Int},NOk hs z r hs N->(∀ b∈l,b∈hs/\b≠a)->Up hs N (zbu r aw N a l)/\∀ b∈l,Met r (zbu r aw N a l) a b/\Met r (zbu r aw N a l) b a
 | [],N,_,_=>⟨fun _ _ _ _ hx=>hx,fun b hb=>(nomatch hb)⟩
 | c :: t,N,O,hl=>by
  obtain ⟨hc,hca⟩:=hl c (gj ..)
  obtain ⟨u1,m1,m2⟩:=zqe O hr haw ha hc hca
  have O1:NOk hs z r hs (zgd r aw N a c):=O.meet hr ha hc hca
  obtain ⟨u2,m3⟩:=zlg hr haw ha (l:=t) O1 fun b hb=>hl b (gc _ hb)
  have O2:NOk hs z r hs (zbu r aw (zgd r aw N a c) a t):=NOk.meets hr ha (fun x hx=>hl x (gc _ hx)) O1
  refine ⟨u1.trans u2,fun b hb=>?_⟩
  rcases gx.mp hb with rfl | hb
  ·exact ⟨Met.up O1 O2 ha u2 m1,Met.up O1 O2 hc u2 m2⟩
  ·exact m3 b hb
theorem znp (hr:1<=r)(haw:∀ x∈hs,aw x=true)(ha:a∈hs){tl:Int->Option (List Int)}:∀ {l:List Int} {N:Int->Nat->List Int},NOk hs z r hs N->(∀ b∈l,b∈hs/\b≠a/\(tl b).isSome=true)->Up hs N (zcr r aw tl N a l)
 | [],N,_,_=>fun _ _ _ _ hx=>hx
 | c :: t,N,O,hl=>by
  obtain ⟨hc,hca,hs1⟩:=hl c (gj ..)
  have O1:NOk hs z r hs (zgd r aw N a c):=O.meet hr ha hc hca
  have u2:=znp hr haw ha (tl:=tl) (l:=t) O1 fun b hb=>hl b (gc _ hb)
  have e:zcr r aw tl N a (c :: t)=zcr r aw tl (zgd r aw N a c) a t:=by
   show zcr r aw tl (learn1 r aw tl N a c) a t=_
   unfold learn1
   rw [if_pos hs1]
  rw [e]
  exact (zqe O hr haw ha hc hca).1.trans u2
def zik (r:Int)(hs:List Int)(N:Int->Nat->List Int):Prop:=∀ h∈hs,∀ g∈hs,g≠h->Met r N h g
theorem zik.up (R:zik r hs N)(O:NOk hs z r hs N)(O':NOk hs z r hs N')(u:Up hs N N'):zik r hs N':=fun h hh g hg hne=>(R h hh g hg hne).up O O' hh u
theorem Rch.trans {E:Int->Int->Prop}{x y w:Int}(h1:Rch E x y)(h2:Rch E y w):Rch E x w:=by
 induction h2 with
 | own=>exact h1
 | go _ e ih=>exact ih.go e
theorem zk9 (R:zik r hs N)(O:NOk hs z r hs N)(hr:1<=r)(hb:∀ h∈hs,0<=h/\h<2 ^ z){F:Int->Int->Prop}(hF:∀ a∈hs,∀ b∈hs,b∈zes (N a) z->F a b){g:Int}(hg:g∈hs):∀ (n:Nat) (d:Int),d∈hs->d.toNat ^^^ g.toNat<=n->Rch F d g
 | 0,d,hd,hn=>by
  have:=(zew _ _).mp (Nat.le_zero.mp hn)
  have h1:=hb d hd
  have h2:=hb g hg
  have e:d=g:=by omega
  rw [e]
  exact .own
 | n+1,d,hd,hn=>by
  by_cases e:g=d
  ·rw [e]
   exact .own
  ·have h1:=hb d hd
   have h2:=hb g hg
   have hk:za9 d g<z:=ze7 h1.1 h2.1 h1.2 h2.2 (Ne.symm e)
   obtain ⟨m,hm⟩:∃ m,m∈N d (za9 d g):=by
    rcases R d hd g hg e with y | y
    ·exact ⟨g,y⟩
    ·cases hx:N d (za9 d g) with
     | nil =>
      rw [hx] at y
      simp at y
      omega
     | cons m t=>exact ⟨m,gj ..⟩
   obtain ⟨c,l,j⟩:=O.st d hd _ m hm
   have h3:=hb m c
   have ed:F d m:=hF d hd m c (zc7.mpr ⟨_,hk,hm⟩)
   have f:d.toNat≠g.toNat:=by omega
   have i:d.toNat≠m.toNat:=by omega
   have q1:=(zi0 f).mp (show (d.toNat ^^^ g.toNat).log2=za9 d g from rfl)
   have q2:=(zi0 i).mp (show (d.toNat ^^^ m.toNat).log2=za9 d g from j)
   have lt:m.toNat ^^^ g.toNat<2 ^ za9 d g:=by
    have:(m.toNat ^^^ g.toNat) / 2 ^ za9 d g=0:=by rw [zmj,q1,q2,lu]
    exact (Nat.div_eq_zero_iff_lt (Nat.two_pow_pos _)).mp this
   have ge:2 ^ za9 d g<=d.toNat ^^^ g.toNat:=Nat.log2_self_le (fun y=>f ((zew _ _).mp y))
   exact (Rch.own.go ed).trans (zk9 R O hr hb hF hg n m c (by omega))
end
theorem z0c {h x:Int}{ks:List Int}(h1:x∈ks)(h2:x≠h):x∈zix h ks:=by
 unfold zix
 exact gz.mpr ⟨(zan _).symm.subset h1,by unfold z1o; simpa using h2⟩
theorem zik.come {z:Nat}{r:Int}{hs:List Int}{N:Int->Nat->List Int}{i d:Int}{ks:List Int}(R:zik r hs N)(O:NOk hs z r hs N)(hr:1<=r)(hb:∀ h∈hs,0<=h/\h<2 ^ z)(hi:i∉hs)(hd:d∈hs)
  (hks:∀ x,x∈ks↔Rch (zr0 z (awB (hs++[i]) []) (zkf N i)) d x):zik r (hs++[i]) (zbu r (awB (hs++[i]) []) (zkf N i) i (zix i ks)):=by
 have j:∀ x∈hs++[i],awB (hs++[i]) [] x=true:=fun x hx=>by unfold awB; simp [hx]
 have l:i∈hs++[i]:=g7 _ (gb.mpr rfl)
 have O1:NOk (hs++[i]) z r (hs++[i]) (zkf N i):=(O.pool fun x hx=>gr _ hx).comer hr i
 have all:∀ g∈hs,g∈zix i ks:=fun g hg=>by
  have gi:g≠i:=fun e=>hi (e ▸ hg)
  refine z0c ((hks g).mpr ?_) gi
  refine zk9 R O hr hb (fun a ha b hb y=>⟨?_,j b (gr _ hb)⟩) hg _ d hd (gv _)
  have:zkf N i a=N a:=zap fun e=>hi (e ▸ ha)
  rw [this]
  exact y
 have hv:∀ x∈zix i ks,x∈hs++[i]/\x≠i:=ztd hks (gr _ hd)
 obtain ⟨u,m⟩:=zlg hr j l O1 hv
 have O2:NOk (hs++[i]) z r (hs++[i]) (zbu r (awB (hs++[i]) []) (zkf N i) i (zix i ks)):=NOk.meets hr l hv O1
 have c:∀ {x:Int},x∈hs++[i]->x≠i->x∈hs:=fun {x} hx hn=>(gm.mp hx).elim id fun y=>absurd (gb.mp y) hn
 intro h hh g hg f
 by_cases e1:h=i
 ·subst e1
  exact (m g (all g (c hg f))).1
 ·by_cases e2:g=i
  ·subst e2
   exact (m h (all h (c hh e1))).2
  ·refine Met.up O1 O2 hh u ?_
   have:zkf N i h=N h:=zap e1
   unfold Met
   rw [this]
   exact R h (c hh e1) g (c hg e2) f
def dx (g x:Int):Int:=Builtin.bitXor g x
def zkm (k:Nat)(a b:Int):Prop:=a.toNat / 2 ^ k=b.toNat / 2 ^ k
def St (h n:Int):Nat:=(h.toNat ^^^ n.toNat).log2
theorem zqy {g x:Int}(hg:0<=g)(hx:0<=x):dx g x=((g.toNat ^^^ x.toNat:Nat):Int):=bx hg hx
theorem zyl {a b c:Nat}(h:a ^^^ b=a ^^^ c):b=c:=by
 have e1:=zfv a b
 have e2:=zfv a c
 rw [h] at e1
 exact e1.symm.trans e2
theorem zn2 {g n f m:Int}{k:Nat}(hg:0<=g)(hn:0<=n)(hf:0<=f)(hm:0<=m)(h1:dx g n<=dx g f)(h2:dx g f<=dx g m)(hs:zkm k n m):zkm k f n:=by
 rw [zqy hg hn,zqy hg hf] at h1
 rw [zqy hg hf,zqy hg hm] at h2
 have a1:(g.toNat ^^^ n.toNat) / 2 ^ k<=(g.toNat ^^^ f.toNat) / 2 ^ k:=Nat.div_le_div_right (by omega)
 have a2:(g.toNat ^^^ f.toNat) / 2 ^ k<=(g.toNat ^^^ m.toNat) / 2 ^ k:=Nat.div_le_div_right (by omega)
 rw [zmj,zmj] at a1 a2
 unfold zkm at hs |-
 rw [<- hs] at a2
 exact zyl (Nat.le_antisymm a2 a1)
theorem zta {h n:Int}(hh:0<=h)(hn:0<=n)(hne:h≠n):n.toNat / 2 ^ St h n=h.toNat / 2 ^ St h n ^^^ 1:=(zi0 (fun e=>hne (by omega))).mp rfl
theorem zyd {h n m:Int}(hh:0<=h)(hn:0<=n)(hm:0<=m)(h1:h≠n)(h2:h≠m)(e:St h m=St h n):zkm (St h n) m n:=by
 unfold zkm
 rw [zta hh hn h1,<- e,zta hh hm h2]
theorem z3c {f n:Int}{k:Nat}(hf:0<=f)(hn:0<=n)(hne:f≠n)(hs:zkm k f n):St f n<k:=by
 by_cases z:St f n<k
 ·exact z
 ·exfalso
  obtain ⟨j,hj⟩:∃ j,St f n=k+j:=⟨St f n - k,by omega⟩
  have e:=zta hf hn hne
  unfold zkm at hs
  rw [hj,Nat.pow_add,<- Nat.div_div_eq_div_mul,<- Nat.div_div_eq_div_mul,hs] at e
  exact zli _ e.symm
theorem zi2 {g:Int}{ns:List Int}(hg:0<=g)(hn:∀ y∈ns,0<=y):(za3 g ns).Pairwise (fun a b=>dx g a<dx g b):=by
 have hs:(za3 g ns).Pairwise (fun a b=>Builtin.bitXor g a<=Builtin.bitXor g b):=zd9 _ _
 refine (hs.and (List.nodup_iff_pairwise_ne.mp (zcp g ns))).imp_of_mem fun {a b} ha hb ⟨h1,h2⟩=>?_
 rcases Int.lt_or_eq_of_le h1 with z | z
 ·exact z
 ·exact absurd (zun hg (hn a (za2.mp ha)) (hn b (za2.mp hb)) z) h2
theorem zma {g:Int}:∀ {l:List Int} {rm:Nat} {x:Int},l.Pairwise (fun a b=>dx g a<dx g b)->x∈l->¬ x∈l.take rm->(l.take rm).length=rm/\∀ t∈l.take rm,dx g t<dx g x
 | [],_,_,_,h,_=>nomatch h
 | a :: r,0,x,_,_,_=>by simp
 | a :: r,rm+1,x,hp,hx,hn=>by
  obtain ⟨h1,h2⟩:=j0.mp hp
  rw [List.take_succ_cons] at hn |-
  have hxr:x∈r:=by
   rcases gx.mp hx with z | z
   ·exact absurd (z ▸ gj ..) hn
   ·exact z
  obtain ⟨a1,a2⟩:=zma (rm:=rm) h2 hxr fun z=>hn (gc _ z)
  refine ⟨by rw [ic,a1],fun t ht=>?_⟩
  rcases gx.mp ht with z | z
  ·rw [z]; exact h1 x hxr
  ·exact a2 t z
theorem zkc {g:Int}:∀ {l:List Int} {rm:Nat} {x:Int} {T:List Int},l.Pairwise (fun a b=>dx g a<dx g b)->x∈l.take rm->T.Nodup->(∀ t∈T,t∈l/\dx g t<dx g x)->T.length<rm
 | [],_,_,_,_,h,_,_=>by simp at h
 | a :: r,0,_,_,_,h,_,_=>by simp at h
 | a :: r,rm+1,x,T,hp,hx,hd,ht=>by
  obtain ⟨h1,h2⟩:=j0.mp hp
  rw [List.take_succ_cons] at hx
  rcases gx.mp hx with z | z
  ·have:T=[]:=by
    cases T with
    | nil=>rfl
    | cons t r' =>
     obtain ⟨b1,b2⟩:=ht t (gj ..)
     rcases gx.mp b1 with y | y
     ·rw [y,z] at b2; exact absurd b2 (by omega)
     ·have:=h1 t y
      rw [z] at b2
      exact absurd b2 (by omega)
   rw [this]
   simp
  ·have hl:=zkc (rm:=rm) (x:=x) (T:=T.erase a) h2 z (hd.erase a) fun t h=>by
    have c:=List.mem_of_mem_erase h
    obtain ⟨b1,b2⟩:=ht t c
    refine ⟨?_,b2⟩
    rcases gx.mp b1 with y | y
    ·exact absurd (y ▸ h) (List.Nodup.not_mem_erase hd)
    ·exact y
   have:=List.length_erase_le (a:=a) (l:=T)
   by_cases ha:a∈T
   ·rw [iw ha] at hl
    have:=List.length_pos_of_mem ha
    omega
   ·rw [List.erase_of_not_mem ha] at hl
    omega
theorem zhw {l:List Int}(h:l.Nodup)(rm:Nat):(l.take rm).Nodup:=h.sublist (kh _ _)
structure zy3 (pool:List Int)(rm:Nat)(kp:Int->List Int):Prop where
 sub:∀ h∈pool,∀ m∈kp h,m∈pool/\m≠h
 full:∀ h∈pool,∀ n∈pool,n≠h->n∈kp h\/∃ M:List Int,M.Nodup/\M.length=rm/\∀ m∈M,m∈kp h/\St h m=St h n
def zin (kp:Int->List Int)(g:Int)(rm:Nat)(a h:Int):List Int:=((za3 g (kp h)).filter fun n=> !decide (n=a)).take rm
theorem z1_ {α:Type}(f:α->Nat):∀ {l:List α},l≠[]->∃ x∈l,∀ y∈l,f x<=f y
 | [],h=>absurd rfl h
 | [a],_=>⟨a,gj ..,fun y hy=>by rw [gb.mp hy]; exact gv _⟩
 | a :: b :: r,_=>by
  obtain ⟨x,hx,hm⟩:=z1_ f (l:=b :: r) (List.cons_ne_nil _ _)
  by_cases z:f a<=f x
  ·exact ⟨a,gj ..,fun y hy=>by
    rcases gx.mp hy with e | e
    ·rw [e]; exact gv _
    ·exact gy z (hm y e)⟩
  ·exact ⟨x,gc _ hx,fun y hy=>by
    rcases gx.mp hy with e | e
    ·rw [e]; omega
    ·exact hm y e⟩
theorem znb {kp:Int->List Int}{g a h t:Int}{rm:Nat}(ht:t∈zin kp g rm a h):t∈kp h/\t≠a:=by
 obtain ⟨h1,h2⟩:=gz.mp (i8 ht)
 exact ⟨za2.mp h1,by simpa using h2⟩
theorem zo9 {kp:Int->List Int}{g a h:Int}(hg:0<=g)(hn:∀ y∈kp h,0<=y):((za3 g (kp h)).filter fun n=> !decide (n=a)).Pairwise (fun a b=>dx g a<dx g b):=(zi2 hg hn).filter _
theorem zw1 {pool S R:List Int}{kp:Int->List Int}{rm:Nat}{s g:Int}(hg:0<=g)(hp:∀ y∈pool,0<=y)(hrm:0<rm)(hK:zy3 pool rm kp)(hs:s∈pool)(hsR:s∈R)(hRp:∀ h∈R,h∈pool)
  (hS:∀ x,x∈S↔∃ h∈R,x∈zin kp g rm s h)(hF:∀ x∈(za3 g S).take rm,x∈R) :
  ∀ n∈((za3 g pool).filter fun n=> !decide (n=s)).take rm,n∈S:=by
 intro n hn
 by_cases i:n∈S
 ·exact i
 exfalso
 have au:((za3 g pool).filter fun n=> !decide (n=s)).Pairwise (fun a b=>dx g a<dx g b):=(zi2 hg hp).filter _
 obtain ⟨az,aw⟩:=gz.mp (i8 hn)
 have ak:n∈pool:=za2.mp az
 have ab:n≠s:=by simpa using aw
 have n0:=hp n ak
 have q:∀ T:List Int,T.Nodup->(∀ t∈T,t∈pool/\t≠s/\dx g t<dx g n)->T.length<rm:=fun T hd ht =>
  zkc au hn hd fun t h=>by
   obtain ⟨a1,a2,a3⟩:=ht t h
   exact ⟨gz.mpr ⟨za2.mpr a1,by simpa using a2⟩,a3⟩
 have w:∀ x∈S,x∈pool/\x≠s:=fun x hx=>by
  obtain ⟨h,hh,ht⟩:=(hS x).mp hx
  obtain ⟨a1,a2⟩:=znb ht
  exact ⟨(hK.sub h (hRp h hh) x a1).1,a2⟩
 have al:∀ y∈S,0<=y:=fun y hy=>hp y (w y hy).1
 have af:=zi2 hg al
 have j:∀ x∈(za3 g S).take rm,x∈S:=fun x hx=>za2.mp (i8 hx)
 obtain ⟨h,hh,ai⟩:=z1_ (fun x=>St x n) (l:=s :: (za3 g S).take rm) (List.cons_ne_nil _ _)
 have am:h∈R:=by
  rcases gx.mp hh with z | z
  ·rw [z]; exact hsR
  ·exact hF h z
 have p:=hRp h am
 have h0:=hp h p
 have ad:h≠n:=fun z=>by
  rcases gx.mp hh with y | y
  ·exact ab (z.symm.trans y)
  ·exact i (z ▸ j h y)
 have e:∀ f,f∈s :: (za3 g S).take rm->f≠n->0<=f->¬ zkm (St h n) f n:=fun f hf v f0 d=>by
  have:=z3c f0 n0 v d
  have:=ai f hf
  omega
 have ao:∀ y∈kp h,0<=y:=fun y hy=>hp y (hK.sub h p y hy).1
 have ac:=zo9 (a:=s) hg ao
 have c:∀ t∈zin kp g rm s h,t∈S:=fun t ht=>(hS t).mpr ⟨h,am,ht⟩
 rcases hK.full h p n ak ad.symm with hk | ⟨M,a4,ap,hM⟩
 ·-- n is kept:c,or room nearer ones are c
  have u:n∈(za3 g (kp h)).filter fun n=> !decide (n=s):=gz.mpr ⟨za2.mpr hk,by simpa using ab⟩
  obtain ⟨a1,a2⟩:=zma (rm:=rm) ac u fun z=>i (c n z)
  have:=q (zin kp g rm s h) (zhw ((zcp g _).filter _) rm) fun t ht=>by
   have:=w t (c t ht)
   exact ⟨this.1,this.2,a2 t ht⟩
  unfold zin at this
  omega
 ·have aq:∀ m∈M,zkm (St h n) m n/\m∈pool/\m≠s:=fun m hm=>by
   obtain ⟨a1,a2⟩:=hM m hm
   obtain ⟨b1,b2⟩:=hK.sub h p m a1
   have d:=zyd h0 n0 (hp m b1) ad b2.symm a2
   refine ⟨d,b1,fun z=>?_⟩
   rw [z] at d
   exact e s (gj ..) ab.symm (hp s hs) d
  obtain ⟨m,hm⟩:∃ m,m∈M:=by
   cases M with
   | nil=>simp at ap; omega
   | cons a r=>exact ⟨a,gj ..⟩
  obtain ⟨aj,ay,ax⟩:=aq m hm
  have m0:=hp m ay
  have av:=(hM m hm).1
  have ah:((za3 g S).take rm).length=rm->(∀ f∈(za3 g S).take rm,dx g f<dx g m)->False:=fun hl hf=>by
   have ex:∃ f∈(za3 g S).take rm,¬ dx g f<dx g n:=by
    by_cases z:∃ f∈(za3 g S).take rm,¬ dx g f<dx g n
    ·exact z
    ·exfalso
     have:=q ((za3 g S).take rm) (zhw (zcp g S) rm) fun t ht=>by
      have:=w t (j t ht)
      refine ⟨this.1,this.2,?_⟩
      by_cases y:dx g t<dx g n
      ·exact y
      ·exact absurd ⟨t,ht,y⟩ z
     omega
   obtain ⟨f,o,a5⟩:=ex
   have f0:=al f (j f o)
   have v:f≠n:=fun z=>i (z ▸ j f o)
   have:=hf f o
   exact e f (gc _ o) v f0 (zn2 hg n0 f0 m0 (by omega) (by omega) (show zkm (St h n) n m from aj.symm))
  have u:m∈(za3 g (kp h)).filter fun n=> !decide (n=s):=gz.mpr ⟨za2.mpr av,by simpa using ax⟩
  by_cases ag:m∈zin kp g rm s h
  ·have an:=c m ag
   have ar:¬ m∈(za3 g S).take rm:=fun z=>e m (gc _ z) (fun y=>i (y ▸ an)) m0 aj
   obtain ⟨a1,a2⟩:=zma (rm:=rm) af (za2.mpr an) ar
   exact ah a1 a2
  ·obtain ⟨a1,a2⟩:=zma (rm:=rm) ac u ag
   have ae:(zin kp g rm s h).Nodup:=zhw ((zcp g _).filter _) rm
   have aa:∀ f∈(za3 g S).take rm,dx g f<dx g m:=fun f hf=>by
    by_cases z:dx g f<dx g m
    ·exact z
    ·exfalso
     have:=zkc af hf ae fun t ht=>⟨za2.mpr (c t ht),by have:=a2 t ht; omega⟩
     unfold zin at this
     omega
   refine ah ?_ aa
   have a0:rm<=(za3 g S).length:=by
    have:=zmr (m:=za3 g S) ae fun t ht=>za2.mpr (c t ht)
    unfold zin at this
    omega
   rw [i5]
   omega
theorem zgp {p:Int->Bool}:∀ {l:List Int} {rm:Nat},(∀ x∈l.take rm,p x=true)->(l.filter p).take rm=l.take rm
 | [],_,_=>by simp
 | a :: r,0,_=>by simp
 | a :: r,rm+1,h=>by
  rw [List.take_succ_cons] at h |-
  have ha:=h a (gj ..)
  rw [List.filter_cons_of_pos ha,List.take_succ_cons,zgp fun x hx=>h x (gc _ hx)]
theorem zt6 {pool S R:List Int}{kp:Int->List Int}{rm:Nat}{s g:Int}(hg:0<=g)(hp:∀ y∈pool,0<=y)(hrm:0<rm)(hK:zy3 pool rm kp)(hs:s∈pool)(hsR:s∈R)(hRp:∀ h∈R,h∈pool)
  (hS:∀ x,x∈S↔∃ h∈R,x∈zin kp g rm s h)(hF:∀ x∈(za3 g S).take rm,x∈R) :
  (za3 g S).take rm=((za3 g pool).filter fun n=> !decide (n=s)).take rm:=by
 have b:=zw1 hg hp hrm hK hs hsR hRp hS hF
 have a:∀ x∈S,x∈pool/\x≠s:=fun x hx=>by
  obtain ⟨h,hh,ht⟩:=(hS x).mp hx
  obtain ⟨a1,a2⟩:=znb ht
  exact ⟨(hK.sub h (hRp h hh) x a1).1,a2⟩
 have e:za3 g S=((za3 g pool).filter fun n=> !decide (n=s)).filter fun n=>decide (n∈S):=by
  symm
  have hd:(((za3 g pool).filter fun n=> !decide (n=s)).filter fun n=>decide (n∈S)).Nodup:=((zcp g pool).filter _).filter _
  refine zhs hg (fun y hy=>hp y (a y hy).1) hd (fun y=>?_) (((zd9 _ _).filter _).filter _)
  rw [gz,gz,za2]
  constructor
  ·rintro ⟨_,z⟩
   simpa using z
  ·intro z
   exact ⟨⟨(a y z).1,by simpa using (a y z).2⟩,by simpa using z⟩
 rw [e,zgp fun x hx=>by simpa using b x hx]
theorem zik.keeps {z r:Int}{hs:List Int}{N:Int->Nat->List Int}(R:zik r hs N)(O:NOk hs z.toNat r hs N)(hb:∀ h∈hs,0<=h/\h<2 ^ z.toNat):zy3 hs r.toNat (fun h=>zes (N h) z.toNat):=by
 refine ⟨fun h hh m hm=>?_,fun h hh n hn a=>?_⟩
 ·obtain ⟨k,_,hm⟩:=zc7.mp hm
  exact ⟨(O.st h hh k m hm).1,(O.st h hh k m hm).2.1⟩
 ·have h1:=hb h hh
  have h2:=hb n hn
  have hk:za9 h n<z.toNat:=ze7 h1.1 h2.1 h1.2 h2.2 (Ne.symm a)
  rcases R h hh n hn a with y | y
  ·exact .inl (zc7.mpr ⟨_,hk,y⟩)
  ·exact .inr ⟨N h (za9 h n),O.nd h hh _,by omega,fun m hm=>⟨zc7.mpr ⟨_,hk,hm⟩,(O.st h hh _ m hm).2.2⟩⟩
section
variable {z r:Int} {hs:List Int} {N:Int->Nat->List Int}
theorem zj2 (O:NOk hs z.toNat r hs N)(hb:∀ x∈hs,0<=x){g h a:Int}(hg:0<=g)(hh:h∈hs):zaq z r hs [] N g h a=some (zin (fun h=>zes (N h) z.toNat) g r.toNat a h):=by
 have b:awB hs [] h=true:=by unfold awB; simp [hh]
 have hn:∀ y∈zes (N h) z.toNat,0<=y:=fun y hy=>by
  obtain ⟨k,_,hm⟩:=zc7.mp hy
  exact hb y (O.st h hh k y hm).1
 unfold zaq zin
 rw [if_pos b]
 have e:(fun y:Int=> !decide (V.int y=V.int a))=fun y=> !decide (y=a):=funext fun y=>by simp
 rw [e,zh5 (ns:=zes (N h) z.toNat) (ks:=zau (zes (N h) z.toNat)) hg hn fun y=>(zan _).mem_iff]
theorem zt5 (R:zik r hs N)(O:NOk hs z.toNat r hs N)(hb:∀ h∈hs,0<=h/\h<2 ^ z.toNat)(hr1:1<=r)(hr2:r<=8)(hl:hs.length<=60){st g:Int}{Rw:List Int}(hg:0<=g)(hst:st∈hs)(hR:Row (fun h=>zaq z r hs [] N g h st) st g r.toNat Rw)(hend:zcy (fun h=>zaq z r hs [] N g h st) st g r.toNat Rw=none) :
  zb6 (fun h=>zaq z r hs [] N g h st) st g r.toNat Rw=((za3 g hs).filter fun n=> !decide (n=st)).take r.toNat:=by
 have a:∀ x∈hs,0<=x:=fun x hx=>(hb x hx).1
 obtain ⟨b,c⟩:=hR.ok (zc4 O hr2 hl a) hst
 have e1:zb6 (fun h=>zaq z r hs [] N g h st) st g r.toNat Rw=(za3 g (zhh (fun h=>zaq z r hs [] N g h st) st Rw)).take r.toNat:=by
  unfold zb6
  rw [List.filter_eq_self.mpr fun n _=>?_]
  unfold flR
  rw [js,decide_eq_false_iff_not]
  intro y
  unfold zi6 at y
  obtain ⟨y1,y2⟩:=gz.mp y
  replace y2:(!(zaq z r hs [] N g n st).isSome)=true:=y2
  rw [zj2 O a hg (b n y1)] at y2
  cases y2
 rw [e1]
 refine zt6 hg a (by omega) (R.keeps O hb) hst (i4 hR.head) b (fun x=>?_) fun x hx=>?_
 ·unfold zhh
  rw [List.mem_flatMap]
  constructor
  ·rintro ⟨h,hh,hx⟩
   unfold zpc at hx
   replace hx:x∈((zaq z r hs [] N g h st).getD []).filter fun n=> !decide (n=st):=hx
   rw [zj2 O a hg (b h hh)] at hx
   exact ⟨h,hh,(gz.mp hx).1⟩
  ·rintro ⟨h,hh,hx⟩
   refine ⟨h,hh,?_⟩
   unfold zpc
   show x∈((zaq z r hs [] N g h st).getD []).filter fun n=> !decide (n=st)
   rw [zj2 O a hg (b h hh)]
   exact gz.mpr ⟨hx,by simpa using (znb hx).2⟩
 ·rw [<- e1] at hx
  have:=List.find?_eq_none.mp hend x hx
  unfold zu4 at this
  simpa using this
end
theorem z2v {z:Nat}{hs sil:List Int}{N:Int->Nat->List Int}{d:Int}(hd:d∈hs)(hn:hs.Nodup):∃ ks:List Int,ks.Nodup/\∀ x,x∈ks↔Rch (zr0 z (awB hs sil) N) d x:=by
 classical
 refine ⟨hs.filter fun x=>decide (Rch (zr0 z (awB hs sil) N) d x),hn.sublist j8,fun x=>?_⟩
 rw [gz,decide_eq_true_iff]
 refine ⟨fun y=>y.2,fun y=>⟨?_,y⟩⟩
 cases y with
 | own=>exact hd
 | go _ e =>
  have e2:=e.2
  unfold awB at e2
  simp only [j4,decide_eq_true_eq] at e2
  exact e2.1
structure Wh (r:Int)(s:TwS):Prop where
 sil:s.sil=[]
 pool:s.pool=s.hs
 R:zik r s.hs s.N
theorem Wh.come {z r mo x b:Int}{s:TwS}(W:Wh r s)(O:NOk s.pool z.toNat r s.hs s.N)(hr:1<=r)(hb:∀ h∈s.hs,0<=h/\h<2 ^ z.toNat)(hn:s.hs.Nodup):Wh r (zg9 z r mo x b s):=by
 obtain ⟨hs,sil,pool,N⟩:=s
 obtain ⟨w1,w2,R⟩:=W
 dsimp only at w1 w2 R O hb hn
 have w2:=w2.symm
 subst w1 w2
 unfold zg9
 split
 ·exact ⟨rfl,rfl,R⟩
 ·rename_i h
  dsimp only at h
  have e:zfe x z b∉hs:=fun y=>h (.inl y)
  refine ⟨rfl,rfl,?_⟩
  unfold zoh
  dsimp only
  by_cases hl:zcc hs []=[]
  ·rw [if_pos hl]
   have e0:hs=[]:=by
    cases hs with
    | nil=>rfl
    | cons a t =>
     have:=zbk.mpr ⟨gj (a:=a) (l:=t),jq (a:=a)⟩
     rw [hl] at this
     cases this
   intro a ha c hc d
   rw [e0] at ha hc
   rw [gb.mp ha,gb.mp hc] at d
   exact absurd rfl d
  ·rw [if_neg hl]
   have hd:=(zbk.mp (zuv (c:=x / 2 / (1 * 2 ^ z.toNat)) hl).1).1
   obtain ⟨ks,k1,k2⟩:=z2v (z:=z.toNat) (sil:=[]) (N:=zkf N (zfe x z b)) (gr [zfe x z b] hd) (zbd hn e)
   show zik r (hs++[zfe x z b]) (zbu r (awB (hs++[zfe x z b]) []) (zkf N (zfe x z b)) (zfe x z b) (z2q (zfe x z b) (zr0 z.toNat (awB (hs++[zfe x z b]) []) (zkf N (zfe x z b))) (zky (zcc hs []) (x / 2 / (1 * 2 ^ z.toNat)))))
   rw [<- zui k1 k2]
   exact R.come O hr hb e hd k2
theorem Wh.ask {z r i g:Int}{s:TwS}{rest:List Int}(W:Wh r s)(O:NOk s.pool z.toNat r s.hs s.N)(hr:1<=r)(hr2:r<=8)(hb:∀ h∈s.hs,0<=h/\h<2 ^ z.toNat)(hl:s.pool.length<=60)(hg:0<=g)(hi:i∈s.hs)(hR:Row (fun h=>zaq z r s.hs s.sil s.N g h i) i g r.toNat (i :: rest))(hx:zcy (fun h=>zaq z r s.hs s.sil s.N g h i) i g r.toNat (i :: rest)=none):Wh r (zxy z r i g s):=by
 obtain ⟨hs,sil,pool,N⟩:=s
 obtain ⟨w1,w2,R⟩:=W
 dsimp only at w1 w2 R O hb hl hi hR hx
 have w2:=w2.symm
 subst w1 w2
 refine ⟨rfl,rfl,?_⟩
 unfold zxy
 dsimp only
 rw [<- zpr hR hx]
 obtain ⟨d,j⟩:=hR.ok (zc4 O hr2 hl fun x hx=>(hb x hx).1) hi
 have a:∀ b∈rest,b∈hs/\b≠i:=fun b hb=>⟨d b (gc _ hb),fun e=>(ir.mp j).1 (e ▸ hb)⟩
 have f:∀ x∈hs,awB hs [] x=true:=fun x hx=>by unfold awB; simp [hx]
 have O':NOk hs z.toNat r hs (zcr r (awB hs []) (fun h=>zaq z r hs [] N g h i) N i rest):=NOk.learn hr hi O a
 refine R.up O O' (znp hr f hi O fun b c=>⟨(a b c).1,(a b c).2,?_⟩)
 rw [zj2 O (fun x hx=>(hb x hx).1) hg (a b c).1]
 rfl
theorem zo5 {g:Int}{hs B:List Int}(hg:0<=g)(hb:∀ h∈hs,0<=h)(hB:∀ x∈B,x∈hs):za3 g B=(za3 g hs).filter fun x=>decide (x∈B):=by
 refine (zhs hg (fun y hy=>hb y (hB y hy)) ((zcp g hs).sublist j8) (fun y=>?_) ?_).symm
 ·rw [gz,za2,decide_eq_true_iff]
  exact ⟨fun z=>z.2,fun z=>⟨hB y z,z⟩⟩
 ·exact ((zi2 hg hb).imp fun h=>Int.le_of_lt h).sublist j8
theorem zlt {g i:Int}{r:Nat}{hs:List Int}(hg:0<=g)(hb:∀ h∈hs,0<=h)(hi:i∈hs):(za3 g (((za3 g hs).filter fun n=> !decide (n=i)).take r++[i])).take r=(za3 g hs).take r:=by
 have b:∀ x∈((za3 g hs).filter fun n=> !decide (n=i)).take r++[i],x∈hs:=fun x hx=>(gm.mp hx).elim (fun y=>za2.mp (gz.mp (i8 y)).1) fun y=>gb.mp y ▸ hi
 rw [zo5 hg hb b]
 refine zgp fun x hx=>decide_eq_true ?_
 by_cases e:x=i
 ·exact g7 _ (gb.mpr e)
 ·refine gr _ ?_
  generalize za3 g hs=l at hx
  clear b
  induction l generalizing r with
  | nil=>simp at hx
  | cons a t ih =>
   cases r with
   | zero=>simp at hx
   | succ r =>
    rw [List.take_succ_cons] at hx
    by_cases ea:a=i
    ·rw [List.filter_cons_of_neg (by simp [ea])]
     have c:x∈t.take r:=(gx.mp hx).resolve_left fun y=>e (y.trans ea)
     have:=ih c
     exact (List.take_subset_take_left _ (jg r)) this
    ·rw [List.filter_cons_of_pos (by simp [ea]),List.take_succ_cons]
     rcases gx.mp hx with y | y
     ·rw [y]
      exact gj ..
     ·exact gc _ (ih y)
def zlc (r:Int)(hs:List Int)(G:Int->List (Int × Th))(ll:List (Int × Th)):Prop:=∀ k,0<=k->match zby ll k with
 | none=>∀ h,zby (G k) h=none
 | some u=>∃ t:Th,t.s=u.s/\(∀ h∈(za3 k hs).take r.toNat,zby (G k) h=some t)/\∀ h t',zby (G k) h=some t'->t'.n<=t.n
theorem zlc.laid {r g c:Int}{hs kp:List Int}{G:Int->List (Int × Th)}{ll:List (Int × Th)}{a:Addr}{tx:Str}(L:zlc r hs G ll)(lt:∀ e∈G g,e.2.n<c)(hk:kp=(za3 g hs).take r.toNat):zlc r hs (zdh G g (zb0 (G g) kp ⟨a,c,tx⟩)) (zgf ll g ⟨0,0,tx⟩):=fun k hk0=>by
 rw [zp3]
 by_cases e:k=g
 ·subst e
  rw [if_pos rfl]
  refine ⟨⟨a,c,tx⟩,rfl,fun h hh=>?_,fun h t' ht'=>?_⟩
  ·rw [zak,zgi,hk,if_pos hh]
  ·rw [zak,zgi] at ht'
   by_cases m:h∈kp
   ·rw [if_pos m] at ht'
    cases ht'
    exact Int.le_refl _
   ·rw [if_neg m] at ht'
    exact Int.le_of_lt (lt _ (zbx ht'))
 ·rw [if_neg e,zap e]
  exact L k hk0
theorem zlc.seek {z r g i:Int}{s:TwS}{G:Int->List (Int × Th)}{ll:List (Int × Th)}{rest:List Int}{o:Option Th}(L:zlc r s.hs G ll)(W:Wh r s)(O:NOk s.pool z.toNat r s.hs s.N)(hr:1<=r)(hr2:r<=8)(hb:∀ h∈s.hs,0<=h/\h<2 ^ z.toNat)(hl:s.pool.length<=60)(hg:0<=g)(hi:i∈s.hs)(un:∀ e∈G g,∀ e'∈G g,e.2.n=e'.2.n->e.2=e'.2)
  (hR:Row (fun h=>zaq z r s.hs s.sil s.N g h i) i g r.toNat (i :: rest))(hx:zcy (fun h=>zaq z r s.hs s.sil s.N g h i) i g r.toNat (i :: rest)=none)(ho:z0h (G g) ((i :: rest).filter fun h=>(zaq z r s.hs s.sil s.N g h i).isSome) o):o.map (·.s)=(zby ll g).map (·.s):=by
 have b:=L g hg
 obtain ⟨hs,sil,pool,N⟩:=s
 obtain ⟨w1,w2,R⟩:=W
 dsimp only at w1 w2 R O hb hl hi hR hx ho b
 have w2:=w2.symm
 subst w1 w2
 have j:∀ x∈hs,0<=x:=fun x hx=>(hb x hx).1
 cases eu:zby ll g with
 | none =>
  rw [eu] at b
  cases o with
  | none=>rfl
  | some t =>
   obtain ⟨c,_,h1,_⟩:=ho
   rw [b c] at h1
   cases h1
 | some u =>
  rw [eu] at b
  obtain ⟨t,e1,e2,e3⟩:=b
  have m:=zt5 R O hb hr hr2 hl hg hi hR hx
  obtain ⟨h,hh,f⟩:∃ h,h∈(za3 g hs).take r.toNat/\h∈(i :: rest).filter fun h=>(zaq z r hs [] N g h i).isSome:=by
   have l:(za3 g hs).take r.toNat≠[]:=fun e=>by
    have hm:=za2 (g:=g).mpr hi
    cases ln:za3 g hs with
    | nil =>
     rw [ln] at hm
     cases hm
    | cons a t =>
     rw [ln] at e
     obtain ⟨q,hq⟩:∃ q,r.toNat=q+1:=⟨r.toNat - 1,by omega⟩
     rw [hq,List.take_succ_cons] at e
     cases e
   obtain ⟨h,hh⟩:=List.exists_mem_of_ne_nil _ l
   refine ⟨h,hh,?_⟩
   have p:=za2.mp (i8 hh)
   by_cases e:h=i
   ·subst e
    refine gz.mpr ⟨gj ..,?_⟩
    rw [zj2 O j hg hi]
    rfl
   ·have hm:h∈zb6 (fun h=>zaq z r hs [] N g h i) i g r.toNat (i :: rest):=by
     have hk:=zlt (r:=r.toNat) hg j hi
     rw [<- m] at hk
     rw [<- hk] at hh
     exact (gm.mp (za2.mp (i8 hh))).elim id fun y=>absurd (gb.mp y) e
    obtain ⟨y1,y2⟩:=zm4 hx h hm
    exact gz.mpr ⟨y1,y2⟩
  have d:=e2 h hh
  cases o with
  | none =>
   rw [ho h f] at d
   cases d
  | some v =>
   obtain ⟨c,hc,h1,h2⟩:=ho
   have a1:=h2 h f t d
   have a2:=e3 c v h1
   have ev:v=t:=un _ (zbx h1) _ (zbx d) (show v.n=t.n by omega)
   show some v.s=some u.s
   rw [ev,e1]
structure zul (H:Hp)(d:Addr)(l:List Int)(lt:Int->Addr)(F:Int->List V):Prop where
 d:H d=some (.dK (thD l lt))
 it:∀ h∈l,H (lt h)=some (.lst (F h))
theorem zul.same {H H':Hp}{d:Addr}{l:List Int}{lt:Int->Addr}{F:Int->List V}(t:zul H d l lt F)(s:zax H H'):zul H' d l lt F:=⟨s _ _ t.d,fun h hh=>s _ _ (t.it h hh)⟩
def zv_ (CB CT CW T0 T1 T3 T4:Addr):Sp:=fun vs H Q _=>∃ (w:Addr) (z r:Int) (s:TwS) (m:MD),vs=[.ref w]/\MS CB CT CW T0 T1 T3 T4 H w z r s m/\m.ks.length<64 /\
 ∀ (d:Addr) (lt:Int->Addr) (H':Hp),zax H H'->H d=none->(∀ h∈zau s.hs,H (lt h)=none)->zul H' d (zau s.hs) lt (fun h=>thV (zkt m.ks m.G h))->Q (.ref d) H'
theorem zhl:zam ["_law_market","_law_things_here","_law_house"] ["_law_market"] (zai (top 37)):=fS
theorem zrj (Z:ZZ P w K mg base){CB CT T0 T1 T3 T4:Addr}:zld Z 6 Z.c6 (zv_ CB CT Z.bc.C T0 T1 T3 T4):=by
 have ae:=Z.bc.cl
 obtain ⟨aj,al,ap,am,ak,an,-⟩:=Z.bc.na
 have aa:=zc8 (CB:=CB) (CT:=CT) Z
 have u:=zkp (CB:=CB) (CT:=CT) Z
 refine Z.c6.fn.ok zhl (by kd_p) (fun cdv A outer s H vs Q E hr h=>?_)
 obtain ⟨w,z,r,s,m,rfl,X,ag,k⟩:=h
 have t:(zau s.hs).Nodup:=(zan _).nodup_iff.mpr X.X.X.W.nd
 have ab:(zau s.hs).length<=12:=by rw [zbi]; exact X.X.X.n12
 refine ⟨_,(zac (zaw (i:=1) zhl.nd rfl oL zd_)
  (zac (zd5 PassesOwn.never rfl (zbr (zcm (pv 0) Z.bc.cl Z.b0.me aa hr.mm Z.b0.b .nil zcb)) (zaz (i:=2) zhl.nd rfl oL)
   (zah (zgg (zdd hr) (pv 1) (pv 2) (pmD (pv 0) Z.bc.cl Z.cj u hr (zaa (pv 2) zag)) rfl)))
  (zah (zat (pv 1))))),?_⟩
 kt_k
 intro d hd
 generalize o:upd H d _=H1
 obtain ⟨s1,e1⟩:=nw hd o
 clear o
 have X1:=X.same s1
 have ai:=X1.X.X.W
 have ad:=X1.X.ob
 kt_k
 intro l hl
 generalize c:upd H1 l _=H2
 obtain ⟨s2,e2⟩:=nw hl c
 clear c
 have x:=s1.trans s2
 have p:=s2 _ _ e1
 have ao:l≠d:=fun y=>by rw [y,p] at e2; cases e2
 kt_k
 refine zcn (K:=K) (a:=l) (xs:=(zau s.hs).map V.int) (fun j σ H3=>zis (∃ (v2:Option V) (lt:Int->Addr),σ=[some (.ref w),some (.ref d),v2]/\zax H H3/\H3 l=some (.lst ((zau s.hs).map V.int))/\zul H3 d ((zau s.hs).take j) lt (fun h=>thV (zkt m.ks m.G h))/\∀ h∈(zau s.hs).take j,H (lt h)=none)) ⟨⟨_,fun _=>0,rfl,x,e2,⟨p,fun h hh=>(nomatch hh)⟩,fun h hh=>(nomatch hh)⟩⟩ (fun j σ H3 _ ⟨_,_,_,_,e,_⟩=>SqL.of e) ?_ ?_
 ·rintro j y σ H3 hj ⟨v2,lt,rfl,s3,e3,t3,f3⟩
  obtain ⟨g,hg,rfl⟩:=zgn hj
  have aq:g∈s.hs:=(zan _).subset (i4 hg)
  have v:g∉(zau s.hs).take j:=fun y=>by
   obtain ⟨i,hi,e⟩:=List.mem_take_iff_getElem.mp y
   obtain ⟨h2,e2⟩:=List.getElem?_eq_some_iff.mp hg
   have:=(ku t).mp (e.trans e2.symm)
   omega
  have X3:=X.same s3
  have af:=X3.X.X.W
  have ac:=X3.X.ob
  have ah:=X3.X.M
  kt_k
  intro a H4 s4 ha e4
  have t4:=t3.same s4
  have f:(thD ((zau s.hs).take j) lt).length<sizeLine:=by
   unfold thD
   rw [gf,i5]
   exact zar (by omega)
  have n:zkv H4 d (V.int g) (V.ref a) (upd H4 d (.dK (zd6 (thD ((zau s.hs).take j) lt) (Sum.inl g) (V.ref a)))):=zkv.k (k:=Sum.inl g) t4.d f
  rw [zst v] at n
  have up:∀ {q:Addr} {xs:List V},H4 q=some (.lst xs)->upd H4 d (.dK (thD ((zau s.hs).take j++[g]) (zdh lt g a))) q=some (.lst xs):=fun {q xs} e=>by
   rw [zab (fun y=>by rw [y,t4.d] at e; cases e)]
   exact e
  kt_k
  refine ⟨⟨_,zdh lt g a,rfl,(s3.trans s4).put hd,up (s4 _ _ e3),⟨by rw [zad,zb9 hg],fun h hh=>?_⟩,fun h hh=>?_⟩⟩
  ·rw [zb9 hg] at hh
   by_cases y:h=g
   ·rw [y,zak]
    exact up e4
   ·rw [zap y]
    exact up (t4.it h ((gm.mp hh).elim id fun z=>absurd (gb.mp z) y))
  ·rw [zb9 hg] at hh
   by_cases y:h=g
   ·rw [y,zak]
    exact s3.free ha
   ·rw [zap y]
    exact f3 h ((gm.mp hh).elim id fun z=>absurd (gb.mp z) y)
 ·rintro σ H3 ⟨v2,lt,rfl,s3,e3,t3,f3⟩
  rw [gf,i6] at t3 f3
  kt_k
  exact k d lt H3 s3 hd f3 t3
def mtH (H:Hp)(t:Addr)(p:Int × Str):Prop:=H t=some (.tup [.int p.1,.str p.2])
def mtD (p:Int × Str):PyData:= .tuple [.int p.1,.str p.2]
def z1v (H:Hp)(t:Addr):Int:=match H t with | some (.tup [.int a,.str _])=>a | _=>0
def z06 (H:Hp)(t:Addr):Str:=match H t with | some (.tup [.int _,.str b])=>b | _=> ""
theorem mtH.fst {H:Hp}{t:Addr}{p:Int × Str}(h:mtH H t p):z1v H t=p.1:=by unfold z1v; rw [h]
theorem mtH.snd {H:Hp}{t:Addr}{p:Int × Str}(h:mtH H t p):z06 H t=p.2:=by unfold z06; rw [h]
theorem zsx {K:W.Frag}{H:Hp}:∀ {ts:List Addr} {ps:List (Int × Str)},Paired (mtH H) ts ps->DVs K H (ps.map mtD) (ts.map V.ref)
 | _,_,.nil=>by unfold DVs; rfl
 | _,_,@Paired.cons _ _ _ t p ts ps x r=>by
  show DVs K H (mtD p :: ps.map mtD) (.ref t :: ts.map V.ref)
  have x:H t=some (.tup [.int p.1,.str p.2]):=x
  unfold DVs
  refine ⟨_,_,rfl,?_,zsx r⟩
  unfold mtD DV
  refine ⟨t,_,rfl,SqT.of x,?_⟩
  unfold DVs
  refine ⟨_,_,rfl,by unfold DV; rfl,?_⟩
  unfold DVs
  refine ⟨_,_,rfl,by unfold DV; rfl,?_⟩
  unfold DVs
  rfl
theorem zpq {H:Hp}:∀ {ts:List Addr} {ps:List (Int × Str)} {ts':List Addr} {ps':List (Int × Str)},Paired (mtH H) ts ps->Paired (mtH H) ts' ps'->Paired (mtH H) (ts++ts') (ps++ps')
 | _,_,_,_,.nil,h=>h
 | _,_,_,_,.cons e r,h=> .cons e (zpq r h)
theorem zxp {H:Hp}:∀ {ts:List Addr} {ps:List (Int × Str)},Paired (mtH H) ts ps->(∀ t∈ts,∃ p∈ps,mtH H t p)/\∀ p∈ps,∃ t∈ts,mtH H t p
 | _,_,.nil=>⟨(fun _ h=>nomatch h),(fun _ h=>nomatch h)⟩
 | _,_,.cons e r=>by
  obtain ⟨a,b⟩:=zxp r
  refine ⟨fun t ht=>?_,fun p hp=>?_⟩
  ·rcases gx.mp ht with y | y
   ·rw [y]
    exact ⟨_,gj ..,e⟩
   ·obtain ⟨p,hp,h⟩:=a t y
    exact ⟨p,gc _ hp,h⟩
  ·rcases gx.mp hp with y | y
   ·rw [y]
    exact ⟨_,gj ..,e⟩
   ·obtain ⟨t,ht,h⟩:=b p y
    exact ⟨t,gc _ ht,h⟩
theorem zf6 {ks:List Int}{G:Int->List (Int × Th)}{h g:Int}:∀ {l:List Int},l.Nodup->((l.filterMap fun k=>((zby (G k) h).map prT).map fun p=>(k,p)).filter fun e:Tg=>decide (e.1=g)).map (·.2)=if g∈l then ((zby (G g) h).map prT).toList else []
 | [],_=>by rw [if_neg (fun y=>nomatch y)]; rfl
 | k :: l,hn=>by
  obtain ⟨h1,h2⟩:=ir.mp hn
  have ih:=zf6 (ks:=ks) (G:=G) (h:=h) (g:=g) h2
  rw [iq]
  by_cases e:k=g
  ·subst e
   rw [if_neg h1] at ih
   rw [if_pos (gj ..)]
   cases eg:zby (G k) h with
   | none=>exact ih
   | some t =>
    show ((((k,prT t):Tg) :: l.filterMap fun k=>((zby (G k) h).map prT).map fun p=>(k,p)).filter fun e:Tg=>decide (e.1=k)).map (·.2)=[prT t]
    rw [List.filter_cons_of_pos (by simp),ig,ih]
  ·have hm:(g∈k :: l)=(g∈l):=propext ⟨fun y=>(gx.mp y).resolve_left fun z=>e z.symm,gc _⟩
   simp only [hm]
   rw [<- ih]
   cases eg:zby (G k) h with
   | none=>rfl
   | some t =>
    show ((((k,prT t):Tg) :: l.filterMap fun k=>((zby (G k) h).map prT).map fun p=>(k,p)).filter fun e:Tg=>decide (e.1=g)).map (·.2)=_
    rw [List.filter_cons_of_neg (by simp [e])]
theorem zvw {H:Hp}{gd:Addr}{ks:List Int}{ad:Int->Addr}{G:Int->List (Int × Th)}{h g:Int}(M:zco H gd ks ad G):((zim ks G h).filter fun e=>decide (e.1=g)).map (·.2)=((zby (G g) h).map prT).toList:=by
 unfold zim
 rw [zf6 (ks:=ks) ((zan ks).nodup_iff.mpr M.nk)]
 by_cases y:g∈zau ks
 ·rw [if_pos y]
 ·rw [if_neg y,M.go g fun z=>y ((zan _).symm.subset z)]
  rfl
def zo2 (l:List (Int × Th))(R:List Int):List (Int × Str):=R.filterMap fun h=>(zby l h).map prT
theorem zuh {l:List (Int × Th)}{R:List Int}{h:Int}:zo2 l (R++[h])=zo2 l R++((zby l h).map prT).toList:=by
 unfold zo2
 rw [List.filterMap_append]
 congr 1
theorem zzh {l:List (Int × Th)}{R:List Int}{p p':Int × Str}(un:∀ e∈l,∀ e'∈l,e.2.n=e'.2.n->e.2=e'.2)(hp:p∈zo2 l R)(hp':p'∈zo2 l R)(e:p.1=p'.1):p.2=p'.2:=by
 obtain ⟨c,_,h⟩:=ij.mp hp
 obtain ⟨t,h1,rfl⟩:=j6.mp h
 obtain ⟨c',_,h'⟩:=ij.mp hp'
 obtain ⟨t',a,rfl⟩:=j6.mp h'
 rw [show t=t' from un _ (zbx h1) _ (zbx a) e]
theorem z0h.met {l:List (Int × Th)}{R:List Int}{o:Option Th}(ho:z0h l R o):(zo2 l R=[]↔o=none)/\∀ p∈zo2 l R,(∀ q∈zo2 l R,q.1<=p.1)->(∀ e∈l,∀ e'∈l,e.2.n=e'.2.n->e.2=e'.2)->o.map (·.s)=some p.2:=by
 have mem:∀ {p:Int × Str},p∈zo2 l R->∃ c∈R,∃ t,zby l c=some t/\prT t=p:=fun {p} hp=>by
  obtain ⟨c,hc,h⟩:=ij.mp hp
  obtain ⟨t,h1,h2⟩:=j6.mp h
  exact ⟨c,hc,t,h1,h2⟩
 cases o with
 | none =>
  have e:zo2 l R=[]:=List.eq_nil_iff_forall_not_mem.mpr fun p hp=>by
   obtain ⟨c,hc,t,h1,_⟩:=mem hp
   rw [ho c hc] at h1
   cases h1
  refine ⟨⟨fun _=>rfl,fun _=>e⟩,fun p hp=>?_⟩
  rw [e] at hp
  cases hp
 | some v =>
  obtain ⟨c,hc,h1,h2⟩:=ho
  have hv:prT v∈zo2 l R:=ij.mpr ⟨c,hc,by rw [h1]; rfl⟩
  refine ⟨⟨(fun e=>by rw [e] at hv; cases hv),(fun e=>nomatch e)⟩,fun p hp hm un=>?_⟩
  obtain ⟨c',b,t',a,rfl⟩:=mem hp
  have a1:v.n<=t'.n:=hm _ hv
  have a2:=h2 c' b t' a
  have:v=t':=un _ (zbx h1) _ (zbx a) (show v.n=t'.n by omega)
  rw [this]
  rfl
def inS (l:List (Int × Th)):List (Key × V):=l.map fun e=>(Sum.inl e.1,V.str e.2.s)
theorem zt8 {l:List (Int × Th)}{h:Int}:zdi (inS l) (Sum.inl h)=(zby l h).map fun t=>V.str t.s:=by
 unfold zdi inS zby
 rw [List.find?_map]
 have e:((fun kv:Key × V=>decide (kv.1=Sum.inl h)) ∘ fun e:Int × Th=>((Sum.inl e.1:Key),V.str e.2.s))=fun e=>decide (e.1=h):=by
  funext e
  show decide ((Sum.inl e.1:Key)=Sum.inl h)=decide (e.1=h)
  exact decide_eq_decide.mpr ⟨fun z=>by injection z,fun z=>by rw [z]⟩
 rw [e]
 cases l.find? fun e=>decide (e.1=h) <;> rfl
theorem zz2 {l:List (Int × Th)}{h:Int}{t:Th}:zd6 (inS l) (Sum.inl h) (V.str t.s)=inS (zgf l h t):=by
 unfold zd6 zgf
 rw [ze3,zt8]
 cases e:zby l h with
 | none =>
  simp only [Option.map_none,Option.isSome_none,j3,if_false]
  unfold inS
  rw [i9]
  rfl
 | some u =>
  simp only [lh,m5,if_true]
  unfold inS
  rw [jn,jn]
  refine j5 fun x _=>?_
  show (if (Sum.inl x.1:Key)=Sum.inl h then ((Sum.inl x.1:Key),V.str t.s) else ((Sum.inl x.1:Key),V.str x.2.s))=(Sum.inl (if x.1=h then (h,t) else x).1,V.str (if x.1=h then (h,t) else x).2.s)
  by_cases z:x.1=h
  ·rw [if_pos (by rw [z]),if_pos z,z]
  ·rw [if_neg (fun y=>z (by injection y)),if_neg z]
def SoM (m:MD):Prop:=∀ k,∀ e∈m.G k,PyData.strOk e.2.s=true
theorem SoM.kept {m:MD}(h:SoM m){g:Int}:∀ e∈zim m.ks m.G g,PyData.strOk e.2.2=true:=fun e he=>by
 obtain ⟨k,_,h1⟩:=ij.mp he
 cases e2:zby (m.G k) g with
 | none=>rw [e2] at h1; cases h1
 | some t =>
  rw [e2] at h1
  cases h1
  exact h k (g,t) (zbx e2)
theorem SoM.met {m:MD}(h:SoM m){g:Int}{R:List Int}:∀ p∈zo2 (m.G g) R,PyData.strOk p.2=true:=fun p hp=>by
 obtain ⟨c,_,h1⟩:=ij.mp hp
 obtain ⟨t,h2,rfl⟩:=j6.mp h1
 exact h g (c,t) (zbx h2)
theorem z1e {K:W.Frag}{H:Hp}{Q:VK}{a b:Addr}{ts:List Addr}{ps:List (Int × Str)}(h1:H a=some (.lst (ts.map V.ref)))(pm:Paired (mtH H) ts ps)(h2:H b=some (.lst []))(ok:∀ p∈ps,PyData.strOk p.2=true)(q:Q (.bl (!decide (ps=[]))) H):z2r K true (.ref a) (.ref b) H Q:=by
 refine ⟨.list (ps.map mtD),.list [],?_,?_,?_,by simp [PyData.canLay0,PyData.canLayAll0],?_,?_⟩
 ·unfold DV
  exact ⟨a,_,rfl,SqL.of h1,zsx pm⟩
 ·unfold DV
  exact ⟨b,_,rfl,SqL.of h2,by unfold DVs; rfl⟩
 ·unfold PyData.canLay0
  exact zo8 fun p hp=>by simp [mtD,PyData.canLay0,PyData.canLayAll0,ok p hp]
 ·unfold PyData.depth
  have:=zmh (g:=mtD) (n:=1) (xs:=ps) fun e _=>by simp [mtD,PyData.depth,PyData.depthAll]
  omega
 ·have e:PyData.eqv (.list (ps.map mtD)) (.list [])=decide (ps=[]):=by cases ps <;> simp [PyData.eqv,PyData.eqvAll]
  rw [e]
  exact q
theorem zul.ne {K:W.Frag}{H:Hp}{Q:VK}{d d' gd:Addr}{l ks:List Int}{lt lt' ad:Int->Addr}{G:Int->List (Int × Th)}(h1:zul H d l lt (fun h=>thV (zkt ks G h)))(h2:zul H d' l lt' (fun h=>thV (zkt ks G h)))(M:zco H gd ks ad G)(ok:∀ h,∀ e∈zim ks G h,PyData.strOk e.2.2=true)(q:Q (.bl false) H):z0o K true (.ref d) (.ref d') H Q:=by
 refine ⟨d,d',_,_,rfl,rfl,Rd.of h1.d,Rd.of h2.d,by simp [thD],fun p hp=>?_,q⟩
 unfold thD at hp
 obtain ⟨n,hn,rfl⟩:=ju.mp hp
 have pk:=zs5 (h:=n) M
 have a1:=h1.it n hn
 have a2:=h2.it n hn
 rw [zr_] at a1 a2
 refine ⟨_,zfi.trans (if_pos hn),zwo (zim ks G n),zwo (zim ks G n),zxo a1 pk,zxo a2 pk,zsq (ok n),zsq (ok n),gy (zvu _) (by decide),?_⟩
 unfold zwo PyData.eqv
 exact zs8 _
def ztv (H:Hp)(r:Int)(s:TwS)(m p:MD)(z:Int)(lv:V)(ll:List (Int × Th)):Prop:=lv = .non\/∃ ld,lv = .ref ld/\H ld=some (.dK (inS ll))/\¬ O2 m p z s.hs s.hs ld/\Wh r s/\zlc r s.hs m.G ll
def zws (CB CT CW T0 T1 T3 T4:Addr):Sp:=fun vs H Q _=>∀ CC:Prop,(∀ (w v:Addr) (z r:Int) (s:TwS) (m p:MD) (i g:Int) (lv:V) (ll:List (Int × Th)),vs=[.ref w,.ref v,.int i,.int g,lv]->Tw CB CT CW T0 T1 T3 T4 H w v z r s m p->SoM m->s.pool.length<=60->i∈s.hs->i∉s.sil->0<=g->g<2 ^ z.toNat->m.ks.length<64->ztv H r s m p z lv ll->(∀ (H':Hp) (T' U':Int->zbp) (rest:List Int),Row (fun h=>zaq z r s.hs s.sil s.N g h i) i g r.toNat (i :: rest)->zcy (fun h=>zaq z r s.hs s.sil s.N g h i) i g r.toNat (i :: rest)=none->Tw CB CT CW T0 T1 T3 T4 H' w v z r (zxy z r i g s) ⟨m.td,m.sd,T',m.dx,m.ks,m.ad,m.G⟩ ⟨p.td,p.sd,U',p.dx,p.ks,p.ad,p.G⟩->Kl H H' (O2 m p z s.hs s.hs) (O2 ⟨m.td,m.sd,T',m.dx,m.ks,m.ad,m.G⟩ ⟨p.td,p.sd,U',p.dx,p.ks,p.ad,p.G⟩ z s.hs s.hs)->Q (.bl true) H')->CC)->CC
theorem zbq:zam ["_law_one","_law_other","_law_start","_law_key","_law_last","_law_things_here","_law_row","_law_found","_law_met","_law_house","_law_told","_law_due","_law_text_here"] ["_law_one","_law_other","_law_start","_law_key","_law_last"] (zai (top 38)):=fS
theorem zq9 (Z:ZZ P w K mg base)(D:Df K mg "_law_sought" (top 38) ["_law_one","_law_other","_law_start","_law_key","_law_last"]):zdm P w K mg base CX0 17 D.f D.fd ["_law_one","_law_other","_law_start","_law_key","_law_last"] (zws Z.ba.C Z.bb.C Z.bc.C Z.bk.P Z.cs.P Z.b6.P Z.ci.P):=by
 have c7:=Z.bc.cl
 obtain ⟨dd,cy,dn,di,dg,c0,-⟩:=Z.bc.na
 have bf:=zgm Z
 have cm:=zkh Z bf (by decide) Z.df Z.dl Z.dk
 have br:=zrj (CB:=Z.ba.C) (CT:=Z.bb.C) (T0:=Z.bk.P) (T1:=Z.cs.P) (T3:=Z.b6.P) (T4:=Z.ci.P) Z
 refine D.fn.ok zbq (by kd_p) (fun cdv A outer s H vs Q E hr cg=>?_)
 refine cg _ fun w v z r s m p i g lv ll cc X so aa hi cz cp dc cw cb k=>?_
 subst cc
 have dm:=X.a
 refine ⟨_,(zac (zaw (i:=5) zbq.nd rfl oL (pfD Z.c6 br hr rfl (zaa (pv 0) zag)))
  (zac (zxk (pmD (pv 1) Z.bc.cl Z.ct bf hr (zaa (pv 2) (zaa (pv 3) zag))) (zjg (n:=2) rfl (zbl (zaz (i:=6) zbq.nd rfl oL) (zbl (zaz (i:=7) zbq.nd rfl oL) zfg))))
  (zac (zaw (i:=8) zbq.nd rfl oL (zce zag))
  (zac (zd5 PassesOwn.never rfl (zbr (pv 6)) (zjg (n:=2) rfl (zbl (zaz (i:=9) zbq.nd rfl oL) (zbl (zaz (i:=10) zbq.nd rfl oL) zfg)))
   (zah (zbz (zav zge (pv 10) zcd (za6 _))
    (zah (zaw (i:=8) zbq.nd rfl oL (za4 zj0 (pv 8) (zht rfl (zbn (own:=["_law_thing"]) (caps:=[3]) (N':=["_law_thing","_law_key"]) (by kernel_rfl)) (zbr (zdt (zdd hr) (pv 5) (pv 9) (fun _ _=>rfl))) (fun _ _ _ _ _=>(zaz (i:=0) (show (["_law_thing","_law_key"]:List Str).Nodup by decide +kernel) rfl oL)) (fun _ _ _ _ _=>(zfl (zav zmm (zey (zpj (K:=K) rfl) (pv 0) zal (fun _ _=>rfl)) (pv 1) (za6 _)))) (fun _ _ _ _ _=>(zno (zaa (zey (zpj (K:=K) rfl) (pv 0) zal (fun _ _=>rfl)) (zaa (zey (zpj (K:=K) rfl) (pv 0) zal (fun _ _=>rfl)) zag))))))))
    zay)))
  (zac (zaw (i:=11) zbq.nd rfl oL zcd)
  (zac (zbz (zav (zxr hr.units) (pv 8) (zce zag) (za6 _))
   (zah (zaw (i:=11) zbq.nd rfl oL (zey zj5 (zbf (zs3 rfl hr.units) rfl Z.da.n_max zxc (zaa (pv 8) zag)) zal (fun _ _=>rfl))))
   zay)
  (zac (zaw (i:=12) zbq.nd rfl oL (pmD (pv 0) Z.bc.cl Z.c5 cm hr (zaa (pv 2) (zaa (pv 3) zag))))
  (zac (zbz (PW.pt (z0u (zav zv4 (pv 12) (pv 11) (za6 _)) (z0u (zav (zx2 hr.units) (pfD Z.c6 br hr rfl (zaa (pv 0) zag)) (pv 5) (za6 _)) (z2h (PW.pt (zol (zav zge (pv 12) zcd (za6 _)) (zj4 (zid (zd2 (zbf zmb rfl Z.da.n_isinstance ze_ (zaa (pv 12) (zaa (zyi rfl Z.da.n_str zxi) zag))))))))))))
   (zah (zat zhg))
   zay)
  (zah (zat (z3e (zj1 zlb (pv 4) zcd (za6 _)) (zla (zj1 zmm (pv 12) (zwi (zdd hr) (pv 4) (pv 3) ⟨rfl,rfl,rfl,rfl⟩) (za6 _)))))))))))))),?_⟩
 kt_k
 intro d1 lt H1 s1 a3 flt t1
 have X1:=X.same s1
 have bv:=X1.b.X.X.W
 have b1:=X1.b.X.X.A
 have a4:=X1.b.X.X.O
 have ce:=X1.b.X.ob
 have t0:=X1.b.X.X.t0
 have b9:=X1.b.X.X.t1
 have t3:=X1.b.X.X.t3
 have a9:=X1.b.X.X.pq
 have bp:=X1.b.X.X.pb
 have az:=X1.b.X.X.W.r2
 kt_k
 intro t rl fl c Lr H2 U2 l ah W2 A2 e2 K2 a6 am _ _ _ _ _ bw
 obtain ⟨B2,d2⟩:=X1.b.ask aa Z.df Z.dl Z.dk hi l ah W2 A2 e2 K2
 obtain ⟨X2,u⟩:=X1.swap.first B2 d2
 have u:=u.orc
 have c8:(i :: c).length<=60:=by
  obtain ⟨bu,cq⟩:=l.ok (zc4 a4 az aa fun x hx=>(bp x hx).1) (a9 i hi)
  exact gy (zbc cq bu) aa
 obtain ⟨ps,ar,pp⟩:=am.ex
 have cj:=pp.len
 rw [X1.b.n] at l ah pp
 have t2:zul H2 d1 (zau s.hs) lt (fun h=>thV (zkt m.ks m.G h)):=⟨u.k d1 (.dK _) trivial t1.d (X.none a3),fun h hh=>(u.lst (t1.it h hh) (X.none (flt h hh))).1⟩
 have cn:¬ O2 m _ z s.hs s.hs d1:=fun y=>(u.o d1 y).elim (X.none a3) fun e=>by rw [t1.d] at e; cases e
 have co:∀ h∈zau s.hs,¬ (m.O z s.hs (lt h)\/Om p.td p.sd z.toNat s.hs U2 p.dx.2.1 p.ks p.ad (lt h)):=fun h hh=>(u.lst (t1.it h hh) (X.none (flt h hh))).2
 have aw:=X2.b.X.M
 clear bv b1 a4 ce t0 b9 t3 a9 bp W2 A2 e2 K2 B2 d2
 kt_k
 intro m0 b4
 generalize be:upd H2 m0 _=H3
 obtain ⟨s3,e3⟩:=nw b4 be
 replace e3:H3 m0=some (.lst (([]:List Addr).map V.ref)):=e3
 clear be
 have bq:=s3 _ _ ar
 kt_k
 refine zcn (K:=K) (a:=rl) (xs:=ps.map V.ref) (fun j σ H4=>zis (∃ (ma:Addr) (v9 ax:Option V) (ts:List Addr),σ=[some (.ref w),some (.ref v),some (.int i),some (.int g),some lv,some (.ref d1),some (.ref rl),some (.ref fl),some (.ref ma),v9,ax,none,none]/\zax H2 H4/\H4 ma=some (.lst (ts.map V.ref))/\Paired (mtH H4) ts (zo2 (m.G g) (((i :: c).take j).filter fun h=>(zaq z r s.hs s.sil s.N g h i).isSome)))) ⟨⟨m0,_,_,[],rfl,s3,e3,.nil⟩⟩ (fun j σ H4 _ ⟨_,_,_,_,_,s4,_⟩=>SqL.of (s4 _ _ ar)) ?_ ?_
 ·rintro j y σ H4 hj ⟨ma,v9,ax,ts,rfl,s4,e4,pm⟩
  obtain ⟨q,h,hq,hh,rfl,hx⟩:=zdp pp hj
  have hx:=s4 _ _ (show H2 q=_ from hx)
  have et:=zb9 hh
  cases ev:zaq z r s.hs s.sil s.N g h i with
  | none =>
   rw [zl1 (tl:=fun h=>zaq z r s.hs s.sil s.N g h i) ev] at hx
   kt_k
   refine ⟨⟨ma,_,_,ts,rfl,s4,e4,?_⟩⟩
   rw [et,io,zjj (p:=fun h=>(zaq z r s.hs s.sil s.N g h i).isSome) (by show (zaq z r s.hs s.sil s.N g h i).isSome=false; rw [ev]; rfl),iy]
   exact pm
  | some ns =>
   rw [zmg (tl:=fun h=>zaq z r s.hs s.sil s.N g h i) ev] at hx
   have bo:h∈zau s.hs:=(zan _).symm.subset (zmw (by rw [ev]; rfl)).1
   have b2:=zg0.k (k:=Sum.inl h) (t2.same s4).d
   rw [zfi,if_pos bo] at b2
   have bg:=(t2.same s4).it h bo
   rw [zr_] at bg
   have pk:=zs5 (h:=h) (aw.same s4)
   have cx:((zkt m.ks m.G h).map (·.a)).length<=64:=by
    rw [gf]
    have:=List.length_filterMap_le (fun k=>zby (m.G k) h) (zau m.ks)
    rw [zbi] at this
    exact gy this (by omega)
   kt_k
   intro D hD
   refine zem (K:=K) (a:=lt h) (xs:=((zkt m.ks m.G h).map (·.a)).map V.ref) (fun x σ H5=>zis (∃ (v0:Option V) (us:List Addr),σ=[v0,some (.int g)]/\zax H4 H5/\H5 D=some (.lst (us.map V.ref))/\us.length<=x/\Paired (mtH H5) us ((((zim m.ks m.G h).take x).filter fun e=>decide (e.1=g)).map (·.2)))) ⟨⟨none,[],rfl,zax.new H4 hD,zad,gv _,.nil⟩⟩ (fun x σ H5 _ ⟨_,_,_,s5,_⟩=>SqL.of (s5 _ _ bg)) ?_ ?_
   ·rintro x y σ H5 hy ⟨v0,us,rfl,s5,e5,b3,pu⟩
    obtain ⟨t,e,ht,he,rfl,hT⟩:=zdp pk hy
    have hT:=s5 _ _ (show H4 t=_ from hT)
    have ek:(zim m.ks m.G h).take (x+1)=(zim m.ks m.G h).take x++[e]:=by rw [ja,he]; rfl
    have c9:=(List.getElem?_eq_some_iff.mp ht).1
    have c4:(us.map V.ref).length<sizeLine:=by
     rw [gf]
     exact zar (by omega)
    have bi:atI [V.int e.1,V.int e.2.1,V.str e.2.2] 0=some (V.int e.1):=rfl
    have a7:atI [V.int e.1,V.int e.2.1,V.str e.2.2] 1=some (V.int e.2.1):=rfl
    have bd:atI [V.int e.1,V.int e.2.1,V.str e.2.2] 2=some (V.str e.2.2):=rfl
    by_cases eg:e.1=g
    ·rw [eg] at hT bi a7 bd
     kt_k
     simp only [decide_true,if_true]
     kt_k
     intro t2 b7
     generalize ab:upd H5 t2 _=H6
     have s6:zax H5 H6:=by rw [<- ab]; exact zax.new H5 b7
     have e6:mtH H6 t2 e.2:=by unfold mtH; rw [<- ab,zad]
     clear ab
     have cd:=s6 _ _ e5
     kt_k
     have ea:us.map V.ref++[V.ref t2]=(us++[t2]).map V.ref:=by rw [i9]; rfl
     rw [ea]
     have ef:(((zim m.ks m.G h).take (x+1)).filter fun e=>decide (e.1=g)).map (·.2)=(((zim m.ks m.G h).take x).filter fun e=>decide (e.1=g)).map (·.2)++[e.2]:=by
      rw [ek,io,zhv (p:=fun e:Tg=>decide (e.1=g)) (decide_eq_true eg),i9]
      rfl
     refine ⟨⟨_,us++[t2],rfl,(s5.trans s6).put hD,zad,by rw [gl,gq]; omega,?_⟩⟩
     rw [ef]
     refine (zpq (pu.mp (G:=mtH H6) fun t n e=>s6 _ _ e) (.cons e6 .nil)).mp fun t' n e=>?_
     unfold mtH at e |-
     rw [zab (fun z=>by rw [z,cd] at e; cases e)]
     exact e
    ·kt_k
     dsimp only
     rw [if_neg (fun y=>eg (V.int.inj (of_decide_eq_true y)))]
     refine ⟨⟨_,us,rfl,s5,e5,by omega,?_⟩⟩
     rw [ek,io,zjj (p:=fun e:Tg=>decide (e.1=g)) (decide_eq_false eg),iy]
     exact pu
   ·rintro σ H5 ⟨v0,us,rfl,s5,e5,b3,pu⟩
    rw [gf,pk.len,i6,zvw (aw.same s4)] at pu
    have a2:=s5 _ _ e4
    have c3:(ts.map V.ref).length+(us.map V.ref).length<=sizeLine:=by
     rw [gf,gf,pm.len,pu.len]
     have:=List.length_filterMap_le (fun h=>(zby (m.G g) h).map prT) (((i :: c).take j).filter fun h=>(zaq z r s.hs s.sil s.N g h i).isSome)
     have h2:=ib (fun h=>(zaq z r s.hs s.sil s.N g h i).isSome) ((i :: c).take j)
     rw [i5] at h2
     have h3:((zby (m.G g) h).map prT).toList.length<=1:=by cases zby (m.G g) h <;> simp
     exact ie (zar (by unfold zo2; omega))
    kt_k
    intro m6 ch
    rw [<- i9]
    generalize ab:upd H5 m6 _=H6
    obtain ⟨s6,e6⟩:=nw ch ab
    clear ab
    kt_k
    refine ⟨⟨m6,_,_,ts++us,rfl,s4.trans (s5.trans s6),e6,?_⟩⟩
    rw [et,io,zhv (p:=fun h=>(zaq z r s.hs s.sil s.N g h i).isSome) (by show (zaq z r s.hs s.sil s.N g h i).isSome=true; rw [ev]; rfl),zuh]
    exact zpq (pm.mp (G:=mtH H6) fun t n e=>(s5.trans s6) _ _ e) (pu.mp (G:=mtH H6) fun t n e=>s6 _ _ e)
 ·rintro σ H4 ⟨ma,v9,ax,ts,rfl,s4,e4,pm⟩
  rw [gf,cj,i6] at pm
  kt_k
  intro l0 b0
  generalize bn:upd H4 l0 _=H5
  obtain ⟨s5,e5⟩:=nw b0 bn
  clear bn
  have a2:=s5 _ _ e4
  have ak:=pm.mp (G:=mtH H5) fun t n e=>s5 _ _ e
  have aj:=s4.trans s5
  have X5:Tw1 Z.ba.C Z.bb.C Z.bc.C Z.bk.P Z.cs.P Z.b6.P Z.ci.P H5 v w z r s (zxy z r i g s) _ m:=⟨X2.a.same aj,X2.b.same aj,X2.sp,X2.vw⟩
  have t5:=t2.same aj
  have bh:=X5.b
  have ac:=zxp ak
  have ay:=bh.X.un g
  generalize ag:zo2 (m.G g) ((i :: c).filter fun h=>(zaq z r s.hs s.sil s.N g h i).isSome)=ml at pm ak ac
  clear X2 aw t2 pm e4 e3 s3 s4 s5 pp ar bq am a6 bw
  kt_k
  refine z1e a2 ak e5 (fun p hp=>so.met (g:=g) p (by rw [ag]; exact hp)) ⟨_,rfl,?_⟩
  have cv:=bh.X.ob
  have b8:∀ t∈ts,H5 t=some (.tup [.int (z1v H5 t),.str (z06 H5 t)]):=fun t ht=>by
   obtain ⟨p,_,h⟩:=ac.1 t ht
   rw [h.fst,h.snd]
   exact h
  have cr:∀ t∈ts,∀ t'∈ts,z1v H5 t=z1v H5 t'->z06 H5 t=z06 H5 t':=fun t ht t' au y=>by
   obtain ⟨p,hp,h⟩:=ac.1 t ht
   obtain ⟨p',bl,h'⟩:=ac.1 t' au
   rw [h.fst,h'.fst] at y
   rw [h.snd,h'.snd]
   rw [<- ag] at hp bl
   exact zzh ay hp bl y
  by_cases al:ml=[]
  case' pos =>
   simp only [al,decide_true,Bool.not_true,j3,if_false]
   have an:∀ o,z0h (m.G g) ((i :: c).filter fun h=>(zaq z r s.hs s.sil s.N g h i).isSome) o->ovS o=V.non:=fun o ho=>by
    rw [(ho.met.1).mp (ag.trans al)]
    rfl
   kt_k
  case' neg =>
   simp only [al,decide_false,Bool.not_false,if_true]
   kt_k
   refine ⟨?_,b8,cr,fun t ht a5=>?_⟩
   ·rw [ak.len]
    exact List.length_pos_iff.mpr al
   obtain ⟨px,hp,av⟩:=ac.1 t ht
   have an:∀ o,z0h (m.G g) ((i :: c).filter fun h=>(zaq z r s.hs s.sil s.N g h i).isSome) o->ovS o=V.str px.2:=fun o ho=>by
    have h2:=ho.met.2 px (by rw [ag]; exact hp) (fun q hq=>by
     rw [ag] at hq
     obtain ⟨t',au,cu⟩:=ac.2 q hq
     have:=a5 t' au
     rw [av.fst,cu.fst] at this
     exact this) ay
    cases o with
    | none=>cases h2
    | some v=>exact congrArg V.str (Option.some.inj h2)
   have av:H5 t=some (.tup [.int px.1,.str px.2]):=av
   have db:atI [V.int px.1,V.str px.2] 1=some (V.str px.2):=rfl
   kt_k
  all_goals
   intro H6 T6 ap o ae ao aq B6 d6
   have er:c=ap:=(List.cons.inj (l.det ae ah ao)).2
   rw [<- er] at aq
   have a1:=an o aq
   obtain ⟨X6,af⟩:=X5.second B6 d6
   have af:=af.orc
   have t6:zul H6 d1 (zau s.hs) lt (fun h=>thV (zkt m.ks m.G h)):=⟨af.k d1 (.dK _) trivial t5.d cn,fun h hh=>(af.lst (t5.it h hh) (co h hh)).1⟩
   have XX:=X6.swap
   have bz:=XX.a
   have bj:=(((Kl.same s1).trans u).trans (Kl.same aj)).trans af
   rw [a1]
   clear ae ao B6 d6 X6
   kt_k
   simp only [decide_true,Bool.not_true,j3,if_false]
   kt_k
   intro d2 dj H7 s7 de c2 t7
   refine ⟨_,rfl,zul.ne t7 (t6.same s7) (bz.X.M.same s7) (fun h=>so.kept) ⟨_,rfl,?_⟩⟩
   have ky:=k H7 T6 U2 c l ah (XX.same s7) (bj.trans (Kl.same s7))
   rcases cb with rfl | ⟨ld,rfl,b5,cf,ca,ck⟩
   ·kt_k
   ·have bt:=s7 _ _ (bj.k ld (.dK _) trivial b5 cf)
    have c1:=zg0.k (k:=Sum.inl g) bt
    have dh:IsD H7 ld:= .inl ⟨_,.inl bt⟩
    have a8:=X.a.X.X.W
    have bm:=X.a.X.X.O
    rw [X.a.n] at bm
    have ai:=ck.seek ca bm a8.r1 az a8.hb aa cp hi ay l ah aq
    have a0:(zdi (inS ll) (Sum.inl g)).getD V.non=ovS o:=by
     rw [zt8]
     cases o <;> cases e:zby ll g <;> rw [e] at ai
     ·rfl
     ·cases ai
     ·cases ai
     ·exact congrArg V.str (Option.some.inj ai).symm
    rw [a1] at a0
    kt_k
    dsimp only
    rw [a0]
    kt_k
    all_goals
     rw [decide_eq_true rfl]
     exact ky
theorem zr7 {l:List Int}(hn:l.Nodup)(h1:1<l.length)(h:Int):∃ x∈l,x≠h:=by
 match l,hn,h1 with
 | a :: b :: t,hn,_ =>
  by_cases e:a=h
  ·refine ⟨b,gc _ (gj ..),fun y=>?_⟩
   have:=(ir.mp hn).1
   rw [e,<- y] at this
   exact this (gj ..)
  ·exact ⟨a,gj ..,e⟩
 | [a],_,h1=>simp at h1
 | [],_,h1=>simp at h1
theorem zmf {hs sil:List Int}(hn:hs.Nodup):(zcc hs sil).Nodup:=by
 unfold zcc
 exact ((zan hs).nodup_iff.mpr hn).sublist j8
theorem zpw {hs sil:List Int}{x:Int}(h1:x∈hs)(h2:x∉sil):zcc hs sil≠[]:=fun e=>by
 have:=zbk.mpr ⟨h1,h2⟩
 rw [e] at this
 cases this
theorem zt_ {hs sil:List Int}{h:Int}(hn:hs.Nodup)(h1:1<(zcc hs sil).length):zcc hs (zc5 h sil)≠[]:=by
 obtain ⟨x,hx,ne⟩:=zr7 (zmf hn) h1 h
 obtain ⟨a,b⟩:=zbk.mp hx
 exact zpw a fun y=>(zi3.mp y).elim b ne
theorem zyo {hs sil:List Int}{h:Int}(hn:hs.Nodup)(h1:1<(zcc hs sil).length):zcc (zf0 h hs) (zf0 h sil)≠[]:=by
 obtain ⟨x,hx,ne⟩:=zr7 (zmf hn) h1 h
 obtain ⟨a,b⟩:=zbk.mp hx
 exact zpw (zb_.mpr ⟨a,ne⟩) fun y=>b (zb_.mp y).1
theorem zs0 {a b:List Int}{h:Int}(ha:a.Nodup)(hs:∀ x∈a,x∈b)(hb:h∈b)(hn:h∉a):a.length<b.length:=by
 have:=zbc (a:=h :: a) (b:=b) (ir.mpr ⟨hn,ha⟩) fun x hx=>(gx.mp hx).elim (fun y=>y ▸ hb) (hs x)
 rw [ic] at this
 omega
theorem zyx {hs sil:List Int}{h:Int}(hn:hs.Nodup)(hh:h∈zcc hs sil):(zcc hs (zc5 h sil)).length<(zcc hs sil).length:=zs0 (zmf hn) (fun x hx=>zbk.mpr ⟨(zbk.mp hx).1,fun y=>(zbk.mp hx).2 (zi3.mpr (.inl y))⟩) hh fun y=>(zbk.mp y).2 (zi3.mpr (.inr rfl))
theorem z3h {hs sil:List Int}{h:Int}(hn:hs.Nodup)(hh:h∈zcc hs sil):(zcc (zf0 h hs) (zf0 h sil)).length<(zcc hs sil).length:=zs0 (zmf (hn.sublist j8)) (fun x hx=>by
 obtain ⟨a,b⟩:=zbk.mp hx
 obtain ⟨a1,a2⟩:=zb_.mp a
 exact zbk.mpr ⟨a1,fun y=>b (zb_.mpr ⟨y,a2⟩)⟩) hh fun y=>(zb_.mp (zbk.mp y).1).2 rfl
theorem Wh.kp {z r g i:Int}{s:TwS}{rest kp:List Int}(W:Wh r s)(O:NOk s.pool z.toNat r s.hs s.N)(hr:1<=r)(hr2:r<=8)(hb:∀ h∈s.hs,0<=h/\h<2 ^ z.toNat)(hl:s.pool.length<=60)(hg:0<=g)(hi:i∈s.hs)(hR:Row (fun h=>zaq z r s.hs s.sil s.N g h i) i g r.toNat (i :: rest))(hx:zcy (fun h=>zaq z r s.hs s.sil s.N g h i) i g r.toNat (i :: rest)=none)(e:kp=(za3 g (zb6 (fun h=>zaq z r s.hs s.sil s.N g h i) i g r.toNat (i :: rest)++[i])).take r.toNat):kp=(za3 g s.hs).take r.toNat:=by
 obtain ⟨hs,sil,pool,N⟩:=s
 obtain ⟨w1,w2,R⟩:=W
 dsimp only at w1 w2 R O hb hl hi hR hx e |-
 have w2:=w2.symm
 subst w1 w2
 rw [e,zt5 R O hb hr hr2 hl hg hi hR hx,zlt hg (fun h hh=>(hb h hh).1) hi]
theorem SoM.laid {m m':MD}{g:Int}{kp:List Int}{t:Th}(h:SoM m)(hG:m'.G=zdh m.G g (zb0 (m.G g) kp t))(ok:PyData.strOk t.s=true):SoM m':=fun k e he=>by
 rw [hG] at he
 by_cases y:k=g
 ·rw [y,zak] at he
  rcases zhu he with z | z
  ·exact h g e z
  ·rw [z.2]
   exact ok
 ·rw [zap y] at he
  exact h k e he
theorem SoM.done {wd:Str}{h:Int}{m m':MD}(so:SoM m)(d:Dn wd h m m'):SoM m':=fun k e he=>by
 rw [d.G] at he
 unfold doG at he
 split at he
 ·exact so k e (zfp e he)
 ·exact so k e he
structure LT (CB CT CW T0 T1 T3 T4:Addr)(H:Hp)(w v:Addr)(z r:Int)(mny c n:Nat)(lv:V)(O:Addr->Prop):Prop where
 ex:∃ (s:TwS) (m p:MD) (ll:List (Int × Th)),Tw CB CT CW T0 T1 T3 T4 H w v z r s m p/\SoM m/\s.pool.length<=60/\m.ks.length<=n/\p.ks.length<=n/\zcc s.hs s.sil≠[]/\(zcc s.hs s.sil).length=c/\ztv H r s m p z lv ll/\ll.length<=n/\(lv≠ .non->c=mny)/\O=fun q=>O2 m p z s.hs s.hs q\/lv = .ref q
section
variable {CB CT CW T0 T1 T3 T4:Addr} {H H3:Hp} {w v:Addr} {z r:Int} {mny c n:Nat} {lv:V} {O:Addr->Prop}
theorem ztv.same {s:TwS}{m p:MD}{ll:List (Int × Th)}(h:ztv H r s m p z lv ll)(d:zax H H3):ztv H3 r s m p z lv ll:=h.imp id fun ⟨ld,e,a,b⟩=>⟨ld,e,d _ _ a,b⟩
theorem LT.same (L:LT CB CT CW T0 T1 T3 T4 H w v z r mny c n lv O)(d:zax H H3):LT CB CT CW T0 T1 T3 T4 H3 w v z r mny c n lv O:=by
 obtain ⟨s,m,p,ll,X,a1,a2,a3,a4,a5,a6,a7,h⟩:=L.ex
 exact ⟨⟨s,m,p,ll,X.same d,a1,a2,a3,a4,a5,a6,a7.same d,h⟩⟩
theorem LT.none (L:LT CB CT CW T0 T1 T3 T4 H w v z r mny c n lv O){q:Addr}(e:H q=Option.none):¬ O q:=fun y=>by
 obtain ⟨s,m,p,ll,X,_,_,_,_,_,_,a,_,_,rfl⟩:=L.ex
 rcases y with y | y
 ·exact X.none e y
 ·rcases a with a | ⟨ld,a,b,_⟩
  ·rw [a] at y
   cases y
  ·rw [a] at y
   cases y
   rw [e] at b
   cases b
theorem LT.weak (L:LT CB CT CW T0 T1 T3 T4 H w v z r mny c n lv O):∃ O',LT CB CT CW T0 T1 T3 T4 H w v z r mny c n .non O'/\∀ q,O' q->O q:=by
 obtain ⟨s,m,p,ll,X,a1,a2,a3,a4,a5,a6,_,a7,_,rfl⟩:=L.ex
 exact ⟨_,⟨⟨s,m,p,ll,X,a1,a2,a3,a4,a5,a6,.inl rfl,a7,(fun y=>absurd rfl y),rfl⟩⟩,fun q y=>y.imp id fun z=>nomatch z⟩
end
def z16 (CB CT CW T0 T1 T3 T4:Addr):Sp:=fun vs H Q _=>∀ CC:Prop,(∀ (w v:Addr) (z r x g:Int) (mny c n:Nat) (lv:V) (O:Addr->Prop),vs=[.ref w,.ref v,.int x,.int g,lv]->LT CB CT CW T0 T1 T3 T4 H w v z r mny c n lv O->n<=55->0<=g->g<2 ^ z.toNat->(∀ (H':Hp) (c':Nat) (lv':V) (O':Addr->Prop),LT CB CT CW T0 T1 T3 T4 H' w v z r mny c' (n+1) lv' O'->(lv'=lv\/lv' = .non/\c'<mny)->Kl H H' O O'->Q (.bl true) H')->CC)->CC
theorem zi4:zam ["_law_one","_law_other","_law_x","_law_key","_law_last","_law_live","_law_house","_law_text_here"] ["_law_one","_law_other","_law_x","_law_key","_law_last"] (zai (top 39)):=fS
theorem zwd (Z:ZZ P w K mg base):zld Z 19 Z.c8 (z16 Z.ba.C Z.bb.C Z.bc.C Z.bk.P Z.cs.P Z.b6.P Z.ci.P):=by
 have d5:=Z.bc.cl
 obtain ⟨d8,du,eh,ed,eb,dw,-⟩:=Z.bc.na
 have cb:=zc6 (CB:=Z.ba.C) (CT:=Z.bb.C) Z
 have c0:=zvp Z
 have ck:=zwr (T4:=Z.ci.P) Z Z.df Z.dl Z.dk
 have co:=zgm Z
 have ch:=zk1 Z co (by decide) Z.dh Z.di Z.df Z.dl Z.dk
 have a9:=zl2 Z ch
 have ce:=zq9 Z Z.c7
 refine Z.c8.fn.ok zi4 (by kd_p) (fun cdv A outer s H vs Q E hr cu=>?_)
 refine cu _ fun w v z r x g mny c n lv O cp hL ei ai bj k=>?_
 subst cp
 obtain ⟨s,m,p,ll,X,so,d,dr,dy,aa,hc,ap,dv,ak,rfl⟩:=hL.ex
 clear hL
 have a5:=X.a.X.X.W.r1
 have ay:=X.a.X.X.W.r2
 have ax:=X.a.X.X.W.hb
 have am:=X.a.X.X.W.nd
 have ao:=X.a.X.X.O
 rw [X.a.n] at ao
 have hW:=X.a.X.X.W
 have cr:=X.a.X.ob
 refine ⟨_,(zac (zaw (i:=5) zi4.nd rfl oL (zcm (pv 0) Z.bc.cl Z.b5.me cb hr.mm Z.b5.b .nil zcb))
  (zac (zaw (i:=6) zi4.nd rfl oL (zey zei (pv 5) (za4 zcf (za4 zct (pv 2) zal) (zbf zbh rfl Z.da.n_len zf_ (zaa (pv 5) zag))) (fun _ _=>rfl)))
  (zac (zaw (i:=7) zi4.nd rfl oL (pfD Z.cw c0 hr rfl (zaa (za4 zct (pv 2) zal) zag)))
  (zac (zbz (zav zrd (za4 zcf (pv 2) zal) zal (za6 _))
   (zac (zas (pmD (pv 0) Z.bc.cl Z.cv a9 hr (zaa (pv 6) (zaa (pv 3) (zaa (pv 7) zag)))))
   (zac (zas (pmD (pv 1) Z.bc.cl Z.cv a9 hr (zaa (pv 6) (zaa (pv 3) (zaa (pv 7) zag)))))
   (zac (zbz (zav zge (pv 4) zcd (za6 _))
    (zah (zgg (zdd hr) (pv 4) (pv 3) (pv 7) rfl))
    zay)
   (zah (zat zhg)))))
   zay)
  (zac (zbz (zav zrd (za4 zcf (pv 2) zal) zal (za6 _))
   (zah (zat (pfD Z.c7 ce hr rfl (zaa (pv 0) (zaa (pv 1) (zaa (pv 6) (zaa (pv 3) (zaa (pv 4) zag))))))))
   zay)
  (zac (zbz (zav zy6 (zbf zbh rfl Z.da.n_len zf_ (zaa (pv 5) zag)) zal (za6 _))
   (zah (zas (pfD Z.c4 ck hr rfl (zaa (pv 0) (zaa (pv 1) (zaa (zey zei (zce (zaa zcj (zaa zcj zag))) (za4 zxn (za4 zcf (pv 2) zal) zal) (fun _ _=>rfl)) (zaa (pv 6) (zaa (pv 3) zag))))))))
   zay)
  (zah (zat zhg)))))))),?_⟩
 kt_k
 intro al H1 s1 cc af
 have af:H1 al=some (.lst ((zcc s.hs s.sil).map V.int)):=af
 obtain ⟨h,hh,d6⟩:=zkd (c:=x / 8) aa
 have dd:=zl5 aa
 obtain ⟨ab,bi⟩:=zbk.mp hh
 clear hW cr cc
 kt_k
 intro tx H2 db s2
 have ac:=s1.trans s2
 have X2:=X.same ac
 have de:=s2 _ _ af
 kt_k
 by_cases bp:x % 8<3
 ·refine zov bp ?_
  have cx:=X2.a.X.X.W
  have cd:=X2.a.X.X.A
  have c6:=X2.a.X.X.O
  have bw:=X2.a.X.ob
  have cq:=X2.a.X.M
  have b0:=X2.a.X.dj
  have b4:=X2.a.X.X.t0
  have cg:=X2.a.X.X.t1
  have b7:=X2.a.X.X.t3
  have cf:=X2.a.X.t4
  have d0:=X2.a.X.X.pq
  have eg:=X2.a.X.X.pb
  have dq:m.ks.length<=800:=by omega
  have d7:(m.G g).length<=800:=gy (X2.a.X.len g) (by decide)
  kt_k
  intro l3 a3 cn kp H3 T3 b2 j u W3 A3 e3 az aw M3 bf u0 u1 u3 u4 kk oo ee _ _ _
  have b8:=z0z ab bi u az
  obtain ⟨B3,d3⟩:=X2.a.laid d ab ⟨ai,bj⟩ (fun x hx=>(b8 x hx).1) j u W3 A3 e3 aw M3 bf u0 u1 u3 u4 kk oo ee
  obtain ⟨X3,aj⟩:=X2.first B3 d3
  rw [X2.a.n] at j u az
  have b1:=X3.b.X.X.W
  have c9:=X3.b.X.X.A
  have ct:=X3.b.X.X.O
  have a0:=X3.b.X.ob
  have b9:=X3.b.X.M
  have a6:=X3.b.X.dj
  have c1:=X3.b.X.X.t0
  have ca:=X3.b.X.X.t1
  have cz:=X3.b.X.X.t3
  have cy:=X3.b.X.t4
  have dz:p.ks.length<=800:=by omega
  have ds:(p.G g).length<=800:=gy (X3.b.X.len g) (by decide)
  clear cx cd c6 bw cq b0 b4 cg b7 cf W3 A3 e3 aw M3 bf u0 u1 u3 u4 kk oo ee
  kt_k
  intro l4 a4 c5 ef H4 T4 dp a2 av W4 A4 e4 bu aq M4 bm u0 u1 u3 u4 kk oo ee _ _ _
  have br:=z0z ab bi av bu
  obtain ⟨B4,d4⟩:=X3.b.laid d ab ⟨ai,bj⟩ (fun x hx=>(br x hx).1) a2 av W4 A4 e4 aq M4 bm u0 u1 u3 u4 kk oo ee
  obtain ⟨X4,ae⟩:=X3.second B4 d4
  have f:Kl H H4 (O2 m p z s.hs s.hs) (O2 _ _ z s.hs s.hs):=((Kl.same ac).trans aj).trans ae
  have bl:=zqc (h:=g) (l:=m.ks)
  have bq:=zqc (h:=g) (l:=p.ks)
  have bz:SoM ⟨m.td,m.sd,T3,(m.dx.1,m.dx.2.1,m.dx.2.2+1),zc5 g m.ks,b2,zdh m.G g (zb0 (m.G g) kp ⟨a3,m.dx.2.2,tx⟩)⟩:=so.laid rfl db
  clear b1 c9 ct a0 b9 a6 c1 ca cz cy W4 A4 e4 aq M4 bm u0 u1 u3 u4 kk oo ee B3 B4 d3 d4 aj ae X3
  rcases ap with rfl | ⟨ld,rfl,ag,ah,an,a1⟩
  ·kt_k
   exact k H4 _ .non _ ⟨⟨_,_,_,ll,X4,bz,d,gy bl (by omega),gy bq (by omega),aa,rfl,.inl rfl,by omega,(fun y=>absurd rfl y),rfl⟩⟩ (.inl rfl) (f.with fun q y=> .inl y)
  ·have au:=f.k ld (.dK _) trivial ag ah
   have hsz:(inS ll).length<sizeLine:=by
    unfold inS
    rw [gf]
    exact zar (by omega)
   have bv:zkv H4 ld (V.int g) (V.str tx) (upd H4 ld (.dK (zd6 (inS ll) (Sum.inl g) (V.str tx)))):=zkv.k (k:=Sum.inl g) au hsz
   rw [show zd6 (inS ll) (Sum.inl g) (V.str tx)=inS (zgf ll g ⟨0,0,tx⟩) from zz2 (t:=⟨0,0,tx⟩)] at bv
   have ar:¬ O2 _ _ z s.hs s.hs ld:=fun y=>(f.o ld y).elim ah fun z=>by rw [ag] at z; cases z
   have bt:=a1.laid (g:=g) (a:=a3) (tx:=tx) (X.a.X.lt g) (an.kp ao a5 ay ax d ai ab j u az)
   have bn:=an.ask ao a5 ay ax d ai ab j u
   have ea:=zp6 (l:=ll) (h:=g) (t:=⟨0,0,tx⟩)
   have dc:=(f.with (N:=fun q=>V.ref ld = .ref q) (N':=fun q=>V.ref ld = .ref q) fun q y=> .inl y).trans (⟨fun q o _ e hn=>by rw [zab (fun y=>hn (.inr (by rw [y])))]; exact e,fun q y=> .inl y,fun q e=>by
    by_cases y:q=ld
    ·rw [y,zad] at e
     cases e
    ·rw [zab y] at e
     exact e⟩:Kl H4 (upd H4 ld (.dK (inS (zgf ll g ⟨0,0,tx⟩)))) _ _)
   kt_k
   exact k _ _ (.ref ld) _ ⟨⟨_,_,_,_,X4.past (O:=fun q=>q=ld) (fun q y=>⟨by rw [y]; exact ar,.inl ⟨inS ll,by rw [y]; exact au⟩⟩) (fun q o e hn=>by rw [zab hn]; exact e),bz,d,gy bl (by omega),gy bq (by omega),aa,hc,.inr ⟨ld,rfl,zad,ar,bn,bt⟩,by omega,ak,rfl⟩⟩ (.inl rfl) dc
 ·refine zgj bp ?_
  kt_k
  by_cases bg:x % 8<6
  ·refine zov bg ?_
   have dg:=ap.same ac
   have dn:m.ks.length<64:=by omega
   kt_k
   intro H3 T3 U3 dm a7 c2 X3 aj
   have f:=(Kl.same ac).trans aj
   have be:SoM ⟨m.td,m.sd,T3,m.dx,m.ks,m.ad,m.G⟩:=so
   kt_k
   rcases ap with rfl | ⟨ld,rfl,ag,ah,an,a1⟩
   ·exact k H3 _ .non _ ⟨⟨_,_,_,ll,X3,be,d,by show m.ks.length<=_; omega,by show p.ks.length<=_; omega,aa,rfl,.inl rfl,by omega,(fun y=>absurd rfl y),rfl⟩⟩ (.inl rfl) (f.with fun q y=> .inl y)
   ·exact k H3 _ (.ref ld) _ ⟨⟨_,_,_,ll,X3,be,d,by show m.ks.length<=_; omega,by show p.ks.length<=_; omega,aa,hc,.inr ⟨ld,rfl,f.k ld (.dK _) trivial ag ah,(fun y=>(f.o ld y).elim ah fun z=>by rw [ag] at z; cases z),an.ask ao a5 ay ax d ai ab a7 c2,a1⟩,by omega,ak,rfl⟩⟩ (.inl rfl) (f.with fun q y=> .inl y)
  ·refine zgj bg ?_
   kt_k
   rw [gf]
   by_cases h1:(1:Int)<(((zcc s.hs s.sil).length:Nat):Int)
   ·have bo:1<(zcc s.hs s.sil).length:=by omega
    refine zov h1 ?_
    kt_k
    intro l3 cj
    generalize bh:upd H2 l3 _=H3
    obtain ⟨s3,e3⟩:=nw cj bh
    clear bh
    have X3:=X2.same s3
    have a8:=ac.trans s3
    have d9:m.ks.length<=60:=by omega
    have dt:p.ks.length<=60:=by omega
    have bd:∀ {c':Nat},c'<(zcc s.hs s.sil).length->V.non=lv\/V.non=V.non/\c'<mny:=fun {c'} ec=>by
     by_cases y:lv = .non
     ·exact .inl y.symm
     ·have:=ak y
      exact .inr ⟨rfl,by omega⟩
    have c3:x % 8 - 6=0\/x % 8 - 6=1:=by omega
    rcases c3 with h0 | h0
    ·have cm:atI [V.str "hush",V.str "go"] (x % 8 - 6)=some (V.str "hush"):=by rw [h0]; rfl
     have b3:zyz z r ("hush" : Str) h g s ⟨s.hs,zc5 h s.sil,s.pool,s.N⟩:= .inr (.inl ⟨rfl,rfl⟩)
     kt_k
     intro H4 m4 p4 X4 d1 d2 ae
     kt_k
     exact k H4 _ .non _ ⟨⟨_,m4,p4,ll,X4,so.done d1,d,by rw [d1.ks]; omega,by rw [d2.ks]; omega,zt_ am bo,rfl,.inl rfl,by omega,(fun y=>absurd rfl y),rfl⟩⟩ (bd (zyx am hh)) (((Kl.same a8).trans ae).with fun q y=>nomatch y)
    ·have cm:atI [V.str "hush",V.str "go"] (x % 8 - 6)=some (V.str "go"):=by rw [h0]; rfl
     have b3:zyz z r ("go" : Str) h g s ⟨zf0 h s.hs,zf0 h s.sil,s.pool,s.N⟩:= .inr (.inr ⟨rfl,rfl⟩)
     kt_k
     intro H4 m4 p4 X4 d1 d2 ae
     kt_k
     exact k H4 _ .non _ ⟨⟨_,m4,p4,ll,X4,so.done d1,d,by rw [d1.ks]; omega,by rw [d2.ks]; omega,zyo am bo,rfl,.inl rfl,by omega,(fun y=>absurd rfl y),rfl⟩⟩ (bd (z3h am hh)) (((Kl.same a8).trans ae).with fun q y=>nomatch y)
   ·refine zgj h1 ?_
    kt_k
    exact k H2 _ lv _ ⟨⟨s,m,p,ll,X2,so,d,by omega,by omega,aa,hc,ap.same ac,by omega,ak,rfl⟩⟩ (.inl rfl) (Kl.same ac)
theorem z37 (ss:List Int)(a b:Nat):∃ ts:List Int,zm2 (ss.map V.int) (some (a:Int)) (some (b:Int))=ts.map V.int/\ts.length<=b - a:=by
 unfold zm2
 have e1:=HT.sIx_nat (ss.map V.int).length 0 a
 have e2:=HT.sIx_nat (ss.map V.int).length (ss.map V.int).length b
 rw [e1,e2]
 refine ⟨(ss.drop _).take _,by rw [<- List.map_drop,<- o0],?_⟩
 rw [i5,l6]
 omega
theorem zwb {z r x b:Int}{s:TwS}:(zg9 z r 9 x b s).hs≠[]:=by
 unfold zg9
 split
 ·rename_i h
  intro e
  rw [e] at h
  rcases h with h | h
  ·cases h
  ·exact h (by decide)
 ·unfold zoh
  simp
theorem zrp {z r mo x b:Int}{s:TwS}:(zg9 z r mo x b s).pool.length<=s.pool.length+1:=by
 unfold zg9
 split
 ·omega
 ·unfold zoh
  simp
theorem zd0.new {CB CT CW T0 T1 T3 T4 w td sd gd dxa:Addr}{H:Hp}{z r:Int}{T U:Int->zbp}(W:zaj CB CT CW H w td sd z r [] [] T)(t0:Tab H T0 (zao zda) quL)(t1:Tab H T1 (zao zg3) quT)(t3:Tab H T3 (zao zdz) quH)(t4:Tab H T4 (zao zgq) quN)(hob:H w=some (.ins CW dxa (wF z r td sd (dxa,gd,0))))(M:zco H gd [] (fun _=>0) (fun _=>[]))(ngt:gd≠td)(ngs:gd≠sd):zd0 CB CT CW T0 T1 T3 T4 H w td sd z r [] [] [] U (dxa,gd,0) [] (fun _=>0) (fun _=>[]) :=
 ⟨⟨⟨W.ob,W.tb,W.si,fun h hh=>(nomatch hh),W.nd,W.hb,W.z1,W.z2,W.r1,W.r2,W.ln,W.ts⟩,⟨fun h hh=>(nomatch hh),fun h hh=>(nomatch hh),fun h hh=>(nomatch hh)⟩,⟨fun h hh=>(nomatch hh),fun h hh=>(nomatch hh),fun h hh=>(nomatch hh)⟩,fun x hx=>hx,fun x hx=>(nomatch hx),fun x hx=>(nomatch hx),j7,by decide,t0,t1,t3⟩,hob,M,⟨fun y=>y.elim (fun e=>ngt e.symm) fun ⟨k,hk,_⟩=>(nomatch hk),fun y=>y.elim (fun e=>ngs e.symm) fun ⟨k,hk,_⟩=>(nomatch hk)⟩,t4,fun k hk=>(nomatch hk),fun k e he=>(nomatch he),fun k=>j7,fun k e he=>(nomatch he),fun k e he=>(nomatch he)⟩
theorem zth {td sd gd q:Addr}{z:Nat}{T:Int->zbp}{ad:Int->Addr}(h:Om td sd z [] T gd [] ad q):q=td\/q=sd\/q=gd:=by
 rcases h with (h | h | ⟨g,hg,_⟩) | (h | ⟨k,hk,_⟩)
 ·exact .inl h
 ·exact .inr (.inl h)
 ·cases hg
 ·exact .inr (.inr h)
 ·cases hk
theorem LT.put {CB CT CW T0 T1 T3 T4:Addr}{H:Hp}{w v:Addr}{z r:Int}{mny c n:Nat}{lv:V}{O:Addr->Prop}{q:Addr}{xs:List V}{o:HO}(L:LT CB CT CW T0 T1 T3 T4 H w v z r mny c n lv O)(e:H q=some (.lst xs))(hn:¬ O q):LT CB CT CW T0 T1 T3 T4 (upd H q o) w v z r mny c n lv O:=by
 obtain ⟨s,m,p,ll,X,a1,a2,a3,a4,a5,a6,a7,a8,a9,rfl⟩:=L.ex
 exact ⟨⟨s,m,p,ll,X.past (O:=fun x=>x=q) (fun x y=>⟨by rw [y]; exact fun z=>hn (.inl z),.inr ⟨xs,by rw [y]; exact e⟩⟩) (fun x o' e' hx=>by rw [zab hx]; exact e'),a1,a2,a3,a4,a5,a6,a7.imp id fun ⟨ld,e1,e2,r⟩=>⟨ld,e1,by rw [zab (fun y=>by rw [y,e] at e2; cases e2)]; exact e2,r⟩,a8,a9,rfl⟩⟩
def SqO (K:W.Frag)(H:Hp)(O:Addr->Prop)(a:Addr)(xs:List V):Prop:=(Rd H a (.lst xs)/\¬ O a)\/∃ (o:Obj) (its:Array Value) (n:Nat),K.lookup a=some o/\o.cls = .type "list" /\o.dict=none/\o.data = .seq its n/\its.size<=sizeLine/\zb3 xs its.toList
theorem SqO.seq {K:W.Frag}{H:Hp}{O:Addr->Prop}{a:Addr}{xs:List V}(h:SqO K H O a xs):SqL K H a xs:=h.imp (·.1) id
theorem SqO.kl {K:W.Frag}{H H':Hp}{O O':Addr->Prop}{a:Addr}{xs:List V}(h:SqO K H O a xs)(d:Kl H H' O O'):SqO K H' O' a xs:=by
 rcases h with ⟨h,n⟩ | h
 ·have nn:∀ {o:HO},H a=some o->¬ O' a:=fun e y=>(d.o a y).elim n fun z=>by rw [e] at z; cases z
  rcases h with h | ⟨o,h⟩
  ·exact .inl ⟨.inl (d.k _ (.lst _) trivial h n),nn h⟩
  ·exact .inl ⟨.inr ⟨o,d.k _ (.frz _ _) trivial h n⟩,nn h⟩
 ·exact .inr h
theorem Rd.same {H H':Hp}{a:Addr}{u:HO}(h:Rd H a u)(s:zax H H'):Rd H' a u:=h.imp (s _ _) fun ⟨o,e⟩=>⟨o,s _ _ e⟩
def zp5 (K:W.Frag)(tabs:List (Addr × Addr)):Sp:=fun vs H Q _=>∃ (a:Addr) (ns:List Int),vs=[.ref a]/\SqL K H a (ns.map V.int)/\ns.length<=63/\(∀ q∈tabs,H q.2=some (.tbl #[]))/\∀ H',Q (.bl true) H'
theorem zcz:zam ["_law_script","_law_wide","_law_room","_law_plain","_law_one","_law_other","_law_base","_law_k","_law_cell","_law_many","_law_keys","_law_last","_law_x","_law_key"] ["_law_script"] (zai (top 40)):=fS
theorem z2n (Z:ZZ P w K mg base)(hM_Town___init__:zv3 K Z.bd.C "__init__" Z.b3.f){tabs:List (Addr × Addr)}(ht0:(Z.bk.c,Z.bk.P)∈tabs)(ht1:(Z.cs.c,Z.cs.P)∈tabs)(ht3:(Z.b6.c,Z.b6.P)∈tabs)(ht4:(Z.ci.c,Z.ci.P)∈tabs):zld Z 20 Z.c9 (zp5 K tabs):=by
 have fw:=Z.bc.cl
 obtain ⟨fy,fq,f1,f0,fz,fi,-⟩:=Z.bc.na
 have dv:=zkq (CB:=Z.ba.C) (CT:=Z.bb.C) Z hM_Town___init__
 have e1:=zc8 (CB:=Z.ba.C) (CT:=Z.bb.C) Z
 have ei:=zj_ Z
 have a2:=zvy Z
 have ek:=zty Z
 have dt:=zvk (T1:=Z.cs.P) Z Z.dh Z.dj Z.dl
 have eo:=zc6 (CB:=Z.ba.C) (CT:=Z.bb.C) Z
 have ez:=zqj Z
 have ey:=zwd Z
 refine Z.c9.fn.ok zcz (by kd_p) (fun cdv A outer s H vs Q E hr h=>?_)
 obtain ⟨a,ss,rfl,hS,e6,hT,k⟩:=h
 refine ⟨_,(zac (zxk (pfD Z.c1 ek hr rfl (zaa (pv 0) zag)) (zjg (n:=3) rfl (zbl (zaz (i:=1) zcz.nd rfl oL) (zbl (zaz (i:=2) zcz.nd rfl oL) (zbl (zaz (i:=3) zcz.nd rfl oL) zfg)))))
  (zac (zaw (i:=4) zcz.nd rfl oL (zl0 (DfM.mk' Z.bc Z.b4) dv hr.mm rfl Z.bc.hm Z.b4.b .nil zcb (zaa (pv 1) (zaa (pv 2) zag))))
  (zac (zaw (i:=5) zcz.nd rfl oL (zl0 (DfM.mk' Z.bc Z.b4) dv hr.mm rfl Z.bc.hm Z.b4.b .nil zcb (zaa (pv 1) (zaa (pv 2) zag))))
  (zac (zaw (i:=6) zcz.nd rfl oL (za4 zcf (pfD Z.c0 a2 hr rfl (zaa (pfD Z.cx ei hr rfl (zaa (pv 0) (zaa zal zag))) (zaa zal (zaa (pv 3) zag)))) (za4 zt3 zal (pv 1))))
  (zac (zd5 PassesOwn.never rfl (zuk rfl Z.da.n_enumerate (zaa (za4 zj0 (zdo zev (pv 0) (zdx zal) (zdx zal)) (zce (zaa zal (zaa zal zag)))) zag)) (zjg (n:=2) rfl (zbl (zaz (i:=7) zcz.nd rfl oL) (zbl (zaz (i:=8) zcz.nd rfl oL) zfg)))
   (zac (zas (pfD Z.c3 dt hr rfl (zaa (pv 4) (zaa (pfD Z.c0 a2 hr rfl (zaa (pv 8) (zaa (za4 zfb zal (pv 7)) (zaa (pv 3) zag)))) (zaa (pv 6) (zaa zal zag))))))
   (zah (zas (pfD Z.c3 dt hr rfl (zaa (pv 5) (zaa (pfD Z.c0 a2 hr rfl (zaa (pv 8) (zaa (za4 zfb zal (pv 7)) (zaa (pv 3) zag)))) (zaa (pv 6) (zaa zal zag)))))))))
  (zac (zaw (i:=9) zcz.nd rfl oL (zbf zbh rfl Z.da.n_len zf_ (zaa (zcm (pv 4) Z.bc.cl Z.b0.me e1 hr.mm Z.b0.b .nil zcb) zag)))
  (zac (zaw (i:=10) zcz.nd rfl oL (zce zag))
  (zac (zaw (i:=11) zcz.nd rfl oL zd_)
  (zac (zd5 PassesOwn.never rfl (zuk rfl Z.da.n_enumerate (zaa (za4 zj0 (zdo zev (pv 0) (zdx zal) (zdx zal)) (zce (zaa zal zag))) zag)) (zjg (n:=2) rfl (zbl (zaz (i:=7) zcz.nd rfl oL) (zbl (zaz (i:=8) zcz.nd rfl oL) zfg)))
   (zac (zaw (i:=12) zcz.nd rfl oL (pfD Z.c0 a2 hr rfl (zaa (pv 8) (zaa (za4 zfb zal (pv 7)) (zaa (pv 3) zag)))))
   (zac (zaw (i:=13) zcz.nd rfl oL (pfD Z.c2 ez hr rfl (zaa (za4 zct (pv 12) zal) (zaa (pv 1) (zaa (pv 6) zag)))))
   (zac (zbz (PW.pt (zol (zav (z0w hr.units) (pv 10) (zce zag) (za6 _)) (zj4 (zav zy6 (za4 zcf (za4 zct (pv 12) zal) zal) zal (za6 _)))))
    (zah (zaw (i:=13) zcz.nd rfl oL (zey zei (pv 10) (za4 zcf (za4 zct (pv 12) zal) (zbf zbh rfl Z.da.n_len zf_ (zaa (pv 10) zag))) (fun _ _=>rfl))))
    zay)
   (zac (zbz (zid (zd2 (pfD Z.c8 ey hr rfl (zaa (pv 4) (zaa (pv 5) (zaa (pv 12) (zaa (pv 13) (zaa (pv 11) zag))))))))
    (zah (zat zhg))
    zay)
   (zac (zas (zn7 ip PySem.F.slot_list_append PySem.F.type_list_append zet (pv 10) (zaa (pv 13) zag)))
   (zah (zbz (zav zrd (zbf zbh rfl Z.da.n_len zf_ (zaa (zcm (pv 4) Z.bc.cl Z.b5.me eo hr.mm Z.b5.b .nil zcb) zag)) (pv 9) (za6 _))
    (zah (zaw (i:=11) zcz.nd rfl oL zcd))
    zay))))))))
  (zah (zat zhg))))))))))),?_⟩
 have bq:Tab H Z.bk.P (zao zda) quL:=Tab.new (hT _ ht0)
 have b7:Tab H Z.cs.P (zao zg3) quT:=Tab.new (hT _ ht1)
 have cf:Tab H Z.b6.P (zao zdz) quH:=Tab.new (hT _ ht3)
 have b2:Tab H Z.ci.P (zao zgq) quN:=Tab.new (hT _ ht4)
 kt_k
 intro tp z r pb H1 d9 ej f2 ff s1 ec
 obtain ⟨q1,q2⟩:=zzo d9 ej
 kt_k
 intro w aa hw ca j
 kt_k
 intro td sd gd H2 TT W2 bp M2 c7 d5 dr ed dz ds dp
 have b8:zax H1 H2:=fun q o e=>dp q o (by rw [zab (zae e hw),zab (zae e ca)]; exact e) (zae e hw)
 have ae:=s1.trans b8
 have X2:zd0 Z.ba.C Z.bb.C Z.bc.C Z.bk.P Z.cs.P Z.b6.P Z.ci.P H2 w td sd z r [] [] [] TT (aa,gd,0) [] (fun _=>0) (fun _=>[]):=zd0.new W2 ((ae.but _).2 _ _ bq) ((ae.but _).2 _ _ b7) ((ae.but _).2 _ _ cf) ((ae.but _).2 _ _ b2) bp M2 dz ds
 have a3:∀ {q:Addr},upd (upd H1 aa (.own w)) w (.ins Z.bc.C aa []) q=none->H1 q=none:=fun {q} e=>by
  by_cases y:q=w
  ·rw [y]
   exact hw
  ·by_cases y2:q=aa
   ·rw [y2]
    exact ca
   ·rw [zab y,zab y2] at e
    exact e
 have nA:(∃ o,H1 a=some o)->¬ Om td sd z.toNat [] TT gd [] (fun _=>0) a:=fun ⟨o,e⟩ y=>by
  rcases zth y with y | y | y <;> rw [y] at e
  ·rw [a3 c7] at e
   cases e
  ·rw [a3 d5] at e
   cases e
  ·rw [a3 dr] at e
   cases e
 have cb:(∃ o,H a=some o)->∃ o,H1 a=some o:=fun ⟨o,e⟩=>⟨o,s1 _ _ e⟩
 have cy:(∃ o,H1 a=some o)->∃ o,H2 a=some o:=fun ⟨o,e⟩=>⟨o,b8 _ _ e⟩
 clear s1 hw ca j c7 d5 dr ed dp b8 ec W2 M2 dz ds a3
 kt_k
 intro v t hv bv j
 kt_k
 intro ud vd ge H3 UU W3 bi M3 cd br cg eq d4 di du
 have fr:∀ {q:Addr},upd (upd H2 t (.own v)) v (.ins Z.bc.C t []) q=none->H2 q=none:=fun {q} e=>by
  by_cases y:q=v
  ·rw [y]
   exact hv
  ·by_cases y2:q=t
   ·rw [y2]
    exact bv
   ·rw [zab y,zab y2] at e
    exact e
 have b1:zax H2 H3:=fun q o e=>du q o (by rw [zab (zae e hv),zab (zae e bv)]; exact e) (zae e hv)
 have ac:=ae.trans b1
 have d3:=ac.seq hS
 have Z3:zd0 Z.ba.C Z.bb.C Z.bc.C Z.bk.P Z.cs.P Z.b6.P Z.ci.P H3 v ud vd z r [] [] [] TT (t,ge,0) [] (fun _=>0) (fun _=>[]):=zd0.new W3 ((ac.but _).2 _ _ bq) ((ac.but _).2 _ _ b7) ((ac.but _).2 _ _ cf) ((ac.but _).2 _ _ b2) bi M3 d4 di
 have X3:Tw Z.ba.C Z.bb.C Z.bc.C Z.bk.P Z.cs.P Z.b6.P Z.ci.P H3 w v z r ⟨[],[],[],fun g=>(TT g).ns⟩ ⟨td,sd,TT,(aa,gd,0),[],fun _=>0,fun _=>[]⟩ ⟨ud,vd,TT,(t,ge,0),[],fun _=>0,fun _=>[]⟩:=⟨⟨X2.same b1,rfl⟩,⟨Z3,rfl⟩,fun q y y2=>by
  rcases zth y2 with e | e | e
  ·exact X2.noneM (q:=q) (by rw [e]; exact fr cd) y
  ·exact X2.noneM (q:=q) (by rw [e]; exact fr br) y
  ·exact X2.noneM (q:=q) (by rw [e]; exact fr cg) y,fun e=>by
  have:=X2.ob
  rw [<- e,hv] at this
  cases this⟩
 have nB:(∃ o,H2 a=some o)->¬ Om ud vd z.toNat [] TT ge [] (fun _=>0) a:=fun ⟨o,e⟩ y=>by
  rcases zth y with y | y | y <;> rw [y] at e
  ·rw [fr cd] at e
   cases e
  ·rw [fr br] at e
   cases e
  ·rw [fr cg] at e
   cases e
 clear hv bv j cd br cg eq du b1 ae W3 M3 d4 di Z3 X2 bp bi fr
 kt_k
 intro c
 kt_k
 obtain ⟨ts,a9,fg⟩:=z37 ss 2 12
 have a9:zm2 (ss.map V.int) (some 2) (some 12)=ts.map V.int:=a9
 kt_k
 rw [a9]
 intro p1 ao
 generalize aj:upd H3 p1 _=H4
 obtain ⟨s4,e4⟩:=nw ao aj
 clear aj
 kt_k
 intro p2 ah
 generalize ax:upd H4 p2 _=H5
 obtain ⟨s5,e5⟩:=nw ah ax
 have cc:=s5 _ _ e4
 clear ax
 have ay:(ts.map V.int).length+[V.int 5,V.int 9].length<=sizeLine:=by
  rw [gf]
  exact ie (zar (show ts.length+2<=1000 by omega))
 kt_k
 intro L hL
 generalize u:upd H5 L _=H6
 have s6:zax H5 H6:=by rw [<- u]; exact zax.new H5 hL
 have dn:H6 L=some (.lst ((ts++[5,9]).map V.int)):=by rw [<- u,zad,i9]; rfl
 clear u
 have az:=(s4.trans s5).trans s6
 have ct:=ac.trans az
 have X6:=X3.same az
 have ep:=az.seq d3
 have nL:¬ O2 _ _ z [] [] L:=X3.none ((s4.trans s5).free hL)
 have c4:(∃ o,H a=some o)->¬ O2 ⟨td,sd,TT,(aa,gd,0),[],fun _=>0,fun _=>[]⟩ ⟨ud,vd,TT,(t,ge,0),[],fun _=>0,fun _=>[]⟩ z [] [] a:=fun h y=>y.elim (nA (cb h)) (nB (cy (cb h)))
 have fh:(ts++[5,9]).length<=12:=by
  rw [gl]
  show ts.length+2<=12
  omega
 have ew:1<=(ts++[5,9]).length:=by
  rw [gl]
  show 1<=ts.length+2
  omega
 have c6:SqO K H6 (O2 ⟨td,sd,TT,(aa,gd,0),[],fun _=>0,fun _=>[]⟩ ⟨ud,vd,TT,(t,ge,0),[],fun _=>0,fun _=>[]⟩ z [] []) a (ss.map V.int):=by
  rcases hS with h | h
  ·exact .inl ⟨Rd.same h ct,c4 (h.elim (fun e=>⟨_,e⟩) fun ⟨o,e⟩=>⟨_,e⟩)⟩
  ·exact .inr h
 clear s4 s5 s6 az ct e4 e5 cc ao ah hL bq b7 cf b2 nA nB cb cy c4 hS d3 ep X3 ay a9
 kt_k
 refine zp4 (K:=K) (a:=L) (xs:=(ts++[5,9]).map V.int) (fun i σ H7=>zis (∃ (v7 v8:Option V) (s:TwS) (m p:MD),σ=[some (.ref a),some (.int z),some (.int r),some (.bl pb),some (.ref w),some (.ref v),some (.int (zox c 1 pb % (1 * 2 ^ z.toNat))),v7,v8,none,none,none,none,none]/\Tw Z.ba.C Z.bb.C Z.bc.C Z.bk.P Z.cs.P Z.b6.P Z.ci.P H7 w v z r s m p/\m.ks=[]/\p.ks=[]/\Wh r s/\(1<=i->s.hs≠[])/\s.pool.length<=i/\SqO K H7 (O2 m p z s.hs s.hs) a (ss.map V.int)/\H7 L=some (.lst ((ts++[5,9]).map V.int))/\¬ O2 m p z s.hs s.hs L)) ⟨⟨_,_,_,_,_,rfl,X6,rfl,rfl,⟨rfl,rfl,fun a ha=>(nomatch ha)⟩,fun h=>absurd h (by decide),gv 0,c6,dn,nL⟩⟩ (fun i σ H7 _ ⟨_,_,_,_,_,_,_,_,_,_,_,_,_,e,_⟩=>SqL.of e) ?_ ?_
 ·rintro i y σ d tt hi ⟨v7,v8,s,m,p,rfl,df,au,a6,av,j,cp,bf,bj,b9⟩ bw
  obtain ⟨cell,ab,rfl⟩:=zgn hi
  have e3:i<12:=by
   have:=(List.getElem?_eq_some_iff.mp ab).1
   omega
  have s7:zax d (upd d tt (.tup [.int i,.int cell])):=zax.new d bw
  have am:upd d tt (.tup [.int i,.int cell]) tt=some (.tup [.int i,.int cell]):=zad
  have X7:=df.same s7
  have a7:=s7 _ _ bj
  have an:=bf.kl (Kl.same s7)
  generalize upd d tt (.tup [.int i,.int cell])=H7 at s7 am X7 a7 an |-
  clear df bj s7 bf
  have fa:s.pool.length<60:=by omega
  have fm:=X7.a
  have ch:=X7.a.X.X.O
  rw [X7.a.n] at ch
  have af:=X7.a.X.X.W
  have et:=fun x=>av.come (mo:=9) (x:=x) (b:=zox c 1 pb % (1 * 2 ^ z.toNat)) ch af.r1 af.hb af.nd
  clear ch af
  kt_k
  intro H8 m8 A8 el fv e2
  obtain ⟨X8,ev⟩:=X7.first A8 e2
  have fj:=X8.b
  kt_k
  intro H9 p9 B9 em fl d8
  obtain ⟨X9,aq⟩:=X8.second B9 d8
  have bm:=ev.trans aq
  obtain ⟨eu,eh⟩:=bm.lst a7 b9
  kt_k
  refine ⟨⟨_,_,_,m8,p9,rfl,X9,el.trans au,em.trans a6,et _,fun _=>zwb,?_,an.kl bm,eu,eh⟩⟩
  exact gy zrp (by omega)
 ·rintro σ H7 ⟨v7,v8,s,m,p,rfl,X7,au,a6,av,j,cp,an,a7,b9⟩
  rw [gf] at j cp
  have j:=j ew
  have ce:s.pool.length<=12:=by omega
  clear a7 b9 dn nL X6 c6
  have af:=X7.a.X.X.W
  have dq:=X7.a.X.ob
  kt_k
  intro l hl
  generalize ak:upd H7 l _=H8
  obtain ⟨s8,e8⟩:=nw hl ak
  clear ak
  kt_k
  intro kl bu
  rw [gf,zbi]
  generalize d0:upd H8 kl _=H9
  obtain ⟨s9,e9⟩:=nw bu d0
  replace e9:H9 kl=some (.lst (([]:List Int).map V.int)):=e9
  clear d0
  kt_k
  intro ld ai
  generalize dm:upd H9 ld _=Ha
  obtain ⟨sa,ea⟩:=nw ai dm
  replace ea:Ha ld=some (.dK (inS [])):=ea
  clear dm
  have a8:=(s8.trans s9).trans sa
  have Xa:=X7.same a8
  have aw:H7 ld=none:=(s8.trans s9).free ai
  have bz:∀ k,m.G k=[]:=fun k=>X7.a.X.M.go k (by rw [au]; exact fun y=>nomatch y)
  have ap:(zcc s.hs s.sil).length=s.hs.length:=by
   rw [av.sil]
   unfold zcc
   rw [List.filter_eq_self.mpr (fun x _=>by simp),zbi]
  have La:LT Z.ba.C Z.bb.C Z.bc.C Z.bk.P Z.cs.P Z.b6.P Z.ci.P Ha w v z r s.hs.length s.hs.length 0 (.ref ld) (fun q=>O2 m p z s.hs s.hs q\/V.ref ld = .ref q):=by
   refine ⟨⟨s,m,p,[],Xa,(fun k e he=>by rw [bz k] at he; cases he),by omega,by rw [au]; decide,by rw [a6]; decide,?_,ap,.inr ⟨ld,rfl,ea,X7.none aw,av,fun k _=>fun h=>by rw [bz k]; rfl⟩,gv _,fun _=>rfl,rfl⟩⟩
   obtain ⟨y,hy⟩:=List.exists_mem_of_ne_nil _ j
   exact zpw hy (by rw [av.sil]; exact fun y=>nomatch y)
  have kA:Kl H7 Ha (O2 m p z s.hs s.hs) (fun q=>O2 m p z s.hs s.hs q\/V.ref ld = .ref q):=⟨fun q o _ e _=>a8 _ _ e,fun q y=>y.imp id fun e=>by cases e; exact aw,fun q e=>a8.free e⟩
  have er:=(an.kl kA).seq
  have d6:¬ (fun q=>O2 m p z s.hs s.hs q\/V.ref ld = .ref q) kl:=fun y=>y.elim (X7.none (s8.free bu)) fun e=>by
   cases e
   rw [e9] at ai
   cases ai
  have ck:=sa _ _ e9
  generalize s.hs.length=mny at La
  generalize (fun q=>O2 m p z s.hs s.hs q\/V.ref ld = .ref q)=Oa at La d6
  obtain ⟨us,a4,fp⟩:=z37 ss 12 60
  have a4:zm2 (ss.map V.int) (some 12) (some 60)=us.map V.int:=a4
  clear kA Xa an X7 e8 e9 ea a8 s8 s9 sa hl bu ai aw au a6 j cp ce bz ap af dq
  kt_k
  rw [a4]
  intro p1 ao
  generalize aj:upd Ha p1 _=H4
  obtain ⟨s4,e4⟩:=nw ao aj
  clear aj
  kt_k
  intro p2 ah
  generalize ax:upd H4 p2 _=H5
  obtain ⟨s5,e5⟩:=nw ah ax
  have cc:=s5 _ _ e4
  clear ax
  have ay:(us.map V.int).length+[V.int 3].length<=sizeLine:=by
   rw [gf]
   exact ie (zar (show us.length+1<=1000 by omega))
  kt_k
  intro M hM
  generalize u:upd H5 M _=H6
  have s6:zax H5 H6:=by rw [<- u]; exact zax.new H5 hM
  have ef:H6 M=some (.lst ((us++[3]).map V.int)):=by rw [<- u,zad,i9]; rfl
  clear u
  have bt:=(s4.trans s5).trans s6
  have L6:=La.same bt
  have nM:¬ Oa M:=La.none ((s4.trans s5).free hM)
  have en:=bt _ _ ck
  have e0:M≠kl:=fun y=>by
   rw [y,s5 _ _ (s4 _ _ ck)] at hM
   cases hM
  have fu:(us++[3]).length<=49:=by
   rw [gl,gq]
   omega
  clear s4 s5 s6 bt e4 e5 cc ao ah hM La a4 ay er ck
  kt_k
  refine zp4 (K:=K) (a:=M) (xs:=(us++[3]).map V.int) (fun i σ H7=>zis (∃ (v7 v8 co cq:Option V) (cn:Nat) (lv:V) (O:Addr->Prop) (ks:List Int),σ=[some (.ref a),some (.int z),some (.int r),some (.bl pb),some (.ref w),some (.ref v),some (.int (zox c 1 pb % (1 * 2 ^ z.toNat))),v7,v8,some (.int (mny:Int)),some (.ref kl),some lv,co,cq]/\LT Z.ba.C Z.bb.C Z.bc.C Z.bk.P Z.cs.P Z.b6.P Z.ci.P H7 w v z r mny cn i lv O/\H7 M=some (.lst ((us++[3]).map V.int))/\¬ O M/\H7 kl=some (.lst (ks.map V.int))/\¬ O kl/\ks.length<=i/\∀ x∈ks,0<=x/\x<2 ^ z.toNat)) ⟨⟨_,_,_,_,_,_,Oa,[],rfl,L6,ef,nM,en,d6,gv _,fun x hx=>(nomatch hx)⟩⟩ (fun i σ H7 _ ⟨_,_,_,_,_,_,_,_,_,_,e,_⟩=>SqL.of e) ?_ ?_
  ·rintro i y σ d tt hi ⟨v7,v8,co,cq,cn,lv,O,ks,rfl,d2,be,cv,bo,dc,d7,ar⟩ bw
   obtain ⟨cell,ab,rfl⟩:=zgn hi
   have fd:i<49:=by
    have:=(List.getElem?_eq_some_iff.mp ab).1
    omega
   have s7:zax d (upd d tt (.tup [.int i,.int cell])):=zax.new d bw
   have am:upd d tt (.tup [.int i,.int cell]) tt=some (.tup [.int i,.int cell]):=zad
   have L7:=d2.same s7
   have a0:=s7 _ _ be
   have a5:=s7 _ _ bo
   generalize upd d tt (.tup [.int i,.int cell])=H7 at s7 am L7 a0 a5 |-
   clear d2 be s7 bo
   have e7:i<=55:=by omega
   kt_k
   generalize zox cell (20+i) pb=x
   kt_k
   intro cr cj
   generalize zfe (x / 80) z (zox c 1 pb % (1 * 2 ^ z.toNat))=g at cr cj |-
   kt_k
   intro l0 es
   generalize ak:upd H7 l0 _=H8
   obtain ⟨s8,e8⟩:=nw es ak
   replace e8:H8 l0=some (.lst (([]:List Int).map V.int)):=e8
   clear ak
   have L8:=L7.same s8
   have db:=s8 _ _ a0
   have cu:=s8 _ _ a5
   have fe:(ks.map V.int).length<sizeLine:=by
    rw [gf]
    exact zar (by omega)
   clear L7 a0 a5
   kt_k
   by_cases a1:ks=[]
   case' pos =>
    simp only [a1,decide_true,Bool.not_true,j3,if_false]
    have ag:=cr
    have ad:=cj
    generalize g=gg at ag ad |-
   case' neg =>
    simp only [a1,decide_false,Bool.not_false,if_true]
    kt_k
    by_cases d1:0<x / 8 % 3
    case' pos =>
     refine zov d1 ?_
     obtain ⟨gg,dw,fx⟩:=zkd (c:=x / 80) a1
     have fc:=zl5 a1
     have ag:=(ar gg dw).1
     have ad:=(ar gg dw).2
    case' neg =>
     refine zgj d1 ?_
     have ag:=cr
     have ad:=cj
     generalize g=gg at ag ad |-
   all_goals
    kt_k
    intro H9 c9 fk O9 L9 c5 aq
    obtain ⟨de,dy⟩:=aq.lst db cv
    obtain ⟨ee,cm⟩:=aq.lst cu dc
    have bg:(ks++[gg]).length<=i+1:=by
     rw [gl,gq]
     omega
    have bn:∀ y∈ks++[gg],0<=y/\y<2 ^ z.toNat:=fun y hy=>(gm.mp hy).elim (ar y) fun e=>gb.mp e ▸ ⟨ag,ad⟩
    have Lb:=L9.put (o:= .lst (ks.map V.int++[V.int gg])) ee cm
    have eb:upd H9 kl (.lst (ks.map V.int++[V.int gg])) kl=some (.lst ((ks++[gg]).map V.int)):=by rw [zad,zfu]
    have cw:upd H9 kl (.lst (ks.map V.int++[V.int gg])) M=some (.lst ((us++[3]).map V.int)):=by rw [zab e0]; exact de
    obtain ⟨s9,m9,p9,fo,X9,_,_,_,_,_,eg,_,_,_,_⟩:=Lb.ex
    have ft:=X9.a.X.X.W
    have fb:=X9.a.X.ob
    clear L8 db cu aq ar ag ad L9 de
    kt_k
    intro al Hc sc _ cz
    have cz:Hc al=some (.lst ((zcc s9.hs s9.sil).map V.int)):=cz
    have Lc:=Lb.same sc
    have dk:=sc _ _ cw
    have dg:=sc _ _ eb
    clear X9 Lb cw eb sc
    kt_k
    rw [gf,eg]
    by_cases dd:((c9:Nat):Int)<((mny:Nat):Int)
    ·refine zov dd ?_
     obtain ⟨O',Lw,bh⟩:=Lc.weak
     kt_k
     exact ⟨⟨_,_,_,_,_,.non,O',_,rfl,Lw,dk,fun y=>dy (bh _ y),dg,fun y=>cm (bh _ y),bg,bn⟩⟩
    ·refine zgj dd ?_
     kt_k
     rcases c5 with rfl | ⟨_,y⟩
     ·exact ⟨⟨_,_,_,_,_,_,O9,_,rfl,Lc,dk,dy,dg,cm,bg,bn⟩⟩
     ·omega
  ·rintro σ H7 ⟨v7,v8,co,cq,cn,lv,O,ks,rfl,L7,a0,cv,a5,dc,d7,ar⟩
   kt_k
   exact k H7
theorem us5 {R:List Value->Prop}(h:∀ a b c d e,R [a,b,c,d,e]):∀ us:List Value,us.length=5->R us:=usS fun a=>us4 (h a)
structure FM (K:W.Frag)(C:Addr)(m q:Str)(st:Stmt)(f:Addr)(g:FuncData):Prop where
 a:PySem.W.findIn K (.ref C) m=some (some (.ref f))
 i:PySem.W.isFn K (.ref f)=true
 F:Fun K m q st f g
structure FD (K:W.Frag)(x:Str)(st:Stmt)(f:Addr)(g:FuncData):Prop where
 a:PySem.W.nsIn K mainGlobals x=some (some (.ref f))
 F:Fun K x x st f g
end
open PySem.W in
theorem all_mk {l:OpenLaw}{w:World}{K:Frag}{h:Heap}{mg:Str->Option Value}{ts:List Addr}{fa C0 f0 f1 f2 f3 f4 C1 f5 f6 T7 f7 f8 f9 f10 C2 f11 C3 f12 f13 f14 f15 f16 f17 f18 T19 f19 f20 f21 f22 f23 f24 f25 f26 c26 P26 f27 c27 P27 f28 f29 f30 f31 f32 f33 f34 c34 P34 f35 f36 f37 f38 E0 E1 E2 E3 E4 f39 c39 P39 f40 f41 f42 f43 f44 f45 f46 f47 f48 f49 f50 f51 f52 f53 f54 f55 f56 f57 f58 f59 f60:Addr}(X:K.In h)(G:h.Ns mainGlobals mg)(hfa:mg "law" = some (.ref fa))
  {td7 od7 an7 td19 od19 an19 od26 an26 qb26 od27 an27 qb27 od34 an34 qb34 od39 an39 qb39 od60 an60:Option Addr}{ts7 sl7 ts19 sl19 sl26 qs26 sl27 qs27 sl34 qs34 sl39 qs39 sl60:Array (Option Value)}{to7 oc7 kV7 dc7 pm7 ct7 cd7 to19 oc19 kV19 dc19 pm19 ct19 cd19 oc26 kV26 dc26 pm26 ct26 qa26 oc27 kV27 dc27 pm27 ct27 qa27 oc34 kV34 dc34 pm34 ct34 qa34 oc39 kV39 dc39 pm39 ct39 qa39 oc60 kV60 dc60 pm60 ct60 cd60:Value}{qv26 qv27 qv34 qv39:Array Value}{tn7 tn19:Nat}{g0 g1 g2 g3 g4 g5 g6 g8 g9 g10 g11 g12 g13 g14 g15 g16 g17 g18 g20 g21 g22 g23 g24 g25 g28 g29 g30 g31 g32 g33 g35 g36 g37 g38 g40 g41 g42 g43 g44 g45 g46 g47 g48 g49 g50 g51 g52 g53 g54 g55 g56 g57 g58 g59:FuncData}
  (aC0:nsIn K mainGlobals "Bucket" = some (some (.ref C0)))(pg0:plainGet K C0 Str.empty=true)(hd0:hasDictIn K C0=true)(po0:plainOver K C0=true)(sa0:findIn K (.ref C0) "__setattr__" = some (some (.builtin "object.__setattr__")))(mk0:makesIn K C0=true)(kc0:keepIn K (.ref C0)=true)
  (na0_0:findIn K (.ref C0) "room" = some none)
  (na0_1:findIn K (.ref C0) "order" = some none)
  (M0:FM K C0 "__init__" "Bucket.__init__" (zaf (top 20) 0) f0 g0)
  (M1:FM K C0 "names" "Bucket.names" (zaf (top 20) 4) f1 g1)
  (M2:FM K C0 "hears_when_full" "Bucket.hears_when_full" (zaf (top 20) 2) f2 g2)
  (M3:FM K C0 "hears" "Bucket.hears" (zaf (top 20) 1) f3 g3)
  (M4:FM K C0 "drops" "Bucket.drops" (zaf (top 20) 3) f4 g4)
  (aC1:nsIn K mainGlobals "Table" = some (some (.ref C1)))(pg1:plainGet K C1 Str.empty=true)(hd1:hasDictIn K C1=true)(po1:plainOver K C1=true)(sa1:findIn K (.ref C1) "__setattr__" = some (some (.builtin "object.__setattr__")))(mk1:makesIn K C1=true)(kc1:keepIn K (.ref C1)=true)
  (na1_0:findIn K (.ref C1) "own" = some none)
  (na1_1:findIn K (.ref C1) "wide" = some none)
  (na1_2:findIn K (.ref C1) "room" = some none)
  (na1_3:findIn K (.ref C1) "buckets" = some none)
  (M5:FM K C1 "__init__" "Table.__init__" (zaf (top 22) 0) f5 g5)
  (M6:FM K C1 "keeps" "Table.keeps" (zaf (top 22) 5) f6 g6)
  (a7:findIn K (.ref C1) "nearest" = some (some (.ref f7)))
  (i7:isFn K (.ref f7)=true)
  (l7:K.lookup f7=some ⟨oc7,od7,.func (fnOf "nearest" "Table.nearest" (zcg (zaf (top 22) 6)) (zbj (zaf (top 22) 6)) (zai (zaf (top 22) 6)) (.ref T7) kV7 dc7 pm7 an7 cd7 ct7),sl7⟩)
  (ld7:K.lookup T7=some ⟨to7,td7,.seq #[Value.none] tn7,ts7⟩)
  (e7:codeIn K cd7 "Table.nearest" = true)(k7:keepIn K (.ref f7)=true)
  (M8:FM K C1 "bucket_of" "Table.bucket_of" (zaf (top 22) 3) f8 g8)
  (M9:FM K C1 "hears" "Table.hears" (zaf (top 22) 1) f9 g9)
  (M10:FM K C1 "drops" "Table.drops" (zaf (top 22) 2) f10 g10)
  (aC2:nsIn K mainGlobals "Town" = some (some (.ref C2)))(pg2:plainGet K C2 Str.empty=true)(hd2:hasDictIn K C2=true)(po2:plainOver K C2=true)(sa2:findIn K (.ref C2) "__setattr__" = some (some (.builtin "object.__setattr__")))(mk2:makesIn K C2=true)(kc2:keepIn K (.ref C2)=true)
  (M11:FM K C2 "__init__" "Town.__init__" (zaf (top 25) 0) f11 g11)
  (aC3:nsIn K mainGlobals "Market" = some (some (.ref C3)))(pg3:plainGet K C3 Str.empty=true)(hd3:hasDictIn K C3=true)(po3:plainOver K C3=true)(sa3:findIn K (.ref C3) "__setattr__" = some (some (.builtin "object.__setattr__")))(mk3:makesIn K C3=true)(kc3:keepIn K (.ref C3)=true)
  (na3_0:findIn K (.ref C3) "wide" = some none)
  (na3_1:findIn K (.ref C3) "room" = some none)
  (na3_2:findIn K (.ref C3) "tables" = some none)
  (na3_3:findIn K (.ref C3) "silent" = some none)
  (na3_4:findIn K (.ref C3) "things" = some none)
  (na3_5:findIn K (.ref C3) "layings" = some none)
  (M12:FM K C3 "__init__" "Market.__init__" (zaf (top 27) 0) f12 g12)
  (M13:FM K C3 "houses" "Town.houses" (zaf (top 25) 1) f13 g13)
  (M14:FM K C3 "answering" "Town.answering" (zaf (top 25) 2) f14 g14)
  (M15:FM K C3 "is_house" "Town.is_house" (zaf (top 25) 4) f15 g15)
  (M16:FM K C3 "answers" "Town.answers" (zaf (top 25) 3) f16 g16)
  (M17:FM K C3 "tells" "Town.tells" (zaf (top 25) 7) f17 g17)
  (M18:FM K C3 "come_to" "Town.come_to" (zaf (top 25) 8) f18 g18)
  (a19:findIn K (.ref C3) "come" = some (some (.ref f19)))
  (i19:isFn K (.ref f19)=true)
  (l19:K.lookup f19=some ⟨oc19,od19,.func (fnOf "come" "Town.come" (zcg (zaf (top 25) 11)) (zbj (zaf (top 25) 11)) (zai (zaf (top 25) 11)) (.ref T19) kV19 dc19 pm19 an19 cd19 ct19),sl19⟩)
  (ld19:K.lookup T19=some ⟨to19,td19,.seq #[Value.none] tn19,ts19⟩)
  (e19:codeIn K cd19 "Town.come" = true)(k19:keepIn K (.ref f19)=true)
  (M20:FM K C3 "go" "Town.go" (zaf (top 25) 12) f20 g20)
  (M21:FM K C3 "hush" "Town.hush" (zaf (top 25) 13) f21 g21)
  (M22:FM K C3 "check_name" "Town.check_name" (zaf (top 25) 15) f22 g22)
  (M23:FM K C3 "check_house" "Town.check_house" (zaf (top 25) 16) f23 g23)
  (M24:FM K C3 "check_answering" "Town.check_answering" (zaf (top 25) 17) f24 g24)
  (M25:FM K C3 "visits" "Town.visits" (zaf (top 25) 23) f25 g25)
  (a26:findIn K (.ref C3) "teller" = some (some (.ref f26)))
  (i26:isFn K (.ref f26)=true)
  (l26:K.lookup f26=some ⟨oc26,od26,.func (fnOf "teller" "Town.teller" (zcg (zaf (top 25) 18)) (zbj (zaf (top 25) 18)) (zai (zaf (top 25) 18)) .none kV26 dc26 pm26 an26 (.ref c26) ct26),sl26⟩)
  (e26:codeIn K (.ref c26) "Town.teller" = true)(k26:keepIn K (.ref f26)=true)
  (t26:K.lookup c26=some ⟨qa26,qb26,.fields qv26,qs26⟩)(r26:(qv26[11]? : Option Value)=some (.ref P26))
  (h26:codeHdIn K c26 P26=true)(n26:K.lookup P26=none)(m26:P26∈ts)
  (a27:findIn K (.ref C3) "hears_of" = some (some (.ref f27)))
  (i27:isFn K (.ref f27)=true)
  (l27:K.lookup f27=some ⟨oc27,od27,.func (fnOf "hears_of" "Town.hears_of" (zcg (zaf (top 25) 25)) (zbj (zaf (top 25) 25)) (zai (zaf (top 25) 25)) .none kV27 dc27 pm27 an27 (.ref c27) ct27),sl27⟩)
  (e27:codeIn K (.ref c27) "Town.hears_of" = true)(k27:keepIn K (.ref f27)=true)
  (t27:K.lookup c27=some ⟨qa27,qb27,.fields qv27,qs27⟩)(r27:(qv27[11]? : Option Value)=some (.ref P27))
  (h27:codeHdIn K c27 P27=true)(n27:K.lookup P27=none)(m27:P27∈ts)
  (M28:FM K C3 "meet" "Town.meet" (zaf (top 25) 24) f28 g28)
  (M29:FM K C3 "learns" "Town.learns" (zaf (top 25) 21) f29 g29)
  (M30:FM K C3 "ask" "Town.ask" (zaf (top 25) 9) f30 g30)
  (M31:FM K C3 "settles" "Market.settles" (zaf (top 27) 9) f31 g31)
  (M32:FM K C3 "leaves" "Market.leaves" (zaf (top 27) 10) f32 g32)
  (M33:FM K C3 "puts" "Market.puts" (zaf (top 27) 7) f33 g33)
  (a34:findIn K (.ref C3) "newest" = some (some (.ref f34)))
  (i34:isFn K (.ref f34)=true)
  (l34:K.lookup f34=some ⟨oc34,od34,.func (fnOf "newest" "Market.newest" (zcg (zaf (top 27) 8)) (zbj (zaf (top 27) 8)) (zai (zaf (top 27) 8)) .none kV34 dc34 pm34 an34 (.ref c34) ct34),sl34⟩)
  (e34:codeIn K (.ref c34) "Market.newest" = true)(k34:keepIn K (.ref f34)=true)
  (t34:K.lookup c34=some ⟨qa34,qb34,.fields qv34,qs34⟩)(r34:(qv34[11]? : Option Value)=some (.ref P34))
  (h34:codeHdIn K c34 P34=true)(n34:K.lookup P34=none)(m34:P34∈ts)
  (M35:FM K C3 "lays" "Market.lays" (zaf (top 27) 5) f35 g35)
  (M36:FM K C3 "lay" "Market.lay" (zaf (top 27) 1) f36 g36)
  (M37:FM K C3 "seek" "Market.seek" (zaf (top 27) 2) f37 g37)
  (M38:FM K C3 "kept" "Market.kept" (zaf (top 27) 3) f38 g38)
  (cg0:specialIn K (.ref C2) "__getattribute__" = some (some (.builtin "type.__getattribute__")))(cr0:readsIn K C2 (.type "type")=true)(cf0:findCls K (.ref C2) (.type "type") "__init__" = some (.val (.ref f11)))(ck0:keepIn K (.ref f11)=true)
  (aE0:nsIn K mainGlobals "NoSize" = some (some (.ref E0)))(xE0:excIn K E0 bmV "ValueError.__new__" = true)
  (aE1:nsIn K mainGlobals "NoName" = some (some (.ref E1)))(xE1:excIn K E1 bmV "ValueError.__new__" = true)
  (aE2:nsIn K mainGlobals "NoHouse" = some (some (.ref E2)))(xE2:excIn K E2 bmV "ValueError.__new__" = true)
  (aE3:nsIn K mainGlobals "Silent" = some (some (.ref E3)))(xE3:excIn K E3 bmV "ValueError.__new__" = true)
  (aE4:nsIn K mainGlobals "Taken" = some (some (.ref E4)))(xE4:excIn K E4 bmV "ValueError.__new__" = true)
  (a39:nsIn K mainGlobals "by_nearness" = some (some (.ref f39)))
  (l39:K.lookup f39=some ⟨oc39,od39,.func (fnOf "by_nearness" "by_nearness" (zcg (top 12)) (zbj (top 12)) (zai (top 12)) .none kV39 dc39 pm39 an39 (.ref c39) ct39),sl39⟩)
  (e39:codeIn K (.ref c39) "by_nearness" = true)(k39:keepIn K (.ref f39)=true)
  (t39:K.lookup c39=some ⟨qa39,qb39,.fields qv39,qs39⟩)(r39:(qv39[11]? : Option Value)=some (.ref P39))
  (h39:codeHdIn K c39 P39=true)(n39:K.lookup P39=none)(m39:P39∈ts)
  (M40:FD K "is_whole" (top 9) f40 g40)
  (M41:FD K "is_name" (top 10) f41 g41)
  (M42:FD K "far" (top 11) f42 g42)
  (M43:FD K "step" (top 13) f43 g43)
  (M44:FD K "asked" (top 15) f44 g44)
  (M45:FD K "note_told" (top 16) f45 g45)
  (M46:FD K "standing" (top 17) f46 g46)
  (M47:FD K "first_unasked" (top 18) f47 g47)
  (M48:FD K "is_size" (top 24) f48 g48)
  (M49:FD K "_law_cell_at" (top 29) f49 g49)
  (M50:FD K "_law_mixed" (top 30) f50 g50)
  (M51:FD K "_law_draw" (top 31) f51 g51)
  (M52:FD K "_law_sizes" (top 32) f52 g52)
  (M53:FD K "_law_name" (top 33) f53 g53)
  (M54:FD K "_law_come" (top 34) f54 g54)
  (M55:FD K "_law_text" (top 35) f55 g55)
  (M56:FD K "_law_both" (top 36) f56 g56)
  (M57:FD K "_law_things" (top 37) f57 g57)
  (M58:FD K "_law_sought" (top 38) f58 g58)
  (M59:FD K "_law_turn" (top 39) f59 g59)
  (a60:nsIn K mainGlobals "law" = some (some (.ref f60)))
  (l60:K.lookup f60=some ⟨oc60,od60,.func (fnOf "law" "law" (zcg (top 40)) (zbj (top 40)) (zai (top 40)) .none kV60 dc60 pm60 an60 cd60 ct60),sl60⟩)
  (e60:codeIn K cd60 "law" = true)(k60:keepIn K (.ref f60)=true)
  (hne01:P39≠P26)
  (hne03:P39≠P27)
  (hne13:P26≠P27)
  (hne04:P39≠P34)
  (hne14:P26≠P34)
  (hne34:P27≠P34)
  (z0:nsIn K mainGlobals "len" = some none)(z1:nsIn K mainGlobals "abs" = some none)(z2:nsIn K mainGlobals "isinstance" = some none)(z3:nsIn K mainGlobals "int" = some none)(z4:nsIn K mainGlobals "bool" = some none)(z5:nsIn K mainGlobals "str" = some none)(z6:nsIn K mainGlobals "list" = some none)(z7:nsIn K mainGlobals "range" = some none)(z8:nsIn K mainGlobals "min" = some none)(z9:nsIn K mainGlobals "sorted" = some none)(z10:nsIn K mainGlobals "sum" = some none)(z11:nsIn K mainGlobals "enumerate" = some none)(z12:nsIn K mainGlobals "set" = some none)(z13:nsIn K mainGlobals "max" = some none)(z14:nsIn K mainGlobals "all" = some none)(z15:nsIn K mainGlobals "tuple" = some none) :
  ∃ (fd:FuncData) (tabs:List (Addr × Addr)),(∀ q∈tabs,q.2∈ts/\codeHdIn K q.1 q.2=true/\K.lookup q.2=none)/\(∀ (s:Shared) (v:Value),BindsTo s fd ⟨[v],[]⟩ [("_law_script",v)])/\∀ base:Heap,K.In base->base.Ns mainGlobals mg->(∀ q∈tabs,base.BuiltinsAt mg q.2)->zdm l.prog w K mg base CX0 20 fa fd ["_law_script"] (zp5 K tabs):=by
 have e:=hfa.symm.trans (mg_of X G a60)
 cases e
 have T:Txt mg:=⟨mg_none_of X G z0,mg_none_of X G z1,mg_none_of X G z2,mg_none_of X G z3,mg_none_of X G z4,mg_none_of X G z5,mg_none_of X G z6,mg_none_of X G z7,mg_none_of X G z8,mg_none_of X G z9,mg_none_of X G z10,mg_none_of X G z11,mg_none_of X G z12,mg_none_of X G z13,mg_none_of X G z14,mg_none_of X G z15⟩
 let zvs:DfC K mg "Bucket" ["room","order"]:=⟨C0,mg_of X G aC0,⟨pg0,hd0,po0,sa0⟩,⟨na0_0,⟨na0_1,trivial⟩⟩,mk0,kc0⟩
 let ztc:DfC K mg "Table" ["own","wide","room","buckets"]:=⟨C1,mg_of X G aC1,⟨pg1,hd1,po1,sa1⟩,⟨na1_0,⟨na1_1,⟨na1_2,⟨na1_3,trivial⟩⟩⟩⟩,mk1,kc1⟩
 let zjp:zx_ K ztc.C "nearest" "Table.nearest" (zaf (top 22) 6) ["self","goal","many","but"] [Value.none]:=⟨f7,_,⟨_,_,_,_,_,_,_,_,_,_,rfl,l7,e7⟩,⟨a7,i7,k7⟩,
  fun s us hK hl=>by
   obtain ⟨u0,u1,u2,u3,rfl⟩:=z0b hl
   exact BindsTo.of_defaults rfl (hK _ _ ld7) rfl rfl rfl,
  fun s us hK hl=>by
   obtain ⟨u0,u1,u2,rfl⟩:=zz4 hl
   exact BindsTo.of_defaults rfl (hK _ _ ld7) rfl rfl rfl⟩
 let ztx:DfC K mg "Town" []:=⟨C2,mg_of X G aC2,⟨pg2,hd2,po2,sa2⟩,trivial,mk2,kc2⟩
 let zff:DfM K ztx.C "__init__" "Town.__init__" (zaf (top 25) 0) ["self","wide","room"]:=⟨_,_,M11.F,⟨M11.a,M11.i,M11.F.kp⟩,M11.F.binds fun _ _ _ _ _ _=>us3 fun _ _ _=>rfl⟩
 let zg6:DfC K mg "Market" ["wide","room","tables","silent","things","layings"]:=⟨C3,mg_of X G aC3,⟨pg3,hd3,po3,sa3⟩,⟨na3_0,⟨na3_1,⟨na3_2,⟨na3_3,⟨na3_4,⟨na3_5,trivial⟩⟩⟩⟩⟩⟩,mk3,kc3⟩
 let zpl:zx_ K zg6.C "come" "Town.come" (zaf (top 25) 11) ["self","name","door"] [Value.none]:=⟨f19,_,⟨_,_,_,_,_,_,_,_,_,_,rfl,l19,e19⟩,⟨a19,i19,k19⟩,
  fun s us hK hl=>by
   obtain ⟨u0,u1,u2,rfl⟩:=z2e hl
   exact BindsTo.of_defaults rfl (hK _ _ ld19) rfl rfl rfl,
  fun s us hK hl=>by
   obtain ⟨u0,u1,rfl⟩:=z0f hl
   exact BindsTo.of_defaults rfl (hK _ _ ld19) rfl rfl rfl⟩
 let zdn:zu2 K zg6.C "teller" "Town.teller" (zaf (top 25) 18) ["self"]:=⟨f26,c26,P26,_,⟨_,_,_,_,_,_,_,_,rfl,l26⟩,e26,h26,n26,⟨a26,i26,k26⟩,(zh1 (st:=zaf (top 25) 18) l26 e26 k26).binds fun _ _ _ _ _ _=>us1 fun _=>rfl⟩
 let zcu:zu2 K zg6.C "hears_of" "Town.hears_of" (zaf (top 25) 25) ["self","house","name"]:=⟨f27,c27,P27,_,⟨_,_,_,_,_,_,_,_,rfl,l27⟩,e27,h27,n27,⟨a27,i27,k27⟩,(zh1 (st:=zaf (top 25) 25) l27 e27 k27).binds fun _ _ _ _ _ _=>us3 fun _ _ _=>rfl⟩
 let zcx:zu2 K zg6.C "newest" "Market.newest" (zaf (top 27) 8) ["self","key","houses"]:=⟨f34,c34,P34,_,⟨_,_,_,_,_,_,_,_,rfl,l34⟩,e34,h34,n34,⟨a34,i34,k34⟩,(zh1 (st:=zaf (top 27) 8) l34 e34 k34).binds fun _ _ _ _ _ _=>us3 fun _ _ _=>rfl⟩
 have hM_Town___init__:zv3 K ztx.C "__init__" zff.f:=⟨cg0,cr0,cf0,ck0⟩
 let zvc:DfE K mg "NoSize" :=⟨E0,mg_of X G aE0,xE0⟩
 let zvv:DfE K mg "NoName" :=⟨E1,mg_of X G aE1,xE1⟩
 let zsk:DfE K mg "NoHouse" :=⟨E2,mg_of X G aE2,xE2⟩
 let zvm:DfE K mg "Silent" :=⟨E3,mg_of X G aE3,xE3⟩
 let zy0:DfE K mg "Taken" :=⟨E4,mg_of X G aE4,xE4⟩
 let zdl:DfF K mg "by_nearness" (top 12) ["goal","names"]:=⟨f39,c39,P39,_,⟨_,_,_,_,_,_,_,_,rfl,l39⟩,e39,h39,n39,k39,mg_of X G a39,(zh1 (st:=top 12) l39 e39 k39).binds fun _ _ _ _ _ _=>us2 fun _ _=>rfl⟩
 refine ⟨fnOf "law" "law" (zcg (top 40)) (zbj (top 40)) (zai (top 40)) .none kV60 dc60 pm60 an60 cd60 ct60,[(c26,P26),(c27,P27),(c34,P34),(c39,P39)],fun q hq=>by
  simp only [gx,jq,or_false] at hq
  rcases hq with rfl | rfl | rfl | rfl
  ·exact ⟨m26,h26,n26⟩
  ·exact ⟨m27,h27,n27⟩
  ·exact ⟨m34,h34,n34⟩
  ·exact ⟨m39,h39,n39⟩,fun s v=> .of_eq rfl,fun base hK hG hB=>?_⟩
 have ht_Town_teller:(zdn.c,zdn.P)∈([(c26,P26),(c27,P27),(c34,P34),(c39,P39)]:List (Addr × Addr)):= .head _
 have hB_Town_teller:base.BuiltinsAt mg zdn.P:=hB (c26,P26) (by simp)
 have ht_Town_hears_of:(zcu.c,zcu.P)∈([(c26,P26),(c27,P27),(c34,P34),(c39,P39)]:List (Addr × Addr)):= .tail _ (.head _)
 have hB_Town_hears_of:base.BuiltinsAt mg zcu.P:=hB (c27,P27) (by simp)
 have ht_Market_newest:(zcx.c,zcx.P)∈([(c26,P26),(c27,P27),(c34,P34),(c39,P39)]:List (Addr × Addr)):= .tail _ (.tail _ (.head _))
 have hB_Market_newest:base.BuiltinsAt mg zcx.P:=hB (c34,P34) (by simp)
 have ht_by_nearness:(zdl.c,zdl.P)∈([(c26,P26),(c27,P27),(c34,P34),(c39,P39)]:List (Addr × Addr)):= .tail _ (.tail _ (.tail _ (.head _)))
 have hB_by_nearness:base.BuiltinsAt mg zdl.P:=hB (c39,P39) (by simp)
 exact z2n ⟨zvs,ztc,zg6,ztx,⟨_,_,M0.F,⟨M0.a,M0.i,M0.F.kp⟩,M0.F.binds fun _ _ _ _ _ _=>us2 fun _ _=>rfl⟩,⟨_,_,M1.F,⟨M1.a,M1.i,M1.F.kp⟩,M1.F.binds fun _ _ _ _ _ _=>us1 fun _=>rfl⟩,⟨_,_,M2.F,⟨M2.a,M2.i,M2.F.kp⟩,M2.F.binds fun _ _ _ _ _ _=>us3 fun _ _ _=>rfl⟩,⟨_,_,M3.F,⟨M3.a,M3.i,M3.F.kp⟩,M3.F.binds fun _ _ _ _ _ _=>us3 fun _ _ _=>rfl⟩,⟨_,_,M42.F,mg_of X G M42.a,M42.F.binds fun _ _ _ _ _ _=>us2 fun _ _=>rfl⟩,⟨_,_,M43.F,mg_of X G M43.a,M43.F.binds fun _ _ _ _ _ _=>us2 fun _ _=>rfl⟩,zdl,⟨_,_,M5.F,⟨M5.a,M5.i,M5.F.kp⟩,M5.F.binds fun _ _ _ _ _ _=>us4 fun _ _ _ _=>rfl⟩,⟨_,_,M8.F,⟨M8.a,M8.i,M8.F.kp⟩,M8.F.binds fun _ _ _ _ _ _=>us2 fun _ _=>rfl⟩,⟨_,_,M9.F,⟨M9.a,M9.i,M9.F.kp⟩,M9.F.binds fun _ _ _ _ _ _=>us3 fun _ _ _=>rfl⟩,⟨_,_,M6.F,⟨M6.a,M6.i,M6.F.kp⟩,M6.F.binds fun _ _ _ _ _ _=>us1 fun _=>rfl⟩,⟨_,_,M40.F,mg_of X G M40.a,M40.F.binds fun _ _ _ _ _ _=>us1 fun _=>rfl⟩,⟨_,_,M41.F,mg_of X G M41.a,M41.F.binds fun _ _ _ _ _ _=>us2 fun _ _=>rfl⟩,⟨_,_,M15.F,⟨M15.a,M15.i,M15.F.kp⟩,M15.F.binds fun _ _ _ _ _ _=>us2 fun _ _=>rfl⟩,⟨_,_,M16.F,⟨M16.a,M16.i,M16.F.kp⟩,M16.F.binds fun _ _ _ _ _ _=>us2 fun _ _=>rfl⟩,zsk,⟨_,_,M23.F,⟨M23.a,M23.i,M23.F.kp⟩,M23.F.binds fun _ _ _ _ _ _=>us2 fun _ _=>rfl⟩,zvv,⟨_,_,M22.F,⟨M22.a,M22.i,M22.F.kp⟩,M22.F.binds fun _ _ _ _ _ _=>us2 fun _ _=>rfl⟩,zvm,⟨_,_,M24.F,⟨M24.a,M24.i,M24.F.kp⟩,M24.F.binds fun _ _ _ _ _ _=>us2 fun _ _=>rfl⟩,⟨_,_,M13.F,⟨M13.a,M13.i,M13.F.kp⟩,M13.F.binds fun _ _ _ _ _ _=>us1 fun _=>rfl⟩,⟨_,_,M48.F,mg_of X G M48.a,M48.F.binds fun _ _ _ _ _ _=>us2 fun _ _=>rfl⟩,zvc,zff,⟨_,_,M12.F,⟨M12.a,M12.i,M12.F.kp⟩,M12.F.binds fun _ _ _ _ _ _=>us3 fun _ _ _=>rfl⟩,⟨_,_,M14.F,⟨M14.a,M14.i,M14.F.kp⟩,M14.F.binds fun _ _ _ _ _ _=>us1 fun _=>rfl⟩,zcu,⟨_,_,M28.F,⟨M28.a,M28.i,M28.F.kp⟩,M28.F.binds fun _ _ _ _ _ _=>us3 fun _ _ _=>rfl⟩,⟨_,_,M18.F,⟨M18.a,M18.i,M18.F.kp⟩,M18.F.binds fun _ _ _ _ _ _=>us2 fun _ _=>rfl⟩,⟨_,_,M25.F,⟨M25.a,M25.i,M25.F.kp⟩,M25.F.binds fun _ _ _ _ _ _=>us3 fun _ _ _=>rfl⟩,zy0,⟨_,_,M31.F,⟨M31.a,M31.i,M31.F.kp⟩,M31.F.binds fun _ _ _ _ _ _=>us3 fun _ _ _=>rfl⟩,zpl,⟨_,_,M21.F,⟨M21.a,M21.i,M21.F.kp⟩,M21.F.binds fun _ _ _ _ _ _=>us2 fun _ _=>rfl⟩,⟨_,_,M32.F,⟨M32.a,M32.i,M32.F.kp⟩,M32.F.binds fun _ _ _ _ _ _=>us2 fun _ _=>rfl⟩,⟨_,_,M20.F,⟨M20.a,M20.i,M20.F.kp⟩,M20.F.binds fun _ _ _ _ _ _=>us2 fun _ _=>rfl⟩,zjp,⟨_,_,M33.F,⟨M33.a,M33.i,M33.F.kp⟩,M33.F.binds fun _ _ _ _ _ _=>us4 fun _ _ _ _=>rfl⟩,zcx,⟨_,_,M38.F,⟨M38.a,M38.i,M38.F.kp⟩,M38.F.binds fun _ _ _ _ _ _=>us2 fun _ _=>rfl⟩,⟨_,_,M17.F,⟨M17.a,M17.i,M17.F.kp⟩,M17.F.binds fun _ _ _ _ _ _=>us4 fun _ _ _ _=>rfl⟩,⟨_,_,M45.F,mg_of X G M45.a,M45.F.binds fun _ _ _ _ _ _=>us4 fun _ _ _ _=>rfl⟩,⟨_,_,M46.F,mg_of X G M46.a,M46.F.binds fun _ _ _ _ _ _=>us3 fun _ _ _=>rfl⟩,⟨_,_,M47.F,mg_of X G M47.a,M47.F.binds fun _ _ _ _ _ _=>us2 fun _ _=>rfl⟩,⟨_,_,M44.F,mg_of X G M44.a,M44.F.binds fun _ _ _ _ _ _=>us4 fun _ _ _ _=>rfl⟩,⟨_,_,M4.F,⟨M4.a,M4.i,M4.F.kp⟩,M4.F.binds fun _ _ _ _ _ _=>us2 fun _ _=>rfl⟩,⟨_,_,M10.F,⟨M10.a,M10.i,M10.F.kp⟩,M10.F.binds fun _ _ _ _ _ _=>us2 fun _ _=>rfl⟩,⟨_,_,M29.F,⟨M29.a,M29.i,M29.F.kp⟩,M29.F.binds fun _ _ _ _ _ _=>us3 fun _ _ _=>rfl⟩,zdn,⟨_,_,M30.F,⟨M30.a,M30.i,M30.F.kp⟩,M30.F.binds fun _ _ _ _ _ _=>us3 fun _ _ _=>rfl⟩,⟨_,_,M35.F,⟨M35.a,M35.i,M35.F.kp⟩,M35.F.binds fun _ _ _ _ _ _=>us4 fun _ _ _ _=>rfl⟩,⟨_,_,M36.F,⟨M36.a,M36.i,M36.F.kp⟩,M36.F.binds fun _ _ _ _ _ _=>us4 fun _ _ _ _=>rfl⟩,⟨_,_,M55.F,mg_of X G M55.a,M55.F.binds fun _ _ _ _ _ _=>us1 fun _=>rfl⟩,⟨_,_,M49.F,mg_of X G M49.a,M49.F.binds fun _ _ _ _ _ _=>us2 fun _ _=>rfl⟩,⟨_,_,M50.F,mg_of X G M50.a,M50.F.binds fun _ _ _ _ _ _=>us2 fun _ _=>rfl⟩,⟨_,_,M51.F,mg_of X G M51.a,M51.F.binds fun _ _ _ _ _ _=>us3 fun _ _ _=>rfl⟩,⟨_,_,M52.F,mg_of X G M52.a,M52.F.binds fun _ _ _ _ _ _=>us1 fun _=>rfl⟩,⟨_,_,M53.F,mg_of X G M53.a,M53.F.binds fun _ _ _ _ _ _=>us3 fun _ _ _=>rfl⟩,⟨_,_,M54.F,mg_of X G M54.a,M54.F.binds fun _ _ _ _ _ _=>us4 fun _ _ _ _=>rfl⟩,⟨_,_,M56.F,mg_of X G M56.a,M56.F.binds fun _ _ _ _ _ _=>us5 fun _ _ _ _ _=>rfl⟩,⟨_,_,M37.F,⟨M37.a,M37.i,M37.F.kp⟩,M37.F.binds fun _ _ _ _ _ _=>us3 fun _ _ _=>rfl⟩,⟨_,_,M57.F,mg_of X G M57.a,M57.F.binds fun _ _ _ _ _ _=>us1 fun _=>rfl⟩,⟨_,_,M58.F,mg_of X G M58.a,M58.F.binds fun _ _ _ _ _ _=>us5 fun _ _ _ _ _=>rfl⟩,⟨_,_,M59.F,mg_of X G M59.a,M59.F.binds fun _ _ _ _ _ _=>us5 fun _ _ _ _ _=>rfl⟩,⟨_,_,zh1 (st:=top 40) l60 e60 k60,mg_of X G a60,(zh1 (st:=top 40) l60 e60 k60).binds fun _ _ _ _ _ _=>us1 fun _=>rfl⟩,T,hK,hB_by_nearness,hB_Town_hears_of,hB_Market_newest,hne04,hB_Town_teller,hne01,hne03,hne13,hne34,hne14⟩ hM_Town___init__ ht_by_nearness ht_Town_teller ht_Town_hears_of ht_Market_newest
theorem walk {l:PySem.W.OpenLaw}{q:Program}{loose:List Str}{XP:(Str->Option Value)->Heap->Prop}{YP:World->Heap->Prop}{d:DefRec}{K:Params->PySem.W.Frag}{ts:List Addr}(hn:l.most=some 63)(hdf:d.params.defaults=[])
  (hY:∀ (w:World) (h:Heap),YP w h->(K w.params).In h)(hYT:∀ (w:World) (h:Heap),YP w h->∀ P∈ts,h.get? P=some (o8 #[]))
  (F:∀ (w:World) (mg:Str->Option Value) (fa:Addr) (h:Heap),(K w.params).In h->h.Ns mainGlobals mg->mg d.name=some (.ref fa) ->
   ∃ (fd:FuncData) (tabs:List (Addr × Addr)),(∀ q∈tabs,q.2∈ts/\PySem.W.codeHdIn (K w.params) q.1 q.2=true/\(K w.params).lookup q.2=none)/\(∀ (s:Shared) (u:Value),BindsTo s fd ⟨[u],[]⟩ [("_law_script",u)]) /\
    ∀ base:Heap,(K w.params).In base->base.Ns mainGlobals mg->(∀ q∈tabs,base.BuiltinsAt mg q.2)->zdm l.prog w (K w.params) mg base CX0 20 fa fd ["_law_script"] (zp5 (K w.params) tabs)) :
  PySem.W.WalkO q loose XP YP l.row.toRowW d [] (fun f vs=>PySem.call f vs) :=
 L2.walk_ofT (n:=63) (k:=20) (x:= "_law_script") (sp:=zp5) hn (by decide) hdf ⟨rfl,by decide,by decide⟩ hY hYT F fun K tabs H a ns hl hS hT=>⟨a,ns,rfl,hS,hl,hT,fun _=>rfl⟩
end NN
namespace PySem.W.Fast
def tw16040670734000215849:=Nat
def tw8701572336352953026:=Nat
def tw17287992234903535383:=Nat
def tw5357938359219186750:=Nat
def tw3726965573465095026:=Nat
def tw10206090309299489003:=Nat
def tw13583402240694335283:=Nat
def tw9847484708277687655:=Nat
def tw10235385903967584712:=Nat
def tw680583617844778961:=Nat
def tw17059988652392437925:=Nat
def tw12048359505013021395:=Nat
def tw12018505148316426172:=Nat
def tw1177300635569270407:=Nat
def tw14796081368975020239:=Nat
def tw9267231045809737885:=Nat
def tw7250294845528809672:=Nat
def tw16479575418101663620:=Nat
def tw13266968462900833331:=Nat
def tw17394388193291723960:=Nat
def tw15504444601293156556:=Nat
def tw14567878803591452350:=Nat
def tw179364023261824530:=Nat
def tw6791533786836290393:=Nat
def tw12201667436223915772:=Nat
def tw10969321715400372146:=Nat
def tw13105934836231715662:=Nat
def tw3197692868956715173:=Nat
def tw10130263161115870834:=Nat
def tw16522614688976249459:=Nat
def tw5921923261109320031:=Nat
def tw13158963528996922015:=Nat
def tw15712204720845793446:=Nat
def tw6321870940883335990:=Nat
def tw4663136042244140494:=Nat
def tw17605865942685572468:=Nat
def tw17723993120566064630:=Nat
def tw1822632273337670231:=Nat
def tw1141456488209193164:=Nat
def tw17521656691836867425:=Nat
def tw9556000707447368691:=Nat
def tw2656598338820432260:=Nat
def tw9644682142764723971:=Nat
def tw5261148371775618902:=Nat
def tw11650323514354555866:=Nat
def tw12829917323575759457:=Nat
def tw15773164241662300395:=Nat
def tw5525908040508662083:=Nat
def tw9543564846670136712:=Nat
def tw7611703088410155526:=Nat
def tw15089198862105316706:=Nat
def tw9099537898506295802:=Nat
def tw3857506770361572281:=Nat
def tw10562832183397229447:=Nat
def tw8625711405896055764:=Nat
def tw15515524191645509669:=Nat
def tw10752294895135562720:=Nat
def tw4930516412600850662:=Nat
def tw5171447679712222183:=Nat
def tw5729753897196333640:=Nat
def tw10832536938907955378:=Nat
def tw13397722247953548335:=Nat
def tw8461335561654967932:=Nat
def tw16890768507311876211:=Nat
def tw16881329569973989159:=Nat
def tw11024763619257522333:=Nat
def tw12253025087863763606:=Nat
def tw5651219499355482417:=Nat
def tw2460216153674437282:=Nat
def tw8489693673743729865:=Nat
def tw2962479637566524353:=Nat
def tw3272575058980939817:=Nat
def tw3540160449560391509:=Nat
def tw8704380851605754495:=Nat
def tw5407508032965826062:=Nat
def tw1709813626004705997:=Nat
def tw16312632347130912222:=Nat
def tw4302241671025380951:=Nat
def tw16221748775167743211:=Nat
def tw9744841918768806534:=Nat
def tw8636234389058017421:=Nat
def tw16783346269404871829:=Nat
def tw6121693999421170668:=Nat
def tw16427189419377529039:=Nat
def tw9661160601995121203:=Nat
def tw12453641847492938883:=Nat
def tw4770576312384683349:=Nat
def tw17703691590592278277:=Nat
def tw708481789863759091:=Nat
def tw11626725622764530317:=Nat
def tw10867937488604106827:=Nat
def tw18240081331338850532:=Nat
def tw8637415114856907073:=Nat
def tw13304868723025948164:=Nat
def tw7371480024612844676:=Nat
def tw2906863329397921706:=Nat
def tw7907565613074779491:=Nat
def tw4970523201241468286:=Nat
def tw14615782905190583176:=Nat
def tw7156692904760253662:=Nat
def tw5431561075806062865:=Nat
def tw12359404376038570749:=Nat
def tw13743175679391079126:=Nat
def tw8533575532597666399:=Nat
def tw4152694369958098053:=Nat
def tw11622506529130929889:=Nat
def tw12322140045142841196:=Nat
def tw4998287086859966840:=Nat
def tw8093884954071453523:=Nat
def tw10360646066310891265:=Nat
def tw13095197742212541015:=Nat
def tw3075429184057087767:=Nat
def tw6178454146208079823:=Nat
def tw13669899293185770889:=Nat
def tw8463652000154184409:=Nat
def tw5266291449474426925:=Nat
def tw12223378120946051927:=Nat
def tw1970648058065121189:=Nat
def tw17226980236448713975:=Nat
def tw8425383198234166613:=Nat
def tw8778694472896050618:=Nat
def tw6861153788661229075:=Nat
def tw8710776553815056714:=Nat
def tw1507242678186964264:=Nat
def tw8522915566551472607:=Nat
def tw11956835712844699341:=Nat
def tw15350893496347408202:=Nat
def tw10855831695295052245:=Nat
def tw4323823147523172642:=Nat
def tw9943534787849147508:=Nat
def tw16309590299662012560:=Nat
def tw17604449457324329286:=Nat
def tw3477554824148532278:=Nat
def tw7840813687746147685:=Nat
def tw18218123779008608384:=Nat
def tw7240952681002663828:=Nat
def tw18011525938236790972:=Nat
def tw8008929486755440487:=Nat
def tw2911863895590041089:=Nat
def tw1158291278610665554:=Nat
def tw10582489509472345929:=Nat
def tw12342955559723653108:=Nat
def tw14472176811418461434:=Nat
def tw814418198968804181:=Nat
def tw11066591956419834589:=Nat
def tw8138988138496020210:=Nat
def tw1876231506594017742:=Nat
def tw2028561166364567159:=Nat
def tw4369399908104426219:=Nat
def tw8256667885419409245:=Nat
def tw7909928811536925010:=Nat
def tw11147056059955613155:=Nat
def tw2748109667762184310:=Nat
def tw15052923378224805148:=Nat
def tw8066725266270930281:=Nat
def tw1985676562361253413:=Nat
def tw14262794452240916177:=Nat
def tw17414563243539229988:=Nat
def tw1675589983457343220:=Nat
def tw17266922320440902374:=Nat
def tw4632860398349634101:=Nat
def tw1464856944344676592:=Nat
def tw3138797548210235215:=Nat
def tw7326491438116078469:=Nat
def tw12203628762928603653:=Nat
def tw2055085891338451217:=Nat
def tw14358238228413846562:=Nat
def tw3284384835947705353:=Nat
def tw5446178162100234879:=Nat
def tw11928674426655050602:=Nat
def tw11953918266262545554:=Nat
def tw12268066468375618754:=Nat
def tw12522620380345646454:=Nat
def tw1239660856790517302:=Nat
def tw16872187396087284880:=Nat
def tw6020868375950776505:=Nat
def tw9203473021372559944:=Nat
def tw8201188924259804147:=Nat
def tw8552663396188754230:=Nat
def tw884254502169573887:=Nat
def tw476984393640288688:=Nat
def tw1277515931648696714:=Nat
def tw4151190075494157352:=Nat
def tw16910684067081054048:=Nat
def tw3201897016289558064:=Nat
def tw17864004383516527978:=Nat
def tw7834552190498371084:=Nat
def tw17812693082792058965:=Nat
def tw2441065164148684593:=Nat
def tw2193257857658796224:=Nat
def tw4990030324860818174:=Nat
def tw14057594335717613948:=Nat
def tw11021882521398615462:=Nat
def tw5123867869505583363:=Nat
def tw1958850671885257985:=Nat
def tw15475393770923341205:=Nat
def tw2553751442492878271:=Nat
def tw1222781235323537844:=Nat
def tw16820468650968519369:=Nat
def tw14754503231365024573:=Nat
def tw914897226540723196:=Nat
def tw2012998097155498207:=Nat
def tw18086209445076684660:=Nat
def tw133337863619035099:=Nat
def tw16850371076800929231:=Nat
def tw10908593083215897771:=Nat
def tw13382850692232428304:=Nat
def tw15191354356624751690:=Nat
def tw14592831810034030839:=Nat
def tw18321588812541489519:=Nat
def tw3544100925526348649:=Nat
def tw6109461905888455170:=Nat
def tw16841725800557927279:=Nat
def tw422912459066993070:=Nat
def tw15932438212599078996:=Nat
def tw18050111783904912520:=Nat
def tw2665396996832698353:=Nat
def tw1319906263005162972:=Nat
def tw8958931946390007853:=Nat
def tw8299924333385585856:=Nat
def tw15847605202771336919:=Nat
def tw1809425505218160182:=Nat
def tw5636596018541174630:=Nat
def tw12699657973956941071:=Nat
def tw3924636006008440776:=Nat
def tw17639986329480583029:=Nat
def tw18195443059439266219:=Nat
def tw11720722791384764627:=Nat
def tw18001880241102750955:=Nat
def tw15888869038993442573:=Nat
def tw12256946357926754775:=Nat
def tw12588410975345959296:=Nat
def tw11976204688843824766:=Nat
def tw5196458937980883799:=Nat
def tw17591862347214193415:=Nat
def tw15883164731893993683:=Nat
def tw17025727793871656146:=Nat
def tw16609416868606879622:=Nat
def tw2803679892891481259:=Nat
def tw3424126733995555265:=Nat
def tw4210462404881423963:=Nat
def tw449921161174307570:=Nat
def tw9425987834763988919:=Nat
def tw9790729694923930158:=Nat
def tw1516317311588919287:=Nat
def tw14877633445002197031:=Nat
def tw15924427219419865703:=Nat
def tw16250886951055264125:=Nat
def tw7578447460890553327:=Nat
def tw1938299336837494554:=Nat
def tw1545108172226501529:=Nat
def tw10421789792724809185:=Nat
def tw9565386474098659743:=Nat
def tw14047328476319627095:=Nat
def tw8949888382703304430:=Nat
def tw7834533273107529708:=Nat
def tw16337824648919041517:=Nat
def tw6268455193693709892:=Nat
def tw6866432081529760858:=Nat
def tw9368116315996823433:=Nat
def tw3763463860589189595:=Nat
def tw59452202884452937:=Nat
def tw11298703676249671097:=Nat
def tw11511155206911065051:=Nat
def tw4088048939487265431:=Nat
def tw13070714462215462397:=Nat
def tw10697339792247377056:=Nat
def tw10970593612055215647:=Nat
def tw3342883215198327513:=Nat
def tw2399716880299681548:=Nat
def tw2966798850207540021:=Nat
def tw12598618717632530792:=Nat
def tw10291785589317002806:=Nat
def tw787657779745205040:=Nat
def tw4853414297446525718:=Nat
def tw11781448701697616572:=Nat
def tw382456229529423808:=Nat
def tw12523427322166656454:=Nat
def tw610684653002117972:=Nat
def tw12576810739578480369:=Nat
def tw5173668175060907261:=Nat
def tw1622221963375239350:=Nat
def tw1100566598303850623:=Nat
def tw13966471991895167705:=Nat
def tw18263311900035403289:=Nat
def tw14286170350730731635:=Nat
def tw2877520514501304630:=Nat
def tw17014596092138648720:=Nat
def tw5725720678509242232:=Nat
def tw5045123320349550281:=Nat
def tw11692615336841176821:=Nat
def tw18365034179647461315:=Nat
def tw335235007514016774:=Nat
def tw10572548389813310167:=Nat
def tw5639057819518485288:=Nat
def tw8629651299537785926:=Nat
def tw2037041870190843931:=Nat
def tw12916576922872945736:=Nat
def tw15150528711113389108:=Nat
def tw12807357808684901026:=Nat
def tw15729265899699500909:=Nat
def tw16750583891612146993:=Nat
def tw12234114146940732634:=Nat
def tw3143780053864617621:=Nat
def tw2128204133907875565:=Nat
def tw10495733699641647775:=Nat
def tw9266874872259052207:=Nat
def tw1005133010353741455:=Nat
def tw11827990136640766824:=Nat
def tw5481031745662290042:=Nat
def tw8687660183635315185:=Nat
def tw15718386007619291455:=Nat
def tw13263431042160637457:=Nat
def tw2325552788476594192:=Nat
def tw6177148996796184368:=Nat
def tw16956478322338525020:=Nat
def tw10929544373638853:=Nat
def tw15766797248599812912:=Nat
def tw13443140256542031115:=Nat
def tw10185090653010694703:=Nat
def tw15008548313934048018:=Nat
def tw17290003624374200024:=Nat
def tw77028444437440373:=Nat
def tw4632349986280070526:=Nat
def tw3270866670827101854:=Nat
def tw6596527079092057040:=Nat
def tw17429656698326006492:=Nat
def tw17734026695159710965:=Nat
def tw8904632691723326135:=Nat
def tw9427560648563982877:=Nat
def tw17734332278637583124:=Nat
def tw13650172036593581842:=Nat
def tw5107156480637749837:=Nat
def tw17761008859874270627:=Nat
def tw12196562900471936738:=Nat
def tw17393272175310655222:=Nat
def tw4104605115083856792:=Nat
def tw3671825991282122975:=Nat
def tw5369311143389793857:=Nat
def tw11668153760952021133:=Nat
def tw13006483897694207310:=Nat
def tw8939666122128337510:=Nat
def tw12449924924358843514:=Nat
def tw10820182199186356564:=Nat
def tw3902198042663849826:=Nat
def tw1430010909685984364:=Nat
def tw12349393536624801308:=Nat
def tw10840485282553691298:=Nat
def tw824720395803833111:=Nat
def tw10494969269648310340:=Nat
def tw7991549601802890636:=Nat
def tw9370843663889393026:=Nat
def tw15648205216261091464:=Nat
def tw787293998968332989:=Nat
def tw1311079282985036217:=Nat
def tw10076165843480473959:=Nat
def tw10501313276192566809:=Nat
def tw8376544058110424047:=Nat
def tw18061540553844870519:=Nat
def tw18029724861368339277:=Nat
def tw13265226497605713153:=Nat
def tw3314318152143478784:=Nat
def tw16796959956959168540:=Nat
def tw2582660283465533078:=Nat
def tw6008248457274870734:=Nat
def tw15979393858789349664:=Nat
def tw9425152326772993222:=Nat
def tw7543529324219811595:=Nat
def tw3729274116480456104:=Nat
def tw16250325390224510661:=Nat
def tw3395234292802169584:=Nat
def tw7785705141517514668:=Nat
def tw12350288861440428537:=Nat
def tw3080556187065551637:=Nat
def tw18305579625238920126:=Nat
def tw14449796909509272267:=Nat
def tw14759105074185663369:=Nat
def tw13233801585425178632:=Nat
def tw6118928913373181717:=Nat
def tw14268244040782604341:=Nat
def tw12294005719602821489:=Nat
def tw6814845841597617121:=Nat
def tw8235186830730362432:=Nat
def tw6854696202352239455:=Nat
def tw1523635668308885807:=Nat
def tw11823217462278064037:=Nat
def tw12066437674658370960:=Nat
def tw7754063889044312321:=Nat
def tw11927340179171920929:=Nat
def tw6140599954518892247:=Nat
def tw14387910013191090697:=Nat
def tw6343245820611743563:=Nat
def tw8003005621793668698:=Nat
def tw10671845103195498710:=Nat
def tw244347119174072087:=Nat
def tw15316296164811764072:=Nat
def tw3375861984977769286:=Nat
def tw22911758103839840:=Nat
def tw6075355966292476088:=Nat
def tw8112913109232762342:=Nat
def tw2311759461261448595:=Nat
def tw5492888731094013252:=Nat
def tw16700485371661844396:=Nat
def tw15211566170970810934:=Nat
def tw18360837014938712243:=Nat
def tw10189898596177221765:=Nat
def tw818395752682375034:=Nat
def tw8191946950657217938:=Nat
def tw8519560310726841240:=Nat
def tw13749305512844393098:=Nat
def tw8738905793171932170:=Nat
def tw13666639868575713983:=Nat
def tw16023367129527585257:=Nat
def tw18375239703818564472:=Nat
def tw6368724013330276341:=Nat
def tw16611884568239480288:=Nat
def tw10469191226320738311:=Nat
def tw9462743400921170739:=Nat
def tw6261683625350549802:=Nat
def tw18114632538799074483:=Nat
def tw14281854408818869691:=Nat
def tw16012582607834294619:=Nat
def tw3177282981519878559:=Nat
def tw4817763290081769948:=Nat
def tw7158918124767752166:=Nat
def tw533553649252331879:=Nat
def tw16278800952551440601:=Nat
def tw1235703754706577743:=Nat
def tw372043467837121421:=Nat
def tw9822537299600207136:=Nat
def tw3657238721600605038:=Nat
def tw16868101360216026442:=Nat
def tw16060545459218054730:=Nat
def tw1076778652783489412:=Nat
def tw11688419429444228371:=Nat
def tw843139666039194627:=Nat
def tw14899006526318112818:=Nat
def tw11885826752193861169:=Nat
def tw2784075779840609582:=Nat
def tw5818388615321455966:=Nat
def tw574448527466465521:=Nat
def tw5475428036100464554:=Nat
def tw3294805700727851727:=Nat
def tw9628667905511857273:=Nat
def tw7792888045024966255:=Nat
def tw5278802458575120762:=Nat
def tw4972058919728336458:=Nat
def tw332225591463777734:=Nat
def tw3245010010698040403:=Nat
def tw15929544558732308880:=Nat
def tw2995967942694068305:=Nat
def tw8546048412473793015:=Nat
def tw8316643514716341703:=Nat
def tw12512011242841266423:=Nat
def tw13807799049831159508:=Nat
def tw7110687690984440705:=Nat
def tw6312682578381490101:=Nat
def tw6149637751019565932:=Nat
def tw9869668294438282929:=Nat
def tw6969148540825169847:=Nat
def tw13835893173882367940:=Nat
def tw17696457443478844034:=Nat
def tw15129861428433136348:=Nat
def tw13221893650000682562:=Nat
def tw2367369005633889148:=Nat
def tw16872069380072196367:=Nat
def tw6898452094090579476:=Nat
def tw11979935147169145131:=Nat
def tw11068454344504808392:=Nat
def tw17984807539819146195:=Nat
def tw18030676014625097289:=Nat
def tw4357582755505729427:=Nat
def tw7235633207039844194:=Nat
def tw12149565918313477927:=Nat
def tw8910177263854906646:=Nat
def tw13061208575678890996:=Nat
def tw17462436844165498420:=Nat
def tw8099122231285344242:=Nat
def tw8455353382039668471:=Nat
def tw1565041259261852129:=Nat
def tw3307964709741959067:=Nat
def tw8076748283449521918:=Nat
def tw15206063128253612717:=Nat
def tw10953418317743453869:=Nat
def tw11760591020302492866:=Nat
def tw14202143763448484024:=Nat
def tw8510188944298304050:=Nat
def tw10947632153809271070:=Nat
def tw11028846927295433008:=Nat
def tw3598488373858508942:=Nat
def tw3922025420925400577:=Nat
def tw15901135527506016580:=Nat
def tw2498330567249965988:=Nat
def tw11637075433477100395:=Nat
def tw581040514703697057:=Nat
def tw8495218391168013634:=Nat
def tw12699224575471614208:=Nat
def tw3609494024314608173:=Nat
def tw8816548931088265366:=Nat
def tw7980118234343520164:=Nat
def tw1244054049622465647:=Nat
def tw2759419933428338565:=Nat
def tw1874905785999793743:=Nat
def tw15605831886116592366:=Nat
def tw15788309541408394673:=Nat
def tw17291486152737946225:=Nat
def tw101304354221699310:=Nat
def tw928525437550820407:=Nat
def tw12075827411252982226:=Nat
def tw7464607092504496520:=Nat
def tw8873219564606242862:=Nat
def tw13334318114145908087:=Nat
def tw680969360347535230:=Nat
def tw4729568581658816779:=Nat
def tw3090136845218149714:=Nat
def tw7507976185955482048:=Nat
def tw16523662856605312338:=Nat
def tw9595296477778108563:=Nat
def tw11208424027005097163:=Nat
def tw8513502895628425374:=Nat
def tw12145722398296603483:=Nat
def tw14490948600405679170:=Nat
def tw4969689174688167089:=Nat
def tw17338879107752510767:=Nat
def tw16932044338684647399:=Nat
def tw7546141318553592847:=Nat
def tw13470052157613071359:=Nat
def tw1027034465534700544:=Nat
def tw16857123562648388565:=Nat
def tw11291291178995688500:=Nat
def tw6921244551632168273:=Nat
def tw11025002136918783052:=Nat
def tw4395708569355878162:=Nat
def tw17262056918852685606:=Nat
def tw7420384371809863898:=Nat
def tw1052683115961175468:=Nat
def tw14992234588711345528:=Nat
def tw8741762384138384641:=Nat
def tw18192971156843698430:=Nat
def tw3281453204026618117:=Nat
def tw18086579740236189584:=Nat
def tw3766956213987142211:=Nat
def tw2289203571086559864:=Nat
def tw15643642825335799309:=Nat
def tw10621982327978309969:=Nat
def tw3468826100522401390:=Nat
def tw2832365197391824093:=Nat
def tw14323665270501038059:=Nat
def tw15964021039447794050:=Nat
def tw3689232274579278783:=Nat
def tw11376175890518830425:=Nat
def tw13271488643041572410:=Nat
def tw3351699225458770674:=Nat
def tw12707367147760357242:=Nat
def tw5305925114012496773:=Nat
def tw1731133265433104546:=Nat
def tw16119914455863639690:=Nat
def tw4977310529566185159:=Nat
def tw16804067657384647650:=Nat
def tw1024813813095133943:=Nat
def tw2397442039720497444:=Nat
def tw6474426393058608137:=Nat
def tw9970579696126553547:=Nat
def tw11770737738032339706:=Nat
def tw2427642271817517515:=Nat
def tw10674788737141590898:=Nat
def tw13660294401550026199:=Nat
def tw9597031079091107138:=Nat
def tw14610227777639592795:=Nat
def tw12147788907834939385:=Nat
def tw1936277010099590108:=Nat
def tw3255691772206928718:=Nat
def tw12283327402599684717:=Nat
def tw10971179605575442776:=Nat
def tw4131610880226365512:=Nat
def tw9769657056284029569:=Nat
def tw5158510385588304476:=Nat
def tw3117290701476234588:=Nat
def tw1428559030296216671:=Nat
def tw15709086534228996277:=Nat
def tw9992063799081657973:=Nat
def tw9229704169766250183:=Nat
def tw1129377327805213748:=Nat
def tw2707977531889802275:=Nat
def tw5483283235536828662:=Nat
def tw3808900132442584290:=Nat
def tw13835962871569210914:=Nat
def tw235312187573275002:=Nat
def tw16520220042805740332:=Nat
def tw2587515790769502323:=Nat
def tw11096550426187349358:=Nat
def tw2380289312826402673:=Nat
def tw14485295313531883685:=Nat
def tw1900091449275233998:=Nat
def tw16911907852688670378:=Nat
def tw9778030565434594331:=Nat
def tw12910902404278004847:=Nat
def tw8183975952103329612:=Nat
def tw15397682315071788261:=Nat
def tw7457741107820937537:=Nat
def tw13646233411347866137:=Nat
def tw3962776961359854536:=Nat
def tw11194994402193320536:=Nat
def tw316875664463029877:=Nat
def tw15737416676387635458:=Nat
def tw16433555185596212924:=Nat
def tw3676007358816649517:=Nat
def tw10108842364797436779:=Nat
def tw1082546010421296065:=Nat
def tw15202912739434896333:=Nat
def tw11581986914115543357:=Nat
def tw11973420035214556265:=Nat
def tw5633385734571682284:=Nat
def tw3158145723712823882:=Nat
def tw3788177608477130723:=Nat
def tw7597903079340318974:=Nat
def tw8742287844117264864:=Nat
def tw5073761414300669769:=Nat
def tw17164717155591924261:=Nat
def tw3377582640236408054:=Nat
def tw4202473375362731712:=Nat
def tw10860134199395083965:=Nat
def tw11153772277028432735:=Nat
def tw3023338772948438668:=Nat
def tw5294262853584450859:=Nat
def tw9664229496505510046:=Nat
def tw11068539770268923554:=Nat
def tw3058883957508224618:=Nat
def tw16179985593691188302:=Nat
def tw1268415194743793851:=Nat
def tw8229834058578213052:=Nat
def tw4569550911675539538:=Nat
def tw17030415892733636167:=Nat
def tw7113465984624637740:=Nat
def tw16540584410571148045:=Nat
def tw15288656184247382152:=Nat
def tw2184874366846205581:=Nat
def tw16187727325776646952:=Nat
def tw6184968830024438627:=Nat
def tw8023195473475417100:=Nat
def tw628208900562245913:=Nat
def tw14317665122343098456:=Nat
def tw6105237381951926001:=Nat
def tw16980085820114574012:=Nat
def tw13907269018076306563:=Nat
def tw13951986016955293067:=Nat
def tw11224032501868144978:=Nat
def tw361014147303618290:=Nat
def tw838848295267823087:=Nat
def tw10721367883608264251:=Nat
def tw7113349568775695127:=Nat
def tw12683778129860765591:=Nat
def tw13349220759974624491:=Nat
def tw12448516747776923542:=Nat
def tw3310175903876444432:=Nat
def tw13265562942157016474:=Nat
def tw11806570448468224972:=Nat
def tw7014111956489539322:=Nat
def tw16413250807538062534:=Nat
def tw15364240896955261663:=Nat
def tw10480581060899004554:=Nat
def tw5187735843752340209:=Nat
def tw671429746973415065:=Nat
def tw6730015085007095453:=Nat
def tw4811375656996966889:=Nat
def tw11816483718920821297:=Nat
def tw14875761024496614118:=Nat
def tw2530431024445346465:=Nat
def tw10141099312040281557:=Nat
def tw5975676258013311650:=Nat
def tw8871107924132784122:=Nat
def tw4469047874784334074:=Nat
def tw14201130014968533608:=Nat
def tw13300020228539847492:=Nat
def tw14068080202003137771:=Nat
def tw14531017511916815825:=Nat
def tw11518237368015320007:=Nat
def tw13571173834267658006:=Nat
def tw2535807953072269643:=Nat
def tw7176639421328154338:=Nat
def tw13047699498381323926:=Nat
def tw7834744787131869823:=Nat
def tw17626637373252602473:=Nat
def tw17712223870823798195:=Nat
def tw6050343244919059664:=Nat
def tw11586536564591272755:=Nat
def tw14090086034919106442:=Nat
def tw16135467329483346675:=Nat
def tw16462570074359630590:=Nat
def tw1749670057968618229:=Nat
def tw2751906041584640070:=Nat
def tw5989454675963066013:=Nat
def tw17585700621929556286:=Nat
def tw18257880198391115735:=Nat
def tw16985227483375915202:=Nat
def tw17298707675127866050:=Nat
def tw17355038618252176451:=Nat
def tw10626862121876282243:=Nat
def tw18041514570710947541:=Nat
def tw7233700233198389433:=Nat
def tw8559715137211766541:=Nat
def tw10672407369224165855:=Nat
def tw2371147915826947654:=Nat
def tw11467455236870300244:=Nat
def tw6326805193521653934:=Nat
def tw8225962888871514600:=Nat
def tw4444569636451923124:=Nat
def tw13587195293985510615:=Nat
def tw15995775860889236071:=Nat
def tw8831839840944086025:=Nat
def tw13673772716631582078:=Nat
def tw10505078890533218925:=Nat
def tw6883170015805344256:=Nat
def tw16264563031624157448:=Nat
def tw13540306107535563220:=Nat
def tw18415630743996780064:=Nat
def tw1303402728056872838:=Nat
def tw16756919153318560448:=Nat
def tw17946475141053634043:=Nat
def tw12598651839916365721:=Nat
def tw16413583444782317920:=Nat
def tw10505452728140786187:=Nat
def tw10339852498277534682:=Nat
def tw4215032979926509528:=Nat
def tw7921631958344724331:=Nat
def tw10935204720188432684:=Nat
def tw12958233032770238571:=Nat
def tw12226009746765531161:=Nat
def tw3213127240811022535:=Nat
def tw10056005023384757150:=Nat
def tw8926245897893070625:=Nat
def tw10960832433511076652:=Nat
def tw13538816282554056636:=Nat
def tw7035097126435139410:=Nat
def tw5083846519377955072:=Nat
def tw10808335373055472162:=Nat
def tw6335377017579848449:=Nat
def tw14904137021161687409:=Nat
def tw11911347939063733269:=Nat
end PySem.W.Fast
open PySem PySem.W PyProof.Rows
set_option maxRecDepth 100000 in
set_option maxHeartbeats 0 in
theorem PySem.Challenge.cw_nearnames_k52_seek_newest_holds : PySem.Challenge.rw_nearnames_k52_seek_newest.Holds := by
 w_on; o_law; k_head; (case hw=>w_witness2)
 k_fill
 refine NN.walk (l:=PySem.Challenge.rw_nearnames_k52_seek_newest) rfl rfl (fun w h Y=>PySem.W.km_in_of Y) (fun w h Y=>PySem.W.km_tabs_of Y) ?F
 case F =>
  intro w mg fa h KX G hmg
  refine' NN.all_mk KX G hmg ?aC0 ?pg0 ?hd0 ?po0 ?sa0 ?mk0 ?kc0 ?na0_0 ?na0_1 ?M0 ?M1 ?M2 ?M3 ?M4 ?aC1 ?pg1 ?hd1 ?po1 ?sa1 ?mk1 ?kc1 ?na1_0 ?na1_1 ?na1_2 ?na1_3 ?M5 ?M6 ?a7 ?i7 ?l7 ?ld7 ?e7 ?k7 ?M8 ?M9 ?M10 ?aC2 ?pg2 ?hd2 ?po2 ?sa2 ?mk2 ?kc2 ?M11 ?aC3 ?pg3 ?hd3 ?po3 ?sa3 ?mk3 ?kc3 ?na3_0 ?na3_1 ?na3_2 ?na3_3 ?na3_4 ?na3_5 ?M12 ?M13 ?M14 ?M15 ?M16 ?M17 ?M18 ?a19 ?i19 ?l19 ?ld19 ?e19 ?k19 ?M20 ?M21 ?M22 ?M23 ?M24 ?M25 ?a26 ?i26 ?l26 ?e26 ?k26 ?t26 ?r26 ?h26 ?n26 ?m26 ?a27 ?i27 ?l27 ?e27 ?k27 ?t27 ?r27 ?h27 ?n27 ?m27 ?M28 ?M29 ?M30 ?M31 ?M32 ?M33 ?a34 ?i34 ?l34 ?e34 ?k34 ?t34 ?r34 ?h34 ?n34 ?m34 ?M35 ?M36 ?M37 ?M38 ?cg0 ?cr0 ?cf0 ?ck0 ?aE0 ?xE0 ?aE1 ?xE1 ?aE2 ?xE2 ?aE3 ?xE3 ?aE4 ?xE4 ?a39 ?l39 ?e39 ?k39 ?t39 ?r39 ?h39 ?n39 ?m39 ?M40 ?M41 ?M42 ?M43 ?M44 ?M45 ?M46 ?M47 ?M48 ?M49 ?M50 ?M51 ?M52 ?M53 ?M54 ?M55 ?M56 ?M57 ?M58 ?M59 ?a60 ?l60 ?e60 ?k60 ?hne01 ?hne03 ?hne13 ?hne04 ?hne14 ?hne34 ?z0 ?z1 ?z2 ?z3 ?z4 ?z5 ?z6 ?z7 ?z8 ?z9 ?z10 ?z11 ?z12 ?z13 ?z14 ?z15
  (case aC0 | pg0 | hd0 | po0 | sa0 | mk0 | kc0 | na0_0 | na0_1 | aC1 | pg1 | hd1 | po1 | sa1 | mk1 | kc1 | na1_0 | na1_1 | na1_2 | na1_3 | a7 | i7 | l7 | ld7 | e7 | k7 | aC2 | pg2 | hd2 | po2 | sa2 | mk2 | kc2 | aC3 | pg3 | hd3 | po3 | sa3 | mk3 | kc3 | na3_0 | na3_1 | na3_2 | na3_3 | na3_4 | na3_5 | a19 | i19 | l19 | ld19 | e19 | k19 | a26 | i26 | l26 | e26 | k26 | t26 | a27 | i27 | l27 | e27 | k27 | t27 | a34 | i34 | l34 | e34 | k34 | t34 | cg0 | cr0 | cf0 | ck0 | aE0 | aE1 | aE2 | aE3 | aE4 | a39 | l39 | e39 | k39 | t39 | a60 | l60 | e60 | k60 | z0 | z1 | z2 | z3 | z4 | z5 | z6 | z7 | z8 | z9 | z10 | z11 | z12 | z13 | z14 | z15=>k_is)
  (case M0 | M1 | M2 | M3 | M4 | M5 | M6 | M8 | M9 | M10 | M11 | M12 | M13 | M14 | M15 | M16 | M17 | M18 | M20 | M21 | M22 | M23 | M24 | M25 | M28 | M29 | M30 | M31 | M32 | M33 | M35 | M36 | M37 | M38=>exact ⟨by k_is,by k_is,zh1 (by k_is) (by k_is) (by k_is)⟩)
  (case M40 | M41 | M42 | M43 | M44 | M45 | M46 | M47 | M48 | M49 | M50 | M51 | M52 | M53 | M54 | M55 | M56 | M57 | M58 | M59=>exact ⟨by k_is,zh1 (by k_is) (by k_is) (by k_is)⟩)
  (case r26 | r27 | r34 | r39=>exact rfl)
  (case h26 | n26 | h27 | n27 | h34 | n34 | h39 | n39=>kernel_rfl)
  (case m26 | m27 | m34 | m39 | hne01 | hne03 | hne13 | hne04 | hne14 | hne34=>decide)
  (case xE0 | xE1 | xE2 | xE3 | xE4=>k_exc)
#print axioms PySem.Challenge.cw_nearnames_k52_seek_newest_holds
