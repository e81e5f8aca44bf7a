import PyProof.Rows.All
import Wide.All
import OpenK.AllK
import Wide.FinOn
import Lean
import PyProof.EqAt
import PyProof.EqKinds
import PyProof.TupleCall
import PySem.Challenge.RW_nearnames_k43_look_round
set_option Elab.async false
set_option linter.all false
set_option maxRecDepth 100000
open List (map)
open List renaming length_map->d9,mem_singleton->fc,length_append->fe,mem_cons_of_mem->fg,mem_append_right->fh,mem_append->fj,mem_cons_self->fk,mem_of_getElem?->fm,size_toArray->fq,length_singleton->fu,mem_append_left->gb,length_take->gh,not_mem_nil->gi,take_length->gj,mem_cons->gl,map_append->gm,length_filter_le->gn,take_add_one->gq,mem_filter->gr,length_cons->gs,map_cons->gu,lookup_cons->gv,mem_filterMap->gx,mem_of_mem_take->gy,length_erase_of_mem->ie,filter_append->ig,take_of_length_le->ii,map_congr_left->ik,append_assoc->iq,pairwise_cons->ir,filterMap_cons->iy,all_eq_true->iz,getElem_mem->j4,append_nil->j6,nodup_cons->j7,filter_congr->j8,mem_range->jc,nodup_nil->je,nodup_append->jg,length_replicate->jh,range->ji,length_nil->jk,getElem_of_mem->jo,of_mem_zip->jq,range_succ->jr,replicate->jx,take_sublist->jy,length_range->jz,mem_map->kg,length_drop->ki,filter_cons->kj,length->km,any_cons->kq,countP_append->ky,map_map->l4,countP_cons->lu,forIn_cons->lx,nil_perm->m7,drop_zero->mf,map_nil->mi,all_cons->mk,map_take->nk,all_map->nr
open Nat (mod_lt)
open Nat renaming lt_of_lt_of_le->fi,ne_of_lt->gc,le_refl->gd,le_trans->gf,lt_of_le_of_lt->gz,le_of_lt->ia,zero_le->im,lt_irrefl->io,lt_succ_self->ip,lt_succ_of_lt->iw,le_of_ble_eq_true->ix,le_succ->j9,ne_of_gt->jj,div_eq_of_lt->jn,le_of_eq->kn,mul_le_mul->l9,lt_trans->lc,xor_self->lg,pow_pos->ll,div_eq_iff->lz,pow_succ->mn,not_lt->nq
open PySem.Heap renaming lt_size->fw,size_push->jp
open PySem.F renaming plainAttrs_list->ge,excBase_ValueError->jb,slot_dict_pop->ju,slot_list_remove->jv,type_list_remove->jw,plainAttrs_dict->k6,entry_dict_pop->lw,type_dict_pop->m8,slot_list_pop->m9,type_list_pop->ma
open Bool renaming and_eq_true->ic,eq_false_iff->jf,not_eq_true'->jm
open Int renaming toNat_natCast->ij,zero_add->mq,one_mul->n9
open PySem.Around renaming under_plainId->iu,frames_deeper->ku
open Array renaming length_toList->ja,toList_append->jt,getElem_toList->ke,toList_push->lr
open PySem.W (typeIn keq_eq keq_ne fnX)
open PySem.W renaming emptyDict->jd,kia_one->jl,callWith_K->k7,cellsFrom_some->kc,instObj->kf,kla_obj->kh,methodCall_KW->kr,fnMade->lh,plainGet_of->lm,codeHd_of_K->lq,methodObj->md,hideAll->mh,hideAll_get->mj,of_hideAll->mw,codeRec_of->mx,ked_eqvAll->my,lookIn->mz,tabObj->n5,kla_fn->n6,takerIn->n8,kitx_list->ng,kitx_dict->nh,handedIn->nj
open Option renaming isSome_iff_exists->js,isSome_map->ly,map_some->ml,getD_none->ni
open PySem.EqNone renaming eq_none_int->nu,eq_none_str->ny,eq_int_none->nz,eq_str_none->o3,ne_none_int->o4,ne_none_str->o6,ne_int_none->o7,ne_str_none->o8
namespace L2
open PySem PySem.Spec PyProof.Rows
theorem fT {p:Prop} (h:false=true):p:=absurd h Bool.false_ne_true
abbrev Key:=Sum Int Str
def zso:Key->Value->Bool
 | .inl k,v=>Value.isInt k v
 | .inr x,v=>Value.isStrOf x v
def z6n (w:World):Key->Int
 | .inl k=>hashInt k
 | .inr x=>hashStr w x
theorem zb2:∀ {k:Key} {v:Value},zso k v=true->(∃ i t,k=Sum.inl i/\v=Value.int i t)\/(∃ x t,k=Sum.inr x/\v=Value.str x t)
 | .inl i,v,h=>by
  obtain ⟨t,e⟩:=Value.isInt_shape (k:=i) (v:=v) h
  exact .inl ⟨i,t,rfl,e⟩
 | .inr x,v,h=>by
  obtain ⟨t,e⟩:=Value.isStrOf_shape (x:=x) (v:=v) h
  exact .inr ⟨x,t,rfl,e⟩
theorem zu4 (i:Int)(t:Tok):zso (.inl i) (.int i t)=true:=by simp [zso,Value.isInt]
theorem zuh (x:Str)(t:Tok):zso (.inr x) (.str x t)=true:=by simp [zso,Value.isStrOf]
theorem z4d (a b:Int):decide ((Sum.inl a:Key)=Sum.inl b)=(a == b):=by
 by_cases e:a=b
 ·subst e; simp
 ·have h:¬ (Sum.inl a:Key)=Sum.inl b:=fun q=>e (Sum.inl.inj q)
  rw [decide_eq_false h]
  exact (beq_eq_false_iff_ne.mpr e).symm
theorem z2g (a b:Str):decide ((Sum.inr a:Key)=Sum.inr b)=decide (a=b):=by
 by_cases e:a=b
 ·subst e; simp
 ·have h:¬ (Sum.inr a:Key)=Sum.inr b:=fun q=>e (Sum.inr.inj q)
  rw [decide_eq_false h,decide_eq_false e]
theorem z29 (a:Int)(b:Str):decide ((Sum.inl a:Key)=Sum.inr b)=false:=decide_eq_false (fun q=>nomatch q)
theorem z34 (a:Str)(b:Int):decide ((Sum.inr a:Key)=Sum.inl b)=false:=decide_eq_false (fun q=>nomatch q)
def zbp (prog:Program)(w:World):PySem.KeyKind prog w Key where
 is:=zso
 hash:=z6n w
 inj:=fun v a b ha hb=>by
  rcases zb2 ha with ⟨i,t,rfl,rfl⟩ | ⟨x,t,rfl,rfl⟩
  ·rcases zb2 hb with ⟨j,u,rfl,e⟩ | ⟨y,u,rfl,e⟩
   ·injection e with e1 _; rw [e1]
   ·exact nomatch e
  ·rcases zb2 hb with ⟨j,u,rfl,e⟩ | ⟨y,u,rfl,e⟩
   ·exact nomatch e
   ·injection e with e1 _; rw [e1]
 byValue:=fun k v h=>by
  rcases zb2 h with ⟨i,t,rfl,rfl⟩ | ⟨x,t,rfl,rfl⟩ <;> rfl
 pyHash:=fun hv h=>by
  rcases zb2 hv with ⟨i,t,rfl,rfl⟩ | ⟨x,t,rfl,rfl⟩
  ·exact wpAny_pyHash_int h
  ·exact wpAny_pyHash_str h
 eqBool:=fun hu hv h=>by
  rcases zb2 hu with ⟨i,t,rfl,rfl⟩ | ⟨x,t,rfl,rfl⟩
  ·rcases zb2 hv with ⟨j,u,rfl,rfl⟩ | ⟨y,u,rfl,rfl⟩
   ·rw [z4d] at h; exact wpAny_eqBool_int h
   ·rw [z29] at h; exact SeqAt.EqAt.int_str i t y u _ _ _ _ h
  ·rcases zb2 hv with ⟨j,u,rfl,rfl⟩ | ⟨y,u,rfl,rfl⟩
   ·rw [z34] at h; exact SeqAt.EqAt.str_int x t j u _ _ _ _ h
   ·rw [z2g] at h; exact wpAny_eqBool_str h
 «strs» :=fun k x t v h=>by
  rcases zb2 h with ⟨i,u,rfl,e⟩ | ⟨y,u,rfl,e⟩
  ·exact nomatch e
  ·injection e with e1 _
   subst e1
   cases v <;> rfl
theorem zpu (prog:Program)(w:World)(i:Int)(t:Tok):(zbp prog w).is (.inl i) (.int i t)=true:=zu4 i t
theorem zqn (prog:Program)(w:World)(x:Str)(t:Tok):(zbp prog w).is (.inr x) (.str x t)=true:=zuh x t
inductive V where
 | non | bl (b:Bool) | int (i:Int) | str (x:Str) | byt (b:Array UInt8) | flt (b:UInt64) | ref (a:Addr) | ty (n:String)
 deriving DecidableEq
def zcb:V->Value->Prop
 | .non,u=>u=Value.none
 | .bl b,u=>u=Value.bool b
 | .int i,u=>∃ t,u=Value.int i t
 | .str x,u=>∃ t,u=Value.str x t
 | .byt b,u=>∃ t,u=Value.bytes b t
 | .flt b,u=>∃ t,u=Value.float b t
 | .ref a,u=>u=Value.ref a
 | .ty n,u=>u=Value.type n
abbrev zb8:List V->List Value->Prop:=Paired zcb
theorem zb8.length {xs:List V}{us:List Value}(r:zb8 xs us):xs.length=us.length:=Paired.length r
theorem zb8.get:∀ {xs:List V} {us:List Value} {i:Nat} {x:V},zb8 xs us->xs[i]? = some x->∃ u,us[i]? = some u/\zcb x u
 | _,_,_,_,.nil,e=>by simp at e
 | _,_,0,_,.cons r _,e=>by simp at e; subst e; exact ⟨_,rfl,r⟩
 | _,_,i+1,x,.cons _ t,e=>by
  obtain ⟨u,h1,h2⟩:=zb8.get (i:=i) (x:=x) t (by simpa using e)
  exact ⟨u,by simpa using h1,h2⟩
theorem zb8.set {x:V}{u:Value}(r:zcb x u):∀ {xs:List V} {us:List Value} (i:Nat),zb8 xs us->zb8 (xs.set i x) (us.set i u)
 | _,_,_,.nil=> .nil
 | _,_,0,.cons _ t=> .cons r t
 | _,_,i+1,.cons q t=> .cons q (zb8.set r i t)
theorem zb8.append:∀ {xs ys:List V} {us ws:List Value},zb8 xs us->zb8 ys ws->zb8 (xs++ys) (us++ws)
 | _,_,_,_,.nil,s=>s
 | _,_,_,_,.cons r t,s=> .cons r (zb8.append t s)
theorem zb8.take:∀ {xs:List V} {us:List Value} (n:Nat),zb8 xs us->zb8 (xs.take n) (us.take n)
 | _,_,0,_=> .nil
 | _,_,_+1,.nil=> .nil
 | _,_,n+1,.cons r t=> .cons r (zb8.take n t)
theorem zb8.drop:∀ {xs:List V} {us:List Value} (n:Nat),zb8 xs us->zb8 (xs.drop n) (us.drop n)
 | _,_,0,r=>r
 | _,_,_+1,.nil=> .nil
 | _,_,n+1,.cons _ t=>zb8.drop n t
def zn1:Option V->Option Value->Prop
 | some v,some u=>zcb v u
 | none,none=>True
 | _,_=>False
def KV {κ:Type}:List (κ × V)->List (κ × Value)->Prop:=Paired fun (p:κ × V) (q:κ × Value)=>p.1=q.1/\zcb p.2 q.2
def kV:Key->V
 | .inl i=> .int i
 | .inr x=> .str x
inductive HO where
 | lst (xs:List V)
 | tup (xs:List V)
 | dK (kvs:List (Key × V)) | dT (kvs:List (List Key × V))
 | set (S:Int->Bool) (n:Nat)
 | ins (C dx:Addr) (fs:List (Str × V))
 | own (x:Addr)
 | xd (fs:List (Str × V))
 | met (f x:Addr)
 | rng (lo hi:Int)
 | frz (o:Obj) (u:HO)
 | tbl (ps:Array Value)
 | ext (φ:Heap->Prop)
end L2
set_option genInjectivity false
set_option genSizeOf false
namespace L2
open PySem PySem.Spec PyProof.Rows
abbrev Hp:=Addr->Option HO
def upd (H:Hp)(a:Addr)(o:HO):Hp:=fun b=>if b=a then some o else H b
theorem zad {H:Hp}{a:Addr}{o:HO}:upd H a o a=some o:=by unfold upd; rw [if_pos rfl]
theorem zac {H:Hp}{a b:Addr}{o:HO}(h:b≠a):upd H a o b=H b:=by unfold upd; rw [if_neg h]
theorem zdv {H:Hp}{a b:Addr}{o u:HO}(h:H a=some o)(h':H b=some u)(d:o≠u):a≠b:=by
 intro e; subst e; rw [h] at h'; exact d (Option.some.inj h')
theorem zag {H:Hp}{a b:Addr}{o:HO}(h:H a=some o)(h':H b=none):a≠b:=by
 intro e; subst e; rw [h] at h'; cases h'
section
variable (P:Program) (w:World)
def zcl (H:Hp)(h:Heap)(a:Addr):HO->Prop
 | .lst xs=>xs.length<=sizeLine/\∃ (its:List Value) (n:Nat),zb8 xs its/\h.get? a=some { cls:= .type "list",data:= .seq its.toArray n }
 | .tup xs=>xs.length<=sizeLine/\∃ its:List Value,zb8 xs its/\IsTup h a its.toArray
 | .dK kvs=>kvs.length<=sizeLine/\(a == sysModules)=false/\∃ vs,KV kvs vs/\h.DictOf (zbp P w) a vs
 | .dT kvs=>kvs.length<=sizeLine/\(a == sysModules)=false/\∃ xs:List (List Key × Addr × Value),
   Paired (fun (p:List Key × V) (q:List Key × Addr × Value)=>p.1=q.1/\H q.2.1=some (.tup (p.1.map kV))/\zcb p.2 q.2.2) kvs xs /\
   ∃ o es ep,h.get? a=some o/\o.ExactDict/\o.data = .dict es ep/\es.toList=xs.map (entryOfKey (tupleKind (zbp P w)))/\(xs.map (·.1)).Nodup
 | .set S n=>h.SetOf (intKind P w) a S n
 | .ins C dx fs=>H dx=some (.own a)/\fs.length<=1000/\dx≠a/\h.get? a=some (kf C dx) /\
   ∃ mA,h.Ns1 dx mA/\(∀ f,zn1 (fs.lookup f) (mA f))/\PySem.Within mA (fs.map (·.1))
 | .own _=>∃ o,h.get? a=some o
 | .xd fs=>∃ mA,h.Ns1 a mA/\∀ f,zn1 (fs.lookup f) (mA f)
 | .rng lo hi=>∃ t u v,h.get? a=some { cls:= .type "range",data:= .fields #[.int lo t,.int hi u,.int 1 v] }
 | .frz o u=>h.get? a=some o/\zcl H h a u
 | .tbl ps=>h.get? a=some { cls:= .none,data:= .fields ps }
 | .met f x=>h.get? a=some (md (.ref f) (.ref x))
 | .ext φ=>φ h/\(∃ o,h.get? a=some o)/\∀ h1 h2:Heap,φ h1->(∀ o,h1.get? a=some o->h2.get? a=some o)->φ h2
def HOk (H:Hp)(h:Heap):Prop:=∀ a o,H a=some o->zcl P w H h a o
end
section
variable {P:Program} {w:World} {H H':Hp} {h h':Heap} {a:Addr} {o:HO}
theorem zcl.lt (x:zcl P w H h a o):a<h.objs.size:=by
 cases o with
 | lst xs=>obtain ⟨_,_,_,_,e⟩:=x; exact fw e
 | tup xs=>obtain ⟨_,_,_,p⟩:=x; exact p.lt
 | dK kvs=>obtain ⟨_,_,_,_,o,_,_,e,_⟩:=x; exact fw e
 | dT kvs=>obtain ⟨_,_,_,_,o,_,_,e,_⟩:=x; exact fw e
 | set S n=>obtain ⟨o,_,_,_,e,_⟩:=x; exact fw e
 | ins C dx fs=>obtain ⟨_,_,_,e,_⟩:=x; exact fw e
 | own y=>obtain ⟨_,e⟩:=x; exact fw e
 | xd fs=>obtain ⟨_,⟨_,_,_,e,_⟩,_⟩:=x; exact fw e
 | rng lo hi=>obtain ⟨_,_,_,e⟩:=x; exact fw e
 | frz ob u=>obtain ⟨e,_⟩:=x; exact fw e
 | tbl ps=>exact fw (show h.get? a=some _ from x)
 | met f y=>exact fw (show h.get? a=some _ from x)
 | ext φ=>obtain ⟨_,⟨_,e⟩,_⟩:=x; exact fw e
theorem Paired.mapP {α β:Type}{F G:α->β->Prop}:∀ {l₁:List α} {l₂:List β},Paired F l₁ l₂->(∀ a b,F a b->G a b)->Paired G l₁ l₂
 | _,_,.nil,_=> .nil
 | _,_,.cons r t,f=> .cons (f _ _ r) (Paired.mapP t f)
theorem zcl.stay (x:zcl P w H h a o)(k:∀ b u,(b=a\/H b=some (.own a))->h.get? b=some u->h'.get? b=some u)
  (ho:∀ b,H b=some (.own a)->H' b=some (.own a))(ht:∀ b xs,H b=some (.tup xs)->H' b=some (.tup xs)):zcl P w H' h' a o:=by
 induction o with
 | lst xs=>obtain ⟨z,its,n,r,e⟩:=x; exact ⟨z,its,n,r,k _ _ (.inl rfl) e⟩
 | tup xs=>obtain ⟨z,its,r,ob,e,c⟩:=x; exact ⟨z,its,r,ob,k _ _ (.inl rfl) e,c⟩
 | dK kvs=>obtain ⟨z,y,vs,r,ob,es,ep,e,c⟩:=x; exact ⟨z,y,vs,r,ob,es,ep,k _ _ (.inl rfl) e,c⟩
 | dT kvs =>
  obtain ⟨z,y,xs,r,ob,es,ep,e,c⟩:=x
  exact ⟨z,y,xs,Paired.mapP r fun p q z=>⟨z.1,ht _ _ z.2.1,z.2.2⟩,ob,es,ep,k _ _ (.inl rfl) e,c⟩
 | set S n=>obtain ⟨ob,es,ep,t,e,c⟩:=x; exact ⟨ob,es,ep,t,k _ _ (.inl rfl) e,c⟩
 | ins C dx fs =>
  obtain ⟨d,z,ne,e,mA,⟨od,es,ep,e2,c⟩,r⟩:=x
  exact ⟨ho _ d,z,ne,k _ _ (.inl rfl) e,mA,⟨od,es,ep,k _ _ (.inr d) e2,c⟩,r⟩
 | own y=>obtain ⟨ob,e⟩:=x; exact ⟨ob,k _ _ (.inl rfl) e⟩
 | xd fs=>obtain ⟨mA,⟨od,es,ep,e,c⟩,r⟩:=x; exact ⟨mA,⟨od,es,ep,k _ _ (.inl rfl) e,c⟩,r⟩
 | rng lo hi=>obtain ⟨t,u,v,e⟩:=x; exact ⟨t,u,v,k _ _ (.inl rfl) e⟩
 | frz ob u ih=>obtain ⟨e,q⟩:=x; exact ⟨k _ _ (.inl rfl) e,ih q⟩
 | tbl ps =>
  have e:h.get? a=some { cls:= .none,data:= .fields ps }:=x
  show h'.get? a=some { cls:= .none,data:= .fields ps }
  exact k a _ (.inl rfl) e
 | met f y =>
  have e:h.get? a=some (md (.ref f) (.ref y)):=x
  show h'.get? a=some (md (.ref f) (.ref y))
  exact k a _ (.inl rfl) e
 | ext φ=>obtain ⟨p,⟨o,e⟩,st⟩:=x; exact ⟨st _ _ p fun o q=>k _ _ (.inl rfl) q,⟨o,k _ _ (.inl rfl) e⟩,st⟩
theorem HOk.lt (x:HOk P w H h)(e:H a=some o):a<h.objs.size:=(x a o e).lt
theorem HOk.fresh (x:HOk P w H h)(e:h.objs.size<=a):H a=none:=by
 cases q:H a with
 | none=>rfl
 | some u=>exact absurd (fi (x.lt q) e) (io _)
theorem HOk.kept (x:HOk P w H h)(k:∀ b u,h.get? b=some u->h'.get? b=some u):HOk P w H h':=fun a o e =>
 (x a o e).stay (fun b u _ q=>k b u q) (fun _ q=>q) fun _ _ q=>q
theorem HOk.laid (x:HOk P w H h)(k:∀ b u,h.get? b=some u->h'.get? b=some u)(hp:h.objs.size<=a)(new:zcl P w (upd H a o) h' a o):HOk P w (upd H a o) h':=fun b u e=>by
 have hn:=x.fresh hp
 by_cases hb:b=a
 ·subst hb; rw [zad] at e; cases e; exact new
 ·rw [zac hb] at e
  exact (x b u e).stay (fun c v _ q=>k c v q) (fun c q=>by rw [zac (zag q hn)]; exact q) fun c xs q=>by rw [zac (zag q hn)]; exact q
end
def Rd (H:Hp)(a:Addr)(u:HO):Prop:=H a=some u\/∃ o,H a=some (.frz o u)
theorem Rd.ok {P:Program}{w:World}{H:Hp}{h:Heap}{a:Addr}{u:HO}(r:Rd H a u)(x:HOk P w H h):zcl P w H h a u:=by
 rcases r with r | ⟨o,r⟩
 ·exact x a u r
 ·obtain ⟨_,q⟩:=x a _ r
  exact q
def Mut:Option HO->Prop
 | some (.lst _)=>True
 | some (.dK _)=>True
 | some (.dT _)=>True
 | some (.set _ _)=>True
 | some (.ins _ _ _)=>True
 | some (.ext _)=>True
 | _=>False
section
variable {P:Program} {w:World} {H:Hp} {h h':Heap} {x e:Addr} {o':HO}
theorem HOk.write (ok:HOk P w H h)(mu:Mut (H x))(he:e=x\/H e=some (.own x))(k:∀ b u,b≠e->h.get? b=some u->h'.get? b=some u)(heo:∃ u,h'.get? e=some u)
  (new:zcl P w (upd H x o') h' x o'):HOk P w (upd H x o') h':=fun b u q=>by
 have nown:∀ c y,H c=some (.own y)->c≠x:=fun c y r z=>by subst z; rw [r] at mu; exact mu
 have ntup:∀ c xs,H c=some (.tup xs)->c≠x:=fun c xs r z=>by subst z; rw [r] at mu; exact mu
 by_cases hb:b=x
 ·subst hb; rw [zad] at q; cases q; exact new
 ·rw [zac hb] at q
  by_cases hbe:b=e
  ·have q':H b=some (.own x):=by
    rcases he with z | z
    ·exact absurd (hbe.trans z) hb
    ·rw [hbe]; exact z
   rw [q] at q'; cases q'
   obtain ⟨v,hv⟩:=heo
   exact ⟨v,by rw [hbe]; exact hv⟩
  ·refine (ok b u q).stay (fun c v hc r=>k c v ?_ r) (fun c r=>by rw [zac (nown c b r)]; exact r) fun c xs r=>by rw [zac (ntup c xs r)]; exact r
   rcases hc with rfl | hc
   ·exact hbe
   ·rintro rfl
    rcases he with z | z
    ·exact nown c b hc z
    ·rw [hc] at z; cases z; exact hb rfl
end
structure Un (fs ex:List Addr)(H H':Hp)(h h':Heap):Prop where
 keep:∀ b o,h.get? b=some o->H b=none->b∉fs->b∉ex->h'.get? b=some o
 slot:∀ b o,h.get? b=some o->H b=none->b∈fs->b∉ex->∃ sl,h'.get? b=some { o with slots:=sl }
 free:∀ b o,h.get? b=some o->H b=none->b∉ex->H' b=none
 there:∀ b o,h.get? b=some o->b∉ex->∃ o',h'.get? b=some o'
 tups:∀ b xs,H b=some (.tup xs)->H' b=some (.tup xs)
 frzs:∀ b o u,H b=some (.frz o u)->H' b=some (.frz o u)
 tbls:∀ b ps,H b=some (.tbl ps)->∃ more,H' b=some (.tbl (ps++more))
section
variable {fs ex:List Addr} {H H1:Hp} {h h1 h':Heap} {a x e:Addr} {o:HO}
theorem Un.any (u:Un fs ex H H1 h h1){b:Addr}{ob:Obj}(q:h.get? b=some ob)(n:H b=none)(hx:b∉ex):∃ sl,h1.get? b=some { ob with slots:=sl }:=by
 by_cases hb:b∈fs
 ·exact u.slot b ob q n hb hx
 ·exact ⟨ob.slots,u.keep b ob q n hb hx⟩
theorem Un.kept (k:∀ b u,h.get? b=some u->h'.get? b=some u):Un fs ex H H h h' :=
 ⟨fun b ob q _ _ _=>k b ob q,fun b ob q _ _ _=>⟨ob.slots,k b ob q⟩,fun _ _ _ n _=>n,fun b ob q _=>⟨ob,k b ob q⟩,fun _ _ q=>q,fun _ _ _ q=>q,fun _ ps q=>⟨#[],by rw [q]; simp⟩⟩
theorem Un.refl:Un fs ex H H h h:=Un.kept fun _ _ q=>q
theorem Un.laid (k:∀ b u,h.get? b=some u->h'.get? b=some u)(hp:h.objs.size<=a)(hn:H a=none):Un fs ex H (upd H a o) h h' where
 keep:=fun b u q _ _ _=>k b u q
 slot:=fun b u q _ _ _=>⟨u.slots,k b u q⟩
 free:=fun b u q n _=>by rw [zac (gc (fi (fw q) hp))]; exact n
 there:=fun b u q _=>⟨u,k b u q⟩
 tups:=fun b xs q=>by rw [zac (zag q hn)]; exact q
 frzs:=fun b u xs q=>by rw [zac (zag q hn)]; exact q
 tbls:=fun b ps q=>⟨#[],by rw [zac (zag q hn),q]; simp⟩
theorem Un.write (mu:Mut (H x))(he:e=x\/H e=some (.own x))(k:∀ b u,b≠e->h.get? b=some u->h'.get? b=some u)(heo:∃ u,h'.get? e=some u):Un fs ex H (upd H x o) h h':=by
 have hx:∀ b,H b=none->b≠x:=fun b n z=>by subst z; rw [n] at mu; exact mu
 have hb:∀ b,H b=none->b≠e:=fun b n z=>by
  subst z
  rcases he with r | r
  ·exact hx b n r
  ·rw [n] at r; cases r
 have hm:∀ b u,H b=some u->¬ Mut (some u)->b≠x:=fun b u q nm z=>by subst z; rw [q] at mu; exact nm mu
 refine ⟨fun b u q n _ _=>k b u (hb b n) q,fun b u q n _ _=>⟨u.slots,k b u (hb b n) q⟩,fun b u q n _=>by rw [zac (hx b n)]; exact n,fun b u q _=>?_,
  fun b xs q=>by rw [zac (hm b _ q fun z=>z)]; exact q,fun b u xs q=>by rw [zac (hm b _ q fun z=>z)]; exact q,fun b ps q=>⟨#[],by rw [zac (hm b _ q fun z=>z),q]; simp⟩⟩
 by_cases a:b=e
 ·subst a; exact heo
 ·exact ⟨u,k b u a q⟩
end
def trk (h:Heap)(H:Hp):List Addr:=(ji h.objs.size).filter fun a=>(H a).isSome
def zwm (h:Heap)(H:Hp):Heap:=mh h (trk h H)
theorem zui (h:Heap)(H:Hp):(zwm h H).objs.size=h.objs.size:=PySem.W.hideAll_size _ _
theorem zyc {h:Heap}{H:Hp}{b:Addr}{o:Obj}(e:h.get? b=some o)(n:H b=none):(zwm h H).get? b=some o :=
 mj _ e fun hm=>by
  have q:(H b).isSome=true:=(gr.mp hm).2
  rw [n] at q; simp at q
theorem zz3 {h:Heap}{H:Hp}{b:Addr}{o:Obj}(e:(zwm h H).get? b=some o):h.get? b=some o/\H b=none:=by
 have e':h.get? b=some o:=mw (trk h H) e
 refine ⟨e',?_⟩
 cases q:H b with
 | none=>rfl
 | some x =>
  have hm:b∈trk h H:=gr.mpr ⟨jc.mpr (fw e'),by simp [q]⟩
  have z:(zwm h H).get? b=none:=PySem.W.hideAll_none (trk h H) hm
  rw [z] at e; cases e
structure Mod (K:W.Frag)(mg:Str->Option Value)(base:Heap):Prop where
 kin:K.In base
 glob:base.Ns mainGlobals mg
 blt:∃ mb,base.Ns builtinsNs mb/\∀ x:Str,x≠ "__name__" ->mb x=bootBuiltins x
 nolimit:base.NoLimit
structure Cx where
 prog:Program
 w:World
 K:W.Frag
 mg:Str->Option Value
 base:Heap
 A:Around
 N:List Str
 s₀:Shared
 H₀:Hp
 env:Env
 outer:List Env
 stack:List Env
 ex:List Addr
 fn:Str->Bool
 calm:Bool
 pn:List (Addr × Obj)
 xe:Value->Shared->Prop
def frs (l:List Env):List Addr:=l.filterMap (·.frame)
abbrev Cx.fs (X:Cx):List Addr:=frs X.outer
def Vis (sc:Scope)(x:Str):Prop:=sc.names.lookup x=some .local\/sc.names.lookup x=some .cell\/sc.names.lookup x=some .free
def Loc (sc:Scope)(x:Str):Prop:=sc.names.lookup x=some .local\/sc.names.lookup x=some .cell
def z5g (env:Env)(h:Heap)(m:Str->Option Value)(x:Str)(u:Value):Prop :=
 (env.kindOf x=some .local/\m x=some u)\/((env.kindOf x=some .cell\/env.kindOf x=some .free)/\∃ c,env.cells.lookup x=some c/\h.IsCell c (some u))
structure Cx.Ok (X:Cx):Prop where
 mod:Mod X.K X.mg X.base
 kind:X.env.scope.kind = .function
 glob:X.env.globals=mainGlobals
 blt:X.env.builtins=builtinsNs
 above:X.s₀.heap.objs.size<=X.env.locals
 inj:∀ x y c,X.env.cells.lookup x=some c->X.env.cells.lookup y=some c->x=y
 has:∀ x,(X.env.kindOf x=some .cell\/X.env.kindOf x=some .free)->∃ c,X.env.cells.lookup x=some c
 cab:∀ x c,X.fn x=true->X.env.cells.lookup x=some c->X.s₀.heap.objs.size<=c
 hd:X.calm=true->X.A.handled=none
 frames:X.A.frames=some X.stack
 stk:X.stack=X.outer\/(X.stack=X.env :: X.outer/\X.env.frame=some X.env.locals)
 exf:∀ b∈X.ex,b≠X.env.locals/\∀ x c,X.env.cells.lookup x=some c->c≠b
 bs:∀ b o,X.base.get? b=some o->X.s₀.heap.get? b=some o/\X.H₀ b=none
 bsz:X.base.objs.size<=X.s₀.heap.objs.size
 noex:∀ b o,X.base.get? b=some o->b∉X.ex
 exfs:∀ b∈X.ex,b∉X.fs
 funs:X.s₀.heap.FunFrames X.base X.outer
 frf:∀ b∈X.fs,X.H₀ b=none
structure Inv (X:Cx)(pins:List (Addr × Obj))(σ:List (Option V))(H:Hp)(s:Shared):Prop where
 ok:X.Ok
 os:s.os=X.s₀.os
 bare:AllBare s.gens
 base:Un X.fs X.ex X.H₀ H X.s₀.heap s.heap
 loc:∃ m,s.heap.Ns X.env.locals m/\∀ (i:Nat) (x:Str) (v:V),X.N[i]? = some x->σ[i]? = some (some v)->Vis X.env.scope x->∃ u,zcb v u/\z5g X.env s.heap m x u
 cell:∀ x c,X.env.cells.lookup x=some c->∃ v,s.heap.IsCell c v
 free:H X.env.locals=none
 freeC:∀ x c,X.env.cells.lookup x=some c->(X.fn x=true->H c=none)/\(H c=none\/∃ o u,H c=some (.frz o u))
 pin:∀ p∈X.pn++pins,s.heap.get? p.1=some p.2/\H p.1=none/\p.1≠X.env.locals/\p.1∉X.fs/\∀ v,p.2.data≠ .cell v
 hok:HOk X.prog X.w H s.heap
 len:σ.length=X.N.length
section
variable {X:Cx} {pins:List (Addr × Obj)} {σ:List (Option V)} {H H':Hp} {s:Shared} {h':Heap}
theorem Cx.Ok.nofr (ok:X.Ok){b:Addr}{o:Obj}(e:X.base.get? b=some o):b∉X.fs:=fun hb=>by
 have:=(ok.funs.mem hb).1
 rw [e] at this; cases this
theorem Inv.bs (I:Inv X pins σ H s):∀ b o,X.base.get? b=some o->s.heap.get? b=some o/\H b=none:=fun b o e =>
 ⟨I.base.keep b o (I.ok.bs b o e).1 (I.ok.bs b o e).2 (I.ok.nofr e) (I.ok.noex b o e),I.base.free b o (I.ok.bs b o e).1 (I.ok.bs b o e).2 (I.ok.noex b o e)⟩
theorem Inv.bk (I:Inv X pins σ H s):∀ b o,X.base.get? b=some o->s.heap.get? b=some o:=fun b o e=>(I.bs b o e).1
theorem Inv.mod (I:Inv X pins σ H s):Mod X.K X.mg X.base:=I.ok.mod
theorem Inv.kIn (I:Inv X pins σ H s):X.K.In s.heap:=I.ok.mod.kin.keeps I.bk
theorem Inv.lt (I:Inv X pins σ H s):X.env.locals<s.heap.objs.size:=let ⟨_,hn,_⟩:=I.loc; hn.lt
theorem Inv.sz (I:Inv X pins σ H s):X.s₀.heap.objs.size<=s.heap.objs.size:=gf I.ok.above (ia I.lt)
theorem Inv.nofs (I:Inv X pins σ H s){a:Addr}(h:s.heap.objs.size<=a):a∉X.fs:=fun hb=>by
 obtain ⟨_,o,ho,_⟩:=I.ok.funs.mem hb
 exact absurd (fi (fw ho) (gf I.sz h)) (io _)
theorem Inv.cne (I:Inv X pins σ H s):∀ x c,X.env.cells.lookup x=some c->c≠X.env.locals:=fun x c e z=>by
 obtain ⟨v,o,ho,hd⟩:=I.cell x c e
 obtain ⟨m,⟨o',es,ep,ho',hd',_⟩,_⟩:=I.loc
 rw [z,ho'] at ho; cases ho; rw [hd'] at hd; cases hd
theorem Inv.funs (I:Inv X pins σ H s):s.heap.FunFrames X.base X.outer:=by
 have all:∀ (l:List Env),(∀ b∈frs l,b∈X.fs)->X.s₀.heap.FunFrames X.base l->s.heap.FunFrames X.base l:=by
  intro l
  induction l with
  | nil=>intro _ _; trivial
  | cons env r ih =>
   intro hs hl
   obtain ⟨hk,⟨L,o,hf,hn,ho,hd⟩,hr⟩:=hl
   have hL:L∈X.fs:=hs L (by unfold frs; rw [iy,hf]; exact fk)
   obtain ⟨sl,e⟩:=I.base.slot L o ho (I.ok.frf L hL) hL fun z=>I.ok.exfs L z hL
   exact ⟨hk,⟨L,_,hf,hn,e,hd⟩,ih (fun b hb=>hs b (by unfold frs; rw [iy,hf]; exact fg _ hb)) hr⟩
 exact all X.outer (fun _ hb=>hb) I.ok.funs
theorem Inv.stack (I:Inv X pins σ H s):s.heap.FunFrames X.base X.stack:=by
 rcases I.ok.stk with e | ⟨e,hf⟩
 ·rw [e]; exact I.funs
 ·rw [e]
  obtain ⟨m,hn,_⟩:=I.loc
  refine .cons (by rw [I.ok.kind]; decide) hf hn ?_ I.funs
  exact Heap.get?_none_of_le (gf I.ok.bsz I.ok.above)
theorem Inv.stkSub (I:Inv X pins σ H s):∀ b∈frs X.stack,b∈X.env.locals :: X.fs:=fun b hb=>by
 rcases I.ok.stk with e | ⟨e,hf⟩
 ·rw [e] at hb; exact fg _ hb
 ·rw [e] at hb
  unfold frs at hb
  rw [iy,hf] at hb
  exact hb
theorem Inv.stkFree (I:Inv X pins σ H s):∀ b∈frs X.stack,H b=none:=fun b hb=>by
 rcases gl.mp (I.stkSub b hb) with e | hb
 ·rw [e]; exact I.free
 ·obtain ⟨_,o,ho,_⟩:=I.ok.funs.mem hb
  exact I.base.free b o ho (I.ok.frf b hb) fun z=>I.ok.exfs b z hb
theorem Inv.step {g':Array GenState}{t':Nat}{d':Drawn}{ch:List Addr}(I:Inv X pins σ H s)
  (hch:∀ b∈ch,(b∈X.ex\/X.s₀.heap.objs.size<=b)/\b≠X.env.locals/\(∀ x c,X.env.cells.lookup x=some c->c≠b)/\∀ p∈X.pn++pins,p.1≠b)
  (keep:∀ b o,b≠X.env.locals->b∉X.fs->b∉ch->s.heap.get? b=some o->H b=none->h'.get? b=some o)
  (slot:∀ b o,b≠X.env.locals->b∈X.fs->b∉ch->s.heap.get? b=some o->H b=none->∃ sl,h'.get? b=some { o with slots:=sl })(free:∀ b o,b∉ch->s.heap.get? b=some o->H b=none->H' b=none)
  (there:∀ b o,b∉ch->s.heap.get? b=some o->∃ o',h'.get? b=some o')
  (tups:∀ b xs,H b=some (.tup xs)->H' b=some (.tup xs))(frzs:∀ b o u,H b=some (.frz o u)->H' b=some (.frz o u))(tbls:∀ b ps,H b=some (.tbl ps)->∃ more,H' b=some (.tbl (ps++more)))
  (ns:∀ m,s.heap.Ns X.env.locals m->h'.Ns X.env.locals m)(hok:HOk X.prog X.w H' h')(hg:AllBare g') :
  Inv X pins σ H' { s with heap:=h',gens:=g',drawn:=d',toks:=t' }:=by
 have h:∀ b o,X.s₀.heap.get? b=some o->b≠X.env.locals:=fun b o e=>gc (fi (fw e) I.ok.above)
 have g:∀ b o,X.s₀.heap.get? b=some o->b∉X.ex->b∉ch:=fun b o e hx hb=>by
  rcases (hch b hb).1 with z | z
  ·exact hx z
  ·exact absurd (fi (fw e) z) (io _)
 have a:∀ x c,X.env.cells.lookup x=some c->∀ v,s.heap.IsCell c v->h'.IsCell c v:=fun x c e v ⟨o,ho,hd⟩=>by
  have f:c∉ch:=fun z=>(hch c z).2.2.1 x c e rfl
  rcases (I.freeC x c e).2 with fr | ⟨oz,uz,fz⟩
  ·by_cases hc:c∈X.fs
   ·obtain ⟨sl,q⟩:=slot c o (I.cne x c e) hc f ho fr
    exact ⟨_,q,hd⟩
   ·exact ⟨o,keep c o (I.cne x c e) hc f ho fr,hd⟩
  ·obtain ⟨z1,_⟩:=I.hok c _ fz
   obtain ⟨z2,_⟩:=hok c _ (frzs c oz uz fz)
   rw [ho] at z1
   cases z1
   exact ⟨o,z2,hd⟩
 refine ⟨I.ok,I.os,hg,⟨fun b o e n hb hx=>?_,fun b o e n hb hx=>?_,fun b o e n hx=>?_,fun b o e hx=>?_,fun b xs e=>tups b xs (I.base.tups b xs e),fun b o xs e=>frzs b o xs (I.base.frzs b o xs e),fun b ps e=>?_⟩,?_,fun x c e=>?_,?_,fun x c e=>?_,fun p hp=>?_,hok,I.len⟩
 ·exact keep b o (h b o e) hb (g b o e hx) (I.base.keep b o e n hb hx) (I.base.free b o e n hx)
 ·obtain ⟨sl,e1⟩:=I.base.slot b o e n hb hx
  obtain ⟨j,e2⟩:=slot b _ (h b o e) hb (g b o e hx) e1 (I.base.free b o e n hx)
  exact ⟨j,e2⟩
 ·obtain ⟨o',e1⟩:=I.base.there b o e hx
  exact free b o' (g b o e hx) e1 (I.base.free b o e n hx)
 ·obtain ⟨o',e1⟩:=I.base.there b o e hx
  exact there b o' (g b o e hx) e1
 ·obtain ⟨m1,e1⟩:=I.base.tbls b ps e
  obtain ⟨m2,e2⟩:=tbls b _ e1
  exact ⟨m1++m2,by rw [e2,Array.append_assoc]⟩
 ·obtain ⟨m,hn,hl⟩:=I.loc
  refine ⟨m,ns m hn,fun i x v e1 e2 e3=>?_⟩
  obtain ⟨u,r,l⟩:=hl i x v e1 e2 e3
  refine ⟨u,r,?_⟩
  rcases l with l | ⟨k,c,e,z⟩
  ·exact .inl l
  ·exact .inr ⟨k,c,e,a x c e _ z⟩
 ·obtain ⟨v,z⟩:=I.cell x c e
  exact ⟨v,a x c e v z⟩
 ·obtain ⟨m,⟨o,_,_,ho,_⟩,_⟩:=I.loc
  exact free _ o (fun z=>(hch _ z).2.1 rfl) ho I.free
 ·obtain ⟨v,o,ho,hd⟩:=I.cell x c e
  refine ⟨fun q=>free c o (fun z=>(hch c z).2.2.1 x c e rfl) ho ((I.freeC x c e).1 q),?_⟩
  rcases (I.freeC x c e).2 with fr | ⟨oz,uz,fz⟩
  ·exact .inl (free c o (fun z=>(hch c z).2.2.1 x c e rfl) ho fr)
  ·exact .inr ⟨oz,uz,frzs c oz uz fz⟩
 ·obtain ⟨e,n,ne,nf,d⟩:=I.pin p hp
  have f:p.1∉ch:=fun z=>(hch p.1 z).2.2.2 p hp rfl
  exact ⟨keep p.1 p.2 ne nf f e n,free p.1 p.2 f e n,ne,nf,d⟩
theorem Inv.un {t':Nat}(I:Inv X pins σ H s)(u:Un X.fs [] H H' s.heap h')(hok:HOk X.prog X.w H' h'):Inv X pins σ H' { s with heap:=h',toks:=t' }:=by
 obtain ⟨m,⟨o,es,ep,ho,r⟩,_⟩:=id I.loc
 obtain ⟨sl,hL⟩:=u.any ho I.free (by simp)
 exact I.step (g':=s.gens) (d':=s.drawn) (ch:=[]) (fun _ z=>nomatch z) (fun b o _ hb _ e n=>u.keep b o e n hb (by simp)) (fun b o _ hb _ e n=>u.slot b o e n hb (by simp)) (fun b o _ e n=>u.free b o e n (by simp)) (fun b o _ e=>u.there b o e (by simp)) u.tups u.frzs u.tbls (fun m' hm=>by
  obtain ⟨o',c,d,a,r'⟩:=hm
  rw [ho] at a; cases a
  exact ⟨_,c,d,hL,r'⟩) hok I.bare
theorem Inv.call {g':Array GenState}{t':Nat}{d':Drawn}{ch:List Addr}(I:Inv X pins σ H s)(u:Un (frs X.stack) ch H H' s.heap h')(hok:HOk X.prog X.w H' h')(hg:AllBare g')
  (hch:∀ b∈ch,(b∈X.ex\/X.s₀.heap.objs.size<=b)/\b≠X.env.locals/\(∀ x c,X.env.cells.lookup x=some c->c≠b)/\∀ p∈X.pn++pins,p.1≠b) :
  Inv X pins σ H' { s with heap:=h',gens:=g',drawn:=d',toks:=t' }:=by
 obtain ⟨m,⟨o,es,ep,ho,r⟩,_⟩:=id I.loc
 obtain ⟨sl,hL⟩:=u.any ho I.free fun z=>(hch _ z).2.1 rfl
 exact I.step (ch:=ch) hch (fun b o hL hb hc e n=>u.keep b o e n (fun z=>(gl.mp (I.stkSub b z)).elim hL hb) hc) (fun b o _ _ hc e n=>u.any e n hc) (fun b o hc e n=>u.free b o e n hc) (fun b o hc e=>u.there b o e hc) u.tups u.frzs u.tbls (fun m' hm=>by
  obtain ⟨o',d,f,a,r'⟩:=hm
  rw [ho] at a; cases a
  exact ⟨_,d,f,hL,r'⟩) hok hg
theorem Inv.turned {t':Nat}{it:Addr}(I:Inv X pins σ H s)(k:∀ b o,b≠it->s.heap.get? b=some o->h'.get? b=some o)(hn:H it=none)(hL:it≠X.env.locals)
  (h1:it∈X.ex\/X.s₀.heap.objs.size<=it)(h2:∀ x c,X.env.cells.lookup x=some c->c≠it)(h3:∀ p∈X.pn++pins,p.1≠it):Inv X pins σ H { s with heap:=h',toks:=t' }:=by
 have a:∀ b u,H b=some u->b≠it:=fun b u e z=>by rw [z,hn] at e; cases e
 refine I.step (g':=s.gens) (d':=s.drawn) (ch:=[it]) (fun b hb=>?_) (fun b o _ _ hc e _=>k b o (fun z=>hc (by simp [z])) e) (fun b o _ _ hc e _=>⟨o.slots,k b o (fun z=>hc (by simp [z])) e⟩) (fun _ _ _ _ n=>n)
  (fun b o hc e=>⟨o,k b o (fun z=>hc (by simp [z])) e⟩) (fun _ _ e=>e) (fun _ _ _ e=>e) (fun b ps e=>⟨#[],by rw [e]; simp⟩) (fun m hm=>?_) (fun b u e=>?_) I.bare
 ·have e:b=it:=by simpa using hb
  subst e
  exact ⟨h1,hL,h2,h3⟩
 ·obtain ⟨o,es,ep,ho,r⟩:=hm
  exact ⟨o,es,ep,k _ o (Ne.symm hL) ho,r⟩
 ·refine (I.hok b u e).stay (fun c v hc q=>k c v ?_ q) (fun _ q=>q) fun _ _ q=>q
  rcases hc with z | z
  ·rw [z]; exact a b u e
  ·exact a c _ z
theorem Inv.tok (I:Inv X pins σ H s)(t:Nat):Inv X pins σ H { s with toks:=t }:=I.un (h':=s.heap) (t':=t) Un.refl I.hok
theorem Inv.kept {t':Nat}(I:Inv X pins σ H s)(k:∀ b u,s.heap.get? b=some u->h'.get? b=some u):Inv X pins σ H { s with heap:=h',toks:=t' }:=I.un (Un.kept k) (I.hok.kept k)
theorem Inv.laid {a:Addr}{o:HO}{t':Nat}(I:Inv X pins σ H s)(k:∀ b u,s.heap.get? b=some u->h'.get? b=some u)(hp:s.heap.objs.size<=a)(new:zcl X.prog X.w (upd H a o) h' a o) :
  Inv X pins σ (upd H a o) { s with heap:=h',toks:=t' }:=I.un (Un.laid k hp (I.hok.fresh hp)) (I.hok.laid k hp new)
theorem Inv.write {x e:Addr}{o:HO}{t':Nat}(I:Inv X pins σ H s)(mu:Mut (H x))(he:e=x\/H e=some (.own x))(k:∀ b u,b≠e->s.heap.get? b=some u->h'.get? b=some u)(heo:∃ u,h'.get? e=some u)
  (new:zcl X.prog X.w (upd H x o) h' x o):Inv X pins σ (upd H x o) { s with heap:=h',toks:=t' }:=I.un (Un.write mu he k heo) (I.hok.write mu he k heo new)
theorem Inv.pins_of {pins':List (Addr × Obj)}(I:Inv X pins σ H s)(h:∀ p∈pins',s.heap.get? p.1=some p.2/\H p.1=none/\p.1≠X.env.locals/\p.1∉X.fs/\∀ v,p.2.data≠ .cell v):Inv X pins' σ H s :=
 ⟨I.ok,I.os,I.bare,I.base,I.loc,I.cell,I.free,I.freeC,fun p hp=>(fj.mp hp).elim (fun z=>I.pin p (gb _ z)) (h p),I.hok,I.len⟩
theorem zka {N:List Str}(hN:N.Nodup){i j:Nat}{x:Str}(a:N[i]? = some x)(b:N[j]? = some x):i=j:=by
 obtain ⟨h1,e1⟩:=List.getElem?_eq_some_iff.mp a
 obtain ⟨h2,e2⟩:=List.getElem?_eq_some_iff.mp b
 exact (List.getElem_inj hN).mp (e1.trans e2.symm)
theorem zuf {M:Model}{A:Around}{E:Value->Shared->Prop}{i:Nat}{x:Str}{v:V}{u:Value}{Q:Unit->Shared->Prop}(I:Inv X pins σ H s)(hN:X.N.Nodup)(hi:X.N[i]? = some x)(hx:Loc X.env.scope x)(r:zcb v u)
  (h:∀ s',Inv X pins (σ.set i (some v)) H s'->(∃ a,Heap.SameBut a s.heap s'.heap/\(a=X.env.locals\/X.env.cells.lookup x=some a))->Q () s')(hf:X.fn x=true\/X.env.scope.names.lookup x=some .local:=by first | exact .inl rfl | exact .inr rfl | assumption):wpAny M A (storeName X.env x u) Q E s:=by
 obtain ⟨m,hn,hl⟩:=id I.loc
 have aa:(X.env.scope.kind == .class || (X.env.scope.kind == .module && X.env.locals != X.env.globals))=false:=by rw [I.ok.kind]; rfl
 have t:i<σ.length:=by rw [I.len]; exact (List.getElem?_eq_some_iff.mp hi).1
 have cne:=I.cne
 have f:∀ {a:Addr} {h':Heap},(∃ o,s.heap.get? a=some o/\H a=none)->Heap.SameBut a s.heap h'->HOk X.prog X.w H h':=fun {a h'} ha hs b ob e=>by
  obtain ⟨_,_,g⟩:=ha
  refine (I.hok b ob e).stay (fun c w' hc q=>(hs.2 c ?_).trans q) (fun _ q=>q) fun _ _ q=>q
  rintro rfl
  rcases hc with rfl | hc
  ·rw [g] at e; cases e
  ·rw [g] at hc; cases hc
 rcases hx with hk | hk
 ·refine wpAny_storeName_local hk hn (fun h' ag hs=>?_) aa
  obtain ⟨oL,_,_,af,_⟩:=id hn
  refine h _ ⟨I.ok,I.os,I.bare,⟨fun b o e n hb hx=>?_,fun b o e n hb hx=>?_,I.base.free,fun b o e hx=>?_,I.base.tups,I.base.frzs,I.base.tbls⟩,⟨_,ag,fun j y v' e1 e2 e3=>?_⟩,fun y c e=>?_,I.free,I.freeC,fun p hp=>?_,f ⟨oL,af,I.free⟩ hs,by simpa using I.len⟩ ⟨_,hs,.inl rfl⟩
  ·exact (hs.2 b (gc (fi (fw e) I.ok.above))).trans (I.base.keep b o e n hb hx)
  ·obtain ⟨sl,e1⟩:=I.base.slot b o e n hb hx
   exact ⟨sl,(hs.2 b (gc (fi (fw e) I.ok.above))).trans e1⟩
  ·obtain ⟨o',e1⟩:=I.base.there b o e hx
   exact ⟨o',(hs.2 b (gc (fi (fw e) I.ok.above))).trans e1⟩
  ·by_cases hj:j=i
   ·subst hj
    rw [hi] at e1; cases e1
    rw [List.getElem?_set_self t] at e2
    cases e2
    exact ⟨u,r,.inl ⟨hk,by simp⟩⟩
   ·rw [List.getElem?_set_ne (Ne.symm hj)] at e2
    obtain ⟨u',r',q⟩:=hl j y v' e1 e2 e3
    refine ⟨u',r',?_⟩
    rcases q with ⟨k,e⟩ | ⟨k,c,e,z⟩
    ·refine .inl ⟨k,?_⟩
     have:y≠x:=fun e=>hj (zka hN e1 (e ▸ hi))
     simp [this,e]
    ·exact .inr ⟨k,c,e,z.sameBut hs (cne y c e)⟩
  ·obtain ⟨w',z⟩:=I.cell y c e
   exact ⟨w',z.sameBut hs (cne y c e)⟩
  ·obtain ⟨e,n,ne,nf,d⟩:=I.pin p hp
   exact ⟨(hs.2 p.1 ne).trans e,n,ne,nf,d⟩
 ·have l:X.fn x=true:=by
   rcases hf with z | z
   ·exact z
   ·rw [z] at hk; cases hk
  obtain ⟨c,hc⟩:=I.ok.has x (.inl hk)
  obtain ⟨w',z⟩:=I.cell x c hc
  refine wpAny_storeName_cell I.ok.kind hk hc z (fun h' ac hs=>?_)
  obtain ⟨oc,ad,ab⟩:=id z
  refine h { s with heap:=h' } ⟨I.ok,I.os,I.bare,⟨fun b o e n hb hx=>?_,fun b o e n hb hx=>?_,I.base.free,fun b o e hx=>?_,I.base.tups,I.base.frzs,I.base.tbls⟩,⟨m,hn.sameBut hs (Ne.symm (cne x c hc)),fun j y v' e1 e2 e3=>?_⟩,fun y c' e=>?_,I.free,I.freeC,fun p hp=>?_,f ⟨oc,ad,(I.freeC x c hc).1 l⟩ hs,by simpa using I.len⟩ ⟨c,hs,.inr hc⟩
  ·exact (hs.2 b (gc (fi (fw e) (I.ok.cab x c l hc)))).trans (I.base.keep b o e n hb hx)
  ·obtain ⟨sl,e1⟩:=I.base.slot b o e n hb hx
   exact ⟨sl,(hs.2 b (gc (fi (fw e) (I.ok.cab x c l hc)))).trans e1⟩
  ·obtain ⟨o',e1⟩:=I.base.there b o e hx
   exact ⟨o',(hs.2 b (gc (fi (fw e) (I.ok.cab x c l hc)))).trans e1⟩
  ·by_cases hj:j=i
   ·subst hj
    rw [hi] at e1; cases e1
    rw [List.getElem?_set_self t] at e2
    cases e2
    exact ⟨u,r,.inr ⟨.inl hk,c,hc,ac⟩⟩
   ·rw [List.getElem?_set_ne (Ne.symm hj)] at e2
    obtain ⟨u',r',q⟩:=hl j y v' e1 e2 e3
    refine ⟨u',r',?_⟩
    rcases q with q | ⟨k,c',e,z'⟩
    ·exact .inl q
    ·refine .inr ⟨k,c',e,z'.sameBut hs ?_⟩
     rintro rfl
     exact hj (zka hN e1 (I.ok.inj _ _ _ e hc ▸ hi))
  ·by_cases ae:c'=c
   ·subst ae; exact ⟨_,ac⟩
   ·obtain ⟨w2,z2⟩:=I.cell y c' e
    exact ⟨w2,z2.sameBut hs ae⟩
  ·obtain ⟨e,n,ne,nf,d⟩:=I.pin p hp
   refine ⟨(hs.2 p.1 ?_).trans e,n,ne,nf,d⟩
   intro q
   rw [q,ad] at e
   have q':oc=p.2:=Option.some.inj e
   exact d w' (by rw [<- q']; exact ab)
theorem zfu {M:Model}{A:Around}{E:Value->Shared->Prop}{i:Nat}{x:Str}{v:V}{u:Value}{Q:Unit->Shared->Prop}(I:Inv X pins σ H s)(hN:X.N.Nodup)(hi:X.N[i]? = some x)(hx:Loc X.env.scope x)(r:zcb v u)
  (h:∀ s',Inv X pins (σ.set i (some v)) H s'->Q () s')(hf:X.fn x=true\/X.env.scope.names.lookup x=some .local:=by first | exact .inl rfl | exact .inr rfl | assumption):wpAny M A (storeName X.env x u) Q E s :=
 zuf I hN hi hx r (fun s' I' _=>h s' I') hf
theorem Inv.call' {s':Shared}{ch:List Addr}(I:Inv X pins σ H s)(ho:s'.os=s.os)(u:Un (frs X.stack) ch H H' s.heap s'.heap)(hok:HOk X.prog X.w H' s'.heap)(hg:AllBare s'.gens)
  (hch:∀ b∈ch,(b∈X.ex\/X.s₀.heap.objs.size<=b)/\b≠X.env.locals/\(∀ x c,X.env.cells.lookup x=some c->c≠b)/\∀ p∈X.pn++pins,p.1≠b):Inv X pins σ H' s':=by
 obtain ⟨h',g',d',t',o'⟩:=s'
 have e:o'=s.os:=ho
 subst e
 exact I.call (g':=g') (t':=t') (d':=d') u hok hg hch
end
abbrev XK:=Value->Option Addr->Hp->Prop
abbrev St:=List (Option V)
abbrev VK:=V->Hp->Prop
abbrev TE:=St->Hp->VK->Prop
abbrev TT:=St->Hp->(Bool->Hp->Prop)->Prop
abbrev TA:=St->Hp->(List V->Hp->Prop)->Prop
structure zuc where
 nx:St->Hp->Prop
 rt:VK
 bk:St->Hp->Prop:=fun _ _=>False
 ct:St->Hp->Prop:=fun _ _=>False
abbrev TS:=zuc->St->Hp->Prop
def EP (X:Cx)(pins:List (Addr × Obj))(σ:St)(Q:VK)(u:Value)(s':Shared):Prop:=∃ v H',Inv X pins σ H' s'/\zcb v u/\Q v H'
def TP (X:Cx)(pins:List (Addr × Obj))(σ:St)(Q:Bool->Hp->Prop)(b:Bool)(s':Shared):Prop:=∃ H',Inv X pins σ H' s'/\Q b H'
def AP (X:Cx)(pins:List (Addr × Obj))(σ:St)(Q:List V->Hp->Prop)(us:List Value)(s':Shared):Prop:=∃ vs H',Inv X pins σ H' s'/\zb8 vs us/\Q vs H'
def SP (X:Cx)(pins:List (Addr × Obj))(D:zuc)(f:Flow)(s':Shared):Prop :=
 match f with
 | .next=>∃ σ' H',Inv X pins σ' H' s'/\D.nx σ' H'
 | .brk=>∃ σ' H',Inv X pins σ' H' s'/\D.bk σ' H'
 | .cont=>∃ σ' H',Inv X pins σ' H' s'/\D.ct σ' H'
 | .ret u=>∃ v σ' H',Inv X pins σ' H' s'/\zcb v u/\D.rt v H'
def PE (X:Cx)(e:Expr)(t:TE):Prop :=
 ∀ (pins:List (Addr × Obj)) (s:Shared) (σ:St) (H:Hp) (Q:VK),Inv X pins σ H s->t σ H Q->wpAny (model X.prog X.w) X.A (eval e X.env) (EP X pins σ Q) X.xe s
def PT (X:Cx)(e:Expr)(t:TT):Prop :=
 ∀ (pins:List (Addr × Obj)) (s:Shared) (σ:St) (H:Hp) (Q:Bool->Hp->Prop),Inv X pins σ H s->t σ H Q->wpAny (model X.prog X.w) X.A (isTrue e X.env (eval e X.env)) (TP X pins σ Q) X.xe s
def PW (X:Cx)(e:Expr)(t:TT):Prop :=
 ∀ (whole:Sem Value) (pins:List (Addr × Obj)) (s:Shared) (σ:St) (H:Hp) (Q:Bool->Hp->Prop),Inv X pins σ H s->t σ H Q->wpAny (model X.prog X.w) X.A (isTrue e X.env whole) (TP X pins σ Q) X.xe s
theorem PW.pt {X:Cx}{e:Expr}{t:TT}(h:PW X e t):PT X e t:=h _
def PA (X:Cx)(es:List Expr)(t:TA):Prop :=
 ∀ (pos:Pos) (pins:List (Addr × Obj)) (s:Shared) (σ:St) (H:Hp) (Q:List V->Hp->Prop),Inv X pins σ H s->t σ H Q->wpAny (model X.prog X.w) X.A (spliced (backTo pos (starEach es X.env))) (AP X pins σ Q) X.xe s
def PS (X:Cx)(st:Stmt)(t:TS):Prop :=
 ∀ (pins:List (Addr × Obj)) (s:Shared) (σ:St) (H:Hp) (D:zuc),Inv X pins σ H s->t D σ H->wpAny (model X.prog X.w) X.A (exec st X.env) (SP X pins D) X.xe s
def PSs (X:Cx)(st:List Stmt)(t:TS):Prop :=
 ∀ (pins:List (Addr × Obj)) (s:Shared) (σ:St) (H:Hp) (D:zuc),Inv X pins σ H s->t D σ H->wpAny (model X.prog X.w) X.A (execs st X.env) (SP X pins D) X.xe s
theorem thn {α:Type}{t:Sem α}{Q Q':α->Shared->Prop}{M:Model}{A:Around}{E:Value->Shared->Prop}{s:Shared}(h:wpAny M A t Q E s)(hQ:∀ a s,Q a s->Q' a s):wpAny M A t Q' E s:=wpAny_mono h hQ fun _ _ x=>x
section
variable {X:Cx}
def zxk (i:Nat):TE:=fun σ H Q=>∃ v,σ[i]? = some (some v)/\Q v H
def tC (v:V):TE:=fun _ H Q=>Q v H
theorem z2z {i:Nat}{x:Str}{pos:Pos}(hN:X.N[i]? = some x)(hv:Vis X.env.scope x)(hd:(x == ("__debug__" : Str))=false:=by decide)(hcd:(x == ("__classdict__" : Str))=false:=by decide):PE X (.Name x pos) (zxk i):=by
 intro pins s σ H Q I h
 obtain ⟨v,e,h⟩:=h
 obtain ⟨m,hn,hl⟩:=I.loc
 obtain ⟨u,r,l⟩:=hl i x v hN e hv
 have b:EP X pins σ Q u s:=⟨v,H,I,r,h⟩
 rcases l with ⟨hk,hm⟩ | ⟨hk,c,hc,a⟩
 ·exact wpAny_Name (wpAny_loadName_local I.ok.kind hk hn hm b) hd
 ·rcases hk with hk | hk
  ·exact wpAny_Name (wpAny_loadName_cell I.ok.kind hk hc a b) hd
  ·exact wpAny_Name (wpAny_loadName_free I.ok.kind hk hc a b hcd) hd
theorem zak {i j pos}:PE X (.Constant (.int i) j pos) (tC (.int i)):=fun _ _ _ H _ I h=>wpAny_Constant_int ⟨.int i,H,I.tok _,⟨_,rfl⟩,h⟩
theorem zfw {b j pos}:PE X (.Constant (.bool b) j pos) (tC (.bl b)):=fun _ _ _ H _ I h=>Constant_bool ⟨.bl b,H,I,rfl,h⟩
theorem zdn {j pos}:PE X (.Constant .none j pos) (tC .non):=fun _ _ _ H _ I h=>Constant_none ⟨.non,H,I,rfl,h⟩
theorem zd0 {x j pos}:PE X (.Constant (.str x) j pos) (tC (.str x)):=fun _ _ _ H _ I h=>Calls.Constant_str ⟨.str x,H,I.tok _,⟨_,rfl⟩,h⟩
def Gl (X:Cx)(x:Str):Prop:=X.env.kindOf x=some .globalImplicit
theorem zis {E:Value->Shared->Prop}{pins:List (Addr × Obj)}{s:Shared}{σ:St}{H:Hp}{x:Str}{u:Value}{pos:Pos}{Q:Value->Shared->Prop}(I:Inv X pins σ H s)(hg:Gl X x)(hm:X.mg x=some u)(h:Q u s)
  (hd:(x == ("__debug__" : Str))=false:=by decide):wpAny (model X.prog X.w) X.A (eval (.Name x pos) X.env) Q E s :=
 Calls.Name_function_global I.ok.kind hg (Calls.loadGlobal_global (by rw [I.ok.glob]; exact I.mod.glob.keeps I.bk) hm h) hd
theorem zmo {E:Value->Shared->Prop}{pins:List (Addr × Obj)}{s:Shared}{σ:St}{H:Hp}{x:Str}{u:Value}{pos:Pos}{Q:Value->Shared->Prop}(I:Inv X pins σ H s)(hg:Gl X x)(hm:X.mg x=none)(hv:bootBuiltins x=some u)(h:Q u s)
  (hn:x≠ "__name__" :=by decide)(hd:(x == ("__debug__" : Str))=false:=by decide):wpAny (model X.prog X.w) X.A (eval (.Name x pos) X.env) Q E s:=by
 obtain ⟨mb,h1,h2⟩:=I.mod.blt
 exact Calls.Name_function_global I.ok.kind hg (Calls.loadGlobal_builtin (by rw [I.ok.glob]; exact I.mod.glob.keeps I.bk) hm (by rw [I.ok.blt]; exact h1.keeps I.bk) ((h2 x hn).trans hv) h) hd
theorem zhn {x:Str}{v:V}{u:Value}{pos:Pos}(hg:Gl X x)(hm:X.mg x=some u)(r:zcb v u)(hd:(x == ("__debug__" : Str))=false:=by decide):PE X (.Name x pos) (tC v) :=
 fun _ _ _ H _ I h=>zis I hg hm ⟨v,H,I,r,h⟩ hd
theorem z0j {x:Str}{v:V}{u:Value}{pos:Pos}(hg:Gl X x)(hm:X.mg x=none)(hv:bootBuiltins x=some u)(r:zcb v u)(hn:x≠ "__name__" :=by decide)(hd:(x == ("__debug__" : Str))=false:=by decide):PE X (.Name x pos) (tC v) :=
 fun _ _ _ H _ I h=>zmo I hg hm hv ⟨v,H,I,r,h⟩ hn hd
variable {a b:Expr} {ta tb:TE} {pos:Pos}
def PC (X:Cx)(op:CmpOp)(a b:Expr)(t:TE):Prop :=
 ∀ (pins:List (Addr × Obj)) (s:Shared) (σ:St) (H:Hp) (Q:VK),Inv X pins σ H s->t σ H Q ->
  wpAny (model X.prog X.w) X.A (eval a X.env) (fun v s₁=>wpAny (model X.prog X.w) X.A (eval b X.env) (fun u s₂=>wpAny (model X.prog X.w) X.A (compareOp op v u) (EP X pins σ Q) X.xe s₂) X.xe s₁) X.xe s
def tB (t:TE):TT:=fun σ H Q=>t σ H fun x H1=>∃ c,x = .bl c/\Q c H1
theorem zzh {op:CmpOp}{t:TE}(h:PC X op a b t)(h1:behindInMarks op b=false:=by first | exact nobehind _ (by decide) (by decide) | rfl):PE X (.Compare a [op] [b] pos) t:=fun pins s σ H Q I hw=>wpAny_Compare1 (h pins s σ H Q I hw) h1
theorem z3b {op:CmpOp}{t:TE}(h:PC X op a b t)(h1:behindInMarks op b=false:=by first | exact nobehind _ (by decide) (by decide) | rfl):PT X (.Compare a [op] [b] pos) (tB t):=by
 intro pins s σ H Q I hw
 refine wpAny_isTrue_Compare1 (thn (h pins s σ H _ I hw) fun v s1 h1=>thn h1 fun u s2 h2=>thn h2 fun c s3 ⟨x,H1,I1,r1,q1⟩=>?_) h1
 obtain ⟨d,rfl,q⟩:=q1
 cases r1
 exact wpAny_truthy_bool ⟨H1,I1,q⟩
theorem zb_ {e:Expr}{t:TE}(h:PE X e t)(he:∀ whole,isTrue e X.env whole=(do let v <- whole; standAt e.pos; holding [v] (truthy v)):=by intro _; rfl):PT X e (tB t):=by
 intro pins s σ H Q I hw
 refine isTrue_plain (thn (h pins s σ H _ I hw) fun v s1 ⟨x,H1,I1,r1,q1⟩=>?_) (he _)
 obtain ⟨d,rfl,q⟩:=q1
 cases r1
 exact wpAny_truthy_bool ⟨H1,I1,q⟩
variable {tA tB':TT} {rest:List Expr}
def z6f (t u:TT):TT:=fun σ H Q=>t σ H fun c H1=>if c=true then u σ H1 Q else Q false H1
def tOr (t u:TT):TT:=fun σ H Q=>t σ H fun c H1=>if c=true then Q true H1 else u σ H1 Q
def z6p (t:TT):TT:=fun σ H Q=>t σ H fun c H1=>Q (!c) H1
theorem zfz (ha:PT X a tA):PW X (.BoolOp .And [a] pos) tA:=by
 intro wh pins s σ H Q I h
 refine isTrue_and (thn (ha pins s σ H Q I h) fun c s1 e=>?_)
 cases c with
 | true=>exact isTrue_and_nil e
 | false=>exact e
theorem zpq (ha:PT X a tA):PW X (.BoolOp .Or [a] pos) tA:=by
 intro wh pins s σ H Q I h
 refine isTrue_or (thn (ha pins s σ H Q I h) fun c s1 e=>?_)
 cases c with
 | false=>exact isTrue_or_nil e
 | true=>exact e
theorem zgx (ha:PT X a tA)(hb:PW X (.BoolOp .And (b :: rest) pos) tB'):PW X (.BoolOp .And (a :: b :: rest) pos) (z6f tA tB'):=by
 intro wh pins s σ H Q I h
 refine isTrue_and (thn (ha pins s σ H _ I h) fun c s1 ⟨H1,I1,q1⟩=>?_)
 cases c with
 | true=>exact hb wh pins s1 σ H1 Q I1 q1
 | false=>exact ⟨H1,I1,q1⟩
theorem zse (ha:PT X a tA)(hb:PW X (.BoolOp .Or (b :: rest) pos) tB'):PW X (.BoolOp .Or (a :: b :: rest) pos) (tOr tA tB'):=by
 intro wh pins s σ H Q I h
 refine isTrue_or (thn (ha pins s σ H _ I h) fun c s1 ⟨H1,I1,q1⟩=>?_)
 cases c with
 | true=>exact ⟨H1,I1,q1⟩
 | false=>exact hb wh pins s1 σ H1 Q I1 q1
theorem zd3 (ha:PT X a tA):PT X (.UnaryOp .Not a pos) (z6p tA):=by
 intro pins s σ H Q I h
 exact isTrue_not (ha pins s σ H (fun c H1=>Q (!c) H1) I h)
def z46 (ta tb:TE):TE:=fun σ H Q=>ta σ H fun x H1=>∃ c,x = .bl c/\if c=true then tb σ H1 Q else Q (.bl false) H1
def z6h (ta tb:TE):TE:=fun σ H Q=>ta σ H fun x H1=>∃ c,x = .bl c/\if c=true then Q (.bl true) H1 else tb σ H1 Q
def z5j (ta:TE):TE:=fun σ H Q=>ta σ H fun x H1=>∃ c,x = .bl c/\Q (.bl (!c)) H1
theorem zjr {op}{t:TE}(h:PE X a t):PE X (.BoolOp op [a] pos) t:=fun pins s σ H Q I hw=>BoolOp_one (h pins s σ H Q I hw)
theorem zjp (ha:PE X a ta)(hb:PE X (.BoolOp .And (b :: rest) pos) tb):PE X (.BoolOp .And (a :: b :: rest) pos) (z46 ta tb):=by
 intro pins s σ H Q I h
 refine BoolOp_and (thn (ha pins s σ H _ I h) fun v s1 ⟨x,H1,I1,r1,q1⟩=>?_)
 obtain ⟨c,rfl,q1⟩:=q1
 cases r1
 refine wpAny_truthy_bool ?_
 cases c with
 | true=>exact hb pins s1 σ H1 Q I1 q1
 | false=>exact ⟨.bl false,H1,I1,rfl,q1⟩
theorem z4o (ha:PE X a ta)(hb:PE X (.BoolOp .Or (b :: rest) pos) tb):PE X (.BoolOp .Or (a :: b :: rest) pos) (z6h ta tb):=by
 intro pins s σ H Q I h
 refine BoolOp_or (thn (ha pins s σ H _ I h) fun v s1 ⟨x,H1,I1,r1,q1⟩=>?_)
 obtain ⟨c,rfl,q1⟩:=q1
 cases r1
 refine wpAny_truthy_bool ?_
 cases c with
 | false=>exact hb pins s1 σ H1 Q I1 q1
 | true=>exact ⟨.bl true,H1,I1,rfl,q1⟩
theorem zy6 (ha:PE X a ta):PE X (.UnaryOp .Not a pos) (z5j ta):=by
 intro pins s σ H Q I h
 refine UnaryOp_ (thn (ha pins s σ H _ I h) fun v s1 ⟨x,H1,I1,r1,q1⟩=>?_)
 obtain ⟨c,rfl,q1⟩:=q1
 cases r1
 exact not_of (wpAny_truthy_bool ⟨.bl (!c),H1,I1,rfl,q1⟩)
def tIf (t:TT)(ta tb:TE):TE:=fun σ H Q=>t σ H fun c H1=>if c=true then ta σ H1 Q else tb σ H1 Q
theorem zj4 {c:Expr}(hc:PT X c tA)(ha:PE X a ta)(hb:PE X b tb):PE X (.IfExp c a b pos) (tIf tA ta tb):=by
 intro pins s σ H Q I h
 refine wpAny_IfExp (thn (hc pins s σ H _ I h) fun d s1 ⟨H1,I1,q1⟩=>?_)
 cases d with
 | true=>exact ha pins s1 σ H1 Q I1 q1
 | false=>exact hb pins s1 σ H1 Q I1 q1
end
def SqL (K:W.Frag)(H:Hp)(a:Addr)(xs:List V):Prop :=
 Rd H a (.lst xs) \/
  ∃ (o:Obj) (its:Array Value) (n:Nat),K.lookup a=some o/\o.cls = .type "list" /\o.dict=none/\o.data = .seq its n/\its.size<=sizeLine/\zb8 xs its.toList
def SqT (K:W.Frag)(H:Hp)(a:Addr)(xs:List V):Prop :=
 Rd H a (.tup xs) \/
  ∃ (o:Obj) (its:Array Value) (n:Nat),K.lookup a=some o/\o.cls = .type "tuple" /\o.data = .seq its n/\its.size<=sizeLine/\zb8 xs its.toList
def z6i:Value->Option V
 | .none=>some .non
 | .bool b=>some (.bl b)
 | .int i _=>some (.int i)
 | .str x _=>some (.str x)
 | .bytes b _=>some (.byt b)
 | .float b _=>some (.flt b)
 | .ref a=>some (.ref a)
 | .type n=>some (.ty n)
 | _=>none
theorem zcb.abs {x:V}{u:Value}(r:zcb x u):z6i u=some x:=by
 cases x with
 | non=>cases r; rfl
 | bl _=>cases r; rfl
 | int _=>obtain ⟨t,rfl⟩:=r; rfl
 | str _=>obtain ⟨t,rfl⟩:=r; rfl
 | byt _=>obtain ⟨t,rfl⟩:=r; rfl
 | flt _=>obtain ⟨t,rfl⟩:=r; rfl
 | ref _=>cases r; rfl
 | ty _=>cases r; rfl
theorem zcb.inj {x y:V}{u:Value}(r:zcb x u)(q:zcb y u):x=y:=Option.some.inj (r.abs.symm.trans q.abs)
theorem zb8.inj:∀ {xs ys:List V} {us:List Value},zb8 xs us->zb8 ys us->xs=ys
 | _,_,_,.nil,.nil=>rfl
 | _,_,_,.cons r t,.cons r' t'=>by rw [r.inj r',zb8.inj t t']
section
variable {X:Cx} {pins:List (Addr × Obj)} {σ:St} {H:Hp} {s:Shared} {a:Addr} {xs ys:List V}
theorem SqL.of {K:W.Frag}(h:H a=some (.lst xs)):SqL K H a xs:= .inl (.inl h)
theorem SqT.of {K:W.Frag}(h:H a=some (.tup xs)):SqT K H a xs:= .inl (.inl h)
theorem Inv.list (I:Inv X pins σ H s)(h:SqL X.K H a xs):∃ its:List Value,zb8 xs its/\PlainL s.heap a its.toArray/\xs.length<=sizeLine:=by
 rcases h with h | ⟨o,its,n,hk,hc,hd,hs,hz,r⟩
 ·obtain ⟨z,its,n,r,e⟩:=h.ok I.hok
  exact ⟨its,r,⟨_,n,e,rfl,rfl,rfl⟩,z⟩
 ·refine ⟨its.toList,r,⟨o,n,I.kIn a o hk,hc,hd,by simpa using hs⟩,?_⟩
  have e:=r.length
  simp only [ja] at e
  omega
theorem Inv.tuple (I:Inv X pins σ H s)(h:SqT X.K H a xs):∃ its:List Value,zb8 xs its/\IsTup s.heap a its.toArray/\xs.length<=sizeLine:=by
 rcases h with h | ⟨o,its,n,hk,hc,hs,hz,r⟩
 ·obtain ⟨z,its,r,p⟩:=h.ok I.hok
  exact ⟨its,r,p,z⟩
 ·refine ⟨its.toList,r,⟨o,I.kIn a o hk,hc,n,by simpa using hs⟩,?_⟩
  have e:=r.length
  simp only [ja] at e
  omega
theorem Inv.list_inj (I:Inv X pins σ H s)(h:SqL X.K H a xs)(h':SqL X.K H a ys):xs=ys:=by
 obtain ⟨its,r,⟨o,n,e,_,_,d⟩,_⟩:=I.list h
 obtain ⟨its',r',⟨o',n',e',_,_,d'⟩,_⟩:=I.list h'
 rw [e] at e'; cases e'
 rw [d] at d'
 injection d' with d1 _
 have:its=its':=by simpa using congrArg Array.toList d1
 subst this
 exact r.inj r'
end
abbrev Cx.wish (X:Cx)(E:Value->Shared->Prop):Cx:={ X with xe:=E }
abbrev Cx.nox (X:Cx):Cx:=X.wish fun _ _=>False
theorem Cx.Ok.wish {X:Cx}(ok:X.Ok)(E:Value->Shared->Prop):(X.wish E).Ok :=
 ⟨ok.mod,ok.kind,ok.glob,ok.blt,ok.above,ok.inj,ok.has,ok.cab,ok.hd,ok.frames,ok.stk,ok.exf,ok.bs,ok.bsz,ok.noex,ok.exfs,ok.funs,ok.frf⟩
theorem Cx.Ok.unwish {X:Cx}{E:Value->Shared->Prop}(ok:(X.wish E).Ok):X.Ok :=
 ⟨ok.mod,ok.kind,ok.glob,ok.blt,ok.above,ok.inj,ok.has,ok.cab,ok.hd,ok.frames,ok.stk,ok.exf,ok.bs,ok.bsz,ok.noex,ok.exfs,ok.funs,ok.frf⟩
section
variable {X:Cx} {pins:List (Addr × Obj)} {σ:St} {H:Hp} {s:Shared} {E:Value->Shared->Prop}
theorem Inv.wish (I:Inv X pins σ H s)(E:Value->Shared->Prop):Inv (X.wish E) pins σ H s:=⟨I.ok.wish E,I.os,I.bare,I.base,I.loc,I.cell,I.free,I.freeC,I.pin,I.hok,I.len⟩
theorem Inv.unwish (I:Inv (X.wish E) pins σ H s):Inv X pins σ H s:=⟨I.ok.unwish,I.os,I.bare,I.base,I.loc,I.cell,I.free,I.freeC,I.pin,I.hok,I.len⟩
theorem SP.unwish {D:zuc}{f:Flow}{s':Shared}(h:SP (X.wish E) pins D f s'):SP X pins D f s':=by
 cases f with
 | next=>obtain ⟨σ',H',I,q⟩:=h; exact ⟨σ',H',I.unwish,q⟩
 | brk=>obtain ⟨σ',H',I,q⟩:=h; exact ⟨σ',H',I.unwish,q⟩
 | cont=>obtain ⟨σ',H',I,q⟩:=h; exact ⟨σ',H',I.unwish,q⟩
 | ret u=>obtain ⟨v,σ',H',I,r,q⟩:=h; exact ⟨v,σ',H',I.unwish,r,q⟩
theorem PSs.nox {st:List Stmt}{t:TS}(h:PSs X.nox st t):PSs X st t:=fun pins s σ H D I hw =>
 wpAny_mono (h pins s σ H D (I.wish _) hw) (fun _ _ q=>q.unwish) fun _ _ z=>False.elim z
end
section
variable {X:Cx} {st:Stmt} {rest:List Stmt} {t u:TS} {e:Expr} {te:TE} {pos:Pos}
def z26:TS:=fun D σ H=>D.nx σ H
def z4n (t u:TS):TS:=fun D σ H=>t { D with nx:=u D } σ H
theorem za6:PSs X [] z26:=fun _ _ σ H _ I h=>wpAny_execs_nil ⟨σ,H,I,h⟩
theorem zae (h1:PS X st t)(h2:PSs X rest u):PSs X (st :: rest) (z4n t u):=by
 intro pins s σ H D I h
 refine wpAny_execs_cons (thn (h1 pins s σ H { D with nx:=u D } I h) fun f s1 q=>?_)
 cases f with
 | next =>
  obtain ⟨σ',H',I',q⟩:=q
  exact h2 pins s1 σ' H' D I' q
 | ret v=>exact q
 | brk=>exact q
 | cont=>exact q
theorem zaf (h1:PS X st t):PSs X [st] t:=by
 intro pins s σ H D I h
 refine wpAny_execs_cons (thn (h1 pins s σ H D I h) fun f s1 q=>?_)
 cases f with
 | next=>exact wpAny_execs_nil q
 | ret v=>exact q
 | brk=>exact q
 | cont=>exact q
theorem zus:PS X (.Pass pos) z26:=fun _ _ σ H _ I h=>wpAny_Pass ⟨σ,H,I,h⟩
theorem Inv.quiet {pins:List (Addr × Obj)}{σ:St}{H:Hp}{s:Shared}(I:Inv X pins σ H s):interactive X.env=false:=by simp [interactive,I.ok.kind]
def z42 (te:TE):TS:=fun D σ H=>te σ H fun _ H1=>D.nx σ H1
theorem zap (he:PE X e te)(hs:swapsWith e none pos.line X.env=pure false:=by rfl):PS X (.Expr e pos) (z42 te):=by
 intro pins s σ H D I h
 exact wpAny_Expr_any (thn (he pins s σ H _ I h) fun v s1 ⟨x,H1,I1,r1,q1⟩=>⟨σ,H1,I1,q1⟩) I.quiet hs
def z6e (te:TE):TS:=fun D σ H=>te σ H D.rt
theorem zar (he:PE X e te):PS X (.Return (some e) pos) (z6e te):=by
 intro pins s σ H D I h
 exact wpAny_Return_some (thn (he pins s σ H _ I h) fun v s1 ⟨x,H1,I1,r1,q1⟩=>⟨x,σ,H1,I1,r1,q1⟩)
def z5c:TS:=fun D _ H=>D.rt .non H
theorem z1k:PS X (.Return none pos) z5c:=fun _ _ σ H _ I h=>wpAny_Return_none ⟨.non,σ,H,I,rfl,h⟩
def z59 (c:TT)(t u:TS):TS:=fun D σ H=>c σ H fun b H1=>if b=true then t D σ H1 else u D σ H1
theorem zbn {c:Expr}{a b:List Stmt}{tc:TT}(hc:PT X c tc)(ha:PSs X a t)(hb:PSs X b u):PS X (.If c a b pos) (z59 tc t u):=by
 intro pins s σ H D I h
 refine wpAny_If (thn (hc pins s σ H _ I h) fun d s1 ⟨H1,I1,q1⟩=>?_)
 cases d with
 | true=>exact ha pins s1 σ H1 D I1 q1
 | false=>exact hb pins s1 σ H1 D I1 q1
end
abbrev TG:=V->St->Hp->(St->Hp->Prop)->Prop
abbrev TGs:=List V->St->Hp->(St->Hp->Prop)->Prop
def PG (X:Cx)(target:Expr)(t:TG):Prop :=
 ∀ (pins:List (Addr × Obj)) (s:Shared) (σ:St) (H:Hp) (v:V) (u:Value) (Q:St->Hp->Prop),Inv X pins σ H s->zcb v u->t v σ H Q ->
  wpAny (model X.prog X.w) X.A (assign target X.env u) (fun _ s'=>∃ σ' H',Inv X pins σ' H' s'/\Q σ' H') X.xe s
def PGs (X:Cx)(ts:List Expr)(t:TGs):Prop :=
 ∀ (pins:List (Addr × Obj)) (s:Shared) (σ:St) (H:Hp) (vs:List V) (us:List Value) (Q:St->Hp->Prop),Inv X pins σ H s->zb8 vs us->t vs σ H Q ->
  wpAny (model X.prog X.w) X.A (assignInOrder ((assignEach ts X.env).map (·.2)) us) (fun _ s'=>∃ σ' H',Inv X pins σ' H' s'/\Q σ' H') X.xe s
section
variable {X:Cx} {pos:Pos}
def zoi (i:Nat):TG:=fun v σ H Q=>Q (σ.set i (some v)) H
theorem zas {i:Nat}{x:Str}(hN:X.N.Nodup)(hi:X.N[i]? = some x)(hx:Loc X.env.scope x)(hf:X.fn x=true\/X.env.scope.names.lookup x=some .local:=by first | exact .inl rfl | exact .inr rfl | assumption):PG X (.Name x pos) (zoi i):=by
 intro pins s σ H v u Q I r h
 exact wpAny_assign_Name (zfu I hN hi hx r (fun s' I'=>⟨_,H,I',h⟩) hf)
def z6u:TGs:=fun vs σ H Q=>vs=[]/\Q σ H
def z4s (t:TG)(u:TGs):TGs:=fun vs σ H Q=>∃ v r,vs=v :: r/\t v σ H fun σ' H'=>u r σ' H' Q
theorem zi0:PGs X [] z6u:=by
 intro pins s σ H vs us Q I r h
 obtain ⟨e,h⟩:=h
 subst e
 cases r
 exact assignInOrder_nil ⟨σ,H,I,h⟩
theorem zb1 {e:Expr}{es:List Expr}{t:TG}{u:TGs}(h1:PG X e t)(h2:PGs X es u)
  (hs:(assignEach (e :: es) X.env).map (·.2)=assign e X.env :: (assignEach es X.env).map (·.2):=by rfl):PGs X (e :: es) (z4s t u):=by
 intro pins s σ H vs us Q I r h
 obtain ⟨v,vr,e1,h⟩:=h
 subst e1
 cases r with
 | cons r rr =>
  rw [hs]
  refine assignInOrder_cons (thn (h1 pins s σ H _ _ _ I r h) fun _ s1 ⟨σ1,H1,I1,q1⟩=>?_)
  exact h2 pins s1 σ1 H1 _ _ Q I1 rr q1
def z5w (K:W.Frag)(n:Nat)(t:TGs):TG:=fun v σ H Q=>∃ a xs,v = .ref a/\SqT K H a xs/\xs.length=n/\t xs σ H Q
theorem zo_ {es:List Expr}{k:Nat}{t:TGs}{n:Nat}(hc:X.calm=true)(h:PGs X es t)
  (hn:(assignEach es X.env).length=n:=by rfl)(hst:(assignEach es X.env).findIdx? (·.1)=none:=by rfl):PG X (.Tuple es k pos) (z5w X.K n t):=by
 intro pins s σ H v u Q I r hw
 obtain ⟨a,xs,e1,hq,hl,hw⟩:=hw
 subst e1
 cases r
 obtain ⟨its,rv,ht,hz⟩:=I.tuple hq
 refine assign_Tuple_tuple (I.ok.hd hc) ht (by simp [hn,<- hl,rv.length]) hst fun h' hx=>?_
 have I1:Inv X pins σ H { s with heap:=h' }:=I.kept (t':=s.toks) fun b o e=>hx b o (gc (fw e)) e
 exact h pins _ σ H xs _ Q I1 (by simpa using rv) hw
def z4b (te:TE)(g:TG):TS:=fun D σ H=>te σ H fun x H1=>g x σ H1 D.nx
theorem z2a {tg e:Expr}{te:TE}{g:TG}(he:PE X e te)(hg:PG X tg g)(hs:swapsWithSole [tg] e pos.line X.env=pure false:=by rfl)(hw:swappedStores [tg] e X.env=pure none:=by rfl)
  (h1:(assignEach [tg] X.env).map (·.2)=[assign tg X.env]:=by rfl):PS X (.Assign [tg] e pos) (z4b te g):=by
 intro pins s σ H D I h
 refine wpAny_Assign_stores (thn (he pins s σ H _ I h) fun v s1 ⟨x,H1,I1,r1,q1⟩=>?_) hs hw
 rw [h1]
 exact thn (hg pins s1 σ H1 x v _ I1 r1 q1) fun _ s2 q=>q
theorem za2 {i:Nat}{x:Str}{e:Expr}{te:TE}{pos':Pos}(hN:X.N.Nodup)(hi:X.N[i]? = some x)(hx:Loc X.env.scope x)(he:PE X e te)(hs:swapsWith e (some (.Name x pos')) pos.line X.env=pure false:=by rfl)(hf:X.fn x=true\/X.env.scope.names.lookup x=some .local:=by first | exact .inl rfl | exact .inr rfl | assumption) :
  PS X (.Assign [.Name x pos'] e pos) (z4b te (zoi i)):=by
 intro pins s σ H D I h
 refine wpAny_Assign_Name (thn (he pins s σ H _ I h) fun v s1 ⟨y,H1,I1,r1,q1⟩=>?_) hs
 exact zfu I1 hN hi hx r1 (fun s2 I2=>⟨_,H1,I2,q1⟩) hf
def z3u (c:TT)(tb:TS):TS:=fun D σ H=>∃ W:Nat->St->Hp->Prop,(∃ m,W m σ H)/\∀ m σ H,W m σ H ->
 c σ H fun b H1=>if b=true then ∃ N:St->Hp->Prop,(∀ σ' H',N σ' H'->∃ m',m'<m/\W m' σ' H')/\tb { D with nx:=N,ct:=N,bk:=D.nx } σ H1 else D.nx σ H1
theorem zmw {c:Expr}{body:List Stmt}{tc:TT}{tb:TS}(hp:PassesOwn (model X.prog X.w) X.A X.env X.xe)(hc:PT X c tc)(hb:PSs X body tb):PS X (.While c body [] pos) (z3u tc tb):=by
 intro pins s σ H D I h
 obtain ⟨W,⟨m0,w0⟩,turn⟩:=h
 refine wpAny_While (codeAny_whileLoop (fun n s'=>∃ σ' H',Inv X pins σ' H' s'/\W n σ' H') ?_ m0 ⟨σ,H,I,w0⟩)
 rintro n s1 ⟨σ1,H1,I1,w1⟩
 refine wpAny_passesOwn hp (thn (hc pins s1 σ1 H1 _ I1 (turn n σ1 H1 w1)) fun b s2 ⟨H2,I2,q2⟩=>?_)
 cases b with
 | true =>
  obtain ⟨N,hN,q2⟩:=q2
  rw [if_pos rfl]
  refine wpAny_passesOwn hp (thn (hb pins s2 σ1 H2 _ I2 q2) fun f s3 q3=>?_)
  cases f with
  | next =>
   obtain ⟨σ3,H3,I3,n3⟩:=q3
   obtain ⟨m',hm,w3⟩:=hN σ3 H3 n3
   exact ⟨m',hm,σ3,H3,I3,w3⟩
  | cont =>
   obtain ⟨σ3,H3,I3,n3⟩:=q3
   obtain ⟨m',hm,w3⟩:=hN σ3 H3 n3
   exact ⟨m',hm,σ3,H3,I3,w3⟩
  | brk=>exact q3
  | ret v=>exact q3
 | false =>
  rw [if_neg Bool.false_ne_true]
  exact wpAny_execs_nil ⟨σ1,H2,I2,q2⟩
end
structure It where
 go:Nat->Hp->Prop
 yld:Nat->Hp->V->Hp->Prop
 stop:Nat->Hp->Prop
def zrg (X:Cx)(pins:List (Addr × Obj))(H:Hp)(b:Addr):Prop :=
 H b=none/\b≠X.env.locals/\b∉X.fs/\(b∈X.ex\/X.s₀.heap.objs.size<=b)/\(∀ x c,X.env.cells.lookup x=some c->c≠b)/\∀ p∈X.pn++pins,p.1≠b
theorem Inv.fpOk {X:Cx}{pins:List (Addr × Obj)}{σ:St}{H H':Hp}{s:Shared}{b:Addr}(I:Inv X pins σ H s)(hb:s.heap.objs.size<=b)(hn:H' b=none):zrg X pins H' b:=by
 refine ⟨hn,jj (fi I.lt hb),I.nofs hb,.inr (gf I.sz hb),fun x c e z=>?_,fun p hp z=>?_⟩
 ·obtain ⟨v,q⟩:=I.cell x c e
  exact absurd (fi q.lt (by rw [z]; exact hb)) (io _)
 ·exact absurd (fi (fw (I.pin p hp).1) (by rw [z]; exact hb)) (io _)
structure z3e (P:Program)(w:World)(K:W.Frag)(tg:Expr)(J:It)(fp:List Addr)(it:Addr)(tn:Nat->Heap->Prop):Prop where
 mem:it∈fp
 obj:∀ i h,tn i h->∀ b∈fp,∃ o,h.get? b=some o/\∀ v,o.data≠ .cell v
 keep:∀ i h h',tn i h->(∀ b∈fp,∀ o,h.get? b=some o->h'.get? b=some o)->tn i h'
 item:∀ (X:Cx),X.prog=P->X.w=w->X.K=K->X.calm=true->∀ (i:Nat) (pins:List (Addr × Obj)) (s:Shared) (σ:St) (H:Hp) (E:Value->Shared->Prop),Inv X pins σ H s->(∀ b∈fp,zrg X pins H b)->tn i s.heap->J.go i H ->
  wpAny (model P w) X.A (pyNext (.ref it)) (fun r s1=>∃ u,r=some u /\
   wpAny (model P w) X.A (letOwnedTupleGo tg (.ref it) u) (fun _ s2=>∃ x H',Inv X pins σ H' s2/\zcb x u/\J.yld i H x H'/\tn (i+1) s2.heap/\∀ b∈fp,H' b=none) E s1) E s
 done:∀ (X:Cx),X.prog=P->X.w=w->X.K=K->X.calm=true->∀ (i:Nat) (pins:List (Addr × Obj)) (s:Shared) (σ:St) (H:Hp) (E:Value->Shared->Prop),Inv X pins σ H s->(∀ b∈fp,zrg X pins H b)->tn i s.heap->J.stop i H ->
  wpAny (model P w) X.A (pyNext (.ref it)) (fun r s1=>r=none/\Inv X pins σ H s1) E s
 self:∀ (A:Around) (i:Nat) (s:Shared) (Q:Value->Shared->Prop) (E:Value->Shared->Prop),tn i s.heap->Q (.ref it) s->wpAny (model P w) A (pyIter (.ref it)) Q E s
abbrev TI:=St->Hp->(It->Hp->Prop)->Prop
def PIE (X:Cx)(pins:List (Addr × Obj))(σ:St)(tg:Expr)(R:It->Hp->Prop)(itv:Value)(s2:Shared):Prop :=
 ∃ (it:Addr) (fp:List Addr) (tn:Nat->Heap->Prop) (J:It) (H':Hp),itv = .ref it/\Inv X pins σ H' s2/\z3e X.prog X.w X.K tg J fp it tn/\tn 0 s2.heap/\(∀ b∈fp,zrg X pins H' b)/\R J H'
def PI (X:Cx)(tg iter:Expr)(wi:TI):Prop :=
 ∀ (pins:List (Addr × Obj)) (s:Shared) (σ:St) (H:Hp) (R:It->Hp->Prop),Inv X pins σ H s->wi σ H R ->
  wpAny (model X.prog X.w) X.A (eval iter X.env) (fun v s1=>wpAny (model X.prog X.w) X.A (pyIter v) (PIE X pins σ tg R) X.xe s1) X.xe s
theorem zzo {M:Model}{A:Around}{E:Value->Shared->Prop}{s:Shared}{tg:Expr}{it:Addr}{u:Value}{o:Obj}{n:String}{vs:Array Value}{Q:Unit->Shared->Prop}(ho:s.heap.get? it=some o)(hc:o.cls = .type n)(hd:o.data = .fields vs)
    (hn:["enumerate","zip","dict_itemiterator","dict_reverseitemiterator","odict_iterator","itertools.zip_longest","itertools.pairwise"].contains n=false)(hQ:Q () s):wpAny M A (letOwnedTupleGo tg (.ref it) u) Q E s:=by
  unfold letOwnedTupleGo
  cases tg <;> first
    | exact wpAny_pure hQ
    | (cases u <;> first
        | exact wpAny_pure hQ
        | (refine wpAny_bind (wpAny_load ho ?_)
           rw [hc,hd]
           show wpAny M A (if (["enumerate","zip","dict_itemiterator","dict_reverseitemiterator","odict_iterator","itertools.zip_longest","itertools.pairwise"].contains n && vs[0]? == some (rawInt _))=true then _ else _) Q E s
           rw [if_neg (by intro h; rw [hn,Bool.false_and] at h; cases h)]
           exact wpAny_pure hQ))
def Itl (K:W.Frag)(a:Addr):It :=
 ⟨fun i H=>∃ xs x,SqL K H a xs/\xs[i]? = some x,fun i H x H'=>H'=H/\∀ xs,SqL K H a xs->xs[i]? = some x,fun i H=>∃ xs,SqL K H a xs/\xs.length<=i⟩
def Itr (lo:Int)(n:Nat):It:=⟨fun i _=>i<n,fun i H x H'=>H'=H/\x = .int (lo+i),fun i _=>n<=i⟩
theorem zth {P:Program}{w:World}{K:W.Frag}{tg:Expr}(a it:Addr):z3e P w K tg (Itl K a) [it] it (fun i h=>h.IsListIter it a i) where
 mem:=by simp
 obj:=fun i h st b hb=>by
  have e:b=it:=by simpa using hb
  subst e
  obtain ⟨o,e,c,d⟩:=st
  exact ⟨o,e,fun v z=>by rw [d] at z; cases z⟩
 keep:=fun i h h' st k=>st.at fun o e=>k it (by simp) o e
 item:=by
  intro X hP hw hK hc i pins s σ H E I hf st hg
  subst hP hw hK
  obtain ⟨xs,x,hq,hx⟩:=hg
  obtain ⟨its,rv,p,hz⟩:=I.list hq
  obtain ⟨u,hu,ru⟩:=rv.get hx
  obtain ⟨f0,f1,f2,f3,f4,f5⟩:=hf it (by simp)
  refine wpAny_pyNext_list_item st p.isList (x:=u) (by simpa using hu) fun h' f sb=>?_
  have I1:Inv X pins σ H { s with heap:=h' }:=I.turned (t':=s.toks) (fun b o hb e=>(sb.2 b hb).trans e) f0 f1 f3 f4 f5
  obtain ⟨o,e,c,d⟩:=id f
  exact ⟨u,rfl,zzo (s:={ s with heap:=h' }) e c d (by decide) ⟨x,H,I1,ru,⟨rfl,fun ys hy=>by rw [I.list_inj hy hq]; exact hx⟩,f,fun b hb=>(hf b hb).1⟩⟩
 done:=by
  intro X hP hw hK hc i pins s σ H E I hf st hg
  subst hP hw hK
  obtain ⟨xs,hq,hx⟩:=hg
  obtain ⟨its,rv,p,hz⟩:=I.list hq
  obtain ⟨f0,f1,f2,f3,f4,f5⟩:=hf it (by simp)
  have hl:=rv.length
  exact wpAny_pyNext_list_end (I.ok.hd hc) st p.isList (by simp; omega) fun h' eb=>⟨rfl,I.turned (t':=s.toks) (fun b o hb e=>eb b o hb e) f0 f1 f3 f4 f5⟩
 self:=fun _ _ _ _ _ st h=>wpAny_pyIter_listiter st h
theorem zs6 {P:Program}{w:World}{K:W.Frag}{tg:Expr}(it:Addr)(lo:Int)(n:Nat):z3e P w K tg (Itr lo n) [it] it (fun i h=>IsRangeIter h it (lo+(i:Nat) * 1) ((n:Int) - (i:Nat)) 1) where
 mem:=by simp
 obj:=fun i h st b hb=>by
  have e:b=it:=by simpa using hb
  subst e
  exact ⟨_,st,fun v z=>by
   have z':Data.fields _=Data.cell v:=z
   cases z'⟩
 keep:=fun i h h' st k=>k it (by simp) _ st
 item:=by
  intro X hP hw hK hc i pins s σ H E I hf st hg
  subst hP hw hK
  obtain ⟨f0,f1,f2,f3,f4,f5⟩:=hf it (by simp)
  have W:=Walks.range (prog:=X.prog) (w:=X.w) (I.ok.hd hc) it lo 1 n
  refine W.item i s _ _ hg st fun v h' tk hv a kk=>?_
  obtain ⟨t,rfl⟩:=hv
  have I1:Inv X pins σ H { s with heap:=h',toks:=tk }:=I.turned (fun b o hb e=>kk b o (by simpa using hb) e) f0 f1 f3 f4 f5
  refine ⟨_,rfl,zzo (s:={ s with heap:=h',toks:=tk }) (n:= "range_iterator") a rfl rfl (by decide) ⟨.int (lo+i),H,I1,⟨t,?_⟩,⟨rfl,rfl⟩,a,fun b hb=>(hf b hb).1⟩⟩
  rw [Int.mul_one]
 done:=by
  intro X hP hw hK hc i pins s σ H E I hf st hg
  subst hP hw hK
  obtain ⟨f0,f1,f2,f3,f4,f5⟩:=hf it (by simp)
  exact wpAny_pyNext_range_end (I.ok.hd hc) st (by have:n<=i:=hg; omega) fun h' eb=>⟨rfl,I.turned (t':=s.toks) (fun b o hb e=>eb b o hb e) f0 f1 f3 f4 f5⟩
 self:=fun _ _ _ _ _ st h=>wpAny_pyIter_rangeiter st h
section
variable {X:Cx} {tg:Expr}
def z2k (K:W.Frag)(tl:TE):TI:=fun σ H R=>tl σ H fun x H1=>∃ a,x = .ref a/\(∃ xs,SqL K H1 a xs)/\R (Itl K a) H1
theorem zbb {l:Expr}{tl:TE}(hl:PE X l tl):PI X tg l (z2k X.K tl):=by
 intro pins s σ H R I h
 refine thn (hl pins s σ H _ I h) fun v s1 ⟨x,H1,I1,r1,q1⟩=>?_
 obtain ⟨a,e,⟨xs,hq⟩,q⟩:=q1
 subst e
 cases r1
 obtain ⟨its,rv,p,hz⟩:=I1.list hq
 refine wpAny_pyIter_list p.isList ?_
 refine ⟨s1.heap.objs.size,[s1.heap.objs.size],_,_,H1,rfl,I1.kept (t':=s1.toks) fun b o e=>Heap.get?_push_of_some _ e,zth a _,⟨_,Heap.get?_push_size _ rfl,rfl,rfl⟩,fun b hb=>?_,q⟩
 have e:b=s1.heap.objs.size:=by simpa using hb
 subst e
 exact I1.fpOk (gd _) (I1.hok.fresh (gd _))
theorem zw7 {pins:List (Addr × Obj)}{σ:St}{H:Hp}{s:Shared}{R:It->Hp->Prop}{E:Value->Shared->Prop}{lo hi:Int}{t u v:Tok}{tk:Nat}(I:Inv X pins σ H s)(h1 : -(2 ^ 62)<=lo)(h2:lo<2 ^ 62)(h3 : -(2 ^ 62)<=hi)(h4:hi<2 ^ 62)
  (q:R (Itr lo (hi - lo).toNat) H):wpAny (model X.prog X.w) X.A (pyIter (.ref s.heap.objs.size)) (PIE X pins σ tg R) E { s with heap:=s.heap.push { cls:= .type "range",data:= .fields #[.int lo t,.int hi u,.int 1 v] },toks:=tk }:=by
 refine wpAny_pyIter_range (IsRange.new ..) (small_one h1 h2 h3 h4) ?_
 have I1:Inv X pins σ H { s with heap:=s.heap.push { cls:= .type "range",data:= .fields #[.int lo t,.int hi u,.int 1 v] },toks:=tk }:=I.kept fun b o e=>Heap.get?_push_of_some _ e
 refine ⟨(s.heap.push { cls:= .type "range",data:= .fields #[.int lo t,.int hi u,.int 1 v] }).objs.size,[(s.heap.push { cls:= .type "range",data:= .fields #[.int lo t,.int hi u,.int 1 v] }).objs.size],_,_,H,rfl,
  I1.kept (t':=tk) fun b o e=>Heap.get?_push_of_some _ e,zs6 _ lo (hi - lo).toNat,?_,fun b hb=>?_,q⟩
 ·have e1:lo+((0:Nat):Int) * 1=lo:=by simp
  have e2:(((hi - lo).toNat:Nat):Int) - ((0:Nat):Int)=Builtin.Range.rangeSize lo hi 1:=by rw [rangeSize_one]; split <;> omega
  show IsRangeIter _ _ (lo+((0:Nat):Int) * 1) ((((hi - lo).toNat:Nat):Int) - ((0:Nat):Int)) 1
  rw [e1,e2]
  exact Heap.get?_push_size _ rfl
 ·have e:b=(s.heap.push { cls:= .type "range",data:= .fields #[.int lo t,.int hi u,.int 1 v] }).objs.size:=by simpa using hb
  subst e
  exact I1.fpOk (gd _) (I1.hok.fresh (gd _))
def z4w (ta:TA):TI:=fun σ H R=>ta σ H fun vs H1=>∃ j:Int,vs=[.int j]/\ -(2 ^ 62)<=j/\j<2 ^ 62/\R (Itr 0 j.toNat) H1
theorem zc2 {a:Expr}{ta:TA}{p pos:Pos}(hg:Gl X "range")(hm:X.mg "range" = none)(ha:PA X [a] ta)(hs:starEach [a] X.env=[(false,eval a X.env)]:=by rfl):PI X tg (.Call (.Name "range" p) [a] [] pos) (z4w ta):=by
 intro pins s σ H R I h
 refine Call_ (zmo I hg hm boot_range (PyProof.Rows.callWith_type1 (thn (ha pos pins s σ H _ I h) fun us s1 ⟨vs,H1,I1,r1,q1⟩=>?_) hs rfl))
 obtain ⟨j,e,q1,q2,q⟩:=q1
 subst e
 cases r1 with
 | cons r rr =>
  cases rr
  obtain ⟨t,rfl⟩:=r
  exact call_range_1 (zw7 I1 (by omega) (by omega) q1 q2 (by simpa using q))
def z6k (wi:TI)(g:TG)(tb:TS):TS:=fun D σ H=>wi σ H fun J H1=>∃ W:Nat->Nat->St->Hp->Prop,(∃ m,W 0 m σ H1)/\∀ i m σ H,W i m σ H ->
 (J.stop i H/\D.nx σ H)\/(J.go i H/\∃ N:St->Hp->Prop,(∀ σ' H',N σ' H'->∃ m',m'<m/\W (i+1) m' σ' H')/\∀ x H',J.yld i H x H'->g x σ H' fun σ2 H2=>tb { D with nx:=N,ct:=N,bk:=D.nx } σ2 H2)
def zpo (fp:List Addr)(h:Heap):List (Addr × Obj):=fp.filterMap fun b=>(h.get? b).map fun o=>(b,o)
theorem zg_ {fp:List Addr}{h:Heap}{b:Addr}{o:Obj}(hb:b∈fp)(e:h.get? b=some o):(b,o)∈zpo fp h:=gx.mpr ⟨b,hb,by rw [e]; rfl⟩
theorem zu7 {fp:List Addr}{h:Heap}{p:Addr × Obj}(hp:p∈zpo fp h):p.1∈fp/\h.get? p.1=some p.2:=by
 obtain ⟨b,hb,e⟩:=gx.mp hp
 cases q:h.get? b with
 | none=>rw [q] at e; cases e
 | some o =>
  rw [q] at e
  have e':(b,o)=p:=Option.some.inj e
  subst e'
  exact ⟨hb,q⟩
theorem Inv.pinned {pins:List (Addr × Obj)}{σ:St}{H:Hp}{s:Shared}{fp:List Addr}(I:Inv X pins σ H s)(hf:∀ b∈fp,zrg X pins H b)(ho:∀ b∈fp,∃ o,s.heap.get? b=some o/\∀ v,o.data≠ .cell v):Inv X (pins++zpo fp s.heap) σ H s :=
 I.pins_of fun p hp=>(fj.mp hp).elim (fun z=>I.pin p (fh _ z)) fun z=>by
  obtain ⟨hb,e⟩:=zu7 z
  obtain ⟨f0,f1,f2,_⟩:=hf p.1 hb
  obtain ⟨o,e',d⟩:=ho p.1 hb
  rw [e] at e'; cases e'
  exact ⟨e,f0,f1,f2,d⟩
theorem Inv.unpinned {pins pl:List (Addr × Obj)}{σ:St}{H:Hp}{s:Shared}(I:Inv X (pins++pl) σ H s):Inv X pins σ H s:=I.pins_of fun p hp=>I.pin p (fh _ (gb _ hp))
theorem zca {iter:Expr}{body:List Stmt}{wi:TI}{g:TG}{tb:TS}{pos:Pos}(hp:PassesOwn (model X.prog X.w) X.A X.env X.xe)(hc:X.calm=true)(hi:PI X tg iter wi)(hg:PG X tg g)(hb:PSs X body tb)
  (hs:∀ x,foldedSetIterable iter X.env x=pure x:=by intro _; rfl):PS X (.For tg iter body [] pos) (z6k wi g tb):=by
 intro pins s σ H D I h
 refine wpAny_For (thn (hi pins s σ H _ I h) fun v s1 h1=>thn h1 fun z s2 h2=>?_) hs
 obtain ⟨it,fp,tn,J,H2,e,I2,T,t,f2,W,⟨m0,w0⟩,turn⟩:=h2
 subst e
 have c:∀ {H':Hp},(∀ b∈fp,H' b=none)->∀ b∈fp,zrg X pins H' b:=fun hn b hb=>⟨hn b hb,(f2 b hb).2⟩
 refine codeAny_forLoop_any (fun n s'=>∃ i σ' H',Inv X pins σ' H' s'/\tn i s'.heap/\(∀ b∈fp,H' b=none)/\W i n σ' H') ?_ m0 ⟨0,σ,H2,I2,t,fun b hb=>(f2 b hb).1,w0⟩
 rintro n s3 ⟨i,σ3,H3,I3,l,p,w3⟩
 rcases turn i n σ3 H3 w3 with ⟨stop,qn⟩ | ⟨go,N,hN,step⟩
 ·refine wpAny_passesOwn hp (thn (T.done X rfl rfl rfl hc i pins s3 σ3 H3 X.xe I3 (c p) l stop) fun r s4 ⟨hr,I4⟩=>?_)
  subst hr
  exact wpAny_execs_nil ⟨σ3,H3,I4,qn⟩
 ·refine wpAny_passesOwn hp (thn (T.item X rfl rfl rfl hc i pins s3 σ3 H3 X.xe I3 (c p) l go) fun r s4 ⟨u,hr,h4⟩=>?_)
  subst hr
  refine wpAny_passesOwn hp (thn h4 fun _ s5 ⟨x,H5,I5,r5,y5,j,y⟩=>?_)
  have q:=I5.pinned (c y) (T.obj _ _ j)
  refine wpAny_passesOwn hp (thn (hg _ s5 σ3 H5 x u _ q r5 (step x H5 y5)) fun _ s6 ⟨σ6,H6,I6,q6⟩=>?_)
  refine wpAny_passesOwn hp (thn (hb _ s6 σ6 H6 _ I6 q6) fun f s7 q7=>?_)
  have a:∀ {σ7:St} {H7:Hp},Inv X (pins++zpo fp s5.heap) σ7 H7 s7->N σ7 H7->∃ m,m<n/\∃ i σ' H',Inv X pins σ' H' s7/\tn i s7.heap/\(∀ b∈fp,H' b=none)/\W i m σ' H':=fun {σ7 H7} I7 n7=>by
   obtain ⟨m',hm,w7⟩:=hN σ7 H7 n7
   refine ⟨m',hm,i+1,σ7,H7,I7.unpinned,T.keep _ _ _ j fun b hb o e=>(I7.pin (b,o) (fh _ (fh _ (zg_ hb e)))).1,fun b hb=>?_,w7⟩
   obtain ⟨o,e,d⟩:=T.obj _ _ j b hb
   exact (I7.pin (b,o) (fh _ (fh _ (zg_ hb e)))).2.1
  cases f with
  | next=>obtain ⟨σ7,H7,I7,n7⟩:=q7; exact a I7 n7
  | cont=>obtain ⟨σ7,H7,I7,n7⟩:=q7; exact a I7 n7
  | brk=>obtain ⟨σ7,H7,I7,q7⟩:=q7; exact ⟨σ7,H7,I7.unpinned,q7⟩
  | ret v=>obtain ⟨x7,σ7,H7,I7,r7,q7⟩:=q7; exact ⟨x7,σ7,H7,I7.unpinned,r7,q7⟩
end
theorem zbs {K:W.Frag}{a:Addr}{xs:List V}{g:TG}{tb:TS}{D:zuc}{σ:St}{H:Hp}(Pv:Nat->St->Hp->Prop)(h0:Pv 0 σ H)(hl:∀ i σ H,i<=xs.length->Pv i σ H->SqL K H a xs)
  (hs:∀ i x σ H,xs[i]? = some x->Pv i σ H->g x σ H fun σ2 H2=>tb { D with nx:=Pv (i+1),ct:=Pv (i+1),bk:=D.nx } σ2 H2)(hd:∀ σ H,Pv xs.length σ H->D.nx σ H) :
  ∃ W:Nat->Nat->St->Hp->Prop,(∃ m,W 0 m σ H)/\∀ i m σ H,W i m σ H ->
   ((Itl K a).stop i H/\D.nx σ H)\/((Itl K a).go i H/\∃ N:St->Hp->Prop,(∀ σ' H',N σ' H'->∃ m',m'<m/\W (i+1) m' σ' H')/\∀ x H',(Itl K a).yld i H x H'->g x σ H' fun σ2 H2=>tb { D with nx:=N,ct:=N,bk:=D.nx } σ2 H2):=by
 refine ⟨fun i m σ H=>m=xs.length - i/\i<=xs.length/\Pv i σ H,⟨xs.length,by simp,im _,h0⟩,?_⟩
 rintro i m σ H ⟨rfl,hi,p⟩
 have q:=hl i σ H hi p
 by_cases b:i<xs.length
 ·refine .inr ⟨⟨xs,xs[i],q,by simp [b]⟩,Pv (i+1),fun σ' H' p'=>⟨xs.length - (i+1),by omega,rfl,b,p'⟩,fun x H' y=>?_⟩
  obtain ⟨e,y⟩:=y
  subst e
  exact hs i x σ _ (y xs q) p
 ·have e:i=xs.length:=by omega
  subst e
  exact .inl ⟨⟨xs,q,gd _⟩,hd σ H p⟩
theorem zhw {lo:Int}{n:Nat}{g:TG}{tb:TS}{D:zuc}{σ:St}{H:Hp}(Pv:Nat->St->Hp->Prop)(h0:Pv 0 σ H)
  (hs:∀ i σ H,i<n->Pv i σ H->g (.int (lo+i)) σ H fun σ2 H2=>tb { D with nx:=Pv (i+1),ct:=Pv (i+1),bk:=D.nx } σ2 H2)(hd:∀ σ H,Pv n σ H->D.nx σ H) :
  ∃ W:Nat->Nat->St->Hp->Prop,(∃ m,W 0 m σ H)/\∀ i m σ H,W i m σ H ->
   ((Itr lo n).stop i H/\D.nx σ H)\/((Itr lo n).go i H/\∃ N:St->Hp->Prop,(∀ σ' H',N σ' H'->∃ m',m'<m/\W (i+1) m' σ' H')/\∀ x H',(Itr lo n).yld i H x H'->g x σ H' fun σ2 H2=>tb { D with nx:=N,ct:=N,bk:=D.nx } σ2 H2):=by
 refine ⟨fun i m σ H=>m=n - i/\i<=n/\Pv i σ H,⟨n,by simp,im _,h0⟩,?_⟩
 rintro i m σ H ⟨rfl,hi,p⟩
 by_cases a:i<n
 ·refine .inr ⟨a,Pv (i+1),fun σ' H' p'=>⟨n - (i+1),by omega,rfl,a,p'⟩,fun x H' y=>?_⟩
  obtain ⟨e,y⟩:=y
  subst e y
  exact hs i σ _ a p
 ·have e:i=n:=by omega
  subst e
  exact .inl ⟨gd _,hd σ H p⟩
abbrev R2:=V->V->Hp->VK->Prop
def OpR (X:Cx)(f:Value->Value->Sem Value)(r:R2):Prop :=
 ∀ (pins:List (Addr × Obj)) (s:Shared) (σ:St) (H:Hp) (x y:V) (v u:Value) (Q:VK),Inv X pins σ H s->zcb x v->zcb y u->r x y H Q ->
  wpAny (model X.prog X.w) X.A (f v u) (EP X pins σ Q) X.xe s
def UnR (X:Cx)(f:Value->Sem Value)(r:V->Hp->VK->Prop):Prop :=
 ∀ (pins:List (Addr × Obj)) (s:Shared) (σ:St) (H:Hp) (x:V) (v:Value) (Q:VK),Inv X pins σ H s->zcb x v->r x H Q ->
  wpAny (model X.prog X.w) X.A (f v) (EP X pins σ Q) X.xe s
def zjt (X:Cx)(f:Value)(r:List V->Hp->VK->Prop):Prop :=
 ∀ (pins:List (Addr × Obj)) (s:Shared) (σ:St) (H:Hp) (xs:List V) (us:List Value) (Q:VK),Inv X pins σ H s->zb8 xs us->r xs H Q ->
  wpAny (model X.prog X.w) X.A (call f us) (EP X pins σ Q) X.xe s
def tOp (r:R2)(ta tb:TE):TE:=fun σ H Q=>ta σ H fun x H1=>tb σ H1 fun y H2=>r x y H2 Q
def tUn (r:V->Hp->VK->Prop)(ta:TE):TE:=fun σ H Q=>ta σ H fun x H1=>r x H1 Q
def rI (C:Int->Int->Prop)(g:Int->Int->V):R2:=fun x y H Q=>∃ i j,x = .int i/\y = .int j/\C i j/\Q (g i j) H
def rI0 (g:Int->Int->V):R2:=fun x y H Q=>∃ i j,x = .int i/\y = .int j/\Q (g i j) H
def rU (g:Int->V):V->Hp->VK->Prop:=fun x H Q=>∃ i,x = .int i/\Q (g i) H
section
variable {X:Cx} {a b:Expr} {ta tb:TE} {pos:Pos}
theorem z47 (ha:PE X a ta)(hb:PE X b tb){pins:List (Addr × Obj)}{s:Shared}{σ:St}{H:Hp}{R:V->V->Hp->Prop}(I:Inv X pins σ H s)
  (h:ta σ H fun x H1=>tb σ H1 fun y H2=>R x y H2){Q:Value->Shared->Prop}{f:Value->Value->Sem Value}
  (hf:∀ v u s2 x y H2,Inv X pins σ H2 s2->zcb x v->zcb y u->R x y H2->wpAny (model X.prog X.w) X.A (f v u) Q X.xe s2) :
  wpAny (model X.prog X.w) X.A (eval a X.env) (fun v s₁=>wpAny (model X.prog X.w) X.A (eval b X.env) (fun u s₂=>wpAny (model X.prog X.w) X.A (f v u) Q X.xe s₂) X.xe s₁) X.xe s:=by
 refine thn (ha pins s σ H _ I h) fun v s1 ⟨x,H1,I1,r1,q1⟩=>?_
 refine thn (hb pins s1 σ H1 _ I1 q1) fun u s2 ⟨y,H2,I2,r2,q2⟩=>?_
 exact hf v u s2 x y H2 I2 r1 r2 q2
theorem za8 {op:Operator}{r:R2}(ho:OpR X (binaryOp op) r)(ha:PE X a ta)(hb:PE X b tb):PE X (.BinOp a op b pos) (tOp r ta tb):=by
 intro pins s σ H Q I h
 exact wpAny_BinOp (z47 ha hb I h fun v u s2 x y H2 I2 rx ry q=>ho pins s2 σ H2 x y v u Q I2 rx ry q)
theorem zzm {op:UnaryOp}{r:V->Hp->VK->Prop}(ho:UnR X (unaryOp op) r)(ha:PE X a ta):PE X (.UnaryOp op a pos) (tUn r ta):=by
 intro pins s σ H Q I h
 exact UnaryOp_ (thn (ha pins s σ H _ I h) fun v s1 ⟨x,H1,I1,r1,q1⟩=>ho pins s1 σ H1 x v Q I1 r1 q1)
theorem opI {f:Value->Value->Sem Value}{C:Int->Int->Prop}{g:Int->Int->Int}
  (rule:∀ (i j:Int) (t u:Tok) (s:Shared) (Q:Value->Shared->Prop) (E:Value->Shared->Prop),C i j->Q (.int (g i j) s.toks) { s with toks:=s.toks+1 }->wpAny (model X.prog X.w) X.A (f (.int i t) (.int j u)) Q E s) :
  OpR X f (rI C fun i j=> .int (g i j)):=by
 intro pins s σ H x y v u Q I rx ry h
 obtain ⟨i,j,rfl,rfl,hc,q⟩:=h
 obtain ⟨t,rfl⟩:=rx
 obtain ⟨t',rfl⟩:=ry
 exact rule i j t t' s _ _ hc ⟨.int (g i j),H,I.tok _,⟨_,rfl⟩,q⟩
theorem z4k {f:Value->Value->Sem Value}{g:Int->Int->Int}
  (rule:∀ (i j:Int) (t u:Tok) (s:Shared) (Q:Value->Shared->Prop) (E:Value->Shared->Prop),Q (.int (g i j) s.toks) { s with toks:=s.toks+1 }->wpAny (model X.prog X.w) X.A (f (.int i t) (.int j u)) Q E s) :
  OpR X f (rI0 fun i j=> .int (g i j)):=by
 intro pins s σ H x y v u Q I rx ry h
 obtain ⟨i,j,rfl,rfl,q⟩:=h
 obtain ⟨t,rfl⟩:=rx
 obtain ⟨t',rfl⟩:=ry
 exact rule i j t t' s _ _ ⟨.int (g i j),H,I.tok _,⟨_,rfl⟩,q⟩
theorem z4h {f:Value->Value->Sem Value}{g:Int->Int->Bool}
  (rule:∀ (i j:Int) (t u:Tok) (s:Shared) (Q:Value->Shared->Prop) (E:Value->Shared->Prop),Q (.bool (g i j)) s->wpAny (model X.prog X.w) X.A (f (.int i t) (.int j u)) Q E s) :
  OpR X f (rI0 fun i j=> .bl (g i j)):=by
 intro pins s σ H x y v u Q I rx ry h
 obtain ⟨i,j,rfl,rfl,q⟩:=h
 obtain ⟨t,rfl⟩:=rx
 obtain ⟨t',rfl⟩:=ry
 exact rule i j t t' s _ _ ⟨.bl (g i j),H,I,rfl,q⟩
def z5t (i j:Int):Prop:=0<=j/\j<=1000000/\i.natAbs<2 ^ 64
def z5h (i j:Int):Prop:=(-(2 ^ 64)<i/\i<2 ^ 64)\/(-(2 ^ 64)<j/\j<2 ^ 64)
theorem z5h.ok {i j:Int}(h:z5h i j):IntMulOk i j:=by
 rcases h with ⟨h1,h2⟩ | ⟨h1,h2⟩
 ·exact .of_left (intBits_le_64 h1 h2)
 ·exact .of_right (intBits_le_64 h1 h2)
theorem zst (k:Nat):(0:Int)<=2 ^ k:=by
 rw [two_pow_cast]
 exact Int.natCast_nonneg _
theorem zg2:OpR X (binaryOp .Add) (rI0 fun i j=> .int (i+j)):=z4k fun _ _ _ _ _ _ _ q=>add_int q
theorem zrt:OpR X (binaryOp .Sub) (rI0 fun i j=> .int (i - j)):=z4k fun _ _ _ _ _ _ _ q=>sub_int q
theorem zmi:OpR X (binaryOp .Mult) (rI z5h fun i j=> .int (i * j)):=opI fun _ _ _ _ _ _ _ hc q=>mul_int q hc.ok
theorem zb9:OpR X (binaryOp .Mod) (rI (fun _ j=>0<j) fun i j=> .int (i % j)):=opI fun i j _ _ _ _ _ hc q=>by
 have h1:(0:Int)<j:=hc
 exact mod_int' (by omega) (by rw [Int.fmod_eq_emod_of_nonneg i (by omega)]; exact q)
theorem z3f:OpR X (binaryOp .Pow) (rI z5t fun i j=> .int (i ^ j.toNat)):=opI fun _ _ _ _ _ _ _ hc q=>pow_int_small hc.1 hc.2.1 hc.2.2 q
theorem zi9:OpR X (binaryOp .LShift) (rI z5t fun i j=> .int (i * 2 ^ j.toNat)):=opI fun _ _ _ _ _ _ _ hc q=>lshift_int_small hc.1 hc.2.1 hc.2.2 q
theorem z2i:OpR X (binaryOp .RShift) (rI (fun _ j=>0<=j) fun i j=> .int (i / 2 ^ j.toNat)):=opI fun i j _ _ _ _ _ hc q =>
 rshift_int hc (by rw [Int.fdiv_eq_ediv_of_nonneg i (zst _)]; exact q)
theorem z48:OpR X (binaryOp .BitOr) (rI0 fun i j=> .int (Builtin.bitOr i j)):=z4k fun _ _ _ _ _ _ _ q=>or_int q
theorem zmh:OpR X (binaryOp .BitXor) (rI0 fun i j=> .int (Builtin.bitXor i j)):=z4k fun _ _ _ _ _ _ _ q=>xor_int q
theorem unI {f:Value->Sem Value}{g:Int->Int}
  (rule:∀ (i:Int) (t:Tok) (s:Shared) (Q:Value->Shared->Prop) (E:Value->Shared->Prop),Q (.int (g i) s.toks) { s with toks:=s.toks+1 }->wpAny (model X.prog X.w) X.A (f (.int i t)) Q E s) :
  UnR X f (rU fun i=> .int (g i)):=by
 intro pins s σ H x v Q I rx h
 obtain ⟨i,rfl,q⟩:=h
 obtain ⟨t,rfl⟩:=rx
 exact rule i t s _ _ ⟨.int (g i),H,I.tok _,⟨_,rfl⟩,q⟩
theorem zug:UnR X (unaryOp .USub) (rU fun i=> .int (-i)):=unI fun _ _ _ _ _ q=>neg_int q
end
def z4z:V->V->Bool
 | .non,.non=>true | .non,.int _=>true | .int _,.non=>true | .non,.bl _=>true | .bl _,.non=>true | .non,.str _=>true | .str _,.non=>true
 | .int _,.int _=>true | .bl _,.bl _=>true | .str _,.str _=>true | .byt _,.byt _=>true
 | .int _,.str _=>true | .str _,.int _=>true | .bl _,.str _=>true | .str _,.bl _=>true
 | _,_=>false
def rEq:R2:=fun x y H Q=>z4z x y=true/\Q (.bl (decide (x=y))) H
def rNe:R2:=fun x y H Q=>z4z x y=true/\Q (.bl (!decide (x=y))) H
theorem zwj {i j:Int}:decide (V.int i=V.int j)=(i == j):=by
 rw [Bool.eq_iff_iff]
 simp
theorem zzg {i j:Bool}:decide (V.bl i=V.bl j)=(i == j):=by
 rw [Bool.eq_iff_iff]
 simp
theorem zuy {i j:Str}:decide (V.str i=V.str j)=(i == j):=by
 rw [Bool.eq_iff_iff]
 simp
theorem zv3 {i j:Array UInt8}:decide (V.byt i=V.byt j)=(i.toList == j.toList):=by
 rw [Bool.eq_iff_iff]
 cases i
 cases j
 simp
section
variable {X:Cx} {a b c:Expr} {ta tb tc:TE} {pos:Pos}
theorem zbt {pins:List (Addr × Obj)}{σ:St}{H:Hp}{s:Shared}{Q:VK}{k k':Bool}(I:Inv X pins σ H s)(q:Q (.bl k) H)(e:k=k'):EP X pins σ Q (.bool k') s:=by
 subst e
 exact ⟨.bl k,H,I,rfl,q⟩
theorem zhu:OpR X (compareOp .Eq) rEq:=by
 intro pins s σ H x y v u Q I rx ry h
 obtain ⟨hs,q⟩:=h
 cases x with
 | non =>
  cases rx
  cases y with
  | non=>cases ry; exact PySem.EqNone.eq_none_none (zbt I q (by simp))
  | bl j=>cases ry; exact PySem.EqNone.eq_none_bool (zbt I q (by simp))
  | int j=>obtain ⟨t',rfl⟩:=ry; exact nu (zbt I q (by simp))
  | str j=>obtain ⟨t',rfl⟩:=ry; exact ny (zbt I q (by simp))
  | _=>exact fT hs
 | bl i =>
  cases rx
  cases y with
  | non=>cases ry; exact PySem.EqNone.eq_bool_none (zbt I q (by simp))
  | bl j=>cases ry; exact eq_bool (zbt I q zzg)
  | str j=>obtain ⟨t',rfl⟩:=ry; exact PySem.EqMixed.eq_bool_str (zbt I q (by simp))
  | _=>exact fT hs
 | int i =>
  obtain ⟨t,rfl⟩:=rx
  cases y with
  | non=>cases ry; exact nz (zbt I q (by simp))
  | int j=>obtain ⟨t',rfl⟩:=ry; exact eq_int (zbt I q zwj)
  | str j=>obtain ⟨t',rfl⟩:=ry; exact PySem.EqMixed.eq_int_str (zbt I q (by simp))
  | _=>exact fT hs
 | str i =>
  obtain ⟨t,rfl⟩:=rx
  cases y with
  | non=>cases ry; exact o3 (zbt I q (by simp))
  | bl j=>cases ry; exact PySem.EqMixed.eq_str_bool (zbt I q (by simp))
  | int j=>obtain ⟨t',rfl⟩:=ry; exact PySem.EqMixed.eq_str_int (zbt I q (by simp))
  | str j=>obtain ⟨t',rfl⟩:=ry; exact eq_str (zbt I q zuy)
  | _=>exact fT hs
 | byt i =>
  obtain ⟨t,rfl⟩:=rx
  cases y with
  | byt j=>obtain ⟨t',rfl⟩:=ry; exact PySem.W.eq_bytes (zbt I q zv3)
  | _=>exact fT hs
 | _=>cases y <;> exact fT hs
theorem zw2:OpR X (compareOp .NotEq) rNe:=by
 intro pins s σ H x y v u Q I rx ry h
 obtain ⟨hs,q⟩:=h
 cases x with
 | non =>
  cases rx
  cases y with
  | non=>cases ry; exact PySem.EqNone.ne_none_none (zbt I q (by simp))
  | bl j=>cases ry; exact PySem.EqNone.ne_none_bool (zbt I q (by simp))
  | int j=>obtain ⟨t',rfl⟩:=ry; exact o4 (zbt I q (by simp))
  | str j=>obtain ⟨t',rfl⟩:=ry; exact o6 (zbt I q (by simp))
  | _=>exact fT hs
 | bl i =>
  cases rx
  cases y with
  | non=>cases ry; exact PySem.EqNone.ne_bool_none (zbt I q (by simp))
  | bl j=>cases ry; exact ne_bool (zbt I q (congrArg not zzg))
  | str j=>obtain ⟨t',rfl⟩:=ry; exact PySem.EqMixed.ne_bool_str (zbt I q (by simp))
  | _=>exact fT hs
 | int i =>
  obtain ⟨t,rfl⟩:=rx
  cases y with
  | non=>cases ry; exact o7 (zbt I q (by simp))
  | int j=>obtain ⟨t',rfl⟩:=ry; exact ne_int (zbt I q (congrArg not zwj))
  | str j=>obtain ⟨t',rfl⟩:=ry; exact PySem.EqMixed.ne_int_str (zbt I q (by simp))
  | _=>exact fT hs
 | str i =>
  obtain ⟨t,rfl⟩:=rx
  cases y with
  | non=>cases ry; exact o8 (zbt I q (by simp))
  | bl j=>cases ry; exact PySem.EqMixed.ne_str_bool (zbt I q (by simp))
  | int j=>obtain ⟨t',rfl⟩:=ry; exact PySem.EqMixed.ne_str_int (zbt I q (by simp))
  | str j=>obtain ⟨t',rfl⟩:=ry; exact ne_str (zbt I q (congrArg not zuy))
  | _=>exact fT hs
 | byt i =>
  obtain ⟨t,rfl⟩:=rx
  cases y with
  | byt j=>obtain ⟨t',rfl⟩:=ry; exact PySem.W.ne_bytes (zbt I q (congrArg not zv3))
  | _=>exact fT hs
 | _=>cases y <;> exact fT hs
theorem zm6:OpR X (compareOp .Lt) (rI0 fun i j=> .bl (decide (i<j))):=z4h fun _ _ _ _ _ _ _ q=>lt_int q
theorem zwf:OpR X (compareOp .LtE) (rI0 fun i j=> .bl (decide (i<=j))):=z4h fun _ _ _ _ _ _ _ q=>le_int q
theorem z4f:OpR X (compareOp .Gt) (rI0 fun i j=> .bl (decide (j<i))):=z4h fun _ _ _ _ _ _ _ q=>gt_int q
theorem z49:OpR X (compareOp .GtE) (rI0 fun i j=> .bl (decide (j<=i))):=z4h fun _ _ _ _ _ _ _ q=>ge_int q
theorem zrq:OpR X (compareOp .Is) (fun x y H Q=>y = .non/\Q (.bl (decide (x = .non))) H):=by
 intro pins s σ H x y v u Q I rx ry h
 obtain ⟨rfl,q⟩:=h
 cases ry
 refine is_none_gen (zbt I q ?_)
 cases x <;> first
  | (cases rx; rfl)
  | (obtain ⟨t,rfl⟩:=rx; rfl)
theorem znk:OpR X (compareOp .IsNot) (fun x y H Q=>y = .non/\Q (.bl (!decide (x = .non))) H):=by
 intro pins s σ H x y v u Q I rx ry h
 obtain ⟨rfl,q⟩:=h
 cases ry
 refine isnot_none_gen (zbt I q ?_)
 cases x <;> first
  | (cases rx; rfl)
  | (obtain ⟨t,rfl⟩:=rx; rfl)
theorem za5 (b:Expr){op:CmpOp}(h:op≠ .In:=by decide)(h2:op≠ .NotIn:=by decide):behindInMarks op b=false:=by
 have e1:(op == CmpOp.In)=false:=by cases op <;> first | rfl | exact absurd rfl h
 have e2:(op == CmpOp.NotIn)=false:=by cases op <;> first | rfl | exact absurd rfl h2
 cases b <;> simp [behindInMarks,e1,e2]
theorem zd7 {op:CmpOp}{r:R2}(ho:OpR X (compareOp op) r)(ha:PE X a ta)(hb:PE X b tb)(hm:behindInMarks op b=false):PE X (.Compare a [op] [b] pos) (tOp r ta tb):=by
 intro pins s σ H Q I h
 exact wpAny_Compare1 (z47 ha hb I h fun v u s2 x y H2 I2 rx ry q=>ho pins s2 σ H2 x y v u Q I2 rx ry q) hm
def z30 (t:TE):TT:=fun σ H Q=>t σ H fun x H'=>∃ k,x = .bl k/\Q k H'
theorem zan {op:CmpOp}{r:R2}(ho:OpR X (compareOp op) r)(ha:PE X a ta)(hb:PE X b tb)(hm:behindInMarks op b=false):PT X (.Compare a [op] [b] pos) (z30 (tOp r ta tb)):=by
 intro pins s σ H Q I h
 refine wpAny_isTrue_Compare1 (thn (ha pins s σ H _ I h) fun v s1 ⟨x,H1,I1,r1,q1⟩=>thn (hb pins s1 σ H1 _ I1 q1) fun u s2 ⟨y,H2,I2,r2,q2⟩ =>
  thn (ho pins s2 σ H2 x y v u _ I2 r1 r2 q2) fun c s3 ⟨z,H3,I3,r3,k,e,q3⟩=>?_) hm
 subst e
 cases r3
 exact wpAny_truthy_bool ⟨H3,I3,q3⟩
def zyt (r r':R2)(ta tb tc:TE):TE:=fun σ H Q=>ta σ H fun x H1=>tb σ H1 fun y H2=>r x y H2 fun z H3=>∃ k,z = .bl k /\
 (if k=true then tc σ H3 fun w' H4=>r' y w' H4 Q else Q (.bl false) H3)
theorem zxv {op op':CmpOp}{r r':R2}(ho:OpR X (compareOp op) r)(ho':OpR X (compareOp op') r')(ha:PE X a ta)(hb:PE X b tb)(hc:PE X c tc)
  (hm:lastMarks [op,op'] [b,c]=false:=by with_unfolding_all rfl):PE X (.Compare a [op,op'] [b,c] pos) (zyt r r' ta tb tc):=by
 intro pins s σ H Q I h
 refine Compare_chain (thn (ha pins s σ H _ I h) fun v s1 ⟨x,H1,I1,r1,q1⟩=>chain_link (thn (hb pins s1 σ H1 _ I1 q1) fun u s2 ⟨y,H2,I2,r2,q2⟩ =>
  thn (ho pins s2 σ H2 x y v u _ I2 r1 r2 q2) fun d s3 ⟨z,H3,I3,r3,k,e,q3⟩=>?_)) hm
 subst e
 cases r3
 refine wpAny_truthy_bool ?_
 cases k with
 | false=>exact ite_ff ⟨.bl false,H3,I3,rfl,q3⟩
 | true=>exact ite_tt (chain_last (thn (hc pins s3 σ H3 _ I3 q3) fun w' s4 ⟨z',H4,I4,r4,q4⟩=>ho' pins s4 σ H4 y z' u w' Q I4 r2 r4 q4))
theorem zxw {op op':CmpOp}{r r':R2}(ho:OpR X (compareOp op) r)(ho':OpR X (compareOp op') r')(ha:PE X a ta)(hb:PE X b tb)(hc:PE X c tc)
  (hm:lastMarks [op,op'] [b,c]=false:=by with_unfolding_all rfl):PT X (.Compare a [op,op'] [b,c] pos) (z30 (zyt r r' ta tb tc)):=by
 intro pins s σ H Q I h
 refine isTrue_chain (thn (ha pins s σ H _ I h) fun v s1 ⟨x,H1,I1,r1,q1⟩=>test_link (thn (hb pins s1 σ H1 _ I1 q1) fun u s2 ⟨y,H2,I2,r2,q2⟩ =>
  thn (ho pins s2 σ H2 x y v u _ I2 r1 r2 q2) fun d s3 ⟨z,H3,I3,r3,k,e,q3⟩=>?_)) hm
 subst e
 cases r3
 refine wpAny_truthy_bool ?_
 cases k with
 | false =>
  obtain ⟨k',e',q'⟩:=q3
  cases e'
  exact ite_ff ⟨H3,I3,q'⟩
 | true =>
  refine ite_tt (test_last (thn (hc pins s3 σ H3 _ I3 q3) fun w' s4 ⟨z',H4,I4,r4,q4⟩=>thn (ho' pins s4 σ H4 y z' u w' _ I4 r2 r4 q4) fun d' s5 ⟨z2,H5,I5,r5,k2,e2,q5⟩=>?_))
  subst e2
  cases r5
  exact wpAny_truthy_bool ⟨H5,I5,q5⟩
theorem zvg:(sizeLine:Nat)<2 ^ 63:=by rw [sizeLine_eq]; decide
theorem zkr {x:V}{us:List Value}(r:zb8 [x] us):∃ u,us=[u]/\zcb x u:=by
 cases r with
 | cons r1 r2=>cases r2; exact ⟨_,rfl,r1⟩
theorem z25 {x y:V}{us:List Value}(r:zb8 [x,y] us):∃ u w',us=[u,w']/\zcb x u/\zcb y w':=by
 cases r with
 | cons r1 r2 =>
  cases r2 with
  | cons r3 r4=>cases r4; exact ⟨_,_,rfl,r1,r3⟩
end
structure z1i (h:Heap)(x dx C:Addr)(mA:Str->Option Value):Prop where
 obj:h.get? x=some (kf C dx)
 ns:h.Ns1 dx mA
 ne:dx≠x
theorem zuo {h:Heap}{dx:Addr}{mA:Str->Option Value}(n:h.Ns1 dx mA):∃ od,h.get? dx=some od/\∀ name,mz name od=some (mA name):=by
 obtain ⟨o,es,ep,ho,hd,hk,_,hm⟩:=n
 refine ⟨o,ho,fun name=>?_⟩
 have e:=hm name
 unfold nsFind findBy at e
 rw [<- Array.find?_toList] at e
 unfold mz
 rw [hd]
 dsimp only
 split
 ·rename_i y q
  rw [q] at e
  exact congrArg some e
 ·rename_i q
  rw [q] at e
  have a:es.toList.any (·.refKey)=false:=by
   rw [List.any_eq_false]
   intro y hy
   obtain ⟨z,t,b⟩:=hk y (Array.mem_toList_iff.mp hy)
   simp [DictEntry.refKey,b]
  have a':¬ es.toList.any (·.refKey)=true:=by rw [a]; exact Bool.false_ne_true
  rw [if_neg a']
  exact congrArg some e
theorem z1i.look {h:Heap}{x dx C:Addr}{mA:Str->Option Value}(I:z1i h x dx C mA):∃ od,PySem.W.InstAt h x (kf C dx) C (some od)/\∀ name,mz name od=some (mA name) :=
 let ⟨od,ho,hl⟩:=zuo I.ns
 ⟨od,⟨I.obj,rfl,rfl,ho⟩,hl⟩
section
variable {prog:Program} {w:World} {A:Around} {E:Value->Shared->Prop} {s:Shared} {K:W.Frag} {x dx C f:Addr} {mA:Str->Option Value} {name:Str} {v:Value}
theorem zb7 {expr:Bool}{Q:Value->Shared->Prop}(X:K.In s.heap)(I:z1i s.heap x dx C mA)(hg:PySem.W.plainGet K C name=true)(hh:PySem.W.hasDictIn K C=true)
  (ha:PySem.W.findIn K (.ref C) name=some none)(hv:mA name=some v)(hv':nj v=true)(h:Q v { s with toks:=s.toks+1 }) :
  wpAny (model prog w) A (getAttr (.ref x) name expr) Q E s:=by
 obtain ⟨od,J,hl⟩:=I.look
 exact PySem.W.get_value X J (lm hg).1 (PySem.W.findObj_own hh ha rfl (by rw [hl,hv])) hv' h
theorem zw0 {pl:Sem Bool}{Q:Value × List Value->Shared->Prop}(X:K.In s.heap)(I:z1i s.heap x dx C mA)(hg:PySem.W.plainGet K C name=true)
  (hf:PySem.W.findIn K (.ref C) name=some (some (.ref f)))(ht:PySem.W.isFn K (.ref f)=true)(hv:mA name=none)(h:Q (.ref f,[.ref x]) s) :
  wpAny (model prog w) A (getMethod (.ref x) name pl) Q E s:=by
 obtain ⟨od,J,hl⟩:=I.look
 exact PySem.W.method_fn X J (lm hg).1 (lm hg).2 hf (beq_iff_eq.mp ht) (by show (mz name od).map (·.isSome)=some false; rw [hl,hv]; rfl) h
theorem z0l {ns:List Str}{Q:Unit->Shared->Prop}(X:K.In s.heap)(I:z1i s.heap x dx C mA)
  (hs:PySem.W.findIn K (.ref C) "__setattr__" = some (some (.builtin "object.__setattr__")))(hp:PySem.W.plainOver K C=true)(ht:n8 K C name=some none)(hh:PySem.W.hasDictIn K C=true)
  (hw:PySem.Within mA ns)(hsz:ns.length<=sizeLine)
  (h:∀ h',z1i h' x dx C (fun y=>if y=name then some v else mA y)->Heap.SameBut dx s.heap h'->Q () { s with heap:=h',toks:=s.toks+2 }) :
  wpAny (model prog w) A (setAttr (.ref x) name v) Q E s:=by
 obtain ⟨od,J,hl⟩:=I.look
 refine PySem.W.set_plain X J hs (PySem.W.osa_open (s:={ s with toks:=s.toks+1 }) (r:=none) X J hp ht fun b=>?_)
 obtain ⟨cd,hc,g⟩:=PySem.W.any_some hh
 have hx:s.heap.get? x=some ⟨.ref C,some dx,.plain,#[]⟩:=I.obj
 refine wpAny_bind (wpAny_pure (wpAny_bind (wpAny_bind (wpAny_loadPart hx (wpAny_bind (PySem.W.Looks.here (s:={ s with toks:=s.toks+1 }) (PySem.W.looks_clsIn X hc) ?_))))))
 rw [g]
 refine wpAny_pure (a:=some dx) (wpAny_bind (wpAny_pure (wpAny_bind ?_)))
 refine wpAny_nsSet1 (s:={ s with toks:=s.toks+1 }) I.ns fun h' c d=>?_
 obtain ⟨oD,l,j,i,f,e⟩:=c.count (PySem.Within.cons name v hw)
 refine wpAny_bind (wpAny_lookBehind i (by rw [f]; exact pastItsLine_dict (gf e (by rw [gs]; omega))) ?_)
 exact wpAny_pure (h _ ⟨(d.2 _ (Ne.symm I.ne)).trans I.obj,c,I.ne⟩ d)
theorem zxt {R:Result->Shared->Prop}{vs:List Value}{kw:List (Str × Value)}(X:K.In s.heap)(hm:PySem.W.makesIn K C=true)
  (hi:PySem.W.findIn K (.ref C) "__init__" = some (some (.ref f)))(hf:typeIn K (.ref f)=some (.type "function"))
  (h:codeAny (model prog w) (A.under (.builtin "type.__call__" ⟨.ref C :: vs,kw⟩)) (.call (.ref f) ⟨.ref (s.heap.objs.size+1) :: vs,kw⟩) (PySem.W.InitBack (s.heap.objs.size+1) R)
   { s with heap:=(s.heap.push jd).push (kf C s.heap.objs.size) }) :
  codeAny (model prog w) A (.call (.ref C) ⟨vs,kw⟩) R s:=by
 obtain ⟨hh,g,d,t,os⟩:=s
 exact PySem.W.make_core (PySem.W.makes_of X hm) (PySem.W.looks_findIn X hi) (fun self=>PySem.W.bind_fn X self hf) (.inl rfl) h
end
def zf8 (f:Str)(v:V):List (Str × V)->List (Str × V)
 | []=>[(f,v)]
 | (g,x) :: r=>if g=f then (g,v) :: r else (g,x) :: zf8 f v r
theorem zk2 (f g:Str)(v:V):∀ fs:List (Str × V),(zf8 f v fs).lookup g=if g=f then some v else fs.lookup g
 | []=>by
  show List.lookup g [(f,v)]=_
  by_cases h:g=f
  ·have hb:(g == f)=true:=beq_iff_eq.mpr h
   simp only [List.lookup,hb,if_pos h]
  ·have hb:(g == f)=false:=beq_eq_false_iff_ne.mpr h
   simp only [List.lookup,hb,if_neg h]
 | (k,x) :: r=>by
  have ih:=zk2 f g v r
  rw [show zf8 f v ((k,x) :: r)=(if k=f then (k,v) :: r else (k,x) :: zf8 f v r) from rfl]
  by_cases hk:k=f
  ·rw [if_pos hk]
   by_cases h:g=k
   ·have hb:(g == k)=true:=beq_iff_eq.mpr h
    simp only [List.lookup,hb,if_pos (h.trans hk)]
   ·have hb:(g == k)=false:=beq_eq_false_iff_ne.mpr h
    simp only [List.lookup,hb,if_neg (fun e:g=f=>h (e.trans hk.symm))]
  ·rw [if_neg hk]
   by_cases h:g=k
   ·have hb:(g == k)=true:=beq_iff_eq.mpr h
    simp only [List.lookup,hb,if_neg (fun e:g=f=>hk (h.symm.trans e))]
   ·have hb:(g == k)=false:=beq_eq_false_iff_ne.mpr h
    simp only [List.lookup,hb]
    exact ih
theorem zlm (f:Str)(v:V):∀ fs:List (Str × V),f∈(zf8 f v fs).map (·.1)/\∀ g,g∈fs.map (·.1)->g∈(zf8 f v fs).map (·.1)
 | []=>⟨by simp [zf8],fun g h=>by simp at h⟩
 | (k,x) :: r=>by
  obtain ⟨i1,i2⟩:=zlm f v r
  rw [show zf8 f v ((k,x) :: r)=(if k=f then (k,v) :: r else (k,x) :: zf8 f v r) from rfl]
  by_cases hk:k=f
  ·rw [if_pos hk]
   subst hk
   exact ⟨by simp,fun g h=>by simpa using h⟩
  ·rw [if_neg hk]
   refine ⟨?_,fun g h=>?_⟩
   ·rw [gu]
    exact fg _ i1
   ·rw [gu] at h |-
    rcases gl.mp h with e | e
    ·exact gl.mpr (.inl e)
    ·exact fg _ (i2 g e)
theorem zlc (f:Str)(v:V):∀ fs:List (Str × V),(zf8 f v fs).length<=fs.length+1
 | []=>by simp [zf8]
 | (k,x) :: r=>by
  have ih:=zlc f v r
  rw [show zf8 f v ((k,x) :: r)=(if k=f then (k,v) :: r else (k,x) :: zf8 f v r) from rfl]
  by_cases hk:k=f
  ·rw [if_pos hk,gs,gs]; omega
  ·rw [if_neg hk,gs,gs]; omega
theorem zn1.some_of {v:V}{o:Option Value}(r:zn1 (some v) o):∃ u,o=some u/\zcb v u:=by
 cases o with
 | none=>exact (show False from r).elim
 | some u=>exact ⟨u,rfl,r⟩
theorem zn1.none_of {o:Option Value}(r:zn1 none o):o=none:=by
 cases o with
 | none=>rfl
 | some u=>exact (show False from r).elim
theorem zvw {v:V}{u:Value}(r:zcb v u):nj u=true:=by
 cases v with
 | non=>cases (show u=Value.none from r); rfl
 | bl b=>cases (show u=Value.bool b from r); rfl
 | int i=>obtain ⟨t,e⟩:=(show ∃ t,u=Value.int i t from r); cases e; rfl
 | str x=>obtain ⟨t,e⟩:=(show ∃ t,u=Value.str x t from r); cases e; rfl
 | byt b=>obtain ⟨t,e⟩:=(show ∃ t,u=Value.bytes b t from r); cases e; rfl
 | flt b=>obtain ⟨t,e⟩:=(show ∃ t,u=Value.float b t from r); cases e; rfl
 | ref a=>cases (show u=Value.ref a from r); rfl
 | ty n=>cases (show u=Value.type n from r); rfl
section
variable {P:Program} {w:World} {H:Hp} {h:Heap} {a C dx:Addr} {fs:List (Str × V)}
theorem zm8 (hok:HOk P w H h)(e:H a=some (.ins C dx fs)):∃ mA,z1i h a dx C mA/\(∀ f,zn1 (fs.lookup f) (mA f))/\PySem.Within mA (fs.map (·.1))/\fs.length<=1000/\H dx=some (.own a):=by
 obtain ⟨d,z,ne,ob,mA,n,r,q⟩:=(show zcl P w H h a (.ins C dx fs) from hok a _ e)
 exact ⟨mA,⟨ob,n,ne⟩,r,q,z,d⟩
end
structure Cls (K:W.Frag)(C:Addr):Prop where
 pg:PySem.W.plainGet K C Str.empty=true
 hd:PySem.W.hasDictIn K C=true
 po:PySem.W.plainOver K C=true
 sa:PySem.W.findIn K (.ref C) "__setattr__" = some (some (.builtin "object.__setattr__"))
theorem Cls.get {K:W.Frag}{C:Addr}(c:Cls K C)(f:Str):PySem.W.plainGet K C f=true:=c.pg
def zlk (K:W.Frag)(C:Addr)(f:Str):Prop:=PySem.W.findIn K (.ref C) f=some none
theorem zlk.taker {K:W.Frag}{C:Addr}{f:Str}(n:zlk K C f):n8 K C f=some none:=by
 unfold n8
 rw [show PySem.W.findIn K (.ref C) f=some none from n]
 rfl
structure zz8 (K:W.Frag)(C:Addr)(m:Str)(f:Addr):Prop where
 at_:PySem.W.findIn K (.ref C) m=some (some (.ref f))
 fn:PySem.W.isFn K (.ref f)=true
 kp:PySem.W.keepIn K (.ref f)=true
section
variable {X:Cx} {pins:List (Addr × Obj)} {σ:St} {H:Hp} {s:Shared} {a C dx:Addr} {fs:List (Str × V)} {f:Str} {v:V} {A:Around} {E:Value->Shared->Prop}
theorem ztb {b:Bool}{Q:Value->Shared->Prop}(I:Inv X pins σ H s)(e:H a=some (.ins C dx fs))(c:Cls X.K C)(n:zlk X.K C f)(l:fs.lookup f=some v)
  (h:∀ u s',Inv X pins σ H s'->zcb v u->Q u s'):wpAny (model X.prog X.w) A (getAttr (.ref a) f b) Q E s:=by
 obtain ⟨mA,O,r,_,_,_⟩:=zm8 I.hok e
 obtain ⟨u,hu,ru⟩:=zn1.some_of (v:=v) (o:=mA f) (by rw [<- l]; exact r f)
 exact zb7 I.kIn O (c.get f) c.hd n hu (zvw ru) (h u _ (I.tok _) ru)
theorem zil {m:Str}{g:Addr}{pl:Sem Bool}{Q:Value × List Value->Shared->Prop}(I:Inv X pins σ H s)(e:H a=some (.ins C dx fs))(c:Cls X.K C)(k:zz8 X.K C m g)(l:fs.lookup m=none)
  (h:Q (.ref g,[.ref a]) s):wpAny (model X.prog X.w) A (getMethod (.ref a) m pl) Q E s:=by
 obtain ⟨mA,O,r,_,_,_⟩:=zm8 I.hok e
 have hn:mA m=none:=zn1.none_of (by rw [<- l]; exact r m)
 exact zw0 I.kIn O (c.get m) k.at_ k.fn hn h
theorem zss {y:V}{u:Value}{Q:Unit->Shared->Prop}(I:Inv X pins σ H s)(e:H a=some (.ins C dx fs))(c:Cls X.K C)(n:zlk X.K C f)(hl:fs.length<1000)(ry:zcb y u)
  (h:∀ s',Inv X pins σ (upd H a (.ins C dx (zf8 f y fs))) s'->Q () s'):wpAny (model X.prog X.w) A (setAttr (.ref a) f u) Q E s:=by
 obtain ⟨mA,O,r,wi,_,ho⟩:=zm8 I.hok e
 have hz:(fs.map (·.1)).length<=sizeLine:=by rw [d9,sizeLine_eq]; omega
 refine z0l I.kIn O c.sa c.po n.taker c.hd wi hz fun h' O' sb=>h _ ?_
 have hd:∃ o,h'.get? dx=some o:=let ⟨o,_,_,e',_⟩:=O'.ns; ⟨o,e'⟩
 refine I.write (x:=a) (e:=dx) (by rw [e]; exact True.intro) (.inr ho) (fun b q hb z=>(sb.2 b hb).trans z) hd ?_
 refine ⟨by rw [zac O.ne]; exact ho,?_,O.ne,O'.obj,_,O'.ns,fun g=>?_,fun g hg=>?_⟩
 ·have:=zlc f y fs; omega
 ·show zn1 ((zf8 f y fs).lookup g) (if g=f then some u else mA g)
  rw [zk2]
  by_cases q:g=f
  ·rw [if_pos q,if_pos q]; exact ry
  ·rw [if_neg q,if_neg q]; exact r g
 ·by_cases q:g=f
  ·rw [q]; exact (zlm f y fs).1
  ·refine (zlm f y fs).2 g (wi g fun z=>hg ?_)
   show (if g=f then some u else mA g)=none
   rw [if_neg q]; exact z
theorem Inv.made (I:Inv X pins σ H s):Inv X pins σ (upd (upd H s.heap.objs.size (.own (s.heap.objs.size+1))) (s.heap.objs.size+1) (.ins C s.heap.objs.size []))
  { s with heap:=(s.heap.push jd).push (kf C s.heap.objs.size) }:=by
 have e1:(s.heap.push jd).get? s.heap.objs.size=some jd:=Heap.get?_push_size s.heap rfl
 have e2:((s.heap.push jd).push (kf C s.heap.objs.size)).get? (s.heap.objs.size+1)=some (kf C s.heap.objs.size):=by
  have:=Heap.get?_push_size (s.heap.push jd) (o:=kf C s.heap.objs.size) rfl
  rwa [jp] at this
 have e3:(s.heap.push jd).Ns s.heap.objs.size (fun _=>none):=⟨jd,#[],_,e1,rfl,(fun e he=>absurd he (by simp)),fun _=>rfl⟩
 have I1:=I.laid (a:=s.heap.objs.size) (o:= .own (s.heap.objs.size+1)) (h':=s.heap.push jd) (t':=s.toks) (fun b u q=>Heap.get?_push_of_some _ q) (gd _) ⟨_,e1⟩
 refine I1.laid (a:=s.heap.objs.size+1) (o:= .ins C s.heap.objs.size []) (t':=s.toks) (fun b u q=>Heap.get?_push_of_some _ q) (kn (jp _ _)) ?_
 have ne:s.heap.objs.size≠s.heap.objs.size+1:=gc (ip _)
 refine ⟨by rw [zac ne,zad],im _,ne,e2,fun _=>none,(Heap.Ns1.of_empty e3).at fun o q=>Heap.get?_push_of_some _ q,fun _=>True.intro,fun y hy=>absurd rfl hy⟩
theorem z1f {prog:Program}{w:World}{env:Env}{e:Expr}{f:Str}{pos:Pos}{s:Shared}{Q:Value->Shared->Prop}(hb:attributeBase e f env (eval e env)=eval e env)
  (h:wpAny (model prog w) A (eval e env) (fun o s₁=>wpAny (model prog w) A (getAttr o f true) Q E s₁) E s):wpAny (model prog w) A (eval (.Attribute e f pos) env) Q E s :=
 Attribute_any_ h (by rw [arm_eval_Attribute,hb])
end
def z53 (K:W.Frag)(ta:TE)(f:Str):TE:=fun σ H Q=>ta σ H fun x H1=>∃ a C dx fs v,x = .ref a/\H1 a=some (.ins C dx fs)/\Cls K C/\zlk K C f/\fs.lookup f=some v/\Q v H1
def z6j (K:W.Frag)(ta tv:TE)(f:Str):TS:=fun D σ H=>tv σ H fun y H1=>ta σ H1 fun x H2=>∃ a C dx fs,x = .ref a/\H2 a=some (.ins C dx fs)/\Cls K C/\zlk K C f/\fs.length<1000 /\
 D.nx σ (upd H2 a (.ins C dx (zf8 f y fs)))
section
variable {X:Cx} {o e value:Expr} {f:Str} {pos pos':Pos} {ta tv:TE}
theorem za9 (he:PE X e ta)(hb:attributeBase e f X.env (eval e X.env)=eval e X.env):PE X (.Attribute e f pos) (z53 X.K ta f):=by
 intro pins s σ H Q I h
 refine z1f hb (thn (he pins s σ H _ I h) fun u s1 ⟨x,H1,I1,rx,a,C,dx,fs,v,ex,ea,c,n,l,q⟩=>?_)
 subst ex
 obtain rfl:u=Value.ref a:=rx
 exact ztb I1 ea c n l fun u' s2 I2 ru=>⟨v,H1,I2,ru,q⟩
theorem zf7 (ha:PE X o ta)(hv:PE X value tv)(hs:swapsWith value (some (.Attribute o f pos')) pos.line X.env=pure false):PS X (.Assign [.Attribute o f pos'] value pos) (z6j X.K ta tv f):=by
 intro pins s σ H D I h
 refine plainObj_wpAny_Assign_Attribute (thn (hv pins s σ H _ I h) fun u s1 ⟨y,H1,I1,ry,q⟩=>thn (ha pins s1 σ H1 _ I1 q) fun ov s2 ⟨x,H2,I2,rx,a,C,dx,fs,ex,ea,c,n,l,q2⟩=>?_) hs
 subst ex
 obtain rfl:ov=Value.ref a:=rx
 exact zss I2 ea c n l ry fun s3 I3=>⟨σ,_,I3,q2⟩
end
section
variable {X:Cx} {pins:List (Addr × Obj)} {σ:St} {H:Hp} {s:Shared} {A:Around} {E:Value->Shared->Prop} {Q:Value->Shared->Prop} {c:Value} {b:Bool}
inductive zlo (K:W.Frag) (H:Hp):V->Value->Prop where
 | non:zlo K H .non (.type "NoneType")
 | bl (x:Bool):zlo K H (.bl x) (.type "bool")
 | int (i:Int):zlo K H (.int i) (.type "int")
 | str (x:Str):zlo K H (.str x) (.type "str")
 | flt (x:UInt64):zlo K H (.flt x) (.type "float")
 | lst {a:Addr} {xs:List V} (e:H a=some (.lst xs)):zlo K H (.ref a) (.type "list")
 | frz {a:Addr} {o:Obj} {xs:List V} (e:H a=some (.frz o (.lst xs))):zlo K H (.ref a) (.type "list")
 | tup {a:Addr} {xs:List V} (e:H a=some (.tup xs)):zlo K H (.ref a) (.type "tuple")
 | dK {a:Addr} {kvs:List (Key × V)} (e:H a=some (.dK kvs)):zlo K H (.ref a) (.type "dict")
 | dT {a:Addr} {kvs:List (List Key × V)} (e:H a=some (.dT kvs)):zlo K H (.ref a) (.type "dict")
 | ins {a C dx:Addr} {fs:List (Str × V)} (e:H a=some (.ins C dx fs)) (cl:Cls K C) (ha:PySem.W.findIn K (.ref C) "__class__" = some (some (.builtin "object.__class__")))
   (hn:PySem.W.specialIn K (.builtin "object.__class__") "__get__" = some (some (.builtin "getset_descriptor.__get__"))) (htk:PySem.W.takesIn K (.builtin "object.__class__")=some true)
   (hm:PySem.W.mroIn K C (.type "object")=some true):zlo K H (.ref a) (.ref C)
theorem zwe {x:V}{u t:Value}(I:Inv X pins σ H s)(rx:zcb x u)(ty:zlo X.K H x t)(e:PySem.W.kitOne X.K t c=some b)(h:∀ tk,Q (.bool b) { s with toks:=tk }) :
  wpAny (model X.prog X.w) A (call (.builtin "isinstance") [u,c]) Q E s:=by
 cases ty with
 | non=>cases (show u=Value.none from rx); exact jl PySem.W.kitx_none I.kIn True.intro e (fun z=>nomatch z) h
 | bl y=>cases (show u=Value.bool y from rx); exact jl PySem.W.kitx_bool I.kIn True.intro e (fun z=>nomatch z) h
 | int i=>obtain ⟨t,q⟩:=(show ∃ t,u=Value.int i t from rx); cases q; exact jl PySem.W.kitx_int I.kIn True.intro e (fun z=>nomatch z) h
 | str y=>obtain ⟨t,q⟩:=(show ∃ t,u=Value.str y t from rx); cases q; exact jl PySem.W.kitx_str I.kIn True.intro e (fun z=>nomatch z) h
 | flt y=>obtain ⟨t,q⟩:=(show ∃ t,u=Value.float y t from rx); cases q; exact jl PySem.W.kitx_float I.kIn True.intro e (fun z=>nomatch z) h
 | @lst a xs ea =>
  cases (show u=Value.ref a from rx)
  obtain ⟨_,_,n,_,h1⟩:=(show zcl X.prog X.w H s.heap a (.lst xs) from I.hok a _ ea)
  exact jl ng I.kIn ⟨_,h1,rfl⟩ e (fun z=>nomatch z) h
 | @frz a ob xs ea =>
  cases (show u=Value.ref a from rx)
  obtain ⟨_,_,_,n,_,h1⟩:=(show zcl X.prog X.w H s.heap a (.frz ob (.lst xs)) from I.hok a _ ea)
  exact jl ng I.kIn ⟨_,h1,rfl⟩ e (fun z=>nomatch z) h
 | @tup a xs ea =>
  cases (show u=Value.ref a from rx)
  obtain ⟨_,_,_,p⟩:=(show zcl X.prog X.w H s.heap a (.tup xs) from I.hok a _ ea)
  obtain ⟨o,h1,h2,_⟩:=p
  exact jl PySem.W.kitx_tuple I.kIn ⟨o,h1,h2⟩ e (fun z=>nomatch z) h
 | @dK a kvs ea =>
  cases (show u=Value.ref a from rx)
  obtain ⟨_,_,vs,_,p⟩:=(show zcl X.prog X.w H s.heap a (.dK kvs) from I.hok a _ ea)
  obtain ⟨o,es,ep,h1,h2,_⟩:=p
  exact jl nh I.kIn ⟨o,h1,h2.1⟩ e (fun z=>nomatch z) h
 | @dT a kvs ea =>
  cases (show u=Value.ref a from rx)
  obtain ⟨_,_,xs,_,o,es,ep,h1,h2,_⟩:=(show zcl X.prog X.w H s.heap a (.dT kvs) from I.hok a _ ea)
  exact jl nh I.kIn ⟨o,h1,h2.1⟩ e (fun z=>nomatch z) h
 | @ins a C dx fs ea cl ha hn htk hm =>
  cases (show u=Value.ref a from rx)
  obtain ⟨mA,O,_⟩:=zm8 I.hok ea
  obtain ⟨od,J,_⟩:=O.look
  exact jl (PySem.W.kitx_own (cl.get _) cl.hd ha hn htk hm) I.kIn J e (fun z=>nomatch z) h
end
structure zed (k:Nat)(A:Around):Prop where
 hd:A.handled=none
 dp:A.depth+3 * k+5<recursionLimit
 un:A.units+16 * k+200<cLine
theorem zed.mono {j k:Nat}{A:Around}(r:zed k A)(h:j<=k):zed j A:=⟨r.hd,by have:=r.dp; omega,by have:=r.un; omega⟩
theorem zed.mm {j k:Nat}{A:Around}(r:zed k A)(h:j<=k:=by decide):zed j A:=r.mono h
theorem zed.deeper {k:Nat}{A:Around}(r:zed (k+1) A)(env:Env):zed k (A.deeper env) :=
 ⟨r.hd,by have:=r.dp; show A.depth+1+3 * k+5<_; omega,by have:=r.un; show A.units+3+16 * k+200<_; omega⟩
theorem zed.in1 {k:Nat}{A:Around}(r:zed (k+1) A):zed k A.in1 :=
 ⟨r.hd,by have:=r.dp; show A.depth+3 * k+5<_; omega,by have:=r.un; show A.units+1+16 * k+200<_; omega⟩
theorem zsn {A:Around}{C:Addr}{us:List Value}{kw:List (Str × Value)}:(A.under (.builtin "type.__call__" ⟨.ref C :: us,kw⟩)).depth=A.depth+1:=by
 first | rfl | simp [Around.under,Code.weight,Code.isCreation,Code.isGuard,Code.isCaller,Code.frames,Code.isFrame,guardIds]
theorem zsj {A:Around}{C:Addr}{us:List Value}{kw:List (Str × Value)}:(A.under (.builtin "type.__call__" ⟨.ref C :: us,kw⟩)).units=A.units+1:=by
 first | rfl | simp [Around.under,Code.cUnits,Code.frames,Code.isFrame]
theorem zed.make {k:Nat}{A:Around}(r:zed (k+1) A)(C:Addr)(us:List Value)(kw:List (Str × Value)):zed k (A.under (.builtin "type.__call__" ⟨.ref C :: us,kw⟩)) :=
 ⟨r.hd,by have:=r.dp; rw [zsn]; omega,by have:=r.un; rw [zsj]; omega⟩
theorem zed.depth {k:Nat}{A:Around}(r:zed k A):A.depth<recursionLimit:=by have:=r.dp; omega
theorem zed.units {k:Nat}{A:Around}(r:zed k A):A.units+64<cLine:=by have:=r.un; omega
def zzi:TA:=fun _ H Q=>Q [] H
def zl1 (ta:TE)(tr:TA):TA:=fun σ H Q=>ta σ H fun x H1=>tr σ H1 fun xs H2=>Q (x :: xs) H2
section
variable {X:Cx} {e:Expr} {es:List Expr} {te:TE} {t:TA} {pos:Pos}
theorem zab:PA X [] zzi:=fun _ _ _ _ H Q I h=>Calls.spliced_nil ⟨[],H,I,.nil,h⟩
theorem zaa (ha:PE X e te)(hr:PA X es t)(hs:starEach (e :: es) X.env=(false,eval e X.env) :: starEach es X.env:=by rfl):PA X (e :: es) (zl1 te t):=by
 intro pos pins s σ H Q I h
 rw [hs]
 show wpAny _ _ (spliced ((false,eval e X.env) :: backTo pos (starEach es X.env))) _ _ s
 refine Calls.spliced_cons (thn (ha pins s σ H _ I h) fun u s1 ⟨x,H1,I1,r1,q1⟩=>?_)
 exact thn (hr pos pins s1 σ H1 _ I1 q1) fun us s2 ⟨xs,H2,I2,r2,q2⟩=>⟨x :: xs,H2,I2,.cons r1 r2,q2⟩
def z6m (t:TA):TE:=fun σ H Q=>t σ H fun xs H1=>xs.length<=sizeLine/\∀ p,H1 p=none->Q (.ref p) (upd H1 p (.tup xs))
def z5x (t:TA):TE:=fun σ H Q=>t σ H fun xs H1=>xs.length<=sizeLine/\∀ p,H1 p=none->Q (.ref p) (upd H1 p (.lst xs))
theorem ze9 {x1}(h:PA X es t):PE X (.Tuple es x1 pos) (z6m t):=by
 intro pins s σ H Q I hq
 refine wpAny_Tuple_spliced (thn (h pos pins s σ H _ I hq) fun us s1 ⟨xs,H1,I1,r,z,q⟩=>⟨by rw [<- r.length]; exact z,?_⟩)
 have hf:H1 s1.heap.objs.size=none:=I1.hok.fresh (gd _)
 refine ⟨.ref s1.heap.objs.size,upd H1 s1.heap.objs.size (.tup xs),I1.laid (t':=s1.toks) (fun b u e=>Heap.get?_push_of_some _ e) (gd _) ?_,rfl,q _ hf⟩
 exact ⟨z,us,r,⟨_,Heap.get?_push_size _ rfl,rfl,_,rfl⟩⟩
theorem zb0 (h:PA X es t):PE X (.List es pos) (z5x t):=by
 intro pins s σ H Q I hq
 refine wpAny_List_spliced (thn (h pos pins s σ H _ I hq) fun us s1 ⟨xs,H1,I1,r,z,q⟩=>⟨by rw [<- r.length]; exact z,?_⟩)
 have hf:H1 s1.heap.objs.size=none:=I1.hok.fresh (gd _)
 refine ⟨.ref s1.heap.objs.size,upd H1 s1.heap.objs.size (.lst xs),I1.laid (t':=s1.toks) (fun b u e=>Heap.get?_push_of_some _ e) (gd _) ?_,rfl,q _ hf⟩
 exact ⟨z,us,0,r,Heap.get?_push_size _ rfl⟩
end
abbrev Sp:=List V->Hp->VK->XK->Prop
abbrev CXT:=List Env->Hp->Shared->XK->Value->Shared->Prop
structure zwo (P:Program)(w:World)(K:W.Frag)(mg:Str->Option Value)(base:Heap)(A:Around)(outer:List Env)(s:Shared)(H:Hp):Prop where
 frames:A.frames=some outer
 mod:Mod K mg base
 bs:∀ b o,base.get? b=some o->s.heap.get? b=some o/\H b=none
 bsz:base.objs.size<=s.heap.objs.size
 funs:s.heap.FunFrames base outer
 frf:∀ b∈frs outer,H b=none
 hok:HOk P w H s.heap
 bare:AllBare s.gens
def CE (outer:List Env)(P:Program)(w:World)(H:Hp)(s:Shared)(Q:VK)(u:Value)(s':Shared):Prop :=
 ∃ v H',s'.os=s.os/\AllBare s'.gens/\Un (frs outer) [] H H' s.heap s'.heap/\HOk P w H' s'.heap/\zcb v u/\Q v H'
def CR (CX:CXT)(outer:List Env)(P:Program)(w:World)(H:Hp)(s:Shared)(Q:VK)(E:XK)(r:Result)(s':Shared):Prop :=
 match r with
 | .ok (.ret u)=>CE outer P w H s Q u s'
 | .ok _=>False
 | .error e=>CX outer H s E e s'
structure zc_ (P:Program)(w:World)(K:W.Frag)(mg:Str->Option Value)(base:Heap)(CX:CXT)(k:Nat)(f:Addr)(fd:FuncData)(ps:List Str)(sp:Sp):Prop where
 len:∀ vs H Q E,sp vs H Q E->vs.length=ps.length
 run:∀ (A:Around) (outer:List Env) (s:Shared) (H:Hp) (args:Args) (us:List Value) (vs:List V) (Q:VK) (E:XK),zed k A->zwo P w K mg base A outer s H->BindsTo s fd args (ps.zip us)->zb8 vs us->sp vs H Q E ->
  codeAny (model P w) A (.call (.ref f) args) (CR CX outer P w H s Q E) s
theorem zwo.make {P:Program}{w:World}{K:W.Frag}{mg:Str->Option Value}{base:Heap}{A:Around}{outer:List Env}{s:Shared}{H:Hp}(e:zwo P w K mg base A outer s H)(C:Addr)(us:List Value)(kw:List (Str × Value)) :
  zwo P w K mg base (A.under (.builtin "type.__call__" ⟨.ref C :: us,kw⟩)) outer s H:=⟨by first | exact e.frames | (simpa [Around.under,Code.envs,Code.isFrame,pushEnvs] using e.frames),e.mod,e.bs,e.bsz,e.funs,e.frf,e.hok,e.bare⟩
theorem zwo.in1 {P:Program}{w:World}{K:W.Frag}{mg:Str->Option Value}{base:Heap}{A:Around}{outer:List Env}{s:Shared}{H:Hp}(e:zwo P w K mg base A outer s H) :
  zwo P w K mg base A.in1 outer s H:=⟨e.frames,e.mod,e.bs,e.bsz,e.funs,e.frf,e.hok,e.bare⟩
section
variable {X:Cx} {pins:List (Addr × Obj)} {σ:St} {H:Hp} {s s':Shared}
theorem Inv.env0 (I:Inv X pins σ H s):zwo X.prog X.w X.K X.mg X.base X.A X.stack s H :=
 ⟨I.ok.frames,I.ok.mod,I.bs,gf I.ok.bsz I.sz,I.stack,I.stkFree,I.hok,I.bare⟩
theorem Inv.after {Q:VK}{u:Value}(I:Inv X pins σ H s)(h:CE X.stack X.prog X.w H s Q u s'):EP X pins σ Q u s':=by
 obtain ⟨v,H',os,bare,un,hok,r,q⟩:=h
 obtain ⟨hh,g,d,t,a⟩:=s'
 obtain rfl:a=s.os:=os
 exact ⟨v,H',I.call (h':=hh) (g':=g) (d':=d) (t':=t) (ch:=[]) un hok bare (fun b z=>absurd z (by simp)),r,q⟩
end
def zxh (sp:Sp)(dvs:List V)(E:XK)(t:TA):TE:=fun σ H Q=>t σ H fun vs H1=>sp (vs++dvs) H1 Q E
def z0r (C:Addr)(m:Str)(sp:Sp)(dvs:List V)(E:XK)(ta:TE)(t:TA):TE:=fun σ H Q=>ta σ H fun x H1=>∃ a dx fs,x = .ref a/\H1 a=some (.ins C dx fs)/\fs.lookup m=none /\
 t σ H1 fun vs H2=>sp (x :: (vs++dvs)) H2 Q E
def z5f (C:Addr)(sp:Sp)(dvs:List V)(E:XK)(t:TA):TE:=fun σ H Q=>t σ H fun vs H1=>∀ x dx,H1 x=none->H1 dx=none->dx≠x ->
 sp (.ref x :: (vs++dvs)) (upd (upd H1 dx (.own x)) x (.ins C dx [])) (fun v H2=>v = .non/\Q (.ref x) H2) E
def zci (K:W.Frag)(fd:FuncData)(ps:List Str)(ds:List Value):Prop :=
 ∀ (s:Shared) (us:List Value),K.In s.heap->(us++ds).length=ps.length->BindsTo s fd ⟨us,[]⟩ (ps.zip (us++ds))
theorem zci.all {K:W.Frag}{fd:FuncData}{ps:List Str}(h:∀ us:List Value,us.length=ps.length->bindArgs fd ⟨us,[]⟩=pure (ps.zip us)):zci K fd ps []:=fun s us _ hl=>by
 rw [j6] at hl |-
 exact .of_eq (h us hl)
def zko (CX:CXT)(X:Cx)(E:XK):Prop:=∀ (pins:List (Addr × Obj)) (σ:St) (H:Hp) (s:Shared) (e:Value) (s':Shared),Inv X pins σ H s->CX X.stack H s E e s'->X.xe e s'
section
variable {X:Cx} {CX:CXT} {k:Nat} {f C:Addr} {fd:FuncData} {ps:List Str} {sp:Sp} {dvs:List V} {ds:List Value} {E:XK} {x m:Str} {p pos apos:Pos} {e o:Expr} {es:List Expr} {ta:TE} {t:TA}
theorem zrx {pins:List (Addr × Obj)}{σ:St}{H:Hp}{s:Shared}{Q:VK}{us:List Value}{vs:List V}(F:zc_ X.prog X.w X.K X.mg X.base CX k f fd ps sp)(hr:zed k X.A)(hb:zci X.K fd ps ds)(hd:zb8 dvs ds)(hx:zko CX X E)
  (I:Inv X pins σ H s)(r:zb8 vs us)(h:sp (vs++dvs) H Q E):wpAny (model X.prog X.w) X.A (call (.ref f) us) (EP X pins σ Q) X.xe s:=by
 have r2:zb8 (vs++dvs) (us++ds):=r.append hd
 have hl:(us++ds).length=ps.length:=by rw [<- r2.length]; exact F.len _ _ _ _ h
 refine wpAny_call (codeAny_mono (F.run X.A X.stack s H ⟨us,[]⟩ (us++ds) (vs++dvs) Q E hr I.env0 (hb s us I.kIn hl) r2 h) fun r s' hq=>?_)
 cases r with
 | error e=>exact hx pins σ H s e s' I hq
 | ok fl =>
  cases fl with
  | ret u=>exact I.after hq
  | next=>exact False.elim hq
  | brk=>exact False.elim hq
  | cont=>exact False.elim hq
theorem zfv (F:zc_ X.prog X.w X.K X.mg X.base CX k f fd ps sp)(hr:zed k X.A)(hg:Gl X x)(hm:X.mg x=some (.ref f))(hk:PySem.W.keepIn X.K (.ref f)=true)(hb:zci X.K fd ps ds)(hd:zb8 dvs ds)(hx:zko CX X E)
  (ha:PA X (e :: es) t)(hdb:(x == ("__debug__" : Str))=false:=by decide)(he:starEach (e :: es) X.env=(false,eval e X.env) :: starEach es X.env:=by rfl)(hpl:(backTo pos (starEach es X.env)).any (·.1)=false:=by rfl) :
  PE X (.Call (.Name x p) (e :: es) [] pos) (zxh sp dvs E t):=by
 intro pins s σ H Q I h
 refine wpAny_Call_Name_kw (zis I hg hm ?_ hdb)
 refine k7 (h₀:=X.base) I.ok.mod.kin hk (thn (ha pos pins s σ H _ I h) fun us s1 ⟨vs,H1,I1,r,q⟩=>⟨I1.kIn,?_⟩) he hpl
 exact zrx F hr hb hd hx I1 r q
theorem zfy {pl:Sem Bool}(he:PE X o ta)(c:Cls X.K C)(hm:zz8 X.K C m f)(F:zc_ X.prog X.w X.K X.mg X.base CX k f fd ps sp)(hr:zed k X.A)(hb:zci X.K fd ps ds)(hd:zb8 dvs ds)(hx:zko CX X E)(ha:PA X (e :: es) t)
  (hst:starEach (e :: es) X.env=(false,eval e X.env) :: starEach es X.env:=by rfl)(hpl:(backTo pos (starEach es X.env)).any (·.1)=false:=by rfl)
  (ht:eval (.Call (.Attribute o m apos) (e :: es) [] pos) X.env=(do
   let ov <- eval o X.env
   standAt apos.atName
   let (f,first) <- holding [ov] (getMethod ov m pl)
   callWith pos f first (backTo pos (starEach (e :: es) X.env)) (backToKw pos (keywordEach [] X.env))):=by rfl) :
  PE X (.Call (.Attribute o m apos) (e :: es) [] pos) (z0r C m sp dvs E ta t):=by
 intro pins s σ H Q I h
 refine kr (pl:=pl) (thn (he pins s σ H _ I h) fun u s1 ⟨x,H1,I1,rx,a,dx,fs,ex,ea,l,q⟩=>?_) ht
 subst ex
 obtain rfl:u=Value.ref a:=rx
 refine zil I1 ea c hm l ?_
 refine k7 (first:=[.ref a]) (h₀:=X.base) I.ok.mod.kin hm.kp (thn (ha pos pins s1 σ H1 _ I1 q) fun us s2 ⟨vs,H2,I2,r,q2⟩=>⟨I2.kIn,?_⟩) hst hpl
 exact zrx (us:= .ref a :: us) (vs:= .ref a :: vs) F hr hb hd hx I2 (.cons rfl r) q2
theorem zbi {pl:Sem Bool}(he:PE X o ta)(c:Cls X.K C)(hm:zz8 X.K C m f)(F:zc_ X.prog X.w X.K X.mg X.base CX k f fd ps sp)(hr:zed k X.A)(hb:zci X.K fd ps ds)(hd:zb8 dvs ds)(hx:zko CX X E)
  (ht:eval (.Call (.Attribute o m apos) [] [] pos) X.env=(do
   let ov <- eval o X.env
   standAt apos.atName
   let (f,first) <- holding [ov] (getMethod ov m pl)
   callWith pos f first (backTo pos (starEach [] X.env)) (backToKw pos (keywordEach [] X.env))):=by rfl) :
  PE X (.Call (.Attribute o m apos) [] [] pos) (z0r C m sp dvs E ta zzi):=by
 intro pins s σ H Q I h
 refine kr (pl:=pl) (thn (he pins s σ H _ I h) fun u s1 ⟨x,H1,I1,rx,a,dx,fs,ex,ea,l,q⟩=>?_) ht
 subst ex
 obtain rfl:u=Value.ref a:=rx
 refine zil I1 ea c hm l ?_
 exact PySem.W.callWith_K0 (first:=[.ref a]) I1.kIn hm.kp (zrx (us:=[.ref a]) (vs:=[.ref a]) F hr hb hd hx I1 (.cons rfl .nil) q)
structure Mk (K:W.Frag)(C f:Addr):Prop where
 makes:PySem.W.makesIn K C=true
 init:PySem.W.findIn K (.ref C) "__init__" = some (some (.ref f))
 fn:PySem.W.isFn K (.ref f)=true
 kp:PySem.W.keepIn K (.ref C)=true
theorem zyr {pins:List (Addr × Obj)}{σ:St}{H:Hp}{s:Shared}{Q:VK}{us:List Value}{vs:List V}(M:Mk X.K C f)(F:zc_ X.prog X.w X.K X.mg X.base CX k f fd ps sp)(hr:zed (k+1) X.A)(hb:zci X.K fd ps ds)(hd:zb8 dvs ds)
  (hx:zko CX X E)(I:Inv X pins σ H s)(r:zb8 vs us)
  (h:∀ x dx,H x=none->H dx=none->dx≠x->sp (.ref x :: (vs++dvs)) (upd (upd H dx (.own x)) x (.ins C dx [])) (fun v H2=>v = .non/\Q (.ref x) H2) E) :
  wpAny (model X.prog X.w) X.A (call (.ref C) us) (EP X pins σ Q) X.xe s:=by
 have hq:=h (s.heap.objs.size+1) s.heap.objs.size (I.hok.fresh (j9 _)) (I.hok.fresh (gd _)) (gc (ip _))
 have I2:=Inv.made (C:=C) I
 have r2:zb8 (V.ref (s.heap.objs.size+1) :: (vs++dvs)) (Value.ref (s.heap.objs.size+1) :: (us++ds)):= .cons rfl (r.append hd)
 have hl:(Value.ref (s.heap.objs.size+1) :: us++ds).length=ps.length:=by
  have e:=r2.length
  rw [F.len _ _ _ _ hq] at e
  exact e.symm
 refine wpAny_call (zxt (f:=f) I.kIn M.makes M.init (beq_iff_eq.mp M.fn) (codeAny_mono (F.run _ X.stack _ _ ⟨Value.ref (s.heap.objs.size+1) :: us,[]⟩ (Value.ref (s.heap.objs.size+1) :: (us++ds)) _ _ E (hr.make C us [])
  (I2.env0.make C us []) (hb _ (Value.ref (s.heap.objs.size+1) :: us) I2.kIn hl) r2 hq) fun r s' a=>?_))
 cases r with
 | error e=>exact hx pins σ _ _ e s' I2 a
 | ok fl =>
  cases fl with
  | ret u =>
   obtain ⟨v,H',I3,rv,ev,q3⟩:=I2.after a
   subst ev
   exact ⟨rv,⟨V.ref (s.heap.objs.size+1),H',I3,rfl,q3⟩⟩
  | next=>exact False.elim a
  | brk=>exact False.elim a
  | cont=>exact False.elim a
theorem zpy (M:Mk X.K C f)(F:zc_ X.prog X.w X.K X.mg X.base CX k f fd ps sp)(hr:zed (k+1) X.A)(hg:Gl X x)(hm:X.mg x=some (.ref C))(hb:zci X.K fd ps ds)(hd:zb8 dvs ds)(hx:zko CX X E)
  (ha:PA X (e :: es) t)(hdb:(x == ("__debug__" : Str))=false:=by decide)(he:starEach (e :: es) X.env=(false,eval e X.env) :: starEach es X.env:=by rfl)(hpl:(backTo pos (starEach es X.env)).any (·.1)=false:=by rfl) :
  PE X (.Call (.Name x p) (e :: es) [] pos) (z5f C sp dvs E t):=by
 intro pins s σ H Q I h
 refine wpAny_Call_Name_kw (zis I hg hm ?_ hdb)
 refine k7 (h₀:=X.base) I.ok.mod.kin M.kp (thn (ha pos pins s σ H _ I h) fun us s1 ⟨vs,H1,I1,r,q⟩=>⟨I1.kIn,?_⟩) he hpl
 exact zyr M F hr hb hd hx I1 r q
end
def PK (X:Cx)(kws:List Keyword)(t:TA):Prop :=
 ∀ (pos:Pos) (pins:List (Addr × Obj)) (s:Shared) (σ:St) (H:Hp) (Q:List V->Hp->Prop),Inv X pins σ H s->t σ H Q->wpAny (model X.prog X.w) X.A (evalAll ((backToKw pos (keywordEach kws X.env)).map (·.2))) (AP X pins σ Q) X.xe s
section
variable {X:Cx} {x:Str} {pos kpos:Pos} {e:Expr} {kws:List Keyword} {te:TE} {t:TA} {nm:Option Str}
theorem z2u:PK X [] zzi:=fun _ _ _ _ H Q I h=>wpAny_evalAll_nil ⟨[],H,I,.nil,h⟩
theorem z06 (ha:PE X e te)(hr:PK X kws t):PK X (⟨nm,e,kpos⟩ :: kws) (zl1 te t):=by
 intro pos pins s σ H Q I h
 show wpAny _ _ (evalAll ((do let v <- eval e X.env; standAt pos; pure v) :: (backToKw pos (keywordEach kws X.env)).map (·.2))) _ _ s
 refine wpAny_evalAll_cons (wpAny_bind (thn (ha pins s σ H _ I h) fun u s1 ⟨x,H1,I1,r1,q1⟩=>wpAny_bind (wpAny_standAt (wpAny_pure ?_))))
 exact thn (hr pos pins s1 σ H1 _ I1 q1) fun us s2 ⟨xs,H2,I2,r2,q2⟩=>⟨x :: xs,H2,I2,.cons r1 r2,q2⟩
end
structure zaj (N P:List Str)(sc:Scope):Prop where
 kind:sc.kind = .function
 co:sc.isCoroutine=false
 gen:sc.isGenerator=false
 nd:N.Nodup
 pre:N.take P.length=P
 par:∀ x∈P,sc.names.lookup x=some .local\/sc.names.lookup x=some .cell
 nofree:∀ y∈sc.names,y.2≠ .free
theorem zoj {kindOf:Str->Option NameKind}{x:Str}:∀ {binds:List (Str × Value)} {m:Str->Option Value},(∀ v,(x,v)∉binds)->bindL kindOf binds m x=m x
 | [],_,_=>rfl
 | (n,v) :: r,m,h=>by
  unfold bindL
  rw [zoj fun w hw=>h w (fg _ hw)]
  split
  ·have:x≠n:=by rintro rfl; exact h v fk
   simp [this]
  ·rfl
theorem zoz {kindOf:Str->Option NameKind}{x:Str}:∀ {binds:List (Str × Value)} {m:Str->Option Value},(∀ v,(x,v)∉binds)->bindC kindOf binds m x=m x
 | [],_,_=>rfl
 | (n,v) :: r,m,h=>by
  unfold bindC
  rw [zoz fun w hw=>h w (fg _ hw)]
  split
  ·rfl
  ·have:x≠n:=by rintro rfl; exact h v fk
   simp [this]
theorem zpj {kindOf:Str->Option NameKind}{x:Str}{v:Value}:∀ {P:List Str} {vs:List Value} {i:Nat} {m:Str->Option Value},P.Nodup->P[i]? = some x->vs[i]? = some v->kindOf x=some .local ->
  bindL kindOf (P.zip vs) m x=some v
 | [],_,_,_,_,h,_,_=>by simp at h
 | _ :: _,[],_,_,_,_,h,_=>by simp at h
 | p :: P,w :: vs,0,m,nd,h1,h2,hk=>by
  simp at h1 h2; subst h1; subst h2
  show bindL kindOf ((p,w) :: P.zip vs) m p=_
  unfold bindL
  rw [zoj fun v hv=>(j7.mp nd).1 (jq hv).1,if_pos hk]
  simp
 | p :: P,w :: vs,i+1,m,nd,h1,h2,hk=>by
  show bindL kindOf ((p,w) :: P.zip vs) m x=_
  unfold bindL
  exact zpj (i:=i) (j7.mp nd).2 (by simpa using h1) (by simpa using h2) hk
theorem zpd {kindOf:Str->Option NameKind}{x:Str}{v:Value}:∀ {P:List Str} {vs:List Value} {i:Nat} {m:Str->Option Value},P.Nodup->P[i]? = some x->vs[i]? = some v->kindOf x≠some .local ->
  bindC kindOf (P.zip vs) m x=some v
 | [],_,_,_,_,h,_,_=>by simp at h
 | _ :: _,[],_,_,_,_,h,_=>by simp at h
 | p :: P,w :: vs,0,m,nd,h1,h2,hk=>by
  simp at h1 h2; subst h1; subst h2
  show bindC kindOf ((p,w) :: P.zip vs) m p=_
  unfold bindC
  rw [zoz fun v hv=>(j7.mp nd).1 (jq hv).1,if_neg hk]
  simp
 | p :: P,w :: vs,i+1,m,nd,h1,h2,hk=>by
  show bindC kindOf ((p,w) :: P.zip vs) m x=_
  unfold bindC
  exact zpd (i:=i) (j7.mp nd).2 (by simpa using h1) (by simpa using h2) hk
def start (N:List Str)(vs:List V):St:=vs.map some++jx (N.length - vs.length) none
def zn0 (CX:CXT)(P:Program)(w:World)(K:W.Frag)(mg:Str->Option Value)(base:Heap)(N:List Str)(qual:Str)(scope:Scope)(f:Addr)(cd:Value)(A:Around)(outer:List Env)(s:Shared)(H:Hp)(E:XK)(fn:Str->Bool:=fun _=>true):Cx where
 prog:=P
 w:=w
 K:=K
 mg:=mg
 base:=base
 A:=A.deeper (envOfC qual scope s.heap.objs.size f cd)
 N:=N
 s₀:=s
 H₀:=H
 env:=envOfC qual scope s.heap.objs.size f cd
 outer:=outer
 stack:=envOfC qual scope s.heap.objs.size f cd :: outer
 ex:=[]
 calm:=true
 fn:=fn
 pn:=[]
 xe:=fun e s'=>wpAny (model P w) (A.deeper (envOfC qual scope s.heap.objs.size f cd)) (leaving (envOfC qual scope s.heap.objs.size f cd) e) (fun _ s''=>CX outer H s E e s'') (fun e' s''=>CX outer H s E e' s'') s'
theorem zrc {sc:Scope}{n:Nat}{x:Str}(h:sc.names.lookup x=some .cell):∃ c,(cellsFrom n sc.names []).lookup x=some c:=by
 have q:=kc sc.names n [] (.inl h)
 exact js.mp q
theorem zpm {CX:CXT}{P:Program}{w:World}{K:W.Frag}{mg:Str->Option Value}{base:Heap}{N ps:List Str}{qual:Str}{scope:Scope}{f:Addr}{cd:Value}{A:Around}{outer:List Env}{s s1:Shared}{H:Hp}{E:XK}{us:List Value}{vs:List V}{fn:Str->Bool}
  (S:zaj N ps scope)(hd:A.handled=none)(e0:zwo P w K mg base A outer s H)(hl:vs.length=ps.length)(r:zb8 vs us)
  (x:InCallC s s.heap.objs.size (bindL (envOfC qual scope s.heap.objs.size f cd).kindOf (ps.zip us) fun _=>none) (cellsFrom (s.heap.objs.size+1) scope.names []) (bindC (envOfC qual scope s.heap.objs.size f cd).kindOf (ps.zip us) fun _=>none) s1) :
  Inv (zn0 CX P w K mg base N qual scope f cd A outer s H E fn) [] (start N vs) H s1:=by
 have j:ps.length<=N.length:=by have:=congrArg km S.pre; rw [gh] at this; omega
 obtain ⟨h1,tk,rfl,hk⟩:=x.done
 have d:∀ b:Addr,b∉(zn0 CX P w K mg base N qual scope f cd A outer s H E fn).ex:=fun b z=>absurd (show b∈([]:List Addr) from z) (by simp)
 refine ⟨⟨e0.mod,S.kind,rfl,rfl,gd _,fun y z c h1 h2=>?_,fun y hy=>?_,fun y c _ h=>?_,fun _=>hd,ku e0.frames,.inr ⟨rfl,rfl⟩,fun b z=>absurd z (d b),e0.bs,e0.bsz,fun b _ _=>d b,fun b z=>absurd z (d b),e0.funs,e0.frf⟩,
  rfl,e0.bare,Un.kept hk,⟨_,x.toInCall.ns,fun i y v h1 h2 h3=>?_⟩,fun y c h=>⟨_,x.cell y c h⟩,e0.hok.fresh (gd _),fun y c h=>?_,fun p hp=>absurd (show p∈([]:List (Addr × Obj)) from hp) (by simp),e0.hok.kept hk,?_⟩
 ·exact name_of_addr x.apart (PySem.mem_of_lookup h1) (PySem.mem_of_lookup h2)
 ·have hy:scope.names.lookup y=some .cell\/scope.names.lookup y=some .free:=hy
  rcases hy with hy | hy
  ·exact zrc hy
  ·exact absurd rfl (S.nofree _ (PySem.mem_of_lookup hy))
 ·exact ia (x.above y c (PySem.mem_of_lookup h))
 ·have hi:i<vs.length:=by
   unfold start at h2
   by_cases hi:i<vs.length
   ·exact hi
   ·rw [List.getElem?_append_right (by simpa using hi)] at h2
    rw [List.getElem?_replicate] at h2
    split at h2 <;> cases h2
  have ha:vs[i]? = some v:=by
   unfold start at h2
   rw [List.getElem?_append_left (by simpa using hi),List.getElem?_map] at h2
   cases e:vs[i]? with
   | none=>rw [e] at h2; cases h2
   | some a=>rw [e] at h2; cases h2; rfl
  obtain ⟨u,hu,rv⟩:=r.get ha
  have hp:ps[i]? = some y:=by
   rw [<- S.pre,List.getElem?_take_of_lt (by omega)]; exact h1
  have g:ps.Nodup:=by rw [<- S.pre]; exact S.nd.sublist (jy _ _)
  refine ⟨u,rv,?_⟩
  rcases S.par y (fm hp) with k | k
  ·exact .inl ⟨k,zpj g hp hu k⟩
  ·obtain ⟨c,e⟩:=zrc (n:=s.heap.objs.size+1) k
   refine .inr ⟨.inl k,c,e,?_⟩
   have q:=x.cell y c e
   rw [zpd g hp hu (by show scope.names.lookup y≠_; rw [k]; decide)] at q
   exact q
 ·have z:=e0.hok.fresh (ia (x.above y c (PySem.mem_of_lookup h)))
  exact ⟨fun _=>z,.inl z⟩
 ·unfold start
  show _=N.length
  rw [fe,d9,jh]
  omega
theorem z00 {CX:CXT}{P:Program}{w:World}{K:W.Frag}{mg:Str->Option Value}{base:Heap}{k:Nat}{f:Addr}{name qual:Str}{params:Arguments}{body:List Stmt}{scope:Scope}{dV kV doc pm cdv ct oc:Value}{an od:Option Addr}
  {osl:Array (Option Value)}{N ps:List Str}{sp:Sp}(lk:K.lookup f=some ⟨oc,od,.func (PySem.W.fnOf name qual params body scope dV kV doc pm an cdv ct),osl⟩)(hcd:PySem.W.codeIn K cdv qual=true)(S:zaj N ps scope)
  (len:∀ vs H Q E,sp vs H Q E->vs.length=ps.length)
  (hbody:∀ (A:Around) (outer:List Env) (s:Shared) (H:Hp) (vs:List V) (Q:VK) (E:XK),zed k (A.deeper (envOfC qual scope s.heap.objs.size f cdv))->sp vs H Q E ->
   ∃ t,PSs (zn0 CX P w K mg base N qual scope f cdv A outer s H E) body t/\t { nx:=fun _ H'=>Q .non H',rt:=Q } (start N vs) H) :
  zc_ P w K mg base CX (k+1) f (PySem.W.fnOf name qual params body scope dV kV doc pm an cdv ct) ps sp:=by
 refine ⟨len,fun A outer s H args us vs Q E hr e0 hb r d=>?_⟩
 have hl:=len _ _ _ _ d
 have KX:K.In s.heap:=e0.mod.kin.keeps fun b o e=>(e0.bs b o e).1
 have g:s.heap.NoLimit:=e0.mod.nolimit.keeps fun b o e=>(e0.bs b o e).1
 have a:∀ y∈ps.zip us,scope.names.lookup y.1=some .local\/(scope.names.lookup y.1=some .cell/\((cellsFrom (s.heap.objs.size+1) scope.names []).lookup y.1).isSome=true):=fun ⟨n,v⟩ hy=>by
  rcases S.par n (jq hy).1 with q | q
  ·exact .inl q
  ·exact .inr ⟨q,kc _ _ _ (.inl q)⟩
 refine codeAny_call_function hr.depth (KX _ _ lk) rfl S.co S.gen rfl (mx KX hcd) (hb _ _ _ _ ?_)
 refine wpAny_newFunctionEnv_cells S.kind a fun env he s1 x=>?_
 subst he
 refine ⟨g.keeps x.toInCall.keep,codeAny_func ?_⟩
 obtain ⟨t,ht,hq⟩:=hbody A outer s H vs Q E (hr.deeper _) d
 have I:Inv (zn0 CX P w K mg base N qual scope f cdv A outer s H E) [] (start N vs) H s1:=zpm S hr.hd e0 hl r x
 refine wpAny_mono (ht [] s1 (start N vs) H _ I hq) (fun fl s' hs=>?_) fun e s' hs=>hs
 have c:∀ {σ':St} {H':Hp} {v:V} {u:Value},Inv (zn0 CX P w K mg base N qual scope f cdv A outer s H E) [] σ' H' s'->zcb v u->Q v H'->CE outer P w H s Q u s' :=
  fun {σ' H' v u} J rv q=>⟨v,H',J.os,J.bare,J.base,J.hok,rv,q⟩
 cases fl with
 | ret u =>
  obtain ⟨v,σ',H',J,rv,q⟩:=hs
  exact c J rv q
 | next =>
  obtain ⟨σ',H',J,q⟩:=hs
  exact c (v:=V.non) (u:=Value.none) J rfl q
 | brk =>
  obtain ⟨_,_,_,q⟩:=hs
  exact False.elim q
 | cont =>
  obtain ⟨_,_,_,q⟩:=hs
  exact False.elim q
section
variable {X:Cx} {x:Str} {p pos:Pos} {e:Expr} {es:List Expr} {t:TA} {id T:String} {r:List V->Hp->VK->Prop}
def tCB (r:List V->Hp->VK->Prop)(t:TA):TE:=fun σ H Q=>t σ H fun vs H1=>r vs H1 Q
theorem za0 (hc:zjt X (.builtin id) r)(hg:Gl X x)(hm:X.mg x=none)(hv:bootBuiltins x=some (.builtin id))(ha:PA X (e :: es) t)(hn:x≠ "__name__" :=by decide)(hdb:(x == ("__debug__" : Str))=false:=by decide)
  (he:starEach (e :: es) X.env=(false,eval e X.env) :: starEach es X.env:=by rfl)(hpl:(backTo pos (starEach es X.env)).any (·.1)=false:=by rfl):PE X (.Call (.Name x p) (e :: es) [] pos) (tCB r t):=by
 intro pins s σ H Q I h
 refine wpAny_Call_Name_kw (zmo I hg hm hv ?_ hn hdb)
 exact PyProof.Rows.callWith_builtin1 (thn (ha pos pins s σ H _ I h) fun us s1 ⟨vs,H1,I1,r1,q1⟩=>hc pins s1 σ H1 vs us Q I1 r1 q1) he hpl
theorem zh4 (hc:zjt X (.type T) r)(hg:Gl X x)(hm:X.mg x=none)(hv:bootBuiltins x=some (.type T))(ha:PA X (e :: es) t)(hn:x≠ "__name__" :=by decide)(hdb:(x == ("__debug__" : Str))=false:=by decide)
  (he:starEach (e :: es) X.env=(false,eval e X.env) :: starEach es X.env:=by rfl)(hpl:(backTo pos (starEach es X.env)).any (·.1)=false:=by rfl):PE X (.Call (.Name x p) (e :: es) [] pos) (tCB r t):=by
 intro pins s σ H Q I h
 refine wpAny_Call_Name_kw (zmo I hg hm hv ?_ hn hdb)
 exact PyProof.Rows.callWith_type1 (thn (ha pos pins s σ H _ I h) fun us s1 ⟨vs,H1,I1,r1,q1⟩=>hc pins s1 σ H1 vs us Q I1 r1 q1) he hpl
end
end L2
namespace HT
open PySem PyProof.Rows
section
def sIx (n d:Nat):Option Int->Nat
 | none=>d
 | some v=>if v<0 then (v+(n:Int)).toNat else min v.toNat n
theorem sIx_none (n d:Nat):sIx n d none=d:=rfl
theorem sIx_nat (n d k:Nat):sIx n d (some (k:Int))=min k n:=by
 show (if (k:Int)<0 then ((k:Int)+(n:Int)).toNat else min (k:Int).toNat n)=min k n
 rw [if_neg (by omega),ij]
end
end HT
namespace L2
open PySem PySem.Spec PyProof.Rows
abbrev TO:=St->Hp->(Option Int->Hp->Prop)->Prop
def PO (X:Cx)(e:Option Expr)(t:TO):Prop :=
 ∀ (pins:List (Addr × Obj)) (s:Shared) (σ:St) (H:Hp) (Q:Option Int->Hp->Prop),Inv X pins σ H s->t σ H Q ->
  wpAny (model X.prog X.w) X.A (evalPart e X.env) (fun u s'=>∃ o H',Inv X pins σ H' s'/\IsPart u o/\Q o H') X.xe s
def zzw:TO:=fun _ H Q=>Q none H
def z45 (t:TE):TO:=fun σ H Q=>t σ H fun x H1=>∃ i,x = .int i/\Q (some i) H1
theorem zi1 {ns:List Int}:∀ {us:List Value},zb8 (ns.map V.int) us->IntsAre us ns:=by
 induction ns with
 | nil=>intro us r; rw [mi] at r; cases r; exact .nil
 | cons n ns ih =>
  intro us r
  rw [gu] at r
  cases r with
  | cons r1 r2 =>
   obtain ⟨t,e⟩:=r1
   subst e
   exact .cons n t (ih r2)
section
variable {X:Cx} {e:Expr} {te:TE} {lo hi:Option Expr} {tl th:TO} {pos p2:Pos}
theorem zhl:PO X none zzw:=by
 intro pins s σ H Q I h
 rw [evalPart_none]
 exact wpAny_pure ⟨none,H,I,.none,h⟩
theorem zfn (h:PE X e te):PO X (some e) (z45 te):=by
 intro pins s σ H Q I hw
 rw [evalPart_some]
 refine thn (h pins s σ H _ I hw) fun u s1 ⟨x,H1,I1,r1,q1⟩=>?_
 obtain ⟨i,rfl,q⟩:=q1
 obtain ⟨t,rfl⟩:=r1
 exact ⟨some i,H1,I1,.int i t,q⟩
def SlR (X:Cx)(r:V->Option Int->Option Int->Hp->VK->Prop):Prop :=
 ∀ (pins:List (Addr × Obj)) (s:Shared) (σ:St) (H:Hp) (x:V) (v vl vu:Value) (lo hi:Option Int) (sl:Addr) (Q:VK),Inv X pins σ H s->zcb x v->s.heap.IsSliceOf sl vl vu .none->IsPart vl lo->IsPart vu hi->r x lo hi H Q ->
  ∃ T id,typeLookup (.type T) "__getitem__" = pure (some (.builtin id))/\s.TypeIs v T/\wpAny (model X.prog X.w) X.A (getItem v (.ref sl)) (EP X pins σ Q) X.xe s
def tSl (r:V->Option Int->Option Int->Hp->VK->Prop)(te:TE)(tl th:TO):TE:=fun σ H Q=>te σ H fun x H1=>tl σ H1 fun l H2=>th σ H2 fun u H3=>r x l u H3 Q
theorem zei {r:V->Option Int->Option Int->Hp->VK->Prop}(hr:SlR X r)(he:PE X e te)(hl:PO X lo tl)(hu:PO X hi th):PE X (.Subscript e (.Slice lo hi none p2) pos) (tSl r te tl th):=by
 intro pins s σ H Q I h
 refine Subscript_ (thn (he pins s σ H _ I h) fun v s1 ⟨x,H1,I1,r1,q1⟩=>?_)
 refine wpAny_Slice (thn (hl pins s1 σ H1 _ I1 q1) fun vl s2 ⟨l,H2,I2,pl,q2⟩=>thn (hu pins s2 σ H2 _ I2 q2) fun vu s3 ⟨u,H3,I3,pu,q3⟩=>?_)
 rw [evalPart_none]
 refine wpAny_pure ?_
 have I4:Inv X pins σ H3 { s3 with heap:=s3.heap.push { cls:= .type "slice",data:= .fields #[vl,vu,.none] } }:=I3.kept (t':=s3.toks) fun b ob q=>Heap.get?_push_of_some _ q
 obtain ⟨T,id,hT,ht,hg⟩:=hr pins { s3 with heap:=s3.heap.push { cls:= .type "slice",data:= .fields #[vl,vu,.none] } } σ H3 x v vl vu l u s3.heap.objs.size Q I4 r1 (Heap.IsSliceOf.new ..) pl pu q3
 show wpAny (model X.prog X.w) X.A (subscriptTail e (.Slice lo hi none p2) v (.ref s3.heap.objs.size)) (EP X pins σ Q) X.xe { s3 with heap:=s3.heap.push { cls:= .type "slice",data:= .fields #[vl,vu,.none] } }
 exact tail_any (ops:=[.ref s3.heap.objs.size,v]) ht hT hg (by with_unfolding_all rfl)
def znu (xs:List V)(lo hi:Option Int):List V:=(xs.drop (HT.sIx xs.length 0 lo)).take (HT.sIx xs.length xs.length hi - HT.sIx xs.length 0 lo)
theorem zp5 (xs:List V)(lo hi:Option Int):(znu xs lo hi).length<=xs.length:=by
 unfold znu
 rw [gh,ki]
 omega
end
def ixN (n:Nat)(i:Int):Option Nat:=if 0<=i then (if i<n then some i.toNat else none) else if -(n:Int)<=i then some (i+n).toNat else none
def atI {α:Type}(xs:List α)(i:Int):Option α:=(ixN xs.length i).bind fun j=>xs[j]?
theorem z07 {n:Nat}{i:Int}{j:Nat}(h:ixN n i=some j):seqIndex? i n=some j/\j<n/\ -(n:Int)<=i/\i<n:=by
 unfold ixN at h
 by_cases h0:0<=i
 ·rw [if_pos h0] at h
  by_cases h1:i<n
  ·rw [if_pos h1] at h
   have e:i.toNat=j:=Option.some.inj h
   exact ⟨by rw [seqIndex_of h0 h1,e],by omega,by omega,h1⟩
  ·rw [if_neg h1] at h; cases h
 ·rw [if_neg h0] at h
  by_cases h1 : -(n:Int)<=i
  ·rw [if_pos h1] at h
   have e:(i+n).toNat=j:=Option.some.inj h
   exact ⟨by rw [seqIndex_neg (by omega) h1,e],by omega,h1,by omega⟩
  ·rw [if_neg h1] at h; cases h
theorem ztl {α:Type}{xs:List α}{i:Int}{v:α}(h:atI xs i=some v):∃ j,seqIndex? i xs.length=some j/\xs[j]? = some v/\j<xs.length/\ -(xs.length:Int)<=i/\i<xs.length:=by
 unfold atI at h
 cases e:ixN xs.length i with
 | none=>rw [e] at h; cases h
 | some j =>
  rw [e] at h
  obtain ⟨h1,h2,h3,h4⟩:=z07 e
  exact ⟨j,h1,h,h2,h3,h4⟩
theorem ziv {α:Type}{xs:List α}{j:Nat}{v:α}(h:xs[j]? = some v):atI xs (j:Int)=some v:=by
 have hj:j<xs.length:=(List.getElem?_eq_some_iff.mp h).1
 have e:ixN xs.length (j:Int)=some j:=by
  unfold ixN
  rw [if_pos (by omega),if_pos (by omega)]; simp
 unfold atI; rw [e]; exact h
def z0u (b:Expr):Prop:=∀ o i,subscripted b false o i=operate [o,i] (getItem o i)
def IxR (X:Cx)(r:R2):Prop :=
 ∀ (value slice:Expr) (pins:List (Addr × Obj)) (s:Shared) (σ:St) (H:Hp) (x y:V) (v u:Value) (Q:VK),Inv X pins σ H s->zcb x v->zcb y u->r x y H Q ->
  subscripted slice false v u=operate [v,u] (getItem v u)->wpAny (model X.prog X.w) X.A (subscriptTail value slice v u) (EP X pins σ Q) X.xe s
def MtR (X:Cx)(id:String)(r:V->List V->Hp->VK->Prop):Prop :=
 ∀ (pins:List (Addr × Obj)) (s:Shared) (σ:St) (H:Hp) (x:V) (xs:List V) (v:Value) (us:List Value) (Q:VK),Inv X pins σ H s->zcb x v->zb8 xs us->r x xs H Q ->
  wpAny (model X.prog X.w) X.A (call (.builtin id) (v :: us)) (EP X pins σ Q) X.xe s
section
variable {X:Cx} {a b:Expr} {ta tb:TE} {pos:Pos}
theorem zfg {r:R2}(hr:IxR X r)(ha:PE X a ta)(hb:PE X b tb)(hs:z0u b):PE X (.Subscript a b pos) (tOp r ta tb):=by
 intro pins s σ H Q I h
 exact Subscript_ (z47 ha hb I h fun v u s2 x y H2 I2 rx ry q=>hr a b pins s2 σ H2 x y v u Q I2 rx ry q (hs _ _))
def z58 (K:W.Frag):R2:=fun x y H Q=>∃ p xs i v,x = .ref p/\y = .int i/\SqL K H p xs/\atI xs i=some v/\Q v H
def z5v (K:W.Frag):R2:=fun x y H Q=>∃ p xs i v,x = .ref p/\y = .int i/\SqT K H p xs/\atI xs i=some v/\Q v H
theorem zcg:IxR X (z58 X.K):=by
 intro value c pins s σ H x y v u Q I rx ry h hs
 obtain ⟨p,xs,i,z,rfl,rfl,hq,he,q⟩:=h
 cases rx
 obtain ⟨t,rfl⟩:=ry
 obtain ⟨its,r,pl,hz⟩:=I.list hq
 obtain ⟨j,h1,h2,h3,h4,h5⟩:=ztl he
 obtain ⟨w,ew,b⟩:=r.get h2
 have hl:=r.length
 have hn:=zvg
 have a:EP X pins σ Q w s:=⟨z,H,I,b,q⟩
 by_cases h0:0<=i
 ·have hj:i.toNat=j:=by
   rw [seqIndex_of h0 h5] at h1
   exact Option.some.inj h1
  exact item_listR pl.isList h0 (by omega) (by rw [hj]; simpa using ew) a hs
 ·have hj:(i+(its.toArray.size:Int)).toNat=j:=by
   rw [seqIndex_neg (by omega) h4] at h1
   rw [fq,<- hl]
   exact Option.some.inj h1
  exact subscriptTail_builtinR (x:=w) pl.isList.typeIs slot_list_getitem.lookup
   (wpAny_getItem_list_neg (Q:=fun r s'=>r=w/\EP X pins σ Q r s') pl.isList (by omega) (by rw [fq] <;> omega) (by omega) (by rw [hj]; simpa using ew) ⟨rfl,a⟩) hs
theorem zyw:IxR X (z5v X.K):=by
 intro value c pins s σ H x y v u Q I rx ry h hs
 obtain ⟨p,xs,i,z,rfl,rfl,hq,he,q⟩:=h
 cases rx
 obtain ⟨t,rfl⟩:=ry
 obtain ⟨its,r,pl,hz⟩:=I.tuple hq
 obtain ⟨j,h1,h2,h3,h4,h5⟩:=ztl he
 obtain ⟨w,ew,b⟩:=r.get h2
 have hl:=r.length
 have hn:=zvg
 have a:EP X pins σ Q w s:=⟨z,H,I,b,q⟩
 exact subscriptTail_builtinR (x:=w) pl.typeIs slot_tuple_getitem.lookup
  (getItem_tuple (j:=j) (Q:=fun r s'=>r=w/\EP X pins σ Q r s') pl (by omega) (by omega) (by rw [fq,<- hl]; exact h1) (by simpa using ew) ⟨rfl,a⟩) hs
theorem zor (lo hi:Option Int)(n:Nat):(sliceBounds lo hi none n).1=((HT.sIx n 0 lo:Nat):Int)/\(sliceBounds lo hi none n).2.1=((HT.sIx n n hi:Nat):Int)/\(sliceBounds lo hi none n).2.2=1:=by
 refine ⟨?_,?_,rfl⟩
 ·cases lo with
  | none=>simp [sliceBounds,HT.sIx]
  | some i =>
   simp only [sliceBounds,HT.sIx,ni,show (1:Int) > 0 by decide,if_true]
   by_cases h:i<0
   ·simp only [h,if_true] <;> omega
   ·simp only [h,if_false] <;> omega
 ·cases hi with
  | none=>simp [sliceBounds,HT.sIx]
  | some i =>
   simp only [sliceBounds,HT.sIx,ni,show (1:Int) > 0 by decide,if_true]
   by_cases h:i<0
   ·simp only [h,if_true] <;> omega
   ·simp only [h,if_false] <;> omega
theorem znf (its:List Value)(lo hi:Option Int):slicePick its.toArray lo hi none=((its.drop (HT.sIx its.length 0 lo)).take (HT.sIx its.length its.length hi - HT.sIx its.length 0 lo)).toArray:=by
 obtain ⟨h1,h2,h3⟩:=zor lo hi its.toArray.size
 unfold slicePick
 rw [h1,h2,h3]
 simp only [sliceRange_one,pick_run,fq] <;> rfl
def z6a (K:W.Frag):V->Option Int->Option Int->Hp->VK->Prop:=fun x lo hi H Q=>∃ a xs,x = .ref a/\SqL K H a xs/\∀ p,H p=none->Q (.ref p) (upd H p (.lst (znu xs lo hi)))
theorem zgl:SlR X (z6a X.K):=by
 intro pins s σ H x v vl vu lo hi sl Q I rx hs pl pu h
 obtain ⟨a,xs,rfl,hx,q⟩:=h
 cases rx
 obtain ⟨its,r,ht,hz⟩:=I.list hx
 have c:=r.length
 refine ⟨"list",_,slot_list_getitem.lookup,ht.isList.typeIs,?_⟩
 refine wpAny_getItem_list_slice ht.isList hs pl pu .none (by simp) ?_ (by rw [fq] <;> omega)
 rw [znf,<- c]
 refine ⟨.ref s.heap.objs.size,_,I.laid (t':=s.toks) (o:= .lst (znu xs lo hi)) (fun b ob q=>Heap.get?_push_of_some _ q) (gd _) ?_,rfl,q _ (I.hok.fresh (gd _))⟩
 exact ⟨gf (zp5 xs lo hi) hz,_,0,(r.drop (HT.sIx xs.length 0 lo)).take (HT.sIx xs.length xs.length hi - HT.sIx xs.length 0 lo),Heap.get?_push_size _ rfl⟩
def znm:V->Bool
 | .non=>true
 | .bl _=>true
 | .int _=>true
 | .str _=>true
 | _=>false
def eqV:V->V->Bool
 | .non,.non=>true
 | .bl a,.bl b=>a == b
 | .bl a,.int b=>(if a then 1 else 0) == b
 | .int a,.bl b=>a == (if b then 1 else 0)
 | .int a,.int b=>a == b
 | .str a,.str b=>a == b
 | _,_=>false
theorem z3g {A:Around}{s:Shared}{y x:V}{u v:Value}(ry:zcb y u)(rx:zcb x v)(fy:znm y=true)(fx:znm x=true):SeqAt.EqAt A s u v (eqV y x):=by
 cases y with
 | non =>
  cases ry
  cases x with
  | non=>cases rx; exact SeqAt.EqAt.same _
  | bl b=>cases rx; exact SeqAt.EqAt.none_bool b
  | int b=>obtain ⟨t,rfl⟩:=rx; exact SeqAt.EqAt.none_int b t
  | str b=>obtain ⟨t,rfl⟩:=rx; exact SeqAt.EqAt.none_str b t
  | _=>exact fT fx
 | bl a =>
  cases ry
  cases x with
  | non=>cases rx; exact SeqAt.EqAt.bool_none a
  | bl b=>cases rx; exact SeqAt.EqAt.bool_bool a b
  | int b=>obtain ⟨t,rfl⟩:=rx; exact SeqAt.EqAt.bool_int a b t
  | str b=>obtain ⟨t,rfl⟩:=rx; exact SeqAt.EqAt.bool_str a b t
  | _=>exact fT fx
 | int a =>
  obtain ⟨t',rfl⟩:=ry
  cases x with
  | non=>cases rx; exact SeqAt.EqAt.int_none a t'
  | bl b=>cases rx; exact SeqAt.EqAt.int_bool a t' b
  | int b=>obtain ⟨t,rfl⟩:=rx; exact SeqAt.EqAt.int_int a t' b t
  | str b=>obtain ⟨t,rfl⟩:=rx; exact SeqAt.EqAt.int_str a t' b t
  | _=>exact fT fx
 | str a =>
  obtain ⟨t',rfl⟩:=ry
  cases x with
  | non=>cases rx; exact SeqAt.EqAt.str_none a t'
  | bl b=>cases rx; exact SeqAt.EqAt.str_bool a t' b
  | int b=>obtain ⟨t,rfl⟩:=rx; exact SeqAt.EqAt.str_int a t' b t
  | str b=>obtain ⟨t,rfl⟩:=rx; exact SeqAt.EqAt.str_str a t' b t
  | _=>exact fT fx
 | _=>exact fT fy
def eqU (x:V)(u:Value):Bool:=match u with
 | .none=>eqV .non x
 | .bool b=>eqV (.bl b) x
 | .int i _=>eqV (.int i) x
 | .str z _=>eqV (.str z) x
 | _=>false
theorem zy5 {x y:V}{u:Value}(r:zcb y u)(f:znm y=true):eqU x u=eqV y x:=by
 cases y with
 | non=>cases r; rfl
 | bl b=>cases r; rfl
 | int i=>obtain ⟨t,rfl⟩:=r; rfl
 | str z=>obtain ⟨t,rfl⟩:=r; rfl
 | _=>exact fT f
theorem zlb {x:V}:∀ {xs:List V} {us:List Value},zb8 xs us->xs.all znm=true->us.any (eqU x)=xs.any fun y=>eqV y x
 | _,_,.nil,_=>rfl
 | y :: xs,u :: us,.cons r t,f=>by
  rw [mk,ic] at f
  rw [kq,kq,zy5 r f.1,zlb t f.2]
theorem zh9 {A:Around}{s:Shared}{x:V}{v:Value}(rx:zcb x v)(fx:znm x=true):∀ {xs:List V} {us:List Value},zb8 xs us->xs.all znm=true->∀ u∈us,SeqAt.EqAt A s u v (eqU x u)
 | _,_,.nil,_=>fun u hu=>by cases hu
 | y :: xs,u :: us,.cons r t,f=>fun u' hu=>by
  rw [mk,ic] at f
  rcases gl.mp hu with rfl | hu
  ·rw [zy5 r f.1]; exact z3g r rx f.1 fx
  ·exact zh9 rx fx t f.2 u' hu
def inV (x:V)(xs:List V):Bool:=xs.any fun y=>eqV y x
def rIn (K:W.Frag)(neg:Bool):R2:=fun x y H Q=>∃ p xs,y = .ref p/\(SqL K H p xs\/SqT K H p xs)/\znm x=true/\xs.all znm=true/\Q (.bl (if neg then !inV x xs else inV x xs)) H
theorem zgw:OpR X (compareOp .In) (rIn X.K false):=by
 intro pins s σ H x y v u Q I rx ry h
 obtain ⟨p,xs,rfl,hq,fx,fs,q⟩:=h
 cases ry
 rcases hq with hq | hq
 ·obtain ⟨its,r,pl,hz⟩:=I.list hq
  refine SeqAt.in_listAt (eqU x) pl.isList (fun w hw=>zh9 rx fx r fs w (by simpa using hw)) ⟨.bl _,H,I,rfl,?_⟩
  rw [show its.toArray.any (eqU x)=its.any (eqU x) by simp,zlb r fs]
  exact q
 ·obtain ⟨its,r,pl,hz⟩:=I.tuple hq
  refine SeqAt.in_tupleAt (eqU x) pl (fun w hw=>zh9 rx fx r fs w (by simpa using hw)) ⟨.bl _,H,I,rfl,?_⟩
  rw [show its.toArray.any (eqU x)=its.any (eqU x) by simp,zlb r fs]
  exact q
theorem zcf:OpR X (compareOp .NotIn) (rIn X.K true):=by
 intro pins s σ H x y v u Q I rx ry h
 obtain ⟨p,xs,rfl,hq,fx,fs,q⟩:=h
 cases ry
 rcases hq with hq | hq
 ·obtain ⟨its,r,pl,hz⟩:=I.list hq
  refine SeqAt.notIn_listAt (eqU x) pl.isList (fun w hw=>zh9 rx fx r fs w (by simpa using hw)) ⟨.bl _,H,I,rfl,?_⟩
  rw [show its.toArray.any (eqU x)=its.any (eqU x) by simp,zlb r fs]
  exact q
 ·obtain ⟨its,r,pl,hz⟩:=I.tuple hq
  refine SeqAt.notIn_tupleAt (eqU x) pl (fun w hw=>zh9 rx fx r fs w (by simpa using hw)) ⟨.bl _,H,I,rfl,?_⟩
  rw [show its.toArray.any (eqU x)=its.any (eqU x) by simp,zlb r fs]
  exact q
theorem za3:zjt X (.builtin "len") (fun xs H Q=>∃ p ys,xs=[.ref p]/\(SqL X.K H p ys\/SqT X.K H p ys)/\Q (.int ys.length) H):=by
 intro pins s σ H xs us Q I r h
 obtain ⟨p,ys,rfl,hq,q⟩:=h
 obtain ⟨u,rfl,rx⟩:=zkr r
 cases rx
 have hn:=zvg
 rcases hq with hq | hq
 ·obtain ⟨its,r',pl,hz⟩:=I.list hq
  have a:=r'.length
  exact Calls.call_len_list pl.isList (by simp only [fq] <;> omega) ⟨.int ys.length,H,I.tok _,⟨s.toks+1,by rw [fq,a]⟩,q⟩
 ·obtain ⟨its,r',pl,hz⟩:=I.tuple hq
  have a:=r'.length
  exact len_tuple pl (by simp only [fq] <;> omega) ⟨.int ys.length,H,I.tok _,⟨s.toks+1,by rw [fq,a]⟩,q⟩
theorem zge:zjt X (.type "list") (fun xs H Q=>∃ p ys,xs=[.ref p]/\(SqL X.K H p ys\/SqT X.K H p ys)/\∀ l,H l=none->Q (.ref l) (upd H l (.lst ys))):=by
 intro pins s σ H xs us Q I r h
 obtain ⟨p,ys,rfl,hq,q⟩:=h
 obtain ⟨u,rfl,rx⟩:=zkr r
 cases rx
 have a:∀ (its:List Value),zb8 ys its->ys.length<=sizeLine->∀ (h':Heap) (c':Nat),(∀ b o',s.heap.get? b=some o'->h'.get? b=some o') ->
   h'.get? s.heap.objs.size=some { cls:= .type "list",dict:=none,data:= .seq its.toArray c',slots:= #[] }->EP X pins σ Q (.ref s.heap.objs.size) { s with heap:=h' }:=fun its r' hz h' c' kp e =>
  ⟨.ref s.heap.objs.size,_,I.laid (t':=s.toks) kp (gd _) (show zcl X.prog X.w _ h' _ (.lst ys) from ⟨hz,its,c',r',e⟩),rfl,q _ (I.hok.fresh (gd _))⟩
 rcases hq with hq | hq
 ·obtain ⟨its,r',pl,hz⟩:=I.list hq
  have c:=r'.length
  obtain ⟨o,ho,hc,n,hd⟩:=pl.isList
  exact call_list_seq p (.inl rfl) ho hc hd (fun h' c' kp e=>a its r' hz h' c' kp e) (by simp only [fq] <;> omega)
 ·obtain ⟨its,r',pl,hz⟩:=I.tuple hq
  have c:=r'.length
  obtain ⟨o,ho,hc,n,hd⟩:=pl
  exact call_list_seq p (.inr rfl) ho hc hd (fun h' c' kp e=>a its r' hz h' c' kp e) (by simp only [fq] <;> omega)
def tyV (K:W.Frag)(T:String)(x:V)(H:Hp):Prop:=match x with
 | .str _=>T = "str"
 | .int _=>T = "int"
 | .ref p=>(T = "list" /\∃ xs,SqL K H p xs)\/(T = "tuple" /\∃ o,K.lookup p=some o/\o.cls = .type "tuple" /\o.dict=none) \/
   (T = "dict" /\((∃ kvs,H p=some (.dK kvs))\/∃ kvs,H p=some (.dT kvs)))\/(T = "set" /\∃ S n,H p=some (.set S n))
 | _=>False
theorem zy3 {pins:List (Addr × Obj)}{σ:St}{H:Hp}{s:Shared}{T:String}{x:V}{v:Value}(I:Inv X pins σ H s)(r:zcb x v)(ty:tyV X.K T x H) :
  s.TypeIs v T/\∀ a,v = .ref a->∃ ob,s.heap.get? a=some ob/\ob.dict=none:=by
 cases x with
 | str z =>
  obtain ⟨t,rfl⟩:=r
  cases (show T = "str" from ty)
  exact ⟨typeIs_str s z t,fun _ e=>nomatch e⟩
 | int i =>
  obtain ⟨t,rfl⟩:=r
  cases (show T = "int" from ty)
  exact ⟨typeIs_int s i t,fun _ e=>nomatch e⟩
 | ref p =>
  cases r
  rcases ty with ⟨rfl,xs,hq⟩ | ⟨rfl,o,hk,hc,hd⟩ | ⟨rfl,hk⟩ | ⟨rfl,S,n,hk⟩
  ·obtain ⟨its,_,pl,_⟩:=I.list hq
   refine ⟨pl.isList.typeIs,fun a e=>?_⟩
   cases e
   obtain ⟨o,n,e,c,hd,_⟩:=pl
   exact ⟨o,e,hd⟩
  ·refine ⟨⟨o,I.kIn p o hk,hc⟩,fun a e=>?_⟩
   cases e
   exact ⟨o,I.kIn _ o hk,hd⟩
  ·have z:∃ o,s.heap.get? p=some o/\o.ExactDict:=by
    rcases hk with ⟨kvs,hk⟩ | ⟨kvs,hk⟩
    ·obtain ⟨_,_,_,_,o,_,_,e,ex,_⟩:=I.hok p _ hk
     exact ⟨o,e,ex⟩
    ·obtain ⟨_,_,_,_,o,_,_,e,ex,_⟩:=I.hok p _ hk
     exact ⟨o,e,ex⟩
   obtain ⟨o,e,ex⟩:=z
   refine ⟨⟨o,e,ex.1⟩,fun a e2=>?_⟩
   cases e2
   exact ⟨o,e,ex.2.1⟩
  ·obtain ⟨o,_,_,_,e,ex,_⟩:=I.hok p _ hk
   refine ⟨⟨o,e,ex.1⟩,fun a e2=>?_⟩
   cases e2
   exact ⟨o,e,ex.2.1⟩
 | _=>exact False.elim ty
def z5e (K:W.Frag)(T:String)(r:V->List V->Hp->VK->Prop)(to:TE):TE:=fun σ H Q=>to σ H fun x H1=>tyV K T x H1/\r x [] H1 Q
def tBM (K:W.Frag)(T:String)(r:V->List V->Hp->VK->Prop)(to:TE)(t:TA):TE:=fun σ H Q=>to σ H fun x H1=>tyV K T x H1/\t σ H1 fun xs H2=>r x xs H2 Q
variable {o e:Expr} {es:List Expr} {to:TE} {t:TA} {name:Str} {apos cpos:Pos} {T id:String} {r:V->List V->Hp->VK->Prop}
theorem zy2 (pa:PlainAttrs T)(slot:Slot T name id)(hty:typeOf (.builtin id)=pure (.type "method_descriptor"))(hm:MtR X id r)(ho:PE X o to)
  (hbase:attributeBase o name X.env (eval o X.env)=eval o X.env:=by rfl)(hline:(apos.endLine == cpos.line)=true:=by rfl):PE X (.Call (.Attribute o name apos) [] [] cpos) (z5e X.K T r to):=by
 intro pins s σ H Q I h
 refine wpAny_Call_method0_late hbase hline (thn (ho pins s σ H _ I h) fun v s1 ⟨x,H1,I1,r1,ty,q1⟩=>?_)
 obtain ⟨h1,h2⟩:=zy3 I1 r1 ty
 exact ⟨T,id,pa,slot,hty,h1,h2,Calls.callWith_builtin rfl (PySem.evalArgs_none (hm pins s1 σ H1 x [] v [] Q I1 r1 .nil q1))⟩
theorem zgv (pa:PlainAttrs T)(slot:Slot T name id)(hty:typeOf (.builtin id)=pure (.type "method_descriptor"))(hm:MtR X id r)(ho:PE X o to)(ha:PA X (e :: es) t)
  (hbase:attributeBase o name X.env (eval o X.env)=eval o X.env:=by rfl)
  (hfew:((backTo cpos (starEach (e :: es) X.env)).all (fun x=> !x.1) && (backToKw cpos (keywordEach [] X.env)).all (fun x=>x.1.isSome)
   && decide ((e :: es).length+([]:List Keyword).length+(if ([]:List Keyword).isEmpty then 0 else 1)<30))=true:=by rfl)
  (hline:(apos.endLine == cpos.line)=true:=by rfl)(hs:starEach (e :: es) X.env=(false,eval e X.env) :: starEach es X.env:=by rfl)(hplain:(backTo cpos (starEach es X.env)).any (·.1)=false:=by rfl) :
  PE X (.Call (.Attribute o name apos) (e :: es) [] cpos) (tBM X.K T r to t):=by
 intro pins s σ H Q I h
 refine wpAny_Call_method_late hbase hfew hline rfl (thn (ho pins s σ H _ I h) fun v s1 ⟨x,H1,I1,r1,ty,q1⟩=>?_)
 obtain ⟨h1,h2⟩:=zy3 I1 r1 ty
 refine ⟨T,id,pa,slot,hty,h1,h2,?_⟩
 have hA:=ha cpos pins s1 σ H1 _ I1 q1
 rw [hs] at hA |-
 refine Calls.callWith_builtin (by show (false || (backTo cpos (starEach es X.env)).any (·.1))=false; rw [hplain] <;> rfl) (Calls.evalArgs_plain ?_)
 exact thn hA fun us s2 ⟨vs,H2,I2,r2,q2⟩=>hm pins s2 σ H2 x vs v us Q I2 r1 r2 q2
end
def MtM (X:Cx)(id:String)(r:V->List V->Hp->VK->Prop):Prop :=
 ∀ (pins:List (Addr × Obj)) (s:Shared) (σ:St) (H:Hp) (x:V) (xs:List V) (v:Value) (us:List Value) (Q:VK),Inv X pins σ H s->zcb x v->zb8 xs us->r x xs H Q ->
  wpAny (model X.prog X.w) X.A (call (.builtin id) (v :: us)) (EP X pins σ Q) X.xe s
theorem zb8.one:∀ {x:V} {us:List Value},zb8 [x] us->∃ u,us=[u]/\zcb x u
 | _,_,.cons r .nil=>⟨_,rfl,r⟩
theorem zb8.zero:∀ {us:List Value},zb8 [] us->us=[]
 | _,.nil=>rfl
theorem zb8.dropLast {xs:List V}{us:List Value}(h:zb8 xs us):zb8 xs.dropLast us.dropLast:=by
 induction h with
 | nil=>exact .nil
 | cons r t ih =>
  cases t with
  | nil=>exact .nil
  | cons q t'=>exact .cons r ih
theorem zb8.eraseIdx:∀ {xs:List V} {us:List Value} (i:Nat),zb8 xs us->zb8 (xs.eraseIdx i) (us.eraseIdx i)
 | _,_,_,.nil=> .nil
 | _,_,0,.cons _ t=>t
 | _,_,i+1,.cons r t=> .cons r (zb8.eraseIdx i t)
theorem zsi {α:Type}(l:List α):l.eraseIdx (l.length - 1)=l.dropLast:=by
 induction l with
 | nil=>rfl
 | cons a r ih =>
  cases r with
  | nil=>rfl
  | cons b r =>
   have e:(a :: b :: r).length - 1=((b :: r).length - 1)+1:=by
    have h1:(a :: b :: r).length=r.length+2:=rfl
    have h2:(b :: r).length=r.length+1:=rfl
    omega
   rw [e,List.eraseIdx_cons_succ,ih]
   all_goals rfl
theorem zov {α:Type}:∀ (l:List α) (i:Nat),(l.eraseIdx i).length<=l.length
 | [],_=>gd _
 | _ :: _,0=>j9 _
 | _ :: r,i+1=>Nat.succ_le_succ (zov r i)
section
variable {X:Cx} {pins:List (Addr × Obj)} {σ:St} {H:Hp} {s:Shared} {l:Addr} {xs ys:List V}
theorem Inv.lset {its its':List Value}{n:Nat}{f:Array Value->Array Value}{t':Nat}(I:Inv X pins σ H s)(hH:H l=some (.lst xs))
  (e:s.heap.get? l=some { cls:= .type "list",data:= .seq its.toArray n })(hf:f its.toArray=its'.toArray)(hv:zb8 ys its')(hz:ys.length<=sizeLine) :
  Inv X pins σ (upd H l (.lst ys)) { s with heap:=s.heap.update l (Obj.mapSeq f),toks:=t' }:=by
 have q:=PySem.IsL.update e f
 rw [hf] at q
 refine I.write (x:=l) (e:=l) (by rw [hH]; exact trivial) (.inl rfl) (fun b' u hb hu=>(Heap.get?_update_other s.heap (Obj.mapSeq f) (Ne.symm hb)).trans hu) ⟨_,q⟩ ?_
 exact ⟨hz,its',_,hv,q⟩
theorem Inv.lnew {its:List Value}{t':Nat}(I:Inv X pins σ H s)(hv:zb8 ys its)(hz:ys.length<=sizeLine) :
  Inv X pins σ (upd H s.heap.objs.size (.lst ys)) { s with heap:=s.heap.push { cls:= .type "list",data:= .seq its.toArray },toks:=t' } :=
 I.laid (fun _ _ q=>Heap.get?_push_of_some _ q) (gd _) ⟨hz,its,0,hv,Heap.get?_push_size _ rfl⟩
theorem Inv.fresh (I:Inv X pins σ H s):H s.heap.objs.size=none:=I.hok.fresh (gd _)
theorem Inv.lstM (I:Inv X pins σ H s)(hH:H l=some (.lst xs)):xs.length<=sizeLine/\∃ (its:List Value) (n:Nat),zb8 xs its/\xs.length=its.length/\s.heap.get? l=some { cls:= .type "list",data:= .seq its.toArray n }:=by
 obtain ⟨z,its,n,r,e⟩:=I.hok l _ hH
 exact ⟨z,its,n,r,r.length,e⟩
theorem zxf {n:Nat}(h:n<=sizeLine):Builtin.List.listTooLong n=false:=by
 unfold Builtin.List.listTooLong
 exact decide_eq_false (by omega)
end
section
variable {X:Cx}
def z0_:V->List V->Hp->VK->Prop:=fun x vs H Q=>∃ l xs y,x = .ref l/\vs=[y]/\H l=some (.lst xs)/\xs.length<sizeLine/\Q .non (upd H l (.lst (xs++[y])))
theorem zb4:MtM X "list.append" z0_:=by
 intro pins s σ H x vs v us Q I rx rv h
 obtain ⟨l,xs,y,rfl,rfl,hH,hz,q⟩:=h
 cases rx
 obtain ⟨u,rfl,ru⟩:=rv.one
 obtain ⟨z,its,n,r,hl,e⟩:=I.lstM hH
 refine call_meets F.slot_list_append ⟨_,e,rfl⟩ F.entry_list_append (F.args_list_append_2 _ _) (PySem.list_append l its.toArray n u (by rw [fq]; omega)) ⟨e,?_⟩
 refine ⟨.non,_,I.lset (its':=its++[u]) hH e (by simp) (r.append (.cons ru .nil)) ?_,rfl,q⟩
 rw [fe,fu]
 omega
def z1a:V->List V->Hp->VK->Prop:=fun x vs H Q=>∃ l b xs zs,x = .ref l/\vs=[.ref b]/\H l=some (.lst xs)/\H b=some (.lst zs)/\xs.length+zs.length<=sizeLine/\Q .non (upd H l (.lst (xs++zs)))
theorem zuz:MtM X "list.extend" z1a:=by
 intro pins s σ H x vs v us Q I rx rv h
 obtain ⟨l,b,xs,zs,rfl,rfl,hH,hB,hz,q⟩:=h
 cases rx
 obtain ⟨u,rfl,ru⟩:=rv.one
 cases ru
 obtain ⟨z,its,n,r,hl,e⟩:=I.lstM hH
 obtain ⟨z2,a,n2,r2,d,e2⟩:=I.lstM hB
 have hsz:its.toArray.size+a.toArray.size<=sizeLine:=by rw [fq,fq]; omega
 have c:¬ (!its.toArray.isEmpty && Builtin.List.listTooLong (its.toArray.size+a.toArray.size))=true:=by
  rw [zxf hsz,Bool.and_false]
  exact Bool.false_ne_true
 refine call_meets F.slot_list_extend ⟨_,e,rfl⟩ F.entry_list_extend (F.args_list_extend_2 _ _)
  (AutoSeq1.list_extend_list_list_0 l its.toArray n b a.toArray n2 c (by rw [fq]; omega) (by omega)) ⟨e,e2,?_⟩
 refine ⟨.non,_,I.lset (its':=its++a) hH e (by simp) (r.append r2) ?_,rfl,q⟩
 rw [fe]
 omega
def z6c:V->List V->Hp->VK->Prop:=fun x vs H Q=>∃ l xs y,x = .ref l/\vs=[]/\H l=some (.lst xs)/\xs[xs.length - 1]? = some y/\Q y (upd H l (.lst xs.dropLast))
theorem z2v:MtM X "list.pop" z6c:=by
 intro pins s σ H x vs v us Q I rx rv h
 obtain ⟨l,xs,y,rfl,rfl,hH,hy,q⟩:=h
 cases rx
 have a:=rv.zero
 subst a
 obtain ⟨z,its,n,r,hl,e⟩:=I.lstM hH
 obtain ⟨u,hu,ru⟩:=r.get hy
 have b:its.toArray[its.toArray.size - 1]? = some u:=by
  show its.toArray[its.length - 1]? = some u
  rw [<- Array.getElem?_toList,<- hl]
  exact hu
 refine call_meets F.slot_list_pop ⟨_,e,rfl⟩ F.entry_list_pop (F.args_list_pop_1 _) (MeetsSeq.list_pop_last l its.toArray n u b (by rw [fq]; omega)) ⟨e,?_⟩
 refine ⟨y,_,I.lset (its':=its.dropLast) hH e ?_ r.dropLast ?_,ru,q⟩
 ·show its.toArray.eraseIdxIfInBounds (its.toArray.size - 1)=its.dropLast.toArray
  rw [fq,List.eraseIdxIfInBounds_toArray,zsi]
 ·rw [List.length_dropLast]
  omega
def z4c:V->List V->Hp->VK->Prop:=fun x vs H Q=>∃ l xs i k y,x = .ref l/\vs=[.int i]/\H l=some (.lst xs)/\ -(2 ^ 63)<=i/\i<2 ^ 63/\seqIndex? i xs.length=some k/\xs[k]? = some y/\Q y (upd H l (.lst (xs.eraseIdx k)))
theorem zw5:MtM X "list.pop" z4c:=by
 intro pins s σ H x vs v us Q I rx rv h
 obtain ⟨l,xs,i,k,y,rfl,rfl,hH,h1,h2,hk,hy,q⟩:=h
 cases rx
 obtain ⟨u,rfl,ru⟩:=rv.one
 obtain ⟨t,rfl⟩:=ru
 obtain ⟨z,its,n,r,hl,e⟩:=I.lstM hH
 obtain ⟨w,hw,a⟩:=r.get hy
 refine call_meets F.slot_list_pop ⟨_,e,rfl⟩ F.entry_list_pop (F.args_list_pop_2 _ _)
  (MeetsSeq.list_pop_at l its.toArray n i t k w (fitsIndex_both h1 h2) (by rw [fq,<- hl]; exact hk) (by rw [<- Array.getElem?_toList]; exact hw) (by rw [fq]; omega)) ⟨e,?_⟩
 refine ⟨y,_,I.lset (its':=its.eraseIdx k) hH e ?_ (r.eraseIdx k) ?_,a,q⟩
 ·show its.toArray.eraseIdxIfInBounds k=(its.eraseIdx k).toArray
  rw [List.eraseIdxIfInBounds_toArray]
 ·have:=zov xs k
  omega
def z6r:R2:=fun x y H Q=>∃ l b xs zs,x = .ref l/\y = .ref b/\H l=some (.lst xs)/\H b=some (.lst zs)/\xs.length+zs.length<=sizeLine/\∀ p,H p=none->Q (.ref p) (upd H p (.lst (xs++zs)))
theorem zn5:OpR X (binaryOp .Add) z6r:=by
 intro pins s σ H x y v u Q I rx ry h
 obtain ⟨l,b,xs,zs,rfl,rfl,hH,hB,hz,q⟩:=h
 cases rx
 cases ry
 obtain ⟨z,its,n,r,hl,e⟩:=I.lstM hH
 obtain ⟨z2,a,n2,r2,c,e2⟩:=I.lstM hB
 refine PySem.P.add_list e e2 ?_ (by rw [fq,fq]; omega)
 have ea:its.toArray++a.toArray=(its++a).toArray:=by simp
 rw [ea]
 exact ⟨.ref _,_,I.lnew (t':=s.toks) (r.append r2) (by rw [fe]; omega),rfl,q _ I.fresh⟩
end
section
set_option maxRecDepth 100000 in
end
end L2
namespace Att
open PySem PySem.W PySem.Calls PyProof.Rows
theorem zkx {P:Params}{h:Heap}:∀ (ns:List Int) (vs:List Value),WellAll P h vs (ns.map WData.int)->IntsAre vs ns:=by
 intro ns
 induction ns with
 | nil =>
  intro vs w
  rw [mi] at w
  cases w
  exact .nil
 | cons n ns ih =>
  intro vs w
  rw [gu] at w
  cases w with
  | cons a b =>
   cases a
   exact .cons _ _ (ih _ b)
theorem zu6 {l:OpenLaw}{n:Nat}(hn:l.most=some n){P:Params}{h:Heap}{args:List WData}{vals:List Value}
  (hpre:l.row.toRowW.claim.pre args=true)(hwl:WellAll P h vals args) :
  ∃ a vs ns,vals=[Value.ref a]/\args=[WData.list (ns.map WData.int)]/\h.get? a=some { cls:= .type "list",data:= .seq vs.toArray }/\IntsAre vs ns/\ns.length<=n:=by
 have c:WShape.hasAll [] args [.list .int]=true:=(pre_splitW hpre).1
 have hc:l.pre.holds [] { args:=args }=true:=(pre_splitW hpre).2
 obtain ⟨d,r,rfl,h1,h2⟩:=hasAllW_cons c
 obtain rfl:=hasAllW_nil h2
 obtain ⟨xs,rfl,h3⟩:=hasW_list h1
 obtain ⟨ns,rfl⟩:=items_int h3
 have b:ns.length<=n:=by
  unfold OpenLaw.pre at hc
  have h4:(WTm.not (.lt (.lit (.int (n:Int))) (.len (.arg 0)))).holds [] { args:=[.list (ns.map .int)] }=true:=by
   have h4:=(holds_andW hc).1
   rw [hn] at h4
   exact h4
  have h5:=condW_of h4 (w_not (w_lt w_lit (w_len_list (w_arg rfl))))
  rw [d9] at h5
  refine Nat.le_of_not_lt fun q=>?_
  have q':(n:Int)<((ns.length:Nat):Int):=by omega
  first
   | (rw [decide_eq_true q'] at h5; exact absurd h5 (by decide))
   | (simp at h5; omega)
 cases hwl with
 | cons w1 w2 =>
  cases w2
  cases w1 with
  | list ho hall=>exact ⟨_,_,ns,rfl,rfl,ho,zkx ns _ hall,b⟩
theorem zwg (l:OpenLaw)(args:List WData):l.row.toRowW.claim.post args (.bool true) args=true :=
 postW_of (r:=l.row.toRowW) (X:=(true == true))
  (show WShape.has [] (.bool true) .bool=true by first | rfl | decide | simp [WShape.has,WShape.arms,WShape.armsAll])
  (show (WTm.eq .res (.lit (.bool true))).value [] { args:=args,res:=some (.bool true),after:=args }=some (.bool (true == true)) from w_eq_bool (w_res rfl) w_lit) rfl
theorem attach_call {l:OpenLaw}{n:Nat}{q:Program}{loose:List Str}{XP:(Str->Option Value)->Heap->Prop}{YP:World->Heap->Prop}{d:DefRec}
  (hn:l.most=some n)(hdf:d.params.defaults=[])
  (call:∀ (w:World) (s₀ s₁:Shared) (mg mb:Str->Option Value) (fa:Addr) (o:Obj) (pm cd doc:Value) (a:Addr) (vs:List Value) (ns:List Int),
   Ground q loose [] XP w s₀ mg mb s₁.heap->YP w s₁.heap ->
   s₁.heap.get? fa=some o->o.data = .func (docDef d.name d.params d.body d.scope pm cd doc)->s₁.heap.CodeRec cd d.name->mg d.name=some (.ref fa) ->
   s₁.heap.get? a=some { cls:= .type "list",data:= .seq vs.toArray }->IntsAre vs ns->ns.length<=n->s₁.gens = #[] ->
   codeAny (model l.prog w) callerA (.call (.ref fa) ⟨[.ref a],[]⟩) (fun r s'=>r = .ok (.ret (.bool true))/\OldK s₁.heap s'.heap/\s'.os=s₁.os/\AllBare s'.gens) s₁) :
  WalkO q loose XP YP l.row.toRowW d [] (fun f vs=>PySem.call f vs):=by
 intro w s₀ s₁ mg mb G Y fa o pm cd doc dV kV ho hd i hD j hg args p as g m s h t
 obtain rfl:dV = .none:=Dflts.none hD hdf
 obtain rfl:kV = .none:=Dflts.noKw hD
 obtain ⟨a,vs,ns,rfl,rfl,e,b,c⟩:=zu6 hn g h
 refine enter_call (codeAny_mono (call w s₀ s₁ mg mb fa o pm cd doc a vs ns G Y ho (fd_plain hd) i j e b c hg) fun r s' hq=>?_)
 obtain ⟨rfl,h2,h3,h4⟩:=hq
 exact ⟨.inl ⟨.bool true,.bool true,[],rfl,fun _=>rfl,.bool true,zwg l _,fun _=>⟨List.Pairwise.nil,fun _ hm=>(nomatch hm)⟩⟩,h2,h3,h4⟩
end Att
namespace L2
open PySem PySem.Spec PyProof.Rows
theorem ze8:∀ {vs:List Value} {ns:List Int},IntsAre vs ns->zb8 (ns.map V.int) vs
 | _,_,.nil=> .nil
 | _,_,.cons n t h=> .cons ⟨t,rfl⟩ (ze8 h)
def zai (s:Stmt)(j:Nat):Stmt:=match s with
 | .ClassDef _ _ _ body _ _ _ _ _ _ _=>body.getD j (.Pass ⟨0,0,0,0⟩)
 | _=> .Pass ⟨0,0,0,0⟩
def zb5 (s:Stmt):Arguments:=match s with
 | .FunctionDef _ a _ _ _ _ _ _ _ _=>a
 | _=>{ posonlyargs:=[],args:=[],vararg:=none,kwonlyargs:=[],kw_defaults:=[],kwarg:=none,defaults:=[] }
def zbk (s:Stmt):List Stmt:=match s with
 | .FunctionDef _ _ b _ _ _ _ _ _ _=>b
 | _=>[]
def zah (s:Stmt):Scope:=match s with
 | .FunctionDef _ _ _ _ _ _ sc _ _ _=>sc
 | _=>{ kind:= .function,names:=[],isGenerator:=false,isCoroutine:=false }
abbrev CX0:CXT:=fun _ _ _ _ _ _=>False
abbrev E0:XK:=fun _ _ _=>False
theorem zbw {X:Cx}:zko CX0 X E0:=fun _ _ _ _ _ _ _ h=>h.elim
structure Fun (K:W.Frag)(x qual:Str)(st:Stmt)(f:Addr)(fd:FuncData):Prop where
 ex:∃ (oc:Value) (od:Option Addr) (kV doc pm:Value) (an:Option Addr) (cdv ct:Value) (osl:Array (Option Value)),
  fd=PySem.W.fnOf x qual (zb5 st) (zbk st) (zah st) .none kV doc pm an cdv ct/\K.lookup f=some ⟨oc,od,.func fd,osl⟩/\PySem.W.codeIn K cdv qual=true
 kp:PySem.W.keepIn K (.ref f)=true
section
variable {P:Program} {w:World} {K:W.Frag} {mg:Str->Option Value} {base:Heap}
theorem Fun.ok {x qual:Str}{st:Stmt}{f:Addr}{fd:FuncData}{N ps:List Str}{k:Nat}{sp:Sp}(F:Fun K x qual st f fd)(S:zaj N ps (zah st))(len:∀ vs H Q E,sp vs H Q E->vs.length=ps.length)
  (hbody:∀ (cdv:Value) (A:Around) (outer:List Env) (s:Shared) (H:Hp) (vs:List V) (Q:VK) (E:XK),zed k (A.deeper (envOfC qual (zah st) s.heap.objs.size f cdv))->sp vs H Q E ->
   ∃ t,PSs (zn0 CX0 P w K mg base N qual (zah st) f cdv A outer s H E).nox (zbk st) t/\t { nx:=fun _ H'=>Q .non H',rt:=Q } (start N vs) H):zc_ P w K mg base CX0 (k+1) f fd ps sp:=by
 obtain ⟨oc,od,kV,doc,pm,an,cdv,ct,osl,rfl,lk,b⟩:=F.ex
 refine z00 lk b S len fun A outer s H vs Q E hr a=>?_
 obtain ⟨t,h,q⟩:=hbody cdv A outer s H vs Q E hr a
 exact ⟨t,h.nox,q⟩
theorem Fun.binds {x qual:Str}{st:Stmt}{f:Addr}{fd:FuncData}{ps:List Str}(F:Fun K x qual st f fd)
  (h:∀ (kV doc pm:Value) (an:Option Addr) (cdv ct:Value) (us:List Value),us.length=ps.length->bindArgs (PySem.W.fnOf x qual (zb5 st) (zbk st) (zah st) .none kV doc pm an cdv ct) ⟨us,[]⟩=pure (ps.zip us)):zci K fd ps []:=by
 obtain ⟨oc,od,kV,doc,pm,an,cdv,ct,osl,rfl,lk,a⟩:=F.ex
 exact .all (h kV doc pm an cdv ct)
theorem zkf {x qual:Str}{st:Stmt}{f:Addr}{oc:Value}{od an:Option Addr}{osl:Array (Option Value)}{kV doc pm cdv ct:Value}(l:K.lookup f=some ⟨oc,od,.func (PySem.W.fnOf x qual (zb5 st) (zbk st) (zah st) .none kV doc pm an cdv ct),osl⟩)
  (c:PySem.W.codeIn K cdv qual=true)(k:PySem.W.keepIn K (.ref f)=true):Fun K x qual st f (PySem.W.fnOf x qual (zb5 st) (zbk st) (zah st) .none kV doc pm an cdv ct):=⟨⟨oc,od,kV,doc,pm,an,cdv,ct,osl,rfl,l,c⟩,k⟩
end
theorem zfm {A:Around}{k:Nat}(hr:zed k A):A.units+1<cLine:=gz (Nat.add_le_add_left (by decide:1<=64) _) hr.units
theorem zau {n:Nat}(h:n<=1000):n<sizeLine:=gz h (by decide)
section
variable {X:Cx}
theorem pv (i:Nat){x:Str}{pos:Pos}(hN:X.N[i]? = some x:=by rfl)(hv:Vis X.env.scope x:=by first | exact Or.inl rfl | exact Or.inr (Or.inl rfl) | exact Or.inr (Or.inr rfl))(hd:(x == ("__debug__" : Str))=false:=by decide)
  (hcd:(x == ("__classdict__" : Str))=false:=by decide):PE X (.Name x pos) (zxk i):=z2z hN hv hd hcd
end
theorem z2x {A B:Prop}(h:B):if false=true then A else B:=by
 rw [if_neg Bool.false_ne_true]
 exact h
theorem z3k {A B:Prop}(h:A):if true=true then A else B:=by
 rw [if_pos rfl]
 exact h
theorem zwn {c A B:Prop}[Decidable c](h1:c->A)(h2:¬ c->B):if c then A else B:=by
 by_cases h:c
 ·rw [if_pos h]
  exact h1 h
 ·rw [if_neg h]
  exact h2 h
theorem zls {c A B:Prop}[Decidable c](hc:c)(h:B):if (!decide c)=true then A else B:=by
 rw [decide_eq_true hc]
 exact z2x h
def zax (H H':Hp):Prop:=∀ b o,H b=some o->H' b=some o
theorem zax.refl (H:Hp):zax H H:=fun _ _ h=>h
theorem zax.trans {H H1 H2:Hp}(a:zax H H1)(b:zax H1 H2):zax H H2:=fun c o h=>b c o (a c o h)
theorem zax.free {H H':Hp}(e:zax H H'){l:Addr}(h:H' l=Option.none):H l=Option.none:=by
 cases q:H l with
 | none=>rfl
 | some o =>
  rw [e l o q] at h
  cases h
theorem zax.seq {K:W.Frag}{H H':Hp}{a:Addr}{xs:List V}(e:zax H H')(h:SqL K H a xs):SqL K H' a xs:=by
 rcases h with (h | ⟨o,h⟩) | h
 ·exact .inl (.inl (e _ _ h))
 ·exact .inl (.inr ⟨o,e _ _ h⟩)
 ·exact .inr h
structure Df (K:W.Frag)(mg:Str->Option Value)(x:Str)(st:Stmt)(ps:List Str) where
 f:Addr
 fd:FuncData
 fn:Fun K x x st f fd
 hm:mg x=some (.ref f)
 b:zci K fd ps []
theorem zc1:bootBuiltins "len" = some (.builtin "len"):=by decide +kernel
theorem zbl:bootBuiltins "isinstance" = some (.builtin "isinstance"):=by decide +kernel
theorem zfl:bootBuiltins "sorted" = some (.builtin "sorted"):=by decide +kernel
theorem z3l:bootBuiltins "any" = some (.builtin "any"):=by decide +kernel
theorem zze:bootBuiltins "all" = some (.builtin "all"):=by decide +kernel
theorem z36:bootBuiltins "int" = some (.type "int"):=by decide +kernel
theorem zzv:bootBuiltins "bool" = some (.type "bool"):=by decide +kernel
theorem zm2:bootBuiltins "list" = some (.type "list"):=by decide +kernel
theorem z37:bootBuiltins "set" = some (.type "set"):=by decide +kernel
section
variable {X:Cx} {x:Str} {pos:Pos}
theorem zxs {T:String}(hg:Gl X x)(hm:X.mg x=none)(hv:bootBuiltins x=some (.type T))(hn:x≠ "__name__" :=by decide)(hd:(x == ("__debug__" : Str))=false:=by decide):PE X (.Name x pos) (tC (.ty T)) :=
 z0j hg hm hv rfl hn hd
theorem zmx:zjt X (.builtin "isinstance") (fun xs H Q=>∃ x T t b,xs=[x,.ty T]/\zlo X.K H x t/\PySem.W.kitOne X.K t (.type T)=some b/\Q (.bl b) H):=by
 intro pins s σ H xs us Q I r h
 obtain ⟨x,T,t,b,rfl,ty,e,q⟩:=h
 obtain ⟨u,w',rfl,r1,r2⟩:=z25 r
 cases (show w'=Value.type T from r2)
 exact zwe I r1 ty e fun tk=>⟨.bl b,H,I.tok _,rfl,q⟩
end
theorem zk6 (K:W.Frag):PySem.W.kitOne K (.type "str") (.type "int")=some false:=by kernel_rfl
theorem zjq (K:W.Frag):PySem.W.kitOne K (.type "NoneType") (.type "int")=some false:=by kernel_rfl
theorem zjj (K:W.Frag):PySem.W.kitOne K (.type "list") (.type "int")=some false:=by kernel_rfl
theorem zh7 (K:W.Frag):PySem.W.kitOne K (.type "tuple") (.type "int")=some false:=by kernel_rfl
section
variable {X:Cx} {pins:List (Addr × Obj)} {σ:St} {H:Hp} {s:Shared} {h':Heap}
theorem Inv.turnT {t':Nat}{ch:List Addr}{a:Addr}{o:HO}(I:Inv X pins σ H s)(k:∀ b u,b∉ch->s.heap.get? b=some u->h'.get? b=some u)(hf:∀ b∈ch,zrg X pins H b)
  (ha:s.heap.objs.size<=a)(new:zcl X.prog X.w (upd H a o) h' a o):Inv X pins σ (upd H a o) { s with heap:=h',toks:=t' }:=by
 have hn:H a=none:=I.hok.fresh ha
 have d:∀ b u,H b=some u->b∉ch:=fun b u e z=>by rw [(hf b z).1] at e; cases e
 refine I.step (g':=s.gens) (d':=s.drawn) (ch:=ch) (fun b hb=>?_) (fun b u _ _ hc e _=>k b u hc e) (fun b u _ _ hc e _=>⟨u.slots,k b u hc e⟩) (fun b u _ e n=>?_)
  (fun b u hc e=>⟨u,k b u hc e⟩) (fun b xs e=>by rw [zac (zag e hn)]; exact e) (fun b u xs e=>by rw [zac (zag e hn)]; exact e)
  (fun b ps e=>⟨#[],by rw [zac (zag e hn),e]; simp⟩) (fun m hm=>?_) (fun b u e=>?_) I.bare
 ·obtain ⟨f0,f1,f2,f3,f4,f5⟩:=hf b hb
  exact ⟨f3,f1,f4,f5⟩
 ·rw [zac (gc (fi (fw e) ha))]
  exact n
 ·obtain ⟨u,es,ep,ho,r⟩:=hm
  exact ⟨u,es,ep,k _ u (fun z=>(hf _ z).2.1 rfl) ho,r⟩
 ·by_cases hb:b=a
  ·subst hb
   rw [zad] at e
   cases e
   exact new
  ·rw [zac hb] at e
   refine (I.hok b u e).stay (fun c v hc q=>k c v ?_ q) (fun c q=>by rw [zac (zag q hn)]; exact q) fun c xs q=>by rw [zac (zag q hn)]; exact q
   rcases hc with z | z
   ·rw [z]
    exact d b u e
   ·exact d c _ z
theorem Inv.turnN {t':Nat}{ch:List Addr}(I:Inv X pins σ H s)(k:∀ b u,b∉ch->s.heap.get? b=some u->h'.get? b=some u)(hf:∀ b∈ch,zrg X pins H b):Inv X pins σ H { s with heap:=h',toks:=t' }:=by
 have a:∀ b u,H b=some u->b∉ch:=fun b u e z=>by rw [(hf b z).1] at e; cases e
 refine I.step (g':=s.gens) (d':=s.drawn) (ch:=ch) (fun b hb=>?_) (fun b u _ _ hc e _=>k b u hc e) (fun b u _ _ hc e _=>⟨u.slots,k b u hc e⟩) (fun _ _ _ _ n=>n)
  (fun b u hc e=>⟨u,k b u hc e⟩) (fun _ _ e=>e) (fun _ _ _ e=>e) (fun b ps e=>⟨#[],by rw [e]; simp⟩) (fun m hm=>?_) (fun b u e=>?_) I.bare
 ·obtain ⟨f0,f1,f2,f3,f4,f5⟩:=hf b hb
  exact ⟨f3,f1,f4,f5⟩
 ·obtain ⟨u,es,ep,ho,r⟩:=hm
  exact ⟨u,es,ep,k _ u (fun z=>(hf _ z).2.1 rfl) ho,r⟩
 ·refine (I.hok b u e).stay (fun c v hc q=>k c v ?_ q) (fun _ q=>q) fun _ _ q=>q
  rcases hc with z | z
  ·rw [z]
   exact a b u e
  ·exact a c _ z
end
def Ite (K:W.Frag)(a:Addr):It :=
 ⟨fun i H=>∃ xs x,SqL K H a xs/\xs[i]? = some x,fun i H x H'=>∃ t y,x = .ref t/\H t=none/\H'=upd H t (.tup [.int i,y])/\∀ xs,SqL K H a xs->xs[i]? = some y,
  fun i H=>∃ xs,SqL K H a xs/\xs.length<=i⟩
theorem zv1 {P:Program}{w:World}{K:W.Frag}{es:List Expr}{k1:Nat}{tp:Pos}(a e it:Addr)(hne:e≠it) :
  z3e P w K (.Tuple es k1 tp) (Ite K a) [e,it] e (fun i h=>(∃ old,IsEnum h e it i old)/\h.IsListIter it a i) where
 mem:=by simp
 obj:=fun i h st b hb=>by
  obtain ⟨⟨old,he⟩,o,e1,c,d⟩:=st
  rcases (show b=e\/b=it by simpa using hb) with rfl | rfl
  ·exact ⟨_,he,fun v z=>by cases z⟩
  ·exact ⟨o,e1,fun v z=>by rw [d] at z; cases z⟩
 keep:=fun i h h' st k=>⟨st.1.imp fun old he=>k e (by simp) _ he,st.2.at fun o q=>k it (by simp) o q⟩
 item:=by
  intro X hP hw hK hc i pins s σ H E I hf st hg
  subst hP hw hK
  obtain ⟨xs,x,hq,hx⟩:=hg
  obtain ⟨its,rv,p,hz⟩:=I.list hq
  obtain ⟨u,hu,ru⟩:=rv.get hx
  obtain ⟨⟨old,he⟩,hit⟩:=st
  have el:e<s.heap.objs.size:=fw he
  have il:it<s.heap.objs.size:=by
   obtain ⟨o,e1,_⟩:=hit
   exact fw e1
  refine wpAny_pyNext_enum_item he hit p.isList (x:=u) (by simpa using hu) hne fun h' ho f ht l hk=>?_
  refine ⟨_,rfl,wpAny_letOwnedTupleGo_enum ho fun h2 j sb=>?_⟩
  replace sb:Heap.SameBut e h' h2:=sb
  have g:h2.get? s.heap.objs.size=some { cls:= .type "tuple",data:= .seq #[.int i s.toks,u] }:=(sb.2 _ (jj el)).trans ht
  have I2:Inv X pins σ (upd H s.heap.objs.size (.tup [.int i,x])) { s with heap:=h2,toks:=s.toks+1 } :=
   I.turnT (ch:=[e,it]) (fun b v hb q=>(sb.2 b (fun z=>hb (by simp [z]))).trans (hk b v (fun z=>hb (by simp [z])) (fun z=>hb (by simp [z])) q)) hf (gd _)
    ⟨by show 2<=sizeLine; decide,[.int i s.toks,u],.cons ⟨_,rfl⟩ (.cons ru .nil),_,g,rfl,_,rfl⟩
  refine ⟨.ref s.heap.objs.size,_,I2,rfl,⟨s.heap.objs.size,x,rfl,I.hok.fresh (gd _),rfl,fun ys hy=>by rw [I.list_inj hy hq]; exact hx⟩,
   ⟨⟨u,by simpa using j⟩,f.at fun o q=>(sb.2 it (Ne.symm hne)).trans q⟩,fun b hb=>?_⟩
  rw [zac,(hf b hb).1]
  rcases (show b=e\/b=it by simpa using hb) with rfl | rfl
  ·exact gc el
  ·exact gc il
 done:=by
  intro X hP hw hK hc i pins s σ H E I hf st hg
  subst hP hw hK
  obtain ⟨xs,hq,hx⟩:=hg
  obtain ⟨its,rv,p,hz⟩:=I.list hq
  obtain ⟨⟨old,he⟩,hit⟩:=st
  have hl:=rv.length
  exact wpAny_pyNext_enum_end (I.ok.hd hc) he hit p.isList (by simp; omega) fun h' eb=>⟨rfl,I.turnN (t':=s.toks) (ch:=[e,it]) (fun b o hb q=>eb b o (fun z=>hb (by simp [z])) q) hf⟩
 self:=fun _ _ _ _ _ st h=>by
  obtain ⟨⟨old,he⟩,_⟩:=st
  exact wpAny_pyIter_enum he h
def z5k (K:W.Frag)(ta:TA):TI:=fun σ H R=>ta σ H fun vs H1=>∃ a,vs=[.ref a]/\(∃ xs,SqL K H1 a xs)/\R (Ite K a) H1
theorem zz6 {X:Cx}{es:List Expr}{k1:Nat}{tp:Pos}{a:Expr}{ta:TA}{p pos:Pos}(hg:Gl X "enumerate")(hm:X.mg "enumerate" = none)(ha:PA X [a] ta)(hs:starEach [a] X.env=[(false,eval a X.env)]:=by rfl) :
  PI X (.Tuple es k1 tp) (.Call (.Name "enumerate" p) [a] [] pos) (z5k X.K ta):=by
 intro pins s σ H R I h
 refine Call_ (zmo I hg hm boot_enumerate (PyProof.Rows.callWith_type1 (thn (ha pos pins s σ H _ I h) fun us s1 ⟨vs,H1,I1,r1,q1⟩=>?_) hs rfl))
 obtain ⟨l,e,⟨xs,hq⟩,q⟩:=q1
 subst e
 obtain ⟨u,rfl,ru⟩:=zkr r1
 cases (show u=Value.ref l from ru)
 obtain ⟨its,rv,pl,hz⟩:=I1.list hq
 refine call_enumerate_list pl.isList fun h' he hit hsz hk=>wpAny_pyIter_enum he ?_
 have I2:Inv X pins σ H1 { s1 with heap:=h' }:=I1.kept (t':=s1.toks) hk
 refine ⟨s1.heap.objs.size+1,[s1.heap.objs.size+1,s1.heap.objs.size],_,_,H1,rfl,I2,zv1 l _ _ (Nat.succ_ne_self _),⟨⟨.none,he⟩,hit⟩,fun b hb=>?_,q⟩
 rcases (show b=s1.heap.objs.size+1\/b=s1.heap.objs.size by simpa using hb) with rfl | rfl
 ·exact I1.fpOk (j9 _) (I1.hok.fresh (j9 _))
 ·exact I1.fpOk (gd _) (I1.hok.fresh (gd _))
theorem zxm {K:W.Frag}{a:Addr}{xs:List V}{g:TG}{tb:TS}{D:zuc}{σ:St}{H:Hp}(Pv:Nat->St->Hp->Prop)(h0:Pv 0 σ H)(hl:∀ i σ H,i<=xs.length->Pv i σ H->SqL K H a xs)
  (hs:∀ i x σ H t,xs[i]? = some x->Pv i σ H->H t=none->g (.ref t) σ (upd H t (.tup [.int i,x])) fun σ2 H2=>tb { D with nx:=Pv (i+1),ct:=Pv (i+1),bk:=D.nx } σ2 H2)(hd:∀ σ H,Pv xs.length σ H->D.nx σ H) :
  ∃ W:Nat->Nat->St->Hp->Prop,(∃ m,W 0 m σ H)/\∀ i m σ H,W i m σ H ->
   ((Ite K a).stop i H/\D.nx σ H)\/((Ite K a).go i H/\∃ N:St->Hp->Prop,(∀ σ' H',N σ' H'->∃ m',m'<m/\W (i+1) m' σ' H')/\∀ x H',(Ite K a).yld i H x H'->g x σ H' fun σ2 H2=>tb { D with nx:=N,ct:=N,bk:=D.nx } σ2 H2):=by
 refine ⟨fun i m σ H=>m=xs.length - i/\i<=xs.length/\Pv i σ H,⟨xs.length,by simp,im _,h0⟩,?_⟩
 rintro i m σ H ⟨rfl,hi,p⟩
 have q:=hl i σ H hi p
 by_cases b:i<xs.length
 ·refine .inr ⟨⟨xs,xs[i],q,by simp [b]⟩,Pv (i+1),fun σ' H' p'=>⟨xs.length - (i+1),by omega,rfl,b,p'⟩,fun x H' y=>?_⟩
  obtain ⟨t,z,rfl,ht,rfl,y⟩:=y
  exact hs i z σ _ t (y xs q) p ht
 ·have e:i=xs.length:=by omega
  subst e
  exact .inl ⟨⟨xs,q,gd _⟩,hd σ H p⟩
theorem zqk {c A B:Prop}[Decidable c](hc:¬ c)(h:A):if (!decide c)=true then A else B:=by
 rw [decide_eq_false hc]
 exact z3k h
theorem zlw {c A B:Prop}[Decidable c](hc:c)(h:A):if decide c=true then A else B:=by
 rw [decide_eq_true hc]
 exact z3k h
theorem ze7 {c A B:Prop}[Decidable c](hc:¬ c)(h:B):if decide c=true then A else B:=by
 rw [decide_eq_false hc]
 exact z2x h
theorem z1c {a b:Int}(h:¬ a=b):¬ V.int a=V.int b:=fun z=>h (V.int.inj z)
theorem zax.lay {H H':Hp}{p:Addr}{o:HO}(h:zax H H')(hp:H' p=none):zax H (upd H' p o):=fun b u e=>by
 rw [zac (zag (h b u e) hp)]
 exact h b u e
theorem zax.new (H:Hp){p:Addr}{o:HO}(hp:H p=none):zax H (upd H p o):=(zax.refl H).lay hp
theorem nw {H H1:Hp}{p:Addr}{o:HO}(h:H p=none)(e:upd H p o=H1):zax H H1/\H1 p=some o:=e ▸ ⟨zax.new H h,zad⟩
theorem usS {n:Nat}{R:List Value->Prop}(h:∀ a us,us.length=n->R (a :: us))(us:List Value)(e:us.length=n+1):R us:=by
 cases us with
 | nil=>cases e
 | cons a t=>exact h a t (Nat.succ.inj e)
theorem us0 {R:List Value->Prop}(h:R [])(us:List Value)(e:us.length=0):R us:=by
 cases us with
 | nil=>exact h
 | cons a t=>cases e
theorem us1 {R:List Value->Prop}(h:∀ a,R [a]):∀ us:List Value,us.length=1->R us:=usS fun a=>us0 (h a)
theorem us2 {R:List Value->Prop}(h:∀ a b,R [a,b]):∀ us:List Value,us.length=2->R us:=usS fun a=>us1 (h a)
theorem us3 {R:List Value->Prop}(h:∀ a b c,R [a,b,c]):∀ us:List Value,us.length=3->R us:=usS fun a=>us2 (h a)
theorem us4 {R:List Value->Prop}(h:∀ a b c d,R [a,b,c,d]):∀ us:List Value,us.length=4->R us:=usS fun a=>us3 (h a)
def zc9 (X:Cx)(N':List Str)(scope:Scope)(cl:List (Str × Addr))(C:Addr)(s:Shared)(H:Hp)(fp:List Addr):Cx where
 prog:=X.prog
 w:=X.w
 K:=X.K
 mg:=X.mg
 base:=X.base
 A:=X.A
 N:=N'
 s₀:=s
 H₀:=H
 env:=compEnvC scope cl C X.env
 outer:=X.stack
 stack:=X.stack
 ex:=fp
 fn:=fun _=>false
 calm:=X.calm
 pn:=[]
 xe:=fun _ _=>False
def PTs (X:Cx)(ifs:List Expr)(t:TT):Prop :=
 ∀ (pins:List (Addr × Obj)) (s:Shared) (σ:St) (H:Hp) (Q:Bool->Hp->Prop),Inv X pins σ H s->t σ H Q ->
  wpAny (model X.prog X.w) X.A (forIn ifs true fun c r=>if r=true then do let ok <- isTrue c X.env (eval c X.env); pure (ForInStep.yield ok) else pure (ForInStep.yield r)) (TP X pins σ Q) X.xe s
def z6q:TT:=fun _ H Q=>Q true H
theorem zfx {X:Cx}:PTs X [] z6q:=fun pins s σ H Q I h=>wpAny_pure ⟨H,I,h⟩
theorem zcu {X:Cx}{c:Expr}{t:TT}(hc:PT X c t):PTs X [c] t:=fun pins s σ H Q I h=>by
 show wpAny _ _ (forIn [c] true _) _ _ s
 rw [lx]
 rw [if_pos rfl]
 refine wpAny_bind (wpAny_bind (thn (hc pins s σ H Q I h) fun b s1 h1=>wpAny_pure ?_))
 exact wpAny_pure h1
theorem zg6 {env:Env}:∀ (names:List (Str × NameKind)) (acc:List (Str × Addr)),
  (∀ y∈names,y.2 = .free->∃ c,env.cells.lookup y.1=some c)->(∀ x c,acc.lookup x=some c->env.cells.lookup x=some c) ->
  ∃ cl,(forIn names acc fun (x:Str × NameKind) cs=>if (x.2 == NameKind.free)=true then (do let a <- cellOf env x.1; pure (ForInStep.yield ((x.1,a) :: cs))) else pure (ForInStep.yield cs):Sem (List (Str × Addr)))=pure cl /\
   (∀ x c,cl.lookup x=some c->env.cells.lookup x=some c)/\(∀ y∈names,y.2 = .free->∃ c,cl.lookup y.1=some c)/\(∀ x c,acc.lookup x=some c->cl.lookup x=some c)
 | [],acc,_,ha=>⟨acc,rfl,ha,fun y hy=>(nomatch hy),fun _ _ h=>h⟩
 | (n,k) :: r,acc,hn,ha=>by
  rw [lx]
  by_cases hk:k = .free
  ·obtain ⟨c,hc⟩:=hn (n,k) fk hk
   have ha':∀ x d,((n,c) :: acc).lookup x=some d->env.cells.lookup x=some d:=fun x d h=>by
    rw [gv] at h
    by_cases e:(x == n)=true
    ·rw [e] at h
     have e':=beq_iff_eq.mp e
     cases h
     rw [e']
     exact hc
    ·rw [jf.mpr e] at h
     exact ha x d h
   obtain ⟨cl,e1,h1,h2,h3⟩:=zg6 r ((n,c) :: acc) (fun y hy=>hn y (fg _ hy)) ha'
   refine ⟨cl,?_,h1,fun y hy hf=>?_,fun x d h=>?_⟩
   ·rw [if_pos (by rw [hk]; rfl)]
    show ((cellOf env n >>= fun a=>pure (ForInStep.yield ((n,a) :: acc))) >>= _)=_
    have hco:cellOf env n=pure c:=by unfold cellOf; rw [hc]
    rw [hco,pure_bind,pure_bind]
    exact e1
   ·rcases gl.mp hy with rfl | hy
    ·exact ⟨c,h3 n c (by rw [gv]; simp)⟩
    ·exact h2 y hy hf
   ·by_cases e:(x == n)=true
    ·have e':=beq_iff_eq.mp e
     subst e'
     have:=ha x d h
     rw [hc] at this
     cases this
     exact h3 x c (by rw [gv]; simp)
    ·exact h3 x d (by rw [gv,jf.mpr e]; exact h)
  ·obtain ⟨cl,e1,h1,h2,h3⟩:=zg6 r acc (fun y hy=>hn y (fg _ hy)) ha
   refine ⟨cl,?_,h1,fun y hy hf=>?_,h3⟩
   ·rw [if_neg (by simpa using hk),pure_bind]
    exact e1
   ·rcases gl.mp hy with rfl | hy
    ·exact absurd hf hk
    ·exact h2 y hy hf
theorem zhv {scope:Scope}{env:Env}(hn:∀ y∈scope.names,y.2 = .free->∃ c,env.cells.lookup y.1=some c) :
  ∃ cl,closureFor scope env=pure cl/\(∀ x c,cl.lookup x=some c->env.cells.lookup x=some c)/\∀ y∈scope.names,y.2 = .free->∃ c,cl.lookup y.1=some c:=by
 obtain ⟨cl,e1,h1,h2,_⟩:=zg6 (env:=env) scope.names [] hn (fun x c h=>by cases h)
 refine ⟨cl,?_,h1,h2⟩
 unfold closureFor
 rw [<- e1,bind_pure]
theorem zps {prog:Program}{w:World}{A:Around}{R:Result->Shared->Prop}{s:Shared}{elt target iter:Expr}{ifs:List Expr}{scope:Scope}{pos:Pos}{it acc:Value}{env:Env}(I:Nat->Shared->Prop)
  (turn:∀ n s,I n s->wpAny (model prog w) A (pyNext it) (fun r s₁=>match r with
   | none=>R (.ok .next) s₁
   | some v=>wpAny (model prog w) A (letOwnedTupleGo target it v) (fun _ s₁=>wpAny (model prog w) A (assign target env v) (fun _ s₂ =>
     wpAny (model prog w) A (forIn ifs true fun c r=>if r=true then do let ok <- isTrue c env (eval c env); pure (ForInStep.yield ok) else pure (ForInStep.yield r)) (fun ok s₃ =>
      if ok=true then wpAny (model prog w) A (eval elt env) (fun x s₄ =>
       wpAny (model prog w) A (call (.builtin "list.append") [acc,x]) (fun _ s₅=>∃ m,m<n/\I m s₅) (fun _ _=>False) s₄) (fun _ _=>False) s₃
      else ∃ m,m<n/\I m s₃) (fun _ _=>False) s₂) (fun _ _=>False) s₁) (fun _ _=>False) s₁) (fun _ _=>False) s)
  (n:Nat)(h:I n s) :
  codeAny (model prog w) A (.compLoop (.ListComp elt [⟨target,iter,ifs,0⟩] scope pos) 0 it acc env) R s:=by
 refine codeAny_loop rfl I (fun n s hI=>?_) n h
 show wpAny _ A ((compTurn (.ListComp elt [⟨target,iter,ifs,0⟩] scope pos) 0 it acc env).onRaise (fun x=>do noteFrame x env; theTreesLotGoes x)) _ _ s
 refine wpAny_noted ?_
 rw [compTurn_list]
 have ff:∀ {E:Value->Shared->Prop} (v:Value) (s:Shared),False->E v s:=fun _ _ z=>z.elim
 refine wpAny_bind (wpAny_standAt (wpAny_bind (wpAny_mono (turn n s hI) (fun r s₁ h₁=>?_) ff)))
 cases r with
 | none=>exact wpAny_pure h₁
 | some v =>
  refine wpAny_bind (wpAny_mono h₁ (fun _ b a=>?_) ff)
  refine wpAny_bind (wpAny_mono a (fun _ s₂ h₂=>wpAny_bind (wpAny_mono h₂ (fun ok s₃ h₃=>?_) ff)) ff)
  cases ok with
  | false=>exact wpAny_pure ⟨rfl,h₃⟩
  | true =>
   exact wpAny_bind (wpAny_bind (wpAny_mono h₃ (fun x s₄ h₄=>wpAny_bind (wpAny_mono h₄ (fun _ s₅ h₅=>wpAny_pure (wpAny_pure ⟨rfl,h₅⟩)) ff)) ff))
def zvc (J:It)(g:TG)(tc:TT)(te:TE)(Q:VK)(D:Addr)(σ:St)(H:Hp):Prop:=∃ W:Nat->Nat->St->Hp->Prop,(∃ m,W 0 m σ H)/\∀ i m σ' H',W i m σ' H' ->
 (J.stop i H'/\Q (.ref D) H')\/(J.go i H'/\∃ N:St->Hp->Prop,(∀ σ2 H2,N σ2 H2->∃ m',m'<m/\W (i+1) m' σ2 H2)/\∀ x H2,J.yld i H' x H2->g x σ' H2 fun σ3 H3=>tc σ3 H3 fun b H4 =>
  if b=true then te σ3 H4 fun y H5=>∃ acc,H5 D=some (.lst acc)/\acc.length<sizeLine/\N σ3 (upd H5 D (.lst (acc++[y]))) else N σ3 H4)
def z0b (wi:TI)(g:TG)(tc:TT)(te:TE)(cp:St->St):TE:=fun σ H Q=>wi σ H fun J H1=>∀ D,H1 D=none->zvc J g tc te Q D (cp σ) (upd H1 D (.lst []))
def zxn (k:Nat)(caps:List Nat):St->St:=fun σ=>jx k none++caps.map fun i=>σ.getD i none
structure zh1 (X:Cx)(scope:Scope)(own:List Str)(caps:List Nat)(N':List Str):Prop where
 kind:scope.kind = .function
 nocell:∀ y∈scope.names,y.2≠ .cell
 names:∀ y∈scope.names,y.2 = .local->scope.names.lookup y.1=some .local
 free:∀ y∈scope.names,y.2 = .free->X.env.kindOf y.1=some .cell\/X.env.kindOf y.1=some .free
 hN:N'=own++caps.filterMap fun i=>X.N[i]?
 cap:∀ i∈caps,i<X.N.length
 capk:∀ i∈caps,∀ x,X.N[i]? = some x->scope.names.lookup x=some .free
 look:∀ x,(relabel scope X.env).names.lookup x=some .cell\/(relabel scope X.env).names.lookup x=some .free->(x,NameKind.free)∈scope.names
theorem zi8 {env:Env}:∀ {names:List (Str × NameKind)} {x:Str},names.lookup x=some .free ->
  (names.map fun (n,k)=>if (k == NameKind.free && env.scope.kind == .function && env.kindOf n == some .cell) then (n,NameKind.cell) else (n,k)).lookup x≠some .local
 | [],_,h=>by simp at h
 | (n,k) :: r,x,h=>by
  have ih:=@zi8 env r x
  show List.lookup x ((if (k == NameKind.free && env.scope.kind == .function && env.kindOf n == some .cell)=true then (n,NameKind.cell) else (n,k)) :: _)≠_
  cases hx:x == n with
  | true =>
   simp only [gv,hx] at h
   cases h
   by_cases hc:(NameKind.free == NameKind.free && env.scope.kind == .function && env.kindOf n == some .cell)=true
   ·rw [if_pos hc]; simp [gv,hx]
   ·rw [if_neg hc]; simp [gv,hx]
  | false =>
   simp only [gv,hx] at h
   by_cases hc:(k == NameKind.free && env.scope.kind == .function && env.kindOf n == some .cell)=true
   ·rw [if_pos hc]; simp only [gv,hx]; exact ih h
   ·rw [if_neg hc]; simp only [gv,hx]; exact ih h
section
variable {X:Cx} {scope:Scope} {own N':List Str} {caps:List Nat}
theorem zh3 {α:Type}(N:List α):∀ (caps:List Nat),(∀ i∈caps,i<N.length)->∀ (j:Nat) (x:α),(caps.filterMap fun i=>N[i]?)[j]? = some x->∃ i,caps[j]? = some i/\N[i]? = some x
 | [],_,j,x,h=>by simp at h
 | a :: r,hc,j,x,h=>by
  have ha:=hc a fk
  rw [iy,List.getElem?_eq_getElem ha] at h
  cases j with
  | zero=>exact ⟨a,rfl,by rw [List.getElem?_eq_getElem ha]; simpa using h⟩
  | succ j =>
   obtain ⟨i,h1,h2⟩:=zh3 N r (fun i hi=>hc i (fg _ hi)) j x (by simpa using h)
   exact ⟨i,by simpa using h1,h2⟩
theorem zid {α:Type}(N:List α):∀ (caps:List Nat),(∀ i∈caps,i<N.length)->(caps.filterMap fun i=>N[i]?).length=caps.length
 | [],_=>rfl
 | a :: r,hc=>by
  have ha:=hc a fk
  rw [iy,List.getElem?_eq_getElem ha]
  simp [zid N r fun i hi=>hc i (fg _ hi)]
theorem Inv.enterComp {pins:List (Addr × Obj)}{σ:St}{H:Hp}{s:Shared}{cl:List (Str × Addr)}{fp:List Addr}{h1:Heap}{tk:Nat}(I:Inv X pins σ H s)(T:zh1 X scope own caps N')
  (hcl:∀ x c,cl.lookup x=some c->X.env.cells.lookup x=some c)(hcl2:∀ y∈scope.names,y.2 = .free->∃ c,cl.lookup y.1=some c)
  (hf:∀ b∈fp,zrg X pins H b)(hfo:∀ b∈fp,∃ o,s.heap.get? b=some o)(hns:h1.Ns s.heap.objs.size (fun _=>none))(hk:∀ b o,s.heap.get? b=some o->h1.get? b=some o) :
  Inv (zc9 X N' scope cl s.heap.objs.size s H fp) [] (zxn own.length caps σ) H { s with heap:=h1,toks:=tk }:=by
 have ae:N'.length=own.length+caps.length:=by rw [T.hN,fe,zid _ _ T.cap]
 refine ⟨⟨I.ok.mod,?_,I.ok.glob,I.ok.blt,gd _,fun x y c h1 h2=>I.ok.inj x y c (hcl x c h1) (hcl y c h2),fun x hx=>?_,fun x c h=>fT h,I.ok.hd,I.ok.frames,.inl rfl,
   fun b hb=>⟨?_,fun x c e=>(hf b hb).2.2.2.2.1 x c (hcl x c e)⟩,fun b o e=>I.bs b o e,gf I.ok.bsz I.sz,fun b o e hb=>?_,fun b hb z=>?_,I.stack,I.stkFree⟩,
  rfl,I.bare,Un.kept hk,⟨_,hns,fun i x v e1 e2 e3=>?_⟩,fun x c e=>?_,I.hok.fresh (gd _),fun x c e=>⟨fun z=>fT z,(I.freeC x c (hcl x c e)).2⟩,fun p hp=>absurd (show p∈([]:List (Addr × Obj)) from hp) (by simp),I.hok.kept hk,?_⟩
 ·show (relabel scope X.env).kind = .function
  exact T.kind
 ·exact hcl2 (x,.free) (T.look x hx) rfl
 ·obtain ⟨o,e⟩:=hfo b hb
  exact gc (fw e)
 ·rcases (hf b hb).2.2.2.1 with z | z
  ·exact I.ok.noex b o e z
  ·exact absurd (fi (fw e) (gf I.ok.bsz z)) (io _)
 ·rcases gl.mp (I.stkSub b z) with q | q
  ·exact (hf b hb).2.1 q
  ·exact (hf b hb).2.2.1 q
 ·-- the values of the block's names
  have w:N'[i]? = some x:=e1
  rw [T.hN] at w
  have d:(zxn own.length caps σ)[i]? = some (some v):=e2
  unfold zxn at d
  by_cases hi:i<own.length
  ·rw [List.getElem?_append_left (by simpa using hi),List.getElem?_replicate,if_pos hi] at d
   cases d
  ·rw [List.getElem?_append_right (by simpa using hi),jh] at d
   rw [List.getElem?_append_right (by omega)] at w
   obtain ⟨j,hj,hx⟩:=zh3 X.N caps T.cap _ _ w
   rw [List.getElem?_map,hj] at d
   have f:σ.getD j none=some v:=Option.some.inj d
   have hs:σ[j]? = some (some v):=by
    rw [List.getD_eq_getElem?_getD] at f
    cases q:σ[j]? with
    | none =>
     rw [q] at f
     cases f
    | some z =>
     rw [q] at f
     have:z=some v:=f
     rw [this]
   have g:=T.capk j (fm hj) x hx
   have t:(x,NameKind.free)∈scope.names:=PySem.mem_of_lookup g
   have ac:=T.free _ t rfl
   obtain ⟨m,hn,hl⟩:=I.loc
   obtain ⟨u,r,l⟩:=hl j x v hx hs (by
    rcases ac with z | z
    ·exact .inr (.inl z)
    ·exact .inr (.inr z))
   rcases l with ⟨q,_⟩ | ⟨_,c,hc,aa⟩
   ·rcases ac with z | z
    ·rw [show X.env.kindOf x=some .local from q] at z; cases z
    ·rw [show X.env.kindOf x=some .local from q] at z; cases z
   ·obtain ⟨c',ad⟩:=hcl2 _ t rfl
    have ab:=hcl x c' ad
    rw [hc] at ab
    cases ab
    refine ⟨u,r,.inr ⟨?_,c,ad,?_⟩⟩
    ·rcases e3 with z | z | z
     ·-- a free name does not become local
      exfalso
      have:(relabel scope X.env).names.lookup x=some .local:=z
      rw [show (relabel scope X.env).names=scope.names.map fun (n,k)=>if (k == .free && X.env.scope.kind == .function && X.env.kindOf n == some .cell) then (n,.cell) else (n,k) from rfl] at this
      exact absurd this (zi8 g)
     ·exact .inl z
     ·exact .inr z
    ·obtain ⟨o,ho,hd⟩:=aa
     exact ⟨o,hk _ _ ho,hd⟩
 ·obtain ⟨v,o,ho,hd⟩:=I.cell x c (hcl x c e)
  exact ⟨v,o,hk _ _ ho,hd⟩
 ·show (zxn own.length caps σ).length=N'.length
  rw [ae]
  unfold zxn
  simp
theorem Inv.leaveComp {pins pins':List (Addr × Obj)}{σ σ':St}{H H':Hp}{s s':Shared}{cl:List (Str × Addr)}{fp:List Addr}{h2:Heap}(I:Inv X pins σ H s)(hf:∀ b∈fp,zrg X pins H b)
  (J:Inv (zc9 X N' scope cl s.heap.objs.size s H fp) pins' σ' H' s')(hs:Heap.SameBut s.heap.objs.size s'.heap h2):Inv X pins σ H' { s' with heap:=h2 }:=by
 have fr:H' s.heap.objs.size=none:=J.free
 have ne:∀ b o,s.heap.get? b=some o->b≠s.heap.objs.size:=fun b o e=>gc (fw e)
 have U:Un (frs X.stack) fp H H' s.heap s'.heap:=J.base
 refine I.call' (s':={ s' with heap:=h2 }) (ch:=fp) J.os ⟨fun b o e n hb hx=>(hs.2 b (ne b o e)).trans (U.keep b o e n hb hx),fun b o e n hb hx=>?_,U.free,fun b o e hx=>?_,U.tups,U.frzs,U.tbls⟩ (fun a o e=>?_) J.bare fun b hb=>?_
 ·obtain ⟨sl,q⟩:=U.slot b o e n hb hx
  exact ⟨sl,(hs.2 b (ne b o e)).trans q⟩
 ·obtain ⟨o',q⟩:=U.there b o e hx
  exact ⟨o',(hs.2 b (ne b o e)).trans q⟩
 ·refine (J.hok a o e).stay (fun b u hb q=>(hs.2 b ?_).trans q) (fun _ q=>q) fun _ _ q=>q
  intro z
  rcases hb with hb | hb
  ·rw [<- hb,z,fr] at e
   cases e
  ·rw [z,fr] at hb
   cases hb
 ·obtain ⟨f0,f1,f2,f3,f4,f5⟩:=hf b hb
  exact ⟨f3,f1,f4,f5⟩
theorem zpe {elt tg iter:Expr}{ifs:List Expr}{pos:Pos}{wi:TI}{g:TG}{tc:TT}{te:TE}(hc:X.calm=true)(T:zh1 X scope own caps N')(hi:PI X tg iter wi)
  (hg:∀ cl C s H fp,PG (zc9 X N' scope cl C s H fp) tg g)(ht:∀ cl C s H fp,PTs (zc9 X N' scope cl C s H fp) ifs tc)(he:∀ cl C s H fp,PE (zc9 X N' scope cl C s H fp) elt te)
  {pins:List (Addr × Obj)}{σ:St}{H:Hp}{s:Shared}{Q:VK}(I:Inv X pins σ H s)(h:z0b wi g tc te (zxn own.length caps) σ H Q){cl:List (Str × Addr)}
  (hcl:∀ x c,cl.lookup x=some c->X.env.cells.lookup x=some c)(hcl2:∀ y∈scope.names,y.2 = .free->∃ c,cl.lookup y.1=some c){RR:Value->Addr->Result->Shared->Prop}
  (k:∀ {s3:Shared} {H3:Hp} {D:Addr} {fp:List Addr} {σ5:St} {H5:Hp} {s6:Shared},Inv X pins σ H3 s3->(∀ b∈fp,zrg X pins H3 b)->Inv (zc9 X N' scope cl s3.heap.objs.size s3 H3 fp) [] σ5 H5 s6->Q (.ref D) H5->RR (.ref D) s3.heap.objs.size (.ok .next) s6) :
  wpAny (model X.prog X.w) X.A (eval iter X.env) (fun x s₁=>wpAny (model X.prog X.w) X.A (pyIter x) (fun it s₂=>wpAny (model X.prog X.w) X.A (newList []) (fun acc s₃ =>
   wpAny (model X.prog X.w) X.A (newFunctionEnv scope X.env.globals cl [] X.env.qual none .none (some X.env)) (fun cenv s₄ =>
    codeAny (model X.prog X.w) X.A (.compStart (.ListComp elt [⟨tg,iter,ifs,0⟩] scope pos) 0 it acc { cenv with scope:=relabel scope X.env }) (RR acc cenv.locals) s₄) X.xe s₃) X.xe s₂) X.xe s₁) X.xe s:=by
 refine thn (hi pins s σ H _ I h) fun xv s1 h1=>thn h1 fun ar s2 h2=>?_
 obtain ⟨it,fp,tn,J,H2,rfl,I2,TU,ac,f2,q2⟩:=h2
 have fo:∀ b∈fp,∃ o,s2.heap.get? b=some o:=fun b hb=>let ⟨o,e,_⟩:=TU.obj _ _ ac b hb; ⟨o,e⟩
 obtain ⟨W,⟨m0,w0⟩,turn⟩:=q2 s2.heap.objs.size I2.fresh
 refine wpAny_newObj_type ?_
 have I3:Inv X pins σ (upd H2 s2.heap.objs.size (.lst [])) { s2 with heap:=s2.heap.push { cls:= .type "list",data:= .seq ([]:List Value).toArray } }:=I2.lnew (t':=s2.toks) .nil (im _)
 generalize af:({ s2 with heap:=s2.heap.push { cls:= .type "list",data:= .seq ([]:List Value).toArray } }:Shared)=s3 at I3
 have k3:∀ b o,s2.heap.get? b=some o->s3.heap.get? b=some o:=fun b o e=>by rw [<- af]; exact Heap.get?_push_of_some _ e
 have f3:∀ b∈fp,zrg X pins (upd H2 s2.heap.objs.size (.lst [])) b:=fun b hb=>by
  obtain ⟨o,e⟩:=fo b hb
  exact ⟨by rw [zac (gc (fw e))]; exact (f2 b hb).1,(f2 b hb).2⟩
 have aa:∀ b∈fp,∃ o,s3.heap.get? b=some o:=fun b hb=>let ⟨o,e⟩:=fo b hb; ⟨o,k3 b o e⟩
 have ag:tn 0 s3.heap:=TU.keep _ _ _ ac fun b hb o e=>k3 b o e
 show wpAny _ _ _ _ _ s3
 refine wpAny_newFunctionEnv T.nocell (fun y hy=>(nomatch hy)) (fun h4 aj ao=>?_) T.kind
 have k4:∀ b o,s3.heap.get? b=some o->h4.get? b=some o:=fun b o e=>(ao.2 b (gc (fw e))).trans (Heap.get?_push_of_some _ e)
 have J4:Inv (zc9 X N' scope cl s3.heap.objs.size s3 (upd H2 s2.heap.objs.size (.lst [])) fp) [] (zxn own.length caps σ) (upd H2 s2.heap.objs.size (.lst [])) { s3 with heap:=h4,toks:=s3.toks+0 } :=
  I3.enterComp T hcl hcl2 f3 aa aj k4
 have t:tn 0 h4:=TU.keep _ _ _ ag fun b hb o e=>k4 b o e
 have f:∀ {H':Hp},(∀ b∈fp,H' b=none)->∀ b∈fp,zrg (zc9 X N' scope cl s3.heap.objs.size s3 (upd H2 s2.heap.objs.size (.lst [])) fp) [] H' b:=fun hn b hb=>by
  obtain ⟨o,e⟩:=aa b hb
  refine ⟨hn b hb,gc (fw e),fun z=>?_,.inl hb,fun x c q=>(f3 b hb).2.2.2.2.1 x c (hcl x c q),fun p hp=>absurd (show p∈([]:List (Addr × Obj)) from hp) (by simp)⟩
  rcases gl.mp (I3.stkSub b z) with q | q
  ·exact (f3 b hb).2.1 q
  ·exact (f3 b hb).2.2.1 q
 have j:codeAny (model X.prog X.w) X.A (.compLoop (.ListComp elt [⟨tg,iter,ifs,0⟩] scope pos) 0 (.ref it) (.ref s2.heap.objs.size) (compEnvC scope cl s3.heap.objs.size X.env))
   (RR (.ref s2.heap.objs.size) s3.heap.objs.size) { s3 with heap:=h4,toks:=s3.toks+0 }:=by
  refine zps (fun n s'=>∃ i σ' H',Inv (zc9 X N' scope cl s3.heap.objs.size s3 (upd H2 s2.heap.objs.size (.lst [])) fp) [] σ' H' s'/\tn i s'.heap/\(∀ b∈fp,H' b=none)/\W i n σ' H') ?_ m0
   ⟨0,_,_,J4,t,fun b hb=>(f3 b hb).1,w0⟩
  rintro n s5 ⟨i,σ5,H5,I5,ab,ad,w5⟩
  rcases turn i n σ5 H5 w5 with ⟨stop,qn⟩ | ⟨go,N,hN,step⟩
  ·refine thn (TU.done (zc9 X N' scope cl s3.heap.objs.size s3 (upd H2 s2.heap.objs.size (.lst [])) fp) rfl rfl rfl hc i [] s5 σ5 H5 (fun _ _=>False) I5 (f ad) ab stop) fun r s6 ⟨hr,I6⟩=>?_
   subst hr
   exact k I3 f3 I6 qn
  ·refine thn (TU.item (zc9 X N' scope cl s3.heap.objs.size s3 (upd H2 s2.heap.objs.size (.lst [])) fp) rfl rfl rfl hc i [] s5 σ5 H5 (fun _ _=>False) I5 (f ad) ab go) fun r s6 ⟨u,hr,h6⟩=>?_
   subst hr
   refine thn h6 fun _ s7 ⟨x,H7,I7,r7,y7,l,ae⟩=>?_
   have ak:=I7.pinned (f ae) (TU.obj _ _ l)
   have a:∀ {σ':St} {H':Hp} {s':Shared},Inv (zc9 X N' scope cl s3.heap.objs.size s3 (upd H2 s2.heap.objs.size (.lst [])) fp) ([]++zpo fp s7.heap) σ' H' s'->N σ' H' ->
     ∃ m,m<n/\∃ i σ' H',Inv (zc9 X N' scope cl s3.heap.objs.size s3 (upd H2 s2.heap.objs.size (.lst [])) fp) [] σ' H' s'/\tn i s'.heap/\(∀ b∈fp,H' b=none)/\W i m σ' H':=fun {σ' H' s'} I' n'=>by
    obtain ⟨m',hm,w'⟩:=hN σ' H' n'
    refine ⟨m',hm,i+1,σ',H',I'.unpinned,TU.keep _ _ _ l fun b hb o e=>(I'.pin (b,o) (fh _ (fh _ (zg_ hb e)))).1,fun b hb=>?_,w'⟩
    obtain ⟨o,e,d⟩:=TU.obj _ _ l b hb
    exact (I'.pin (b,o) (fh _ (fh _ (zg_ hb e)))).2.1
   refine thn (hg _ _ _ _ _ _ s7 σ5 H7 x u _ ak r7 (step x H7 y7)) fun _ s8 ⟨σ8,H8,I8,q8⟩=>?_
   refine thn (ht _ _ _ _ _ _ s8 σ8 H8 _ I8 q8) fun b s9 ⟨H9,I9,q9⟩=>?_
   cases b with
   | false =>
    rw [if_neg Bool.false_ne_true] at q9 |-
    exact a I9 q9
   | true =>
    rw [if_pos rfl] at q9 |-
    refine thn (he _ _ _ _ _ _ s9 σ8 H9 _ I9 q9) fun v ai ⟨y,an,ap,ah,acc,hD,hl,hn⟩=>?_
    refine thn (zb4 _ ai σ8 an (.ref s2.heap.objs.size) [y] (.ref s2.heap.objs.size) [v] (fun _ H'=>N σ8 H') ap rfl (.cons ah .nil) ⟨_,acc,y,rfl,rfl,hD,hl,hn⟩) fun _ au ⟨_,aq,al,_,am⟩=>?_
    exact a al am
 exact codeAny_compStart_list j (TU.self _ 0 _ _ _ t j)
theorem zct {elt tg iter:Expr}{ifs:List Expr}{pos:Pos}{wi:TI}{g:TG}{tc:TT}{te:TE}(hc:X.calm=true)(T:zh1 X scope own caps N')(hi:PI X tg iter wi)
  (hg:∀ cl C s H fp,PG (zc9 X N' scope cl C s H fp) tg g)(ht:∀ cl C s H fp,PTs (zc9 X N' scope cl C s H fp) ifs tc)(he:∀ cl C s H fp,PE (zc9 X N' scope cl C s H fp) elt te)
  (hs:∀ x,foldedSetIterable iter X.env x=pure x:=by intro _; rfl):PE X (.ListComp elt [⟨tg,iter,ifs,0⟩] scope pos) (z0b wi g tc te (zxn own.length caps)):=by
 intro pins s σ H Q I h
 obtain ⟨cl,a,d,b⟩:=zhv (scope:=scope) (env:=X.env) (fun y hy hf=>I.ok.has y.1 (T.free y hy hf))
 rw [eval_ListComp]
 refine wpAny_comprehension_free (use:=none) rfl hs a T.kind T.names (zpe hc T hi hg ht he I h d b (RR:=fun c C=>compPost (model X.prog X.w) X.A X.xe none (EP X pins σ Q) c C) ?_)
 intro s3 H3 D fp σ5 H5 s6 I3 f3 I6 qn
 obtain ⟨m,hn,_⟩:=I6.loc
 exact ⟨m,hn,fun h' e=>⟨.ref D,H5,I3.leaveComp f3 I6 e,rfl,qn⟩⟩
theorem zf5 {elt tg iter:Expr}{ifs:List Expr}{pos spos py:Pos}{y:Str}{i:Nat}{wi:TI}{g:TG}{tc:TT}{te:TE}(hN:X.N.Nodup)(hi':X.N[i]? = some y)(hx:Loc X.env.scope y)(hc:X.calm=true)(T:zh1 X scope own caps N')(hi:PI X tg iter wi)
  (hg:∀ cl C s H fp,PG (zc9 X N' scope cl C s H fp) tg g)(ht:∀ cl C s H fp,PTs (zc9 X N' scope cl C s H fp) ifs tc)(he:∀ cl C s H fp,PE (zc9 X N' scope cl C s H fp) elt te)
  (hsw:swapsWith (.ListComp elt [⟨tg,iter,ifs,0⟩] scope pos) (some (.Name y py)) spos.line X.env=pure true:=by rfl)(hs:∀ x,foldedSetIterable iter X.env x=pure x:=by intro _; rfl)
  (hf:X.fn y=true\/X.env.scope.names.lookup y=some .local:=by first | exact .inl rfl | exact .inr rfl | assumption) :
  PS X (.Assign [.Name y py] (.ListComp elt [⟨tg,iter,ifs,0⟩] scope pos) spos) (z4b (z0b wi g tc te (zxn own.length caps)) (zoi i)):=by
 intro pins s σ H Dn I h
 obtain ⟨cl,a,j,d⟩:=zhv (scope:=scope) (env:=X.env) (fun y hy hf=>I.ok.has y.1 (T.free y hy hf))
 rw [exec_Assign_Name_used _ _ _ _ hsw]
 refine wpAny_bind (wpAny_standAt (wpAny_bind ?_))
 show wpAny _ X.A (do let _ <- comprehension (.ListComp elt [⟨tg,iter,ifs,0⟩] scope pos) scope X.env _ (newList []) false (eval iter X.env) (some (assign (.Name y py) X.env))) _ _ s
 refine wpAny_bind (wpAny_mono (wpAny_comprehension_free (use:=some (assign (.Name y py) X.env)) (Q:=fun _ s'=>SP X pins Dn .next s') rfl hs a T.kind T.names
  (zpe hc T hi hg ht he I h j d (RR:=fun f C=>compPost (model X.prog X.w) X.A X.xe (some (assign (.Name y py) X.env)) (fun _ s'=>SP X pins Dn .next s') f C) ?_)) (fun _ s' hq=>wpAny_pure (wpAny_pure hq)) fun _ _ e=>e)
 intro s3 H3 D fp σ5 H5 s6 I3 f3 I6 qn
 obtain ⟨m,⟨oC,es,ep,n,c,rC⟩,_⟩:=I6.loc
 have I7:Inv X pins σ H5 { s6 with heap:=s6.heap }:=I3.leaveComp f3 I6 (Heap.SameBut.refl _ _)
 have fC:zrg X pins H5 s3.heap.objs.size:=I3.fpOk (gd _) I6.free
 have I8:Inv X (pins++[(s3.heap.objs.size,oC)]) σ H5 s6:=I7.pins_of fun p hp=>by
  rcases fj.mp hp with z | z
  ·exact I7.pin p (fh _ z)
  ·rw [fc.mp z]
   exact ⟨n,fC.1,fC.2.1,fC.2.2.1,fun v q=>by rw [c] at q; cases q⟩
 show wpAny _ X.A (assign (.Name y py) X.env (.ref D)) _ _ s6
 refine wpAny_assign_Name (zfu I8 hN hi' hx (v:= .ref D) rfl (fun s9 I9=>?_) hf)
 have o:=(I9.pin (s3.heap.objs.size,oC) (fh _ (fh _ fk))).1
 refine ⟨m,⟨oC,es,ep,o,c,rC⟩,fun h' l=>?_⟩
 have r:Inv X pins (σ.set i (some (.ref D))) H5 s9:=I9.unpinned
 exact ⟨_,H5,r.turnN (t':=s9.toks) (ch:=[s3.heap.objs.size]) (fun b u hb q=>(l.2 b (fun z=>hb (by simp [z]))).trans q) fun b hb=>by rw [fc.mp hb]; exact fC,qn⟩
end
def zzd (outer:Scope)(N:List Str)(scope:Scope)(own:List Str)(caps:List Nat)(N':List Str):Bool :=
 (scope.kind == .function) && scope.names.all (fun y=>y.2 != .cell) && scope.names.all (fun y=>y.2 != .local || scope.names.lookup y.1 == some .local) &&
 scope.names.all (fun y=>y.2 != .free || (outer.names.lookup y.1 == some .cell || outer.names.lookup y.1 == some .free)) && decide (N'=own++caps.filterMap fun i=>N[i]?) &&
 caps.all (fun i=>match N[i]? with | some x=>scope.names.lookup x == some .free | none=>false)
theorem zjk {env:Env}:∀ {names:List (Str × NameKind)} {x:Str},(∀ y∈names,y.2≠ .cell) ->
  ((names.map fun (n,k)=>if (k == NameKind.free && env.scope.kind == .function && env.kindOf n == some .cell) then (n,NameKind.cell) else (n,k)).lookup x=some .cell \/
   (names.map fun (n,k)=>if (k == NameKind.free && env.scope.kind == .function && env.kindOf n == some .cell) then (n,NameKind.cell) else (n,k)).lookup x=some .free)->(x,NameKind.free)∈names
 | [],_,_,h=>by simp at h
 | (n,k) :: r,x,hn,h=>by
  have ih:=@zjk env r x (fun y hy=>hn y (fg _ hy))
  have hk:k≠ .cell:=hn (n,k) fk
  change List.lookup x ((if (k == NameKind.free && env.scope.kind == .function && env.kindOf n == some .cell)=true then (n,NameKind.cell) else (n,k)) :: _)=_ \/
   List.lookup x ((if (k == NameKind.free && env.scope.kind == .function && env.kindOf n == some .cell)=true then (n,NameKind.cell) else (n,k)) :: _)=_ at h
  cases hx:x == n with
  | true =>
   have e:=beq_iff_eq.mp hx
   subst e
   by_cases hc:(k == NameKind.free && env.scope.kind == .function && env.kindOf x == some .cell)=true
   ·have:k = .free:=by
     rw [ic,ic] at hc
     simpa using hc.1.1
    rw [this]
    exact fk
   ·rw [if_neg hc] at h
    simp only [gv,hx] at h
    rcases h with h | h
    ·exact absurd (Option.some.inj h) hk
    ·rw [Option.some.inj h]
     exact fk
  | false =>
   refine fg _ (ih ?_)
   by_cases hc:(k == NameKind.free && env.scope.kind == .function && env.kindOf n == some .cell)=true
   ·rw [if_pos hc] at h
    simpa only [gv,hx] using h
   ·rw [if_neg hc] at h
    simpa only [gv,hx] using h
theorem zaz {X:Cx}{scope:Scope}{own N':List Str}{caps:List Nat}(h:zzd X.env.scope X.N scope own caps N'=true):zh1 X scope own caps N':=by
 unfold zzd at h
 simp only [ic] at h
 obtain ⟨⟨⟨⟨⟨h1,h2⟩,h3⟩,h4⟩,h5⟩,h6⟩:=h
 have nc:∀ y∈scope.names,y.2≠ .cell:=fun y hy=>by simpa using iz.mp h2 y hy
 have cp:∀ i∈caps,∃ x,X.N[i]? = some x/\scope.names.lookup x=some .free:=fun i hi=>by
  have q:=iz.mp h6 i hi
  cases e:X.N[i]? with
  | none =>
   rw [e] at q
   cases q
  | some x =>
   rw [e] at q
   exact ⟨x,rfl,by simpa using q⟩
 refine ⟨by simpa using h1,nc,fun y hy hl=>?_,fun y hy hf=>?_,of_decide_eq_true h5,fun i hi=>?_,fun i hi x e=>?_,fun x hx=>zjk nc hx⟩
 ·have q:=iz.mp h3 y hy
  rw [hl] at q
  simpa using q
 ·have q:=iz.mp h4 y hy
  rw [hf] at q
  simp at q
  exact q
 ·obtain ⟨x,e,_⟩:=cp i hi
  exact (List.getElem?_eq_some_iff.mp e).1
 ·obtain ⟨y,e',q⟩:=cp i hi
  rw [e] at e'
  cases e'
  exact q
theorem zd2 {K:W.Frag}{a D:Addr}{xs:List V}{g:TG}{tc:TT}{te:TE}{Q:VK}{σ:St}{H:Hp}(Pv:Nat->St->Hp->Prop)(h0:Pv 0 σ H)(hl:∀ i σ H,i<=xs.length->Pv i σ H->SqL K H a xs)
  (hs:∀ i x σ H,xs[i]? = some x->Pv i σ H->g x σ H fun σ3 H3=>tc σ3 H3 fun b H4=>if b=true then te σ3 H4 fun y H5=>∃ acc,H5 D=some (.lst acc)/\acc.length<sizeLine/\Pv (i+1) σ3 (upd H5 D (.lst (acc++[y]))) else Pv (i+1) σ3 H4)
  (hd:∀ σ H,Pv xs.length σ H->Q (.ref D) H) :
  zvc (Itl K a) g tc te Q D σ H:=by
 refine ⟨fun i m σ H=>m=xs.length - i/\i<=xs.length/\Pv i σ H,⟨xs.length,by simp,im _,h0⟩,?_⟩
 rintro i m σ H ⟨rfl,hi,p⟩
 have q:=hl i σ H hi p
 by_cases c:i<xs.length
 ·refine .inr ⟨⟨xs,xs[i],q,by simp [c]⟩,Pv (i+1),fun σ' H' p'=>⟨xs.length - (i+1),by omega,rfl,c,p'⟩,fun x H' y=>?_⟩
  obtain ⟨e,y⟩:=y
  subst e
  exact hs i x σ _ (y xs q) p
 ·have e:i=xs.length:=by omega
  subst e
  exact .inl ⟨⟨xs,q,gd _⟩,hd σ H p⟩
theorem zfb {lo:Int}{n:Nat}{D:Addr}{g:TG}{tc:TT}{te:TE}{Q:VK}{σ:St}{H:Hp}(Pv:Nat->St->Hp->Prop)(h0:Pv 0 σ H)
  (hs:∀ i σ H,i<n->Pv i σ H->g (.int (lo+i)) σ H fun σ3 H3=>tc σ3 H3 fun b H4=>if b=true then te σ3 H4 fun y H5=>∃ acc,H5 D=some (.lst acc)/\acc.length<sizeLine/\Pv (i+1) σ3 (upd H5 D (.lst (acc++[y]))) else Pv (i+1) σ3 H4)
  (hd:∀ σ H,Pv n σ H->Q (.ref D) H) :
  zvc (Itr lo n) g tc te Q D σ H:=by
 refine ⟨fun i m σ H=>m=n - i/\i<=n/\Pv i σ H,⟨n,by simp,im _,h0⟩,?_⟩
 rintro i m σ H ⟨rfl,hi,p⟩
 by_cases a:i<n
 ·refine .inr ⟨a,Pv (i+1),fun σ' H' p'=>⟨n - (i+1),by omega,rfl,a,p'⟩,fun x H' y=>?_⟩
  obtain ⟨e,y⟩:=y
  subst e y
  exact hs i σ _ a p
 ·have e:i=n:=by omega
  subst e
  exact .inl ⟨gd _,hd σ H p⟩
mutual
def DV (K:W.Frag)(H:Hp):PyData->V->Prop
 | .none,v=>v = .non
 | .bool b,v=>v = .bl b
 | .int i,v=>v = .int i
 | .str x,v=>v = .str x
 | .list ds,v=>∃ a xs,v = .ref a/\SqL K H a xs/\DVs K H ds xs
 | .tuple ds,v=>∃ a xs,v = .ref a/\SqT K H a xs/\DVs K H ds xs
 | .dict _,_=>False
def DVs (K:W.Frag)(H:Hp):List PyData->List V->Prop
 | [],xs=>xs=[]
 | d :: ds,xs=>∃ x r,xs=x :: r/\DV K H d x/\DVs K H ds r
end
section
variable {X:Cx} {pins:List (Addr × Obj)} {σ:St} {H:Hp} {s:Shared}
mutual
theorem Inv.reads (I:Inv X pins σ H s):∀ (d:PyData) (v:V) (u:Value),DV X.K H d v->zcb v u->∃ as,Reads s.heap u d as
 | .none,v,u,h,r=>by
  unfold DV at h
  subst h
  cases (show u=Value.none from r)
  exact ⟨_,.none⟩
 | .bool b,v,u,h,r=>by
  unfold DV at h
  subst h
  cases (show u=Value.bool b from r)
  exact ⟨_,.bool b⟩
 | .int i,v,u,h,r=>by
  unfold DV at h
  subst h
  obtain ⟨t,rfl⟩:=(show ∃ t,u=Value.int i t from r)
  exact ⟨_,.int i t⟩
 | .str x,v,u,h,r=>by
  unfold DV at h
  subst h
  obtain ⟨t,rfl⟩:=(show ∃ t,u=Value.str x t from r)
  exact ⟨_,.str x t⟩
 | .list ds,v,u,h,r=>by
  unfold DV at h
  obtain ⟨a,xs,rfl,hq,hd⟩:=h
  cases (show u=Value.ref a from r)
  obtain ⟨its,rv,p,_⟩:=I.list hq
  obtain ⟨as,ra⟩:=Inv.readsAll I ds xs its hd rv
  obtain ⟨o,e,c,n,q⟩:=p.isList
  exact ⟨_,.list e c q (by simpa using ra)⟩
 | .tuple ds,v,u,h,r=>by
  unfold DV at h
  obtain ⟨a,xs,rfl,hq,hd⟩:=h
  cases (show u=Value.ref a from r)
  obtain ⟨its,rv,p,_⟩:=I.tuple hq
  obtain ⟨as,ra⟩:=Inv.readsAll I ds xs its hd rv
  obtain ⟨o,e,c,n,q⟩:=(show s.heap.IsTuple a its.toArray from p)
  exact ⟨_,.tuple e c q (by simpa using ra)⟩
 | .dict _,v,u,h,r=>by
  unfold DV at h
  exact h.elim
theorem Inv.readsAll (I:Inv X pins σ H s):∀ (ds:List PyData) (xs:List V) (us:List Value),DVs X.K H ds xs->zb8 xs us->∃ as,ReadsAll s.heap us ds as
 | [],xs,us,h,r=>by
  unfold DVs at h
  subst h
  cases r
  exact ⟨_,.nil⟩
 | d :: ds,xs,us,h,r=>by
  unfold DVs at h
  obtain ⟨x,xr,rfl,h1,h2⟩:=h
  cases r with
  | cons r1 r2 =>
   obtain ⟨as,ra⟩:=Inv.reads I d x _ h1 r1
   obtain ⟨bs,rb⟩:=Inv.readsAll I ds xr _ h2 r2
   exact ⟨_,.cons ra rb⟩
end
end
def z1u (K:W.Frag)(neg:Bool):R2:=fun x y H Q=>∃ da db,DV K H da x/\DV K H db y/\da.canLay0=true/\db.canLay0=true/\da.depth<=64/\Q (.bl (if neg then !PyData.eqv da db else PyData.eqv da db)) H
theorem zyz {X:Cx}(hu:X.A.units+64<cLine):OpR X (compareOp .Eq) (z1u X.K false):=by
 intro pins s σ H x y v u Q I rx ry h
 obtain ⟨da,db,h1,h2,c1,c2,hd,q⟩:=h
 obtain ⟨as,ra⟩:=I.reads da x v h1 rx
 obtain ⟨bs,rb⟩:=I.reads db y u h2 ry
 exact SeqAt.compareEq_reads ra rb c1 c2 (by have:=Nat.min_le_left da.depth db.depth; omega) ⟨.bl _,H,I,rfl,q⟩
theorem zre {X:Cx}(hu:X.A.units+64<cLine):OpR X (compareOp .NotEq) (z1u X.K true):=by
 intro pins s σ H x y v u Q I rx ry h
 obtain ⟨da,db,h1,h2,c1,c2,hd,q⟩:=h
 obtain ⟨as,ra⟩:=I.reads da x v h1 rx
 obtain ⟨bs,rb⟩:=I.reads db y u h2 ry
 exact SeqAt.compareNe_reads ra rb c1 c2 (by have:=Nat.min_le_left da.depth db.depth; omega) ⟨.bl _,H,I,rfl,q⟩
theorem zrb {K:W.Frag}{H:Hp}:∀ ns:List Int,DVs K H (ns.map PyData.int) (ns.map V.int)
 | []=>by unfold DVs; rfl
 | n :: r=>by
  unfold DVs
  exact ⟨_,_,rfl,by unfold DV; rfl,zrb r⟩
theorem zqq {K:W.Frag}{H:Hp}{a:Addr}{ns:List Int}(h:SqL K H a (ns.map V.int)):DV K H (.list (ns.map PyData.int)) (.ref a):=by
 unfold DV
 exact ⟨a,_,rfl,h,zrb ns⟩
theorem zj7:∀ ns:List Int,PyData.canLayAll0 (ns.map PyData.int)=true
 | []=>by unfold PyData.canLayAll0; rfl
 | n :: r=>by
  show PyData.canLayAll0 (PyData.int n :: r.map PyData.int)=true
  unfold PyData.canLayAll0
  rw [zj7 r]
  unfold PyData.canLay0
  rfl
theorem zll:∀ ns:List Int,PyData.depthAll (ns.map PyData.int)=0
 | []=>by unfold PyData.depthAll; rfl
 | n :: r=>by
  show PyData.depthAll (PyData.int n :: r.map PyData.int)=0
  unfold PyData.depthAll
  rw [zll r]
  unfold PyData.depth
  rfl
def z4x (K:W.Frag)(neg:Bool):R2:=fun x y H Q=>∃ (a b:Addr) (ns ms:List Int),x = .ref a/\y = .ref b/\SqL K H a (ns.map V.int)/\SqL K H b (ms.map V.int)/\Q (.bl (if neg then !decide (ns=ms) else decide (ns=ms))) H
theorem zzc {K:W.Frag}{neg:Bool}{x y:V}{H:Hp}{Q:VK}(h:z4x K neg x y H Q):z1u K neg x y H Q:=by
 obtain ⟨a,b,ns,ms,rfl,rfl,h1,h2,q⟩:=h
 have e:PyData.eqv (.list (ns.map PyData.int)) (.list (ms.map PyData.int))=decide (ns=ms):=by
  unfold PyData.eqv
  exact my ns ms
 refine ⟨.list (ns.map PyData.int),.list (ms.map PyData.int),zqq h1,zqq h2,?_,?_,?_,?_⟩
 ·unfold PyData.canLay0
  exact zj7 ns
 ·unfold PyData.canLay0
  exact zj7 ms
 ·unfold PyData.depth
  rw [zll]
  decide
 ·rw [e]
  exact q
theorem zun {X:Cx}(hu:X.A.units+64<cLine):OpR X (compareOp .Eq) (z4x X.K false):=fun pins s σ H x y v u Q I rx ry h=>zyz hu pins s σ H x y v u Q I rx ry (zzc h)
theorem zh5 {X:Cx}(hu:X.A.units+64<cLine):OpR X (compareOp .NotEq) (z4x X.K true):=fun pins s σ H x y v u Q I rx ry h=>zre hu pins s σ H x y v u Q I rx ry (zzc h)
theorem zqw {α:Type}{g:α->PyData}:∀ {xs:List α},(∀ x∈xs,(g x).canLay0=true)->PyData.canLayAll0 (xs.map g)=true
 | [],_=>by unfold PyData.canLayAll0; rfl
 | x :: r,h=>by
  show PyData.canLayAll0 (g x :: r.map g)=true
  unfold PyData.canLayAll0
  rw [h x fk,zqw fun y hy=>h y (fg _ hy)]
  rfl
theorem znc {α:Type}{g:α->PyData}{n:Nat}:∀ {xs:List α},(∀ x∈xs,(g x).depth<=n)->PyData.depthAll (xs.map g)<=n
 | [],_=>by unfold PyData.depthAll; exact im _
 | x :: r,h=>by
  show PyData.depthAll (g x :: r.map g)<=n
  unfold PyData.depthAll
  exact Nat.max_le.mpr ⟨h x fk,znc fun y hy=>h y (fg _ hy)⟩
theorem zv_ {X:Cx}:MtR X "int.bit_length" (fun x xs H Q=>∃ i,x = .int i/\xs=[]/\Q (.int (Builtin.Int.intBits i:Nat)) H):=by
 intro pins s σ H x xs v us Q I rx rs h
 obtain ⟨i,rfl,rfl,q⟩:=h
 obtain ⟨t,rfl⟩:=rx
 cases rs
 exact call_int_bit_length ⟨.int (Builtin.Int.intBits i:Nat),H,I.tok _,⟨_,rfl⟩,q⟩
theorem zih {X:Cx}{o:Expr}{to:TE}{apos cpos:Pos}(ho:PE X o to)(hbase:attributeBase o "bit_length" X.env (eval o X.env)=eval o X.env:=by rfl)(hline:(apos.endLine == cpos.line)=true:=by rfl) :
  PE X (.Call (.Attribute o "bit_length" apos) [] [] cpos) (z5e X.K "int" (fun x xs H Q=>∃ i,x = .int i/\xs=[]/\Q (.int (Builtin.Int.intBits i:Nat)) H) to) :=
 zy2 PySem.F.plainAttrs_int PySem.F.slot_int_bit_length PySem.F.type_int_bit_length zv_ ho hbase hline
def zez (H:Hp)(c:Addr)(v:V):Prop:=∃ o u k,H c=some (.frz o k)/\o.data = .cell (some u)/\zcb v u
theorem zez.same {H H':Hp}{c:Addr}{v:V}(x:zez H c v)(h:∀ o k,H c=some (.frz o k)->H' c=some (.frz o k)):zez H' c v:=by
 obtain ⟨o,u,k,e,r⟩:=x
 exact ⟨o,u,k,h o k e,r⟩
section
variable {X:Cx} {pins:List (Addr × Obj)} {σ:St} {H:Hp} {s:Shared}
theorem Inv.freeze {x:Str}{c:Addr}{o:Obj}(I:Inv X pins σ H s)(hfn:X.fn x=false)(hc:X.env.cells.lookup x=some c)(hn:H c=none)(hab:X.s₀.heap.objs.size<=c)(ho:s.heap.get? c=some o) :
  Inv X pins σ (upd H c (.frz o (.own c))) s:=by
 have ne:∀ b u,H b=some u->b≠c:=fun b u e=>zag e hn
 obtain ⟨w,oc,a,g⟩:=I.cell x c hc
 rw [ho] at a
 cases a
 refine ⟨I.ok,I.os,I.bare,⟨I.base.keep,I.base.slot,fun b u e n hx=>?_,I.base.there,fun b xs e=>?_,fun b u k e=>?_,fun b ps e=>?_⟩,I.loc,I.cell,?_,fun y c' e=>?_,fun p hp=>?_,fun b u e=>?_,I.len⟩
 ·rw [zac (gc (fi (fw e) hab))]
  exact I.base.free b u e n hx
 ·have z:=I.base.tups b xs e
  rw [zac (ne b _ z)]
  exact z
 ·have z:=I.base.frzs b u k e
  rw [zac (ne b _ z)]
  exact z
 ·obtain ⟨m,z⟩:=I.base.tbls b ps e
  exact ⟨m,by rw [zac (ne b _ z)]; exact z⟩
 ·rw [zac (fun z=>I.cne x c hc z.symm)]
  exact I.free
 ·by_cases f:c'=c
  ·subst f
   have:=I.ok.inj _ _ _ e hc
   subst this
   exact ⟨fun z=>absurd (hfn.symm.trans z) Bool.false_ne_true,.inr ⟨o,_,zad⟩⟩
  ·rw [zac f]
   exact I.freeC y c' e
 ·obtain ⟨e,n,h,nf,d⟩:=I.pin p hp
  refine ⟨e,?_,h,nf,d⟩
  rw [zac]
  ·exact n
  ·intro z
   rw [z,ho] at e
   cases e
   exact d _ g
 ·by_cases hb:b=c
  ·subst hb
   rw [zad] at e
   cases e
   exact ⟨ho,o,ho⟩
  ·rw [zac hb] at e
   exact (I.hok b u e).stay (fun _ _ _ q=>q) (fun d q=>by rw [zac (ne d _ q)]; exact q) fun d xs q=>by rw [zac (ne d _ q)]; exact q
end
section
variable {P:Program} {w:World} {K:W.Frag} {mg:Str->Option Value} {base:Heap}
theorem zob {X:Cx}{σ:St}{s:Shared}{Hb:Hp}(N ps:List Str)(vs:List V)(hps:∀ (i:Nat) x v,ps[i]? = some x->vs[i]? = some v->X.N[i]? = some x/\σ[i]? = some (some v))(hab:∀ x c,X.env.cells.lookup x=some c->X.s₀.heap.objs.size<=c) :
  ∀ (fz:List Str) (H:Hp),(∀ x∈fz,X.fn x=false/\X.env.scope.names.lookup x=some .cell)->Inv X [] σ H s->zax Hb H->(∀ x c,X.env.cells.lookup x=some c->Hb c=none) ->
   ∃ H1,Inv X [] σ H1 s/\zax Hb H1/\(∀ b o,H b=some o->H1 b=some o)/\∀ (i:Nat) x v,x∈fz->ps[i]? = some x->vs[i]? = some v->∃ c,X.env.cells.lookup x=some c/\zez H1 c v
 | [],H,_,I,sm,_=>⟨H,I,sm,fun _ _ e=>e,fun _ _ _ hx=>(nomatch hx)⟩
 | x :: r,H,hf,I,sm,hb=>by
  have hx:=hf x fk
  obtain ⟨c,hc⟩:=I.ok.has x (.inl hx.2)
  obtain ⟨w',oc,hoc,hdc⟩:=I.cell x c hc
  obtain ⟨H2,I2,s2,k2,hz⟩:∃ H2,Inv X [] σ H2 s/\zax Hb H2/\(∀ b o,H b=some o->H2 b=some o)/\∃ k,H2 c=some (.frz oc k):=by
   rcases (I.freeC x c hc).2 with z | ⟨o,u,z⟩
   ·refine ⟨_,I.freeze hx.1 hc z (hab x c hc) hoc,fun b o e=>?_,fun b o e=>?_,_,zad⟩
    ·rw [zac (zag (sm b o e) z)]
     exact sm b o e
    ·rw [zac (zag e z)]
     exact e
   ·obtain ⟨z1,_⟩:=I.hok c _ z
    rw [hoc] at z1
    cases z1
    exact ⟨H,I,sm,fun _ _ e=>e,u,z⟩
  obtain ⟨H3,I3,s3,k3,h3⟩:=zob N ps vs hps hab r H2 (fun y hy=>hf y (fg _ hy)) I2 s2 hb
  refine ⟨H3,I3,s3,fun b o e=>k3 b o (k2 b o e),fun i y v hy e1 e2=>?_⟩
  by_cases a:y=x
  ·subst a
   obtain ⟨hN,hσ⟩:=hps i y v e1 e2
   obtain ⟨m,hn,hl⟩:=I.loc
   obtain ⟨u,ru,l⟩:=hl i y v hN hσ (.inr (.inl hx.2))
   rcases l with ⟨q,_⟩ | ⟨_,c',d,o',f,g⟩
   ·rw [show X.env.kindOf y=some .cell from hx.2] at q
    cases q
   ·rw [hc] at d
    cases d
    rw [hoc] at f
    cases f
    obtain ⟨k,z⟩:=hz
    exact ⟨c,hc,oc,u,k,k3 c _ z,g,ru⟩
  ·rcases gl.mp hy with q | q
   ·exact absurd q a
   ·exact h3 i y v q e1 e2
theorem zy_ {k:Nat}{f:Addr}{name qual:Str}{params:Arguments}{body:List Stmt}{scope:Scope}{dV kV doc pm cdv ct oc:Value}{an od:Option Addr}
  {osl:Array (Option Value)}{N ps fz:List Str}{sp:Sp}(lk:K.lookup f=some ⟨oc,od,.func (PySem.W.fnOf name qual params body scope dV kV doc pm an cdv ct),osl⟩)(hcd:PySem.W.codeIn K cdv qual=true)(S:zaj N ps scope)
  (hfz:∀ x∈fz,scope.names.lookup x=some .cell)(len:∀ vs H Q E,sp vs H Q E->vs.length=ps.length)
  (hbody:∀ (A:Around) (outer:List Env) (s:Shared) (H:Hp) (vs:List V) (Q:VK) (E:XK),zed k (A.deeper (envOfC qual scope s.heap.objs.size f cdv))->sp vs H Q E ->
   ∀ H1:Hp,zax H H1->(∀ (i:Nat) x v,x∈fz->ps[i]? = some x->vs[i]? = some v->∃ c,(envOfC qual scope s.heap.objs.size f cdv).cells.lookup x=some c/\zez H1 c v) ->
   ∃ t,PSs (zn0 CX0 P w K mg base N qual scope f cdv A outer s H E (fun x=> !fz.contains x)).nox body t/\t { nx:=fun _ H'=>Q .non H',rt:=Q } (start N vs) H1) :
  zc_ P w K mg base CX0 (k+1) f (PySem.W.fnOf name qual params body scope dV kV doc pm an cdv ct) ps sp:=by
 refine ⟨len,fun A outer s H args us vs Q E hr e0 hb r g=>?_⟩
 have hl:=len _ _ _ _ g
 have KX:K.In s.heap:=e0.mod.kin.keeps fun b o e=>(e0.bs b o e).1
 have j:s.heap.NoLimit:=e0.mod.nolimit.keeps fun b o e=>(e0.bs b o e).1
 have m:ps.length<=N.length:=by have:=congrArg km S.pre; rw [gh] at this; omega
 have a:∀ y∈ps.zip us,scope.names.lookup y.1=some .local\/(scope.names.lookup y.1=some .cell/\((cellsFrom (s.heap.objs.size+1) scope.names []).lookup y.1).isSome=true):=fun ⟨n,v⟩ hy=>by
  rcases S.par n (jq hy).1 with q | q
  ·exact .inl q
  ·exact .inr ⟨q,kc _ _ _ (.inl q)⟩
 refine codeAny_call_function hr.depth (KX _ _ lk) rfl S.co S.gen rfl (mx KX hcd) (hb _ _ _ _ ?_)
 refine wpAny_newFunctionEnv_cells S.kind a fun env he s1 x=>?_
 subst he
 refine ⟨j.keeps x.toInCall.keep,codeAny_func ?_⟩
 have I:Inv (zn0 CX0 P w K mg base N qual scope f cdv A outer s H E (fun x=> !fz.contains x)) [] (start N vs) H s1:=zpm S hr.hd e0 hl r x
 have l:∀ (i:Nat) y v,ps[i]? = some y->vs[i]? = some v->N[i]? = some y/\(start N vs)[i]? = some (some v):=fun i y v e1 e2=>by
  have hi:i<ps.length:=(List.getElem?_eq_some_iff.mp e1).1
  refine ⟨?_,?_⟩
  ·rw [<- S.pre,List.getElem?_take_of_lt hi] at e1
   exact e1
  ·unfold start
   rw [List.getElem?_append_left (by simp; omega),List.getElem?_map,e2]
   rfl
 obtain ⟨H1,I1,sm,_,h⟩:=zob (X:=zn0 CX0 P w K mg base N qual scope f cdv A outer s H E (fun x=> !fz.contains x)) (Hb:=H) N ps vs l
  (fun y c e=>ia (x.above y c (PySem.mem_of_lookup e))) fz H (fun y hy=>⟨by show (!fz.contains y)=false; simp [hy],hfz y hy⟩) I (zax.refl H) (fun y c e=>e0.hok.fresh (ia (x.above y c (PySem.mem_of_lookup e))))
 obtain ⟨t,ht,hq⟩:=hbody A outer s H vs Q E (hr.deeper _) g H1 sm h
 refine wpAny_mono (ht.nox [] s1 (start N vs) H1 _ I1 hq) (fun fl s' hs=>?_) fun e s' hs=>hs
 have d:∀ {σ':St} {H':Hp} {v:V} {u:Value},Inv (zn0 CX0 P w K mg base N qual scope f cdv A outer s H E (fun x=> !fz.contains x)) [] σ' H' s'->zcb v u->Q v H'->CE outer P w H s Q u s' :=
  fun {σ' H' v u} J rv q=>⟨v,H',J.os,J.bare,J.base,J.hok,rv,q⟩
 cases fl with
 | ret u =>
  obtain ⟨v,σ',H',J,rv,q⟩:=hs
  exact d J rv q
 | next =>
  obtain ⟨σ',H',J,q⟩:=hs
  exact d (v:=V.non) (u:=Value.none) J rfl q
 | brk =>
  obtain ⟨_,_,_,q⟩:=hs
  exact False.elim q
 | cont =>
  obtain ⟨_,_,_,q⟩:=hs
  exact False.elim q
end
def zcc (oc:Obj)(qual:Str):Prop:=∃ vs t,oc.data = .fields vs/\vs[1]? = some (.str qual t)
structure zit (name qual:Str)(params:Arguments)(body:List Stmt)(scope:Scope)(cells:List (Str × Addr))(fo:Obj)(clos:List (Str × Addr))(c':Addr):Prop where
 ob:∃ doc pm ctv,fo=lh name qual params body scope clos doc pm c' ctv
 sub:∀ x c,clos.lookup x=some c->cells.lookup x=some c
 free:∀ x c,clos.lookup x=some c->(x,NameKind.free)∈scope.names
 all:∀ y∈scope.names,y.2 = .free->∃ c,clos.lookup y.1=some c
 inj:∀ x y c,clos.lookup x=some c->clos.lookup y=some c->x=y
structure FunV (H:Hp)(f:Addr)(name qual:Str)(params:Arguments)(body:List Stmt)(scope:Scope)(fr:List Str)(cv:List V)(fd:FuncData):Prop where
 ex:∃ fo cells clos c' oc k k',H f=some (.frz fo k)/\zit name qual params body scope cells fo clos c'/\fo.data = .func fd/\fd.closure=clos/\fd.code = .ref c'/\H c'=some (.frz oc k')/\zcc oc qual /\
  ∀ (i:Nat) x v,fr[i]? = some x->cv[i]? = some v->∃ c,clos.lookup x=some c/\zez H c v
theorem FunV.same {H H':Hp}{f:Addr}{name qual:Str}{params:Arguments}{body:List Stmt}{scope:Scope}{fr:List Str}{cv:List V}{fd:FuncData}(x:FunV H f name qual params body scope fr cv fd)(h:∀ a o k,H a=some (.frz o k)->H' a=some (.frz o k)) :
  FunV H' f name qual params body scope fr cv fd:=by
 obtain ⟨fo,cells,clos,c',oc,k,k',e1,s,e2,e3,e4,e5,cs,hv⟩:=x.ex
 exact ⟨fo,cells,clos,c',oc,k,k',h _ _ _ e1,s,e2,e3,e4,h _ _ _ e5,cs,fun i y v a b=>let ⟨c,q,z⟩:=hv i y v a b; ⟨c,q,z.same fun o k=>h c o k⟩⟩
structure zg4 (N ps fr:List Str)(sc:Scope):Prop where
 kind:sc.kind = .function
 co:sc.isCoroutine=false
 gen:sc.isGenerator=false
 nd:N.Nodup
 pre:N.take (ps++fr).length=ps++fr
 par:∀ x∈ps,sc.names.lookup x=some .local
 fre:∀ x∈fr,sc.names.lookup x=some .free
 nocell:∀ y∈sc.names,y.2≠ .cell
 allfr:∀ y∈sc.names,y.2 = .free->y.1∈fr
 look:∀ y∈sc.names,sc.names.lookup y.1=some y.2
def zn9 (qual:Str)(scope:Scope)(clos:List (Str × Addr))(L a:Addr)(cd:Value):Env :=
 { scope:=scope,locals:=L,globals:=mainGlobals,cells:=clos,qual:=qual ++ ".<locals>.",func:=some a,code:=cd,frame:=some L,builtins:=builtinsNs }
def zqh (P:Program)(w:World)(K:W.Frag)(mg:Str->Option Value)(base:Heap)(N:List Str)(qual:Str)(scope:Scope)(clos:List (Str × Addr))(f:Addr)(cd:Value)(A:Around)(outer:List Env)(s:Shared)(H:Hp):Cx where
 prog:=P
 w:=w
 K:=K
 mg:=mg
 base:=base
 A:=A.deeper (zn9 qual scope clos s.heap.objs.size f cd)
 N:=N
 s₀:=s
 H₀:=H
 env:=zn9 qual scope clos s.heap.objs.size f cd
 outer:=outer
 stack:=zn9 qual scope clos s.heap.objs.size f cd :: outer
 ex:=[]
 calm:=true
 fn:=fun _=>false
 pn:=[]
 xe:=fun _ _=>False
theorem zhf {us:List Value}{x:Str}{u:Value}:∀ {ps:List Str} {us:List Value} {i:Nat},ps.Nodup->ps[i]? = some x->us[i]? = some u->(ps.zip us).reverse.lookup x=some u:=by
 intro ps us i nd h1 h2
 have mem:(x,u)∈(ps.zip us).reverse:=by
  rw [List.mem_reverse]
  refine fm (i:=i) ?_
  rw [List.getElem?_zip_eq_some]
  exact ⟨h1,h2⟩
 have a:∀ (l:List (Str × Value)),(∀ v,(x,v)∈l->v=u)->(x,u)∈l->l.lookup x=some u:=by
  intro l
  induction l with
  | nil=>intro _ h; cases h
  | cons p r ih =>
   intro hu hm
   obtain ⟨n,v⟩:=p
   rw [gv]
   by_cases e:(x == n)=true
   ·rw [e]
    have e':=beq_iff_eq.mp e
    subst e'
    exact congrArg some (hu v fk)
   ·rw [jf.mpr e]
    refine ih (fun v hv=>hu v (fg _ hv)) ?_
    rcases gl.mp hm with q | q
    ·cases q
     exact absurd (beq_self_eq_true x) e
    ·exact q
 refine a _ (fun v hv=>?_) mem
 rw [List.mem_reverse] at hv
 obtain ⟨j,hj⟩:=List.getElem?_of_mem hv
 rw [List.getElem?_zip_eq_some] at hj
 have:j=i:=zka nd hj.1 h1
 subst this
 rw [h2] at hj
 exact (Option.some.inj hj.2).symm
section
variable {P:Program} {w:World} {K:W.Frag} {mg:Str->Option Value} {base:Heap}
theorem z2b {k:Nat}{f:Addr}{name qual:Str}{params:Arguments}{body:List Stmt}{scope:Scope}{fd:FuncData}{N ps fr:List Str}{sp:List V->Sp}(S:zg4 N ps fr scope)
  (len:∀ cv vs H Q E,sp cv vs H Q E->vs.length=ps.length)
  (hbody:∀ (clos:List (Str × Addr)) (cdv:Value) (A:Around) (outer:List Env) (s:Shared) (H:Hp) (cv vs:List V) (Q:VK) (E:XK),zed k (A.deeper (zn9 qual scope clos s.heap.objs.size f cdv))->cv.length=fr.length->sp cv vs H Q E ->
   ∃ t,PSs (zqh P w K mg base N qual scope clos f cdv A outer s H) body t/\t { nx:=fun _ H'=>Q .non H',rt:=Q } ((vs++cv).map some++jx (N.length - (ps++fr).length) none) H) :
  zc_ P w K mg base CX0 (k+1) f fd ps (fun vs H Q E=>∃ cv,cv.length=fr.length/\FunV H f name qual params body scope fr cv fd/\sp cv vs H Q E):=by
 refine ⟨fun vs H Q E h=>let ⟨cv,_,_,q⟩:=h; len cv vs H Q E q,fun A outer s H args us vs Q E hr e0 hb r g=>?_⟩
 obtain ⟨cv,n,FV,g⟩:=g
 obtain ⟨fo,cells,clos,c',oc,k1,k2,e1,SH,e2,e3,e4,e5,cs,hv⟩:=FV.ex
 obtain ⟨doc,pm,ctv,ac⟩:=SH.ob
 have hl:=len _ _ _ _ _ g
 have ai:us.length=ps.length:=by rw [<- hl]; exact r.length.symm
 have ab:s.heap.NoLimit:=e0.mod.nolimit.keeps fun b o e=>(e0.bs b o e).1
 obtain ⟨hf,_⟩:=e0.hok f _ e1
 obtain ⟨hc,_⟩:=e0.hok c' _ e5
 have ae:fd=fnX name qual params body scope clos .none .none doc pm none (.ref c') ctv:=by
  have z:Data.func fd=Data.func (fnX name qual params body scope clos .none .none doc pm none (.ref c') ctv):=by rw [<- e2,ac]
  exact Data.func.inj z
 obtain ⟨af,t1,q1,q2⟩:=cs
 subst ae
 have aa:ps.Nodup:=by
  have z:(ps++fr).Nodup:=by rw [<- S.pre]; exact S.nd.sublist (jy _ _)
  exact (jg.mp z).1
 have ah:(ps++fr).length<=N.length:=by have:=congrArg km S.pre; rw [gh] at this; omega
 refine codeAny_call_function hr.depth hf e2 S.co S.gen rfl ⟨c',oc,af,t1,rfl,hc,q1,q2⟩ (hb _ _ _ _ ?_)
 refine wpAny_newFunctionEnv S.nocell (fun y hy=>S.par y.1 (jq hy).1) (fun h1 ad ag=>?_) S.kind
 have kp:∀ b o,s.heap.get? b=some o->h1.get? b=some o:=fun b o e=>(ag.2 b (gc (fw e))).trans (Heap.get?_push_of_some _ e)
 refine ⟨ab.keeps kp,codeAny_func ?_⟩
 obtain ⟨t,ht,hq⟩:=hbody clos (.ref c') A outer s H cv vs Q E (hr.deeper _) n g
 have l:∀ b:Addr,b∉(zqh P w K mg base N qual scope clos f (.ref c') A outer s H).ex:=fun b z=>absurd (show b∈([]:List Addr) from z) (by simp)
 have d:∀ x c,clos.lookup x=some c->∃ v,zez H c v:=fun x c e=>by
  have hx:=S.allfr _ (SH.free x c e) rfl
  obtain ⟨i,hi⟩:=List.getElem?_of_mem hx
  have:i<cv.length:=by rw [n]; exact (List.getElem?_eq_some_iff.mp hi).1
  obtain ⟨c2,z1,z2⟩:=hv i x cv[i] hi (by simp [this])
  rw [e] at z1
  cases z1
  exact ⟨_,z2⟩
 have I:Inv (zqh P w K mg base N qual scope clos f (.ref c') A outer s H) [] ((vs++cv).map some++jx (N.length - (ps++fr).length) none) H { s with heap:=h1,toks:=s.toks+(ps.zip us).length }:=by
  refine ⟨⟨e0.mod,S.kind,rfl,rfl,gd _,SH.inj,fun y hy=>?_,fun y c z=>fT z,fun _=>hr.hd,ku e0.frames,.inr ⟨rfl,rfl⟩,fun b z=>absurd z (l b),e0.bs,e0.bsz,fun b _ _=>l b,fun b z=>absurd z (l b),e0.funs,e0.frf⟩,
   rfl,e0.bare,Un.kept kp,⟨_,ad,fun i y v g1 g2 g3=>?_⟩,fun y c e=>?_,e0.hok.fresh (gd _),fun y c e=>?_,fun p hp=>absurd (show p∈([]:List (Addr × Obj)) from hp) (by simp),e0.hok.kept kp,?_⟩
  ·have hy:scope.names.lookup y=some .cell\/scope.names.lookup y=some .free:=hy
   rcases hy with z | z
   ·exact absurd rfl (S.nocell _ (PySem.mem_of_lookup z))
   ·exact SH.all _ (PySem.mem_of_lookup z) rfl
  ·have g1:N[i]? = some y:=g1
   have hi:i<(vs++cv).length:=by
    by_cases hi:i<(vs++cv).length
    ·exact hi
    ·rw [List.getElem?_append_right (by simpa using hi),List.getElem?_replicate] at g2
     split at g2 <;> cases g2
   rw [List.getElem?_append_left (by simpa using hi),List.getElem?_map] at g2
   have j:(vs++cv)[i]? = some v:=by
    cases q:(vs++cv)[i]? with
    | none=>rw [q] at g2; cases g2
    | some z=>rw [q] at g2; cases g2; rfl
   have a:(ps++fr)[i]? = some y:=by
    rw [<- S.pre,List.getElem?_take_of_lt (by rw [fe] at hi |-; omega)]
    exact g1
   by_cases hp:i<ps.length
   ·rw [List.getElem?_append_left hp] at a
    rw [List.getElem?_append_left (by omega)] at j
    obtain ⟨u,hu,ru⟩:=r.get j
    exact ⟨u,ru,.inl ⟨S.par y (fm a),zhf (us:=us) aa a hu⟩⟩
   ·rw [List.getElem?_append_right (by omega)] at a
    rw [List.getElem?_append_right (by omega)] at j
    obtain ⟨c,z1,o,u,k,z2,z3,z4⟩:=hv (i - ps.length) y v a (by rw [<- hl]; exact j)
    obtain ⟨z5,_⟩:=e0.hok c _ z2
    exact ⟨u,z4,.inr ⟨.inr (S.fre y (fm a)),c,z1,o,kp _ _ z5,z3⟩⟩
  ·obtain ⟨v,o,u,k,z2,z3,z4⟩:=d y c e
   obtain ⟨z5,_⟩:=e0.hok c _ z2
   exact ⟨_,o,kp _ _ z5,z3⟩
  ·obtain ⟨v,o,u,k,z2,_⟩:=d y c e
   exact ⟨fun z=>fT z,.inr ⟨o,k,z2⟩⟩
  ·show _=N.length
   have z1:(ps++fr).length=ps.length+fr.length:=fe
   rw [fe,d9,jh,fe]
   omega
 refine wpAny_mono (ht [] _ _ H _ I hq) (fun fl s' hs=>?_) fun e s' hs=>hs.elim
 have m:∀ {σ':St} {H':Hp} {v:V} {u:Value},Inv (zqh P w K mg base N qual scope clos f (.ref c') A outer s H) [] σ' H' s'->zcb v u->Q v H'->CE outer P w H s Q u s' :=
  fun {σ' H' v u} J rv q=>⟨v,H',J.os,J.bare,J.base,J.hok,rv,q⟩
 cases fl with
 | ret u =>
  obtain ⟨v,σ',H',J,rv,q⟩:=hs
  exact m J rv q
 | next =>
  obtain ⟨σ',H',J,q⟩:=hs
  exact m (v:=V.non) (u:=Value.none) J rfl q
 | brk =>
  obtain ⟨_,_,_,q⟩:=hs
  exact False.elim q
 | cont =>
  obtain ⟨_,_,_,q⟩:=hs
  exact False.elim q
end
def z5q (cells:List (Str × Addr))(P:Addr)(name qual:Str)(params:Arguments)(body:List Stmt)(scope:Scope)(pos:Pos)(i:Nat):TS:=fun D σ H=>∃ ps,H P=some (.tbl ps)/\TriplesOk ps.toList /\
 ((codeAmong pos ps.toList=none/\∀ f c' fo oc clos,H f=none->H c'=none->f≠c'->f≠P->c'≠P->zit name qual params body scope cells fo clos c'->zcc oc qual ->
   D.nx (σ.set i (some (.ref f))) (upd (upd (upd H P (.tbl (ps ++ #[rawInt pos.line,rawInt pos.col,.ref c']))) c' (.frz oc (.own c'))) f (.frz fo (.own f)))) \/
  (∃ c' oc k,codeAmong pos ps.toList=some (.ref c')/\H c'=some (.frz oc k)/\zcc oc qual/\∀ f fo clos,H f=none->zit name qual params body scope cells fo clos c'->D.nx (σ.set i (some (.ref f))) (upd H f (.frz fo (.own f)))))
section
variable {X:Cx}
theorem zd4 {env:Env}:∀ (names:List (Str × NameKind)) (acc cl:List (Str × Addr)),
  (forIn names acc fun (x:Str × NameKind) cs=>if (x.2 == NameKind.free)=true then (do let a <- cellOf env x.1; pure (ForInStep.yield ((x.1,a) :: cs))) else pure (ForInStep.yield cs):Sem (List (Str × Addr)))=pure cl ->
  (∀ y∈names,y.2 = .free->∃ c,env.cells.lookup y.1=some c)->∀ x c,cl.lookup x=some c->(x,NameKind.free)∈names\/∃ d,acc.lookup x=some d
 | [],acc,cl,e,_,x,c,h=>by
  have e':(pure acc:Sem (List (Str × Addr)))=pure cl:=e
  have:acc=cl:=by injection e'
  subst this
  exact .inr ⟨c,h⟩
 | (n,k) :: r,acc,cl,e,hn,x,c,h=>by
  rw [lx] at e
  by_cases hk:k = .free
  ·obtain ⟨d,hd⟩:=hn (n,k) fk hk
   rw [if_pos (by rw [hk]; rfl)] at e
   have b:cellOf env n=pure d:=by unfold cellOf; rw [hd]
   change ((cellOf env n >>= fun a=>pure (ForInStep.yield ((n,a) :: acc))) >>= _)=_ at e
   rw [b,pure_bind,pure_bind] at e
   rcases zd4 r ((n,d) :: acc) cl e (fun y hy=>hn y (fg _ hy)) x c h with z | ⟨d',z⟩
   ·exact .inl (fg _ z)
   ·rw [gv] at z
    by_cases hx:(x == n)=true
    ·have f:=beq_iff_eq.mp hx
     subst f hk
     exact .inl fk
    ·rw [jf.mpr hx] at z
     exact .inr ⟨d',z⟩
  ·rw [if_neg (by simpa using hk),pure_bind] at e
   rcases zd4 r acc cl e (fun y hy=>hn y (fg _ hy)) x c h with z | z
   ·exact .inl (fg _ z)
   ·exact .inr z
theorem zhe {scope:Scope}{env:Env}(hn:∀ y∈scope.names,y.2 = .free->∃ c,env.cells.lookup y.1=some c) :
  ∃ cl,closureFor scope env=pure cl/\(∀ x c,cl.lookup x=some c->env.cells.lookup x=some c)/\(∀ y∈scope.names,y.2 = .free->∃ c,cl.lookup y.1=some c)/\∀ x c,cl.lookup x=some c->(x,NameKind.free)∈scope.names:=by
 obtain ⟨cl,e1,h1,h2,_⟩:=zg6 (env:=env) scope.names [] hn (fun x c h=>by cases h)
 refine ⟨cl,?_,h1,h2,fun x c h=>?_⟩
 ·unfold closureFor
  rw [<- e1,bind_pure]
 ·rcases zd4 scope.names [] cl e1 hn x c h with z | ⟨d,z⟩
  ·exact z
  ·cases z
theorem z3x {name:Str}{params:Arguments}{body:List Stmt}{scope:Scope}{pos:Pos}{i:Nat}{c P:Addr}(hN:X.N.Nodup)(hi:X.N[i]? = some name)(hx:Loc X.env.scope name)(hcode:X.env.code = .ref c)(hC:PySem.W.CodeHd X.base c P)(hB:X.base.BuiltinsAt X.mg P)
  (hfr:∀ y∈scope.names,y.2 = .free->X.env.kindOf y.1=some .cell\/X.env.kindOf y.1=some .free)(hd0:params.defaults=[]:=by rfl)(hk0:params.kw_defaults=[]:=by rfl)(ha:annTrees params none X.env=[]:=by rfl)
  (hf:X.fn name=true\/X.env.scope.names.lookup name=some .local:=by first | exact .inl rfl | exact .inr rfl | assumption) :
  PS X (.FunctionDef name params body [] none [] scope none name pos) (z5q X.env.cells P name (qualnameIn X.env name name) params body scope pos i):=by
 intro pins s σ H D I h
 obtain ⟨ps,hP,ht,h⟩:=h
 obtain ⟨cl,g,ae,an,aj⟩:=zhe (scope:=scope) (env:=X.env) (fun y hy hf=>I.ok.has y.1 (hfr y hy hf))
 have af:s.heap.get? P=some (n5 ps):=I.hok P _ hP
 have hg:s.heap.Ns mainGlobals X.mg:=I.ok.mod.glob.keeps I.bk
 have au:mainGlobals≠P:=fun q=>by
  obtain ⟨o,es,ep,e,hd,_⟩:=hg
  rw [q,af] at e
  cases e
  cases hd
 have ah:s.heap.BuiltinsAt X.mg P:=by
  obtain ⟨bm,o,a1,a2,a3,a4,a5,a6⟩:=hB
  exact ⟨bm,o,a1,a2,a3,a4,I.bk _ _ a5,a6⟩
 have am:∀ {doc ctv:Value} {c':Addr},zit name (qualnameIn X.env name name) params body scope X.env.cells (lh name (qualnameIn X.env name name) params body scope cl doc ((X.mg "__name__").getD .none) c' ctv) cl c' :=
  fun {doc ctv c'}=>⟨⟨doc,_,ctv,rfl⟩,ae,aj,an,fun x y d h1 h2=>I.ok.inj x y d (ae x d h1) (ae y d h2)⟩
 refine PySem.W.nestDef_K hd0 hk0 ha ?_
 rcases h with ⟨ab,h⟩ | ⟨c',oc,k,aa,aw,av,h⟩
 ·refine PySem.W.makeFunction_K g I.ok.glob hg hcode (hC.keeps I.bk) af ht ab au ah fun c' ctv doc h' tk aq l ad al ai=>?_
  obtain ⟨c2,oc,vs,t,e2,ao,ap,ar⟩:=al
  cases e2
  have j:H c'=none:=I.hok.fresh l
  have w:H h'.objs.size=none:=I.hok.fresh (gf l (ia ad))
  have n1:h'.objs.size≠c':=jj ad
  have n2:h'.objs.size≠P:=fun z=>by rw [z,hP] at w; cases w
  have n3:c'≠P:=fun z=>by rw [z,hP] at j; cases j
  have q:=h h'.objs.size c' _ oc cl w j n1 n2 n3 (am (doc:=doc) (ctv:=ctv)) ⟨vs,t,ap,ar⟩
  have p:∀ b,H b=none->b≠P:=fun b e z=>by rw [z,hP] at e; cases e
  have kp:∀ b o,b≠P->s.heap.get? b=some o->(h'.push (lh name (qualnameIn X.env name name) params body scope cl doc ((X.mg "__name__").getD .none) c' ctv)).get? b=some o:=fun b o hb e=>Heap.get?_push_of_some _ (aq b o hb e)
  have f:∀ b u,H b=some u->b≠P->(upd (upd (upd H P (.tbl (ps ++ #[rawInt pos.line,rawInt pos.col,.ref c']))) c' (.frz oc (.own c'))) h'.objs.size (.frz (lh name (qualnameIn X.env name name) params body scope cl doc ((X.mg "__name__").getD .none) c' ctv) (.own h'.objs.size))) b=some u:=fun b u e hb=>by
   rw [zac (zag e w),zac (zag e j),zac hb]
   exact e
  have I2:Inv X pins σ (upd (upd (upd H P (.tbl (ps ++ #[rawInt pos.line,rawInt pos.col,.ref c']))) c' (.frz oc (.own c'))) h'.objs.size (.frz (lh name (qualnameIn X.env name name) params body scope cl doc ((X.mg "__name__").getD .none) c' ctv) (.own h'.objs.size)))
    { s with heap:=h'.push (lh name (qualnameIn X.env name name) params body scope cl doc ((X.mg "__name__").getD .none) c' ctv),toks:=tk }:=by
   refine I.step (g':=s.gens) (d':=s.drawn) (ch:=[]) (fun _ z=>nomatch z) (fun b o _ _ _ e n=>kp b o (p b n) e) (fun b o _ _ _ e n=>⟨o.slots,kp b o (p b n) e⟩) (fun b o _ e n=>?_) (fun b o _ e=>?_)
    (fun b xs e=>f b _ e (fun z=>by rw [z,hP] at e; cases e)) (fun b o u e=>f b _ e (fun z=>by rw [z,hP] at e; cases e)) (fun b qs e=>?_) (fun m hm=>?_) (fun b u e=>?_) I.bare
   ·have lt:=fw e
    rw [zac (gc (fi lt (gf l (ia ad)))),zac (gc (fi lt l)),zac (p b n)]
    exact n
   ·by_cases hb:b=P
    ·exact ⟨_,by rw [hb]; exact Heap.get?_push_of_some _ ai⟩
    ·exact ⟨o,kp b o hb e⟩
   ·by_cases hb:b=P
    ·subst hb
     rw [hP] at e
     cases e
     exact ⟨_,by rw [zac n2.symm,zac n3.symm,zad]⟩
    ·exact ⟨#[],by rw [f b _ e hb]; simp⟩
   ·obtain ⟨o,es,ep,ho,r⟩:=hm
    exact ⟨o,es,ep,kp _ o (p _ I.free) ho,r⟩
   ·by_cases ag:b=h'.objs.size
    ·subst ag
     rw [zad] at e
     cases e
     exact ⟨Heap.get?_push_size _ rfl,_,Heap.get?_push_size _ rfl⟩
    ·rw [zac ag] at e
     by_cases ak:b=c'
     ·subst ak
      rw [zad] at e
      cases e
      exact ⟨Heap.get?_push_of_some _ ao,_,Heap.get?_push_of_some _ ao⟩
     ·rw [zac ak] at e
      by_cases ac:b=P
      ·subst ac
       rw [zad] at e
       cases e
       exact Heap.get?_push_of_some _ ai
      ·rw [zac ac] at e
       refine (I.hok b u e).stay (fun d v hd qd=>kp d v ?_ qd) (fun d qd=>f d _ qd (fun z=>by rw [z,hP] at qd; cases qd)) fun d xs qd=>f d _ qd (fun z=>by rw [z,hP] at qd; cases qd)
       rcases hd with z | z
       ·rw [z]
        exact ac
       ·exact fun y=>by rw [y,hP] at z; cases z
  exact zfu I2 hN hi hx (v:= .ref h'.objs.size) rfl (fun s' I'=>⟨_,_,I',q⟩) hf
 ·refine PySem.W.makeFunction_hit g I.ok.glob hg hcode (hC.keeps I.bk) af ht aa ah fun ctv doc h' tk hk hsz=>?_
  have q:=h h'.objs.size _ cl (I.hok.fresh hsz) (am (doc:=doc) (ctv:=ctv))
  have I2:=I.laid (a:=h'.objs.size) (o:= .frz (lh name (qualnameIn X.env name name) params body scope cl doc ((X.mg "__name__").getD .none) c' ctv) (.own h'.objs.size)) (t':=tk)
   (h':=h'.push (lh name (qualnameIn X.env name name) params body scope cl doc ((X.mg "__name__").getD .none) c' ctv)) (fun b u e=>Heap.get?_push_of_some _ (hk b u e)) hsz ⟨Heap.get?_push_size _ rfl,_,Heap.get?_push_size _ rfl⟩
  exact zfu I2 hN hi hx (v:= .ref h'.objs.size) rfl (fun s' I'=>⟨_,_,I',q⟩) hf
end
def Tab (H:Hp)(P:Addr)(pos:Pos)(qual:Str):Prop:=∃ ps,H P=some (.tbl ps)/\TriplesOk ps.toList /\
 (codeAmong pos ps.toList=none\/∃ c' oc k,codeAmong pos ps.toList=some (.ref c')/\H c'=some (.frz oc k)/\zcc oc qual)
theorem Tab.new {H:Hp}{P:Addr}{pos:Pos}{qual:Str}(h:H P=some (.tbl #[])):Tab H P pos qual:=⟨#[],h,trivial,.inl rfl⟩
def But (P:Addr)(H H':Hp):Prop:=(∀ b o,b≠P->H b=some o->H' b=some o)/\∀ pos qual,Tab H P pos qual->Tab H' P pos qual
theorem zgk {a b c:Value}{i j:Int}{t u:Tok}(ha:a = .int i t)(hb:b = .int j u):∀ {l:List Value},TriplesOk l->TriplesOk (l++[a,b,c])
 | [],_=>by rw [ha,hb]; exact trivial
 | .int _ _ :: .int _ _ :: _ :: r,h=>zgk (l:=r) ha hb h
theorem zax.but {H H':Hp}(P:Addr)(h:zax H H'):But P H H':=by
 refine ⟨fun b o _ e=>h b o e,fun pos qual t=>?_⟩
 obtain ⟨ps,e,ht,z⟩:=t
 refine ⟨ps,h _ _ e,ht,?_⟩
 rcases z with z | ⟨c',oc,k,z1,z2,z3⟩
 ·exact .inl z
 ·exact .inr ⟨c',oc,k,z1,h _ _ z2,z3⟩
theorem z09 {cells:List (Str × Addr)}{P:Addr}{name qual:Str}{params:Arguments}{body:List Stmt}{scope:Scope}{pos:Pos}{i:Nat}{D:zuc}{σ:St}{H:Hp}(T:Tab H P pos qual)
  (k:∀ f H' fo clos c' oc k1 k2,(∀ b o,b≠P->H b=some o->H' b=some o)->Tab H' P pos qual->H f=none->H' f=some (.frz fo k1)->zit name qual params body scope cells fo clos c'->H' c'=some (.frz oc k2)->zcc oc qual ->
   D.nx (σ.set i (some (.ref f))) H'):z5q cells P name qual params body scope pos i D σ H:=by
 obtain ⟨ps,hP,ht,z⟩:=T
 refine ⟨ps,hP,ht,?_⟩
 rcases z with z | ⟨c',oc,k0,z1,z2,z3⟩
 ·refine .inl ⟨z,fun f c' fo oc clos hf hc n1 n2 n3 sh cs=>?_⟩
  refine k f _ fo clos c' oc _ _ (fun b o hb e=>?_) ⟨_,by rw [zac n2.symm,zac n3.symm,zad],?_,.inr ⟨c',oc,_,?_,by rw [zac n1.symm,zad],cs⟩⟩ hf zad sh (by rw [zac n1.symm,zad]) cs
  ·rw [zac (zag e hf),zac (zag e hc),zac hb]
   exact e
  ·rw [jt]
   exact zgk rfl rfl ht
  ·rw [jt]
   exact codeAmong_snoc _ ht z
 ·refine .inr ⟨c',oc,k0,z1,z2,z3,fun f fo clos hf sh=>?_⟩
  refine k f _ fo clos c' oc _ _ (fun b o _ e=>by rw [zac (zag e hf)]; exact e) ⟨ps,by rw [zac (zag hP hf)]; exact hP,ht,.inr ⟨c',oc,k0,z1,by rw [zac (zag z2 hf)]; exact z2,z3⟩⟩ hf zad sh (by rw [zac (zag z2 hf)]; exact z2) z3
theorem zt_ {P:Program}{w:World}{K:W.Frag}{mg mb:Str->Option Value}{k:Nat}{fa a:Addr}{fd:FuncData}{x:Str}{sp:Sp}{s₁:Shared}{vs:List Value}{ns:List Int}(tabs:List (Addr × Addr))
  (hT:PySem.W.TabsAt tabs s₁.heap)(hKT:∀ q∈tabs,K.lookup q.2=none)(hBm:∃ bm o,mg "__builtins__" = some (.ref bm)/\bm≠builtinsNs/\bm≠mainGlobals/\s₁.heap.get? bm=some o/\o.cls = .type "module" /\o.dict=some builtinsNs/\o.data = .plain)
  (KX:K.In s₁.heap)(hns:s₁.heap.Ns mainGlobals mg)(hb:s₁.heap.Ns builtinsNs mb)(hbb:∀ x:Str,x≠ "__name__" ->mb x=bootBuiltins x)(hlim:s₁.heap.NoLimit)(hg:s₁.gens = #[])
  (ha:s₁.heap.get? a=some { cls:= .type "list",data:= .seq vs.toArray })(hi:IntsAre vs ns)(hl:ns.length<=sizeLine)(hr:zed k callerA)
  (F:∀ base:Heap,K.In base->base.Ns mainGlobals mg->(∀ q∈tabs,base.BuiltinsAt mg q.2)->zc_ P w K mg base CX0 k fa fd [x] sp)(hbind:∀ (s:Shared) (u:Value),BindsTo s fd ⟨[u],[]⟩ [(x,u)])
  (hsp:∀ H:Hp,SqL K H a (ns.map V.int)->(∀ q∈tabs,H q.2=some (.tbl #[]))->sp [.ref a] H (fun v _=>v = .bl true) fun _ _ _=>False) :
  codeAny (model P w) callerA (.call (.ref fa) ⟨[.ref a],[]⟩) (fun r s'=>r = .ok (.ret (.bool true))/\OldK s₁.heap s'.heap/\s'.os=s₁.os/\AllBare s'.gens) s₁:=by
 have rv:=ze8 hi
 have l:=hi.length
 have ad:∀ q∈tabs,a≠q.2:=fun q hq z=>by
  have e:=(hT q hq).2
  rw [<- z,ha] at e
  cases e
 have j:∀ (H0:Option HO),(H0=none\/∃ o xs,H0=some (.frz o (.lst xs)))->(∀ H:Hp,H a=H0->SqL K H a (ns.map V.int))->(∀ u,H0=some u->∀ H:Hp,zcl P w H s₁.heap a u)->(H0≠none->K.lookup a=none) ->
   codeAny (model P w) callerA (.call (.ref fa) ⟨[.ref a],[]⟩) (fun r s'=>r = .ok (.ret (.bool true))/\OldK s₁.heap s'.heap/\s'.os=s₁.os/\AllBare s'.gens) s₁:=by
  intro H0 hO hS y ab
  let H:Hp:=fun b=>if b=a then H0 else if b∈tabs.map (·.2) then some (.tbl #[]) else none
  have Ha:H a=H0:=if_pos rfl
  have Ht:∀ q∈tabs,H q.2=some (.tbl #[]):=fun q hq=>by
   show (if q.2=a then H0 else _)=_
   rw [if_neg (ad q hq).symm,if_pos (List.mem_map_of_mem hq)]
  have Hn:∀ b,b≠a->b∉tabs.map (·.2)->H b=none:=fun b h1 h2=>by
   show (if b=a then H0 else _)=_
   rw [if_neg h1,if_neg h2]
  have aa:∀ {b:Addr} {o:Obj},s₁.heap.get? b=some o->o.cls≠ .none->b∉tabs.map (·.2):=fun {b o} e hc z=>by
   obtain ⟨q,hq,rfl⟩:=kg.mp z
   rw [(hT q hq).2] at e
   cases e
   exact hc rfl
  have hok:HOk P w H s₁.heap:=fun b u z=>by
   by_cases hb:b=a
   ·subst hb
    rw [Ha] at z
    exact y u z H
   ·by_cases f:b∈tabs.map (·.2)
    ·obtain ⟨q,hq,rfl⟩:=kg.mp f
     rw [Ht q hq] at z
     cases z
     exact (hT q hq).2
    ·rw [Hn b hb f] at z
     cases z
  have c:∀ {b:Addr} {o:Obj},s₁.heap.get? b=some o->H b=none->(zwm s₁.heap H).get? b=some o:=fun e n=>zyc e n
  have p:∀ {b:Addr} {o:Obj},s₁.heap.get? b=some o->(∀ xs n,o.data≠ .seq xs n)->(∀ xs,o.data≠ .fields xs)->H b=none:=fun {b o} e d1 d2=>by
   refine Hn b (fun z=>?_) (fun z=>?_)
   ·rw [z,ha] at e
    cases e
    exact d1 _ _ rfl
   ·obtain ⟨q,hq,rfl⟩:=kg.mp z
    rw [(hT q hq).2] at e
    cases e
    exact d2 _ rfl
  have g:∀ {b:Addr} {m:Str->Option Value},s₁.heap.Ns b m->(zwm s₁.heap H).Ns b m:=fun {b m} ⟨o,es,ep,e,d,r⟩=>⟨o,es,ep,c e (p e (fun _ _ z=>by rw [d] at z; cases z) (fun _ z=>by rw [d] at z; cases z)),d,r⟩
  have t:K.In (zwm s₁.heap H):=fun b o e=>c (KX b o e) (by
   by_cases hb:b=a
   ·subst hb
    rw [Ha]
    cases q:H0 with
    | none=>rfl
    | some u =>
     rw [ab (by rw [q]; simp)] at e
     cases e
   ·refine Hn b hb fun z=>?_
    obtain ⟨q,hq,rfl⟩:=kg.mp z
    rw [hKT q hq] at e
    cases e)
  have hM:Mod K mg (zwm s₁.heap H):=⟨t,g hns,⟨mb,g hb,hbb⟩,let ⟨mc,h1,h2⟩:=hlim; ⟨mc,g h1,h2⟩⟩
  have e0:zwo P w K mg (zwm s₁.heap H) callerA [] s₁ H:=⟨rfl,hM,fun b o e=>zz3 e,kn (zui _ _),trivial,fun b hb=>absurd (show b∈([]:List Addr) from hb) (by simp),hok,.of_eq hg⟩
  have ac:∀ q∈tabs,(zwm s₁.heap H).BuiltinsAt mg q.2:=fun q hq=>by
   obtain ⟨bm,o,a1,a2,a3,a4,a5,a6,a7⟩:=hBm
   refine ⟨bm,o,a1,a2,a3,fun z=>?_,c a4 (p a4 (fun _ _ z=>by rw [a7] at z; cases z) (fun _ z=>by rw [a7] at z; cases z)),a5,a6,a7⟩
   rw [z,(hT q hq).2] at a4
   cases a4
   cases a7
  refine codeAny_mono ((F _ t (g hns) ac).run callerA [] s₁ H ⟨[.ref a],[]⟩ [.ref a] [.ref a] _ _ hr e0 (hbind s₁ (.ref a)) (.cons rfl .nil) (hsp H (hS H Ha) Ht)) fun r s' h=>?_
  cases r with
  | error e=>exact False.elim h
  | ok fl =>
   cases fl with
   | next=>exact False.elim h
   | brk=>exact False.elim h
   | cont=>exact False.elim h
   | ret u =>
    obtain ⟨v,H',os,bare,un,i,r',q⟩:=h
    have q':v = .bl true:=q
    subst q'
    obtain rfl:u=Value.bool true:=r'
    refine ⟨rfl,⟨fun b o e=>?_,fun b o e=>un.there b o e (by simp)⟩,os,bare⟩
    by_cases f:b∈tabs.map (·.2)
    ·obtain ⟨q,hq,rfl⟩:=kg.mp f
     obtain ⟨more,z⟩:=un.tbls q.2 _ (Ht q hq)
     have z2:s'.heap.get? q.2=some { cls:= .none,data:= .fields (#[]++more) }:=i q.2 _ z
     have e2:=(hT q hq).2
     rw [e] at e2
     cases e2
     exact .inr (.inl ⟨((hT q hq).1.tab (hT q hq).2).isCodeTable,rfl,#[],more,rfl,z2⟩)
    ·by_cases hb:b=a
     ·subst hb
      rcases hO with z | ⟨ob,xs,z⟩
      ·exact .inl (un.keep b o e (by rw [Ha]; exact z) (by intro z; exact absurd (show b∈([]:List Addr) from z) (by simp)) (by simp))
      ·have z1:H b=some (.frz ob (.lst xs)):=by rw [Ha]; exact z
       have z2:=un.frzs b ob _ z1
       obtain ⟨e1,_⟩:=hok b _ z1
       obtain ⟨e2,_⟩:=i b _ z2
       rw [e] at e1
       cases e1
       exact .inl e2
     ·exact .inl (un.keep b o e (Hn b hb f) (by intro z; exact absurd (show b∈([]:List Addr) from z) (by simp)) (by simp))
 cases hk:K.lookup a with
 | some o =>
  have e:=KX a o hk
  rw [ha] at e
  cases e
  exact j none (.inl rfl) (fun H _=> .inr ⟨_,vs.toArray,_,hk,rfl,rfl,rfl,by rw [fq,l]; exact hl,by simpa using rv⟩) (fun u z=>by cases z) fun z=>absurd rfl z
 | none =>
  exact j (some (.frz { cls:= .type "list",data:= .seq vs.toArray } (.lst (ns.map V.int)))) (.inr ⟨_,_,rfl⟩) (fun H e=> .inl (.inr ⟨_,e⟩)) (fun u z H=>by cases z; exact ⟨ha,by rw [d9]; exact hl,vs,_,rv,ha⟩) fun _=>hk
theorem walk_ofT {l:PySem.W.OpenLaw}{n k:Nat}{q:Program}{loose:List Str}{XP:(Str->Option Value)->Heap->Prop}{YP:World->Heap->Prop}{d:DefRec}{K:Params->PySem.W.Frag}{ts:List Addr}{sp:PySem.W.Frag->List (Addr × Addr)->Sp}{x:Str}
  (hn:l.most=some n)(hn2:n<=sizeLine)(hdf:d.params.defaults=[])(hr:zed k callerA)
  (hY:∀ (w:World) (h:Heap),YP w h->(K w.params).In h)(hYT:∀ (w:World) (h:Heap),YP w h->∀ P∈ts,h.get? P=some (n5 #[]))
  (F:∀ (w:World) (mg:Str->Option Value) (fa:Addr) (h:Heap),(K w.params).In h->h.Ns mainGlobals mg->mg d.name=some (.ref fa) ->
   ∃ (fd:FuncData) (tabs:List (Addr × Addr)),(∀ q∈tabs,q.2∈ts/\PySem.W.codeHdIn (K w.params) q.1 q.2=true/\(K w.params).lookup q.2=none)/\(∀ (s:Shared) (u:Value),BindsTo s fd ⟨[u],[]⟩ [(x,u)]) /\
    ∀ base:Heap,(K w.params).In base->base.Ns mainGlobals mg->(∀ q∈tabs,base.BuiltinsAt mg q.2)->zc_ l.prog w (K w.params) mg base CX0 k fa fd [x] (sp (K w.params) tabs))
  (hsp:∀ (K:W.Frag) (tabs:List (Addr × Addr)) (H:Hp) (a:Addr) (ns:List Int),ns.length<=n->SqL K H a (ns.map V.int)->(∀ q∈tabs,H q.2=some (.tbl #[]))->sp K tabs [.ref a] H (fun v _=>v = .bl true) fun _ _ _=>False) :
  PySem.W.WalkO q loose XP YP l.row.toRowW d [] (fun f vs=>PySem.call f vs):=by
 refine Att.attach_call hn hdf fun w s₀ s₁ mg mb fa o pm cd doc a vs ns G Y ho hd t r j i c hg=>?_
 have KX:=hY w _ Y
 obtain ⟨fd,tabs,hT,hb,hF⟩:=F w mg fa _ KX G.T.g r
 have p:∃ bm o,mg "__builtins__" = some (.ref bm)/\bm≠builtinsNs/\bm≠mainGlobals/\s₁.heap.get? bm=some o/\o.cls = .type "module" /\o.dict=some builtinsNs/\o.data = .plain:=by
  obtain ⟨bm,ob,b1,b2,b3,b4,b5,b6⟩:=G.T.bmain
  refine ⟨bm,ob,b1,b2,fun z=>?_,b3,b4,b5,b6⟩
  obtain ⟨o,es,ep,e,hd,_⟩:=G.T.g
  rw [z,e] at b3
  cases b3
  rw [hd] at b6
  cases b6
 exact zt_ tabs (fun q hq=>⟨lq KX (hT q hq).2.1,hYT w _ Y _ (hT q hq).1⟩) (fun q hq=>(hT q hq).2.2) p KX G.T.g G.T.b G.T.builtins G.T.nolimit hg j i (gf c hn2) hr hF hb (fun H hS m=>hsp _ tabs H a ns c hS m)
def NAs (K:W.Frag)(C:Addr):List Str->Prop
 | []=>True
 | a :: r=>zlk K C a/\NAs K C r
structure DfC (K:W.Frag)(mg:Str->Option Value)(x:Str)(as:List Str) where
 C:Addr
 hm:mg x=some (.ref C)
 cl:Cls K C
 na:NAs K C as
 mks:PySem.W.makesIn K C=true
 kp:PySem.W.keepIn K (.ref C)=true
structure DfM (K:W.Frag)(C:Addr)(m qual:Str)(st:Stmt)(ps:List Str) where
 f:Addr
 fd:FuncData
 fn:Fun K m qual st f fd
 me:zz8 K C m f
 b:zci K fd ps []
theorem DfM.mk' {K:W.Frag}{mg:Str->Option Value}{x q:Str}{as ps:List Str}{st:Stmt}(D:DfC K mg x as)(I:DfM K D.C "__init__" q st ps):Mk K D.C I.f:=⟨D.mks,I.me.at_,I.me.fn,D.kp⟩
structure DfF (K:W.Frag)(mg:Str->Option Value)(x:Str)(st:Stmt)(ps:List Str) where
 f:Addr
 c:Addr
 P:Addr
 fd:FuncData
 ex:∃ (oc:Value) (od:Option Addr) (kV doc pm:Value) (an:Option Addr) (ct:Value) (osl:Array (Option Value)),
  fd=PySem.W.fnOf x x (zb5 st) (zbk st) (zah st) .none kV doc pm an (.ref c) ct/\K.lookup f=some ⟨oc,od,.func fd,osl⟩
 cd:PySem.W.codeIn K (.ref c) x=true
 ch:PySem.W.codeHdIn K c P=true
 nt:K.lookup P=none
 kp:PySem.W.keepIn K (.ref f)=true
 hm:mg x=some (.ref f)
 b:zci K fd ps []
section
variable {P:Program} {w:World} {K:W.Frag} {mg:Str->Option Value} {base:Heap}
theorem DfF.ok {x:Str}{st:Stmt}{N ps fz:List Str}{k:Nat}{sp:Sp}(D:DfF K mg x st ps)(hK:K.In base)(S:zaj N ps (zah st))(hfz:∀ x∈fz,(zah st).names.lookup x=some .cell)(len:∀ vs H Q E,sp vs H Q E->vs.length=ps.length)
  (hbody:∀ (A:Around) (outer:List Env) (s:Shared) (H:Hp) (vs:List V) (Q:VK) (E:XK),zed k (A.deeper (envOfC x (zah st) s.heap.objs.size D.f (.ref D.c)))->sp vs H Q E ->
   ∀ H1:Hp,zax H H1->(∀ (i:Nat) y v,y∈fz->ps[i]? = some y->vs[i]? = some v->∃ c,(envOfC x (zah st) s.heap.objs.size D.f (.ref D.c)).cells.lookup y=some c/\zez H1 c v)->PySem.W.CodeHd base D.c D.P ->
   ∃ t,PSs (zn0 CX0 P w K mg base N x (zah st) D.f (.ref D.c) A outer s H E (fun y=> !fz.contains y)).nox (zbk st) t/\t { nx:=fun _ H'=>Q .non H',rt:=Q } (start N vs) H1) :
  zc_ P w K mg base CX0 (k+1) D.f D.fd ps sp:=by
 have hC:=lq hK D.ch
 obtain ⟨f,c,T,fd,⟨oc,od,kV,doc,pm,an,ct,osl,rfl,lk⟩,cd,ch,nt,kp,hm,b⟩:=D
 exact zy_ lk cd S hfz len fun A outer s H vs Q E hr a H1 sm hc=>hbody A outer s H vs Q E hr a H1 sm hc hC
end
def z38 (outer inner:Scope):Bool:=inner.names.all fun y=>y.2 != .free || (outer.names.lookup y.1 == some .cell || outer.names.lookup y.1 == some .free)
theorem zg9 {X:Cx}{scope:Scope}(h:z38 X.env.scope scope=true):∀ y∈scope.names,y.2 = .free->X.env.kindOf y.1=some .cell\/X.env.kindOf y.1=some .free:=fun y hy hf=>by
 have q:=iz.mp h y hy
 rw [hf] at q
 simp at q
 exact q
theorem zrn {n:Int}:∀ {ns:List Int},n∈ns->ns.erase n=ns.eraseIdx (ns.idxOf n)
 | [],h=>nomatch h
 | a :: r,h=>by
  by_cases e:a=n
  ·subst e
   simp
  ·have h':n∈r:=by
    rcases gl.mp h with z | z
    ·exact absurd z.symm e
    ·exact z
   have e':(a == n)=false:=by simpa using e
   rw [List.erase_cons,if_neg (by simpa using e),List.idxOf_cons,e',cond_false,List.eraseIdx_cons_succ,zrn h']
theorem zoa {n:Int}:∀ {ns:List Int} {i:Nat} (h:i<ns.length),i<ns.idxOf n->ns[i]≠n
 | [],_,h,_=>nomatch h
 | a :: r,i,h,hi=>by
  rw [List.idxOf_cons] at hi
  by_cases e:a=n
  ·subst e
   simp at hi
  ·rw [show (a == n)=false by simpa using e,cond_false] at hi
   cases i with
   | zero=>exact e
   | succ i=>exact zoa (ns:=r) (i:=i) (by simpa using h) (by omega)
theorem zjd {α β:Type}(f:α->β):∀ (l:List α) (i:Nat),(l.map f).eraseIdx i=(l.eraseIdx i).map f
 | [],_=>rfl
 | _ :: _,0=>rfl
 | a :: r,i+1=>by simp [zjd f r i]
def z1h:V->List V->Hp->VK->Prop:=fun x vs H Q=>∃ (l:Addr) (ns:List Int) (n:Int),x = .ref l/\vs=[.int n]/\H l=some (.lst (ns.map V.int))/\n∈ns/\Q .non (upd H l (.lst ((ns.erase n).map V.int)))
theorem zkp {X:Cx}:MtM X "list.remove" z1h:=by
 intro pins s σ H x vs v us Q I rx rv h
 obtain ⟨l,ns,n,rfl,rfl,hH,hn,q⟩:=h
 cases rx
 obtain ⟨u,rfl,t,rfl⟩:=rv.one
 obtain ⟨z,its,m,r,hl,e⟩:=I.lstM hH
 rw [d9] at hl
 have at_:∀ i (hi:i<its.length),∃ t,its[i]=Value.int (ns[i]'(by omega)) t:=fun i hi=>by
  have b:i<ns.length:=by omega
  obtain ⟨u,e1,e2⟩:=r.get (i:=i) (x:=V.int ns[i]) (by simp [b])
  obtain ⟨t,rfl⟩:=e2
  rw [List.getElem?_eq_getElem hi] at e1
  exact ⟨t,Option.some.inj e1⟩
 have hj:ns.idxOf n<ns.length:=List.idxOf_lt_length_of_mem hn
 refine call_meets F.slot_list_remove ⟨_,e,rfl⟩ F.entry_list_remove (F.args_list_remove_2 _ _)
  (MeetsSeq.list_remove l its.toArray m (.int n t) (fun y=>match y with | .int a _=>a == n | _=>false) (fun y hy=>?_) (ns.idxOf n) (by rw [fq]; omega) ?_ (fun i hi d=>?_) (by rw [fq,<- hl]; simpa using z)) ⟨e,?_⟩
 ·have c:y∈its:=by simpa using hy
  obtain ⟨i,hi,rfl⟩:=jo c
  obtain ⟨t',e'⟩:=at_ i hi
  rw [e']
  exact MeetsSeq.EqGives.int _ n t' t
 ·have hi:ns.idxOf n<its.length:=by omega
  obtain ⟨t',e'⟩:=at_ _ hi
  rw [List.getElem_toArray,e',List.getElem_idxOf]
  simp
 ·have b:i<its.length:=by simpa using hi
  obtain ⟨t',e'⟩:=at_ i b
  rw [List.getElem_toArray,e']
  have:=zoa (by omega) d
  simpa using this
 ·refine ⟨.non,_,I.lset (its':=its.eraseIdx (ns.idxOf n)) hH e ?_ ?_ ?_,rfl,q⟩
  ·show its.toArray.eraseIdxIfInBounds (ns.idxOf n)=_
   rw [List.eraseIdxIfInBounds_toArray]
  ·rw [zrn hn,<- zjd]
   exact r.eraseIdx _
  ·rw [d9]
   have:=ie hn
   rw [d9] at z
   omega
theorem zsp {ns:List Int}{i:Nat}{y:V}(hi:(ns.map V.int)[i]? = some y):∃ n,n∈ns/\y=V.int n:=by
 obtain ⟨h1,h2⟩:=List.getElem?_eq_some_iff.mp hi
 rw [List.getElem_map] at h2
 exact ⟨_,j4 _,h2.symm⟩
theorem zax.put {H H2:Hp}{p:Addr}{o:HO}(h:zax H H2)(hp:H p=none):zax H (upd H2 p o):=fun b u e=>by
 rw [zac (zag e hp)]
 exact h b u e
theorem zch {n:Int}{ns:List Int}:inV (V.int n) (ns.map V.int)=decide (n∈ns):=by
 unfold inV
 induction ns with
 | nil=>rfl
 | cons a r ih =>
  rw [gu,kq,ih]
  by_cases h:a=n
  ·subst h
   simp [eqV]
  ·simp [eqV,h,Ne.symm h]
theorem zbz:∀ ns:List Int,(ns.map V.int).all znm=true
 | []=>rfl
 | a :: r=>by
  rw [gu,mk,zbz r]
  rfl
theorem z5s (x:Int)(ns:List Int):znu ((x :: ns).map V.int) (some 1) none=ns.map V.int:=by
 unfold znu
 have e1:HT.sIx ((x :: ns).map V.int).length 0 (some 1)=1:=by
  have:=HT.sIx_nat ((x :: ns).map V.int).length 0 1
  rw [show ((1:Nat):Int)=1 from rfl] at this
  rw [this]
  simp
 rw [e1,HT.sIx_none,gu,List.drop_succ_cons,mf]
 exact ii (by simp)
def ztg (p:Addr)(H H':Hp):Prop:=∀ c o,H c=some o->c≠p->H' c=some o
structure zer (p:Prop):Prop where
 out:p
def RFn (name qual:Str)(params:Arguments)(body:List Stmt)(scope:Scope)(_:Addr)(fd:FuncData):Prop:=∃ clos doc pm c' ct,fd=fnX name qual params body scope clos .none .none doc pm none (.ref c') ct
theorem zz5 {name qual:Str}{params:Arguments}{body:List Stmt}{scope:Scope}{cells clos:List (Str × Addr)}{fo oc:Obj}{c' f:Addr}{k1 k2:HO}{H':Hp}{fr:List Str}{cv:List V}(sh:zit name qual params body scope cells fo clos c')
  (hf:H' f=some (.frz fo k1))(hc':H' c'=some (.frz oc k2))(cs:zcc oc qual)(hfr:∀ (i:Nat) x v,fr[i]? = some x->cv[i]? = some v->(x,NameKind.free)∈scope.names/\∃ c,cells.lookup x=some c/\zez H' c v) :
  ∃ fd,fo.data = .func fd/\RFn name qual params body scope f fd/\FunV H' f name qual params body scope fr cv fd:=by
 obtain ⟨doc,pm,ctv,a⟩:=id sh.ob
 have hd:fo.data = .func (fnX name qual params body scope clos .none .none doc pm none (.ref c') ctv):=by rw [a]
 refine ⟨_,hd,⟨clos,doc,pm,c',ctv,rfl⟩,⟨fo,cells,clos,c',oc,k1,k2,hf,sh,hd,rfl,rfl,hc',cs,fun i x v h1 h2=>?_⟩⟩
 obtain ⟨hx,c,hc,hv⟩:=hfr i x v h1 h2
 obtain ⟨c2,e2⟩:=sh.all (x,.free) hx rfl
 have e3:=sh.sub x c2 e2
 rw [hc] at e3
 cases e3
 exact ⟨c,e2,hv⟩
@[irreducible] def z1y (t u:TS):TS:=z4n t u
theorem zbq {X:Cx}{st:Stmt}{rest:List Stmt}{t u:TS}(h1:PS X st t)(h2:PSs X rest u):PSs X (st :: rest) (z1y t u):=by
 unfold z1y
 exact zae h1 h2
theorem mid {t u:TS}{D:zuc}{σ:St}{H:Hp}(Mid:St->Hp->Prop)(hu:∀ σ H,Mid σ H->u D σ H)(ht:∀ U:St->Hp->Prop,(∀ σ H,Mid σ H->U σ H)->t { D with nx:=U } σ H):z1y t u D σ H:=by
 unfold z1y
 exact ht (u D) hu
theorem zx9 {α:Type}(v:α)(vs:List α):atI (v :: vs) 0=some v:=ziv (xs:=v :: vs) (j:=0) rfl
def zhc (ns:List Int):List Int:=firstMet (fun i=>ns.getD i 0) ns.length
theorem zff {ns:List Int}{k:Int}:k∈zhc ns↔k∈ns:=by
 have h:=firstMet_any (fun i=>ns.getD i 0) ns.length k
 have e:(ji ns.length).map (fun i=>ns.getD i 0)=ns:=by
  apply List.ext_getElem
  ·simp
  ·intro i h1 h2
   simp at h1
   simp [h1]
 rw [e] at h
 have a:(zhc ns).any (· == k)=true↔k∈zhc ns:=by simp
 have b:ns.any (· == k)=true↔k∈ns:=by simp
 rw [<- a,<- b]
 unfold zhc
 rw [h]
theorem zsv {σ:List Int}{v:Int}(h:σ.Nodup):(step_dedup σ v).Nodup:=by
 unfold step_dedup
 split
 ·exact h
 ·rename_i hv
  have hv:v∉σ:=by simpa using hv
  rw [jg]
  refine ⟨h,by simp,?_⟩
  intro a ha b hb
  rw [fc.mp hb]
  rintro rfl
  exact hv ha
theorem zhg (val:Nat->Int):∀ i,(firstMet val i).Nodup
 | 0=>je
 | i+1=>by rw [firstMet_succ]; exact zsv (zhg val i)
theorem zhk (ns:List Int):(zhc ns).Nodup:=zhg _ _
theorem zn_ (ns:List Int):(zhc ns).length<=ns.length:=firstMet_length_le _ _
theorem zbo {K:W.Frag}{a D:Addr}{ns:List Int}{tc:TT}{Q:VK}{σr:St}{H:Hp}(p:Int->Bool)(hD:H D=none)(ha:SqL K H a (ns.map V.int))(hlen:ns.length<=1000)
  (ht:∀ x∈ns,∀ H' (Qt:Bool->Hp->Prop),zax H H'->(∀ H'',zax H' H''->Qt (p x) H'')->tc (some (.int x) :: σr) H' Qt)
  (hq:∀ H',zax H H'->H' D=some (.lst ((ns.filter p).map V.int))->Q (.ref D) H') :
  zvc (Itl K a) (zoi 0) tc (zxk 0) Q D (none :: σr) (upd H D (.lst [])):=by
 refine zd2 (xs:=ns.map V.int) (fun i σ H'=>∃ v,σ=v :: σr/\zax H H'/\H' D=some (.lst (((ns.take i).filter p).map V.int))) ⟨none,rfl,zax.new H hD,zad⟩ (fun i σ H' _ ⟨v,_,s,_⟩=>s.seq ha) ?_ ?_
 ·rintro i x σ H' hi ⟨v,rfl,s,hd⟩
  obtain ⟨h1,h2⟩:=List.getElem?_eq_some_iff.mp hi
  rw [List.getElem_map] at h2
  subst h2
  rw [d9] at h1
  have et:ns.take (i+1)=ns.take i++[ns[i]]:=by rw [List.take_succ_eq_append_getElem h1]
  refine ht ns[i] (j4 h1) H' _ s fun H'' s2=>?_
  have b:=s2 _ _ hd
  by_cases hp:p ns[i]=true
  ·rw [if_pos hp]
   refine ⟨_,rfl,_,b,?_,⟨_,rfl,(s.trans s2).put hD,?_⟩⟩
   ·rw [d9]
    have:=gn p (ns.take i)
    rw [gh] at this
    exact zau (by omega)
   ·rw [zad,et,ig,gm]
    simp [hp]
  ·rw [if_neg hp]
   refine ⟨_,rfl,s.trans s2,?_⟩
   rw [b,et,ig]
   simp [hp]
 ·rintro σ H' ⟨v,rfl,s,hd⟩
  rw [d9,gj] at hd
  exact hq H' s hd
section
variable {X:Cx} {K:W.Frag}
theorem ze6 (h:X.K=K):OpR X (compareOp .In) (rIn K false):=h ▸ zgw
theorem zdx (h:X.K=K):OpR X (compareOp .NotIn) (rIn K true):=h ▸ zcf
theorem zts (h:X.K=K):IxR X (z5v K):=h ▸ zyw
theorem zyb {tg l:Expr}{tl:TE}(h:X.K=K)(hl:PE X l tl):PI X tg l (z2k K tl):=h ▸ zbb hl
end
def Ris (xs:Array Nat):Prop:=∀ (i k:Nat) (hk:k<xs.size) (hi:i<k),xs[i]<xs[k]
theorem znh {xs:Array Nat}{j:Nat}:∀ (fuel lo hi:Nat),hi - lo<=fuel->lo<=hi->hi<=xs.size->Ris xs->(∀ (i:Nat) (h:i<xs.size),i<lo->xs[i]<j)->(∀ (i:Nat) (h:i<xs.size),hi<=i->j<=xs[i]) ->
  SetTable.below.go xs j fuel lo hi<=xs.size/\(∀ (i:Nat) (h:i<xs.size),i<SetTable.below.go xs j fuel lo hi->xs[i]<j)/\∀ (i:Nat) (h:i<xs.size),SetTable.below.go xs j fuel lo hi<=i->j<=xs[i]
 | 0,lo,hi,hf,hl,hh,hr,h1,h2=>by
  unfold SetTable.below.go
  exact ⟨by omega,h1,fun i h hi'=>h2 i h (by omega)⟩
 | fuel+1,lo,hi,hf,hl,hh,hr,h1,h2=>by
  unfold SetTable.below.go
  by_cases h:lo<hi
  ·rw [if_pos h]
   have hm:(lo+hi) / 2<xs.size:=by omega
   have e:xs.getD ((lo+hi) / 2) j=xs[(lo+hi) / 2]:=by simp [Array.getD,hm]
   dsimp only
   rw [e]
   by_cases a:xs[(lo+hi) / 2]<j
   ·rw [if_pos a]
    refine znh fuel _ hi (by omega) (by omega) hh hr (fun i hi' b=>?_) h2
    by_cases e2:i=(lo+hi) / 2
    ·subst e2; exact a
    ·exact lc (hr i ((lo+hi) / 2) hm (by omega)) a
   ·rw [if_neg a]
    refine znh fuel lo _ (by omega) (by omega) (by omega) hr h1 (fun i hi' c=>?_)
    by_cases e2:i=(lo+hi) / 2
    ·subst e2; omega
    ·have:=hr ((lo+hi) / 2) i hi' (by omega)
     omega
  ·rw [if_neg h]
   exact ⟨by omega,h1,fun i h hi'=>h2 i h (by omega)⟩
theorem zha {xs:Array Nat}(hr:Ris xs)(j:Nat):SetTable.below xs j<=xs.size/\(∀ (i:Nat) (h:i<xs.size),i<SetTable.below xs j->xs[i]<j)/\∀ (i:Nat) (h:i<xs.size),SetTable.below xs j<=i->j<=xs[i]:=by
 unfold SetTable.below
 exact znh xs.size 0 xs.size (by omega) (by omega) (by omega) hr (fun i _ h=>absurd h (by omega)) (fun i h h'=>absurd h (by omega))
theorem zx1 {xs:Array Nat}(hr:Ris xs){i:Nat}(h:i<xs.size):SetTable.below xs (xs[i]+1)=i+1:=by
 obtain ⟨h0,h1,h2⟩:=zha hr (xs[i]+1)
 apply Classical.byContradiction
 intro ne
 rcases Nat.lt_or_gt_of_ne ne with z | z
 ·have:=h2 i h (by omega)
  omega
 ·have h3:i+1<xs.size:=by omega
  have:=h1 (i+1) h3 z
  have:=hr i (i+1) h3 (by omega)
  omega
theorem zsm {xs:Array Nat}(hr:Ris xs):SetTable.below xs 0=0:=by
 obtain ⟨h0,h1,_⟩:=zha hr 0
 apply Classical.byContradiction
 intro ne
 have h:0<xs.size:=by omega
 have:=h1 0 h (by omega)
 omega
theorem zv6 {t:SetTable}(hr:Ris t.place){j:Nat}(h:∀ i,t.slot j≠ .live i):∀ (i:Nat) (hi:i<t.place.size),t.place[i]≠j:=by
 intro i hi e
 obtain ⟨h0,h1,h2⟩:=zha hr j
 have hb:SetTable.below t.place j=i:=by
  apply Classical.byContradiction
  intro ne
  rcases Nat.lt_or_gt_of_ne ne with z | z
  ·have hz:SetTable.below t.place j<t.place.size:=by omega
   have:=h2 _ hz (gd _)
   have:=hr _ i hi z
   omega
  ·have:=h1 i hi z
   omega
 apply h (SetTable.below t.place j)
 unfold SetTable.slot
 dsimp only
 rw [if_pos]
 rw [hb]
 simp [hi,e]
theorem znr {t:SetTable}{f:Nat->Int}{h:Int}:∀ (fuel:Nat) (p:SetTable.Probe) (j:Nat) (d:Option Nat),(∀ x,p.dummy=some x->t.slot x = .dummy)->SetTable.probe.go t f h fuel p=some (.empty j d)->t.slot j = .empty/\∀ x,d=some x->t.slot x = .dummy
 | 0,p,j,d,hp,e=>by cases e
 | fuel+1,p,j,d,hp,e=>by
  have adv:∀ q:SetTable.Probe,(t.advance q).dummy=q.dummy:=fun q=>by
   unfold SetTable.advance
   split <;> rfl
  unfold SetTable.probe.go at e
  split at e
  ·rename_i hs
   cases e
   exact ⟨hs,hp⟩
  ·rename_i hs
   refine znr fuel _ j d (fun x hx=>?_) e
   rw [adv] at hx
   cases hx
   exact hs
  ·split at e
   ·cases e
   ·refine znr fuel _ j d (fun x hx=>?_) e
    rw [adv] at hx
    exact hp x hx
theorem znx {t:SetTable}{h:Int}{s:Nat}{b:Bool}(e:t.freeSlot h=some (s,b)):∀ i,t.slot s≠ .live i:=by
 unfold SetTable.freeSlot at e
 split at e
 ·rename_i j d hp
  obtain ⟨h1,h2⟩:=znr _ _ j d (fun x hx=>by cases hx) hp
  have e1:d.getD j=s:=congrArg Prod.fst (Option.some.inj e)
  intro i
  cases d with
  | none =>
   have:j=s:=e1
   subst this
   rw [h1]
   exact fun z=>nomatch z
  | some x =>
   have:x=s:=e1
   subst this
   rw [h2 x rfl]
   exact fun z=>nomatch z
 ·cases e
theorem zve {xs:Array Nat}(h:xs.toList.Pairwise (· < ·)):Ris xs:=fun i k hk hi=>by
 have:=List.pairwise_iff_getElem.mp h i k (by simpa using lc hi hk) (by simpa using hk) hi
 simpa using this
theorem Ris.list {xs:Array Nat}(h:Ris xs):xs.toList.Pairwise (· < ·):=List.pairwise_iff_getElem.mpr fun i k hi hk hik=>by
 have:=h i k (by simpa using hk) hik
 simpa using this
theorem z0y {t:SetTable}(hr:Ris t.place){j:Nat}(h:∀ i,t.slot j≠ .live i):Ris (t.put j).1.place:=by
 have nf:=zv6 hr h
 obtain ⟨h0,h1,h2⟩:=zha hr j
 refine zve ?_
 show (SetTable.insertAt t.place (SetTable.below t.place j) j).toList.Pairwise (· < ·)
 have e:(SetTable.insertAt t.place (SetTable.below t.place j) j).toList=t.place.toList.take (SetTable.below t.place j)++j :: t.place.toList.drop (SetTable.below t.place j):=by
  unfold SetTable.insertAt
  simp [Array.toList_extract,List.extract_eq_drop_take]
  rw [<- ja,ii (by simp)]
 rw [e]
 have lp:=hr.list
 refine List.pairwise_append.mpr ⟨lp.sublist (jy _ _),ir.mpr ⟨fun y hy=>?_,lp.sublist (List.drop_sublist _ _)⟩,fun x hx y hy=>?_⟩
 ·obtain ⟨k,hk,rfl⟩:=jo hy
  rw [ki] at hk
  have hs:t.place.toList.length=t.place.size:=by simp
  have x1:=h2 (SetTable.below t.place j+k) (by omega) (by omega)
  have x2:=nf (SetTable.below t.place j+k) (by omega)
  rw [List.getElem_drop,ke]
  omega
 ·have a:x<j:=by
   obtain ⟨k,hk,rfl⟩:=jo hx
   rw [gh] at hk
   have hs:t.place.toList.length=t.place.size:=by simp
   rw [List.getElem_take,ke]
   exact h1 k (by omega) (by omega)
  rcases gl.mp hy with z | z
  ·rw [z]; exact a
  ·obtain ⟨k,hk,rfl⟩:=jo z
   rw [ki] at hk
   have hs:t.place.toList.length=t.place.size:=by simp
   have x1:=h2 (SetTable.below t.place j+k) (by omega) (by omega)
   rw [List.getElem_drop,ke]
   omega
theorem zf3 (t:SetTable)(n:Nat):Ris (t.standIn n).place:=zve (by
 show (Array.range n).toList.Pairwise (· < ·)
 rw [Array.toList_range]
 exact List.pairwise_lt_range)
structure zhd (led:Bool)(t:SetTable):Prop where
 ris:Ris t.place
 led:t.led=led
theorem zhd.plainOff {led:Bool}{t:SetTable}(h:zhd led t):zhd led { t with plain:=false }:=⟨h.ris,h.led⟩
theorem zhd.orStandIn {led:Bool}{t:SetTable}(h:zhd led t)(n:Nat):zhd led (t.orStandIn n):=by
 unfold SetTable.orStandIn
 split
 ·exact h
 ·exact ⟨zf3 t n,h.led⟩
theorem zvj {led:Bool}{t:SetTable}(h:zhd led t)(es:Array (Int × Value))(k:Int)(x:Value):zhd led (layNew t es k x).2.1:=by
 unfold layNew
 split
 ·rename_i s b e
  exact zhd.orStandIn (t:=(t.put s).1) ⟨z0y h.ris (znx e),h.led⟩ _
 ·exact ⟨zf3 t _,h.led⟩
theorem zt6 {led:Bool}{t t':SetTable}{order:Array Nat}{hs:Array Int}{n:Nat}(h:zhd led t)(e:t.relaid hs n=some (t',order)):zhd led t':=by
 unfold SetTable.relaid SetTable.laid at e
 cases q:SetTable.layClean (SetTable.sizeAbove n - 1) hs with
 | none=>rw [q] at e; cases e
 | some owner =>
  rw [q] at e
  have e':some _=some (t',order):=e
  have e1:=congrArg Prod.fst (Option.some.inj e')
  subst e1
  refine ⟨?_,h.led⟩
  have g:∀ (l:List Nat),l.Pairwise (· < ·)->((l.filterMap fun j=>(owner.getD j none).map (fun y=>(j,y))).map (·.1)).Pairwise (· < ·):=by
   intro l hl
   induction l with
   | nil=>exact List.Pairwise.nil
   | cons a r ih =>
    obtain ⟨h1,h2⟩:=ir.mp hl
    have ih:=ih h2
    rw [iy]
    cases z:owner.getD a none with
    | none=>simpa using ih
    | some y =>
     simp only [ml,gu]
     refine ir.mpr ⟨fun b hb=>?_,ih⟩
     obtain ⟨⟨c,d⟩,hc,rfl⟩:=kg.mp hb
     obtain ⟨j,hj,f⟩:=gx.mp hc
     cases zz:owner.getD j none with
     | none=>rw [zz] at f; cases f
     | some v =>
      rw [zz] at f
      cases f
      exact h1 _ hj
  refine zve ?_
  have hp:=g (ji (SetTable.sizeAbove n - 1+1)) List.pairwise_lt_range
  simpa using hp
theorem zqm {led:Bool}{t:SetTable}(h:zhd led t)(es:Array (Int × Value))(n:Nat):zhd led (relayAll t es n).2.1:=by
 unfold relayAll
 split
 ·rename_i t' order e
  dsimp only
  split
  ·exact zt6 h e
  ·exact ⟨zf3 t _,h.led⟩
 ·exact ⟨zf3 t _,h.led⟩
def zqe (w:World):Bool:= !w.params.followText "set-order"
def znz (P:Program)(w:World)(h:Heap)(a:Addr)(ks:List Int):Prop :=
 ∃ o es ep t,h.get? a=some o/\o.ExactSet/\o.data = .set es ep t/\ElemsOf (intKind P w) es.toList/\(∀ k,k∈ks↔∃ e∈es.toList,(intKind P w).is k e.2=true)/\es.size<scanBound/\t.fits es.size=true/\es.size=ks.length/\zhd (zqe w) t
section
variable {P:Program} {w:World} {A:Around} {E:Value->Shared->Prop} {s:Shared}
theorem znz.keep {h h':Heap}{a:Addr}{ks:List Int}(x:znz P w h a ks)(k:∀ o,h.get? a=some o->h'.get? a=some o):znz P w h' a ks:=by
 obtain ⟨o,es,ep,t,ho,r⟩:=x
 exact ⟨o,es,ep,t,k o ho,r⟩
theorem zuw {a:Addr}{o:Obj}{es es2:Array (Int × Value)}{ep:Nat}{t t2:SetTable}{ks:List Int}{Q:Unit->Shared->Prop}(ho:s.heap.get? a=some o)(hex:o.ExactSet)(hd:o.data = .set es ep t)
  (hel:ElemsOf (intKind P w) es2.toList)(hm:∀ k,k∈ks↔∃ e∈es2.toList,(intKind P w).is k e.2=true)(hb:es2.size<scanBound)(hf:t2.fits es2.size=true)(hn:es2.size=ks.length)(hT:zhd (zqe w) t2)
  (q:∀ h' o',Heap.SameBut a s.heap h'->h'.get? a=some o'->o'.ExactSet->o'.data = .set es2 (ep+1) t2->znz P w h' a ks->Q () { s with heap:=h' }):wpAny (model P w) A (storeSet a es2 t2) Q E s:=by
 refine wpAny_storeSet_of ho hd ?_ (fits_of_scanBound hb)
 obtain ⟨g,_⟩:=SetOf_store (knd:=intKind P w) (S':=fun k=>decide (k∈ks)) ho hex hd hel (fun k=>by rw [decide_eq_true_eq]; exact hm k) hb hf
 exact q _ _ (Heap.SameBut.update ..) g hex rfl ⟨_,es2,ep+1,t2,g,hex,rfl,hel,hm,hb,hf,hn,hT⟩
theorem z4q {a:Addr}{ks:List Int}{v:Int}{tk:Tok}{Q:Bool->Shared->Prop}(hS:znz P w s.heap a ks)(hroom:ks.length+1<scanBound)
  (q:∀ b h',Heap.SameBut a s.heap h'->znz P w h' a (step_dedup ks v)->Q b { s with heap:=h' }):wpAny (model P w) A (setAddHashed a (.int v tk) ((intKind P w).hash v)) Q E s:=by
 obtain ⟨o,es,ep,t,ho,u,hd,f,hm,hb,hf,hn,hT⟩:=hS
 have hk:(intKind P w).is v (.int v tk)=true:=intKind_is _ _ _ _
 unfold setAddHashed setAddHashedIn
 refine wpAny_holding (wpAny_bind (wpAny_setState_of ho hd hf ?_))
 show wpAny _ _ (if byScan (.int v tk) es=true then _ else _) _ _ _
 rw [if_pos (byScan_of rfl hb f)]
 unfold setAddByScan
 refine wpAny_bind (wpAny_bind (wpAny_rule (wpAny_bind (wpAny_setScan_of hk ho hd hf f ?_))))
 cases hr:List.findIdx? (fun e=>(intKind P w).is v e.2) es.toList with
 | some j =>
  obtain ⟨hj,y,_⟩:=List.findIdx?_eq_some_iff_getElem.mp hr
  have hv:v∈ks:=(hm v).mpr ⟨es.toList[j],j4 hj,y⟩
  have e2:step_dedup ks v=ks:=by
   unfold step_dedup
   rw [if_pos (by simpa using hv)]
  have z:=q false s.heap (Heap.SameBut.refl a s.heap)
  rw [e2] at z
  exact wpAny_pure (wpAny_pure (z ⟨o,es,ep,t,ho,u,hd,f,hm,hb,hf,hn,hT⟩))
 | none =>
  have hv:v∉ks:=fun hv=>by
   obtain ⟨e,he,hp⟩:=(hm v).mp hv
   have:=List.findIdx?_eq_none_iff.mp hr e he
   rw [hp] at this
   cases this
  have e2:step_dedup ks v=ks++[v]:=by
   unfold step_dedup
   rw [if_neg (by simpa using hv)]
  rw [e2] at q
  dsimp only
  have pm:=layNew_perm t es ((intKind P w).hash v) (.int v tk)
  have ft:=layNew_fits t es ((intKind P w).hash v) (.int v tk)
  have d:=zvj hT es ((intKind P w).hash v) (.int v tk)
  generalize layNew t es ((intKind P w).hash v) (.int v tk)=L at pm ft d |-
  obtain ⟨c,t1,wd,ac⟩:=L
  dsimp only at pm ft d |-
  rw [lr] at pm
  have h:ElemsOf (intKind P w) c.toList:=(f.push hk rfl).perm pm
  have ae:c.size=es.size+1:=by
   have:=pm.length_eq
   simpa using this
  have n:∀ k,k∈ks++[v]↔∃ e∈c.toList,(intKind P w).is k e.2=true:=fun k=>by
   have z:=mem_push_iff (S:=fun k=>decide (k∈ks)) hk (fun k'=>by rw [decide_eq_true_eq]; exact hm k') pm k
   rw [<- z]
   simp
  have gw:∀ (b:Bool) {s1:Shared} {Q1:Unit->Shared->Prop},Q1 () s1->wpAny (model P w) A (match b with | true=>rule "set.scan.the-table-gave-way" | false=>pure ()) Q1 E s1 :=
   fun b s1 Q1 z=>by cases b <;> first | exact wpAny_pure z | exact wpAny_rule z
  have l:∀ t2:SetTable,t2.fits c.size=true->zhd (zqe w) t2->wpAny (model P w) A (do
    storeSet a c t2
    if (!wd && t2.tooFull)=true then do
      (match (relayAll t2 c (SetTable.grown c.size)).2.2 with | true=>rule "set.scan.the-table-gave-way" | false=>pure ())
      storeSet a (relayAll t2 c (SetTable.grown c.size)).1 (relayAll t2 c (SetTable.grown c.size)).2.1
      pure (some true)
     else pure (some true)) (fun r s'=>∃ h',s'={ s with heap:=h' }/\r=some true/\Heap.SameBut a s.heap h'/\znz P w h' a (ks++[v])) E s:=fun t2 f2 p=>by
   refine wpAny_bind (zuw ho u hd h n (by omega) f2 (by rw [fe,fu]; omega) p fun h1 o1 m g1 x1 d1 X1=>?_)
   split
   ·have g:=relayAll_perm t2 c (SetTable.grown c.size)
    have x:=relayAll_fits t2 c (SetTable.grown c.size)
    have ab:=zqm p c (SetTable.grown c.size)
    refine wpAny_bind (gw _ (wpAny_bind ?_))
    have ad:(relayAll t2 c (SetTable.grown c.size)).1.size=c.size:=by
     have:=g.length_eq
     simpa using this
    refine zuw (s:={ s with heap:=h1 }) g1 x1 d1 (h.perm g) (fun k=>?_) (by omega) x (by rw [fe,fu]; omega) ab fun h2 o2 aa g2 x2 d2 X2=>wpAny_pure ⟨h2,rfl,rfl,m.trans aa,X2⟩
    rw [n k]
    exact ⟨fun ⟨e,he,z⟩=>⟨e,g.mem_iff.mpr he,z⟩,fun ⟨e,he,z⟩=>⟨e,g.mem_iff.mp he,z⟩⟩
   ·exact wpAny_pure ⟨h1,rfl,rfl,m,X1⟩
  have i:∀ {r:Option Bool} {s':Shared},(∃ h',s'={ s with heap:=h' }/\r=some true/\Heap.SameBut a s.heap h'/\znz P w h' a (ks++[v]))->wpAny (model P w) A (match r with | some added=>pure added | none=>setAddHashedIn a (.int v tk) ((intKind P w).hash v) 99999) Q E s':=fun {r s'} z=>by
   obtain ⟨h',rfl,rfl,sb,X⟩:=z
   exact wpAny_pure (q true h' sb X)
  refine wpAny_bind (gw _ ?_)
  by_cases hp:t1.plain=true
  ·rw [if_pos hp]
   refine wpAny_bind ?_
   rw [hashByValue_scannable 8 rfl]
   refine wpAny_pure ?_
   refine wpAny_mono (l _ ?_ ?_) (fun r s' z=>i z) (fun _ _ e=>e)
   ·split
    ·exact ft
    ·exact SetTable.fits_plain_off ft
   ·split
    ·exact d
    ·exact d.plainOff
  ·rw [if_neg hp]
   refine wpAny_bind (wpAny_pure ?_)
   refine wpAny_mono (l _ ?_ ?_) (fun r s' z=>i z) (fun _ _ e=>e)
   ·rw [if_pos rfl]; exact ft
   ·rw [if_pos rfl]; exact d
theorem z3t {B:Around}{R:Result->Shared->Prop}{J S:Addr}{fp wr:List Addr}{G:Array GenState->Array GenState->Prop}{n:Nat}{Pt:Nat->Value->Prop}{St:Nat->Shared->Prop}(W:WalksS P w B.in1 J fp wr G n Pt St)(hSf:S∉fp)
  (val:Nat->Int)(hval:∀ i v,Pt i v->∃ t,v = .int (val i) t)(hb:n+1<scanBound):∀ (k i:Nat) (s:Shared),n - i=k->i<=n->St i s->znz P w s.heap S (firstMet val i) ->
   (∀ s',Moved (S :: wr) G s s'->znz P w s'.heap S (firstMet val n)->R (.ok (.ret .none)) s')->codeAny (model P w) B (.builtin "set.update.loop" ⟨[.ref S,.ref J],[]⟩) R s:=by
 have nw:S∉wr:=fun z=>hSf (W.sub _ z)
 have up:∀ b∈wr,b∈S :: wr:=fun b z=> .tail _ z
 intro k
 induction k with
 | zero =>
  intro i s e1 e2 st X a
  obtain rfl:i=n:=by omega
  refine codeAny_builtin F.entry_set_update_loop ?_
  rw [iu F.plain_set_update_loop _]
  refine wpAny_bind (W.done s _ _ st fun s' mv=>?_)
  exact wpAny_pure (a s' (mv.mono up) (X.keep fun o e=>mv.heap S o nw e))
 | succ k ih =>
  intro i s e1 e2 st X a
  have hi:i<n:=by omega
  refine codeAny_builtin F.entry_set_update_loop ?_
  rw [iu F.plain_set_update_loop _]
  refine wpAny_bind (W.item i s _ _ hi st fun v s1 hp d mv=>?_)
  obtain ⟨t,rfl⟩:=hval i v hp
  have X1:znz P w s1.heap S (firstMet val i):=X.keep fun o e=>mv.heap S o nw e
  refine wpAny_bind (wpAny_holding ?_)
  unfold setAdd
  refine wpAny_holding (wpAny_bind ((intKind P w).pyHash (k:=val i) (intKind_is _ _ _ _) ?_))
  have few:=firstMet_length_le val i
  refine z4q (s:={ s1 with toks:=s1.toks+1 }) X1 (by omega) fun b h' sb X2=>?_
  rw [<- firstMet_succ] at X2
  refine wpAny_pure ⟨plainId_quiet F.plain_set_update_loop _,ih (i+1) _ (by omega) hi (W.frame _ s1 _ _ d (j9 _) fun c hc o e=>?_) X2 fun s2 f X3=>?_⟩
  ·exact (sb.2 c fun z=>hSf (z ▸ hc)).trans e
  ·exact a s2 (Moved.trans W.gtrans ((mv.mono up).then_heap (j9 _) fun c o hc e=>(sb.2 c fun z=>hc (z ▸ .head _)).trans e) f) X3
theorem z5i (u:Value){Q1:Value->Shared->Prop}(q:Q1 (.ref s.heap.objs.size) { s with heap:=s.heap.push { cls:= .type "set",dict:=none,data:= .set #[] 0 (.fresh 0 0 (zqe w)) } }) :
  codeAny (model P w) A (.call (.builtin "set.__new__") ⟨[.type "set",u],[]⟩) (wants Q1 E) s:=by
 refine codeAny_of_tree ?_
 refine wpAny_bind (wpAny_of_eq (F.newCall_set_1 u) (wpAny_pure ⟨plainId_quiet F.plain_set_new _,codeAny_builtin F.entry_set_new ?_⟩))
 rw [iu F.plain_set_new _]
 unfold Builtin.«set.__new__» Builtin.Frozenset.newClass
 have a:=sub_set_self
 obtain ⟨hp,g,d,tk,os⟩:=s
 dsimp only
 wp_walk
 refine wpAny_askSetting (wpAny_pure ?_)
 dsimp only
 simp only [newObj]
 refine wpAny_bind (wpAny_alloc (wpAny_pure ?_))
 exact wpAny_pure q
set_option maxHeartbeats 4000000 in
theorem zsd {l:Addr}{its:Array Value}{ns:List Int}{Q:Value->Shared->Prop}(hh:A.handled=none)(hl:s.heap.IsList l its)(hi:IntsAre its.toList ns)(hb:its.size+1<scanBound)
  (q:∀ (h':Heap) (tk:Nat),znz P w h' s.heap.objs.size (firstMet (fun i=>ns.getD i 0) its.size)->(∀ b o,s.heap.get? b=some o->h'.get? b=some o)->Q (.ref s.heap.objs.size) { s with heap:=h',toks:=tk }) :
  wpAny (model P w) A (call (.type "set") [.ref l]) Q E s:=by
 obtain ⟨c0,ah,ac⟩:=F.called_set.mro
 have y:=F.called_set.made
 have ad:=F.called_set.sub
 refine wpAny_call (codeAny_of_tree (wpAny_pure ⟨Code.quiet_builtin _ (by decide +kernel),codeAny_builtin F.entry_type_call ?_⟩))
 rw [Around.under_plain (weight_type_call_type "set" [.ref l] []) rfl]
 have aj:=F.called_set.notType
 have ai:=F.called_set.canCreate
 have af:=F.typeCall_set_1 (.ref l)
 repeat (any_goals (first | assumption | wp_step))
 obtain ⟨H0,d⟩:∃ H0:Heap,H0=s.heap.push { cls:= .type "set",dict:=none,data:= .set #[] 0 (.fresh 0 0 (zqe w)) }:=⟨_,rfl⟩
 refine codeAny_mono (z5i (.ref l) (E:=E) (Q1:=fun ob s1=>ob = .ref s.heap.objs.size/\s1={ s with heap:=H0 }) ⟨rfl,by rw [d]⟩) fun r s1 hr=>?_
 cases r with
 | error e=>exact hr
 | ok fl =>
  cases fl with
  | next=>exact hr.elim
  | brk=>exact hr.elim
  | cont=>exact hr.elim
  | ret ob =>
   obtain ⟨rfl,rfl⟩:=hr
   have g0:H0.get? s.heap.objs.size=some { cls:= .type "set",dict:=none,data:= .set #[] 0 (.fresh 0 0 (zqe w)) }:=by rw [d]; exact Heap.get?_push_size _ rfl
   have u:Shared.TypeIs { s with heap:=H0 } (.ref s.heap.objs.size) "set" :=⟨_,g0,rfl⟩
   have al:=F.called_set.init.lookup
   have ak:=F.called_set.init.bind (.ref s.heap.objs.size)
   repeat (any_goals (first | assumption | wp_step))
   refine codeAny_mono (codeAny_call_builtin (R:=wants (fun r s2=>r = .none/\∃ h' tk,s2={ s with heap:=h',toks:=tk }/\znz P w h' s.heap.objs.size (firstMet (fun i=>ns.getD i 0) its.size)/\(∀ b o,s.heap.get? b=some o->h'.get? b=some o)) E)
    F.called_set.init.plain F.entry_set_init (check_set_init_1 u ?_)) fun r2 s2 a=>?_
   ·have k0:∀ b o,s.heap.get? b=some o->H0.get? b=some o:=fun b o e=>by rw [d]; exact Heap.get?_push_of_some _ e
    obtain ⟨ol,j,h,nl,g⟩:=hl
    obtain ⟨oc,od,ot,os⟩:=ol
    simp only at h g
    subst h
    subst g
    have g1:=k0 _ _ j
    have ae:=F.sub_list_set
    have am:=F.sub_list_frozenset
    have ag:(Value.type "list" == Value.type "dict")=false:=by decide
    have m:H0.IsList l its:=⟨_,g1,rfl,nl,rfl⟩
    unfold Builtin.«set.__init__» noKeywords Builtin.Frozenset.updateFrom
    generalize eI:pyIter=PI
    wp_walk
    subst eI
    refine wpAny_pyIter_list m (wpAny_bind (wpAny_runValue ?_))
    have c:l<s.heap.objs.size:=fw j
    have f:H0.objs.size=s.heap.objs.size+1:=by rw [d]; exact jp ..
    have t:A.in1.in1.in1.handled=none:=by simp [hh]
    have ab:l≠H0.objs.size:=fun z=>by rw [z,f] at c; exact absurd c (nq.mpr (j9 _))
    have n:s.heap.objs.size≠H0.objs.size:=fun z=>by rw [f] at z; exact absurd z (gc (ip _))
    have x:s.heap.objs.size≠l:=fun z=>by rw [<- z] at c; exact absurd c (io _)
    refine z3t ((Walks.list t H0.objs.size l ab its).toS) (S:=s.heap.objs.size) ?_ (fun i=>ns.getD i 0) (fun i v hv=>IntsAre.int_at hi i v (by rw [Array.getElem?_toList]; exact hv)) hb (its.size - 0) 0 _ (by omega) (im _)
     ⟨⟨_,Heap.get?_push_size _ rfl,rfl,rfl⟩,m.push _⟩ ?_ ?_
    ·simp only [gl,gi,or_false,not_or]
     exact ⟨n,x⟩
    ·refine ⟨_,#[],0,_,Heap.get?_push_of_some _ g0,⟨rfl,rfl,rfl⟩,rfl,fun e he=>by simp at he,fun k=>?_,by decide,rfl,rfl,⟨fun i k hk=>absurd hk (by simp [SetTable.fresh]),rfl⟩⟩
     rw [firstMet_zero]
     simp
    ·intro s' mv X
     obtain ⟨h',g',d',p,aa⟩:=s'
     obtain rfl:g'=s.gens:=mv.gens
     obtain rfl:d'=s.drawn:=mv.drawn
     obtain rfl:aa=s.os:=mv.os
     refine wpAny_pure (wpAny_pure ⟨rfl,h',p,rfl,X,fun b o e=>?_⟩)
     have lt:=fw e
     exact mv.heap b o (by
      simp only [gl,gi,or_false,not_or]
      refine ⟨fun z=>?_,fun z=>?_⟩
      ·rw [z] at lt; exact absurd lt (io _)
      ·rw [z,f] at lt; exact absurd lt (nq.mpr (j9 _))) (Heap.get?_push_of_some _ (k0 b o e))
   ·cases r2 with
    | error e=>exact a
    | ok fl2 =>
     cases fl2 with
     | next=>exact a.elim
     | brk=>exact a.elim
     | cont=>exact a.elim
     | ret r =>
      obtain ⟨rfl,h',tk,rfl,X,k'⟩:=a
      repeat (any_goals (first | assumption | wp_step))
      exact q _ _ X k'
end
namespace SF
theorem slot_next:Slot "set_iterator" "__next__" "set_iterator.__next__" :=
 .of (owner:= "set_iterator") (n:= "__next__") (by rw [typeLookup_type,builtinLookup_eq_fast]; kernel_rfl) (by decide +kernel) (by decide +kernel) (by decide +kernel) (by first | exact .inl (by decide +kernel) | exact .inr (by decide +kernel)) (by rw [isSubtype_type]; kernel_rfl)
theorem entry_next:entryFor table "set_iterator.__next__" = some Builtin.«set_iterator.__next__» :=entryFor_of_tree (by kernel_rfl)
theorem args_next (a:Value):argsOk "set_iterator.__next__" ⟨[a],[]⟩:=by unfold argsOk; kernel_rfl
theorem entry_iter:entryFor table "set.__iter__" = some Builtin.«frozenset.__iter__» :=entryFor_alias (id':= "frozenset.__iter__") (by kernel_rfl) rfl (by decide +kernel) (by kernel_rfl)
theorem slot_self:Slot "set_iterator" "__iter__" "set_iterator.__iter__" :=
 .of (owner:= "set_iterator") (n:= "__iter__") (by rw [typeLookup_type,builtinLookup_eq_fast]; kernel_rfl) (by decide +kernel) (by decide +kernel) (by decide +kernel) (by first | exact .inl (by decide +kernel) | exact .inr (by decide +kernel)) (by rw [isSubtype_type]; kernel_rfl)
theorem entry_self:entryFor table "set_iterator.__iter__" = some Builtin.«dict_keyiterator.__iter__» :=entryFor_alias (id':= "dict_keyiterator.__iter__") (by kernel_rfl) rfl (by decide +kernel) (by kernel_rfl)
theorem args_self (a:Value):argsOk "set_iterator.__iter__" ⟨[a],[]⟩:=by unfold argsOk; kernel_rfl
theorem len_set:typeLookup (.type "set") "__len__" = pure (some (.builtin "set.__len__")):=by rw [typeLookup_type,builtinLookup_eq_fast]; kernel_rfl
end SF
def zqb (h:Heap)(it a:Addr)(first:Value)(i n ep:Nat):Prop:=∃ o,h.get? it=some o/\o.cls = .type "set_iterator" /\o.data = .fields #[first,.int i 0,.ref a,.int n 0,.int ep 0]
def zsl (h:Heap)(a:Addr)(es:Array (Int × Value))(ep:Nat)(t:SetTable):Prop:=∃ o,h.get? a=some o/\o.ExactSet/\o.data = .set es ep t/\t.fits es.size=true
section
variable {P:Program} {w:World} {A:Around} {E:Value->Shared->Prop} {s:Shared}
theorem zqb.typeIs {it a:Addr}{f:Value}{i n ep:Nat}(x:zqb s.heap it a f i n ep):s.TypeIs (.ref it) "set_iterator" :=let ⟨o,ho,hc,_⟩:=x; ⟨o,ho,hc⟩
theorem zv8 {it a:Addr}{slot i ep:Nat}{es:Array (Int × Value)}{t:SetTable}{x:Value}{nx:Nat}{Q:Option Value->Shared->Prop}(hit:zqb s.heap it a (.int slot 0) i es.size ep)(hS:zsl s.heap a es ep t)(hne:a≠it)
  (hN:∀ (B:Around) (E':Value->Shared->Prop) (Q':Option (Value × Nat)->Shared->Prop),Q' (some (x,nx)) s->wpAny (model P w) B (setNext a slot i ep) Q' E' s)
  (q:∀ h',zqb h' it a (.int nx 0) (i+1) es.size ep->Heap.SameBut it s.heap h'->Q (some x) { s with heap:=h' }):wpAny (model P w) A (pyNext (.ref it)) Q E s:=by
 obtain ⟨o,ho,hc,hd⟩:=id hit
 obtain ⟨os,b,d,c,hf⟩:=hS
 unfold pyNext
 refine wpAny_bind (wpAny_attempt (wpAny_callSpecial?_slot (name:=Str.ofString "__next__") hit.typeIs SF.slot_next (wpAny_call_entry SF.slot_next hit.typeIs SF.entry_next ?_ (SF.args_next _))))
 unfold Builtin.«set_iterator.__next__»
 refine wpAny_bind (m:=slotArgs "__next__" 0 ⟨[.ref it],[]⟩) (wpAny_pure ?_)
 refine wpAny_bind (wpAny_fieldsOf ho hd ?_)
 dsimp only
 refine wpAny_bind (wpAny_setEntries_of b c hf ?_)
 rw [if_neg (by simp)]
 refine wpAny_bind (hN _ _ _ ?_)
 dsimp only
 refine wpAny_bind (wpAny_setField ho hd (by simp) ?_)
 have o1:=Heap.get?_update_self (Obj.mapFields (·.setIfInBounds 0 (rawInt (nx:Int)))) ho (Obj.isFreed_of_fields (Obj.data_mapFields hd _))
 have d1:=Obj.data_mapFields hd (·.setIfInBounds 0 (rawInt (nx:Int)))
 refine wpAny_bind (wpAny_setField (s:={ s with heap:=_ }) o1 d1 (by simp) ?_)
 have o2:=Heap.get?_update_self (Obj.mapFields (·.setIfInBounds 1 (rawInt ((i:Int)+1)))) o1 (Obj.isFreed_of_fields (Obj.data_mapFields d1 _))
 refine wpAny_pure ⟨_,rfl,wpAny_pure (q _ ⟨_,o2,?_,?_⟩ ((Heap.SameBut.update ..).trans (Heap.SameBut.update ..)))⟩
 ·rw [Obj.cls_mapFields,Obj.cls_mapFields]
  exact hc
 ·rw [Obj.data_mapFields d1]
  simp [rawInt]
theorem zyv {B:Around}{it:Addr}{h1:Heap}{Q:Option Value->Shared->Prop}(hh:B.handled=none)(q:∀ h',(∀ b o,h1.get? b=some o->h'.get? b=some o)->Q none { s with heap:=h' }) :
  wpAny (model P w) B ((newExc (.type "StopIteration") [] >>= fun e=>raiseNew e:Sem PySem.Fin)) (fun _ _=>False) (fun e s'=>wpAny (model P w) A (isInstance e (.type "StopIteration") >>= fun b=>if b=true then pure none else throw e) Q E s') { s with heap:=h1 }:=by
 refine wpAny_bind ?_
 simp only [newExc,newTuple]
 refine wpAny_bind (wpAny_newObj_type ?_ (by size_fits))
 refine wpAny_bind (m:=firstArgMember _ _) (wpAny_of_eq (a:=Value.none) (by first | rfl | (simp only [firstArgMember]; rfl)) ?_)
 refine wpAny_newObj_type ?_ (by size_fits)
 simp only [raiseNew]
 refine wpAny_bind (wpAny_handled ?_)
 rw [hh]
 refine wpAny_bind (wpAny_pure (wpAny_throw ?_))
 refine wpAny_bind (wpAny_isInstance (T:= "StopIteration") (b:=true) ⟨_,Heap.get?_push_size _ rfl,rfl⟩ isSubtype_stop ?_)
 exact wpAny_pure (q _ fun b o e=>Heap.get?_push_of_some _ (Heap.get?_push_of_some _ e))
theorem zyi {it a:Addr}{slot i ep:Nat}{es:Array (Int × Value)}{t:SetTable}{Q:Option Value->Shared->Prop}(hh:A.handled=none)(hit:zqb s.heap it a (.int slot 0) i es.size ep)(hS:zsl s.heap a es ep t)
  (hN:∀ (B:Around) (E':Value->Shared->Prop) (Q':Option (Value × Nat)->Shared->Prop),Q' none s->wpAny (model P w) B (setNext a slot i ep) Q' E' s)
  (q:∀ h',(∀ b o,b≠it->s.heap.get? b=some o->h'.get? b=some o)->Q none { s with heap:=h' }):wpAny (model P w) A (pyNext (.ref it)) Q E s:=by
 obtain ⟨o,ho,hc,hd⟩:=id hit
 obtain ⟨os,c,f,d,hf⟩:=hS
 unfold pyNext
 refine wpAny_bind (wpAny_attempt (wpAny_callSpecial?_slot (name:=Str.ofString "__next__") hit.typeIs SF.slot_next (wpAny_call_entry SF.slot_next hit.typeIs SF.entry_next ?_ (SF.args_next _))))
 unfold Builtin.«set_iterator.__next__»
 refine wpAny_bind (m:=slotArgs "__next__" 0 ⟨[.ref it],[]⟩) (wpAny_pure ?_)
 refine wpAny_bind (wpAny_fieldsOf ho hd ?_)
 dsimp only
 refine wpAny_bind (wpAny_setEntries_of c d hf ?_)
 rw [if_neg (by simp)]
 refine wpAny_bind (hN _ _ _ ?_)
 dsimp only
 refine wpAny_bind (wpAny_setField ho hd (by simp) ?_)
 refine wpAny_mono (zyv (A:=A) (E:=E) (it:=it) (by exact hh) fun h' k=>q h' fun b ob hb e=>k b ob ((Heap.get?_update_other _ _ (Ne.symm hb)).trans e)) (fun _ _ z=>z.elim) fun e s' z=>?_
 exact z
theorem zsq {it a tp:Addr}{i ep:Nat}{es:Array (Int × Value)}{t:SetTable}{ot:Obj}{ps:Array Value}{m p:Nat}{x:Value}{k:Int}{tk:Tok}{Q:Option Value->Shared->Prop}(hit:zqb s.heap it a (.ref tp) i es.size ep)(hS:zsl s.heap a es ep t)(ht:s.heap.get? tp=some ot)(hd':ot.data = .seq ps m)
  (hp:ps[i]? = some (.int (p:Int) tk))(hx:es[p]? = some (k,x))(q:∀ h',zqb h' it a (.ref tp) (i+1) es.size ep->Heap.SameBut it s.heap h'->Q (some x) { s with heap:=h' }):wpAny (model P w) A (pyNext (.ref it)) Q E s:=by
 obtain ⟨o,ho,hc,hd⟩:=id hit
 obtain ⟨os,b,d,c,hf⟩:=hS
 unfold pyNext
 refine wpAny_bind (wpAny_attempt (wpAny_callSpecial?_slot (name:=Str.ofString "__next__") hit.typeIs SF.slot_next (wpAny_call_entry SF.slot_next hit.typeIs SF.entry_next ?_ (SF.args_next _))))
 unfold Builtin.«set_iterator.__next__»
 refine wpAny_bind (m:=slotArgs "__next__" 0 ⟨[.ref it],[]⟩) (wpAny_pure ?_)
 refine wpAny_bind (wpAny_fieldsOf ho hd ?_)
 dsimp only
 refine wpAny_bind (wpAny_setEntries_of b c hf ?_)
 rw [if_neg (by simp)]
 refine wpAny_bind (wpAny_seqItems ht hd' ?_)
 dsimp only
 rw [show ((i:Int)).toNat=i from ij i,hp]
 dsimp only
 unfold setNextDrawn
 refine wpAny_bind (wpAny_bind (wpAny_setState_of b c hf ?_))
 dsimp only
 rw [if_neg (by simp),show ((p:Int)).toNat=p from ij p,hx]
 refine wpAny_pure (wpAny_bind (wpAny_setField ho hd (by simp) ?_))
 have o1:=Heap.get?_update_self (Obj.mapFields (·.setIfInBounds 1 (rawInt ((i:Int)+1)))) ho (Obj.isFreed_of_fields (Obj.data_mapFields hd _))
 refine wpAny_pure ⟨_,rfl,wpAny_pure (q _ ⟨_,o1,?_,?_⟩ (Heap.SameBut.update ..))⟩
 ·rw [Obj.cls_mapFields]
  exact hc
 ·rw [Obj.data_mapFields hd]
  simp [rawInt]
theorem zwi {it a tp:Addr}{i ep:Nat}{es:Array (Int × Value)}{t:SetTable}{ot:Obj}{ps:Array Value}{m:Nat}{Q:Option Value->Shared->Prop}(hh:A.handled=none)(hit:zqb s.heap it a (.ref tp) i es.size ep)(hS:zsl s.heap a es ep t)(ht:s.heap.get? tp=some ot)(hd':ot.data = .seq ps m)
  (hp:ps[i]? = none)(q:∀ h',(∀ b o,b≠it->s.heap.get? b=some o->h'.get? b=some o)->Q none { s with heap:=h' }):wpAny (model P w) A (pyNext (.ref it)) Q E s:=by
 obtain ⟨o,ho,hc,hd⟩:=id hit
 obtain ⟨os,d,f,c,hf⟩:=hS
 unfold pyNext
 refine wpAny_bind (wpAny_attempt (wpAny_callSpecial?_slot (name:=Str.ofString "__next__") hit.typeIs SF.slot_next (wpAny_call_entry SF.slot_next hit.typeIs SF.entry_next ?_ (SF.args_next _))))
 unfold Builtin.«set_iterator.__next__»
 refine wpAny_bind (m:=slotArgs "__next__" 0 ⟨[.ref it],[]⟩) (wpAny_pure ?_)
 refine wpAny_bind (wpAny_fieldsOf ho hd ?_)
 dsimp only
 refine wpAny_bind (wpAny_setEntries_of d c hf ?_)
 rw [if_neg (by simp)]
 refine wpAny_bind (wpAny_seqItems ht hd' ?_)
 dsimp only
 rw [show ((i:Int)).toNat=i from ij i,hp]
 dsimp only
 refine wpAny_bind (wpAny_setField ho hd (by simp) ?_)
 have o1:=Heap.get?_update_self (Obj.mapFields (·.setIfInBounds 0 (rawInt 0))) ho (Obj.isFreed_of_fields (Obj.data_mapFields hd _))
 have d1:=Obj.data_mapFields hd (·.setIfInBounds 0 (rawInt 0))
 refine wpAny_bind (wpAny_setField (s:={ s with heap:=_ }) o1 d1 (by simp) ?_)
 refine wpAny_mono (zyv (A:=A) (E:=E) (it:=it) (by exact hh) fun h' k=>q h' fun b ob hb e=>k b ob ((Heap.get?_update_other _ _ (Ne.symm hb)).trans ((Heap.get?_update_other _ _ (Ne.symm hb)).trans e))) (fun _ _ z=>z.elim) fun e s' z=>?_
 exact z
theorem zy0 {it a:Addr}{f:Value}{i n ep:Nat}{Q:Value->Shared->Prop}(hit:zqb s.heap it a f i n ep)(q:Q (.ref it) s):wpAny (model P w) A (pyIter (.ref it)) Q E s:=by
 refine wpAny_pyIter_slot hit.typeIs SF.slot_self (wpAny_call_entry SF.slot_self hit.typeIs SF.entry_self ?_ (SF.args_self _))
 show wpAny _ _ (ret (.ref it)) _ _ s
 exact wpAny_pure ⟨_,rfl,"set_iterator",_,hit.typeIs,SF.slot_next.lookup,q⟩
end
theorem ze1 {α:Type}:∀ (l:List α) (i:Nat) (h:i<l.length),(l[i] :: l.eraseIdx i).Perm l
 | a :: r,0,h=>List.Perm.refl _
 | a :: r,i+1,h=>by
  have hi:i<r.length:=by simpa using h
  have ih:=ze1 r i hi
  show (r[i] :: a :: r.eraseIdx i).Perm (a :: r)
  exact (List.Perm.swap a r[i] _).trans (ih.cons a)
theorem zvm {α:Type}(f:Nat->Nat):∀ (fuel k:Nat) (left:List α) (out:Array α),left.length=fuel->(pickOrder.go f fuel k left out).toList.Perm (out.toList++left)
 | 0,k,left,out,h=>by
  unfold pickOrder.go
  rw [List.length_eq_zero_iff.mp h]
  simp
 | fuel+1,k,left,out,h=>by
  unfold pickOrder.go
  have hlt:f k % left.length<left.length:=mod_lt _ (by omega)
  rw [List.getElem?_eq_getElem hlt]
  dsimp only
  have ih:=zvm f fuel (k+1) (left.eraseIdx (f k % left.length)) (out.push left[f k % left.length]) (by rw [List.length_eraseIdx_of_lt hlt]; omega)
  refine ih.trans ?_
  rw [lr,iq]
  refine List.Perm.append_left _ ?_
  exact ze1 left _ hlt
theorem zkc {α:Type}(f:Nat->Nat)(xs:Array α):(pickOrder f xs).toList.Perm xs.toList:=by
 unfold pickOrder
 have:=zvm f xs.size 0 xs.toList #[] (by simp)
 simpa using this
section
variable {P:Program} {w:World} {A:Around} {E:Value->Shared->Prop}
theorem zxi {src:Source}{n:Nat}{s:Shared}{Q:Nat->Shared->Prop}(hn:n≠0)(h:Q (w.draws src (s.drawn.get src) % n) { s with drawn:=s.drawn.bump src }):wpAny (model P w) A (choose src n) Q E s:=fun _ _ _=>⟨hn,h⟩
theorem zza {α:Type}:∀ (n:Nat) (xs:List α) (s:Shared) (Q:List α->Shared->Prop),xs.length=n->(∀ ys d,ys.Perm xs->Q ys { s with drawn:=d })->wpAny (model P w) A (drawOrder n xs) Q E s
 | 0,xs,s,Q,h,q=>by
  unfold drawOrder
  rw [List.length_eq_zero_iff.mp h] at q
  exact wpAny_pure (q [] s.drawn (List.Perm.refl _))
 | n+1,[],s,Q,h,q=>by cases h
 | n+1,x :: xs,s,Q,h,q=>by
  unfold drawOrder
  refine wpAny_bind (zxi (by simp) ?_)
  have hlt:w.draws .order (s.drawn.get .order) % (x :: xs).length<(x :: xs).length:=mod_lt _ (by simp)
  rw [List.getElem?_eq_getElem hlt]
  dsimp only
  refine wpAny_bind (zza n _ _ _ (by rw [List.length_eraseIdx_of_lt hlt]; omega) fun ys d hp=>wpAny_pure ?_)
  exact q _ d ((hp.cons _).trans (ze1 (x :: xs) _ hlt))
theorem zr_ {es:List (Int × Value)}(h:ElemsOf (intKind P w) es):∃ ns:List Int,IntsAre (es.map (·.2)) ns/\∀ k,k∈ns↔∃ e∈es,(intKind P w).is k e.2=true:=by
 induction es with
 | nil=>exact ⟨[],.nil,fun k=>by simp⟩
 | cons e r ih =>
  obtain ⟨ns,hi,hm⟩:=ih h.tail
  obtain ⟨⟨k,hk,_⟩,_⟩:=h.head
  obtain ⟨t,ht⟩:∃ t,e.2 = .int k t:=by
   have a:e.2.isInt k=true:=hk
   cases q:e.2 with
   | int i t =>
    rw [q] at a
    have:i=k:=by simpa [Value.isInt] using a
    exact ⟨t,by rw [this]⟩
   | _=>rw [q] at a; cases a
  refine ⟨k :: ns,?_,fun j=>?_⟩
  ·rw [gu,ht]
   exact .cons k t hi
  ·rw [gl,hm j]
   constructor
   ·rintro (rfl | ⟨e',he,hj⟩)
    ·exact ⟨e,.head _,hk⟩
    ·exact ⟨e',.tail _ he,hj⟩
   ·rintro ⟨e',he,hj⟩
    rcases gl.mp he with rfl | he
    ·exact .inl ((intKind P w).inj e'.2 j k hj hk)
    ·exact .inr ⟨e',he,hj⟩
theorem zqd {ks ns:List Int}:∀ (hd:ks.Nodup) (hs:∀ k∈ks,k∈ns) (hl:ns.length<=ks.length),ks.Perm ns:=by
 induction ks generalizing ns with
 | nil =>
  intro _ _ hl
  rw [List.length_eq_zero_iff.mp (Nat.le_zero.mp hl)]
 | cons a r ih =>
  intro hd hs hl
  obtain ⟨ha,hr⟩:=j7.mp hd
  have hm:=hs a (.head _)
  have e:=List.perm_cons_erase hm
  refine List.Perm.trans (List.Perm.cons a (ih (ns:=ns.erase a) hr (fun k hk=>?_) ?_)) e.symm
  ·exact (List.mem_erase_of_ne (fun z:k=a=>ha (by rw [<- z]; exact hk))).mpr (hs k (.tail _ hk))
  ·rw [ie hm]
   simp at hl
   omega
theorem zkh {vs us:List Value}(p:vs.Perm us):∀ {ns:List Int},IntsAre us ns->∃ ms,IntsAre vs ms/\ms.Perm ns:=by
 induction p with
 | nil=>intro ns h; exact ⟨ns,h,List.Perm.refl _⟩
 | cons x _ ih =>
  intro ns h
  cases h with
  | cons n t hr =>
   obtain ⟨ms,h1,h2⟩:=ih hr
   exact ⟨n :: ms,.cons n t h1,h2.cons n⟩
 | swap x y l =>
  intro ns h
  cases h with
  | cons n t hr =>
   cases hr with
   | cons m u hr =>
    exact ⟨_,.cons m u (.cons n t hr),List.Perm.swap _ _ _⟩
 | trans _ _ ih1 ih2 =>
  intro ns h
  obtain ⟨ms,h1,h2⟩:=ih2 h
  obtain ⟨ls,h3,h4⟩:=ih1 h1
  exact ⟨ls,h3,h4.trans h2⟩
theorem zfk {h h':Heap}{a:Addr}{es:Array (Int × Value)}{ep:Nat}{t:SetTable}(x:zsl h a es ep t)(k:∀ o,h.get? a=some o->h'.get? a=some o):zsl h' a es ep t:=by
 obtain ⟨o,ho,r⟩:=x
 exact ⟨o,k o ho,r⟩
theorem zt2 {h h':Heap}{it a:Addr}{f:Value}{i n ep:Nat}(x:zqb h it a f i n ep)(k:∀ o,h.get? it=some o->h'.get? it=some o):zqb h' it a f i n ep:=by
 obtain ⟨o,ho,r⟩:=x
 exact ⟨o,k o ho,r⟩
theorem zl_ {a it:Addr}{es:Array (Int × Value)}{ep:Nat}{t:SetTable}(hne:a≠it)(ord:List Value)(hl:ord.length=es.size)(slots:Nat->Nat)
  (hN:∀ (i:Nat) (x:Value),ord[i]? = some x->∀ (s:Shared) (B:Around) (E':Value->Shared->Prop) (Q':Option (Value × Nat)->Shared->Prop),zsl s.heap a es ep t->Q' (some (x,slots (i+1))) s->wpAny (model P w) B (setNext a (slots i) i ep) Q' E' s)
  (hE:∀ (s:Shared) (B:Around) (E':Value->Shared->Prop) (Q':Option (Value × Nat)->Shared->Prop),zsl s.heap a es ep t->Q' none s->wpAny (model P w) B (setNext a (slots es.size) es.size ep) Q' E' s)(hh:A.handled=none) :
  Walks P w A it [it,a] [it] ord.length (fun i v=>ord[i]? = some v) (fun i h=>zqb h it a (.int (slots i) 0) i es.size ep/\zsl h a es ep t) where
 sub:=fun b hb=>by simp at hb; simp [hb]
 frame:=fun i h h' st hk=>⟨zt2 st.1 fun o e=>hk it (by simp) o e,zfk st.2 fun o e=>hk a (by simp) o e⟩
 item:=fun i s Q E hi st hQ=>by
  refine zv8 (x:=ord[i]) (nx:=slots (i+1)) st.1 st.2 hne (fun B E' Q' z=>hN i _ (by simp [hi]) s B E' Q' st.2 z) fun h' si sb=>?_
  exact hQ _ h' s.toks (by simp [hi]) ⟨si,zfk st.2 fun o e=>(sb.2 a hne).trans e⟩ fun b o hb e=>(sb.2 b (fun z=>hb (by simp [z]))).trans e
 done:=fun s Q E st hQ=>by
  have st1:=st.1
  rw [hl] at st1
  exact zyi hh st1 st.2 (fun B E' Q' z=>hE s B E' Q' st.2 z) fun h' k=>hQ h' s.toks fun b o hb e=>k b o (fun z=>hb (by simp [z])) e
 self:=fun i s Q E st hQ=>zy0 st.1 hQ
theorem zq2 {a it tp:Addr}{es:Array (Int × Value)}{ep m:Nat}{t:SetTable}{ot:Obj}{ps:Array Value}(hd:ot.data = .seq ps m)(hne:a≠it)(hnt:tp≠it)(ord:List Value)(hl:ord.length=ps.size)
  (hp:∀ (i:Nat) (x:Value),ord[i]? = some x->∃ (p:Nat) (k:Int) (tk:Tok),ps[i]? = some (.int (p:Int) tk)/\es[p]? = some (k,x))(hh:A.handled=none) :
  Walks P w A it [it,a,tp] [it] ord.length (fun i v=>ord[i]? = some v) (fun i h=>zqb h it a (.ref tp) i es.size ep/\zsl h a es ep t/\h.get? tp=some ot) where
 sub:=fun b hb=>by simp at hb; simp [hb]
 frame:=fun i h h' st hk=>⟨zt2 st.1 fun o e=>hk it (by simp) o e,zfk st.2.1 fun o e=>hk a (by simp) o e,hk tp (by simp) _ st.2.2⟩
 item:=fun i s Q E hi st hQ=>by
  obtain ⟨p,k,tk,h1,h2⟩:=hp i ord[i] (by simp [hi])
  refine zsq st.1 st.2.1 st.2.2 hd h1 h2 fun h' si sb=>?_
  exact hQ _ h' s.toks (by simp [hi]) ⟨si,zfk st.2.1 fun o e=>(sb.2 a hne).trans e,(sb.2 tp hnt).trans st.2.2⟩ fun b o hb e=>(sb.2 b (fun z=>hb (by simp [z]))).trans e
 done:=fun s Q E st hQ=>zwi hh st.1 st.2.1 st.2.2 hd (by rw [hl]; simp) fun h' k=>hQ h' s.toks fun b o hb e=>k b o (fun z=>hb (by simp [z])) e
 self:=fun i s Q E st hQ=>zy0 st.1 hQ
def zy9 (t:SetTable):Nat->Nat
 | 0=>0
 | i+1=>(t.place[i]?).getD 0+1
theorem zjs {t:SetTable}(hr:Ris t.place){i:Nat}(h:i<=t.place.size):SetTable.below t.place (zy9 t i)=i:=by
 cases i with
 | zero=>exact zsm hr
 | succ j =>
  show SetTable.below t.place ((t.place[j]?).getD 0+1)=j+1
  rw [Array.getElem?_eq_getElem (by omega:j<t.place.size),Option.getD_some]
  exact zx1 hr (by omega)
theorem zpl {s:Shared}{a:Addr}{es:Array (Int × Value)}{ep i:Nat}{t:SetTable}{Q:Option (Value × Nat)->Shared->Prop}(bt:w.params.followText "set-order" = true)(SQ:zsl s.heap a es ep t)(q:Q (((pickOrder (w.params.setOrder a ep) es)[i]?).map fun e=>(e.2,0)) s):wpAny (model P w) A (setNext a 0 i ep) Q E s:=by
 obtain ⟨o,ho,b,hd,hf⟩:=SQ
 unfold setNext setsByText
 refine wpAny_bind (wpAny_setState_of ho hd hf ?_)
 dsimp only
 refine wpAny_bind (wpAny_bind (wpAny_askSetting (wpAny_pure ?_)))
 show wpAny _ _ (if w.params.followText "set-order" = true then _ else _) _ _ _
 rw [if_pos bt]
 rw [if_neg (by simp)]
 unfold setWalk setsByText
 refine wpAny_bind (wpAny_bind (wpAny_setState_of ho hd hf ?_))
 dsimp only
 refine wpAny_bind (wpAny_bind (wpAny_askSetting (wpAny_pure ?_)))
 show wpAny _ _ (if w.params.followText "set-order" = true then _ else _) _ _ _
 rw [if_pos bt]
 exact wpAny_bind (wpAny_askSetting (wpAny_pure (wpAny_pure q)))
theorem zmf {s:Shared}{a:Addr}{es:Array (Int × Value)}{ep i slot:Nat}{t:SetTable}{Q:Option (Value × Nat)->Shared->Prop}(bt:w.params.followText "set-order" = false)(hdr:(!t.plain && decide (es.size > 1))=false)(hl:t.led=true)(SQ:zsl s.heap a es ep t)
  (q:Q (match es[SetTable.below t.place slot]?,t.place[SetTable.below t.place slot]? with | some (_,x),some j=>some (x,j+1) | _,_=>none) s):wpAny (model P w) A (setNext a slot i ep) Q E s:=by
 obtain ⟨o,ho,b,hd,hf⟩:=SQ
 unfold setNext setsByText
 refine wpAny_bind (wpAny_setState_of ho hd hf ?_)
 dsimp only
 refine wpAny_bind (wpAny_bind (wpAny_askSetting (wpAny_pure ?_)))
 show wpAny _ _ (if w.params.followText "set-order" = true then _ else _) _ _ _
 rw [if_neg (by rw [bt]; exact Bool.false_ne_true)]
 show wpAny _ _ (if (!t.plain && decide (es.size > 1))=true then _ else _) _ _ _
 rw [if_neg (by rw [hdr]; exact Bool.false_ne_true)]
 refine wpAny_bind ?_
 show wpAny _ _ (if (!t.led && !es.isEmpty)=true then _ else _) _ _ _
 rw [if_neg (by rw [hl]; simp)]
 exact wpAny_pure (wpAny_pure q)
theorem z2r {s:Shared}{a:Addr}{ks:List Int}{Q:Value->Shared->Prop}(X:znz P w s.heap a ks)(hd:ks.Nodup)
  (q:∀ (it:Addr) (fp:List Addr) (ord:List Value) (ns:List Int) (St:Nat->Heap->Prop) (h':Heap) (d:Drawn),(∀ b o,s.heap.get? b=some o->h'.get? b=some o)->(∀ b∈fp,b=a\/s.heap.objs.size<=b)->s.heap.objs.size<=it->(∀ b∈fp,b<h'.objs.size)->it∈fp->IntsAre ord ns->ns.Perm ks ->
   (∀ B:Around,B.handled=none->Walks P w B it fp [it] ord.length (fun i v=>ord[i]? = some v) St)->St 0 h'->Q (.ref it) { s with heap:=h',drawn:=d }):wpAny (model P w) A (pyIter (.ref a)) Q E s:=by
 obtain ⟨o,es,ep,t,ho,ae,h,ai,hm,hb,hf,hn,hT⟩:=X
 obtain ⟨ns,hi,ak⟩:=zr_ ai
 have u:ns.Perm ks:=by
  refine (zqd hd (fun k hk=>(ak k).mpr ((hm k).mp hk)) ?_).symm
  have:=hi.length
  simp at this
  omega
 have ac:s.TypeIs (.ref a) "set" :=⟨o,ho,ae.1⟩
 have SQ:zsl s.heap a es ep t:=⟨o,ho,ae,h,hf⟩
 refine wpAny_pyIter_slot ac F.slot_set_iter (wpAny_call_entry F.slot_set_iter ac SF.entry_iter ?_ (F.args_set_iter_1 _))
 unfold Builtin.«frozenset.__iter__» Builtin.Frozenset.slot0
 refine wpAny_bind (wpAny_bind (m:=slotArgs "__iter__" 0 ⟨[.ref a],[]⟩) (wpAny_pure ?_))
 unfold Builtin.Frozenset.addrOf Builtin.Frozenset.sizeOf
 refine wpAny_pure (wpAny_bind (wpAny_bind (wpAny_setEntries_of ho h hf (wpAny_pure ?_))))
 unfold setDrawn setsByText
 refine wpAny_bind (wpAny_bind (wpAny_setState_of ho h hf (wpAny_bind (wpAny_bind (wpAny_askSetting (wpAny_pure (wpAny_pure ?_)))))))
 show wpAny _ _ (if (!w.params.followText "set-order" && (!t.plain && decide (es.size > 1)))=true then _ else _) _ _ _
 have lt:a<s.heap.objs.size:=fw ho
 by_cases j:(!w.params.followText "set-order" && (!t.plain && decide (es.size > 1)))=true
 ·rw [if_pos j]
  refine wpAny_bind (zza es.size (ji es.size) s _ (by simp) fun ys d hy=>?_)
  simp only [newTuple]
  refine wpAny_bind (wpAny_newObj_type ?_ ?sz)
  case sz =>
   show (ys.map fun (i:Nat)=>rawInt i).toArray.size<=sizeLine
   have:=hy.length_eq
   rw [fq,d9,this,jz]
   exact fits_of_scanBound hb
  unfold setEpoch
  have k1:∀ b ob,s.heap.get? b=some ob->(s.heap.push { cls:= .type "tuple",data:= .seq (ys.map fun (i:Nat)=>rawInt i).toArray }).get? b=some ob:=fun b ob e=>Heap.get?_push_of_some _ e
  refine wpAny_bind (wpAny_bind (wpAny_setState_of (k1 _ _ ho) h hf (wpAny_pure ?_)))
  simp only [newFields]
  refine wpAny_bind (wpAny_newObj_type ?_ (by size_fits))
  have f:(s.heap.push { cls:= .type "tuple",data:= .seq (ys.map fun (i:Nat)=>rawInt i).toArray }).objs.size=s.heap.objs.size+1:=jp ..
  refine wpAny_pure ⟨_,rfl,"set_iterator",_,⟨_,Heap.get?_push_size _ rfl,rfl⟩,SF.slot_next.lookup,?_⟩
  have gt:(s.heap.push { cls:= .type "tuple",data:= .seq (ys.map fun (i:Nat)=>rawInt i).toArray }).get? s.heap.objs.size=some { cls:= .type "tuple",data:= .seq (ys.map fun (i:Nat)=>rawInt i).toArray }:=Heap.get?_push_size _ rfl
  generalize s.heap.push { cls:= .type "tuple",data:= .seq (ys.map fun (i:Nat)=>rawInt i).toArray }=H1 at k1 f gt |-
  have k2:∀ b ob,H1.get? b=some ob->(H1.push { cls:= .type "set_iterator",data:= .fields #[.ref s.heap.objs.size,rawInt 0,.ref a,rawInt es.size,rawInt ep] }).get? b=some ob:=fun b ob e=>Heap.get?_push_of_some _ e
  have ag:(H1.push { cls:= .type "set_iterator",data:= .fields #[.ref s.heap.objs.size,rawInt 0,.ref a,rawInt es.size,rawInt ep] }).objs.size=s.heap.objs.size+2:=by rw [jp,f]
  have n:zqb (H1.push { cls:= .type "set_iterator",data:= .fields #[.ref s.heap.objs.size,rawInt 0,.ref a,rawInt es.size,rawInt ep] }) H1.objs.size a (.ref s.heap.objs.size) 0 es.size ep:=⟨_,Heap.get?_push_size _ rfl,rfl,rfl⟩
  have l:=zfk SQ fun ob e=>k2 _ _ (k1 _ _ e)
  have ah:∀ p∈ys,p<es.size:=fun p hp=>jc.mp (hy.mem_iff.mp hp)
  have er:(ji es.size).map (fun p=>((es[p]?).map (·.2)).getD .none)=es.toList.map (·.2):=by
   apply List.ext_getElem
   ·simp
   ·intro i h1 h2
    simp at h1
    simp [h1]
  obtain ⟨ms,y,r⟩:=zkh (vs:=ys.map (fun p=>((es[p]?).map (·.2)).getD .none)) (us:=es.toList.map (·.2)) (by rw [<- er]; exact hy.map _) hi
  have ab:∀ b∈[H1.objs.size,a,s.heap.objs.size],b=H1.objs.size\/b=a\/b=s.heap.objs.size:=fun b hb=>by simpa using hb
  refine q H1.objs.size [H1.objs.size,a,s.heap.objs.size] _ ms _ _ d (fun b ob e=>k2 _ _ (k1 _ _ e)) (fun b hb=>?_) (by rw [f]; exact j9 _) (fun b hb=>?_) (by simp) y (r.trans u)
   (fun B hB=>zq2 (t:=t) (es:=es) (ep:=ep) (tp:=s.heap.objs.size) rfl (fun z=>?_) (fun z=>?_) _ (by simp) ?_ hB) ⟨n,l,k2 _ _ gt⟩
  ·rcases ab b hb with z | z | z
   ·rw [z,f]; exact .inr (j9 _)
   ·exact .inl z
   ·exact .inr (kn z.symm)
  ·rw [ag]
   rcases ab b hb with z | z | z
   ·rw [z,f]; exact ip _
   ·rw [z]; exact iw (iw lt)
   ·rw [z]; exact iw (ip _)
  ·rw [z,f] at lt
   exact absurd lt (nq.mpr (j9 _))
  ·rw [f] at z
   exact absurd z (gc (ip _))
  ·intro i x hx
   rw [List.getElem?_map] at hx
   cases g:ys[i]? with
   | none=>rw [g] at hx; cases hx
   | some p =>
    rw [g] at hx
    have hp:=ah p (fm g)
    have al:es[p]? = some es[p]:=Array.getElem?_eq_getElem hp
    refine ⟨p,es[p].1,0,?_,?_⟩
    ·simp [g,rawInt]
    ·have aa:((es[p]?).map (·.2)).getD .none=x:=Option.some.inj hx
     rw [al] at aa |-
     have aj:es[p].2=x:=aa
     rw [<- aj]
 ·rw [if_neg j]
  refine wpAny_bind (wpAny_pure ?_)
  unfold setEpoch
  refine wpAny_bind (wpAny_bind (wpAny_setState_of ho h hf (wpAny_pure ?_)))
  simp only [newFields]
  refine wpAny_bind (wpAny_newObj_type ?_ (by size_fits))
  refine wpAny_pure ⟨_,rfl,"set_iterator",_,⟨_,Heap.get?_push_size _ rfl,rfl⟩,SF.slot_next.lookup,?_⟩
  have k1:∀ b ob,s.heap.get? b=some ob->(s.heap.push { cls:= .type "set_iterator",data:= .fields #[rawInt 0,rawInt 0,.ref a,rawInt es.size,rawInt ep] }).get? b=some ob:=fun b ob e=>Heap.get?_push_of_some _ e
  have ne:a≠s.heap.objs.size:=gc lt
  have l:=zfk SQ (k1 a)
  have n:zqb (s.heap.push { cls:= .type "set_iterator",data:= .fields #[rawInt 0,rawInt 0,.ref a,rawInt es.size,rawInt ep] }) s.heap.objs.size a (.int (0:Nat) 0) 0 es.size ep:=⟨_,Heap.get?_push_size _ rfl,rfl,rfl⟩
  have sz:(s.heap.push { cls:= .type "set_iterator",data:= .fields #[rawInt 0,rawInt 0,.ref a,rawInt es.size,rawInt ep] }).objs.size=s.heap.objs.size+1:=jp ..
  have af:∀ b∈[s.heap.objs.size,a],b=a\/s.heap.objs.size<=b:=fun b hb=>by
   rcases (show b=s.heap.objs.size\/b=a by simpa using hb) with z | z
   ·exact .inr (kn z.symm)
   ·exact .inl z
  have ad:∀ b∈[s.heap.objs.size,a],b<(s.heap.push { cls:= .type "set_iterator",data:= .fields #[rawInt 0,rawInt 0,.ref a,rawInt es.size,rawInt ep] }).objs.size:=fun b hb=>by
   rw [sz]
   rcases (show b=s.heap.objs.size\/b=a by simpa using hb) with z | z
   ·rw [z]; exact ip _
   ·rw [z]; exact iw lt
  by_cases bt:w.params.followText "set-order" = true
  ·-- by the text's order
   obtain ⟨ms,y,r⟩:=zkh ((zkc (w.params.setOrder a ep) es).map (·.2)) hi
   refine q s.heap.objs.size [s.heap.objs.size,a] _ ms _ _ s.drawn k1 af (gd _) ad (by simp) y (r.trans u) (fun B hB=>zl_ (t:=t) (es:=es) (ep:=ep) ne _ (by have:=(zkc (w.params.setOrder a ep) es).length_eq; simpa using this) (fun _=>0) ?_ ?_ hB) ⟨n,l⟩
   ·intro i x hx s' B' E' Q' c z
    refine zpl bt c ?_
    rw [List.getElem?_map] at hx
    cases g:(pickOrder (w.params.setOrder a ep) es).toList[i]? with
    | none=>rw [g] at hx; cases hx
    | some e =>
     rw [g] at hx
     cases hx
     rw [Array.getElem?_toList] at g
     rw [g]
     exact z
   ·intro s' B' E' Q' c z
    refine zpl bt c ?_
    have hsz:(pickOrder (w.params.setOrder a ep) es).size=es.size:=by have:=(zkc (w.params.setOrder a ep) es).length_eq; simpa using this
    rw [Array.getElem?_eq_none (by omega)]
    exact z
  ·have bf:w.params.followText "set-order" = false:=jf.mpr bt
   have dr:(!t.plain && decide (es.size > 1))=false:=by
    rw [bf] at j
    simpa using j
   have ld:t.led=true:=by rw [hT.led]; unfold zqe; rw [bf]; rfl
   have am:t.place.size=es.size:=by
    simp only [SetTable.fits,ic,beq_iff_eq] at hf
    exact hf.1
   refine q s.heap.objs.size [s.heap.objs.size,a] _ ns _ _ s.drawn k1 af (gd _) ad (by simp) hi u (fun B hB=>zl_ (t:=t) (es:=es) (ep:=ep) ne _ (by simp) (zy9 t) ?_ ?_ hB) ⟨n,l⟩
   ·intro i x hx s' B' E' Q' c z
    refine zmf bf dr ld c ?_
    rw [List.getElem?_map] at hx
    cases g:es.toList[i]? with
    | none=>rw [g] at hx; cases hx
    | some e =>
     rw [g] at hx
     cases hx
     rw [Array.getElem?_toList] at g
     have an:i<es.size:=(Array.getElem?_eq_some_iff.mp g).1
     have eb:=zjs hT.ris (i:=i) (by omega)
     have gp:t.place[i]? = some (t.place[i]'(by omega)):=Array.getElem?_eq_getElem (by omega)
     rw [eb,g,gp]
     have z':Q' (some (e.2,(t.place[i]?).getD 0+1)) s':=z
     rw [gp] at z'
     exact z'
   ·intro s' B' E' Q' c z
    refine zmf bf dr ld c ?_
    have eb:=zjs hT.ris (i:=es.size) (by omega)
    rw [eb,Array.getElem?_eq_none (gd _)]
    exact z
theorem zvd {s:Shared}{a:Addr}{ks:List Int}{Q:List Value->Shared->Prop}(hh:A.handled=none)(X:znz P w s.heap a ks)(hd:ks.Nodup)(hn:ks.length<=1000)
  (q:∀ s' vs ns,(∀ b o,s.heap.get? b=some o->s'.heap.get? b=some o)->s'.gens=s.gens->s'.os=s.os->s.heap.objs.size<=s'.heap.objs.size->IntsAre vs ns->ns.Perm ks->Q vs s'):wpAny (model P w) A (collect (.ref a)) Q E s:=by
 unfold collect
 refine wpAny_bind (wpAny_runValue (codeAny_builtin F.entry_proto_collect ?_))
 rw [iu F.plain_proto_collect _]
 refine wpAny_bind (m:=newList []) (wpAny_newObj_type (wpAny_pure ⟨plainId_quiet F.plain_list_iadd _,codeAny_builtin F.entry_list_iadd ?_⟩))
 rw [iu F.plain_list_iadd _]
 obtain ⟨H0,g⟩:∃ H0:Heap,H0=s.heap.push { cls:= .type "list",data:= .seq ([]:List Value).toArray }:=⟨_,rfl⟩
 have v:H0.objs.size=s.heap.objs.size+1:=by rw [g]; exact jp ..
 have k0:∀ b o,s.heap.get? b=some o->H0.get? b=some o:=fun b o e=>by rw [g]; exact Heap.get?_push_of_some _ e
 have g0:H0.get? s.heap.objs.size=some { cls:= .type "list",data:= .seq ([]:List Value).toArray }:=by rw [g]; exact Heap.get?_push_size _ rfl
 show wpAny _ A.in1 (Builtin.List.listExtendWith (.ref s.heap.objs.size) (.ref a) (.ref s.heap.objs.size)) _ _ { s with heap:=s.heap.push _ }
 rw [<- g]
 have X0:znz P w H0 a ks:=X.keep fun o e=>k0 _ _ e
 have la:a<s.heap.objs.size:=by
  obtain ⟨o,_,_,_,ho,_⟩:=X
  exact fw ho
 have x:Shared.TypeIs { s with heap:=H0 } (.ref a) "set" :=by
  obtain ⟨o,_,_,_,ho,ab,_⟩:=X0
  exact ⟨o,ho,ab.1⟩
 unfold Builtin.List.listExtendWith
 refine wpAny_bind (wpAny_typeOf x ?_)
 have n1:Builtin.List.listSameRef (.ref s.heap.objs.size) (.ref a)=false:=by
  show (s.heap.objs.size == a)=false
  exact beq_eq_false_iff_ne.mpr (jj la)
 have n2:(Value.type "set" == Value.type "list")=false:=by decide
 have n3:(Value.type "set" == Value.type "tuple")=false:=by decide
 simp only [n1,n2,n3,Bool.or_false,Bool.false_eq_true,if_false]
 refine wpAny_bind (z2r (s:={ s with heap:=H0 }) X0 hd fun it fp f ns St h1 d k1 ac n ad ae j hp W st=>?_)
 refine wpAny_bind (wpAny_holding ?_)
 have l:Shared.TypeIs { s with heap:=h1,drawn:=d } (.ref a) "set" :=by
  obtain ⟨o,ho,hc⟩:=x
  exact ⟨o,k1 _ _ ho,hc⟩
 unfold Builtin.List.listLengthHint
 refine wpAny_bind (wpAny_specialOf l SF.len_set ?_)
 wp_delta
 refine wpAny_bind (wpAny_isInstance (T:= "set") (b:=true) l (by rw [isSubtype_type]; kernel_rfl) ?_)
 show wpAny _ A.in1 (typeOf (Value.ref a) >>= _) _ _ _
 refine wpAny_bind (wpAny_typeOf l ?_)
 refine wpAny_pure ?_
 rw [if_pos (by decide)]
 refine wpAny_bind (wpAny_rule ?_)
 refine wpAny_bind ?_
 show wpAny _ A.in1 (updateSeq s.heap.objs.size (·.push .none) >>= fun _=>updateSeq s.heap.objs.size (·.pop)) _ _ _
 have t:h1.get? s.heap.objs.size=some { cls:= .type "list",data:= .seq ([]:List Value).toArray }:=k1 _ _ g0
 refine wpAny_bind (wpAny_updateSeq t rfl ?_)
 have y:=Heap.get?_update_self (Obj.mapSeq (·.push Value.none)) t rfl
 refine wpAny_updateSeq (hz:=by seq_fits) y rfl ?_
 have aa:=Heap.get?_update_self (Obj.mapSeq (·.pop)) y rfl
 have u:∀ b o,b≠s.heap.objs.size->h1.get? b=some o->((h1.update s.heap.objs.size (Obj.mapSeq (·.push Value.none))).update s.heap.objs.size (Obj.mapSeq (·.pop))).get? b=some o :=
  fun b o hb e=>(Heap.get?_update_other _ _ (Ne.symm hb)).trans ((Heap.get?_update_other _ _ (Ne.symm hb)).trans e)
 have p:s.heap.objs.size∉fp:=fun hm=>by
  rcases ac _ hm with e | e
  ·exact absurd e (jj la)
  ·have e2:H0.objs.size<=s.heap.objs.size:=e
   rw [v] at e2
   omega
 have hl:f.length<=sizeLine:=by
  have e1:=j.length
  have e2:=hp.length_eq
  have:f.length<=1000:=by omega
  exact gf this (by decide)
 refine wpAny_pure ⟨plainId_quiet F.plain_extend_loop _,codeAny_extend_loopS (W A.in1 hh).toS hl _ p _ f.length 0 _ _ _ rfl (im _)
  ((W A.in1 hh).frame 0 _ _ st fun b hb o e=>u b o (fun z=>p (z ▸ hb)) e) aa (ItemsOf.nil _) fun s' c c' hm r h=>?_⟩
 show wpAny _ A (load s.heap.objs.size >>= _) _ _ s'
 refine wpAny_bind (wpAny_load r ?_)
 refine wpAny_pure (q s' c.toList ns (fun b ob e=>hm.heap b ob (fun hb=>?_) (u b ob (gc (fw e)) (k1 _ _ (k0 _ _ e)))) hm.gens hm.os (ia (fw r)) ?_ hp)
 ·have lb:=fw e
  rcases gl.mp hb with z | z
  ·exact io _ (z ▸ lb)
  ·rw [fc.mp z] at lb
   have e2:H0.objs.size<=it:=n
   rw [v] at e2
   exact io _ (fi lb (gf (j9 _) e2))
 ·have e:c.toList=f:=by
   apply List.ext_getElem?
   intro i
   rcases Nat.lt_or_ge i c.size with hi | hi
   ·have z:=h.2 i c[i] (by simp [hi])
    rw [z]
    simp [hi]
   ·rw [List.getElem?_eq_none (by simpa using hi),List.getElem?_eq_none (by rw [<- h.1]; exact hi)]
  rw [e]
  exact j
theorem zwu {s:Shared}{a:Addr}{ks:List Int}{Q:Value->Shared->Prop}(hh:A.handled=none)(X:znz P w s.heap a ks)(hd:ks.Nodup)(hn:ks.length<64)
  (q:∀ (s':Shared) (r:Addr) (vs:List Value) (ns:List Int),(∀ b o,s.heap.get? b=some o->s'.heap.get? b=some o)->s'.gens=s.gens->s'.os=s.os->s.heap.objs.size<=r ->
   (∃ e,s'.heap.get? r=some (seqObj "list" vs.toArray e))->IntsAre vs ns->ns.Perm ks->ns.Pairwise (· <= ·)->Q (.ref r) s') :
  wpAny (model P w) A (call (.builtin "sorted") [.ref a]) Q E s:=by
 refine Calls.call_function_entry kind_sorted plain_sorted entry_sorted (args_sorted1 _) ?_
 unfold Builtin.«sorted»
 refine wpAny_bind (m:=checkCount "sorted" 1 1 _) (wpAny_pure ?_)
 refine wpAny_bind (zvd (by exact hh) X hd (by omega) fun s1 vs ns k1 g1 o1 z1 hi hp=>?_)
 have f:vs.length<64:=by
  have e1:=hi.length
  have e2:=hp.length_eq
  omega
 refine wpAny_bind (wpAny_newList (hsz:=gf (ia f) (by decide)) ?_)
 have d:(s1.heap.push (seqObj "list" vs.toArray 0)).get? s1.heap.objs.size=some (seqObj "list" vs.toArray 0):=Heap.get?_push_size _ rfl
 show wpAny _ _ _ _ _ { s1 with heap:=s1.heap.push (seqObj "list" vs.toArray 0) }
 refine wpAny_bind (wpAny_holding (wpAny_call_entry slot_list_sort ⟨_,d,rfl⟩ entry_list_sort (list_sort_tree d hi f fun out g a1 a2 a3=>⟨_,rfl,?_⟩) (args_list_sort _)))
 obtain ⟨H1,c⟩:∃ H1,H1=s1.heap.push (seqObj "list" vs.toArray 0):=⟨_,rfl⟩
 have z2:H1.objs.size=s1.heap.objs.size+1:=by rw [c]; exact size_push' _ _
 have kk:∀ b o,s1.heap.get? b=some o->(sortedHeap H1 s1.heap.objs.size vs out).get? b=some o:=fun b o e=>by
  rw [sortedHeap_old (gc (fw e)) (by rw [z2]; exact iw (fw e)),c]
  exact Heap.get?_push_of_some _ e
 have ka:∃ e,(sortedHeap H1 s1.heap.objs.size vs out).get? s1.heap.objs.size=some (seqObj "list" out e):=sortedHeap_at (n:=0) (by rw [c]; exact d)
 rw [<- c]
 generalize sortedHeap H1 s1.heap.objs.size vs out=H2 at kk ka |-
 refine wpAny_pure ⟨_,rfl,q _ _ out.toList g (fun b o e=>?_) g1 o1 ?_ ?_ a1 (a2.trans hp) a3⟩
 ·exact kk _ _ (k1 _ _ e)
 ·exact z1
 ·exact ka
end
def za1 (ns:List Int):List Int:=ns.mergeSort (fun a b=>decide (a<=b))
theorem zaw (ns:List Int):(za1 ns).Perm ns:=List.mergeSort_perm _ _
theorem zi2 (ns:List Int):(za1 ns).Pairwise (· <= ·):=by
 have h:=List.pairwise_mergeSort (le:=fun a b:Int=>decide (a<=b)) (by intro a b c h1 h2; simp at *; omega) (by intro a b; simp; omega) ns
 exact h.imp fun h=>by simpa using h
theorem zo5:∀ {a b:List Int},a.Perm b->a.Pairwise (· <= ·)->b.Pairwise (· <= ·)->a=b
 | [],b,p,_,_=>(m7.mp p).symm
 | x :: r,[],p,_,_=>absurd p.symm (by intro z; exact absurd (m7.mp z) (by simp))
 | x :: r,y :: q,p,h1,h2=>by
  obtain ⟨hx,hr⟩:=ir.mp h1
  obtain ⟨hy,hq⟩:=ir.mp h2
  have e:x=y:=by
   have m1:x∈y :: q:=p.subset (.head _)
   have m2:y∈x :: r:=p.symm.subset (.head _)
   rcases gl.mp m1 with e | m1
   ·exact e
   ·rcases gl.mp m2 with e | m2
    ·exact e.symm
    ·have:=hx y m2
     have:=hy x m1
     omega
  subst e
  rw [zo5 (List.Perm.cons_inv p) hr hq]
theorem zj5 {a b:List Int}(p:a.Perm b)(h:a.Pairwise (· <= ·)):a=za1 b:=zo5 (p.trans (zaw b).symm) h (zi2 b)
theorem zbr (ns:List Int):(za1 ns).length=ns.length:=(zaw ns).length_eq
section
variable {X:Cx}
theorem zkb:zjt X (.builtin "sorted") (fun xs H Q=>∃ (p:Addr) (ns:List Int),xs=[.ref p]/\SqL X.K H p (ns.map V.int)/\ns.length<64/\∀ l,H l=none->Q (.ref l) (upd H l (.lst ((za1 ns).map V.int)))):=by
 intro pins s σ H xs us Q I r h
 obtain ⟨p,ns,rfl,hq,hl,q⟩:=h
 obtain ⟨u,rfl,ru⟩:=zkr r
 cases (show u=Value.ref p from ru)
 obtain ⟨its,rv,pl,hz⟩:=I.list hq
 have hi:IntsAre its ns:=zi1 rv
 have c:=hi.length
 refine sorted_ints (vs:=its) pl.isList hi (by omega) fun out d a1 a2 a3=>?_
 obtain ⟨e,he⟩:=sortedAll_at s.heap its out
 have e2:=zj5 a2 a3
 subst e2
 refine ⟨.ref (s.heap.objs.size+1),_,I.laid (a:=s.heap.objs.size+1) (o:= .lst ((za1 ns).map V.int)) (t':=s.toks) (fun b o e=>sortedAll_old e) (j9 _) ?_,rfl,q _ (I.hok.fresh (j9 _))⟩
 exact ⟨by rw [d9,zbr]; exact gf (ia hl) (by decide),out.toList,e,ze8 a1,he⟩
def stX (X:Cx)(l:Addr)(ks:List Int):HO:= .ext fun h=>znz X.prog X.w h l ks
theorem zu9 (hc:X.calm=true):zjt X (.type "set") (fun xs H Q=>∃ (p:Addr) (ns:List Int),xs=[.ref p]/\SqL X.K H p (ns.map V.int)/\ns.length<=1000/\∀ l,H l=none->Q (.ref l) (upd H l (stX X l (zhc ns)))):=by
 intro pins s σ H xs us Q I r h
 obtain ⟨p,ns,rfl,hq,hl,q⟩:=h
 obtain ⟨u,rfl,ru⟩:=zkr r
 cases (show u=Value.ref p from ru)
 obtain ⟨its,rv,pl,hz⟩:=I.list hq
 have hi:IntsAre its ns:=zi1 rv
 have b:=hi.length
 refine zsd (its:=its.toArray) (ns:=ns) (I.ok.hd hc) pl.isList (by simpa using hi) (by rw [fq]; unfold scanBound; omega) fun h' tk hS hk=>?_
 refine ⟨.ref s.heap.objs.size,_,I.laid (a:=s.heap.objs.size) (o:=stX X s.heap.objs.size (zhc ns)) (t':=tk) hk (gd _) ?_,rfl,q _ (I.hok.fresh (gd _))⟩
 have ez:its.toArray.size=ns.length:=by rw [fq,b]
 rw [ez] at hS
 refine ⟨hS,?_,fun h1 h2 x k=>x.keep k⟩
 obtain ⟨o,_,_,_,ho,_⟩:=hS
 exact ⟨o,ho⟩
theorem zpg (hc:X.calm=true):zjt X (.builtin "sorted") (fun xs H Q=>∃ (p:Addr) (ks:List Int),xs=[.ref p]/\H p=some (stX X p ks)/\ks.Nodup/\ks.length<64/\∀ l,H l=none->Q (.ref l) (upd H l (.lst ((za1 ks).map V.int)))):=by
 intro pins s σ H xs us Q I r h
 obtain ⟨p,ks,rfl,hq,hd,hl,q⟩:=h
 obtain ⟨u,rfl,ru⟩:=zkr r
 cases (show u=Value.ref p from ru)
 obtain ⟨hS,_⟩:=I.hok p _ hq
 refine zwu (I.ok.hd hc) hS hd hl fun s' l vs ns k1 g1 o1 z1 a hi hp hs=>?_
 obtain ⟨e,he⟩:=a
 have e2:=zj5 hp hs
 subst e2
 have fr:H l=none:=I.hok.fresh z1
 refine ⟨.ref l,upd H l (.lst ((za1 ks).map V.int)),I.call' (ch:=[]) o1 (Un.laid k1 z1 fr) ?_ (by rw [g1]; exact I.bare) (fun b hb=>absurd hb (by simp)),rfl,q _ fr⟩
 refine I.hok.laid k1 z1 ⟨by rw [d9,zbr]; exact gf (ia hl) (by decide),vs,e,ze8 hi,he⟩
def FnV (K:W.Frag)(H:Hp)(f:Addr)(fd:FuncData):Prop:=(∃ fo k0,H f=some (.frz fo k0)/\fo.data = .func fd)\/∃ oc od osl,K.lookup f=some ⟨oc,od,.func fd,osl⟩
theorem FnV.at {pins:List (Addr × Obj)}{σ:St}{H:Hp}{s:Shared}{f:Addr}{fd:FuncData}(I:Inv X pins σ H s)(h:FnV X.K H f fd):PySem.W.FnAt f s.heap:=by
 rcases h with ⟨fo,k0,h1,h2⟩ | ⟨oc,od,osl,h⟩
 ·obtain ⟨z,_⟩:=I.hok f _ h1
  obtain ⟨oc,od,dt,sl⟩:=fo
  cases (show dt=Data.func fd from h2)
  exact ⟨oc,od,fd,sl,z⟩
 ·exact ⟨oc,od,fd,osl,I.kIn _ _ h⟩
def z4e (K:W.Frag)(R:Addr->FuncData->Prop)(sp:Addr->FuncData->Sp)(tf:TE)(t:TA):TE:=fun σ H Q=>tf σ H fun v H1=>∃ f fd,v = .ref f/\FnV K H1 f fd/\R f fd/\t σ H1 fun vs H2=>FnV K H2 f fd/\sp f fd vs H2 Q E0
theorem zj2 {x:Str}{p pos:Pos}{e:Expr}{es:List Expr}{tf:TE}{t:TA}{k:Nat}{ps:List Str}{R:Addr->FuncData->Prop}{sp:Addr->FuncData->Sp}(hfe:PE X (.Name x p) tf)
  (G:∀ f fd,R f fd->zc_ X.prog X.w X.K X.mg X.base CX0 k f fd ps (sp f fd))(hb:∀ f fd,R f fd->zci X.K fd ps [])(hr:zed k X.A)(ha:PA X (e :: es) t)
  (he:starEach (e :: es) X.env=(false,eval e X.env) :: starEach es X.env:=by rfl)(hpl:(backTo pos (starEach es X.env)).any (·.1)=false:=by rfl) :
  PE X (.Call (.Name x p) (e :: es) [] pos) (z4e X.K R sp tf t):=by
 intro pins s σ H Q I h
 refine wpAny_Call_Name_kw (thn (hfe pins s σ H _ I h) fun u s1 ⟨v,H1,I1,r,f,fd,ev,hz,hR,q⟩=>?_)
 subst ev
 cases (show u=Value.ref f from r)
 refine PySem.W.callWith_F (hz.at I1) (thn (ha pos pins s1 σ H1 _ I1 q) fun us s2 ⟨vs,H2,I2,r2,a,q2⟩=>⟨a.at I2,?_⟩) he hpl
 exact zrx (dvs:=[]) (ds:=[]) (G f fd hR) hr (hb f fd hR) .nil zbw I2 r2 (by rw [j6]; exact q2)
end
structure z1r (K:W.Frag)(C:Addr)(m qual:Str)(st:Stmt)(ps:List Str)(ds:List Value) where
 f:Addr
 fd:FuncData
 ex:∃ (oc:Value) (od:Option Addr) (dV kV doc pm:Value) (an:Option Addr) (cdv ct:Value) (osl:Array (Option Value)),
  fd=PySem.W.fnOf m qual (zb5 st) (zbk st) (zah st) dV kV doc pm an cdv ct/\K.lookup f=some ⟨oc,od,.func fd,osl⟩/\PySem.W.codeIn K cdv qual=true
 me:zz8 K C m f
 b:zci K fd ps []
 bd:zci K fd ps ds
theorem z1r.ok {P:Program}{w:World}{K:W.Frag}{mg:Str->Option Value}{base:Heap}{C:Addr}{x qual:Str}{st:Stmt}{N ps:List Str}{ds:List Value}{k:Nat}{sp:Sp}(D:z1r K C x qual st ps ds)(S:zaj N ps (zah st))(len:∀ vs H Q E,sp vs H Q E->vs.length=ps.length)
  (hbody:∀ (cdv:Value) (A:Around) (outer:List Env) (s:Shared) (H:Hp) (vs:List V) (Q:VK) (E:XK),zed k (A.deeper (envOfC qual (zah st) s.heap.objs.size D.f cdv))->sp vs H Q E ->
   ∃ t,PSs (zn0 CX0 P w K mg base N qual (zah st) D.f cdv A outer s H E).nox (zbk st) t/\t { nx:=fun _ H'=>Q .non H',rt:=Q } (start N vs) H):zc_ P w K mg base CX0 (k+1) D.f D.fd ps sp:=by
 obtain ⟨f,fd,⟨oc,od,dV,kV,doc,pm,an,cdv,ct,osl,rfl,lk,c⟩,me,b,bd⟩:=D
 refine z00 lk c S len fun A outer s H vs Q E hr a=>?_
 obtain ⟨t,h,q⟩:=hbody cdv A outer s H vs Q E hr a
 exact ⟨t,h.nox,q⟩
theorem zzp {us:List Value}(h:(us++([]:List Value)).length=4):∃ a b c d,us=[a,b,c,d] :=
 us4 (R:=fun us=>∃ a b c d,us=[a,b,c,d]) (fun a b c d=>⟨a,b,c,d,rfl⟩) us (by rwa [j6] at h)
theorem z2n {us:List Value}(h:(us++([]:List Value)).length=3):∃ a b c,us=[a,b,c] :=
 us3 (R:=fun us=>∃ a b c,us=[a,b,c]) (fun a b c=>⟨a,b,c,rfl⟩) us (by rwa [j6] at h)
theorem z0s {us:List Value}{v:Value}(h:(us++[v]).length=4):∃ a b c,us=[a,b,c] :=
 us3 (R:=fun us=>∃ a b c,us=[a,b,c]) (fun a b c=>⟨a,b,c,rfl⟩) us (by rw [fe] at h; exact Nat.succ.inj h)
theorem z04 {us:List Value}{v:Value}(h:(us++[v]).length=3):∃ a b,us=[a,b] :=
 us2 (R:=fun us=>∃ a b,us=[a,b]) (fun a b=>⟨a,b,rfl⟩) us (by rw [fe] at h; exact Nat.succ.inj h)
def zks (key:Int->Int)(ns:List Int):List Int:=ns.mergeSort (fun a b=>decide (key a<=key b))
theorem zfj (key:Int->Int)(ns:List Int):(zks key ns).Perm ns:=List.mergeSort_perm _ _
theorem zjc (key:Int->Int)(ns:List Int):(zks key ns).Pairwise (fun a b=>key a<=key b):=by
 have h:=List.pairwise_mergeSort (le:=fun a b:Int=>decide (key a<=key b)) (by intro a b c h1 h2; simp at *; omega) (by intro a b; simp; omega) ns
 exact h.imp fun h=>by simpa using h
theorem zmt {key:Int->Int}:∀ {a b:List Int},a.Perm b->(∀ x∈b,∀ y∈b,key x=key y->x=y)->a.Pairwise (fun x y=>key x<=key y)->b.Pairwise (fun x y=>key x<=key y)->a=b
 | [],b,p,_,_,_=>(m7.mp p).symm
 | x :: r,[],p,_,_,_=>absurd p.symm (by intro z; exact absurd (m7.mp z) (by simp))
 | x :: r,y :: q,p,hj,h1,h2=>by
  obtain ⟨hx,hr⟩:=ir.mp h1
  obtain ⟨hy,hq⟩:=ir.mp h2
  have e:x=y:=by
   have m1:x∈y :: q:=p.subset (.head _)
   have m2:y∈x :: r:=p.symm.subset (.head _)
   refine hj x m1 y (.head _) ?_
   rcases gl.mp m1 with e | m1
   ·rw [e]
   ·rcases gl.mp m2 with e | m2
    ·rw [e]
    ·have:=hx y m2
     have:=hy x m1
     omega
  subst e
  rw [zmt (List.Perm.cons_inv p) (fun u hu v hv=>hj u (.tail _ hu) v (.tail _ hv)) hr hq]
theorem zr3 {key:Int->Int}{a b:List Int}(p:a.Perm b)(hj:∀ x∈b,∀ y∈b,key x=key y->x=y)(h:a.Pairwise (fun x y=>key x<=key y)):a=zks key b :=
 zmt (p.trans (zfj key b).symm) (fun x hx y hy=>hj x ((zfj key b).subset hx) y ((zfj key b).subset hy)) h (zjc key b)
theorem zvv (key:Int->Int)(ns:List Int):(zks key ns).length=ns.length:=(zfj key ns).length_eq
theorem zx3 {vs:List Value}{a b:List Int}(h1:IntsAre vs a)(h2:IntsAre vs b):a=b:=h1.nums.symm.trans h2.nums
theorem zmp {key:Int->Int}:∀ {ps:List (Int × Value)},(∀ p∈ps,∃ n t,p=(key n,.int n t))->∃ ns,IntsAre (ps.map Prod.snd) ns/\ps.map Prod.fst=ns.map key
 | [],_=>⟨[],.nil,rfl⟩
 | p :: r,h=>by
  obtain ⟨n,t,rfl⟩:=h p (.head _)
  obtain ⟨ns,h1,h2⟩:=zmp (ps:=r) fun q hq=>h q (.tail _ hq)
  exact ⟨n :: ns,.cons n t h1,by rw [gu,gu,h2]⟩
theorem zon {key:Int->Int}:∀ {vs:List Value} {ns:List Int},IntsAre vs ns->∀ p∈(ns.map key).zip vs,∃ n t,p=(key n,Value.int n t)
 | _,_,.nil,p,hp=>by simp at hp
 | _,_,.cons n t h,p,hp=>by
  rw [gu,List.zip_cons_cons] at hp
  rcases gl.mp hp with rfl | hp
  ·exact ⟨n,t,rfl⟩
  ·exact zon h p hp
theorem zv5 {key:Int->Int}{vs out:List Value}{ns:List Int}(hi:IntsAre vs ns)(hj:∀ x∈ns,∀ y∈ns,key x=key y->x=y)(h:KskOut false (ns.map key) vs out):IntsAre out (zks key ns):=by
 obtain ⟨ps,hp,rfl,ho⟩:=h
 obtain ⟨ms,h1,h2⟩:=zmp (ps:=ps) fun p q=>zon hi p (hp.subset q)
 have pv:(ps.map Prod.snd).Perm vs:=by
  have:=hp.map Prod.snd
  rw [List.map_snd_zip (by rw [d9]; exact kn hi.length)] at this
  exact this
 obtain ⟨ls,h3,h4⟩:=zkh pv hi
 have e:=zx3 h1 h3
 subst e
 have e2:=zr3 h4 hj (by
  have z:(ps.map Prod.fst).Pairwise (· <= ·):=by
   rw [List.pairwise_map]
   exact ho.imp fun h=>by simpa using h
  rw [h2,List.pairwise_map] at z
  exact z)
 rw [<- e2]
 exact h1
theorem z5_ {P:Program}{w:World}{A:Around}{E:Value->Shared->Prop}{s:Shared}{a kS:Addr}{vs:List Value}{kz:List Int}{keys:Array Value}{e e1:Nat}{Q:PySem.Fin->Shared->Prop}(ho:s.heap.get? a=some (seqObj "list" #[] e1))(hs:s.heap.get? kS=some (seqObj "list" keys e))(hne:kS≠a)
  (hk:IntsAre keys.toList kz)(hlen:kz.length=vs.length)(h64:vs.length<64)
  (q:∀ (h':Heap) (out:Array Value),(∀ b o,b≠a->b≠kS->s.heap.get? b=some o->h'.get? b=some o)->(∃ c,h'.get? a=some (seqObj "list" out c))->(∃ o,h'.get? kS=some o)->KskOut false kz vs out.toList->Q (.done (.ret .none)) { s with heap:=h' }) :
  wpAny (model P w) A (ksk_end a false vs.toArray e1 (.ref kS) keys) Q E s:=by
 have hsz:keys.size=vs.length:=by
  have z:=hk.length
  rw [ja] at z
  omega
 have g:(keys.zip vs.toArray).size=vs.length:=by rw [Array.size_zip,hsz,fq,Nat.min_self]
 have tail:∀ st:SortSt,(arrOf st).Perm (keys.zip vs.toArray)->SortedTo (arrOf st) (arrOf st).size->failedOf st=none->wpAny (model P w) A (ksk_tail a false e1 (.ref kS) st) Q E s:=by
  intro st hp l hf
  have zo:(arrOf st).size=vs.length:=by rw [hp.size_eq,g]
  unfold ksk_tail
  dsimp only
  refine wpAny_bind (listUpdate_at hs rfl ?_ (by rw [hsz,sizeLine_eq]; omega) (im _))
  refine wpAny_bind (wpAny_letGo ?_)
  have d:∀ b,b≠kS->(s.heap.update kS (Obj.mapSeq fun _=>(#[]:Array Value))).get? b=s.heap.get? b:=fun b hb=>Heap.get?_update_ne _ _ _ _ hb
  have f:(s.heap.update kS (Obj.mapSeq fun _=>(#[]:Array Value))).get? a=some (seqObj "list" #[] e1):=by rw [d a hne.symm]; exact ho
  have m:=get?_update_seq hs (fun _=>(#[]:Array Value))
  generalize s.heap.update kS (Obj.mapSeq fun _=>(#[]:Array Value))=h1 at d f m |-
  refine wpAny_bind (seqEpoch_at f rfl ?_)
  refine wpAny_bind (listUpdate_at f rfl ?_ (im _) (by simp only [Bool.false_eq_true,if_false,Array.size_map,zo,sizeLine_eq]; omega))
  have p:=get?_update_seq f (fun _=>if (false:Bool)=true then (Array.map (fun x:Keyed=>x.2) (arrOf st)).reverse else Array.map (fun x:Keyed=>x.2) (arrOf st))
  have h:∀ b,b≠a->(h1.update a (Obj.mapSeq fun _=>if (false:Bool)=true then (Array.map (fun x:Keyed=>x.2) (arrOf st)).reverse else Array.map (fun x:Keyed=>x.2) (arrOf st))).get? b=h1.get? b:=fun b hb=>Heap.get?_update_ne _ _ _ _ hb
  rw [hf]
  simp only [bne_self_eq_false]
  rw [if_neg Bool.false_ne_true]
  refine wpAny_pure (q _ _ (fun b o hb r eb=>?_) ⟨_,p⟩ ⟨_,(h kS hne).trans m⟩ (ksk_out (b:=false) hk hp l))
  rw [h b hb,d b r]
  exact eb
 unfold ksk_end
 dsimp only
 rw [if_neg Bool.false_ne_true]
 by_cases h2:vs.toArray.size<2
 ·rw [if_pos h2,if_pos h2]
  refine wpAny_bind (wpAny_pure ?_)
  rw [StateT.run_pure]
  refine wpAny_bind (wpAny_pure ?_)
  refine tail _ (Array.Perm.refl _) ?_ rfl
  intro i j t hj
  have n:j<(keys.zip vs.toArray).size:=hj
  rw [g] at n
  rw [fq] at h2
  have:i=j:=by omega
  subst this
  exact Int.le_refl _
 ·rw [if_neg h2,if_neg h2]
  rw [fq] at h2
  rw [ksk_kind hk (by rw [hsz]; omega)]
  refine wpAny_bind (wpAny_pure ?_)
  refine wpAny_bind (wpAny_mono (wpS_sortRuns (a₀:=keys.zip vs.toArray) (st:=SortSt.mk' oneType' (keys.zip vs.toArray) #[] 7 none) (Q:=fun _ z=>(arrOf z).Perm (keys.zip vs.toArray)/\failedOf z=none/\SortedTo (arrOf z) (keys.zip vs.toArray).size)
   (ksk_intKeys hk) ⟨Array.Perm.refl _,rfl,rfl,rfl⟩ (by rw [g]; omega) (by rw [g]; exact h64) fun z a1 a2 a3=>⟨a1,a2,a3⟩) ?_ fun _ _ z=>z)
  rintro ⟨⟨⟩,z⟩ s' ⟨rfl,hp,hf,l⟩
  exact tail z hp (by rw [hp.size_eq]; exact l) hf
section
variable {X:Cx}
theorem zym {pins:List (Addr × Obj)}{σ:St}{H:Hp}{s:Shared}{it:Addr}{o:Obj}{h':Heap}{t':Nat}(I:Inv X pins σ H s)(k:∀ b,b≠it->h'.get? b=s.heap.get? b)(hn:H it=none)(hL:it≠X.env.locals)(h1:X.s₀.heap.objs.size<=it)(ho:s.heap.get? it=some o)(hd:∀ v,o.data≠ .cell v)
  (h3:∀ p∈X.pn++pins,p.1≠it):Inv X pins σ H { s with heap:=h',toks:=t' }:=by
 refine I.turned (fun b o hb e=>(k b hb).trans e) hn hL (.inr h1) (fun x c e z=>?_) h3
 obtain ⟨v,oc,hc,a⟩:=I.cell x c e
 rw [z,ho] at hc
 cases hc
 exact hd _ a
theorem zs_ {pins:List (Addr × Obj)}{σ:St}{H:Hp}{s:Shared}{p f:Addr}{ns:List Int}{key:Int->Int}{R:Hp->Prop}{Q:VK}(I:Inv X pins σ H s)(hq:SqL X.K H p (ns.map V.int))(hl:ns.length<64)(hj:∀ x∈ns,∀ y∈ns,key x=key y->x=y)
  (hR:R H)(turn:∀ (pl:List (Addr × Obj)) (s':Shared) (H':Hp) (n:Int) (t:Tok),n∈ns->Inv X pl σ H' s'->R H'->wpAny (model X.prog X.w) X.A.in1.in1 (call (.ref f) [.int n t]) (EP X pl σ fun v H2=>v = .int (key n)/\R H2) (fun _ _=>False) s')
  (q:∀ H' l,R H'->H' l=none->H l=none->Q (.ref l) (upd H' l (.lst ((zks key ns).map V.int)))) :
  wpAny (model X.prog X.w) X.A (call (.builtin "sorted") [.ref p] [(Str.ofString "key",.ref f)]) (EP X pins σ Q) X.xe s:=by
 obtain ⟨vs,rv,pl,hz⟩:=I.list hq
 have hi:IntsAre vs ns:=zi1 rv
 have aj:=hi.length
 have ac:vs.length<=sizeLine:=by rw [sizeLine_eq]; omega
 refine call_function_entry_kw kind_sorted plain_sorted entry_sorted (ksk_s1 _ _) ?_
 unfold Builtin.«sorted»
 refine wpAny_bind (m:=checkCount "sorted" 1 1 _) (wpAny_pure ?_)
 refine wpAny_bind (collect_list pl.isList ?_ ac)
 refine wpAny_bind (wpAny_newList ?_ ac)
 have z0:((s.heap.push (seqObj "list" #[] 0)).update s.heap.objs.size (Obj.mapSeq (· ++ vs.toArray))).objs.size=s.heap.objs.size+1:=by rw [Heap.size_update,size_push']
 have k0:∀ b o,s.heap.get? b=some o->((s.heap.push (seqObj "list" #[] 0)).update s.heap.objs.size (Obj.mapSeq (· ++ vs.toArray))).get? b=some o:=fun b o e=>by
  rw [Heap.get?_update_ne _ _ _ _ (gc (fw e))]
  exact Heap.get?_push_of_some _ e
 generalize ((s.heap.push (seqObj "list" #[] 0)).update s.heap.objs.size (Obj.mapSeq (· ++ vs.toArray)))=h0 at z0 k0 |-
 obtain ⟨a,ea⟩:∃ a,a=h0.objs.size:=⟨_,rfl⟩
 obtain ⟨h1,ad⟩:∃ h1,h1=h0.push (seqObj "list" vs.toArray 0):=⟨_,rfl⟩
 show wpAny _ _ _ _ _ { s with heap:=h0.push (seqObj "list" vs.toArray 0) }
 rw [<- ad]
 have ae:h1.get? a=some (seqObj "list" vs.toArray 0):=by rw [ad,ea]; exact Heap.get?_push_size _ rfl
 have z1:h1.objs.size=h0.objs.size+1:=by rw [ad]; exact size_push' _ _
 have k1:∀ b o,s.heap.get? b=some o->h1.get? b=some o:=fun b o e=>by rw [ad]; exact Heap.get?_push_of_some _ (k0 _ _ e)
 have la:s.heap.objs.size<=a:=by rw [ea,z0]; exact j9 _
 rw [<- ea]
 refine wpAny_bind (wpAny_holding (wpAny_call_entry_kw slot_list_sort ⟨_,ae,rfl⟩ entry_list_sort ?body (ksk_l1 _ _)))
 show wpAny (model X.prog X.w) X.A.in1.in1 (Builtin.«list.sort» ⟨[.ref a],[(Str.ofString "key",.ref f)]⟩) _ _ _
 rw [ksk_t1]
 unfold ksk_tree
 refine wpAny_bind (listItems_at ae rfl ?_)
 refine wpAny_bind (listUpdate_at ae rfl ?_ (by rw [fq]; exact ac) (im _))
 obtain ⟨e1,ah⟩:∃ e1,(h1.update a (Obj.mapSeq fun _=>(#[]:Array Value))).get? a=some (seqObj "list" #[] e1):=⟨_,get?_update_seq ae fun _=> #[]⟩
 have k2:∀ b o,s.heap.get? b=some o->(h1.update a (Obj.mapSeq fun _=>(#[]:Array Value))).get? b=some o:=fun b o e=>by
  rw [Heap.get?_update_ne _ _ _ _ (gc (fi (fw e) la))]
  exact k1 _ _ e
 have z2:(h1.update a (Obj.mapSeq fun _=>(#[]:Array Value))).objs.size=a+1:=by rw [Heap.size_update,z1,ea]
 show wpAny _ _ _ _ _ { s with heap:=h1.update a (Obj.mapSeq fun _=>(#[]:Array Value)) }
 generalize h1.update a (Obj.mapSeq fun _=>(#[]:Array Value))=h2 at ah k2 z2 |-
 refine wpAny_bind (seqEpoch_at ah rfl ?_)
 refine wpAny_bind (wpAny_newTuple ?_ (by show vs.length<=_; exact ac))
 refine wpAny_bind (wpAny_newList ?_ (im _))
 refine wpAny_holding ?_
 obtain ⟨h3,af⟩:∃ h3,h3=h2.push (seqObj "tuple" vs.toArray 0):=⟨_,rfl⟩
 show wpAny _ _ (ksk_rest a (.ref f) false vs.toArray e1 (.ref (h2.push (seqObj "tuple" vs.toArray 0)).objs.size)) _ _ { s with heap:=(h2.push (seqObj "tuple" vs.toArray 0)).push (seqObj "list" #[] 0) }
 rw [<- af]
 have z3:h3.objs.size=a+2:=by rw [af,size_push',z2]
 have k3:∀ b o,h2.get? b=some o->(h3.push (seqObj "list" #[] 0)).get? b=some o:=fun b o e=>by rw [af]; exact Heap.get?_push_of_some _ (Heap.get?_push_of_some _ e)
 have ag:(h3.push (seqObj "list" #[] 0)).get? h3.objs.size=some (seqObj "list" #[] 0):=Heap.get?_push_size _ rfl
 obtain ⟨kS,au⟩:∃ kS,kS=h3.objs.size:=⟨_,rfl⟩
 rw [<- au] at ag |-
 have al:kS≠a:=by omega
 have lk:s.heap.objs.size<=kS:=by omega
 generalize h3.push (seqObj "list" #[] 0)=h4 at k3 ag |-
 have I4:Inv X pins σ H { s with heap:=h4,toks:=s.toks }:=I.kept fun b o e=>k3 _ _ (k2 _ _ e)
 have av:=k3 _ _ ah
 have aL:a≠X.env.locals:=jj (fi I.lt la)
 have kL:kS≠X.env.locals:=jj (fi I.lt lk)
 have aa:∀ (s':Shared) (H':Hp) (kA:Array Value) (e:Nat),s'.heap.get? kS=some (seqObj "list" kA e)->s'.heap.get? a=some (seqObj "list" #[] e1)->H' kS=none->H' a=none->Inv X pins σ H' s'->Inv X (pins++[(kS,seqObj "list" kA e),(a,seqObj "list" #[] e1)]) σ H' s':=fun s' H' kA e g1 g2 g3 g4 J=>by
  refine J.pins_of fun x hx=>?_
  rcases fj.mp hx with z | z
  ·exact J.pin x (fh _ z)
  ·rcases gl.mp z with rfl | z
   ·exact ⟨g1,g3,kL,I.nofs lk,fun v z=>by cases z⟩
   ·rw [fc.mp z]
    exact ⟨g2,g4,aL,I.nofs la,fun v z=>by cases z⟩
 unfold ksk_rest
 refine wpAny_bind (wpAny_rule ?_)
 rw [<- Array.forIn_toList]
 simp only [List.toList_toArray]
 refine wpAny_bind (ksk_fold (fun i s'=>∃ H' kA e,Inv X (pins++[(kS,seqObj "list" kA e),(a,seqObj "list" #[] e1)]) σ H' s'/\R H'/\IntsAre kA.toList ((ns.map key).take i)) vs 0 _
  ⟨H,#[],0,aa _ _ _ _ ag av (I.hok.fresh lk) (I.hok.fresh la) I4,hR,by simpa using IntsAre.nil⟩ ?step ?done)
 case step =>
  rintro j x s' hx ⟨H',kA,e,J,ai,hk⟩
  simp only [Nat.zero_add] at hk |-
  have aw:j<vs.length:=(List.getElem?_eq_some_iff.mp hx).1
  obtain ⟨n,hn⟩:∃ n,ns[j]? = some n:=⟨_,List.getElem?_eq_getElem (by omega)⟩
  obtain ⟨u,hu,t,rfl⟩:=rv.get (i:=j) (x:= .int n) (by rw [List.getElem?_map,hn]; rfl)
  rw [hx] at hu
  cases hu
  have ay:kA.size<=vs.length:=by
   have y:=hk.length
   rw [ja,gh,d9] at y
   omega
  refine wpAny_bind (wpAny_attempt (wpAny_mono (turn _ s' H' n t (fm hn) J ai) (fun v h he=>?_) fun _ _ z=>z.elim))
  obtain ⟨v',H2,J2,r2,rfl,ar⟩:=he
  obtain ⟨t2,rfl⟩:=r2
  have gk:=J2.pin (kS,seqObj "list" kA e) (fh _ (fh _ (.head _)))
  have ga:=J2.pin (a,seqObj "list" #[] e1) (fh _ (fh _ (.tail _ (.head _))))
  obtain ⟨c2,am⟩:∃ c2,(h.heap.update kS (Obj.mapSeq (·.push (.int (key n) t2)))).get? kS=some (seqObj "list" (kA.push (.int (key n) t2)) c2):=⟨_,get?_update_seq gk.1 (·.push (.int (key n) t2))⟩
  refine wpAny_bind (listUpdate_at gk.1 rfl ?_ (by rw [sizeLine_eq]; omega) (gf (kn (Array.size_push ..)) (by rw [sizeLine_eq]; omega)))
  have ab:∀ b,b≠kS->(h.heap.update kS (Obj.mapSeq (·.push (.int (key n) t2)))).get? b=h.heap.get? b:=fun b hb=>Heap.get?_update_ne _ _ _ _ hb
  generalize h.heap.update kS (Obj.mapSeq (·.push (.int (key n) t2)))=h5 at am ab |-
  have J3:Inv X pins σ H2 { h with heap:=h5,toks:=h.toks }:=zym J2.unpinned ab gk.2.1 kL (gf I.sz lk) gk.1 (fun v z=>by cases z) fun x hx=>gc (fi (fw (I.pin x hx).1) lk)
  refine wpAny_pure ⟨rfl,H2,kA.push (.int (key n) t2),c2,aa _ _ _ _ am ((ab a al.symm).trans ga.1) gk.2.1 ga.2.1 J3,ar,?_⟩
  have ek:(ns.map key).take (j+1)=(ns.map key).take j++[key n]:=by rw [gq,List.getElem?_map,hn]; rfl
  rw [lr,ek]
  exact ksk_snoc hk
 case done =>
  rintro s' ⟨H',kA,e,J,ai,hk⟩
  have aq:IntsAre kA.toList (ns.map key):=by
   rw [ii (by rw [d9]; omega)] at hk
   exact hk
  have gk:=J.pin (kS,seqObj "list" kA e) (fh _ (fh _ (.head _)))
  have ga:=J.pin (a,seqObj "list" #[] e1) (fh _ (fh _ (.tail _ (.head _))))
  refine wpAny_bind (listItems_at gk.1 rfl ?_)
  refine z5_ ga.1 gk.1 al aq (by rw [d9]; exact aj.symm) (by omega) fun h' out kp ⟨c,hc⟩ ⟨o,ax⟩ ko=>⟨_,rfl,?_⟩
  have an:=zv5 hi hj ko
  have n2:∀ x∈X.pn++pins,x.1≠a/\x.1≠kS:=fun x hx=>have y:=fw (I.pin x hx).1; ⟨gc (fi y la),gc (fi y lk)⟩
  have J3:Inv X pins σ (upd H' a (.lst ((zks key ns).map V.int))) { s' with heap:=h',toks:=s'.toks }:=by
   have ak:∀ d od,s'.heap.get? d=some od->(∀ v,od.data≠ .cell v)->∀ x c,X.env.cells.lookup x=some c->c≠d:=fun d od hd hn x c e z=>by
    obtain ⟨v,oc,ao,ap⟩:=J.cell x c e
    rw [z,hd] at ao
    cases ao
    exact hn _ ap
   have up:∀ b u,H' b=some u->(upd H' a (.lst ((zks key ns).map V.int))) b=some u:=fun b u e=>by
    rw [zac (fun z=>by rw [z,ga.2.1] at e; cases e)]
    exact e
   have g:∀ b:Addr,b∉[a,kS]->b≠a/\b≠kS:=fun b hb=>⟨fun z=>hb (by simp [z]),fun z=>hb (by simp [z])⟩
   have trk:∀ b u,H' b=some u->b≠a/\b≠kS:=fun b u e=>⟨fun z=>by (rw [z,ga.2.1] at e; cases e),fun z=>by (rw [z,gk.2.1] at e; cases e)⟩
   refine J.unpinned.step (g':=s'.gens) (d':=s'.drawn) (ch:=[a,kS]) (fun b hb=>?_) (fun b o _ _ hb e _=>kp b o (g b hb).1 (g b hb).2 e) (fun b o _ _ hb e _=>⟨o.slots,kp b o (g b hb).1 (g b hb).2 e⟩) (fun b o hb e n=>by rw [zac (g b hb).1]; exact n)
    (fun b o hb e=>⟨o,kp b o (g b hb).1 (g b hb).2 e⟩) (fun b xs e=>up b _ e) (fun b o u e=>up b _ e) (fun b ps e=>⟨#[],by rw [up b _ e]; simp⟩) (fun m hm=>?_) (fun b u e=>?_) J.bare
   ·rcases gl.mp hb with rfl | hb
    ·exact ⟨.inr (gf I.sz la),aL,ak _ _ ga.1 (fun v z=>by cases z),fun x hx=>(n2 x hx).1⟩
    ·rw [fc.mp hb]
     exact ⟨.inr (gf I.sz lk),kL,ak _ _ gk.1 (fun v z=>by cases z),fun x hx=>(n2 x hx).2⟩
   ·obtain ⟨o,es,ep,ho,r⟩:=hm
    exact ⟨o,es,ep,kp _ o aL.symm kL.symm ho,r⟩
   ·by_cases hb:b=a
    ·subst hb
     rw [zad] at e
     cases e
     exact ⟨by rw [d9,zvv,sizeLine_eq]; omega,out.toList,c,ze8 an,hc⟩
    ·rw [zac hb] at e
     refine (J.hok b u e).stay (fun d v hd qd=>?_) (fun d qd=>up d _ qd) fun d xs qd=>up d _ qd
     have y:d≠a/\d≠kS:=by
      rcases hd with z | z
      ·rw [z]; exact trk b u e
      ·exact trk d _ z
     exact kp d v y.1 y.2 qd
  exact wpAny_pure ⟨_,rfl,.ref a,_,J3,rfl,q H' a ai ga.2.1 (I.hok.fresh la)⟩
end
structure ziq (name qual:Str)(params:Arguments)(body:Expr)(scope:Scope)(cells:List (Str × Addr))(fo:Obj)(clos:List (Str × Addr))(c':Addr):Prop where
 ob:∃ pm ctv,fo=kh name qual params body scope clos pm c' ctv
 sub:∀ x c,clos.lookup x=some c->cells.lookup x=some c
 free:∀ x c,clos.lookup x=some c->(x,NameKind.free)∈scope.names
 all:∀ y∈scope.names,y.2 = .free->∃ c,clos.lookup y.1=some c
 inj:∀ x y c,clos.lookup x=some c->clos.lookup y=some c->x=y
structure zy1 (H:Hp)(f:Addr)(name qual:Str)(params:Arguments)(body:Expr)(scope:Scope)(fr:List Str)(cv:List V)(fd:FuncData):Prop where
 ex:∃ fo cells clos c' oc k k',H f=some (.frz fo k)/\ziq name qual params body scope cells fo clos c'/\fo.data = .func fd/\fd.closure=clos/\fd.code = .ref c'/\H c'=some (.frz oc k')/\zcc oc qual /\
  ∀ (i:Nat) x v,fr[i]? = some x->cv[i]? = some v->∃ c,clos.lookup x=some c/\zez H c v
theorem zy1.same {H H':Hp}{f:Addr}{name qual:Str}{params:Arguments}{body:Expr}{scope:Scope}{fr:List Str}{cv:List V}{fd:FuncData}(x:zy1 H f name qual params body scope fr cv fd)(h:∀ a o k,H a=some (.frz o k)->H' a=some (.frz o k)) :
  zy1 H' f name qual params body scope fr cv fd:=by
 obtain ⟨fo,cells,clos,c',oc,k,k',e1,s,e2,e3,e4,e5,cs,hv⟩:=x.ex
 exact ⟨fo,cells,clos,c',oc,k,k',h _ _ _ e1,s,e2,e3,e4,h _ _ _ e5,cs,fun i y v a b=>let ⟨c,q,z⟩:=hv i y v a b; ⟨c,q,z.same fun o k=>h c o k⟩⟩
def z5r (cells:List (Str × Addr))(P:Addr)(name qual:Str)(params:Arguments)(body:Expr)(scope:Scope)(pos:Pos):TE:=fun σ H Q=>∃ ps,H P=some (.tbl ps)/\TriplesOk ps.toList /\
 ((codeAmong pos ps.toList=none/\∀ f c' fo oc clos,H f=none->H c'=none->f≠c'->f≠P->c'≠P->ziq name qual params body scope cells fo clos c'->zcc oc qual ->
   Q (.ref f) (upd (upd (upd H P (.tbl (ps ++ #[rawInt pos.line,rawInt pos.col,.ref c']))) c' (.frz oc (.own c'))) f (.frz fo (.own f)))) \/
  (∃ c' oc k,codeAmong pos ps.toList=some (.ref c')/\H c'=some (.frz oc k)/\zcc oc qual/\∀ f fo clos,H f=none->ziq name qual params body scope cells fo clos c'->Q (.ref f) (upd H f (.frz fo (.own f)))))
section
variable {X:Cx}
theorem ztm {params:Arguments}{body:Expr}{scope:Scope}{pos:Pos}{c P:Addr}(hcode:X.env.code = .ref c)(hC:PySem.W.CodeHd X.base c P)(hB:X.base.BuiltinsAt X.mg P)
  (hfr:∀ y∈scope.names,y.2 = .free->X.env.kindOf y.1=some .cell\/X.env.kindOf y.1=some .free)(hdef:defaultsOf params X.env=([],[]):=by rfl) :
  PE X (.Lambda params body scope pos) (z5r X.env.cells P "<lambda>" (X.env.qual ++ "<lambda>") params body scope pos):=by
 intro pins s σ H Q I h
 obtain ⟨ps,hP,ht,h⟩:=h
 obtain ⟨cl,g,ad,am,ai⟩:=zhe (scope:=scope) (env:=X.env) (fun y hy hf=>I.ok.has y.1 (hfr y hy hf))
 have ae:s.heap.get? P=some (n5 ps):=I.hok P _ hP
 have hg:s.heap.Ns mainGlobals X.mg:=I.ok.mod.glob.keeps I.bk
 have ar:mainGlobals≠P:=fun q=>by
  obtain ⟨o,es,ep,e,hd,_⟩:=hg
  rw [q,ae] at e
  cases e
  cases hd
 have ag:s.heap.BuiltinsAt X.mg P:=by
  obtain ⟨bm,o,a1,a2,a3,a4,a5,a6⟩:=hB
  exact ⟨bm,o,a1,a2,a3,a4,I.bk _ _ a5,a6⟩
 have al:∀ {ctv:Value} {c':Addr},ziq "<lambda>" (X.env.qual ++ "<lambda>") params body scope X.env.cells (kh "<lambda>" (X.env.qual ++ "<lambda>") params body scope cl ((X.mg "__name__").getD .none) c' ctv) cl c' :=
  fun {ctv c'}=>⟨⟨_,ctv,rfl⟩,ad,ai,am,fun x y d h1 h2=>I.ok.inj x y d (ad x d h1) (ad y d h2)⟩
 refine PySem.W.kla_eval hdef ?_
 rcases h with ⟨aa,h⟩ | ⟨c',oc,k,w,av,au,h⟩
 ·refine PySem.W.kla_makeFunction g I.ok.glob hg hcode (hC.keeps I.bk) ae ht aa ar ag fun c' ctv h' tk ap j ac ak ah=>?_
  obtain ⟨c2,oc,vs,t,e2,an,ao,aq⟩:=ak
  cases e2
  have i:H c'=none:=I.hok.fresh j
  have p:H h'.objs.size=none:=I.hok.fresh (gf j (ia ac))
  have n1:h'.objs.size≠c':=jj ac
  have n2:h'.objs.size≠P:=fun z=>by rw [z,hP] at p; cases p
  have n3:c'≠P:=fun z=>by rw [z,hP] at i; cases i
  have q:=h h'.objs.size c' _ oc cl p i n1 n2 n3 (al (ctv:=ctv)) ⟨vs,t,ao,aq⟩
  have l:∀ b,H b=none->b≠P:=fun b e z=>by rw [z,hP] at e; cases e
  have kp:∀ b o,b≠P->s.heap.get? b=some o->(h'.push (kh "<lambda>" (X.env.qual ++ "<lambda>") params body scope cl ((X.mg "__name__").getD .none) c' ctv)).get? b=some o:=fun b o hb e=>Heap.get?_push_of_some _ (ap b o hb e)
  have f:∀ b u,H b=some u->b≠P->(upd (upd (upd H P (.tbl (ps ++ #[rawInt pos.line,rawInt pos.col,.ref c']))) c' (.frz oc (.own c'))) h'.objs.size (.frz (kh "<lambda>" (X.env.qual ++ "<lambda>") params body scope cl ((X.mg "__name__").getD .none) c' ctv) (.own h'.objs.size))) b=some u:=fun b u e hb=>by
   rw [zac (zag e p),zac (zag e i),zac hb]
   exact e
  have I2:Inv X pins σ (upd (upd (upd H P (.tbl (ps ++ #[rawInt pos.line,rawInt pos.col,.ref c']))) c' (.frz oc (.own c'))) h'.objs.size (.frz (kh "<lambda>" (X.env.qual ++ "<lambda>") params body scope cl ((X.mg "__name__").getD .none) c' ctv) (.own h'.objs.size)))
    { s with heap:=h'.push (kh "<lambda>" (X.env.qual ++ "<lambda>") params body scope cl ((X.mg "__name__").getD .none) c' ctv),toks:=tk }:=by
   refine I.step (g':=s.gens) (d':=s.drawn) (ch:=[]) (fun _ z=>nomatch z) (fun b o _ _ _ e n=>kp b o (l b n) e) (fun b o _ _ _ e n=>⟨o.slots,kp b o (l b n) e⟩) (fun b o _ e n=>?_) (fun b o _ e=>?_)
    (fun b xs e=>f b _ e (fun z=>by rw [z,hP] at e; cases e)) (fun b o u e=>f b _ e (fun z=>by rw [z,hP] at e; cases e)) (fun b qs e=>?_) (fun m hm=>?_) (fun b u e=>?_) I.bare
   ·have lt:=fw e
    rw [zac (gc (fi lt (gf j (ia ac)))),zac (gc (fi lt j)),zac (l b n)]
    exact n
   ·by_cases hb:b=P
    ·exact ⟨_,by rw [hb]; exact Heap.get?_push_of_some _ ah⟩
    ·exact ⟨o,kp b o hb e⟩
   ·by_cases hb:b=P
    ·subst hb
     rw [hP] at e
     cases e
     exact ⟨_,by rw [zac n2.symm,zac n3.symm,zad]⟩
    ·exact ⟨#[],by rw [f b _ e hb]; simp⟩
   ·obtain ⟨o,es,ep,ho,r⟩:=hm
    exact ⟨o,es,ep,kp _ o (l _ I.free) ho,r⟩
   ·by_cases af:b=h'.objs.size
    ·subst af
     rw [zad] at e
     cases e
     exact ⟨Heap.get?_push_size _ rfl,_,Heap.get?_push_size _ rfl⟩
    ·rw [zac af] at e
     by_cases aj:b=c'
     ·subst aj
      rw [zad] at e
      cases e
      exact ⟨Heap.get?_push_of_some _ an,_,Heap.get?_push_of_some _ an⟩
     ·rw [zac aj] at e
      by_cases ab:b=P
      ·subst ab
       rw [zad] at e
       cases e
       exact Heap.get?_push_of_some _ ah
      ·rw [zac ab] at e
       refine (I.hok b u e).stay (fun d v hd qd=>kp d v ?_ qd) (fun d qd=>f d _ qd (fun z=>by rw [z,hP] at qd; cases qd)) fun d xs qd=>f d _ qd (fun z=>by rw [z,hP] at qd; cases qd)
       rcases hd with z | z
       ·rw [z]
        exact ab
       ·exact fun y=>by rw [y,hP] at z; cases z
  exact ⟨.ref h'.objs.size,_,I2,rfl,q⟩
 ·refine PySem.W.kla_makeFunctionHit g I.ok.glob hg hcode (hC.keeps I.bk) ae ht w ag fun ctv h' tk hk hsz=>?_
  have q:=h h'.objs.size _ cl (I.hok.fresh hsz) (al (ctv:=ctv))
  have I2:=I.laid (a:=h'.objs.size) (o:= .frz (kh "<lambda>" (X.env.qual ++ "<lambda>") params body scope cl ((X.mg "__name__").getD .none) c' ctv) (.own h'.objs.size)) (t':=tk)
   (h':=h'.push (kh "<lambda>" (X.env.qual ++ "<lambda>") params body scope cl ((X.mg "__name__").getD .none) c' ctv)) (fun b u e=>Heap.get?_push_of_some _ (hk b u e)) hsz ⟨Heap.get?_push_size _ rfl,_,Heap.get?_push_size _ rfl⟩
  exact ⟨.ref h'.objs.size,_,I2,rfl,q⟩
end
theorem zpw {cells:List (Str × Addr)}{P:Addr}{name qual:Str}{params:Arguments}{body:Expr}{scope:Scope}{pos:Pos}{Q:VK}{σ:St}{H:Hp}(T:Tab H P pos qual)
  (k:∀ f H' fo clos c' oc k1 k2,(∀ b o,b≠P->H b=some o->H' b=some o)->Tab H' P pos qual->H f=none->H' f=some (.frz fo k1)->ziq name qual params body scope cells fo clos c'->H' c'=some (.frz oc k2)->zcc oc qual ->
   Q (.ref f) H'):z5r cells P name qual params body scope pos σ H Q:=by
 obtain ⟨ps,hP,ht,z⟩:=T
 refine ⟨ps,hP,ht,?_⟩
 rcases z with z | ⟨c',oc,k0,z1,z2,z3⟩
 ·refine .inl ⟨z,fun f c' fo oc clos hf hc n1 n2 n3 sh cs=>?_⟩
  refine k f _ fo clos c' oc _ _ (fun b o hb e=>?_) ⟨_,by rw [zac n2.symm,zac n3.symm,zad],?_,.inr ⟨c',oc,_,?_,by rw [zac n1.symm,zad],cs⟩⟩ hf zad sh (by rw [zac n1.symm,zad]) cs
  ·rw [zac (zag e hf),zac (zag e hc),zac hb]
   exact e
  ·rw [jt]
   exact zgk rfl rfl ht
  ·rw [jt]
   exact codeAmong_snoc _ ht z
 ·refine .inr ⟨c',oc,k0,z1,z2,z3,fun f fo clos hf sh=>?_⟩
  refine k f _ fo clos c' oc _ _ (fun b o _ e=>by rw [zac (zag e hf)]; exact e) ⟨ps,by rw [zac (zag hP hf)]; exact hP,ht,.inr ⟨c',oc,k0,z1,by rw [zac (zag z2 hf)]; exact z2,z3⟩⟩ hf zad sh (by rw [zac (zag z2 hf)]; exact z2) z3
def RLm (name qual:Str)(params:Arguments)(body:Expr)(scope:Scope)(_:Addr)(fd:FuncData):Prop:=∃ clos pm c' ct,fd=n6 name qual params body scope clos pm (.ref c') ct
theorem zq4 {name qual:Str}{params:Arguments}{body:Expr}{scope:Scope}{cells clos:List (Str × Addr)}{fo oc:Obj}{c' f:Addr}{k1 k2:HO}{H':Hp}{fr:List Str}{cv:List V}(sh:ziq name qual params body scope cells fo clos c')
  (hf:H' f=some (.frz fo k1))(hc':H' c'=some (.frz oc k2))(cs:zcc oc qual)(hfr:∀ (i:Nat) x v,fr[i]? = some x->cv[i]? = some v->(x,NameKind.free)∈scope.names/\∃ c,cells.lookup x=some c/\zez H' c v) :
  ∃ fd,fo.data = .func fd/\RLm name qual params body scope f fd/\zy1 H' f name qual params body scope fr cv fd:=by
 obtain ⟨pm,ctv,a⟩:=id sh.ob
 have hd:fo.data = .func (n6 name qual params body scope clos pm (.ref c') ctv):=by rw [a]
 refine ⟨_,hd,⟨clos,pm,c',ctv,rfl⟩,⟨fo,cells,clos,c',oc,k1,k2,hf,sh,hd,rfl,rfl,hc',cs,fun i x v h1 h2=>?_⟩⟩
 obtain ⟨hx,c,hc,hv⟩:=hfr i x v h1 h2
 obtain ⟨c2,e2⟩:=sh.all (x,.free) hx rfl
 have e3:=sh.sub x c2 e2
 rw [hc] at e3
 cases e3
 exact ⟨c,e2,hv⟩
section
variable {P:Program} {w:World} {K:W.Frag} {mg:Str->Option Value} {base:Heap}
theorem zu1 {k:Nat}{f:Addr}{name qual:Str}{params:Arguments}{body:Expr}{scope:Scope}{fd:FuncData}{N ps fr:List Str}{sp:List V->Sp}(S:zg4 N ps fr scope)
  (len:∀ cv vs H Q E,sp cv vs H Q E->vs.length=ps.length)
  (hbody:∀ (clos:List (Str × Addr)) (cdv:Value) (A:Around) (outer:List Env) (s:Shared) (H:Hp) (cv vs:List V) (Q:VK) (E:XK),zed k (A.deeper (zn9 qual scope clos s.heap.objs.size f cdv))->cv.length=fr.length->sp cv vs H Q E ->
   ∃ t,PE (zqh P w K mg base N qual scope clos f cdv A outer s H) body t/\t ((vs++cv).map some++jx (N.length - (ps++fr).length) none) H Q) :
  zc_ P w K mg base CX0 (k+1) f fd ps (fun vs H Q E=>∃ cv,cv.length=fr.length/\zy1 H f name qual params body scope fr cv fd/\sp cv vs H Q E):=by
 refine ⟨fun vs H Q E h=>let ⟨cv,_,_,q⟩:=h; len cv vs H Q E q,fun A outer s H args us vs Q E hr e0 hb r g=>?_⟩
 obtain ⟨cv,m,FV,g⟩:=g
 obtain ⟨fo,cells,clos,c',oc,k1,k2,e1,SH,e2,e3,e4,e5,cs,hv⟩:=FV.ex
 obtain ⟨pm,ctv,ab⟩:=SH.ob
 have hl:=len _ _ _ _ _ g
 have ah:us.length=ps.length:=by rw [<- hl]; exact r.length.symm
 have aa:s.heap.NoLimit:=e0.mod.nolimit.keeps fun b o e=>(e0.bs b o e).1
 obtain ⟨hf,_⟩:=e0.hok f _ e1
 obtain ⟨hc,_⟩:=e0.hok c' _ e5
 have ad:fd=n6 name qual params body scope clos pm (.ref c') ctv:=by
  have z:Data.func fd=Data.func (n6 name qual params body scope clos pm (.ref c') ctv):=by rw [<- e2,ab]
  exact Data.func.inj z
 obtain ⟨ae,t1,q1,q2⟩:=cs
 subst ad
 have n:ps.Nodup:=by
  have z:(ps++fr).Nodup:=by rw [<- S.pre]; exact S.nd.sublist (jy _ _)
  exact (jg.mp z).1
 have ag:(ps++fr).length<=N.length:=by have:=congrArg km S.pre; rw [gh] at this; omega
 refine PySem.W.kla_callFunE hr.depth hf e2 S.co S.gen rfl ⟨c',oc,ae,t1,rfl,hc,q1,q2⟩ (hb _ _ _ _ ?_)
 refine wpAny_newFunctionEnv S.nocell (fun y hy=>S.par y.1 (jq hy).1) (fun h1 ac af=>?_) S.kind
 have kp:∀ b o,s.heap.get? b=some o->h1.get? b=some o:=fun b o e=>(af.2 b (gc (fw e))).trans (Heap.get?_push_of_some _ e)
 refine ⟨aa.keeps kp,PySem.W.kla_codeExpr ?_⟩
 obtain ⟨t,ht,hq⟩:=hbody clos (.ref c') A outer s H cv vs Q E (hr.deeper _) m g
 have l:∀ b:Addr,b∉(zqh P w K mg base N qual scope clos f (.ref c') A outer s H).ex:=fun b z=>absurd (show b∈([]:List Addr) from z) (by simp)
 have d:∀ x c,clos.lookup x=some c->∃ v,zez H c v:=fun x c e=>by
  have hx:=S.allfr _ (SH.free x c e) rfl
  obtain ⟨i,hi⟩:=List.getElem?_of_mem hx
  have:i<cv.length:=by rw [m]; exact (List.getElem?_eq_some_iff.mp hi).1
  obtain ⟨c2,z1,z2⟩:=hv i x cv[i] hi (by simp [this])
  rw [e] at z1
  cases z1
  exact ⟨_,z2⟩
 have I:Inv (zqh P w K mg base N qual scope clos f (.ref c') A outer s H) [] ((vs++cv).map some++jx (N.length - (ps++fr).length) none) H { s with heap:=h1,toks:=s.toks+(ps.zip us).length }:=by
  refine ⟨⟨e0.mod,S.kind,rfl,rfl,gd _,SH.inj,fun y hy=>?_,fun y c z=>fT z,fun _=>hr.hd,ku e0.frames,.inr ⟨rfl,rfl⟩,fun b z=>absurd z (l b),e0.bs,e0.bsz,fun b _ _=>l b,fun b z=>absurd z (l b),e0.funs,e0.frf⟩,
   rfl,e0.bare,Un.kept kp,⟨_,ac,fun i y v g1 g2 g3=>?_⟩,fun y c e=>?_,e0.hok.fresh (gd _),fun y c e=>?_,fun p hp=>absurd (show p∈([]:List (Addr × Obj)) from hp) (by simp),e0.hok.kept kp,?_⟩
  ·have hy:scope.names.lookup y=some .cell\/scope.names.lookup y=some .free:=hy
   rcases hy with z | z
   ·exact absurd rfl (S.nocell _ (PySem.mem_of_lookup z))
   ·exact SH.all _ (PySem.mem_of_lookup z) rfl
  ·have g1:N[i]? = some y:=g1
   have hi:i<(vs++cv).length:=by
    by_cases hi:i<(vs++cv).length
    ·exact hi
    ·rw [List.getElem?_append_right (by simpa using hi),List.getElem?_replicate] at g2
     split at g2 <;> cases g2
   rw [List.getElem?_append_left (by simpa using hi),List.getElem?_map] at g2
   have j:(vs++cv)[i]? = some v:=by
    cases q:(vs++cv)[i]? with
    | none=>rw [q] at g2; cases g2
    | some z=>rw [q] at g2; cases g2; rfl
   have a:(ps++fr)[i]? = some y:=by
    rw [<- S.pre,List.getElem?_take_of_lt (by rw [fe] at hi |-; omega)]
    exact g1
   by_cases hp:i<ps.length
   ·rw [List.getElem?_append_left hp] at a
    rw [List.getElem?_append_left (by omega)] at j
    obtain ⟨u,hu,ru⟩:=r.get j
    exact ⟨u,ru,.inl ⟨S.par y (fm a),zhf (us:=us) n a hu⟩⟩
   ·rw [List.getElem?_append_right (by omega)] at a
    rw [List.getElem?_append_right (by omega)] at j
    obtain ⟨c,z1,o,u,k,z2,z3,z4⟩:=hv (i - ps.length) y v a (by rw [<- hl]; exact j)
    obtain ⟨z5,_⟩:=e0.hok c _ z2
    exact ⟨u,z4,.inr ⟨.inr (S.fre y (fm a)),c,z1,o,kp _ _ z5,z3⟩⟩
  ·obtain ⟨v,o,u,k,z2,z3,z4⟩:=d y c e
   obtain ⟨z5,_⟩:=e0.hok c _ z2
   exact ⟨_,o,kp _ _ z5,z3⟩
  ·obtain ⟨v,o,u,k,z2,_⟩:=d y c e
   exact ⟨fun z=>fT z,.inr ⟨o,k,z2⟩⟩
  ·show _=N.length
   have z1:(ps++fr).length=ps.length+fr.length:=fe
   rw [fe,d9,jh,fe]
   omega
 exact wpAny_mono (ht [] _ _ H _ I hq) (fun u s' ⟨v,H',J,rv,q⟩=>⟨v,H',J.os,J.bare,J.base,J.hok,rv,q⟩) fun e s' hs=>hs.elim
end
def z24 (K:W.Frag)(Rr:Addr->FuncData->Prop)(sp:Addr->FuncData->Sp)(te tl:TE):TE:=fun σ H Q=>zl1 te zzi σ H fun vs H1=>zl1 tl zzi σ H1 fun zs H2=>∃ (p f:Addr) (fd:FuncData) (ns:List Int) (key:Int->Int),vs=[.ref p]/\zs=[.ref f]/\SqL K H2 p (ns.map V.int)/\ns.length<64 /\
 (∀ x∈ns,∀ y∈ns,key x=key y->x=y)/\Rr f fd/\(∀ n∈ns,∀ Q':VK,Q' (.int (key n)) H2->sp f fd [.int n] H2 Q' E0)/\∀ l,H2 l=none->Q (.ref l) (upd H2 l (.lst ((zks key ns).map V.int)))
theorem zyj {X:Cx}{x:Str}{e lam:Expr}{te tl:TE}{p pos kpos:Pos}{k:Nat}{ps:List Str}{Rr:Addr->FuncData->Prop}{sp:Addr->FuncData->Sp}(hg:Gl X x)(hm:X.mg x=none)(hv:bootBuiltins x=some (.builtin "sorted"))(G:∀ f fd,Rr f fd->zc_ X.prog X.w X.K X.mg X.base CX0 k f fd ps (sp f fd))(hb:∀ f fd,Rr f fd->zci X.K fd ps [])
  (hr:zed (k+2) X.A)(he:PE X e te)(hl:PE X lam tl)(hn:x≠ "__name__" :=by decide)(hdb:(x == ("__debug__" : Str))=false:=by decide)(hs:starEach [e] X.env=[(false,eval e X.env)]:=by rfl) :
  PE X (.Call (.Name x p) [e] [⟨some "key",lam,kpos⟩] pos) (z24 X.K Rr sp te tl):=by
 intro pins s σ H Q I h
 refine wpAny_Call_Name_kw (zmo I hg hm hv ?_ hn hdb)
 refine callWith_kw (thn (zaa he zab hs pos pins s σ H _ I h) fun us s1 ⟨vs,H1,I1,r1,q1⟩=>?_) (by rw [hs]; rfl) (by rw [hs]; rfl) rfl rfl
 ·refine thn (z06 hl z2u pos pins s1 σ H1 _ I1 q1) fun ws s2 ⟨zs,H2,I2,rz,a,f,fd,ns,g,e1,e2,hq,d,hj,hR,c,q⟩=>?_
  subst e1 e2
  obtain ⟨v',rfl,rv⟩:=zkr r1
  obtain ⟨u',rfl,ru⟩:=zkr rz
  cases (show v'=Value.ref a from rv)
  cases (show u'=Value.ref f from ru)
  show wpAny _ _ (call (.builtin "sorted") [.ref a] [(Str.ofString "key",.ref f)]) _ _ _
  refine zs_ (R:=fun H'=>H'=H2) I2 hq d hj rfl (fun pl s' H' n t hn J e=>?_) (fun H' l e hl _=>by subst e; exact q l hl)
  subst e
  have F:=G f fd hR
  have b:=c n hn (fun v H2=>v = .int (g n)/\H2=H') ⟨rfl,rfl⟩
  refine wpAny_call (codeAny_mono (F.run X.A.in1.in1 X.stack s' H' ⟨[.int n t],[]⟩ [.int n t] [.int n] _ E0 hr.in1.in1 J.env0.in1.in1 (by have y:=hb f fd hR s' [.int n t] J.kIn (by rw [j6]; exact F.len _ _ _ _ b); rw [j6] at y; exact y) (.cons ⟨t,rfl⟩ .nil) b) fun r i hq=>?_)
  cases r with
  | error e=>exact False.elim hq
  | ok fl =>
   cases fl with
   | ret u=>exact J.after hq
   | next=>exact False.elim hq
   | brk=>exact False.elim hq
   | cont=>exact False.elim hq
section
variable {X:Cx}
def z5z (K:W.Frag):List V->Hp->VK->Prop:=fun xs H Q=>∃ (p:Addr) (bs:List Bool),xs=[.ref p]/\SqL K H p (bs.map V.bl)/\Q (.bl (bs.all id)) H
theorem zrj (hc:X.calm=true):zjt X (.builtin "all") (z5z X.K):=by
 intro pins s σ H xs us Q I r h
 obtain ⟨p,bs,rfl,hq,q⟩:=h
 obtain ⟨u,rfl,ru⟩:=zkr r
 cases (show u=Value.ref p from ru)
 obtain ⟨its,rv,pl,hz⟩:=I.list hq
 have c:its.length=bs.length:=by
  have:=rv.length
  rw [d9] at this
  exact this.symm
 refine call_all_walk (wpAny_pyIter_list pl.isList ?_)
 have f:p≠s.heap.objs.size:=gc pl.lt
 refine ⟨s.heap.objs.size,_,_,_,_,_,fun i=>bs.getD i true,rfl,Walks.list (A:=X.A.in1) (by exact I.ok.hd hc) s.heap.objs.size p f its.toArray,⟨⟨_,Heap.get?_push_size _ rfl,rfl,rfl⟩,pl.isList.push _⟩,fun i v s' Q' E' hv a=>?_,fun h' tk kk=>?_⟩
 ·have d:its[i]? = some v:=by simpa using hv
  have hi:i<bs.length:=by
   have:=(List.getElem?_eq_some_iff.mp d).1
   omega
  obtain ⟨u,hu,ru⟩:=rv.get (i:=i) (x:= .bl bs[i]) (by simp [hi])
  rw [d] at hu
  cases hu
  cases (show v=Value.bool bs[i] from ru)
  replace a:Q' (bs.getD i true) s':=a
  rw [show bs.getD i true=bs[i] by simp [hi]] at a
  exact wpAny_truthy_bool a
 ·refine ⟨.bl (bs.all id),H,I.kept (t':=tk) (fun b o e=>kk b o (fun z=>?_) (Heap.get?_push_of_some _ e)),?_,q⟩
  ·rw [fc.mp z] at e
   exact absurd (fw e) (io _)
  ·show Value.bool _=Value.bool _
   congr 1
   rw [fq,c,Bool.eq_iff_iff,iz,iz]
   constructor
   ·intro y x hx
    obtain ⟨i,hi⟩:=List.getElem?_of_mem hx
    have hl:=(List.getElem?_eq_some_iff.mp hi).1
    have z:=y i (jc.mpr hl)
    simpa [hi] using z
   ·intro y i hi
    have hl:=jc.mp hi
    have z:=y bs[i] (j4 hl)
    simpa [hl] using z
end
def CXR (P:Program)(w:World):CXT:=fun outer H s E ev s'=>∃ (e t:Addr) (C:Value) (B:Heap) (vs:List Value) (H':Hp),ev = .ref e/\s'.os=s.os/\AllBare s'.gens/\Un (frs outer) [] H H' s.heap s'.heap/\HOk P w H' s'.heap /\
 Heap.FlyingW B outer e C (.ref t) s'.heap/\s'.heap.TupAt t vs/\B.get? t=none/\(∀ b o,s'.heap.get? b=some o->(∃ o0,s.heap.get? b=some o0)\/H' b≠none->b∉frs outer->B.get? b=some o)/\H' e=none/\E C none H'
theorem zni {P:Program}{w:World}{H:Hp}{h:Heap}:∀ {o:HO} {a:Addr},zcl P w H h a o->∃ ob,h.get? a=some ob
 | .lst _,_,x=>let ⟨_,_,_,_,z⟩:=x; ⟨_,z⟩
 | .tup _,_,x=>let ⟨_,_,_,o,z,_⟩:=x; ⟨o,z⟩
 | .dK _,_,x=>by
  obtain ⟨_,_,_,_,o,es,ep,z,_⟩:=x
  exact ⟨o,z⟩
 | .dT _,_,x=>by
  obtain ⟨_,_,_,_,o,es,ep,z,_⟩:=x
  exact ⟨o,z⟩
 | .set _ _,_,x=>by
  obtain ⟨o,_,_,_,z,_⟩:=x
  exact ⟨o,z⟩
 | .ins _ _ _,_,x=>let ⟨_,_,_,z,_⟩:=x; ⟨_,z⟩
 | .own _,_,x=>x
 | .xd _,_,x=>by
  obtain ⟨_,⟨o,es,ep,z,_⟩,_⟩:=x
  exact ⟨o,z⟩
 | .rng _ _,_,x=>let ⟨_,_,_,z⟩:=x; ⟨_,z⟩
 | .frz o u,_,x=>⟨o,x.1⟩
 | .tbl _,_,x=>⟨_,x⟩
 | .met _ _,_,x=>⟨_,x⟩
 | .ext _,_,x=>x.2.1
section
variable {P:Program} {w:World} {K:W.Frag} {mg:Str->Option Value} {base:Heap} {N:List Str} {qual:Str} {scope:Scope} {f:Addr} {cd:Value} {A:Around} {outer:List Env} {s0:Shared} {H0:Hp} {E:XK} {fn:Str->Bool}
theorem zjm {pins:List (Addr × Obj)}{σ:St}{H:Hp}{s:Shared}{h':Heap}{e:Addr}{C:Value}{vs:List Value}(I:Inv (zn0 (CXR P w) P w K mg base N qual scope f cd A outer s0 H0 E fn) pins σ H s)(hx:Heap.MadeExcOf s.heap h' e C vs)(q:E C none H) :
  (zn0 (CXR P w) P w K mg base N qual scope f cd A outer s0 H0 E fn).xe (.ref e) { s with heap:=h' }:=by
 have l:s.heap.FunFrames base (envOfC qual scope s0.heap.objs.size f cd :: outer):=I.stack
 have aa:∀ env∈(envOfC qual scope s0.heap.objs.size f cd :: outer),∀ b,env.frame=some b->b∈frs (envOfC qual scope s0.heap.objs.size f cd :: outer):=fun env he b hb=>gx.mpr ⟨env,he,hb⟩
 have r:∀ b,b∈frs outer->b∈frs (envOfC qual scope s0.heap.objs.size f cd :: outer):=fun b hb=>by
  obtain ⟨env,he,hf⟩:=gx.mp hb
  exact gx.mpr ⟨env,.tail _ he,hf⟩
 have a:∀ b,b∈frs (envOfC qual scope s0.heap.objs.size f cd :: outer)->b∉frs outer->b=s0.heap.objs.size:=fun b hb hn=>by
  obtain ⟨env,he,hf⟩:=gx.mp hb
  rcases gl.mp he with rfl | he
  ·exact (Option.some.inj hf).symm
  ·exact absurd (gx.mpr ⟨env,he,hf⟩) hn
 have free:∀ b∈frs (envOfC qual scope s0.heap.objs.size f cd :: outer),H b=none:=I.stkFree
 show wpAny (model P w) _ (leaving _ (.ref e)) (fun _ m=>CXR P w outer H0 s0 E (.ref e) m) _ { s with heap:=h' }
 refine wpAny_leaves_madeW (base:=mh s.heap (frs (envOfC qual scope s0.heap.objs.size f cd :: outer))) (h:=s.heap) I.ok.frames rfl (fun b o z=>mw _ z) (PySem.W.funFrames_hide l aa) hx fun h2 t fl tp bt up=>?_
 have j:∀ b o,s.heap.get? b=some o->b∉frs (envOfC qual scope s0.heap.objs.size f cd :: outer)->(mh s.heap (frs (envOfC qual scope s0.heap.objs.size f cd :: outer))).get? b=some o:=fun b o z hn=>mj _ z hn
 have kp:∀ b o,s.heap.get? b=some o->b∉frs (envOfC qual scope s0.heap.objs.size f cd :: outer)->h2.get? b=some o:=fun b o z hn=>fl.1 b o (j b o z hn)
 have g:∀ b o,s0.heap.get? b=some o->b≠s0.heap.objs.size:=fun b o z=>gc (fw z)
 have ub:=I.base
 have en:H e=none:=by
  cases z:H e with
  | none=>rfl
  | some u =>
   obtain ⟨ob,y⟩:=zni (I.hok e u z)
   rw [hx.new] at y
   cases y
 refine ⟨e,t,C,_,vs,H,rfl,I.os,I.bare,?_,?_,fl,tp,bt,fun b o z hb hn=>?_,en,q⟩
 ·have i:∀ b o,s.heap.get? b=some o->b∈frs (envOfC qual scope s0.heap.objs.size f cd :: outer)->∃ sl,h2.get? b=some { o with slots:=sl }:=fun b o z hb=>by
   obtain ⟨_,o1,z1,hd⟩:=l.mem hb
   rw [z] at z1
   cases z1
   exact up b o (hx.keeps b o z) hd
  refine ⟨fun b o z n hb _=>?_,fun b o z n hb _=>?_,fun b o z n hx=>ub.free b o z n hx,fun b o z p=>?_,ub.tups,ub.frzs,ub.tbls⟩
  ·exact kp b o (ub.keep b o z n hb (show b∉([]:List Addr) from gi)) fun y=>g b o z (a b y hb)
  ·obtain ⟨sl,z1⟩:=ub.slot b o z n hb (show b∉([]:List Addr) from gi)
   obtain ⟨x,z2⟩:=i b _ z1 (r b hb)
   exact ⟨x,z2⟩
  ·obtain ⟨o1,z1⟩:=ub.there b o z p
   by_cases hb:b∈frs (envOfC qual scope s0.heap.objs.size f cd :: outer)
   ·obtain ⟨sl,z2⟩:=i b o1 z1 hb
    exact ⟨_,z2⟩
   ·exact ⟨o1,kp b o1 z1 hb⟩
 ·exact fun b u z=>(I.hok b u z).stay (fun d v hd y=>kp d v y (fun y2=>by
   have n:=free d y2
   rcases hd with hd | hd
   ·rw [hd,z] at n; cases n
   ·rw [hd] at n; cases n)) (fun _ y=>y) fun _ _ y=>y
 ·have c:∀ o1,s.heap.get? b=some o1->b∉frs (envOfC qual scope s0.heap.objs.size f cd :: outer)->(mh s.heap (frs (envOfC qual scope s0.heap.objs.size f cd :: outer))).get? b=some o:=fun o1 z1 hb=>by
   have z2:=kp b o1 z1 hb
   rw [z] at z2
   cases z2
   exact j b o z1 hb
  rcases hb with ⟨o0,hb⟩ | hb
  ·obtain ⟨o1,z1⟩:=ub.there b o0 hb (show b∉([]:List Addr) from gi)
   exact c o1 z1 fun y=>g b o0 hb (a b y hn)
  ·cases z1:H b with
   | none=>exact absurd z1 hb
   | some u =>
    obtain ⟨o1,z2⟩:=zni (I.hok b u z1)
    exact c o1 z2 fun y=>by
     have n:=free b y
     rw [z1] at n
     cases n
end
abbrev bmV:List Value:=[.type "ValueError",.type "Exception",.type "BaseException",.type "object"]
structure DfE (K:W.Frag)(mg:Str->Option Value)(x:Str) where
 C:Addr
 hm:mg x=some (.ref C)
 ex:PySem.W.excIn K C bmV "ValueError.__new__" = true
theorem zq0 {K:W.Frag}{h:Heap}{C:Addr}{bmB:List Value}{newId:String}(X:K.In h)(q:PySem.W.excIn K C bmB newId=true) :
  ∃ bm N nm qn bs hdct sn sub ab col dd k0 k1 k2 k3 k5 mN,h.get? C=some (excClassObj nm qn C N bs bm hdct sn sub ab col dd k0 k1 k2 k3 k5 newId)/\h.Ns N mN/\mN "__init__" = none/\OwnTail h bmB bm:=by
 unfold PySem.W.excIn at q
 split at q
 ·rename_i dd cd sl ho
  split at q
  ·rename_i C1 bm k0 k1 k2 k3 n k5 hm hs
   simp only [ic,beq_iff_eq,jm] at q
   obtain ⟨⟨⟨⟨⟨e1,e2⟩,a⟩,ht⟩,hok⟩,b⟩:=q
   subst e1 e2
   obtain ⟨nm,bs,mro,ns,qn,hd,sn,sub,ab,col,c⟩:=cd
   dsimp only at hm a hok b
   subst hm a
   obtain ⟨l⟩:=sl
   simp only at hs
   subst hs
   exact ⟨bm,ns,nm,qn,bs,hd,sn,sub,ab,col,dd,k0,k1,k2,k3,k5,_,X _ _ ho,.of_isNs (PySem.W.isNs_of_in X hok),PySem.W.nsMap_none_of_in X hok b,PySem.W.tail_of_in X ht⟩
  ·cases q
 ·cases q
def z2d (W:Hp->Prop)(t:TA):TS:=fun D σ H=>t σ H fun vs H1=>vs.length<=sizeLine/\W H1
theorem zds {X:Cx}{x:Str}{np cpos pos:Pos}{e:Expr}{es:List Expr}{t:TA}{W:Hp->Prop}(D:DfE X.K X.mg x)(hg:Gl X x)(hc:X.calm=true)(ha:PA X (e :: es) t)
  (hxe:∀ (pins:List (Addr × Obj)) (σ:St) (H:Hp) (s:Shared) (h':Heap) (ea:Addr) (vs:List Value),Inv X pins σ H s->Heap.MadeExcOf s.heap h' ea (.ref D.C) vs->W H->X.xe (.ref ea) { s with heap:=h' })
  (hs:starEach (e :: es) X.env=(false,eval e X.env) :: starEach es X.env:=by rfl)(hpl:(backTo cpos (starEach es X.env)).any (·.1)=false:=by rfl)(hdb:(x == ("__debug__" : Str))=false:=by decide) :
  PS X (.Raise (some (.Call (.Name x np) (e :: es) [] cpos)) none pos) (z2d W t):=by
 intro pins s σ H D' I h
 obtain ⟨bm,N,nm,q,bs,hdct,sn,sub,ab,col,dd,k0,k1,k2,k3,k5,mN,hC,hN,a,T⟩:=zq0 I.ok.mod.kin D.ex
 refine wpAny_Raise_call_subU (C:=D.C) (nm:=nm) (q:=q) (N:=N) (bs:=bs) (bm:=bm) (hdct:=hdct) (sn:=sn) (sub:=sub) (ab:=ab) (col:=col) (dd:=dd) (k0:=k0) (k1:=k1) (k2:=k2) (k3:=k3) (k5:=k5)
  jb (bmB:=bmV) (by decide +kernel) jb (mN:=mN) (T.hasType jb.hasBase) (I.ok.hd hc) (by rw [hs]; show (false || (backTo cpos (starEach es X.env)).any (·.1))=false; rw [hpl]; rfl) a (zis I hg D.hm ⟨rfl,?_⟩ hdb)
 have A1:=ha cpos pins s σ H _ I h
 rw [hs] at A1 |-
 refine Calls.evalArgs_plain (wpAny_mono A1 (fun us s2 h2=>?_) fun _ _ y=>y)
 obtain ⟨vs,H1,I1,r,hz,hw⟩:=h2
 exact ⟨rfl,by rw [<- r.length]; exact hz,I1.bk _ _ hC,hN.keeps I1.bk,T.keeps I1.bk,fun h' ea hm=>hxe pins σ H1 s2 h' ea us I1 hm hw⟩
section
variable {P:Program} {w:World} {K:W.Frag} {mg:Str->Option Value} {base:Heap} {N:List Str} {qual:Str} {scope:Scope} {f:Addr} {cd:Value} {A:Around} {outer:List Env} {s0:Shared} {H0:Hp} {E:XK} {fn:Str->Bool}
theorem ztt {pins:List (Addr × Obj)}{σ:St}{H:Hp}{s:Shared}{ev:Value}{s':Shared}(I:Inv (zn0 (CXR P w) P w K mg base N qual scope f cd A outer s0 H0 E fn) pins σ H s)(R:CXR P w (envOfC qual scope s0.heap.objs.size f cd :: outer) H s E ev s') :
  (zn0 (CXR P w) P w K mg base N qual scope f cd A outer s0 H0 E fn).xe ev s':=by
 obtain ⟨e,t,C,B,vs,H',rfl,os,bare,un,hok,fl,tp,bt,p,en,q⟩:=R
 have ab:s.heap.FunFrames base (envOfC qual scope s0.heap.objs.size f cd :: outer):=I.stack
 have l:∀ b,b∈frs outer->b∈frs (envOfC qual scope s0.heap.objs.size f cd :: outer):=fun b hb=>by
  obtain ⟨env,he,hf⟩:=gx.mp hb
  exact gx.mpr ⟨env,.tail _ he,hf⟩
 have a:∀ b,b∈frs (envOfC qual scope s0.heap.objs.size f cd :: outer)->b∉frs outer->b=s0.heap.objs.size:=fun b hb hn=>by
  obtain ⟨env,he,hf⟩:=gx.mp hb
  rcases gl.mp he with rfl | he
  ·exact (Option.some.inj hf).symm
  ·exact absurd (gx.mpr ⟨env,he,hf⟩) hn
 have free:∀ b∈frs (envOfC qual scope s0.heap.objs.size f cd :: outer),H' b=none:=fun b hb=>by
  obtain ⟨_,o,ho,_⟩:=ab.mem hb
  exact un.free b o ho (I.stkFree b hb) gi
 have j:∀ b o,s0.heap.get? b=some o->b≠s0.heap.objs.size:=fun b o z=>gc (fw z)
 have ub:Un (frs outer) [] H0 H s0.heap s.heap:=I.base
 have x:=fl.2.2.1
 show wpAny (model P w) _ (leaving _ (.ref e)) (fun _ r=>CXR P w outer H0 s0 E (.ref e) r) _ s'
 refine wpAny_leaves_onW I.ok.frames rfl fl fun h2 g up=>?_
 have m:∀ b o,s'.heap.get? b=some o->b∈frs (envOfC qual scope s0.heap.objs.size f cd :: outer)->∃ sl,h2.get? b=some { o with slots:=sl }:=fun b o z hb=>by
  obtain ⟨_,o1,z1,hd⟩:=x.mem hb
  rw [z] at z1
  cases z1
  exact up b o z hd
 have kp:∀ b o,s'.heap.get? b=some o->(∃ o0,s.heap.get? b=some o0)\/H' b≠none->b∉frs (envOfC qual scope s0.heap.objs.size f cd :: outer)->h2.get? b=some o:=fun b o z h hn=>g.1 b o (p b o z h hn)
 refine ⟨e,t,C,B,vs,H',rfl,os.trans I.os,bare,?_,?_,g,tp.of_slots up,bt,fun b o z hb hn=>?_,en,q⟩
 ·refine ⟨fun b o z n hb _=>?_,fun b o z n hb _=>?_,fun b o z n hx=>?_,fun b o z i=>?_,fun b xs z=>un.tups b xs (ub.tups b xs z),fun b o u z=>un.frzs b o u (ub.frzs b o u z),fun b ps z=>?_⟩
  ·have z1:=ub.keep b o z n hb gi
   have hn:b∉frs (envOfC qual scope s0.heap.objs.size f cd :: outer):=fun y=>j b o z (a b y hb)
   exact kp b o (un.keep b o z1 (ub.free b o z n gi) hn gi) (.inl ⟨o,z1⟩) hn
  ·obtain ⟨sl,z1⟩:=ub.slot b o z n hb gi
   obtain ⟨ac,z2⟩:=un.slot b _ z1 (ub.free b o z n gi) (l b hb) gi
   obtain ⟨aa,z3⟩:=m b _ z2 (l b hb)
   exact ⟨aa,z3⟩
  ·obtain ⟨o1,z1⟩:=ub.there b o z hx
   exact un.free b o1 z1 (ub.free b o z n hx) hx
  ·obtain ⟨o1,z1⟩:=ub.there b o z i
   obtain ⟨o2,z2⟩:=un.there b o1 z1 i
   by_cases hb:b∈frs (envOfC qual scope s0.heap.objs.size f cd :: outer)
   ·obtain ⟨sl,z3⟩:=m b o2 z2 hb
    exact ⟨_,z3⟩
   ·exact ⟨o2,kp b o2 z2 (.inl ⟨o1,z1⟩) hb⟩
  ·obtain ⟨m1,e1⟩:=ub.tbls b ps z
   obtain ⟨m2,e2⟩:=un.tbls b _ e1
   exact ⟨m1++m2,by rw [e2,Array.append_assoc]⟩
 ·exact fun b u z=>(hok b u z).stay (fun d v hd y=>by
   have nn:H' d≠none:=by
    rcases hd with hd | hd
    ·rw [hd,z]; simp
    ·rw [hd]; simp
   exact kp d v y (.inr nn) fun y2=>nn (free d y2)) (fun _ y=>y) fun _ _ y=>y
 ·have c:∀ o1,s'.heap.get? b=some o1->(∃ o0,s.heap.get? b=some o0)\/H' b≠none->b∉frs (envOfC qual scope s0.heap.objs.size f cd :: outer)->B.get? b=some o:=fun o1 z1 h hb=>by
   have z2:=kp b o1 z1 h hb
   rw [z] at z2
   cases z2
   exact p b o z1 h hb
  rcases hb with ⟨o0,hb⟩ | hb
  ·obtain ⟨o1,z1⟩:=ub.there b o0 hb gi
   obtain ⟨o2,z2⟩:=un.there b o1 z1 gi
   exact c o2 z2 (.inl ⟨o1,z1⟩) fun y=>j b o0 hb (a b y hn)
  ·cases z1:H' b with
   | none=>exact absurd z1 hb
   | some u =>
    obtain ⟨o1,z2⟩:=zni (hok b u z1)
    exact c o1 z2 (.inr hb) fun y=>hb (free b y)
end
section
variable {M:Model} {A:Around} {E:Value->Shared->Prop}
variable {nm q:Str} {C N:Addr} {bs bm:List Value} {hdct:Bool} {sn:List Str} {sub:List Value} {ab:Bool} {col:Option Bool} {dd:Option Addr} {k0 k1 k2 k3 k5:Option Value} {newId:String}
variable {nm' q':Str} {C' N':Addr} {bs' bm':List Value} {hdct':Bool} {sn':List Str} {sub':List Value} {ab':Bool} {col':Option Bool} {dd':Option Addr} {j0 j1 j2 j3 j5:Option Value} {newId':String}
theorem zqp {h:Heap}{g:Array GenState}{d:Drawn}{t:Nat}{os:OsState}{e:Addr}{oe:Obj}{Q:Bool->Shared->Prop}
  (hC:h.get? C=some (excClassObj nm q C N bs bm hdct sn sub ab col dd k0 k1 k2 k3 k5 newId))(hT:h.get? C'=some (excClassObj nm' q' C' N' bs' bm' hdct' sn' sub' ab' col' dd' j0 j1 j2 j3 j5 newId'))(he:h.get? e=some oe)(hcls:oe.cls = .ref C)(hbase:bm'.contains (.type "BaseException")=true)
  (hq:Q ((Value.ref C :: bm).contains (.ref C')) ⟨h,g,d,t,os⟩):wpAny M A (excMatches (.ref e) (.ref C')) Q E ⟨h,g,d,t,os⟩:=by
 have a:(Value.ref C' :: bm').contains (.type "BaseException")=true:=by rw [List.contains_cons,hbase,Bool.or_true]
 have ft:=tc_notTuple
 unfold excMatches
 cases hb:(Value.ref C :: bm).contains (.ref C')
 ·rw [hb] at hq
  repeat (first | (with_reducible refine wpAny_loadPart_at he ?_; rw [hcls]) | with_reducible refine wpAny_loadPart_at hT ?_ | (with_reducible refine wpAny_isSubtype_exc hT ?_; rw [a]) | (with_reducible refine wpAny_isSubtype_exc hC ?_; rw [hb]) | wp_step)
  exact hq
 ·rw [hb] at hq
  repeat (first | (with_reducible refine wpAny_loadPart_at he ?_; rw [hcls]) | with_reducible refine wpAny_loadPart_at hT ?_ | (with_reducible refine wpAny_isSubtype_exc hT ?_; rw [a]) | (with_reducible refine wpAny_isSubtype_exc hC ?_; rw [hb]) | wp_step)
  exact hq
end
section
variable {X:Cx} {pins:List (Addr × Obj)} {σ:St} {H H':Hp} {s s':Shared} {e t:Addr} {C:Value} {B h6:Heap}
theorem zyu (I:Inv X pins σ H s)(os:s'.os=s.os)(bare:AllBare s'.gens)(un:Un (frs X.stack) [] H H' s.heap s'.heap)(hok:HOk X.prog X.w H' s'.heap)(fl:Heap.FlyingW B X.stack e C (.ref t) s'.heap)
  (toB:∀ b o,s'.heap.get? b=some o->(∃ o0,s.heap.get? b=some o0)\/H' b≠none->b∉frs X.stack->B.get? b=some o)(fl6:Heap.FlyingW B X.stack e C (.ref t) h6)(up:s'.heap.UpToSlots h6) :
  Inv X pins σ H' { s' with heap:=h6 }/\s.heap.get? e=none:=by
 have j:s.heap.FunFrames X.base X.stack:=I.stack
 have c:=fl.2.2.1
 have free:∀ b∈frs X.stack,H' b=none:=fun b hb=>by
  obtain ⟨_,o,ho,_⟩:=j.mem hb
  exact un.free b o ho (I.stkFree b hb) gi
 have a:∀ b o,s'.heap.get? b=some o->b∈frs X.stack->∃ sl,h6.get? b=some { o with slots:=sl }:=fun b o z hb=>by
  obtain ⟨_,o1,z1,hd⟩:=c.mem hb
  rw [z] at z1
  cases z1
  exact up b o z hd
 have kp:∀ b o,s'.heap.get? b=some o->(∃ o0,s.heap.get? b=some o0)\/H' b≠none->b∉frs X.stack->h6.get? b=some o:=fun b o z h hn=>fl6.1 b o (toB b o z h hn)
 constructor
 ·refine I.call' (s':={ s' with heap:=h6 }) (ch:=[]) os ?_ ?_ bare (fun b hb=>absurd hb gi)
  ·refine ⟨fun b o z n hb _=>?_,fun b o z n hb _=>?_,fun b o z n hx=>un.free b o z n hx,fun b o z f=>?_,un.tups,un.frzs,un.tbls⟩
   ·exact kp b o (un.keep b o z n hb gi) (.inl ⟨o,z⟩) hb
   ·obtain ⟨sl,z1⟩:=un.slot b o z n hb gi
    obtain ⟨i,z3⟩:=a b _ z1 hb
    exact ⟨i,z3⟩
   ·obtain ⟨o2,z2⟩:=un.there b o z f
    by_cases hb:b∈frs X.stack
    ·obtain ⟨sl,z3⟩:=a b o2 z2 hb
     exact ⟨_,z3⟩
    ·exact ⟨o2,kp b o2 z2 (.inl ⟨o,z⟩) hb⟩
  ·exact fun b u z=>(hok b u z).stay (fun d v hd y=>by
    have nn:H' d≠none:=by
     rcases hd with hd | hd
     ·rw [hd,z]; simp
     ·rw [hd]; simp
    exact kp d v y (.inr nn) fun y2=>nn (free d y2)) (fun _ y=>y) fun _ _ y=>y
 ·cases z:s.heap.get? e with
  | none=>rfl
  | some o =>
   by_cases hb:e∈frs X.stack
   ·obtain ⟨_,o1,z1,hd⟩:=c.mem hb
    obtain ⟨_,_,_,oe,ws,T,oT,ts,he,hc,g,_⟩:=fl
    rw [z1] at he
    cases he
    exact absurd g (hd _)
   ·obtain ⟨o2,z2⟩:=un.there e o z gi
    have:=toB e o2 z2 (.inl ⟨o,z⟩) hb
    rw [fl.2.1] at this
    cases this
theorem z4r {o:HO}(I:Inv X pins σ H s)(hn:H e=none)(h0:X.s₀.heap.get? e=none)(hL:e≠X.env.locals)(hc:∀ x c,X.env.cells.lookup x=some c->c≠e)(hp:∀ p∈X.pn++pins,p.1≠e)(ho:zcl X.prog X.w (upd H e o) s.heap e o):Inv X pins σ (upd H e o) s:=by
 have up:∀ b u,H b=some u->upd H e o b=some u:=fun b u z=>by
  rw [zac (zag z hn)]
  exact z
 refine ⟨I.ok,I.os,I.bare,⟨I.base.keep,I.base.slot,fun b ob z n hx=>?_,I.base.there,fun b xs z=>up _ _ (I.base.tups b xs z),fun b ob u z=>up _ _ (I.base.frzs b ob u z),fun b ps z=>?_⟩,I.loc,I.cell,?_,fun x c z=>?_,fun p a=>?_,fun b u z=>?_,I.len⟩
 ·rw [zac (fun y=>by rw [y,h0] at z; cases z)]
  exact I.base.free b ob z n hx
 ·obtain ⟨m,z1⟩:=I.base.tbls b ps z
  exact ⟨m,up _ _ z1⟩
 ·rw [zac hL.symm]
  exact I.free
 ·obtain ⟨a1,a2⟩:=I.freeC x c z
  refine ⟨fun y=>by rw [zac (hc x c z)]; exact a1 y,?_⟩
  rcases a2 with y | ⟨ob,u,y⟩
  ·exact .inl (by rw [zac (hc x c z)]; exact y)
  ·exact .inr ⟨ob,u,up _ _ y⟩
 ·obtain ⟨a1,a2,a3⟩:=I.pin p a
  exact ⟨a1,by rw [zac (hp p a)]; exact a2,a3⟩
 ·by_cases hb:b=e
  ·subst hb
   rw [zad] at z
   cases z
   exact ho
  ·rw [zac hb] at z
   exact (I.hok b u z).stay (fun _ _ _ y=>y) (fun d y=>up _ _ y) fun d xs y=>up _ _ y
theorem zno {M:Model}{A:Around}{E:Value->Shared->Prop}{i:Nat}{n:Str}{pos:Pos}{Q:Unit->Shared->Prop}(I:Inv X pins σ H s)(hN:X.N.Nodup)(hi:X.N[i]? = some n)(hx:X.env.scope.names.lookup n=some .local)
  (q:∀ s',Inv X pins (σ.set i none) H s'->Q () s'):wpAny M A (do bindName X.env n .none; unbindBehindTheSuite X.env n pos) Q E s:=by
 refine wpAny_bind (wpAny_bindName (zfu I hN hi (.inl hx) (v:= .non) rfl (fun s1 I1=>?_) (.inr hx)))
 have a:i<σ.length:=by rw [I.len]; exact (List.getElem?_eq_some_iff.mp hi).1
 obtain ⟨m,hn,hl⟩:=id I1.loc
 have d:(X.env.scope.kind == .class || (X.env.scope.kind == .module && X.env.locals != X.env.globals))=false:=by rw [I.ok.kind]; rfl
 obtain ⟨u,_,lk⟩:=hl i n .non hi (List.getElem?_set_self a) (.inl hx)
 have hv:m n=some u:=by
  rcases lk with ⟨_,z⟩ | ⟨k,_⟩
  ·exact z
  ·rcases k with k | k <;> (have k:X.env.scope.names.lookup n=_:=k; rw [hx] at k; cases k)
 have cne:=I1.cne
 unfold unbindBehindTheSuite
 refine wpAny_onRaise (wpAny_unbindName_local hx hn hv d fun h' u' g hs=>q _ ?_)
 obtain ⟨oL,_,_,h,_⟩:=id hn
 refine ⟨I1.ok,I1.os,I1.bare,⟨fun b o e n hb hx=>?_,fun b o e n hb hx=>?_,I1.base.free,fun b o e hx=>?_,I1.base.tups,I1.base.frzs,I1.base.tbls⟩,⟨_,g,fun j y v' e1 e2 e3=>?_⟩,fun y c e=>?_,I1.free,I1.freeC,fun p hp=>?_,fun b ob e=>?_,by simpa using I.len⟩
 ·exact (hs.2 b (gc (fi (fw e) I.ok.above))).trans (I1.base.keep b o e n hb hx)
 ·obtain ⟨sl,z1⟩:=I1.base.slot b o e n hb hx
  exact ⟨sl,(hs.2 b (gc (fi (fw e) I.ok.above))).trans z1⟩
 ·obtain ⟨o',z1⟩:=I1.base.there b o e hx
  exact ⟨o',(hs.2 b (gc (fi (fw e) I.ok.above))).trans z1⟩
 ·by_cases hj:j=i
  ·subst hj
   rw [List.getElem?_set_self a] at e2
   cases e2
  ·rw [List.getElem?_set_ne (Ne.symm hj)] at e2
   obtain ⟨u2,r2,f⟩:=hl j y v' e1 (by rw [List.getElem?_set_ne (Ne.symm hj)]; exact e2) e3
   refine ⟨u2,r2,?_⟩
   rcases f with ⟨k,z⟩ | ⟨k,c,z,z2⟩
   ·refine .inl ⟨k,?_⟩
    have:y≠n:=fun y2=>hj (zka hN e1 (y2 ▸ hi))
    simp [this,z]
   ·exact .inr ⟨k,c,z,z2.sameBut hs (cne y c z)⟩
 ·obtain ⟨w',z⟩:=I1.cell y c e
  exact ⟨w',z.sameBut hs (cne y c e)⟩
 ·obtain ⟨a1,a2,a3,a4,a5⟩:=I1.pin p hp
  exact ⟨(hs.2 p.1 a3).trans a1,a2,a3,a4,a5⟩
 ·refine (I1.hok b ob e).stay (fun c w' hc z=>(hs.2 c ?_).trans z) (fun _ z=>z) fun _ _ z=>z
  rintro rfl
  rcases hc with rfl | hc
  ·rw [I1.free] at e; cases e
  ·rw [I1.free] at hc; cases hc
end
def Cx.tryC (X:Cx)(pins:List (Addr × Obj))(E:Value->Shared->Prop):Cx:={ X with pn:=X.pn++pins,xe:=E }
def Cx.suiteC (X:Cx)(e:Addr):Cx:={ X with A:=X.A.mark (some (.ref e)),calm:=false,xe:=fun _ _=>False }
section
variable {X:Cx} {pins pl:List (Addr × Obj)} {σ:St} {H:Hp} {s:Shared} {E:Value->Shared->Prop} {e:Addr}
theorem Cx.Ok.tryC (o:X.Ok):(X.tryC pins E).Ok:=⟨o.mod,o.kind,o.glob,o.blt,o.above,o.inj,o.has,o.cab,o.hd,o.frames,o.stk,o.exf,o.bs,o.bsz,o.noex,o.exfs,o.funs,o.frf⟩
theorem Cx.Ok.suiteC (o:X.Ok):(X.suiteC e).Ok:=⟨o.mod,o.kind,o.glob,o.blt,o.above,o.inj,o.has,o.cab,fun z=>fT z,o.frames,o.stk,o.exf,o.bs,o.bsz,o.noex,o.exfs,o.funs,o.frf⟩
theorem Inv.tryC (I:Inv X pins σ H s):Inv (X.tryC pins E) [] σ H s:=⟨I.ok.tryC,I.os,I.bare,I.base,I.loc,I.cell,I.free,I.freeC,fun p hp=>I.pin p (by
 have hp:p∈(X.pn++pins)++[]:=hp
 rw [j6] at hp
 exact hp),I.hok,I.len⟩
theorem Inv.ofTry (ok:X.Ok)(I:Inv (X.tryC pins E) pl σ H s):Inv X pins σ H s:=⟨ok,I.os,I.bare,I.base,I.loc,I.cell,I.free,I.freeC,fun p hp=>I.pin p (gb _ hp),I.hok,I.len⟩
theorem Inv.suiteC (I:Inv X pins σ H s):Inv (X.suiteC e) pins σ H s:=⟨I.ok.suiteC,I.os,I.bare,I.base,I.loc,I.cell,I.free,I.freeC,I.pin,I.hok,I.len⟩
theorem Inv.ofSuite (ok:X.Ok)(I:Inv (X.suiteC e) pins σ H s):Inv X pins σ H s:=⟨ok,I.os,I.bare,I.base,I.loc,I.cell,I.free,I.freeC,I.pin,I.hok,I.len⟩
end
def zoe (K:W.Frag)(C T:Addr):Bool:=match K.lookup C with
 | some ⟨_,_,.cls cd,_⟩=>cd.mro.contains (.ref T)
 | _=>false
def z4m (e:Addr)(C:Value):HO:= .ext fun h=>∃ o,h.get? e=some o/\o.cls=C
def z6l (K:W.Frag)(T:Addr)(i:Nat)(Th:St->Value->Hp->Prop)(tb tsu:TS):TS:=fun D σ H=>tb D σ H/\∀ σ' C H',Th σ' C H'->∃ Ca,C = .ref Ca/\PySem.W.excIn K Ca bmV "ValueError.__new__" = true/\zoe K Ca T=true /\
 ∀ e,H' e=none->tsu { nx:=fun σ2 H2=>D.nx (σ2.set i none) H2,rt:=D.rt,bk:=fun σ2 H2=>D.bk (σ2.set i none) H2,ct:=fun σ2 H2=>D.ct (σ2.set i none) H2 } (σ'.set i (some (.ref e))) (upd H' e (z4m e C))
theorem z2q {X:Cx}{body suite:List Stmt}{b₀:Stmt}{x n:Str}{np hpos pos:Pos}{i:Nat}{Th:St->Value->Hp->Prop}{tb tsu:TS}(D:DfE X.K X.mg x)(hg:Gl X x)(hst:X.stack=X.env :: X.outer)(hfr:X.env.frame=some X.env.locals)
  (hexx:X.ex=[])(hN:X.N.Nodup)(hi:X.N[i]? = some n)(hx:X.env.scope.names.lookup n=some .local)
  (hb:∀ (pins:List (Addr × Obj)) (E:Value->Shared->Prop),(∀ (pl:List (Addr × Obj)) (σ:St) (H:Hp) (s:Shared) (ev:Value) (s':Shared),Inv (X.tryC pins E) pl σ H s->CXR X.prog X.w X.stack H s (fun C _ H'=>Th σ C H') ev s'->E ev s')->PSs (X.tryC pins E) body tb)
  (hsu:∀ e,PSs (X.suiteC e) (b₀ :: suite) tsu)(hdb:(x == ("__debug__" : Str))=false:=by decide) :
  PS X (.Try body [.ExceptHandler (some (.Name x np)) (some n) (b₀ :: suite) hpos] [] [] pos) (z6l X.K D.C i Th tb tsu):=by
 intro pins s σ H Dd I h
 obtain ⟨h1,h2⟩:=h
 rw [arm_exec_Try]
 refine wpAny_bind (wpAny_standAt (wpAny_tryStmt_except ?_))
 refine wpAny_mono (hb pins _ ?_ [] s σ H Dd I.tryC h1) (fun f s1 hs=>?_) fun _ _ z=>z
 rotate_left
 ·cases f with
  | next =>
   obtain ⟨σ',H',J,q⟩:=hs
   exact wpAny_execs_nil ⟨σ',H',J.ofTry I.ok,q⟩
  | brk =>
   obtain ⟨σ',H',J,q⟩:=hs
   exact ⟨σ',H',J.ofTry I.ok,q⟩
  | cont =>
   obtain ⟨σ',H',J,q⟩:=hs
   exact ⟨σ',H',J.ofTry I.ok,q⟩
  | ret u =>
   obtain ⟨v,σ',H',J,r,q⟩:=hs
   exact ⟨v,σ',H',J.ofTry I.ok,r,q⟩
 ·intro pl σ1 H1 s1 ev s' J R
  have J1:Inv X pins σ1 H1 s1:=J.ofTry I.ok
  obtain ⟨e,t,C,B,vs,H',rfl,os,bare,un,hok,fl,tp,bt,ad,en,q⟩:=R
  obtain ⟨Ca,rfl,ao,a,k⟩:=h2 σ1 C H' q
  have ae:Heap.FlyingW B (X.env :: X.outer) e (.ref Ca) (.ref t) s'.heap:=by rw [<- hst]; exact fl
  show wpAny (model X.prog X.w) X.A (noteFrame (.ref e) X.env) _ _ s'
  refine wpAny_looks_onW (outer:=X.outer) (by rw [<- hst]; exact I.ok.frames) hfr ae fun h4 g af=>?_
  refine wpAny_landsW g fun h5 j ah=>?_
  have d:=af.trans ah
  obtain ⟨I5,l⟩:=zyu J1 os bare un hok fl ad (by rw [hst]; exact j) d
  refine wpAny_handleBy_cons (codeAny_handlers_test (zis (X:=X.suiteC e) I5.suiteC hg D.hm ?_ hdb)) (by intro z; cases z)
  obtain ⟨bm,N,nm,qn,bs,hdct,sn,sub,ab,col,dd,k0,k1,k2,k3,k5,mN,hC,a6,a7,TL⟩:=zq0 I5.kIn ao
  obtain ⟨a0,N',a4,ax,aw,aj,a5,ar,ay,au,az,j0,j1,j2,j3,j5,a3,am,av,aq,al⟩:=zq0 I5.kIn D.ex
  obtain ⟨o5,ak,ai⟩:=j.there
  have has:(Value.ref Ca :: bm).contains (.ref D.C)=true:=by
   unfold zoe at a
   split at a
   ·rename_i ho
    have z:=I5.kIn _ _ ho
    rw [hC] at z
    cases z
    exact a
   ·cases a
  refine zqp (h:=h5) hC am ak ai (al.hasType jb.hasBase) ?_
  rw [has]
  refine codeAny_handlers_suite_as ?_
  refine lands_againW j fun h6 aa ap=>?_
  obtain ⟨I6,_⟩:=zyu J1 os bare un hok fl ad (by rw [hst]; exact aa) (d.trans ap)
  obtain ⟨oe,ac,an⟩:=aa.there
  have ne:∀ b o,s1.heap.get? b=some o->b≠e:=fun b o z y=>by rw [y,l] at z; cases z
  have ag:X.s₀.heap.get? e=none:=by
   cases z:X.s₀.heap.get? e with
   | none=>rfl
   | some o =>
    obtain ⟨o',z1⟩:=J1.base.there e o z (by rw [hexx]; exact gi)
    rw [l] at z1
    cases z1
  have hL:e≠X.env.locals:=by
   obtain ⟨m,⟨o,_,_,z,_⟩,_⟩:=J1.loc
   exact (ne _ o z).symm
  have I7:Inv X pins σ1 (upd H' e (z4m e (.ref Ca))) { s' with heap:=h6 }:=z4r I6 en ag hL (fun y c z=>by
   obtain ⟨v,o,z1,_⟩:=J1.cell y c z
   exact ne c o z1) (fun p hp=>ne _ _ (J1.pin p hp).1) ⟨⟨oe,ac,an⟩,⟨oe,ac⟩,fun a1 a2 ⟨o,z1,z2⟩ kk=>⟨o,kk o z1,z2⟩⟩
  refine zfu I7 hN hi (.inl hx) (v:= .ref e) rfl (fun s7 I8=>?_) (.inr hx)
  refine wpAny_mono (hsu e pins s7 _ _ _ I8.suiteC (k e en)) (fun f s8 hs=>?_) fun _ _ z=>z.elim
  cases f with
  | next =>
   obtain ⟨σ',H2,J',z⟩:=hs
   exact zno (J'.ofSuite I.ok) hN hi hx fun s9 J9=>⟨_,H2,J9,z⟩
  | brk =>
   obtain ⟨σ',H2,J',z⟩:=hs
   exact zno (J'.ofSuite I.ok) hN hi hx fun s9 J9=>⟨_,H2,J9,z⟩
  | cont =>
   obtain ⟨σ',H2,J',z⟩:=hs
   exact zno (J'.ofSuite I.ok) hN hi hx fun s9 J9=>⟨_,H2,J9,z⟩
  | ret u =>
   obtain ⟨v,σ',H2,J',r,z⟩:=hs
   exact zno (J'.ofSuite I.ok) hN hi hx fun s9 J9=>⟨v,_,H2,J9,r,z⟩
section
open PySem.W PySem.Builtin PySem.Builtin.ObjectAttr PySem.Builtin.Getset_descriptor
variable {K:Frag} {D x:Addr}
def OfC (h:Heap)(x D:Addr):Prop:=∃ o,h.get? x=some o/\o.cls = .ref D
theorem OfC.ty {M:Model}{h:Heap}(T:OfC h x D):Looks M h (typeOf (.ref x)) (.ref D):=by
 obtain ⟨o,ho,hc⟩:=T
 exact hc ▸ (Looks.ld ho).andThen .now
theorem z3v {M:Model}{h:Heap}{name:Str}{a g:Value}(X:K.In h)(ha:findIn K (.ref D) name=some (some a))(hg:specialIn K a "__get__" = some (some g))(ht:takesIn K a=some true):Looks M h (find (.ref x) (.ref D) name) (.bind g a):=by
 have L1:=looks_findIn (M:=M) X ha
 have L2:Looks M h (getOf (some a)) (some g):=looks_specialIn X hg
 have L3:=looks_takesIn (M:=M) X ht
 refine L1.andThen (L2.andThen ?_)
 have L4:Looks M h (dataDescriptor? (some a) (some g)) (some (g,a)):=L3.andThen .now
 exact L4.andThen (Looks.tag .now)
end
section
variable {X:Cx} {CX:CXT} {k:Nat} {f:Addr} {fd:FuncData} {ps:List Str} {sp:Sp} {dvs:List V} {ds:List Value} {Th:St->XK} {x:Str} {p pos:Pos} {e:Expr} {es:List Expr} {t:TA}
def z3r (sp:Sp)(dvs:List V)(Th:St->XK)(t:TA):TE:=fun σ H Q=>t σ H fun vs H1=>sp (vs++dvs) H1 Q (Th σ)
theorem zxg (F:zc_ X.prog X.w X.K X.mg X.base CX k f fd ps sp)(hr:zed k X.A)(hg:Gl X x)(hm:X.mg x=some (.ref f))(hk:PySem.W.keepIn X.K (.ref f)=true)(hb:zci X.K fd ps ds)(hd:zb8 dvs ds)
  (hx:∀ (pl:List (Addr × Obj)) (σ:St) (H:Hp) (s:Shared) (ev:Value) (s':Shared),Inv X pl σ H s->CX X.stack H s (Th σ) ev s'->X.xe ev s')(ha:PA X (e :: es) t)
  (hdb:(x == ("__debug__" : Str))=false:=by decide)(he:starEach (e :: es) X.env=(false,eval e X.env) :: starEach es X.env:=by rfl)(hpl:(backTo pos (starEach es X.env)).any (·.1)=false:=by rfl) :
  PE X (.Call (.Name x p) (e :: es) [] pos) (z3r sp dvs Th t):=by
 intro pins s σ H Q I h
 refine wpAny_Call_Name_kw (zis I hg hm ?_ hdb)
 refine k7 (h₀:=X.base) I.ok.mod.kin hk (thn (ha pos pins s σ H _ I h) fun us s1 ⟨vs,H1,I1,r,q⟩=>⟨I1.kIn,?_⟩) he hpl
 have r2:zb8 (vs++dvs) (us++ds):=r.append hd
 have hl:(us++ds).length=ps.length:=by rw [<- r2.length]; exact F.len _ _ _ _ q
 refine wpAny_call (codeAny_mono (F.run X.A X.stack s1 H1 ⟨us,[]⟩ (us++ds) (vs++dvs) Q (Th σ) hr I1.env0 (hb s1 us I1.kIn hl) r2 q) fun r s' hq=>?_)
 cases r with
 | error ev=>exact hx pins σ H1 s1 ev s' I1 hq
 | ok fl =>
  cases fl with
  | ret u=>exact I1.after hq
  | next=>exact False.elim hq
  | brk=>exact False.elim hq
  | cont=>exact False.elim hq
end
section
variable {κ:Type} [DecidableEq κ]
def zee (kvs:List (κ × V))(k:κ):Option V:=(kvs.find? fun kv=>decide (kv.1=k)).map (·.2)
def zec (kvs:List (κ × V))(k:κ)(v:V):List (κ × V) :=
 if (kvs.any fun kv=>decide (kv.1=k))=true then kvs.map (fun kv=>if kv.1=k then (kv.1,v) else kv) else kvs++[(k,v)]
def zeb (kvs:List (κ × V))(k:κ):List (κ × V):=kvs.filter fun kv=>decide (kv.1≠k)
theorem zg7 {p:κ × V}{r:List (κ × V)}{k:κ}(e:p.1=k):zee (p :: r) k=some p.2:=by simp [zee,List.find?_cons,e]
theorem zf4 {p:κ × V}{r:List (κ × V)}{k:κ}(e:¬ p.1=k):zee (p :: r) k=zee r k:=by simp [zee,List.find?_cons,e]
theorem zg3 (k:κ):∀ kvs:List (κ × V),(kvs.any fun kv=>decide (kv.1=k))=(zee kvs k).isSome
 | []=>rfl
 | p :: r=>by
  rw [kq]
  by_cases e:p.1=k
  ·simp only [zg7 e,decide_eq_true e,Bool.true_or,Option.isSome_some]
  ·rw [zf4 e,decide_eq_false e,Bool.false_or]; exact zg3 k r
theorem zf2 (kvs:List (κ × V))(k:κ)(v:V):(zec kvs k v).length<=kvs.length+1:=by
 unfold zec
 split
 ·rw [d9]; omega
 ·rw [fe,gs,jk]; omega
theorem zj_ {kvs:List (κ × V)}{k:κ}(v:V)(h:zee kvs k=none):zec kvs k v=kvs++[(k,v)]:=by
 unfold zec
 rw [zg3,h]
 exact if_neg (by decide)
theorem zn1.isSome_eq {o:Option V}{u:Option Value}(r:zn1 o u):o.isSome=u.isSome:=by
 cases o with
 | none=>cases u with
  | none=>rfl
  | some _=>exact (show False from r).elim
 | some _=>cases u with
  | none=>exact (show False from r).elim
  | some _=>rfl
theorem KV.val {kvs:List (κ × V)}{vs:List (κ × Value)}(r:KV kvs vs)(k:κ):zn1 (zee kvs k) (valueAt vs k):=by
 unfold KV at r
 induction r with
 | nil=>exact True.intro
 | @cons p q ps qs h t ih =>
  obtain ⟨h1,h2⟩:=h
  by_cases e:p.1=k
  ·have e':q.1=k:=h1.symm.trans e
   have b:valueAt (q :: qs) k=some q.2:=by simp [valueAt,List.find?_cons,e']
   rw [zg7 e,b]; exact h2
  ·have e':¬ q.1=k:=fun z=>e (h1.trans z)
   have b:valueAt (q :: qs) k=valueAt qs k:=by simp [valueAt,List.find?_cons,e']
   rw [zf4 e,b]; exact ih
theorem KV.any {kvs:List (κ × V)}{vs:List (κ × Value)}(r:KV kvs vs)(k:κ):(kvs.any fun kv=>decide (kv.1=k))=vs.any fun kv=>decide (kv.1=k):=by
 unfold KV at r
 induction r with
 | nil=>rfl
 | cons h t ih=>rw [kq,kq,ih,h.1]
theorem KV.repl {kvs:List (κ × V)}{vs:List (κ × Value)}(r:KV kvs vs)(k:κ){y:V}{u:Value}(ry:zcb y u) :
  KV (kvs.map fun kv=>if kv.1=k then (kv.1,y) else kv) (vs.map fun kv=>if kv.1=k then (kv.1,u) else kv):=by
 unfold KV at r |-
 induction r with
 | nil=>exact .nil
 | @cons p q ps qs h t ih =>
  rw [gu,gu]
  refine .cons ?_ ih
  obtain ⟨h1,h2⟩:=h
  by_cases e:p.1=k
  ·rw [if_pos e,if_pos (h1.symm.trans e)]; exact ⟨h1,ry⟩
  ·rw [if_neg e,if_neg (fun z=>e (h1.trans z))]; exact ⟨h1,h2⟩
theorem KV.put {kvs:List (κ × V)}{vs:List (κ × Value)}(r:KV kvs vs)(k:κ){y:V}{u:Value}(ry:zcb y u):KV (zec kvs k y) (stored vs k u):=by
 unfold zec stored
 rw [r.any k]
 by_cases e:(vs.any fun kv=>decide (kv.1=k))=true
 ·rw [if_pos e,if_pos e]; exact r.repl k ry
 ·rw [if_neg e,if_neg e]; exact Paired.snoc r ⟨rfl,ry⟩
theorem KV.drop {kvs:List (κ × V)}{vs:List (κ × Value)}(r:KV kvs vs)(k:κ):KV (zeb kvs k) (without vs k):=by
 unfold KV at r |-
 unfold zeb without
 induction r with
 | nil=>exact .nil
 | @cons p q ps qs h t ih =>
  obtain ⟨h1,h2⟩:=h
  rw [kj,kj]
  by_cases e:p.1=k
  ·have a:¬ decide (p.1≠k)=true:=by simp [e]
   have b:¬ decide (q.1≠k)=true:=by simp [h1.symm.trans e]
   rw [if_neg a,if_neg b]; exact ih
  ·have e':¬ q.1=k:=fun z=>e (h1.trans z)
   have a:decide (p.1≠k)=true:=by simp [e]
   have b:decide (q.1≠k)=true:=by simp [e']
   rw [if_pos a,if_pos b]; exact .cons ⟨h1,h2⟩ ih
theorem KV.keys {kvs:List (κ × V)}{vs:List (κ × Value)}(r:KV kvs vs):kvs.map (·.1)=vs.map (·.1):=by
 unfold KV at r
 induction r with
 | nil=>rfl
 | cons h t ih=>rw [gu,gu,ih,h.1]
theorem KV.length {kvs:List (κ × V)}{vs:List (κ × Value)}(r:KV kvs vs):kvs.length=vs.length:=Paired.length r
theorem zxq (kvs:List (κ × V))(k:κ):(zeb kvs k).length<=kvs.length:=gn _ _
end
theorem zm5 {P:Program}{w:World}{k:Key}{u:Value}(r:zcb (kV k) u):(zbp P w).is k u=true:=by
 cases k with
 | inl i=>obtain ⟨t,e⟩:=(show ∃ t,u=Value.int i t from r); subst e; exact zpu P w i t
 | inr x=>obtain ⟨t,e⟩:=(show ∃ t,u=Value.str x t from r); subst e; exact zqn P w x t
theorem zpn {P:Program}{w:World}:∀ {ks:List Key} {us:List Value},zb8 (ks.map kV) us->ItemsAre (zbp P w) ks us
 | [],_,r=>by rw [mi] at r; cases r; exact .nil
 | k :: ks,_,r=>by
  rw [gu] at r
  cases r with
  | cons h t=>exact .cons (zm5 h) (zpn t)
abbrev KT (H:Hp):List (List Key × V)->List (List Key × Addr × Value)->Prop:=Paired fun p q=>p.1=q.1/\H q.2.1=some (.tup (p.1.map kV))/\zcb p.2 q.2.2
theorem KT.val {H:Hp}{kvs:List (List Key × V)}{xs:List (List Key × Addr × Value)}(r:KT H kvs xs)(k:List Key):zn1 (zee kvs k) ((atKey xs k).map (·.2)):=by
 induction r with
 | nil=>exact True.intro
 | @cons p q ps qs h t ih =>
  obtain ⟨h1,_,h2⟩:=h
  by_cases e:p.1=k
  ·have e':q.1=k:=h1.symm.trans e
   have b:atKey (q :: qs) k=some q.2:=by simp [atKey,List.find?_cons,e']
   rw [zg7 e,b]; exact h2
  ·have e':¬ q.1=k:=fun z=>e (h1.trans z)
   have b:atKey (q :: qs) k=atKey qs k:=by simp [atKey,List.find?_cons,e']
   rw [zf4 e,b]; exact ih
theorem KT.repl {H:Hp}{kvs:List (List Key × V)}{xs:List (List Key × Addr × Value)}(r:KT H kvs xs)(k:List Key){y:V}{u:Value}(ry:zcb y u) :
  KT H (kvs.map fun kv=>if kv.1=k then (kv.1,y) else kv) (xs.map (putAt k u)):=by
 induction r with
 | nil=>exact .nil
 | @cons p q ps qs h t ih =>
  rw [gu,gu]
  refine .cons ?_ ih
  obtain ⟨h1,h2,h3⟩:=h
  unfold putAt
  by_cases e:p.1=k
  ·rw [if_pos e,if_pos (h1.symm.trans e)]; exact ⟨h1,h2,ry⟩
  ·rw [if_neg e,if_neg (fun z=>e (h1.trans z))]; exact ⟨h1,h2,h3⟩
theorem KT.put {H:Hp}{kvs:List (List Key × V)}{xs:List (List Key × Addr × Value)}(r:KT H kvs xs)(k:List Key){b:Addr}{y:V}{u:Value}(hb:H b=some (.tup (k.map kV)))(ry:zcb y u) :
  KT H (zec kvs k y) (storedH xs k b u):=by
 have e:(kvs.any fun kv=>decide (kv.1=k))=(atKey xs k).isSome:=by
  rw [zg3,(r.val k).isSome_eq,ly]
 unfold zec storedH
 rw [e]
 by_cases q:(atKey xs k).isSome=true
 ·rw [if_pos q,if_pos q]; exact r.repl k ry
 ·rw [if_neg q,if_neg q]; exact Paired.snoc r ⟨rfl,hb,ry⟩
theorem KT.keeps {H H':Hp}{kvs:List (List Key × V)}{xs:List (List Key × Addr × Value)}(r:KT H kvs xs)(ht:∀ b ys,H b=some (.tup ys)->H' b=some (.tup ys)):KT H' kvs xs :=
 Paired.mapP r fun _ _ z=>⟨z.1,ht _ _ z.2.1,z.2.2⟩
section
variable {P:Program} {w:World} {H:Hp} {h:Heap} {a:Addr}
theorem z2y {u:HO}(ok:HOk P w H h)(e:Rd H a u):zcl P w H h a u:=e.ok ok
theorem zlx {kvs:List (Key × V)}(ok:HOk P w H h)(e:Rd H a (.dK kvs)):kvs.length<=sizeLine/\(a == sysModules)=false/\∃ vs,KV kvs vs/\h.DictOf (zbp P w) a vs :=
 show zcl P w H h a (.dK kvs) from z2y ok e
theorem zqt {kvs:List (Key × V)}(ok:HOk P w H h)(e:H a=some (.dK kvs)):kvs.length<=sizeLine/\(a == sysModules)=false/\∃ vs,KV kvs vs/\h.DictOf (zbp P w) a vs:=zlx ok (.inl e)
theorem zo1 {ks:List Key}(ok:HOk P w H h)(e:H a=some (.tup (ks.map kV))):(tupleKind (zbp P w)).is h ks a:=by
 obtain ⟨_,its,r,o,h1,h2,n,h3⟩:=(show zcl P w H h a (.tup (ks.map kV)) from ok a _ e)
 exact ⟨o,its.toArray,n,h1,h2,h3,by simpa using zpn r⟩
theorem zs1 {kvs:List (List Key × V)}(ok:HOk P w H h)(e:Rd H a (.dT kvs)):kvs.length<=sizeLine/\(a == sysModules)=false /\
  ∃ xs,KT H kvs xs/\h.DictOfH (tupleKind (zbp P w)) a xs:=by
 obtain ⟨z,y,xs,r,o,es,ep,h1,h2,h3,h4,h5⟩:=(show zcl P w H h a (.dT kvs) from z2y ok e)
 refine ⟨z,y,xs,r,o,es,ep,h1,h2,h3,h4,fun x hx=>?_,h5⟩
 have all:∀ {l:List (List Key × V)} {m:List (List Key × Addr × Value)},KT H l m->∀ x∈m,(tupleKind (zbp P w)).is h x.1 x.2.1:=by
  intro l m q
  induction q with
  | nil=>intro x hx; exact nomatch hx
  | @cons p q ps qs hq t ih =>
   intro x hx
   rcases gl.mp hx with e | hx
   ·subst e
    exact zo1 ok (by rw [<- hq.1]; exact hq.2.1)
   ·exact ih x hx
 exact all r x hx
theorem z44 {kvs:List (List Key × V)}(ok:HOk P w H h)(e:H a=some (.dT kvs)):kvs.length<=sizeLine/\(a == sysModules)=false /\
  ∃ xs,KT H kvs xs/\h.DictOfH (tupleKind (zbp P w)) a xs:=zs1 ok (.inl e)
end
def zik (H:Hp)(a:Addr)(y:V)(r:Option V):Prop :=
 (∃ kvs k,Rd H a (.dK kvs)/\y=kV k/\r=zee kvs k)\/∃ kvs k b,Rd H a (.dT kvs)/\y = .ref b/\H b=some (.tup (k.map kV))/\r=zee kvs k
def zpc (H:Hp)(a:Addr)(y v:V)(H':Hp):Prop :=
 (∃ kvs k,H a=some (.dK kvs)/\y=kV k/\kvs.length<sizeLine/\H'=upd H a (.dK (zec kvs k v))) \/
 ∃ kvs k b,H a=some (.dT kvs)/\y = .ref b/\H b=some (.tup (k.map kV))/\kvs.length<sizeLine/\H'=upd H a (.dT (zec kvs k v))
theorem zik.k {H:Hp}{a:Addr}{kvs:List (Key × V)}{k:Key}(e:H a=some (.dK kvs)):zik H a (kV k) (zee kvs k):= .inl ⟨kvs,k,.inl e,rfl,rfl⟩
theorem zpc.k {H:Hp}{a:Addr}{kvs:List (Key × V)}{k:Key}{v:V}(e:H a=some (.dK kvs))(hl:kvs.length<sizeLine):zpc H a (kV k) v (upd H a (.dK (zec kvs k v))):= .inl ⟨kvs,k,e,rfl,hl,rfl⟩
section
variable {X:Cx} {pins:List (Addr × Obj)} {σ:St} {H:Hp} {s:Shared} {a:Addr} {y v:V} {u r:Value} {o:Option V} {A:Around} {E:Value->Shared->Prop}
theorem Inv.big (I:Inv X pins σ H s):sysModules<s.heap.objs.size:=by
 have h:mainGlobals<s.heap.objs.size:=(I.mod.glob.keeps I.bk).lt
 exact lc (by decide) h
theorem zuq {Q:Value->Shared->Prop}(hu:A.units+1<cLine)(I:Inv X pins σ H s)(g:zik H a y (some v))(ry:zcb y u)(h:∀ w' s',Inv X pins σ H s'->zcb v w'->Q w' s') :
  wpAny (model X.prog X.w) A (getItem (.ref a) u) Q E s:=by
 rcases g with ⟨kvs,k,e,ey,l⟩ | ⟨kvs,k,b,e,ey,eb,l⟩
 ·subst ey
  obtain ⟨z,hd,vs,c,dd⟩:=zlx I.hok e
  obtain ⟨w',hw,d⟩:=zn1.some_of (v:=v) (o:=valueAt vs k) (by rw [l]; exact c.val k)
  exact wpAny_getItem_of (zm5 ry) dd.mapOf hw (h w' _ (I.tok _) d)
 ·subst ey
  cases (show u=Value.ref b from ry)
  obtain ⟨z,hd,xs,c,dd⟩:=zs1 I.hok e
  obtain ⟨w',hw,d⟩:=zn1.some_of (v:=v) (o:=(atKey xs k).map (·.2)) (by rw [l]; exact c.val k)
  obtain ⟨p,hp,f⟩:=Option.map_eq_some_iff.mp hw
  refine wpAny_getItem_heap (tupleKind_room_in1 hu) (zo1 I.hok eb) dd hp ?_
  rw [f]
  exact h w' _ (I.tok _) d
theorem z6g {Q:Value->Shared->Prop}(hu:A.units+1<cLine)(I:Inv X pins σ H s)(g:zik H a y o)(ry:zcb y u)(h:∀ s',Inv X pins σ H s'->Q (.bool o.isSome) s') :
  wpAny (model X.prog X.w) A (compareOp .In u (.ref a)) Q E s:=by
 rcases g with ⟨kvs,k,e,ey,l⟩ | ⟨kvs,k,b,e,ey,eb,l⟩
 ·subst ey
  obtain ⟨z,hd,vs,c,dd⟩:=zlx I.hok e
  refine wpAny_in_of (zm5 ry) hd dd.mapOf ?_
  rw [<- (c.val k).isSome_eq,<- l]
  exact h _ (I.tok _)
 ·subst ey
  cases (show u=Value.ref b from ry)
  obtain ⟨z,hd,xs,c,dd⟩:=zs1 I.hok e
  refine wpAny_in_heap (tupleKind_room_in1 hu) (zo1 I.hok eb) hd dd ?_
  have q:=(c.val k).isSome_eq
  rw [ly] at q
  rw [<- q,<- l]
  exact h _ (I.tok _)
theorem z0d {Q:Value->Shared->Prop}(hu:A.units+1<cLine)(I:Inv X pins σ H s)(g:zik H a y o)(ry:zcb y u)(h:∀ s',Inv X pins σ H s'->Q (.bool (!o.isSome)) s') :
  wpAny (model X.prog X.w) A (compareOp .NotIn u (.ref a)) Q E s:=by
 rcases g with ⟨kvs,k,e,ey,l⟩ | ⟨kvs,k,b,e,ey,eb,l⟩
 ·subst ey
  obtain ⟨z,hd,vs,c,dd⟩:=zlx I.hok e
  refine wpAny_notIn_of (zm5 ry) hd dd.mapOf ?_
  rw [<- (c.val k).isSome_eq,<- l]
  exact h _ (I.tok _)
 ·subst ey
  cases (show u=Value.ref b from ry)
  obtain ⟨z,hd,xs,c,dd⟩:=zs1 I.hok e
  refine wpAny_notIn_heap (tupleKind_room_in1 hu) (zo1 I.hok eb) hd dd ?_
  have q:=(c.val k).isSome_eq
  rw [ly] at q
  rw [<- q,<- l]
  exact h _ (I.tok _)
theorem zkz {h':Heap}{t':Nat}{ob:HO}(I:Inv X pins σ H s)(mu:Mut (H a))(hs:Heap.SameBut a s.heap h')(he:∃ q,h'.get? a=some q)(new:zcl X.prog X.w (upd H a ob) h' a ob) :
  Inv X pins σ (upd H a ob) { s with heap:=h',toks:=t' } :=
 I.write (x:=a) (e:=a) mu (.inl rfl) (fun b q hb z=>(hs.2 b hb).trans z) he new
theorem zrv {P:Program}{w:World}{H':Hp}{h':Heap}{kvs:List (Key × V)}{vs:List (Key × Value)}(z:kvs.length<=sizeLine)(hd:(a == sysModules)=false)(rel:KV kvs vs)(dd:h'.DictOf (zbp P w) a vs) :
  zcl P w H' h' a (.dK kvs):=⟨z,hd,vs,rel,dd⟩
theorem ztp {H':Hp}{Q:Unit->Shared->Prop}(hu:A.units+1<cLine)(I:Inv X pins σ H s)(g:zpc H a y v H')(ry:zcb y u)(rv:zcb v r)(h:∀ s',Inv X pins σ H' s'->Q () s') :
  wpAny (model X.prog X.w) A (setItem (.ref a) u r) Q E s:=by
 rcases g with ⟨kvs,k,e,ey,l,eH⟩ | ⟨kvs,k,b,e,ey,eb,l,eH⟩
 ·subst ey eH
  obtain ⟨z,hd,vs,d,dd⟩:=zqt I.hok e
  have hz:vs.length<=sizeLine:=by rw [<- d.length]; exact z
  have hl:(zec kvs k v).length<=sizeLine:=by have:=zf2 kvs k v; omega
  refine wpAny_setItem_pairs (hsz:=hz) (zm5 ry) dd fun h' f hs=>h _ ?_
  have he:∃ q,h'.get? a=some q:=let ⟨q,_,_,hq,_⟩:=f; ⟨q,hq⟩
  exact zkz I (by rw [e]; exact True.intro) hs he (zrv hl hd (d.put k rv) f)
 ·subst ey eH
  cases (show u=Value.ref b from ry)
  obtain ⟨z,hd,xs,d,dd⟩:=z44 I.hok e
  have hz:xs.length<=sizeLine:=by rw [<- Paired.length d]; exact z
  have hl:(zec kvs k v).length<=sizeLine:=by have:=zf2 kvs k v; omega
  refine wpAny_setItem_heap (hsz:=hz) (tupleKind_room_in1 hu) (zo1 I.hok eb) dd fun h' f hs=>h _ ?_
  obtain ⟨q,es,ep,hq,h2,h3,h4,_,h5⟩:=f
  refine zkz I (by rw [e]; exact True.intro) hs ⟨q,hq⟩ ⟨hl,hd,_,(d.put k eb rv).keeps fun c ys ec=>?_,q,es,ep,hq,h2,h3,h4,h5⟩
  rw [zac (zdv ec e (fun z=>nomatch z))]
  exact ec
end
section
variable {X:Cx} {pins:List (Addr × Obj)} {σ:St} {H:Hp} {s:Shared} {a:Addr} {kvs:List (Key × V)} {k:Key} {u:Value} {A:Around} {E:Value->Shared->Prop}
theorem z28 {v:V}{more:List Value}{Q:Value->Shared->Prop}(I:Inv X pins σ H s)(e:H a=some (.dK kvs))(ry:zcb (kV k) u)(l:zee kvs k=some v)(hm:more=[]\/∃ x,more=[x])
  (h:∀ w' s',Inv X pins σ (upd H a (.dK (zeb kvs k))) s'->zcb v w'->Q w' s'):wpAny (model X.prog X.w) A (call (.builtin "dict.pop") (.ref a :: u :: more)) Q E s:=by
 obtain ⟨z,hd,vs,b,dd⟩:=zqt I.hok e
 obtain ⟨w',hw,d⟩:=zn1.some_of (v:=v) (o:=valueAt vs k) (by rw [<- l]; exact b.val k)
 have hp:(keyPart u).isSome=true:=by
  cases k with
  | inl i=>obtain ⟨t,q⟩:=(show ∃ t,u=Value.int i t from ry); subst q; rfl
  | inr x=>obtain ⟨t,q⟩:=(show ∃ t,u=Value.str x t from ry); subst q; rfl
 have ha:argsOk "dict.pop" ⟨.ref a :: u :: more,[]⟩:=by
  rcases hm with q | ⟨x,q⟩
  ·subst q; exact PySem.F.args_dict_pop_2 _ _
  ·subst q; exact PySem.F.args_dict_pop_3 _ _ _
 refine call_meetsIn ju dd.typeIs lw ha (meets_dict_pop_there (zbp X.prog X.w) a (zm5 ry) more hm hp)
  ⟨vs,w',dd,by rw [<- b.length]; exact z,hw,fun h' c hs=>h w' _ ?_ d⟩
 have he:∃ q,h'.get? a=some q:=let ⟨q,_,_,hq,_⟩:=c; ⟨q,hq⟩
 exact zkz I (by rw [e]; exact True.intro) hs he (zrv (gf (zxq kvs k) z) hd (b.drop k) c)
theorem z21 {r:Value}{Q:Value->Shared->Prop}(I:Inv X pins σ H s)(e:H a=some (.dK kvs))(ry:zcb (kV k) u)(l:zee kvs k=none)(h:∀ s',Inv X pins σ H s'->Q r s') :
  wpAny (model X.prog X.w) A (call (.builtin "dict.pop") [.ref a,u,r]) Q E s:=by
 obtain ⟨z,hd,vs,b,dd⟩:=zqt I.hok e
 have hn:valueAt vs k=none:=zn1.none_of (by rw [<- l]; exact b.val k)
 have hp:(keyPart u).isSome=true:=by
  cases k with
  | inl i=>obtain ⟨t,q⟩:=(show ∃ t,u=Value.int i t from ry); subst q; rfl
  | inr x=>obtain ⟨t,q⟩:=(show ∃ t,u=Value.str x t from ry); subst q; rfl
 exact call_meetsIn ju dd.typeIs lw (PySem.F.args_dict_pop_3 _ _ _) (meets_dict_pop_default (zbp X.prog X.w) a (zm5 ry) hd hp r) ⟨vs,dd,hn,h _ (I.tok _)⟩
end
def z5n (i:Expr):Prop:=∀ ov iv,subscripted i false ov iv=operate [ov,iv] (getItem ov iv)
theorem z1e {prog:Program}{w:World}{A:Around}{E:Value->Shared->Prop}{s:Shared}{env:Env}{value slice:Expr}{pos:Pos}{T id:String}{Q:Value->Shared->Prop}
  (hl:typeLookup (.type T) "__getitem__" = pure (some (.builtin id)))(hs:z5n slice)
  (h:wpAny (model prog w) A (eval value env) (fun o s₁=>wpAny (model prog w) A (eval slice env) (fun i s₂=>s₂.TypeIs o T/\wpAny (model prog w) A (getItem o i) Q E s₂) E s₁) E s) :
  wpAny (model prog w) A (eval (.Subscript value slice pos) env) Q E s:=by
 refine Subscript_ (wpAny_mono h (fun o s₁ h₁=>wpAny_mono h₁ (fun i s₂ h₂=>?_) fun _ _ x=>x) fun _ _ x=>x)
 obtain ⟨hT,h₂⟩:=h₂
 unfold subscriptTail
 refine wpAny_bind ?_
 rw [getitemInPython_of_ne hT.not_modules]
 refine wpAny_bind (wpAny_specialOf hT hl ?_)
 have a:wpAny (model prog w) A (subscripted slice false o i) (fun r s₃=>wpAny (model prog w) A (letTemporaryGo value o r >>= fun _=>pure r) Q E s₃) E s₂:=by
  rw [hs o i]
  exact wpAny_operating (wpAny_mono h₂ (fun r s₃ h₃=>wpAny_bind (wpAny_letTemporaryGo (wpAny_pure h₃))) fun _ _ x=>x)
 first
  | exact wpAny_pure (wpAny_bind a)
  | exact wpAny_bind (wpAny_pure (wpAny_bind a))
  | exact wpAny_bind a
theorem zqs {X:Cx}{pins:List (Addr × Obj)}{σ:St}{H:Hp}{s:Shared}{a:Addr}{y:V}{o:Option V}(I:Inv X pins σ H s)(g:zik H a y o):s.TypeIs (.ref a) "dict" :=by
 rcases g with ⟨kvs,k,e,_,_⟩ | ⟨kvs,k,b,e,_,_,_⟩
 ·obtain ⟨_,_,vs,_,dd⟩:=zlx I.hok e
  exact dd.typeIs
 ·obtain ⟨_,_,xs,_,dd⟩:=zs1 I.hok e
  exact dd.typeIs
def z5l (td ty:TE):TE:=fun σ H Q=>td σ H fun x H1=>ty σ H1 fun y H2=>∃ a v,x = .ref a/\zik H2 a y (some v)/\Q v H2
def z50 (ty td:TE):TE:=fun σ H Q=>ty σ H fun y H1=>td σ H1 fun x H2=>∃ a o,x = .ref a/\zik H2 a y o/\Q (.bl o.isSome) H2
def zzt (ty td:TE):TE:=fun σ H Q=>ty σ H fun y H1=>td σ H1 fun x H2=>∃ a o,x = .ref a/\zik H2 a y o/\Q (.bl (!o.isSome)) H2
def z40 (td ty tv:TE):TS:=fun D σ H=>tv σ H fun v H1=>td σ H1 fun x H2=>ty σ H2 fun y H3=>∃ a H4,x = .ref a/\zpc H3 a y v H4/\D.nx σ H4
section
variable {X:Cx} {o i value:Expr} {pos pos':Pos} {td ty tv:TE}
theorem zep (hu:X.A.units+1<cLine)(ho:PE X o td)(hi:PE X i ty)(hs:z5n i):PE X (.Subscript o i pos) (z5l td ty):=by
 intro pins s σ H Q I h
 refine z1e PySem.F.slot_dict_getitem.lookup hs (thn (ho pins s σ H _ I h) fun u s1 ⟨x,H1,I1,rx,q1⟩=>thn (hi pins s1 σ H1 _ I1 q1) fun iv s2 ⟨y,H2,I2,ry,a,v,ex,g,q2⟩=>?_)
 subst ex
 obtain rfl:u=Value.ref a:=rx
 exact ⟨zqs I2 g,zuq hu I2 g ry fun w' s3 I3 b=>⟨v,H2,I3,b,q2⟩⟩
theorem z2p (hu:X.A.units+1<cLine)(hi:PE X i ty)(ho:PE X o td):PC X .In i o (z50 ty td):=by
 intro pins s σ H Q I h
 refine thn (hi pins s σ H _ I h) fun iv s1 ⟨y,H1,I1,ry,q1⟩=>thn (ho pins s1 σ H1 _ I1 q1) fun u s2 ⟨x,H2,I2,rx,a,ov,ex,g,q2⟩=>?_
 subst ex
 obtain rfl:u=Value.ref a:=rx
 exact z6g hu I2 g ry fun s3 I3=>⟨.bl ov.isSome,H2,I3,rfl,q2⟩
theorem zn3 (hu:X.A.units+1<cLine)(hi:PE X i ty)(ho:PE X o td):PC X .NotIn i o (zzt ty td):=by
 intro pins s σ H Q I h
 refine thn (hi pins s σ H _ I h) fun iv s1 ⟨y,H1,I1,ry,q1⟩=>thn (ho pins s1 σ H1 _ I1 q1) fun u s2 ⟨x,H2,I2,rx,a,ov,ex,g,q2⟩=>?_
 subst ex
 obtain rfl:u=Value.ref a:=rx
 exact z0d hu I2 g ry fun s3 I3=>⟨.bl (!ov.isSome),H2,I3,rfl,q2⟩
theorem zix (hu:X.A.units+1<cLine)(ho:PE X o td)(hi:PE X i ty)(hv:PE X value tv)(hs:swapsWith value (some (.Subscript o i pos')) pos.line X.env=pure false) :
  PS X (.Assign [.Subscript o i pos'] value pos) (z40 td ty tv):=by
 intro pins s σ H D I h
 refine wpAny_Assign_Subscript (thn (hv pins s σ H _ I h) fun r s1 ⟨v,H1,I1,rv,q1⟩=>thn (ho pins s1 σ H1 _ I1 q1) fun u s2 ⟨x,H2,I2,rx,q2⟩=>thn (hi pins s2 σ H2 _ I2 q2) fun iv s3 ⟨y,H3,I3,ry,a,H4,ex,g,q3⟩=>?_) hs
 subst ex
 obtain rfl:u=Value.ref a:=rx
 exact ztp hu I3 g ry rv fun s4 I4=>⟨σ,H4,I4,q3⟩
end
theorem zrp {P:Program}{w:World}{H:Hp}(h:Heap)(hb:sysModules<h.objs.size):zcl P w H (h.push { cls:= .type "dict",data:= .dict #[] }) h.objs.size (.dK []) :=
 ⟨im _,beq_eq_false_iff_ne.mpr (Ne.symm (gc hb)),[],.nil,Heap.DictOf.new h⟩
def z3n:TE:=fun _ H Q=>∀ p,H p=none->Q (.ref p) (upd H p (.dK []))
section
variable {X:Cx} {pos:Pos}
theorem zj3:PE X (.Dict [] [] pos) z3n:=fun pins s σ H Q I h =>
 wpAny_Dict_empty ⟨.ref s.heap.objs.size,_,I.laid (a:=s.heap.objs.size) (o:= .dK []) (t':=s.toks) (fun _ _ q=>Heap.get?_push_of_some _ q) (gd _) (zrp s.heap I.big),rfl,h _ (I.hok.fresh (gd _))⟩
end
def zt0:List (TE × TE)->St->Hp->(List (V × V)->Hp->Prop)->Prop
 | [],_,H,Q=>Q [] H
 | (tk,tv) :: r,σ,H,Q=>tk σ H fun x H1=>tv σ H1 fun y H2=>zt0 r σ H2 fun ps H3=>Q ((x,y) :: ps) H3
abbrev VV:List (V × V)->List (Value × Value)->Prop:=Paired fun p q=>zcb p.1 q.1/\zcb p.2 q.2
def PPs (X:Cx)(pos:Pos)(keys:List (Option Expr))(values:List Expr)(trs:List (TE × TE)):Prop :=
 ∀ (pins:List (Addr × Obj)) (s:Shared) (σ:St) (H:Hp) (Q:List (V × V)->Hp->Prop),Inv X pins σ H s->zt0 trs σ H Q ->
  wpAny (model X.prog X.w) X.A (evalPairs (pairTrees keys values X.env pos)) (fun vs s'=>∃ ps H',Inv X pins σ H' s'/\VV ps vs/\Q ps H') X.xe s
theorem z08 {X:Cx}{pos:Pos}:PPs X pos [] [] []:=fun pins s σ H Q I h=>pairTrees_nil_walk ⟨[],H,I,.nil,h⟩
theorem zww {X:Cx}{pos:Pos}{k v:Expr}{ks:List (Option Expr)}{vs:List Expr}{tk tv:TE}{trs:List (TE × TE)}(hk:PE X k tk)(hv:PE X v tv)(hr:PPs X pos ks vs trs) :
  PPs X pos (some k :: ks) (v :: vs) ((tk,tv) :: trs):=fun pins s σ H Q I h =>
 pairTrees_cons_walk (thn (hk pins s σ H _ I h) fun u s1 ⟨x,H1,I1,rx,q1⟩=>thn (hv pins s1 σ H1 _ I1 q1) fun w2 s2 ⟨y,H2,I2,ry,q2⟩ =>
  thn (hr pins s2 σ H2 _ I2 q2) fun ws s3 ⟨ps,H3,I3,rel,q3⟩=>⟨(x,y) :: ps,H3,I3,.cons ⟨rx,ry⟩ rel,q3⟩)
def zi_ (kvs more:List (Key × V)):List (Key × V):=more.foldl (fun acc kv=>zec acc kv.1 kv.2) kvs
theorem KV.merge:∀ {more:List (Key × V)} {rs:List (Key × Value)} {kvs:List (Key × V)} {vs:List (Key × Value)},KV more rs->KV kvs vs->KV (zi_ kvs more) (merged vs rs):=by
 intro more rs kvs vs r
 unfold KV at r
 induction r generalizing kvs vs with
 | nil=>intro q; exact q
 | @cons p q ps qs h t ih =>
  intro r0
  have e:KV (zec kvs p.1 p.2) (stored vs q.1 q.2):=by
   have:=r0.put p.1 h.2
   rw [<- h.1]; exact this
  exact ih e
theorem zh0:∀ (more kvs:List (Key × V)),(zi_ kvs more).length<=kvs.length+more.length
 | [],kvs=>by show kvs.length<=kvs.length+0; omega
 | p :: r,kvs=>by
  have h1:=zh0 r (zec kvs p.1 p.2)
  have h2:=zf2 kvs p.1 p.2
  show (zi_ (zec kvs p.1 p.2) r).length<=_
  rw [gs]; omega
theorem zma {P:Program}{w:World}:∀ {kvs:List (Key × V)} {ws:List (Value × Value)},VV (kvs.map fun kv=>(kV kv.1,kv.2)) ws->∃ rs,Carries (zbp P w) ws rs/\KV kvs rs
 | [],_,r=>by rw [mi] at r; cases r; exact ⟨[],True.intro,.nil⟩
 | p :: kvs,_,r=>by
  rw [gu] at r
  cases r with
  | @cons a b as bs h t =>
   obtain ⟨rs,c,q⟩:=zma (P:=P) (w:=w) t
   obtain ⟨b1,b2⟩:=b
   exact ⟨(p.1,b2) :: rs,⟨zm5 h.1,rfl,c⟩,.cons ⟨rfl,h.2⟩ q⟩
def z4v (trs:List (TE × TE)):TE:=fun σ H Q=>∀ p,H p=none->zt0 trs σ (upd H p (.dK [])) fun ps H2=>H2 p=some (.dK [])/\∃ kvs:List (Key × V),ps=kvs.map (fun kv=>(kV kv.1,kv.2))/\kvs.length<=15/\Q (.ref p) (upd H2 p (.dK (zi_ [] kvs)))
theorem z0a {X:Cx}{pos:Pos}{keys:List (Option Expr)}{values:List Expr}{trs:List (TE × TE)}(h:PPs X pos keys values trs)(hall:keys.all (·.isSome)=true)(hl:keys.length=values.length)(h0:keys≠[])
  (h15:keys.length<=15):PE X (.Dict keys values pos) (z4v trs):=by
 intro pins s σ H Q I q
 have hn:=I.hok.fresh (gd s.heap.objs.size)
 have I1:=I.laid (a:=s.heap.objs.size) (o:= .dK []) (h':=s.heap.push { cls:= .type "dict",data:= .dict #[] }) (t':=s.toks) (fun _ _ q=>Heap.get?_push_of_some _ q) (gd _) (zrp s.heap I.big)
 refine wpAny_Dict_walk (knd:=zbp X.prog X.w) hall hl h0 h15 (thn (h pins _ σ _ _ I1 (q _ hn)) fun ws s2 ⟨ps,H2,I2,d,e,kvs,ep,lk,q2⟩=>?_)
 subst ep
 obtain ⟨rs,c,rk⟩:=zma (P:=X.prog) (w:=X.w) d
 obtain ⟨z,hd,f,r0,dd⟩:=zqt I2.hok e
 cases r0
 refine ⟨rs,c,dd,fun h' b hs=>⟨.ref s.heap.objs.size,_,?_,rfl,q2⟩⟩
 have hz:(zi_ [] kvs).length<=sizeLine:=by
  have h1:=zh0 kvs []
  rw [jk] at h1
  rw [sizeLine_eq]; omega
 have he:∃ q,h'.get? s.heap.objs.size=some q:=let ⟨q,_,_,hq,_⟩:=b; ⟨q,hq⟩
 exact zkz I2 (by rw [e]; exact True.intro) hs he (zrv hz hd (rk.merge .nil) b)
structure M1 (X:Cx)(o:Expr)(m:Str)(apos:Pos)(e:Expr)(cpos:Pos):Prop where
 base:attributeBase o m X.env (eval o X.env)=eval o X.env
 few:((backTo cpos (starEach [e] X.env)).all (fun x=> !x.1) && (backToKw cpos (keywordEach [] X.env)).all (fun x=>x.1.isSome)
  && decide (([e]:List Expr).length+([]:List Keyword).length+(if ([]:List Keyword).isEmpty then 0 else 1)<30))=true
 line:(apos.endLine == cpos.line)=true
 trees:backTo cpos (starEach [e] X.env)=[(false,eval e X.env)]
structure M2 (X:Cx)(o:Expr)(m:Str)(apos:Pos)(e f:Expr)(cpos:Pos):Prop where
 base:attributeBase o m X.env (eval o X.env)=eval o X.env
 few:((backTo cpos (starEach [e,f] X.env)).all (fun x=> !x.1) && (backToKw cpos (keywordEach [] X.env)).all (fun x=>x.1.isSome)
  && decide (([e,f]:List Expr).length+([]:List Keyword).length+(if ([]:List Keyword).isEmpty then 0 else 1)<30))=true
 line:(apos.endLine == cpos.line)=true
 trees:backTo cpos (starEach [e,f] X.env)=[(false,eval e X.env),(false,eval f X.env)]
def IsD (H:Hp)(a:Addr):Prop:=(∃ kvs,Rd H a (.dK kvs))\/∃ kvs,Rd H a (.dT kvs)
theorem ztx {X:Cx}{pins:List (Addr × Obj)}{σ:St}{H:Hp}{s:Shared}{a:Addr}(I:Inv X pins σ H s)(d:IsD H a) :
  s.TypeIs (.ref a) "dict" /\(∀ b,Value.ref a = .ref b->∃ ob,s.heap.get? b=some ob/\ob.dict=none)/\(a == sysModules)=false:=by
 rcases d with ⟨kvs,e⟩ | ⟨kvs,e⟩
 ·obtain ⟨_,hd,vs,_,dd⟩:=zlx I.hok e
  refine ⟨dd.typeIs,fun b q=>?_,hd⟩
  cases q
  obtain ⟨ob,_,_,h1,h2,_⟩:=dd
  exact ⟨ob,h1,h2.2.1⟩
 ·obtain ⟨_,hd,xs,_,dd⟩:=zs1 I.hok e
  refine ⟨dd.typeIs,fun b q=>?_,hd⟩
  cases q
  obtain ⟨ob,_,_,h1,h2,_⟩:=dd
  exact ⟨ob,h1,h2.2.1⟩
def z2h (td ty:TE):TE:=fun σ H Q=>td σ H fun x H1=>∃ a,x = .ref a/\IsD H1 a/\ty σ H1 fun y H2=>∃ kvs k v,H2 a=some (.dK kvs)/\y=kV k/\zee kvs k=some v/\Q v (upd H2 a (.dK (zeb kvs k)))
def z22 (td ty tx:TE):TE:=fun σ H Q=>td σ H fun x H1=>∃ a,x = .ref a/\IsD H1 a/\ty σ H1 fun y H2=>tx σ H2 fun z H3=>∃ kvs k,H3 a=some (.dK kvs)/\y=kV k /\
 (∀ v,zee kvs k=some v->Q v (upd H3 a (.dK (zeb kvs k))))/\(zee kvs k=none->Q z H3)
section
variable {X:Cx} {o e f:Expr} {apos cpos:Pos} {td ty tx:TE}
theorem zr0 (ho:PE X o td)(he:PE X e ty)(m:M1 X o "pop" apos e cpos):PE X (.Call (.Attribute o "pop" apos) [e] [] cpos) (z2h td ty):=by
 intro pins s σ H Q I h
 refine wpAny_Call_method m.base m.few m.line k6 ju m8 (thn (ho pins s σ H _ I h) fun u s1 ⟨x,H1,I1,rx,a,ex,d,q1⟩=>?_)
 subst ex
 obtain rfl:u=Value.ref a:=rx
 obtain ⟨t1,t2,_⟩:=ztx I1 d
 refine ⟨t1,t2,?_⟩
 rw [m.trees]
 refine Calls.callWith_builtin rfl (Calls.evalArgs_plain (Calls.spliced_cons (thn (he pins s1 σ H1 _ I1 q1) fun iv s2 ⟨y,H2,I2,ry,kvs,k,v,ea,ey,l,q2⟩=>Calls.spliced_nil ?_)))
 subst ey
 exact z28 I2 ea ry l (.inl rfl) fun w' s3 I3 b=>⟨v,_,I3,b,q2⟩
theorem zxo (ho:PE X o td)(he:PE X e ty)(hf:PE X f tx)(m:M2 X o "pop" apos e f cpos):PE X (.Call (.Attribute o "pop" apos) [e,f] [] cpos) (z22 td ty tx):=by
 intro pins s σ H Q I h
 refine wpAny_Call_method m.base m.few m.line k6 ju m8 (thn (ho pins s σ H _ I h) fun u s1 ⟨x,H1,I1,rx,a,ex,d,q1⟩=>?_)
 subst ex
 obtain rfl:u=Value.ref a:=rx
 obtain ⟨t1,t2,_⟩:=ztx I1 d
 refine ⟨t1,t2,?_⟩
 rw [m.trees]
 refine Calls.callWith_builtin rfl (Calls.evalArgs_plain (Calls.spliced_cons (thn (he pins s1 σ H1 _ I1 q1) fun iv s2 ⟨y,H2,I2,ry,q2⟩ =>
  Calls.spliced_cons (thn (hf pins s2 σ H2 _ I2 q2) fun fv s3 ⟨z,H3,I3,rz,kvs,k,ea,ey,q3,q4⟩=>Calls.spliced_nil ?_))))
 subst ey
 cases l:zee kvs k with
 | some v=>exact z28 I3 ea ry l (.inr ⟨fv,rfl⟩) fun w' s4 I4 b=>⟨v,_,I4,b,q3 v l⟩
 | none=>exact z21 I3 ea ry l fun s4 I4=>⟨z,H3,I4,rz,q4 l⟩
end
end L2
namespace L2
open PySem PySem.Spec PyProof.Rows
theorem zm7:bootBuiltins "ValueError" = some (.type "ValueError"):=by decide +kernel
section
variable {P:Program} {w:World} {K:W.Frag} {mg:Str->Option Value} {base:Heap}
theorem Fun.okX {x qual:Str}{st:Stmt}{f:Addr}{fd:FuncData}{N ps:List Str}{k:Nat}{sp:Sp}(F:Fun K x qual st f fd)(S:zaj N ps (zah st))(len:∀ vs H Q E,sp vs H Q E->vs.length=ps.length)
  (hbody:∀ (cdv:Value) (A:Around) (outer:List Env) (s:Shared) (H:Hp) (vs:List V) (Q:VK) (E:XK),zed k (A.deeper (envOfC qual (zah st) s.heap.objs.size f cdv))->sp vs H Q E ->
   ∃ t,PSs (zn0 (CXR P w) P w K mg base N qual (zah st) f cdv A outer s H E) (zbk st) t/\t { nx:=fun _ H'=>Q .non H',rt:=Q } (start N vs) H):zc_ P w K mg base (CXR P w) (k+1) f fd ps sp:=by
 obtain ⟨oc,od,kV,doc,pm,an,cdv,ct,osl,rfl,lk,b⟩:=F.ex
 exact z00 lk b S len fun A outer s H vs Q E hr a=>hbody cdv A outer s H vs Q E hr a
end
section
open PySem.W PySem.Builtin PySem.Builtin.ObjectAttr PySem.Builtin.Getset_descriptor
variable {K:Frag} {D x:Addr} {prog:Program} {w:World} {A:Around} {E:Value->Shared->Prop} {s:Shared}
theorem z1b (h1:findIn K (.ref D) "__getattribute__" = some (some (.builtin "BaseException.__getattribute__")))(h2:findIn K (.ref D) "__getattr__" = some none)(ha:findIn K (.ref D) "__class__" = some (some (.builtin "object.__class__")))(hn:specialIn K (.builtin "object.__class__") "__get__" = some (some (.builtin "getset_descriptor.__get__")))
  (htk:takesIn K (.builtin "object.__class__")=some true)(hm:mroIn K D (.type "object")=some true)(hb:mroIn K D (.type "BaseException")=some true){Q:Option Value->Shared->Prop}(X:K.In s.heap)(T:OfC s.heap x D)(q:Q (some (.ref D)) { s with toks:=s.toks+1 }):wpAny (model prog w) A (getAttr? (.ref x) "__class__") Q E s:=by
 obtain ⟨hh,gg,dr,tk,oo⟩:=s
 have T0:=T.ty (M:=model prog w)
 have T1:=looks_findIn (M:=model prog w) X h1
 have T2:=looks_findIn (M:=model prog w) X h2
 have T3:=z3v (M:=model prog w) (x:=x) X ha hn htk
 have T4:=looks_mroIn (M:=model prog w) X hm
 have T5:=looks_mroIn (M:=model prog w) X hb
 have c:(onTheHeap (Value.ref D) && Value.builtin "BaseException.__getattribute__" == Value.builtin "object.__getattribute__")=false:=by
  have:(Value.builtin "BaseException.__getattribute__" == Value.builtin "object.__getattribute__")=false:=by decide +kernel
  rw [this]
  exact Bool.and_false _
 have f3:=F.excAttr_ValueError.ga.bind (.ref x)
 unfold getAttr? getAttrBy? getAttrBy
 refine wpAny_bind (wpAny_mkText (wpAny_bind (wpAny_attempt (wpAny_holding (wpAny_bind (T0.at (wpAny_bind (T1.at ?_))))))))
 dsimp only
 rw [c]
 show wpAny _ _ (getAttrByItsOwn _ _ _ _ _ _) _ _ _
 unfold getAttrByItsOwn hookBefore
 refine wpAny_bind (T2.at (wpAny_bind (wpAny_attempt (wpAny_holding ?_))))
 show wpAny _ _ (boundAndCalled _ _ _) _ _ _
 unfold boundAndCalled
 rw [f3]
 refine wpAny_bind (wpAny_pure ?_)
 have b:∀ (A':Around) (Q':Unit->Shared->Prop) (E':Value->Shared->Prop) (nv:Value),Q' () ⟨hh,gg,dr,tk+1,oo⟩->wpAny (model prog w) A' (checkBuiltinCall "BaseException.__getattribute__" ⟨[.ref x,nv],[]⟩) Q' E' ⟨hh,gg,dr,tk+1,oo⟩:=fun A' Q' E' nv hq=>by
  have hk:builtinKind "BaseException.__getattribute__" = some .slot:=by decide +kernel
  have a:splitId "BaseException.__getattribute__" = some ("BaseException","__getattribute__"):=by decide +kernel
  have ha:=F.args_bexc_ga (.ref x) nv
  simp only [checkBuiltinCall,hk,a]
  refine wpAny_bind ?_
  unfold isInstance
  have L0:=T0
  have L1:=T5
  repeat lk
  exact hq
 show wpAny _ _ (call (.builtin "BaseException.__getattribute__") [.ref x,.str "__class__" tk]) _ _ _
 refine wpAny_call (codeAny_call_builtin F.excAttr_ValueError.ga.plain F.entry_bexc_ga (b _ _ _ _ ?_))
 unfold Builtin.«object.__getattribute__»
 iterate 18 lk
 show wpAny _ _ (holding [Value.builtin "object.__class__"] (call (.builtin "getset_descriptor.__get__") [.builtin "object.__class__",.ref x,.ref D]) >>= ret) _ _ _
 refine wpAny_bind (wpAny_holding (wpAny_call (codeAny_call_builtin KF.slot_gs.plain KF.entry_gs (KF.slot_gs.check _ _ _ _ _ _ _ _ KF.type_class (KF.args_gs _ _ _) ?_))))
 unfold Builtin.«getset_descriptor.__get__»
 unfold descrGet
 rw [dga_obj]
 refine wpAny_bind (wpAny_pure ?_)
 unfold descrGetter descrCheckInstance
 unfold descrNameAndClass isInstance
 simp only [KF.owner_class]
 have L0:=T0
 have L1:=T4
 repeat lk
 refine ⟨Code.quiet_builtin _ (by decide +kernel),(codeAny_builtin KF.entry_class ?_)⟩
 unfold Builtin.«object.__class__»
 unfold shownTypeOf
 repeat lk
 exact q
structure z4l (K:Frag)(D:Addr):Prop where
 h1:findIn K (.ref D) "__getattribute__" = some (some (.builtin "BaseException.__getattribute__"))
 h2:findIn K (.ref D) "__getattr__" = some none
 hd:hasDictIn K D=true
 ha:findIn K (.ref D) "__class__" = some (some (.builtin "object.__class__"))
 hn:specialIn K (.builtin "object.__class__") "__get__" = some (some (.builtin "getset_descriptor.__get__"))
 htk:takesIn K (.builtin "object.__class__")=some true
 hm:mroIn K D (.type "object")=some true
 hb:mroIn K D (.type "BaseException")=some true
theorem z4l.kit (k:z4l K D):KitX K (.ref x) (.ref D) (fun h=>OfC h x D) where
 ty:=fun _ _ _ I=>I.ty
 it:=fun _ _ X _=>by
  obtain ⟨cdD,hcD,_⟩:=any_some k.hd
  unfold clsIn at hcD
  split at hcD
  ·rename_i c1 d1 cd1 sl1 ho
   intro A1 Q1 E1 s1 kk q
   unfold isType loadHead
   exact wpAny_bind (wpAny_loadPart (kk _ _ (X _ _ ho)) (wpAny_pure q))
  ·cases hcD
 ne:=fun h tp dd its n sl X htp=>by
  obtain ⟨cdD,hcD,_⟩:=any_some k.hd
  refine jf.mpr fun q=>?_
  have e:D=tp:=Value.ref.inj (beq_iff_eq.mp q)
  subst e
  unfold clsIn at hcD
  split at hcD
  ·rename_i c1 d1 cd1 sl1 ho
   have z:=(X _ _ ho).symm.trans htp
   cases z
  ·cases hcD
 ca:=fun X I q=>z1b k.h1 k.h2 k.ha k.hn k.htk k.hm k.hb X I q
end
theorem zdk {X:Cx}{K:W.Frag}(h:X.K=K):zjt X (.builtin "isinstance") (fun xs H Q=>∃ (e Ca:Addr) (c:Value) (y:V) (b:Bool),xs=[.ref e,y]/\H e=some (z4m e (.ref Ca))/\(∀ u,zcb y u->u=c)/\z4l K Ca/\PySem.W.kitOne K (.ref Ca) c=some b/\Q (.bl b) H):=by
 subst h
 intro pins s σ H xs us Q I r h
 obtain ⟨e,Ca,c,y,b,rfl,he,hy,ek,hk,q⟩:=h
 obtain ⟨u,w',rfl,r1,r2⟩:=z25 r
 cases (show u=Value.ref e from r1)
 cases hy _ r2
 obtain ⟨⟨o,ho,hc⟩,_⟩:=I.hok e _ he
 exact jl ek.kit I.kIn ⟨o,ho,hc⟩ hk (fun z=>nomatch z) fun tk=>⟨.bl b,H,I.tok _,rfl,q⟩
theorem z0v {ks:List Int}:∀ {us:List Value},us.length=ks.length->(∀ (j:Nat) (k:Int),ks[j]? = some k->∀ v:Value,us[j]? = some v->∃ t,v=Value.int k t)->IntsAre us ks:=by
 induction ks with
 | nil =>
  intro us hl _
  cases us with
  | nil=>exact .nil
  | cons _ _=>cases hl
 | cons k t ih =>
  intro us hl h
  cases us with
  | nil=>cases hl
  | cons u r =>
   obtain ⟨tk,rfl⟩:=h 0 k rfl u rfl
   exact .cons k tk (ih (by simpa using hl) fun j k' hk v hv=>h (j+1) k' hk v hv)
section
variable {P:Program} {w:World} {A:Around} {E:Value->Shared->Prop}
theorem zvp {s:Shared}{a:Addr}{kvs:List (Key × Value)}{ks:List Int}{ep:Nat}{Q:List Value->Shared->Prop}(hh:A.handled=none)(lo:(a == sysModules)=false)(D:s.heap.DictAt (zbp P w) a kvs ep)(hk:kvs.map (·.1)=ks.map Sum.inl)(hn:ks.length<=1000)
  (q:∀ (h':Heap) (tk:Nat) (vs:List Value),(∀ b o,s.heap.get? b=some o->h'.get? b=some o)->s.heap.objs.size<=h'.objs.size->IntsAre vs ks->Q vs { s with heap:=h',toks:=tk }):wpAny (model P w) A (collect (.ref a)) Q E s:=by
 have hl:kvs.length=ks.length:=by
  have:=congrArg km hk
  simpa using this
 have la:a<s.heap.objs.size:=D.lt_size
 unfold collect
 refine wpAny_bind (wpAny_runValue (codeAny_builtin F.entry_proto_collect ?_))
 rw [iu F.plain_proto_collect _]
 refine wpAny_bind (m:=newList []) (wpAny_newObj_type (wpAny_pure ⟨plainId_quiet F.plain_list_iadd _,codeAny_builtin F.entry_list_iadd ?_⟩))
 rw [iu F.plain_list_iadd _]
 obtain ⟨H0,g⟩:∃ H0:Heap,H0=s.heap.push { cls:= .type "list",data:= .seq ([]:List Value).toArray }:=⟨_,rfl⟩
 have k0:∀ b o,s.heap.get? b=some o->H0.get? b=some o:=fun b o e=>by rw [g]; exact Heap.get?_push_of_some _ e
 have g0:H0.get? s.heap.objs.size=some { cls:= .type "list",data:= .seq #[] }:=by rw [g]; exact Heap.get?_push_size _ rfl
 show wpAny _ A.in1 (Builtin.List.listExtendWith (.ref s.heap.objs.size) (.ref a) (.ref s.heap.objs.size)) _ _ { s with heap:=s.heap.push _ }
 rw [<- g]
 have Kd:=PySem.W.kdl_dict (prog:=P) (w:=w) (knd:=zbp P w) (kvs:=kvs) (ep:=ep) lo
 have D0:H0.DictAt (zbp P w) a kvs ep:=Kd.keep _ _ D fun b _ o e=>k0 b o e
 have h:∀ (h':Heap) (tk:Nat) (d:Array Value),(∀ b o,b≠s.heap.objs.size->H0.get? b=some o->h'.get? b=some o)->s.heap.objs.size<h'.objs.size->ItemsOf (fun i v=>∃ k x,kvs[i]? = some (k,x)/\(zbp P w).is k v=true) d kvs.length->Q d.toList { s with heap:=h',toks:=tk }:=fun h' tk d k1 z it=>by
  refine q h' tk d.toList (fun b o e=>k1 b o (gc (fw e)) (k0 b o e)) (ia z) (z0v (by rw [ja,it.1,hl]) fun j k hj v hv=>?_)
  obtain ⟨k',x,e1,e2⟩:=it.2 j v (by rw [<- Array.getElem?_toList]; exact hv)
  have e3:(kvs.map (·.1))[j]? = some k':=by rw [List.getElem?_map,e1]; rfl
  rw [hk,List.getElem?_map,hj] at e3
  cases e3
  exact Value.isInt_shape e2
 have l:=PySem.W.kdl_extend (A:=A) (s:={ s with heap:=H0 }) (R:=fun r s'=>∃ h' tk d c,r = .ok (.ret (.ref s.heap.objs.size))/\s'={ s with heap:=h',toks:=tk }/\h'.get? s.heap.objs.size=some { cls:= .type "list",data:= .seq d c }/\Q d.toList { s with heap:=h',toks:=tk })
  Kd hh D0 s.heap.objs.size (jj la) (jj la) (.ref s.heap.objs.size) 0 g0 (fun h' tk d c k1 hS it=>⟨h',tk,d,c,rfl,rfl,hS,h h' tk d k1 (fw hS) it⟩) (by rw [hl]; exact ia (zau hn))
 refine wpAny_mono l (fun f s' y=>?_) fun e s' y=>?_
 ·cases f with
  | done f =>
   obtain ⟨h',tk,d,c,e,rfl,hS,z⟩:=y
   cases e
   exact wpAny_bind (wpAny_load hS (wpAny_pure z))
  | again c1 =>
   refine ⟨y.1,codeAny_mono y.2 fun r s2 y2=>?_⟩
   obtain ⟨h',tk,d,c,rfl,rfl,hS,z⟩:=y2
   exact wpAny_bind (wpAny_load hS (wpAny_pure z))
 ·obtain ⟨_,_,_,_,e',_⟩:=y
  cases e'
theorem zyh {s:Shared}{a:Addr}{kvs:List (Key × Value)}{ks:List Int}{Q:Value->Shared->Prop}(hh:A.handled=none)(lo:(a == sysModules)=false)(D:s.heap.DictOf (zbp P w) a kvs)(hk:kvs.map (·.1)=ks.map Sum.inl)(hn:ks.length<64)
  (q:∀ (s':Shared) (r:Addr) (vs:List Value) (ns:List Int),(∀ b o,s.heap.get? b=some o->s'.heap.get? b=some o)->s'.gens=s.gens->s'.os=s.os->s.heap.objs.size<=r ->
   (∃ e,s'.heap.get? r=some (seqObj "list" vs.toArray e))->IntsAre vs ns->ns.Perm ks->ns.Pairwise (· <= ·)->Q (.ref r) s') :
  wpAny (model P w) A (call (.builtin "sorted") [.ref a]) Q E s:=by
 have hl:kvs.length=ks.length:=by
  have:=congrArg km hk
  simpa using this
 obtain ⟨ep,h⟩:=D.dictAt
 refine Calls.call_function_entry kind_sorted plain_sorted entry_sorted (args_sorted1 _) ?_
 unfold Builtin.«sorted»
 refine wpAny_bind (m:=checkCount "sorted" 1 1 _) (wpAny_pure ?_)
 refine wpAny_bind (zvp (by exact hh) lo h hk (by omega) fun h' tk c k1 z0 hi=>?_)
 have g:c.length<64:=by
  have e1:=hi.length
  omega
 refine wpAny_bind (wpAny_newList (hsz:=gf (ia g) (by decide)) ?_)
 have f:(h'.push (seqObj "list" c.toArray 0)).get? h'.objs.size=some (seqObj "list" c.toArray 0):=Heap.get?_push_size _ rfl
 show wpAny _ _ _ _ _ { s with heap:=h'.push (seqObj "list" c.toArray 0),toks:=tk }
 refine wpAny_bind (wpAny_holding (wpAny_call_entry slot_list_sort ⟨_,f,rfl⟩ entry_list_sort (list_sort_tree f hi g fun out i a1 a2 a3=>⟨_,rfl,?_⟩) (args_list_sort _)))
 obtain ⟨H1,d⟩:∃ H1,H1=h'.push (seqObj "list" c.toArray 0):=⟨_,rfl⟩
 have z2:H1.objs.size=h'.objs.size+1:=by rw [d]; exact size_push' _ _
 have kk:∀ b o,h'.get? b=some o->(sortedHeap H1 h'.objs.size c out).get? b=some o:=fun b o e=>by
  rw [sortedHeap_old (gc (fw e)) (by rw [z2]; exact iw (fw e)),d]
  exact Heap.get?_push_of_some _ e
 have ka:∃ e,(sortedHeap H1 h'.objs.size c out).get? h'.objs.size=some (seqObj "list" out e):=sortedHeap_at (n:=0) (by rw [d]; exact f)
 rw [<- d]
 generalize sortedHeap H1 h'.objs.size c out=H2 at kk ka |-
 refine wpAny_pure ⟨_,rfl,q _ _ out.toList i (fun b o e=>?_) rfl rfl ?_ ?_ a1 a2 a3⟩
 ·exact kk _ _ (k1 _ _ e)
 ·exact z0
 ·exact ka
end
section
variable {X:Cx}
theorem zjo (hc:X.calm=true):zjt X (.builtin "sorted") (fun xs H Q=>∃ (p:Addr) (kvs:List (Key × V)) (ks:List Int),xs=[.ref p]/\H p=some (.dK kvs)/\kvs.map (·.1)=ks.map Sum.inl/\ks.length<64/\∀ l,H l=none->Q (.ref l) (upd H l (.lst ((za1 ks).map V.int)))):=by
 intro pins s σ H xs us Q I r h
 obtain ⟨p,kvs,ks,rfl,hq,hk,hl,q⟩:=h
 obtain ⟨u,rfl,ru⟩:=zkr r
 cases (show u=Value.ref p from ru)
 obtain ⟨_,lo,vs,kv,dd⟩:=zqt I.hok hq
 refine zyh (I.ok.hd hc) lo dd (kv.keys.symm.trans hk) hl fun s' l us ns k1 g1 o1 z1 a hi hp hs=>?_
 obtain ⟨e,he⟩:=a
 have e2:=zj5 hp hs
 subst e2
 have fr:H l=none:=I.hok.fresh z1
 refine ⟨.ref l,upd H l (.lst ((za1 ks).map V.int)),I.call' (ch:=[]) o1 (Un.laid k1 z1 fr) ?_ (by rw [g1]; exact I.bare) (fun b hb=>absurd hb (by simp)),rfl,q _ fr⟩
 refine I.hok.laid k1 z1 ⟨by rw [d9,zbr]; exact gf (ia hl) (by decide),us,e,ze8 hi,he⟩
end
section
variable {X:Cx} {CX:CXT} {k:Nat} {f C:Addr} {fd:FuncData} {ps:List Str} {sp:Sp} {dvs:List V} {ds:List Value} {Th:St->XK} {x m:Str} {pos apos:Pos} {e o:Expr} {es:List Expr} {ta:TE} {t:TA}
def z3o (CX:CXT)(X:Cx)(Th:St->XK):Prop:=∀ (pl:List (Addr × Obj)) (σ:St) (H:Hp) (s:Shared) (ev:Value) (s':Shared),Inv X pl σ H s->CX X.stack H s (Th σ) ev s'->X.xe ev s'
theorem zzk {pins:List (Addr × Obj)}{σ:St}{H:Hp}{s:Shared}{Q:VK}{us:List Value}{vs:List V}(F:zc_ X.prog X.w X.K X.mg X.base CX k f fd ps sp)(hr:zed k X.A)(hb:zci X.K fd ps ds)(hd:zb8 dvs ds)(hx:z3o CX X Th)(I:Inv X pins σ H s)(r:zb8 vs us)
  (q:sp (vs++dvs) H Q (Th σ)):wpAny (model X.prog X.w) X.A (call (.ref f) us) (EP X pins σ Q) X.xe s:=by
 have r2:zb8 (vs++dvs) (us++ds):=r.append hd
 have hl:(us++ds).length=ps.length:=by rw [<- r2.length]; exact F.len _ _ _ _ q
 refine wpAny_call (codeAny_mono (F.run X.A X.stack s H ⟨us,[]⟩ (us++ds) (vs++dvs) Q (Th σ) hr I.env0 (hb s us I.kIn hl) r2 q) fun z s' hq=>?_)
 cases z with
 | error ev=>exact hx pins σ H s ev s' I hq
 | ok fl =>
  cases fl with
  | ret u=>exact I.after hq
  | next=>exact hq.elim
  | brk=>exact hq.elim
  | cont=>exact hq.elim
def z2o (C:Addr)(m:Str)(sp:Sp)(dvs:List V)(Th:St->XK)(ta:TE)(t:TA):TE:=fun σ H Q=>ta σ H fun x H1=>∃ a dx fs,x = .ref a/\H1 a=some (.ins C dx fs)/\fs.lookup m=none /\
 t σ H1 fun vs H2=>sp (x :: (vs++dvs)) H2 Q (Th σ)
theorem zq8 {pl:Sem Bool}(he:PE X o ta)(c:Cls X.K C)(hm:zz8 X.K C m f)(F:zc_ X.prog X.w X.K X.mg X.base CX k f fd ps sp)(hr:zed k X.A)(hb:zci X.K fd ps ds)(hd:zb8 dvs ds)(hx:z3o CX X Th)(ha:PA X (e :: es) t)
  (hst:starEach (e :: es) X.env=(false,eval e X.env) :: starEach es X.env:=by rfl)(hpl:(backTo pos (starEach es X.env)).any (·.1)=false:=by rfl)
  (ht:eval (.Call (.Attribute o m apos) (e :: es) [] pos) X.env=(do
   let ov <- eval o X.env
   standAt apos.atName
   let (f,first) <- holding [ov] (getMethod ov m pl)
   callWith pos f first (backTo pos (starEach (e :: es) X.env)) (backToKw pos (keywordEach [] X.env))):=by rfl) :
  PE X (.Call (.Attribute o m apos) (e :: es) [] pos) (z2o C m sp dvs Th ta t):=by
 intro pins s σ H Q I h
 refine kr (pl:=pl) (thn (he pins s σ H _ I h) fun u s1 ⟨x,H1,I1,rx,a,dx,fs,ex,ea,l,q⟩=>?_) ht
 subst ex
 obtain rfl:u=Value.ref a:=rx
 refine zil I1 ea c hm l ?_
 refine k7 (first:=[.ref a]) (h₀:=X.base) I1.ok.mod.kin hm.kp (thn (ha pos pins s1 σ H1 _ I1 q) fun us s2 ⟨vs,H2,I2,r,q2⟩=>⟨I2.kIn,?_⟩) hst hpl
 exact zzk (us:= .ref a :: us) (vs:= .ref a :: vs) F hr hb hd hx I2 (.cons rfl r) q2
end
structure zzb (K:W.Frag)(C:Addr)(m qual:Str)(st:Stmt)(ps:List Str) where
 f:Addr
 c:Addr
 P:Addr
 fd:FuncData
 ex:∃ (oc:Value) (od:Option Addr) (kV doc pm:Value) (an:Option Addr) (ct:Value) (osl:Array (Option Value)),
  fd=PySem.W.fnOf m qual (zb5 st) (zbk st) (zah st) .none kV doc pm an (.ref c) ct/\K.lookup f=some ⟨oc,od,.func fd,osl⟩
 cd:PySem.W.codeIn K (.ref c) qual=true
 ch:PySem.W.codeHdIn K c P=true
 nt:K.lookup P=none
 me:zz8 K C m f
 b:zci K fd ps []
section
variable {P:Program} {w:World} {K:W.Frag} {mg:Str->Option Value} {base:Heap}
theorem zzb.ok {C:Addr}{m qual:Str}{st:Stmt}{N ps fz:List Str}{k:Nat}{sp:Sp}(D:zzb K C m qual st ps)(hK:K.In base)(S:zaj N ps (zah st))(hfz:∀ x∈fz,(zah st).names.lookup x=some .cell)(len:∀ vs H Q E,sp vs H Q E->vs.length=ps.length)
  (hbody:∀ (A:Around) (outer:List Env) (s:Shared) (H:Hp) (vs:List V) (Q:VK) (E:XK),zed k (A.deeper (envOfC qual (zah st) s.heap.objs.size D.f (.ref D.c)))->sp vs H Q E ->
   ∀ H1:Hp,zax H H1->(∀ (i:Nat) y v,y∈fz->ps[i]? = some y->vs[i]? = some v->∃ c,(envOfC qual (zah st) s.heap.objs.size D.f (.ref D.c)).cells.lookup y=some c/\zez H1 c v)->PySem.W.CodeHd base D.c D.P ->
   ∃ t,PSs (zn0 CX0 P w K mg base N qual (zah st) D.f (.ref D.c) A outer s H E (fun y=> !fz.contains y)).nox (zbk st) t/\t { nx:=fun _ H'=>Q .non H',rt:=Q } (start N vs) H1) :
  zc_ P w K mg base CX0 (k+1) D.f D.fd ps sp:=by
 have hC:=lq hK D.ch
 obtain ⟨f,c,T,fd,⟨oc,od,kV,doc,pm,an,ct,osl,rfl,lk⟩,cd,ch,nt,me,b⟩:=D
 exact zy_ lk cd S hfz len fun A outer s H vs Q E hr a H1 sm hc=>hbody A outer s H vs Q E hr a H1 sm hc hC
end
def z5a (a:Addr)(o:Obj)(kvs:List (Key × V)):It :=
 ⟨fun i H=>H a=some (.frz o (.dK kvs))/\i<kvs.length,fun i H x H'=>H'=H/\∃ kv,kvs[i]? = some kv/\x=kV kv.1,fun i H=>H a=some (.frz o (.dK kvs))/\kvs.length<=i⟩
theorem zt3 {P:Program}{w:World}{K:W.Frag}{tg:Expr}{a it:Addr}{o:Obj}{kvs:List (Key × V)}{vs:List (Key × Value)}{ep:Nat}(rel:KV kvs vs)(hat:∀ h:Heap,h.get? a=some o->h.DictAt (zbp P w) a vs ep) :
  z3e P w K tg (z5a a o kvs) [it] it (fun i h=>h.IsKeyIter it a i vs.length ep) where
 mem:=by simp
 obj:=fun i h st b hb=>by
  have e:b=it:=by simpa using hb
  subst e
  obtain ⟨o,e,c,d⟩:=st
  exact ⟨o,e,fun v z=>by rw [d] at z; cases z⟩
 keep:=fun i h h' st k=>by
  obtain ⟨o,e,c,d⟩:=st
  exact ⟨o,k it (by simp) o e,c,d⟩
 item:=by
  intro X hP hw hK hc i pins s σ H E I hf st hg
  subst hP hw hK
  obtain ⟨hz,u⟩:=hg
  obtain ⟨f0,f1,f2,f3,f4,f5⟩:=hf it (by simp)
  obtain ⟨ho,_⟩:=I.hok a _ hz
  have m:=rel.length
  obtain ⟨⟨k,x⟩,hx⟩:∃ p,vs[i]? = some p:=⟨vs[i],by simp⟩
  obtain ⟨⟨k',x'⟩,g⟩:∃ p,kvs[i]? = some p:=⟨kvs[i],by simp⟩
  have ek:k'=k:=by
   have e1:=congrArg (fun l=>l[i]?) rel.keys
   simp only [List.getElem?_map,hx,g,ml] at e1
   exact Option.some.inj e1
  refine wpAny_pyNext_dict_item st (hat _ ho) hx fun q h' f n sb=>?_
  have I1:Inv X pins σ H { s with heap:=h' }:=I.turned (t':=s.toks) (fun b o hb e=>(sb.2 b hb).trans e) f0 f1 f3 f4 f5
  obtain ⟨o',e,c,d⟩:=id n
  have rk:zcb (kV k') q:=by
   rw [ek]
   rcases zb2 f with ⟨j,t,rfl,rfl⟩ | ⟨y,t,rfl,rfl⟩
   ·exact ⟨t,rfl⟩
   ·exact ⟨t,rfl⟩
  exact ⟨q,rfl,zzo (s:={ s with heap:=h' }) e c d (by decide) ⟨kV k',H,I1,rk,⟨rfl,_,g,rfl⟩,n,fun b hb=>(hf b hb).1⟩⟩
 done:=by
  intro X hP hw hK hc i pins s σ H E I hf st hg
  subst hP hw hK
  obtain ⟨hz,r⟩:=hg
  obtain ⟨f0,f1,f2,f3,f4,f5⟩:=hf it (by simp)
  obtain ⟨ho,_⟩:=I.hok a _ hz
  have m:=rel.length
  exact wpAny_pyNext_dict_end (I.ok.hd hc) st (hat _ ho) (by simp; omega) fun h' eb=>⟨rfl,I.turned (t':=s.toks) (fun b o hb e=>eb b o hb e) f0 f1 f3 f4 f5⟩
 self:=fun _ _ _ _ _ st h=>wpAny_pyIter_keyiter st h
theorem Inv.ice {X:Cx}{pins:List (Addr × Obj)}{σ:St}{H:Hp}{s:Shared}{a:Addr}{kvs:List (Key × V)}(I:Inv X pins σ H s)(e:H a=some (.dK kvs)):∃ o,s.heap.get? a=some o/\Inv X pins σ (upd H a (.frz o (.dK kvs))) s:=by
 obtain ⟨z1,z2,vs,g,dd⟩:=zqt I.hok e
 obtain ⟨o,es,ep,ho,r⟩:=id dd
 refine ⟨o,ho,I.ok,I.os,I.bare,⟨I.base.keep,I.base.slot,fun b u q n hx=>?_,I.base.there,fun b xs q=>?_,fun b u k q=>?_,fun b ps q=>?_⟩,I.loc,I.cell,?_,fun y c q=>?_,fun p hp=>?_,fun b u q=>?_,I.len⟩
 ·have z:=I.base.free b u q n hx
  rw [zac (fun y=>by rw [y,e] at z; cases z)]
  exact z
 ·have z:=I.base.tups b xs q
  rw [zac (fun y=>by rw [y,e] at z; cases z)]
  exact z
 ·have z:=I.base.frzs b u k q
  rw [zac (fun y=>by rw [y,e] at z; cases z)]
  exact z
 ·obtain ⟨m,z⟩:=I.base.tbls b ps q
  exact ⟨m,by rw [zac (fun y=>by rw [y,e] at z; cases z)]; exact z⟩
 ·rw [zac (fun y=>by have z:=I.free; rw [y,e] at z; cases z)]
  exact I.free
 ·have z:=I.freeC y c q
  have f:c≠a:=fun y=>by
   rcases z.2 with w | ⟨_,_,w⟩
   ·rw [y,e] at w; cases w
   ·rw [y,e] at w; cases w
  rw [zac f]
  exact z
 ·obtain ⟨q,n,r⟩:=I.pin p hp
  refine ⟨q,?_,r⟩
  rw [zac (fun y=>by rw [y,e] at n; cases n)]
  exact n
 ·have own:∀ d x,H d=some (.own x)->upd H a (.frz o (.dK kvs)) d=some (.own x):=fun d x w=>by
   rw [zac (fun y=>by rw [y,e] at w; cases w)]
   exact w
  have tup:∀ d xs,H d=some (.tup xs)->upd H a (.frz o (.dK kvs)) d=some (.tup xs):=fun d x w=>by
   rw [zac (fun y=>by rw [y,e] at w; cases w)]
   exact w
  by_cases hb:b=a
  ·subst hb
   rw [zad] at q
   cases q
   exact ⟨ho,(I.hok b _ e).stay (fun _ _ _ q=>q) (fun d q=>own d _ q) fun d xs q=>tup d xs q⟩
  ·rw [zac hb] at q
   exact (I.hok b u q).stay (fun _ _ _ q=>q) (fun d q=>own d _ q) fun d xs q=>tup d xs q
def z4t (td:TE):TI:=fun σ H R=>td σ H fun x H1=>∃ a kvs,x = .ref a/\Rd H1 a (.dK kvs)/\∀ o H2,H2 a=some (.frz o (.dK kvs))->(∀ b,b≠a->H2 b=H1 b)->(∀ ob u,H1 a=some (.frz ob u)->H2 a=H1 a)->R (z5a a o kvs) H2
theorem zz7 {X:Cx}{tg l:Expr}{tl:TE}(hl:PE X l tl):PI X tg l (z4t tl):=by
 intro pins s σ H R I h
 refine thn (hl pins s σ H _ I h) fun v s1 ⟨x,H1,I1,r1,q1⟩=>?_
 obtain ⟨a,kvs,e,hr,q⟩:=q1
 subst e
 cases r1
 obtain ⟨o,H2,I2,hz,he,hi⟩:∃ o H2,Inv X pins σ H2 s1/\H2 a=some (.frz o (.dK kvs))/\(∀ b,b≠a->H2 b=H1 b)/\∀ ob u,H1 a=some (.frz ob u)->H2 a=H1 a:=by
  rcases hr with z | ⟨o,z⟩
  ·obtain ⟨o,ho,I2⟩:=I1.ice z
   exact ⟨o,_,I2,zad,fun b hb=>zac hb,fun ob u y=>by rw [z] at y; cases y⟩
  ·exact ⟨o,H1,I1,z,fun _ _=>rfl,fun _ _ _=>rfl⟩
 obtain ⟨ho,z1,z2,vs,f,dd⟩:=(show zcl X.prog X.w H2 s1.heap a (.frz o (.dK kvs)) from I2.hok a _ hz)
 obtain ⟨ep,c⟩:=dd.dictAt
 have d:∀ h:Heap,h.get? a=some o->h.DictAt (zbp X.prog X.w) a vs ep:=fun h e=>by
  obtain ⟨o',es,e',r⟩:=id c
  rw [ho] at e'
  cases e'
  exact ⟨o,es,e,r⟩
 refine wpAny_pyIter_dict z2 c ?_
 refine ⟨s1.heap.objs.size,[s1.heap.objs.size],_,_,H2,rfl,I2.kept (t':=s1.toks) fun b o e=>Heap.get?_push_of_some _ e,zt3 f d,⟨_,Heap.get?_push_size _ rfl,rfl,rfl⟩,fun b hb=>?_,q o H2 hz he hi⟩
 have e:b=s1.heap.objs.size:=by simpa using hb
 subst e
 exact I2.fpOk (gd _) (I2.hok.fresh (gd _))
def DEq (K:W.Frag)(H:Hp)(x y:V):Prop:=∃ d e:PyData,DV K H d x/\DV K H e y/\d.canLay0=true/\e.canLay0=true/\d.depth<=60/\PyData.eqv d e=true
def z0p (K:W.Frag)(neg:Bool):R2:=fun x y H Q=>∃ (a b:Addr) (ka kb:List (Key × V)),x = .ref a/\y = .ref b/\Rd H a (.dK ka)/\Rd H b (.dK kb)/\ka.length=kb.length/\(∀ p∈ka,∃ y,zee kb p.1=some y/\DEq K H p.2 y)/\Q (.bl (!neg)) H
theorem zp2 {X:Cx}{pins:List (Addr × Obj)}{σ:St}{H:Hp}{s:Shared}{A:Around}(I:Inv X pins σ H s)(hu:A.units+62<cLine){kb:List (Key × V)}{vb:List (Key × Value)}(rb:KV kb vb) :
  ∀ {ka:List (Key × V)} {va:List (Key × Value)},KV ka va->(∀ p∈ka,∃ y,zee kb p.1=some y/\DEq X.K H p.2 y)->PySem.W.KeqHits A.in1 s vb va true
 | [],_,.nil,_=> .nil
 | (k,v) :: r,_,.cons (b:=(k',u)) ⟨e,rv⟩ t,h=>by
  have e:k=k':=e
  subst e
  obtain ⟨y,hy,d,e,h1,h2,c1,c2,hd,he⟩:=h (k,v) (fk ..)
  have z:=rb.val k
  have hy:zee kb k=some y:=hy
  rw [hy] at z
  cases q:valueAt vb k with
  | none=>rw [q] at z; exact False.elim z
  | some u' =>
   rw [q] at z
   have z:zcb y u':=z
   obtain ⟨as,ra⟩:=I.reads d v u h1 rv
   obtain ⟨bs,rb'⟩:=I.reads e y u' h2 z
   have k1:=SeqAt.eqAt_reads d e A.in1 s u u' as bs ra rb' c1 c2 (by
    have:=Nat.min_le_left d.depth e.depth
    rw [Around.in1_units]
    omega)
   rw [he] at k1
   exact PySem.W.KeqHits.hit (e:=true) (b:=true) q k1 (zp2 I hu rb t fun p hp=>h p (fg _ hp))
theorem z0e {X:Cx}(hu:X.A.units+64<cLine):OpR X (compareOp .Eq) (z0p X.K false):=by
 intro pins s σ H x y v u Q I rx ry h
 obtain ⟨a,b,ka,kb,rfl,rfl,ha,hb,hl,hp,q⟩:=h
 cases (show v=Value.ref a from rx)
 cases (show u=Value.ref b from ry)
 obtain ⟨_,za,va,ra,da⟩:=zlx I.hok ha
 obtain ⟨_,zb,vb,rb,db⟩:=zlx I.hok hb
 have l1:=ra.length
 have l2:=rb.length
 have e:(va.length == vb.length && true)=true:=by simp; omega
 refine keq_eq za zb da db (by omega) (fun _=>zp2 I (by omega) rb ra hp) ⟨.bl true,H,I,?_,q⟩
 rw [e]
 rfl
theorem z0n {X:Cx}(hu:X.A.units+64<cLine):OpR X (compareOp .NotEq) (z0p X.K true):=by
 intro pins s σ H x y v u Q I rx ry h
 obtain ⟨a,b,ka,kb,rfl,rfl,ha,hb,hl,hp,q⟩:=h
 cases (show v=Value.ref a from rx)
 cases (show u=Value.ref b from ry)
 obtain ⟨_,za,va,ra,da⟩:=zlx I.hok ha
 obtain ⟨_,zb,vb,rb,db⟩:=zlx I.hok hb
 have l1:=ra.length
 have l2:=rb.length
 have e:(va.length == vb.length && true)=true:=by simp; omega
 refine keq_ne za zb da db (by omega) (fun _=>zp2 I (by omega) rb ra hp) ⟨.bl false,H,I,?_,q⟩
 rw [e]
 rfl
def z3m (td ty tx:TE):TE:=fun σ H Q=>td σ H fun x H1=>∃ a,x = .ref a/\IsD H1 a/\ty σ H1 fun y H2=>tx σ H2 fun z H3=>∃ kvs k,H3 a=some (.dK kvs)/\y=kV k/\kvs.length<sizeLine /\
 (∀ v,zee kvs k=some v->Q v H3)/\(zee kvs k=none->Q z (upd H3 a (.dK (zec kvs k z))))
theorem zxj {X:Cx}{o e f:Expr}{apos cpos:Pos}{td ty tx:TE}(ho:PE X o td)(he:PE X e ty)(hf:PE X f tx)(m:M2 X o "setdefault" apos e f cpos):PE X (.Call (.Attribute o "setdefault" apos) [e,f] [] cpos) (z3m td ty tx):=by
 intro pins s σ H Q I h
 refine wpAny_Call_method m.base m.few m.line k6 PySem.F.slot_dict_setdefault PySem.F.type_dict_setdefault (thn (ho pins s σ H _ I h) fun u s1 ⟨x,H1,I1,rx,a,ex,d,q1⟩=>?_)
 subst ex
 obtain rfl:u=Value.ref a:=rx
 obtain ⟨t1,t2,_⟩:=ztx I1 d
 refine ⟨t1,t2,?_⟩
 rw [m.trees]
 refine Calls.callWith_builtin rfl (Calls.evalArgs_plain (Calls.spliced_cons (thn (he pins s1 σ H1 _ I1 q1) fun iv s2 ⟨y,H2,I2,ry,q2⟩ =>
  Calls.spliced_cons (thn (hf pins s2 σ H2 _ I2 q2) fun fv s3 ⟨z,H3,I3,rz,kvs,k,ea,ey,hl,q3,q4⟩=>Calls.spliced_nil ?_))))
 subst ey
 obtain ⟨zz,hd,vs,b,dd⟩:=zqt I3.hok ea
 refine call_meetsIn PySem.F.slot_dict_setdefault dd.typeIs PySem.F.entry_dict_setdefault (PySem.F.args_dict_setdefault_3 _ _ _) (kt_meets_setdefault (zbp X.prog X.w) a (zm5 ry) hd fv) ⟨vs,dd,by rw [<- b.length]; exact zz,fun v hv=>?_,fun hn h' c hs=>?_⟩
 ·have r:=b.val k
  rw [hv] at r
  cases l:zee kvs k with
  | none=>rw [l] at r; exact False.elim r
  | some v'=>rw [l] at r; exact ⟨v',H3,I3.tok _,r,q3 v' l⟩
 ·have l:zee kvs k=none:=by
   have r:=b.val k
   rw [hn] at r
   cases l:zee kvs k with
   | none=>rfl
   | some v'=>rw [l] at r; exact False.elim r
  have he:∃ q,h'.get? a=some q:=let ⟨q,_,_,hq,_⟩:=c; ⟨q,hq⟩
  have g:(zec kvs k z).length<=sizeLine:=by have:=zf2 kvs k z; omega
  exact ⟨z,_,zkz I3 (by rw [ea]; exact True.intro) hs he (zrv g hd (b.put k rz) c),rz,q4 l⟩
theorem Inv.thaw {X:Cx}{pins:List (Addr × Obj)}{σ:St}{H:Hp}{s:Shared}{a:Addr}{o:Obj}{kvs:List (Key × V)}(I:Inv X pins σ H s)(e:H a=some (.frz o (.dK kvs)))(h0:∀ ob u,X.H₀ a≠some (.frz ob u)):Inv X pins σ (upd H a (.dK kvs)) s:=by
 obtain ⟨ho,hd⟩:=(show zcl X.prog X.w H s.heap a (.frz o (.dK kvs)) from I.hok a _ e)
 obtain ⟨z1,z2,vs,l,dd⟩:=id hd
 obtain ⟨oo,es,ep,j,_,i,_⟩:=id dd
 have f:∀ y c,X.env.cells.lookup y=some c->c≠a:=fun y c q z=>by
  obtain ⟨v,oc,h,g⟩:=I.cell y c q
  rw [z,j] at h
  cases h
  rw [i] at g
  cases g
 refine ⟨I.ok,I.os,I.bare,⟨I.base.keep,I.base.slot,fun b u q n hx=>?_,I.base.there,fun b xs q=>?_,fun b u k q=>?_,fun b ps q=>?_⟩,I.loc,I.cell,?_,fun y c q=>?_,fun p hp=>?_,fun b u q=>?_,I.len⟩
 ·have z:=I.base.free b u q n hx
  rw [zac (fun y=>by rw [y,e] at z; cases z)]
  exact z
 ·have z:=I.base.tups b xs q
  rw [zac (fun y=>by rw [y,e] at z; cases z)]
  exact z
 ·have z:=I.base.frzs b u k q
  rw [zac (fun y=>h0 _ _ (y ▸ q))]
  exact z
 ·obtain ⟨m,z⟩:=I.base.tbls b ps q
  exact ⟨m,by rw [zac (fun y=>by rw [y,e] at z; cases z)]; exact z⟩
 ·rw [zac (fun y=>by have z:=I.free; rw [y,e] at z; cases z)]
  exact I.free
 ·rw [zac (f y c q)]
  exact I.freeC y c q
 ·obtain ⟨q,n,r⟩:=I.pin p hp
  refine ⟨q,?_,r⟩
  rw [zac (fun y=>by rw [y,e] at n; cases n)]
  exact n
 ·have own:∀ d x,H d=some (.own x)->upd H a (.dK kvs) d=some (.own x):=fun d x w=>by
   rw [zac (fun y=>by rw [y,e] at w; cases w)]
   exact w
  have tup:∀ d xs,H d=some (.tup xs)->upd H a (.dK kvs) d=some (.tup xs):=fun d x w=>by
   rw [zac (fun y=>by rw [y,e] at w; cases w)]
   exact w
  by_cases hb:b=a
  ·subst hb
   rw [zad] at q
   cases q
   exact zcl.stay (H:=H) hd (fun _ _ _ q=>q) (fun d q=>own d _ q) fun d xs q=>tup d xs q
  ·rw [zac hb] at q
   exact (I.hok b u q).stay (fun _ _ _ q=>q) (fun d q=>own d _ q) fun d xs q=>tup d xs q
theorem z03 {X:Cx}{e:Expr}{t:TE}{H0:Hp}(hH:X.H₀=H0)(h:PE X e t):PE X e (fun σ H Q=>t σ H fun v H1=>∃ a kvs o,H1 a=some (.frz o (.dK kvs))/\(∀ ob u,H0 a≠some (.frz ob u))/\Q v (upd H1 a (.dK kvs))):=by
 intro pins s σ H Q I hw
 refine thn (h pins s σ H _ I hw) fun v s1 ⟨x,H1,I1,r1,a,kvs,o,e1,e2,q⟩=>?_
 subst hH
 exact ⟨x,_,I1.thaw e1 e2,r1,q⟩
theorem zuk {a D:Addr}{o:Obj}{kvs:List (Key × V)}{ns:List Int}{tc:TT}{Q:VK}{σr:St}{H:Hp}(p:Int->Bool)(hk:kvs.map (·.1)=ns.map Sum.inl)(hD:H D=none)(ha:H a=some (.frz o (.dK kvs)))(hlen:ns.length<=1000)
  (ht:∀ x∈ns,∀ H' (Qt:Bool->Hp->Prop),zax H H'->(∀ H'',zax H' H''->Qt (p x) H'')->tc (some (.int x) :: σr) H' Qt)
  (hq:∀ H',zax H H'->H' D=some (.lst ((ns.filter p).map V.int))->Q (.ref D) H') :
  zvc (z5a a o kvs) (zoi 0) tc (zxk 0) Q D (none :: σr) (upd H D (.lst [])):=by
 have hl:kvs.length=ns.length:=by
  have:=congrArg km hk
  simpa using this
 refine ⟨fun i m σ H'=>m=ns.length - i/\i<=ns.length/\∃ v,σ=v :: σr/\zax H H'/\H' D=some (.lst (((ns.take i).filter p).map V.int)),⟨ns.length,by simp,im _,none,rfl,zax.new H hD,zad⟩,?_⟩
 rintro i m σ H' ⟨rfl,hi,v,rfl,s,hd⟩
 by_cases b:i<ns.length
 ·refine .inr ⟨⟨s _ _ ha,by omega⟩,fun σ' H''=>i+1<=ns.length/\∃ v,σ'=v :: σr/\zax H H''/\H'' D=some (.lst (((ns.take (i+1)).filter p).map V.int)),fun σ' H'' z=>⟨ns.length - (i+1),by omega,rfl,z⟩,fun x H'' y=>?_⟩
  obtain ⟨rfl,kv,d,rfl⟩:=y
  have ek:kv.1=Sum.inl ns[i]:=by
   have e1:=congrArg (fun l=>l[i]?) hk
   simp only [List.getElem?_map,d,ml] at e1
   rw [List.getElem?_eq_getElem b] at e1
   exact Option.some.inj e1
  have et:ns.take (i+1)=ns.take i++[ns[i]]:=by rw [List.take_succ_eq_append_getElem b]
  rw [ek]
  show zoi 0 (V.int ns[i]) _ _ _
  refine ht ns[i] (j4 b) H'' _ s fun H3 s2=>?_
  have c:=s2 _ _ hd
  by_cases hp:p ns[i]=true
  ·rw [if_pos hp]
   refine ⟨_,rfl,_,c,?_,⟨by omega,_,rfl,(s.trans s2).put hD,?_⟩⟩
   ·rw [d9]
    have:=gn p (ns.take i)
    rw [gh] at this
    exact zau (by omega)
   ·rw [zad,et,ig,gm]
    simp [hp]
  ·rw [if_neg hp]
   refine ⟨by omega,_,rfl,s.trans s2,?_⟩
   rw [c,et,ig]
   simp [hp]
 ·have e:i=ns.length:=by omega
  subst e
  rw [gj] at hd
  exact .inl ⟨⟨s _ _ ha,by omega⟩,hq H' s hd⟩
theorem zwb {X:Cx}{K:W.Frag}{pos:Pos}{es:List Expr}{k:Nat}{t:TGs}{n:Nat}(hK:X.K=K)(hc:X.calm=true)(h:PGs X es t)
  (hn:(assignEach es X.env).length=n:=by rfl)(hst:(assignEach es X.env).findIdx? (·.1)=none:=by rfl):PG X (.Tuple es k pos) (z5w K n t):=hK ▸ zo_ hc h hn hst
def z5d (_ j:Int):Prop:=0<j/\j<=2 ^ 60
theorem zcz {X:Cx}:OpR X (binaryOp .FloorDiv) (rI z5d fun i j=> .int (i / j)):=opI fun i j _ _ _ _ _ hc q=>by
 have h1:(0:Int)<j:=hc.1
 have h2:j<=2 ^ 60:=hc.2
 refine floordiv_int (by omega) (by rw [Int.fdiv_eq_ediv_of_nonneg i (by omega)]; exact q) (.inl (PyProof.noPylong_of_log2 ?_))
 have h3:j.natAbs<2 ^ 61:=by omega
 exact lc ((Nat.log2_lt (by omega)).mpr h3) (by decide)
theorem zmc {X:Cx}{K:W.Frag}{o:Expr}{to:TE}{apos cpos:Pos}(h:X.K=K)(ho:PE X o to)(hbase:attributeBase o "bit_length" X.env (eval o X.env)=eval o X.env:=by rfl)(hline:(apos.endLine == cpos.line)=true:=by rfl) :
  PE X (.Call (.Attribute o "bit_length" apos) [] [] cpos) (z5e K "int" (fun x xs H Q=>∃ i,x = .int i/\xs=[]/\Q (.int (Builtin.Int.intBits i:Nat)) H) to):=h ▸ zih ho hbase hline
section
variable {X:Cx}
def z52 (K:W.Frag):List V->Hp->VK->Prop:=fun xs H Q=>∃ (p:Addr) (bs:List Bool),xs=[.ref p]/\SqL K H p (bs.map V.bl)/\Q (.bl (bs.any id)) H
theorem zwt (hc:X.calm=true):zjt X (.builtin "any") (z52 X.K):=by
 intro pins s σ H xs us Q I r h
 obtain ⟨p,bs,rfl,hq,q⟩:=h
 obtain ⟨u,rfl,ru⟩:=zkr r
 cases (show u=Value.ref p from ru)
 obtain ⟨its,rv,pl,hz⟩:=I.list hq
 have c:its.length=bs.length:=by
  have:=rv.length
  rw [d9] at this
  exact this.symm
 refine call_any_walk (wpAny_pyIter_list pl.isList ?_)
 have f:p≠s.heap.objs.size:=gc pl.lt
 refine ⟨s.heap.objs.size,_,_,_,_,_,fun i=>bs.getD i true,rfl,Walks.list (A:=X.A.in1) (by exact I.ok.hd hc) s.heap.objs.size p f its.toArray,⟨⟨_,Heap.get?_push_size _ rfl,rfl,rfl⟩,pl.isList.push _⟩,fun i v s' Q' E' hv a=>?_,fun h' tk kk=>?_⟩
 ·have d:its[i]? = some v:=by simpa using hv
  have hi:i<bs.length:=by
   have:=(List.getElem?_eq_some_iff.mp d).1
   omega
  obtain ⟨u,hu,ru⟩:=rv.get (i:=i) (x:= .bl bs[i]) (by simp [hi])
  rw [d] at hu
  cases hu
  cases (show v=Value.bool bs[i] from ru)
  replace a:Q' (bs.getD i true) s':=a
  rw [show bs.getD i true=bs[i] by simp [hi]] at a
  exact wpAny_truthy_bool a
 ·refine ⟨.bl (bs.any id),H,I.kept (t':=tk) (fun b o e=>kk b o (fun z=>?_) (Heap.get?_push_of_some _ e)),?_,q⟩
  ·rw [fc.mp z] at e
   exact absurd (fw e) (io _)
  ·show Value.bool _=Value.bool _
   congr 1
   rw [fq,c,Bool.eq_iff_iff,List.any_eq_true,List.any_eq_true]
   constructor
   ·rintro ⟨i,hi,y⟩
    have hl:=jc.mp hi
    exact ⟨bs[i],j4 hl,by simpa [hl] using y⟩
   ·rintro ⟨x,hx,y⟩
    obtain ⟨i,hi⟩:=List.getElem?_of_mem hx
    have hl:=(List.getElem?_eq_some_iff.mp hi).1
    exact ⟨i,jc.mpr hl,by simpa [hi] using y⟩
end
theorem oL {α:Sort _}{a:α}{p:Prop}:a=a\/p:= .inl rfl
section
variable {X:Cx} {k k':Nat} {C:Addr} {st:Stmt} {ps:List Str} {sp:Sp} {x m q:Str} {p pos apos:Pos} {e o:Expr} {es:List Expr} {ta:TE} {t:TA}
theorem pmD {pl:Sem Bool}(he:PE X o ta)(c:Cls X.K C)(D:DfM X.K C m q st ps)(F:zc_ X.prog X.w X.K X.mg X.base CX0 k D.f D.fd ps sp)(hr:zed k' X.A)(ha:PA X (e :: es) t)(hk:k<=k':=by decide)
  (hst:starEach (e :: es) X.env=(false,eval e X.env) :: starEach es X.env:=by rfl)(hpl:(backTo pos (starEach es X.env)).any (·.1)=false:=by rfl)
  (ht:eval (.Call (.Attribute o m apos) (e :: es) [] pos) X.env=(do
   let ov <- eval o X.env
   standAt apos.atName
   let (f,first) <- holding [ov] (getMethod ov m pl)
   callWith pos f first (backTo pos (starEach (e :: es) X.env)) (backToKw pos (keywordEach [] X.env))):=by rfl) :
  PE X (.Call (.Attribute o m apos) (e :: es) [] pos) (z0r C m sp [] E0 ta t):=zfy he c D.me F (hr.mono hk) D.b .nil zbw ha hst hpl ht
theorem pfD (D:Df X.K X.mg x st ps)(F:zc_ X.prog X.w X.K X.mg X.base CX0 k D.f D.fd ps sp)(hr:zed k' X.A)(hg:Gl X x)(ha:PA X (e :: es) t)(hk:k<=k':=by decide)(hdb:(x == ("__debug__" : Str))=false:=by decide)
  (he:starEach (e :: es) X.env=(false,eval e X.env) :: starEach es X.env:=by rfl)(hpl:(backTo pos (starEach es X.env)).any (·.1)=false:=by rfl):PE X (.Call (.Name x p) (e :: es) [] pos) (zxh sp [] E0 t):=zfv F (hr.mono hk) hg D.hm D.fn.kp D.b .nil zbw ha hdb he hpl
end
end L2
namespace NN
theorem zqj:∀ (a b:Nat),(a ^^^ b)+2 * (a &&& b)=a+b:=by
 intro a
 induction a using Nat.strongRecOn with
 | ind a ih =>
  intro b
  by_cases h:a=0
  ·subst h; simp
  ·have i:=ih (a / 2) (by omega) (b / 2)
   have x1:=Nat.xor_div_two (a:=a) (b:=b)
   have x2:=Nat.and_div_two (a:=a) (b:=b)
   have y1:=Nat.xor_mod_two_eq_one (a:=a) (b:=b)
   have y2:=Nat.and_mod_two_eq_one (a:=a) (b:=b)
   omega
theorem z0o (a b:Nat):a ^^^ b=2 * (a / 2 ^^^ b / 2)+(if a % 2=b % 2 then 0 else 1):=by
 have x1:=Nat.xor_div_two (a:=a) (b:=b)
 have y1:=Nat.xor_mod_two_eq_one (a:=a) (b:=b)
 split <;> omega
theorem zlf (a b:Nat):a ^^^ b=0↔a=b:=by
 constructor
 ·intro h
  have:(a ^^^ b) ^^^ b=0 ^^^ b:=by rw [h]
  rw [Nat.xor_assoc,lg,Nat.xor_zero,Nat.zero_xor] at this
  exact this
 ·rintro rfl; exact lg _
theorem zj9 (a b:Nat):a ^^^ (a ^^^ b)=b:=by
 rw [<- Nat.xor_assoc,lg,Nat.zero_xor]
end NN
namespace NN
def zf6 (a b:Nat):Nat->Option Nat
 | 0=>none
 | i+1=>if a / 2 ^ i % 2=b / 2 ^ i % 2 then zf6 a b i else some i
theorem zyq {m k:Nat}(hm:m≠0):m.log2=k↔m / 2 ^ k=1:=by
 constructor
 ·intro h
  subst h
  have h1:=Nat.log2_self_le hm
  have h2:=@Nat.lt_log2_self m
  rw [mn] at h2
  have hp:0<2 ^ m.log2:=ll (by decide)
  refine (lz hp).mpr ?_
  omega
 ·intro h
  have hp:0<2 ^ k:=ll (by decide)
  have h':=(lz hp).mp h
  refine (Nat.log2_eq_iff hm).mpr ⟨by omega,?_⟩
  rw [mn]
  omega
theorem z1n (a b k:Nat):(a ^^^ b) / 2 ^ k=a / 2 ^ k ^^^ b / 2 ^ k:=Nat.xor_div_two_pow
theorem zmm {a b:Nat}:a ^^^ b=1↔b=a ^^^ 1:=by
 constructor
 ·intro h
  have:a ^^^ (a ^^^ b)=a ^^^ 1:=by rw [h]
  rw [zj9] at this
  exact this
 ·rintro rfl
  exact zj9 a 1
theorem zmv (a:Nat):a ^^^ 1≠a:=by
 intro h
 have:=(zmm (a:=a) (b:=a)).mpr h.symm
 rw [lg] at this
 cases this
theorem zr9 {a b k:Nat}(h:a≠b):(a ^^^ b).log2=k↔b / 2 ^ k=a / 2 ^ k ^^^ 1:=by
 have hm:a ^^^ b≠0:=fun z=>h ((zlf a b).mp z)
 rw [zyq hm,z1n,zmm]
theorem z1p {a b k:Nat}(h:b / 2 ^ k=a / 2 ^ k ^^^ 1):a≠b:=fun e=>by
 subst e
 exact zmv _ h.symm
theorem zeg (a i:Nat):a / 2 ^ (i+1)=a / 2 ^ i / 2:=by
 rw [mn,Nat.div_div_eq_div_mul]
theorem zn2 {a b:Nat}:∀ (w:Nat),a / 2 ^ w=b / 2 ^ w->zf6 a b w=none->a=b
 | 0,h,_=>by simpa using h
 | i+1,h,e=>by
  unfold zf6 at e
  split at e
  ·rename_i hb
   rw [zeg,zeg] at h
   exact zn2 i (by omega) e
  ·cases e
theorem zlj {a b:Nat}:∀ (w k:Nat),a / 2 ^ w=b / 2 ^ w->zf6 a b w=some k->k<w/\b / 2 ^ k=a / 2 ^ k ^^^ 1
 | 0,k,_,e=>by cases e
 | i+1,k,h,e=>by
  unfold zf6 at e
  rw [zeg,zeg] at h
  split at e
  ·rename_i hb
   have:=zlj i k (by omega) e
   exact ⟨by omega,this.2⟩
  ·rename_i hb
   cases e
   refine ⟨by omega,?_⟩
   have x:=z0o (a / 2 ^ i) 1
   simp at x
   split at x <;> omega
theorem z0m {a b w:Nat}(ha:a<2 ^ w)(hb:b<2 ^ w):zf6 a b w=if a=b then none else some (a ^^^ b).log2:=by
 have h:a / 2 ^ w=b / 2 ^ w:=by rw [jn ha,jn hb]
 cases e:zf6 a b w with
 | none=>rw [if_pos (zn2 w h e)]
 | some k =>
  have q:=(zlj w k h e).2
  have ne:=z1p q
  rw [if_neg ne,(zr9 ne).mpr q]
theorem log2_lt {a b w:Nat}(ha:a<2 ^ w)(hb:b<2 ^ w)(h:a≠b):(a ^^^ b).log2<w:=by
 have e:=z0m ha hb
 rw [if_neg h] at e
 exact (zlj w _ (by rw [jn ha,jn hb]) e).1
def znb (n k:Nat):Nat:=(n / 2 ^ k ^^^ 1) * 2 ^ k
theorem zz_ {n k r:Nat}(hr:r<2 ^ k):(znb n k+r) / 2 ^ k=n / 2 ^ k ^^^ 1:=by
 have hp:0<2 ^ k:=ll (by decide)
 unfold znb
 rw [Nat.add_comm,Nat.add_mul_div_right _ _ hp,jn hr,Nat.zero_add]
theorem z01 {n k x:Nat}:(znb n k<=x/\x<=znb n k+(2 ^ k - 1))↔x / 2 ^ k=n / 2 ^ k ^^^ 1:=by
 have hp:0<2 ^ k:=ll (by decide)
 constructor
 ·rintro ⟨h1,h2⟩
  have e:x=znb n k+(x - znb n k):=by omega
  rw [e]
  exact zz_ (by omega)
 ·intro h
  have h':=(lz hp).mp h
  unfold znb
  omega
end NN
set_option maxHeartbeats 4000000
open PySem L2
theorem eI1 {A:Type}{p q:A->Prop}(a:A)(y:p a)(z:q a):∃ a,p a/\q a:=⟨a,y,z⟩
theorem eI2 {A B:Type}{p q:A->B->Prop}(a:A)(b:B)(y:p a b)(z:q a b):∃ a b,p a b/\q a b:=⟨a,b,y,z⟩
theorem eI3 {A B C:Type}{p q:A->B->C->Prop}(a:A)(b:B)(c:C)(y:p a b c)(z:q a b c):∃ a b c,p a b c/\q a b c:=⟨a,b,c,y,z⟩
theorem eI4 {A B C D:Type}{p q:A->B->C->D->Prop}(a:A)(b:B)(c:C)(d:D)(y:p a b c d)(z:q a b c d):∃ a b c d,p a b c d/\q a b c d:=⟨a,b,c,d,y,z⟩
theorem eI5 {A B C D E:Type}{p q:A->B->C->D->E->Prop}(a:A)(b:B)(c:C)(d:D)(e:E)(y:p a b c d e)(z:q a b c d e):∃ a b c d e,p a b c d e/\q a b c d e:=⟨a,b,c,d,e,y,z⟩
theorem eI6 {A B C D E F:Type}{p q:A->B->C->D->E->F->Prop}(a:A)(b:B)(c:C)(d:D)(e:E)(f:F)(y:p a b c d e f)(z:q a b c d e f):∃ a b c d e f,p a b c d e f/\q a b c d e f:=⟨a,b,c,d,e,f,y,z⟩
theorem eI7 {A B C D E F G:Type}{p q:A->B->C->D->E->F->G->Prop}(a:A)(b:B)(c:C)(d:D)(e:E)(f:F)(g:G)(y:p a b c d e f g)(z:q a b c d e f g):∃ a b c d e f g,p a b c d e f g/\q a b c d e f g:=⟨a,b,c,d,e,f,g,y,z⟩
theorem eI8 {A B C D E F G H:Type}{p q:A->B->C->D->E->F->G->H->Prop}(a:A)(b:B)(c:C)(d:D)(e:E)(f:F)(g:G)(h:H)(y:p a b c d e f g h)(z:q a b c d e f g h):∃ a b c d e f g h,p a b c d e f g h/\q a b c d e f g h:=⟨a,b,c,d,e,f,g,h,y,z⟩
local macro_rules | `(tactic| walk_at "ne") => `(tactic| first | assumption | (apply Ne.symm; assumption) | (intro z; subst z; simp_all; done) | grind [upd, zax])
local macro_rules | `(tactic| walk_at "hp") => `(tactic| first | assumption | exact zad | (refine (zac ?_).trans ?_; (focus (walk_at "ne")); walk_at "hp"))
local macro_rules | `(tactic| walk_at "fld") => `(tactic| fail)
local macro_rules | `(tactic| walk_at "ty") => `(tactic| first | exact zlo.int _ | exact zlo.bl _ | exact zlo.str _ | exact zlo.non | exact zlo.lst (by walk_at "hp") | exact zlo.tup (by walk_at "hp") | exact kit_int_int _ | exact kit_int_bool _ | exact kit_bool_bool _ | exact kit_bool_int _ | exact kit_list_list _ | exact kit_tuple_tuple _ | exact kit_str_str _ | exact zk6 _ | exact zjq _ | exact kit_none_str _ | exact kit_int_str _ | exact kit_bool_str _ | exact kit_list_str _ | exact zjj _ | exact kit_tuple_str _ | exact zh7 _ | exact kit_dict_str _ | exact kit_dict_int _)
local macro_rules | `(tactic| walk_at "ar") => `(tactic| (try dsimp only); first | decide | omega | (refine ⟨?_, ?_⟩ <;> first | decide | omega) | (refine ⟨?_, ?_, ?_⟩ <;> first | decide | omega) | (refine Or.inl ⟨?_, ?_⟩ <;> first | decide | omega) | (refine Or.inr ⟨?_, ?_⟩ <;> first | decide | omega))
local macro_rules | `(tactic| walk_at "c") => `(tactic| first | exact rfl | assumption | (walk_at "hp") | exact SqL.of (by walk_at "hp") | exact Or.inl (SqL.of (by walk_at "hp")) | exact Or.inl (by assumption) | exact SqT.of (by walk_at "hp") | exact Or.inr (SqT.of (by walk_at "hp")) | exact Or.inl ⟨rfl, _, SqL.of (by walk_at "hp")⟩ | exact ⟨_, SqL.of (by walk_at "hp")⟩ | (walk_at "fld") | (walk_at "ty") | exact zx9 _ _ | exact ix rfl | (walk_at "ar"))
local macro_rules | `(tactic| walk_at "e") => `(tactic| first | (apply And.intro; focus (walk_at "c"; done)) | (apply eI1; focus (walk_at "c"; done)) | (apply eI2; focus (walk_at "c"; done)) | (apply eI3; focus (walk_at "c"; done)) | (apply eI4; focus (walk_at "c"; done)) | (apply eI5; focus (walk_at "c"; done)) | (apply eI6; focus (walk_at "c"; done)) | (apply eI7; focus (walk_at "c"; done)) | (apply eI8; focus (walk_at "c"; done)) | (apply Exists.intro; walk_at "e") | assumption | (refine fun (C : Prop) f => ?_; apply f <;> try (focus (walk_at "c"; done))))
local macro_rules | `(tactic| kt_k) => `(tactic| (repeat (walk_at "e")); (first | (with_reducible refine z3k ?_; kt_k) | (with_reducible refine z2x ?_; kt_k) | skip))
local macro_rules | `(tactic| kd_p) => `(tactic| (intro _ _ _ _ h; first | (refine h _ ?_; intros; subst_vars; rfl) | (repeat (first | (obtain ⟨e, _⟩ := h; subst e; rfl) | (obtain ⟨_, h⟩ := h)))))
namespace NN
def top (i:Nat):Stmt:=PySem.Challenge.pw_nearnames_k43_look_round.main.body.getD i (.Pass ⟨0,0,0,0⟩)
theorem fS{N P:List Str}{s:Scope}(a:s.kind=.function:=by rfl)(b:s.isCoroutine=false:=by rfl)(c:s.isGenerator=false:=by rfl)(d:N.Nodup:=by decide +kernel)(e:N.take P.length=P:=by rfl)(f:∀ x∈P,s.names.lookup x=some .local\/s.names.lookup x=some .cell:=by decide +kernel)(g:∀ y∈s.names,y.2≠ .free:=by decide +kernel):zaj N P s:=⟨a,b,c,d,e,f,g⟩
structure Txt (mg:Str->Option Value):Prop where
 n_len:mg "len" = none
 n_abs:mg "abs" = none
 n_isinstance:mg "isinstance" = none
 n_int:mg "int" = none
 n_bool:mg "bool" = none
 n_str:mg "str" = none
 n_list:mg "list" = none
 n_range:mg "range" = none
 n_min:mg "min" = none
 n_sorted:mg "sorted" = none
 n_sum:mg "sum" = none
 n_enumerate:mg "enumerate" = none
 n_set:mg "set" = none
 n_max:mg "max" = none
 n_all:mg "all" = none
 n_any:mg "any" = none
 n_ValueError:mg "ValueError" = none
structure ZZ (P:Program)(w:World)(K:W.Frag)(mg:Str->Option Value)(base:Heap) where
 ba:DfC K mg "Bucket" ["room","order"]
 bb:DfC K mg "Table" ["own","wide","room","buckets"]
 bc:DfC K mg "Town" ["wide","room","tables","silent"]
 bd:DfM K ba.C "__init__" "Bucket.__init__" (zai (top 34) 0) ["self","room"]
 be:DfM K ba.C "names" "Bucket.names" (zai (top 34) 4) ["self"]
 bf:DfM K ba.C "hears_when_full" "Bucket.hears_when_full" (zai (top 34) 2) ["self","name","answers"]
 bg:DfM K ba.C "hears" "Bucket.hears" (zai (top 34) 1) ["self","name","answers"]
 bh:Df K mg "far" (top 12) ["one","other"]
 bi:Df K mg "step" (top 15) ["one","other"]
 bj:Df K mg "nearer" (top 13) ["goal","one","other"]
 bk:DfF K mg "by_nearness" (top 14) ["goal","names"]
 bl:DfM K bb.C "__init__" "Table.__init__" (zai (top 36) 0) ["self","own","wide","room"]
 bm:DfM K bb.C "bucket_of" "Table.bucket_of" (zai (top 36) 3) ["self","name"]
 bn:DfM K bb.C "hears" "Table.hears" (zai (top 36) 1) ["self","name","answers"]
 bo:DfM K bb.C "bucket" "Table.bucket" (zai (top 36) 4) ["self","k"]
 bp:DfM K bb.C "keeps" "Table.keeps" (zai (top 36) 5) ["self"]
 bq:Df K mg "is_whole" (top 10) ["thing"]
 br:Df K mg "is_name" (top 11) ["thing","wide"]
 bs:DfM K bc.C "is_house" "Town.is_house" (zai (top 39) 4) ["self","thing"]
 bt:DfM K bc.C "answers" "Town.answers" (zai (top 39) 3) ["self","name"]
 bu:DfE K mg "NoHouse"
 bv:DfM K bc.C "check_house" "Town.check_house" (zai (top 39) 16) ["self","thing"]
 bw:DfE K mg "NoName"
 bx:DfM K bc.C "check_name" "Town.check_name" (zai (top 39) 15) ["self","thing"]
 bz:DfE K mg "Silent"
 b0:DfM K bc.C "check_answering" "Town.check_answering" (zai (top 39) 17) ["self","thing"]
 b1:DfM K bc.C "houses" "Town.houses" (zai (top 39) 1) ["self"]
 b2:DfM K bc.C "bucket" "Town.bucket" (zai (top 39) 5) ["self","house","k"]
 b3:DfM K bc.C "keeps" "Town.keeps" (zai (top 39) 6) ["self","house"]
 b4:Df K mg "is_size" (top 38) ["thing","most"]
 b5:DfE K mg "NoSize"
 b6:DfM K bc.C "__init__" "Town.__init__" (zai (top 39) 0) ["self","wide","room"]
 b7:DfM K bc.C "answering" "Town.answering" (zai (top 39) 2) ["self"]
 b8:zzb K bc.C "hears_of" "Town.hears_of" (zai (top 39) 25) ["self","house","name"]
 b9:DfM K bc.C "meet" "Town.meet" (zai (top 39) 24) ["self","one","other"]
 ca:DfM K bc.C "come_to" "Town.come_to" (zai (top 39) 8) ["self","house"]
 cb:DfM K bc.C "visits" "Town.visits" (zai (top 39) 23) ["self","house","door"]
 cc:DfE K mg "Taken"
 cd:DfM K bc.C "settles" "Town.settles" (zai (top 39) 19) ["self","house","visited"]
 ce:z1r K bc.C "come" "Town.come" (zai (top 39) 11) ["self","name","door"] [Value.none]
 cf:DfM K bc.C "hush" "Town.hush" (zai (top 39) 13) ["self","house"]
 cg:DfM K bc.C "leaves" "Town.leaves" (zai (top 39) 20) ["self","house"]
 ch:DfM K bc.C "go" "Town.go" (zai (top 39) 12) ["self","house"]
 ci:DfM K bc.C "wake" "Town.wake" (zai (top 39) 14) ["self","house","door"]
 cj:z1r K bb.C "nearest" "Table.nearest" (zai (top 36) 6) ["self","goal","many","but"] [Value.none]
 ck:Df K mg "goes_next" (top 32) ["here","goal","tells"]
 cl:Df K mg "way" (top 30) ["start","goal","tells"]
 cm:DfM K bc.C "tells" "Town.tells" (zai (top 39) 7) ["self","house","goal","asker"]
 cn:zzb K bc.C "teller" "Town.teller" (zai (top 39) 18) ["self"]
 co:DfM K bc.C "way" "Town.way" (zai (top 39) 10) ["self","start","goal"]
 cp:Df K mg "note_told" (top 27) ["seen","start","house","told"]
 cq:Df K mg "standing" (top 28) ["seen","goal","room"]
 cr:Df K mg "first_unasked" (top 29) ["names","row"]
 cs:Df K mg "asked" (top 26) ["start","goal","room","tells"]
 ct:DfM K ba.C "drops" "Bucket.drops" (zai (top 34) 3) ["self","name"]
 cu:DfM K bb.C "drops" "Table.drops" (zai (top 36) 2) ["self","name"]
 cv:DfM K bc.C "learns" "Town.learns" (zai (top 39) 21) ["self","start","row"]
 cw:DfM K bc.C "ask" "Town.ask" (zai (top 39) 9) ["self","start","goal"]
 cx:Df K mg "span" (top 16) ["name","k"]
 cz:Df K mg "of_span" (top 21) ["names","ends"]
 c0:Df K mg "is_at_rest" (top 22) ["town","kept","due"]
 c1:Df K mg "each_bucket" (top 20) ["town"]
 c2:Df K mg "fault" (top 18) ["town"]
 c3:Df K mg "_law_fault" (top 49) ["_law_town"]
 c4:Df K mg "_law_cell_at" (top 41) ["_law_script","_law_k"]
 c5:Df K mg "_law_mixed" (top 42) ["_law_cell","_law_k"]
 c6:Df K mg "_law_draw" (top 43) ["_law_cell","_law_k","_law_plain"]
 c7:Df K mg "_law_sizes" (top 44) ["_law_script"]
 c8:Df K mg "_law_name" (top 45) ["_law_x","_law_wide","_law_base"]
 c9:Df K mg "is_hole" (top 23) ["town","kept","due"]
 da:Df K mg "holes" (top 19) ["town"]
 db:DfM K bc.C "drops_lost" "Town.drops_lost" (zai (top 39) 22) ["self","house"]
 dc:Df K mg "look_round" (top 24) ["town","house"]
 dd:Df K mg "_law_holes" (top 50) ["_law_town"]
 de:Df K mg "_law_reach" (top 48) ["_law_town","_law_house"]
 df:Df K mg "_law_come" (top 46) ["_law_town","_law_x","_law_base","_law_most"]
 dg:Df K mg "_law_deed" (top 47) ["_law_town","_law_x","_law_base","_law_most"]
 dh:DfF K mg "_law_as_it_is" (top 51) ["_law_town"]
 di:Df K mg "_law_tables" (top 52) ["_law_town"]
 dj:Df K mg "_law_hears" (top 53) ["_law_tables_here","_law_house","_law_name_here","_law_room","_law_live"]
 dk:DfE K mg "NearError"
 dl:DfE K mg "NoLine"
 dm:DfE K mg "NoTown"
 dn:Df K mg "_law_marks" (top 54) ["_law_town","_law_house"]
 dp:Df K mg "_law_refused" (top 55) ["_law_town","_law_x"]
 dq:Df K mg "_law_right" (top 56) ["_law_town","_law_house"]
 dr:Df K mg "law" (top 57) ["_law_script"]
 ds:Txt mg
 dt:K.In base
 du:base.BuiltinsAt mg bk.P
 dv:base.BuiltinsAt mg b8.P
 dw:base.BuiltinsAt mg cn.P
 dx:bk.P≠cn.P
 dz:mg "way_asks" = some (.ref cl.f)
 d0:bk.P≠b8.P
 d1:cn.P≠b8.P
 d2:base.BuiltinsAt mg dh.P
 d3:bk.P≠dh.P
 d4:cn.P≠dh.P
 d5:dh.P≠b8.P
abbrev zgb {P:Program}{w:World}{K:W.Frag}{mg:Str->Option Value}{base:Heap}(_:ZZ P w K mg base)(n:Nat){x:Str}{st:Stmt}{ps:List Str}(D:Df K mg x st ps)(sp:Sp):Prop:=zc_ P w K mg base CX0 n D.f D.fd ps sp
abbrev z2l {P:Program}{w:World}{K:W.Frag}{mg:Str->Option Value}{base:Heap}(_:ZZ P w K mg base)(n:Nat){x:Str}{st:Stmt}{ps:List Str}(D:DfF K mg x st ps)(sp:Sp):Prop:=zc_ P w K mg base CX0 n D.f D.fd ps sp
abbrev zco {P:Program}{w:World}{K:W.Frag}{mg:Str->Option Value}{base:Heap}(_:ZZ P w K mg base)(n:Nat){C:Addr}{m q:Str}{st:Stmt}{ps:List Str}(D:DfM K C m q st ps)(sp:Sp):Prop:=zc_ P w K mg base CX0 n D.f D.fd ps sp
abbrev z3z {P:Program}{w:World}{K:W.Frag}{mg:Str->Option Value}{base:Heap}(_:ZZ P w K mg base)(n:Nat){C:Addr}{m q:Str}{st:Stmt}{ps:List Str}(D:zzb K C m q st ps)(sp:Sp):Prop:=zc_ P w K mg base CX0 n D.f D.fd ps sp
abbrev zyx {P:Program}{w:World}{K:W.Frag}{mg:Str->Option Value}{base:Heap}(_:ZZ P w K mg base)(n:Nat){C:Addr}{m q:Str}{st:Stmt}{ps:List Str}{ds:List Value}(D:z1r K C m q st ps ds)(sp:Sp):Prop:=zc_ P w K mg base CX0 n D.f D.fd ps sp
def bF (r:Int)(l:Addr):List (Str × V):=[(("room" : Str),V.int r),(("order" : Str),V.ref l)]
theorem z2_ (r:Int)(l l':Addr):zf8 "order" (V.ref l') (bF r l)=bF r l':=by kernel_rfl
theorem z3c (r:Int)(l:Addr):zf8 "order" (V.ref l) (zf8 "room" (V.int r) [])=bF r l:=by kernel_rfl
structure zdc (C:Addr)(H:Hp)(p l:Addr)(r:Int)(ns:List Int):Prop where
 ob:∃ dx,H p=some (.ins C dx (bF r l))
 li:H l=some (.lst (ns.map V.int))
def zz1 (C:Addr):Sp:=fun vs H Q _=>∃ (p dx:Addr) (r:Int),vs=[.ref p,.int r]/\H p=some (.ins C dx [])/\∀ (l:Addr) (H':Hp),H l=none->zdc C H' p l r []->ztg p H H'->Q .non H'
@[irreducible] def zru (K:W.Frag) (C:Addr) (R:Addr->FuncData->Prop) (spA:Addr->FuncData->Sp):Sp:=fun vs H Q _=>∃ (p l f:Addr) (r n x:Int) (ns:List Int) (fd:FuncData),vs=[.ref p,.int n,.ref f]/\zdc C H p l r (x :: ns)/\ns.length<=1000 /\
 FnV K H f fd/\R f fd/\spA f fd [.int x] H (fun v H1=>∃ b,v = .bl b/\zdc C H1 p l r (x :: ns)/\∀ (l':Addr) (H2:Hp),H1 l'=none->zdc C H2 p l' r (ns++[if b then x else n])->ztg p H1 H2->Q (.str (if b then "full" else "instead")) H2) E0
@[irreducible] def zng (K:W.Frag) (C:Addr) (R:Addr->FuncData->Prop) (spA:Addr->FuncData->Sp):Sp:=fun vs H Q E=>∃ (p l f:Addr) (r n:Int) (ns:List Int),vs=[.ref p,.int n,.ref f]/\zdc C H p l r ns/\ns.length<=1000/\1<=r /\
 (n∈ns->∀ H',zdc C H' p l r (ns.erase n++[n])->ztg l H H'->Q (.str "again") H') /\
 (n∉ns->(ns.length:Int)<r->∀ H',zdc C H' p l r (ns++[n])->ztg l H H'->Q (.str "new") H') /\
 (n∉ns->r<=(ns.length:Int)->zru K C R spA vs H Q E0)
def zz4 (C:Addr):Sp:=fun vs H Q _=>∃ (p l:Addr) (r n:Int) (ns:List Int),vs=[.ref p,.int n]/\zdc C H p l r ns /\
 ∀ H',zdc C H' p l r (ns.erase n)->ztg l H H'->Q (.bl (decide (n∈ns))) H'
def zx_ (C:Addr):Sp:=fun vs H Q _=>∃ (p l:Addr) (r:Int) (ns:List Int),vs=[.ref p]/\zdc C H p l r ns /\
 ∀ (m:Addr) (H':Hp),H m=none->H' m=some (.lst (ns.map V.int))->zax H H'->Q (.ref m) H'

section
variable {P:Program} {w:World} {K:W.Frag} {mg:Str->Option Value} {base:Heap}
local macro_rules | `(tactic| walk_at "fld") => `(tactic| first | exact bF_room _ _ | exact bF_order _ _ | exact bF_full _ _ | exact bF_hears _ _ | exact bF_drops _ _ | exact bF_names _ _ | exact zbz _)
theorem zig:zaj ["self","room"] ["self","room"] (zah (zai (top 34) 0)):=fS
theorem zl4 (Z:ZZ P w K mg base):zco Z 1 Z.bd (zz1 Z.ba.C):=by
 have d:=Z.ba.cl
 obtain ⟨f,b,-⟩:=Z.ba.na
 refine Z.bd.fn.ok zig (by kd_p) (fun cdv A outer s H vs Q E hr h=>?_)
 obtain ⟨p,dx,r,rfl,hp,k⟩:=h
 refine ⟨_,(zae (zf7 (pv 0) (pv 1) rfl)
  (zaf (zf7 (pv 0) (zb0 zab) rfl))),?_⟩
 kt_k
 intro l hl
 have nl:l≠p:=(zag zad hl).symm
 have a:H l=none:=by rw [zac nl] at hl; exact hl
 kt_k
 show Q .non (upd (upd (upd H p (.ins _ dx (zf8 "room" (V.int r) []))) l (.lst [])) p (.ins _ dx (zf8 "order" (V.ref l) (zf8 "room" (V.int r) []))))
 rw [z3c]
 refine k l _ a ⟨⟨dx,zad⟩,?_⟩ fun c o e hc=>?_
 ·rw [zac nl,zad]
  rfl
 ·rw [zac hc,zac (zag e a),zac hc]
  exact e
theorem zle:zaj ["self"] ["self"] (zah (zai (top 34) 4)):=fS
theorem zgg (Z:ZZ P w K mg base):zco Z 1 Z.be (zx_ Z.ba.C):=by
 have b:=Z.ba.cl
 obtain ⟨c,a,-⟩:=Z.ba.na
 refine Z.be.fn.ok zle (by kd_p) (fun cdv A outer s H vs Q E hr h=>?_)
 obtain ⟨p,l,r,ns,rfl,⟨⟨dx,hp⟩,hl⟩,k⟩:=h
 refine ⟨_,(zaf (zar (zh4 zge rfl Z.ds.n_list zm2 (zaa (za9 (pv 0) rfl) zab)))),?_⟩
 kt_k
 intro m hm
 exact k m _ hm zad (zax.new H hm)
def zyp (spA:Addr->FuncData->Sp):Prop:=∀ f fd vs H (Q Q':VK) E,(∀ v H',Q v H'->Q' v H')->spA f fd vs H Q E->spA f fd vs H Q' E
theorem zcr:zaj ["self","name","answers","first"] ["self","name","answers"] (zah (zai (top 34) 2)):=fS
theorem zl6 {psA:List Str}{R:Addr->FuncData->Prop}{spA:Addr->FuncData->Sp}(GA:∀ f fd,R f fd->zc_ P w K mg base CX0 5 f fd psA (spA f fd))(bA:∀ f fd,R f fd->zci K fd psA [])(mA:zyp spA)(Z:ZZ P w K mg base):zco Z 6 Z.bf (zru K Z.ba.C R spA):=by
 have ad:=Z.ba.cl
 obtain ⟨ae,ac,-⟩:=Z.ba.na
 refine Z.bf.fn.ok zcr (fun vs H Q E h=>?_) (fun cdv A outer s H vs Q E hr h=>?_) <;> unfold zru at h
 ·obtain ⟨p,l,f,r,n,x,ns,fd,rfl,_⟩:=h
  rfl
 ·obtain ⟨p,l,f,r,n,x,ns,fd,rfl,⟨⟨dx,hp⟩,hl⟩,u,af,hR,k⟩:=h
  refine ⟨_,(zae (za2 (i:=3) zcr.nd rfl oL (zfg zcg (za9 (pv 0) rfl) zak (fun _ _=>rfl)))
   (zae (zbn (zb_ (zj2 (pv 2) GA bA hr.mm (zaa (pv 3) zab)))
    (zae (zf7 (pv 0) (za8 zn5 (zei zgl (za9 (pv 0) rfl) (zfn zak) zhl) (zb0 (zaa (pv 3) zab))) rfl)
    (zaf (zar zd0)))
    za6)
   (zae (zf7 (pv 0) (za8 zn5 (zei zgl (za9 (pv 0) rfl) (zfn zak) zhl) (zb0 (zaa (pv 1) zab))) rfl)
   (zaf (zar zd0))))),?_⟩
  have hsz:ns.length+1<=sizeLine:=ia (zau (by omega)) |> fun _=>gf (Nat.succ_le_succ u) (by decide)
  kt_k
  refine mA _ _ _ _ _ _ _ (fun v H1 q=>?_) k
  obtain ⟨b,rfl,⟨⟨z,a⟩,ag⟩,k2⟩:=q
  refine ⟨b,rfl,?_⟩
  have t:∀ (y:Int) (p1 p2 p3:Addr),H1 p1=none->upd H1 p1 (.lst (znu ((x :: ns).map V.int) (some 1) none)) p2=none ->
    upd (upd H1 p1 (.lst (znu ((x :: ns).map V.int) (some 1) none))) p2 (.lst [V.int y]) p3=none->y=(if b then x else n) ->
    Q (.str (if b then "full" else "instead")) (upd (upd (upd (upd H1 p1 (.lst (znu ((x :: ns).map V.int) (some 1) none))) p2 (.lst [V.int y])) p3 (.lst (znu ((x :: ns).map V.int) (some 1) none++[V.int y]))) p (.ins Z.ba.C z (zf8 "order" (V.ref p3) (bF r l)))):=fun y p1 p2 p3 h1 h2 h3 hy=>by
   have n2:p1≠p2:=zag zad h2
   have aa:H1 p2=none:=by rw [zac n2.symm] at h2; exact h2
   have n3:p2≠p3:=zag zad h3
   have n4:p1≠p3:=by rintro rfl; rw [zac n2,zad] at h3; cases h3
   have m:H1 p3=none:=by rw [zac n3.symm,zac n4.symm] at h3; exact h3
   have j:p≠p3:=zag a m
   refine k2 p3 _ m ⟨⟨z,?_⟩,?_⟩ fun c o e hc=>?_
   ·rw [zad,z2_]
   ·rw [zac j.symm,zad,z5s,hy]
    simp
   ·rw [zac hc,zac (zag e m),zac (zag e aa),zac (zag e h1)]
    exact e
  have ab:(znu ((x :: ns).map V.int) (some 1) none).length+1<=sizeLine:=by rw [z5s,d9]; exact hsz
  cases b with
  | true =>
   kt_k
   intro p1 h1
   kt_k
   intro p2 h2
   kt_k
   intro p3 h3
   have d:p≠p1:=zag a h1
   have g:p≠p2:=by rintro rfl; rw [zac d,a] at h2; cases h2
   have j:p≠p3:=by rintro rfl; rw [zac g,zac d,a] at h3; cases h3
   kt_k
   exact t x p1 p2 p3 h1 h2 h3 rfl
  | false =>
   kt_k
   intro p1 h1
   kt_k
   intro p2 h2
   kt_k
   intro p3 h3
   have d:p≠p1:=zag a h1
   have g:p≠p2:=by rintro rfl; rw [zac d,a] at h2; cases h2
   have j:p≠p3:=by rintro rfl; rw [zac g,zac d,a] at h3; cases h3
   kt_k
   exact t n p1 p2 p3 h1 h2 h3 rfl
theorem zk4:zaj ["self","name","answers"] ["self","name","answers"] (zah (zai (top 34) 1)):=fS
theorem zkm (Z:ZZ P w K mg base){psA:List Str}{R:Addr->FuncData->Prop}{spA:Addr->FuncData->Sp}(GA:∀ f fd,R f fd->zc_ P w K mg base CX0 5 f fd psA (spA f fd))(bA:∀ f fd,R f fd->zci K fd psA [])(mA:zyp spA):zco Z 7 Z.bg (zng K Z.ba.C R spA):=by
 have i:=Z.ba.cl
 obtain ⟨q,g,-⟩:=Z.ba.na
 have b:=zl6 GA bA mA Z
 refine Z.bg.fn.ok zk4 (fun vs H Q E h=>?_) (fun cdv A outer s H vs Q E hr h=>?_) <;> unfold zng at h
 ·obtain ⟨p,l,f,r,n,ns,rfl,_⟩:=h
  rfl
 ·obtain ⟨p,l,f,r,n,ns,rfl,⟨⟨dx,hp⟩,hl⟩,d,j,kA,kN,kF⟩:=h
  have a:p≠l:=zdv hp hl (by intro z; cases z)
  refine ⟨_,(zae (zbn (zan zgw (pv 1) (za9 (pv 0) rfl) (by with_unfolding_all rfl))
    (zae (zap (zgv ge jv jw zkp (za9 (pv 0) rfl) (zaa (pv 1) zab)))
    (zae (zap (zgv ge PySem.F.slot_list_append PySem.F.type_list_append zb4 (za9 (pv 0) rfl) (zaa (pv 1) zab)))
    (zaf (zar zd0))))
    za6)
   (zae (zbn (zan zm6 (za0 za3 rfl Z.ds.n_len zc1 (zaa (za9 (pv 0) rfl) zab)) (za9 (pv 0) rfl) (za5 _))
    (zae (zap (zgv ge PySem.F.slot_list_append PySem.F.type_list_append zb4 (za9 (pv 0) rfl) (zaa (pv 1) zab)))
    (zaf (zar zd0)))
    za6)
   (zaf (zar (pmD (pv 0) Z.ba.cl Z.bf b hr (zaa (pv 1) (zaa (pv 2) zab))))))),?_⟩
  kt_k
  show if inV (V.int n) (ns.map V.int)=true then _ else _
  rw [zch]
  by_cases hn:n∈ns
  ·refine zlw hn ?_
   have m:=ie hn
   have hsz:((ns.erase n).map V.int).length<sizeLine:=by rw [d9]; exact zau (by omega)
   kt_k
   refine kA hn _ ⟨⟨dx,by rw [zac a,zac a]; exact hp⟩,by rw [zad]; simp⟩ fun c o e hc=>by rw [zac hc,zac hc]; exact e
  ·refine ze7 hn ?_
   kt_k
   show if decide (((ns.map V.int).length:Int)<r)=true then _ else _
   rw [d9]
   by_cases h2:(ns.length:Int)<r
   ·refine zlw h2 ?_
    have hsz:(ns.map V.int).length<sizeLine:=by rw [d9]; exact zau (by omega)
    kt_k
    exact kN hn h2 _ ⟨⟨dx,by rw [zac a]; exact hp⟩,by rw [zad]; simp⟩ fun c o e hc=>by rw [zac hc]; exact e
   ·refine ze7 h2 ?_
    have hf:=kF hn (by omega)
    kt_k
local macro_rules | `(tactic| walk_at "fld") => `(tactic| first | exact bF_room _ _ | exact bF_order _ _ | exact bF_full _ _ | exact bF_hears _ _ | exact bF_drops _ _ | exact bF_names _ _ | exact zbz _)
theorem bx {i j:Int}(hi:0<=i)(hj:0<=j):Builtin.bitXor i j=((i.toNat ^^^ j.toNat:Nat):Int):=by
 have e:=zqj i.toNat j.toNat
 rw [PyProof.Rows.bitXor_and,PyProof.Rows.bitAnd_pp hi hj]
 omega
def z4p:Sp:=fun vs H Q _=>∃ i j:Int,vs=[.int i,.int j]/\Q (.int (Builtin.bitXor i j)) H
theorem zhx (k:Nat):((2 ^ k:Nat):Int)=2 ^ k:=by simp
theorem znd {i j:Int}(hi:0<=i)(hj:0<=j)(h:i≠j):((Builtin.Int.intBits (Builtin.bitXor i j):Nat):Int) - 1=((i.toNat ^^^ j.toNat).log2:Nat):=by
 have hm:i.toNat ^^^ j.toNat≠0:=fun z=>h (by
  have:=(zlf _ _).mp z
  omega)
 rw [bx hi hj]
 unfold Builtin.Int.intBits
 rw [if_neg (by simpa using hm),Int.natAbs_natCast]
 omega
def z2j:Sp:=fun vs H Q _=>∃ i j:Int,vs=[.int i,.int j]/\Q (.int ((Builtin.Int.intBits (Builtin.bitXor i j):Nat) - 1)) H
theorem z39:zaj ["one","other"] ["one","other"] (zah (top 12)):=fS
theorem zvt (Z:ZZ P w K mg base):zgb Z 1 Z.bh z4p:=by
 refine Z.bh.fn.ok z39 (by kd_p) (fun cdv A outer s H vs Q E hr h=>?_)
 obtain ⟨i,j,rfl,k⟩:=h
 refine ⟨_,(zaf (zar (za8 zmh (pv 0) (pv 1)))),?_⟩
 exact ⟨_,rfl,_,rfl,_,_,rfl,rfl,k⟩
theorem zd8 (n:Nat):(0:Int)<2 ^ n:=by
 have h:=ll (n:=n) (show 0<2 by decide)
 have e:((2 ^ n:Nat):Int)=2 ^ n:=by simp
 omega
theorem zm_ {ns:List Int}{y:Int}{p:Int->Prop}(h:∀ x∈ns,p x)(hy:p y):∀ x∈ns++[y],p x:=fun x hx=>by
 rcases fj.mp hx with z | z
 ·exact h x z
 ·rw [fc.mp z]
  exact hy
theorem z0f:zaj ["one","other"] ["one","other"] (zah (top 15)):=fS
theorem z0h (Z:ZZ P w K mg base):zgb Z 2 Z.bi z2j:=by
 have a:=zvt Z
 refine Z.bi.fn.ok z0f (by kd_p) (fun cdv A outer s H vs Q E hr h=>?_)
 obtain ⟨i,j,rfl,k⟩:=h
 refine ⟨_,(zaf (zar (za8 zrt (zih (pfD Z.bh a hr rfl (zaa (pv 0) (zaa (pv 1) zab)))) zak))),?_⟩
 exact ⟨_,rfl,_,rfl,_,_,rfl,rfl,_,rfl,rfl,_,_,rfl,rfl,k⟩
def zxx:Sp:=fun vs H Q _=>∃ g i j:Int,vs=[.int g,.int i,.int j]/\Q (.bl (decide (Builtin.bitXor g i<Builtin.bitXor g j))) H
theorem zwl:zaj ["goal","one","other"] ["goal","one","other"] (zah (top 13)):=fS
theorem zty (Z:ZZ P w K mg base):zgb Z 2 Z.bj zxx:=by
 have a:=zvt Z
 refine Z.bj.fn.ok zwl (by kd_p) (fun cdv A outer s H vs Q E hr h=>?_)
 obtain ⟨g,i,j,rfl,k⟩:=h
 refine ⟨_,(zaf (zar (zd7 zm6 (pfD Z.bh a hr rfl (zaa (pv 0) (zaa (pv 1) zab))) (pfD Z.bh a hr rfl (zaa (pv 0) (zaa (pv 2) zab))) (za5 _)))),?_⟩
 exact ⟨_,rfl,_,rfl,_,_,rfl,_,rfl,_,rfl,_,_,rfl,_,_,rfl,rfl,k⟩
theorem zy8 {g a b:Int}(hg:0<=g)(ha:0<=a)(hb:0<=b)(h:Builtin.bitXor g a=Builtin.bitXor g b):a=b:=by
 rw [bx hg ha,bx hg hb] at h
 have e1:=zj9 g.toNat a.toNat
 have e2:=zj9 g.toNat b.toNat
 have e3:g.toNat ^^^ a.toNat=g.toNat ^^^ b.toNat:=by omega
 rw [e3] at e1
 omega
def zx5:Pos:=⟨0,0,0,0⟩
def z51 (st:Stmt):Expr:=match (zbk st).getD 0 (.Pass zx5) with | .Return (some (.Call _ _ (k :: _) _)) _=>k.value | _=> .Constant .none 0 zx5
def zga:Expr->Arguments | .Lambda a _ _ _=>a | _=>zb5 (.Pass zx5)
def zf_:Expr->Expr | .Lambda _ b _ _=>b | e=>e
def zdp:Expr->Scope | .Lambda _ _ s _=>s | _=>zah (.Pass zx5)
def za7:Expr->Pos | .Lambda _ _ _ p=>p | _=>zx5
def zd_:Expr:=z51 (top 14)
def quL:Str:=(("by_nearness" : Str) ++ ".<locals>.") ++ "<lambda>"
abbrev RL:Addr->FuncData->Prop:=RLm "<lambda>" quL (zga zd_) (zf_ zd_) (zdp zd_)
abbrev z6o (H:Hp)(f:Addr)(cv:List V)(fd:FuncData):Prop:=zy1 H f "<lambda>" quL (zga zd_) (zf_ zd_) (zdp zd_) ["goal"] cv fd
def z3i (cv:List V):Sp:=fun vs H Q _=>∃ g n:Int,vs=[.int n]/\cv=[.int g]/\Q (.int (Builtin.bitXor g n)) H
def spL (f:Addr)(fd:FuncData):Sp:=fun vs H Q E=>∃ cv,cv.length=(["goal"]:List Str).length/\z6o H f cv fd/\z3i cv vs H Q E
def zfh (g:Int)(ns:List Int):List Int:=zks (Builtin.bitXor g) (za1 (zhc ns))
def z6t (K:W.Frag)(T:Addr):Sp:=fun vs H Q _=>∃ (g:Int) (p:Addr) (ns:List Int),vs=[.int g,.ref p]/\SqL K H p (ns.map V.int)/\ns.length<64/\0<=g/\(∀ n∈ns,0<=n)/\Tab H T (za7 zd_) quL /\
 ∀ (l:Addr) (H':Hp),(∀ b o,b≠T->H b=some o->H' b=some o)->Tab H' T (za7 zd_) quL->H l=none->H' l=some (.lst ((zfh g ns).map V.int))->Q (.ref l) H'
theorem z0z {f:Addr}{fd:FuncData}(h:RL f fd):zci K fd ["name"] []:=by
 obtain ⟨clos,pm,c',ct,rfl⟩:=h
 exact .all (us1 fun _=>rfl)
theorem z2f:zg4 ["name","goal"] ["name"] ["goal"] (zdp zd_):=⟨rfl,rfl,rfl,by decide +kernel,by decide +kernel,by decide +kernel,by decide +kernel,by decide +kernel,by decide +kernel,by decide +kernel⟩
theorem z18 (Z:ZZ P w K mg base){f:Addr}{fd:FuncData}:zc_ P w K mg base CX0 2 f fd ["name"] (spL f fd):=by
 have a:=zvt Z
 refine zu1 (name:= "<lambda>") (qual:=quL) (params:=zga zd_) (body:=zf_ zd_) (sp:=z3i) z2f (fun cv vs H Q E h=>?_) (fun clos cdv A outer s H cv vs Q E hr c h=>?_)
 ·obtain ⟨g,n,rfl,_⟩:=h
  rfl
 ·obtain ⟨g,n,rfl,rfl,k⟩:=h
  refine ⟨_,(zfv a hr.mm rfl Z.bh.hm Z.bh.fn.kp Z.bh.b .nil zbw (zaa (pv 1) (zaa (pv 0) zab))),?_⟩
  exact ⟨_,rfl,_,rfl,g,n,rfl,k⟩
theorem zly:zaj ["goal","names"] ["goal","names"] (zah (top 14)):=fS
theorem z0g (Z:ZZ P w K mg base):z2l Z 5 Z.bk (z6t K Z.bk.P):=by
 refine Z.bk.ok Z.dt zly (fz:=["goal"]) (by decide +kernel) (by kd_p) (fun A outer s H vs Q E hr h H1 sm ac hC=>?_)
 obtain ⟨g,p,ns,rfl,hS,hl,hg,hn,hT,k⟩:=h
 have GL:∀ f fd,RL f fd->zc_ P w K mg base CX0 2 f fd ["name"] (spL f fd):=fun f fd _=>z18 Z
 have bL:∀ f fd,RL f fd->zci K fd ["name"] []:=fun f fd h=>z0z h
 refine ⟨_,(zaf (zar (zyj rfl Z.ds.n_sorted zfl GL bL hr.mm (za0 (zpg rfl) rfl Z.ds.n_sorted zfl (zaa (zh4 (zu9 rfl) rfl Z.ds.n_set z37 (zaa (pv 1) zab)) zab)) (ztm rfl hC Z.du (zg9 (by kernel_rfl)))))),?_⟩
 obtain ⟨c1,ad,v1⟩:=ac 0 "goal" (.int g) (by decide +kernel) rfl rfl
 have ag:Tab H1 Z.bk.P (za7 zd_) quL:=(sm.but Z.bk.P).2 _ _ hT
 have t:=sm.seq hS
 refine ⟨_,rfl,p,ns,rfl,t,by omega,fun l1 u=>?_⟩
 have ah:=zn_ ns
 refine ⟨l1,zhc ns,rfl,zad,zhk ns,by omega,fun l2 ab=>?_⟩
 generalize m:upd (upd H1 l1 _) l2 _=H3
 have s3:zax H1 H3:=by
  rw [<- m]
  exact ((zax.refl H1).lay u).lay ab
 have r:H3 l2=some (.lst ((za1 (zhc ns)).map V.int)):=by rw [<- m,zad]
 have d:Tab H3 Z.bk.P (za7 zd_) quL:=(s3.but Z.bk.P).2 _ _ ag
 have nP:∀ {b:Addr} {xs:List V},H3 b=some (.lst xs)->b≠Z.bk.P:=fun {b xs} e z=>by
  obtain ⟨ps,hP,_⟩:=d
  rw [z,hP] at e
  cases e
 dsimp only [zzi,zl1]
 refine zpw d fun f H' fo clos c' oc k1 k2 hb j hf af sh ae cs=>?_
 have keep:∀ c v,zez H3 c v->zez H' c v:=fun c v hv=>hv.same fun o k e=>hb c _ (fun z=>by
  obtain ⟨ps,hP,_⟩:=d
  rw [z,hP] at e
  cases e) e
 obtain ⟨fd,hd,hR,hF⟩:=zq4 (qual:=quL) (params:=zga zd_) (body:=zf_ zd_) (scope:=zdp zd_) (fr:=["goal"]) (cv:=[.int g]) sh af ae cs (fun i x v h1 h2=>by
  match i,h1,h2 with
  | 0,h1,h2 =>
   cases h1
   cases h2
   exact ⟨by decide +kernel,c1,ad,keep _ _ (v1.same fun o k e=>s3 _ _ e)⟩)
 have nn:∀ x∈za1 (zhc ns),0<=x:=fun x hx=>hn x (zff.mp ((zaw _).subset hx))
 refine ⟨l2,f,fd,za1 (zhc ns),Builtin.bitXor g,rfl,rfl,SqL.of (hb _ _ (nP r) r),by rw [zbr]; omega,fun x hx y hy e=>zy8 hg (nn x hx) (nn y hy) e,hR,fun n _ Q' q=>⟨[.int g],rfl,hF,g,n,rfl,rfl,q⟩,fun l a=>?_⟩
 have s5:zax H' (upd H' l (.lst ((zks (Builtin.bitXor g) (za1 (zhc ns))).map V.int))):=(zax.refl H').lay a
 refine k l _ (fun b o aa e=>s5 _ _ (hb _ _ aa (s3 _ _ (sm _ _ e)))) ((s5.but Z.bk.P).2 _ _ j) ?_ zad
 cases e:H l with
 | none=>rfl
 | some o =>
  by_cases z:l=Z.bk.P
  ·obtain ⟨ps,hP,_⟩:=j
   rw [z,hP] at a
   cases a
  ·rw [hb _ _ z (s3 _ _ (sm _ _ e))] at a
   cases a
theorem zhb (g:Int)(ns:List Int):(zfh g ns).Perm (zhc ns):=(zfj _ _).trans (zaw _)
theorem zla {g:Int}{ns:List Int}{x:Int}:x∈zfh g ns↔x∈ns:=(zhb g ns).mem_iff.trans zff
theorem zur (g:Int)(ns:List Int):(zfh g ns).length<=ns.length:=by
 rw [(zhb g ns).length_eq]
 exact zn_ ns
theorem zqv (ns:List Int)(lo hi:Option Int):∃ ts:List Int,znu (ns.map V.int) lo hi=ts.map V.int/\ts.length<=ns.length/\∀ x∈ts,x∈ns:=by
 unfold znu
 refine ⟨(ns.drop _).take _,by rw [<- List.map_drop,<- nk],?_,fun x hx=>List.mem_of_mem_drop (gy hx)⟩
 rw [gh,ki]
 omega
def Nx (T:Addr)(H H':Hp):Prop:=(∀ b o,b≠T->H b=some o->H' b=some o)/\Tab H' T (za7 zd_) quL
theorem Nx.same {T:Addr}{H H1 H2:Hp}(a:Nx T H H1)(s:zax H1 H2):Nx T H H2:=⟨fun b o hb e=>s _ _ (a.1 b o hb e),(s.but T).2 _ _ a.2⟩
theorem Nx.trans {T:Addr}{H H1 H2:Hp}(a:Nx T H H1)(b:Nx T H1 H2):Nx T H H2:=⟨fun c o hc e=>b.1 c o hc (a.1 c o hc e),b.2⟩
theorem Nx.of {T:Addr}{H H1:Hp}(t:Tab H T (za7 zd_) quL)(s:zax H H1):Nx T H H1:=⟨fun b o _ e=>s _ _ e,(s.but T).2 _ _ t⟩
theorem Nx.free {T b:Addr}{H H1:Hp}(a:Nx T H H1)(e:H1 b=none):H b=none:=by
 cases q:H b with
 | none=>rfl
 | some o =>
  by_cases z:b=T
  ·obtain ⟨ps,hP,_⟩:=a.2
   rw [z,hP] at e
   cases e
  ·rw [a.1 b o z q] at e
   cases e
def zpr {α:Type}(f:Nat->α)(i:Nat)(x:α):Nat->α:=fun j=>if j=i then x else f j
theorem za_ {α:Type}{f:Nat->α}{i:Nat}{x:α}:zpr f i x i=x:=if_pos rfl
theorem zbe {α:Type}{f:Nat->α}{i j:Nat}{x:α}(h:j≠i):zpr f i x j=f j:=if_neg h
abbrev zj0 (n:Nat)(f:Nat->Addr):List V:=(ji n).map fun k=>V.ref (f k)
theorem zg5 {n:Nat}{f:Nat->Addr}:(zj0 n f).length=n:=by simp
theorem znj {n:Nat}{f:Nat->Addr}{i:Nat}(h:i<n):(zj0 n f)[i]? = some (V.ref (f i)):=by
 unfold zj0
 rw [List.getElem?_map,List.getElem?_range h]
 rfl
theorem zvb {n:Nat}{f:Nat->Addr}{i:Nat}{v:V}(h:(zj0 n f)[i]? = some v):i<n/\v=V.ref (f i):=by
 obtain ⟨h1,_⟩:=List.getElem?_eq_some_iff.mp h
 rw [zg5] at h1
 rw [znj h1] at h
 exact ⟨h1,(Option.some.inj h).symm⟩
theorem zpt {n:Nat}{f:Nat->Addr}{i:Int}(h0:0<=i)(h:i.toNat<n):atI (zj0 n f) i=some (V.ref (f i.toNat)):=by
 have e:((i.toNat:Nat):Int)=i:=by omega
 have z:=ziv (xs:=zj0 n f) (j:=i.toNat) (v:=V.ref (f i.toNat)) (znj h)
 rwa [e] at z
theorem zk8 {n:Nat}{f:Nat->Addr}{b:Addr}:zj0 n f++[V.ref b]=zj0 (n+1) (zpr f n b):=by
 unfold zj0
 rw [jr,gm]
 congr 1
 ·refine ik fun k hk=>?_
  rw [zbe (gc (jc.mp hk))]
 ·simp [za_]
def zdo (ns:Nat->List Int)(k:Nat):List Int:=((ji k).map ns).flatten
theorem zgj {ns:Nat->List Int}{k:Nat}:zdo ns (k+1)=zdo ns k++ns k:=by
 unfold zdo
 rw [jr]
 simp
theorem zva {ns:Nat->List Int}:∀ {j k:Nat},j<=k->(zdo ns j).length<=(zdo ns k).length
 | j,0,h=>by
  have:j=0:=by omega
  subst this
  exact gd _
 | j,k+1,h=>by
  by_cases e:j=k+1
  ·subst e
   exact gd _
  ·have:=zva (ns:=ns) (j:=j) (k:=k) (by omega)
   rw [zgj,fe]
   omega
def tF (own z r:Int)(l:Addr):List (Str × V):=[(("own" : Str),V.int own),(("wide" : Str),V.int z),(("room" : Str),V.int r),(("buckets" : Str),V.ref l)]
theorem z19 (o z r:Int)(l:Addr):zf8 "buckets" (V.ref l) (zf8 "room" (V.int r) (zf8 "wide" (V.int z) (zf8 "own" (V.int o) [])))=tF o z r l:=by kernel_rfl
structure zdm (CB CT:Addr)(H:Hp)(t bl:Addr)(own z r:Int)(n:Nat)(bA lA:Nat->Addr)(ns:Nat->List Int):Prop where
 ob:∃ dx,H t=some (.ins CT dx (tF own z r bl))
 li:H bl=some (.lst (zj0 n bA))
 bk:∀ k,k<n->zdc CB H (bA k) (lA k) r (ns k)
 bi:∀ i j,i<n->j<n->i≠j->bA i≠bA j
 lj:∀ i j,i<n->j<n->i≠j->lA i≠lA j
 nl:∀ k,k<n->lA k≠bl
structure z54 (n:Nat)(bl:Addr)(lA:Nat->Addr)(x:Addr):Prop where
 b:x≠bl
 l:∀ j,j<n->x≠lA j
section
variable {CB CT t bl:Addr} {own z r:Int} {n:Nat} {bA lA:Nat->Addr} {ns:Nat->List Int} {H H':Hp}
theorem zdm.keep (T:zdm CB CT H t bl own z r n bA lA ns)(s:∀ q o,(∀ ps,o≠ .tbl ps)->H q=some o->H' q=some o):zdm CB CT H' t bl own z r n bA lA ns:=by
 obtain ⟨⟨dx,h1⟩,h2,h3,h4,h5,h6⟩:=T
 refine ⟨⟨dx,s _ _ (fun _ z=>nomatch z) h1⟩,s _ _ (fun _ z=>nomatch z) h2,fun k hk=>?_,h4,h5,h6⟩
 obtain ⟨⟨dx,b1⟩,b2⟩:=h3 k hk
 exact ⟨⟨dx,s _ _ (fun _ z=>nomatch z) b1⟩,s _ _ (fun _ z=>nomatch z) b2⟩
theorem zdm.same (T:zdm CB CT H t bl own z r n bA lA ns)(s:zax H H'):zdm CB CT H' t bl own z r n bA lA ns:=T.keep fun q o _ e=>s q o e
theorem zdm.bne (T:zdm CB CT H t bl own z r n bA lA ns){k:Nat}(hk:k<n):bA k≠t:=fun e=>by
 obtain ⟨dx,h1⟩:=T.ob
 obtain ⟨dy,h2⟩:=(T.bk k hk).ob
 rw [e,h1] at h2
 have:=Option.some.inj h2
 injection this with _ _ h3
 exact absurd (congrArg km h3) (by simp [tF,bF])
theorem zdm.turn (T:zdm CB CT H t bl own z r n bA lA ns){k:Nat}(hk:k<n){l':Addr}{xs:List Int}(P:Addr->Prop)(hB:zdc CB H' (bA k) l' r xs)(hl:l'=lA k\/H l'=none)
  (fr:∀ q o,(∀ ps,o≠ .tbl ps)->H q=some o->q≠bA k->q≠lA k->¬ P q->H' q=some o)(hP:∀ q,P q->z54 n bl lA q/\∃ ys,H q=some (.lst ys)):zdm CB CT H' t bl own z r n bA (zpr lA k l') (zpr ns k xs):=by
 have nP:∀ q C dx fs,H q=some (.ins C dx fs)->¬ P q:=fun q C dx fs e hp=>by
  obtain ⟨_,ys,e2⟩:=hP q hp
  rw [e] at e2
  cases e2
 obtain ⟨dx,h1⟩:=T.ob
 obtain ⟨⟨dk,d⟩,c⟩:=T.bk k hk
 refine ⟨⟨dx,fr _ _ (fun _ z=>nomatch z) h1 (T.bne hk).symm (fun e=>by rw [e,c] at h1; cases h1) (nP _ _ _ _ h1)⟩,?_,fun j hj=>?_,T.bi,fun i j hi hj a=>?_,fun j hj=>?_⟩
 ·exact fr _ _ (fun _ z=>nomatch z) T.li (fun e=>by have:=T.li; rw [e,d] at this; cases this) (T.nl k hk).symm (fun hp=>(hP _ hp).1.b rfl)
 ·by_cases e:j=k
  ·subst e
   rw [za_,za_]
   exact hB
  ·rw [zbe e,zbe e]
   obtain ⟨⟨dj,j1⟩,j2⟩:=T.bk j hj
   refine ⟨⟨dj,fr _ _ (fun _ z=>nomatch z) j1 (T.bi j k hj hk e) (fun z=>by rw [z,c] at j1; cases j1) (nP _ _ _ _ j1)⟩,fr _ _ (fun _ z=>nomatch z) j2 (fun z=>by rw [z,d] at j2; cases j2) (T.lj j k hj hk e) (fun hp=>(hP _ hp).1.l j hj rfl)⟩
 ·have new:∀ m,m<n->m≠k->l'≠lA m:=fun m hm e=>by
   rcases hl with z | z
   ·rw [z]
    exact T.lj k m hk hm e.symm
   ·intro y
    rw [y,(T.bk m hm).li] at z
    cases z
  by_cases e1:i=k
  ·subst e1
   rw [za_,zbe a.symm]
   exact new j hj a.symm
  ·by_cases e2:j=k
   ·subst e2
    rw [za_,zbe e1]
    exact (new i hi e1).symm
   ·rw [zbe e1,zbe e2]
    exact T.lj i j hi hj a
 ·by_cases e:j=k
  ·subst e
   rw [za_]
   rcases hl with z | z
   ·rw [z]
    exact T.nl j hj
   ·intro y
    rw [y,T.li] at z
    cases z
  ·rw [zbe e]
   exact T.nl j hj
end
local macro_rules | `(tactic| walk_at "fld") => `(tactic| first | exact tF_own _ _ _ _ | exact tF_wide _ _ _ _ | exact tF_room _ _ _ _ | exact tF_buckets _ _ _ _ | exact tF_n1 _ _ _ _ | exact tF_n2 _ _ _ _ | exact tF_n3 _ _ _ _ | exact tF_n4 _ _ _ _ | exact tF_n5 _ _ _ _ | exact tF_n6 _ _ _ _)
def zbh (a b:Int):Nat:=(a.toNat ^^^ b.toNat).log2
theorem zdy {a b:Int}{n:Nat}(ha:0<=a)(hb:0<=b)(h1:a<2 ^ n)(h2:b<2 ^ n)(h:a≠b):zbh a b<n:=by
 have e:=zhx n
 exact log2_lt (by omega) (by omega) (by omega)
def zzy (CB CT:Addr):Sp:=fun vs H Q _=>∀ CC:Prop,(∀ (t dx:Addr) (own z r:Int),vs=[.ref t,.int own,.int z,.int r]->H t=some (.ins CT dx [])->0<=z->z<=60->(∀ (bl:Addr) (bA lA:Nat->Addr) (H':Hp),zdm CB CT H' t bl own z r z.toNat bA lA (fun _=>[])->H bl=none->(∀ k,k<z.toNat->H (bA k)=none/\H (lA k)=none)->ztg t H H'->Q .non H')->CC)->CC
def z3a (CB CT:Addr):Sp:=fun vs H Q _=>∀ CC:Prop,(∀ (t bl:Addr) (own z r m:Int) (n:Nat) (bA lA:Nat->Addr) (ns:Nat->List Int),vs=[.ref t,.int m]->zdm CB CT H t bl own z r n bA lA ns->own≠m->0<=own->0<=m->own<2 ^ n->m<2 ^ n->(Q (.ref (bA (zbh own m))) H)->CC)->CC
def zya (K:W.Frag)(CB CT:Addr)(R:Addr->FuncData->Prop)(spA:Addr->FuncData->Sp):Sp:=fun vs H Q _=>∃ (t bl f:Addr) (own z r m:Int) (n:Nat) (bA lA:Nat->Addr) (ns:Nat->List Int),vs=[.ref t,.int m,.ref f]/\zdm CB CT H t bl own z r n bA lA ns /\
 0<=own/\0<=m/\own<2 ^ n/\m<2 ^ n/\(own=m->Q (.str "own") H)/\(own≠m->zng K CB R spA [.ref (bA (zbh own m)),.int m,.ref f] H Q E0)
def zw8 (CB CT:Addr):Sp:=fun vs H Q _=>∀ CC:Prop,(∀ (t bl:Addr) (own z r m:Int) (n:Nat) (bA lA:Nat->Addr) (ns:Nat->List Int),vs=[.ref t,.int m]->zdm CB CT H t bl own z r n bA lA ns->0<=own->0<=m->own<2 ^ n->m<2 ^ n->((own=m->Q (.bl false) H)/\(own≠m->∀ H',zdc CB H' (bA (zbh own m)) (lA (zbh own m)) r ((ns (zbh own m)).erase m)->ztg (lA (zbh own m)) H H'->Q (.bl (decide (m∈ns (zbh own m)))) H'))->CC)->CC
def ztw (CB CT:Addr):Sp:=fun vs H Q _=>∀ CC:Prop,(∀ (t bl:Addr) (own z r j:Int) (n:Nat) (bA lA:Nat->Addr) (ns:Nat->List Int),vs=[.ref t,.int j]->zdm CB CT H t bl own z r n bA lA ns->0<=j->j.toNat<n->(∀ (m:Addr) (H':Hp),H m=none->H' m=some (.lst ((ns j.toNat).map V.int))->zax H H'->Q (.ref m) H')->CC)->CC
def zye (CB CT:Addr):Sp:=fun vs H Q _=>∀ CC:Prop,(∀ (t bl:Addr) (own z r:Int) (n:Nat) (bA lA:Nat->Addr) (ns:Nat->List Int),vs=[.ref t]->zdm CB CT H t bl own z r n bA lA ns->(zdo ns n).length<64->(∀ (m:Addr) (H':Hp),H m=none->H' m=some (.lst ((za1 (zdo ns n)).map V.int))->zax H H'->Q (.ref m) H')->CC)->CC
theorem ziw:zaj ["self","own","wide","room"] ["self","own","wide","room"] (zah (zai (top 36) 0)):=fS
theorem zns (Z:ZZ P w K mg base):zco Z 3 Z.bl (zzy Z.ba.C Z.bb.C):=by
 have az:=Z.bb.cl
 obtain ⟨av,aq,ay,a1,-⟩:=Z.bb.na
 have ak:=zl4 Z
 refine Z.bl.fn.ok ziw (by kd_p) (fun cdv A outer s H vs Q E hr ah=>?_)
 refine ah _ fun t dx own z r ai ht hz ar k=>?_
 subst ai
 refine ⟨_,(zae (zf7 (pv 0) (pv 1) rfl)
  (zae (zf7 (pv 0) (pv 2) rfl)
  (zae (zf7 (pv 0) (pv 3) rfl)
  (zaf (zf7 (pv 0) (zct rfl (zaz (own:=["k"]) (caps:=[3]) (N':=["k","room"]) (by kernel_rfl)) (zc2 rfl Z.ds.n_range (zaa (pv 2) zab)) (fun _ _ _ _ _=>(zas (i:=0) (show (["k","room"]:List Str).Nodup by decide +kernel) rfl oL)) (fun _ _ _ _ _=>zfx) (fun _ _ _ _ _=>(zpy (DfM.mk' Z.ba Z.bd) ak hr.mm rfl Z.ba.hm Z.bd.b .nil zbw (zaa (pv 1) zab)))) rfl))))),?_⟩
 kt_k
 generalize x:upd (upd (upd H t _) t _) t _=H3
 have ab:H3 t=some (.ins Z.bb.C dx (zf8 "room" (V.int r) (zf8 "wide" (V.int z) (zf8 "own" (V.int own) [])))):=by rw [<- x]; exact zad
 have af:∀ c,c≠t->H3 c=H c:=fun c hc=>by rw [<- x,zac hc,zac hc,zac hc]
 clear x
 intro D hD
 have ap:D≠t:=(zag ab hD).symm
 refine zfb (lo:=0) (n:=z.toNat) (fun i σ H2=>zer (∃ (bA lA:Nat->Addr) (v0:Option V),σ=[v0,some (.int r)]/\H2 D=some (.lst (zj0 i bA))/\(∀ k,k<i->zdc Z.ba.C H2 (bA k) (lA k) r [])/\(∀ k,k<i->H3 (bA k)=none/\H3 (lA k)=none/\lA k≠D) /\
   (∀ i' j',i'<i->j'<i->i'≠j'->bA i'≠bA j'/\lA i'≠lA j')/\zax H3 H2)) ⟨⟨fun _=>0,fun _=>0,none,rfl,zad,fun _ h=>absurd h (by omega),fun _ h=>absurd h (by omega),fun _ _ h=>absurd h (by omega),zax.new H3 hD⟩⟩ ?_ ?_
 ·rintro i σ H2 hi ⟨bA,lA,v0,rfl,d,p,f,u,s2⟩
  kt_k
  intro b ae hb am aw
  have a:∀ {q:Addr} {o:HO},H2 q=some o->q≠b/\q≠ae:=fun e=>⟨zag e hb,zag e am⟩
  refine ⟨b,ae,r,rfl,zad,fun l H5 hl B5 ad=>⟨rfl,zj0 i bA,?_,by rw [zg5]; exact zau (by omega),?_⟩⟩
  ·exact ad _ _ (by rw [zac (a d).1,zac (a d).2]; exact d) (a d).1
  have s5:zax H2 H5:=fun q o e=>ad _ _ (by rw [zac (a e).1,zac (a e).2]; exact e) (a e).1
  have y:H2 l=none:=by
   cases q:H2 l with
   | none=>rfl
   | some o=>rw [zac (a q).1,zac (a q).2,q] at hl; cases hl
  have ac:l≠D:=(zag d y).symm
  have an:b≠D:=(zag d hb).symm
  obtain ⟨⟨ag,ao⟩,al⟩:=B5
  refine ⟨⟨zpr bA i b,zpr lA i l,_,rfl,by rw [zad,zk8],fun k hk=>?_,fun k hk=>?_,fun i' j' ax au g=>?_,(s2.trans s5).put hD⟩⟩
  ·by_cases e:k=i
   ·rw [e,za_,za_]
    exact ⟨⟨ag,by rw [zac an]; exact ao⟩,by rw [zac ac]; exact al⟩
   ·rw [zbe e,zbe e]
    obtain ⟨⟨v,b1⟩,b2⟩:=p k (by omega)
    have aj:bA k≠D:=zdv b1 d (by intro z; cases z)
    exact ⟨⟨v,by rw [zac aj]; exact s5 _ _ b1⟩,by rw [zac (f k (by omega)).2.2]; exact s5 _ _ b2⟩
  ·by_cases e:k=i
   ·rw [e,za_,za_]
    exact ⟨s2.free hb,s2.free y,ac⟩
   ·rw [zbe e,zbe e]
    exact f k (by omega)
  ·have nb:∀ m,m<i->b≠bA m/\l≠lA m:=fun m hm=>by
    obtain ⟨⟨a2,b1⟩,b2⟩:=p m hm
    exact ⟨(zag b1 hb).symm,(zag b2 y).symm⟩
   by_cases e1:i'=i
   ·subst e1
    rw [za_,za_,zbe g.symm,zbe g.symm]
    exact nb j' (by omega)
   ·by_cases e2:j'=i
    ·subst e2
     rw [za_,za_,zbe e1,zbe e1]
     have:=nb i' (by omega)
     exact ⟨this.1.symm,this.2.symm⟩
    ·rw [zbe e1,zbe e1,zbe e2,zbe e2]
     exact u i' j' (by omega) (by omega) g
 ·rintro σ H2 ⟨bA,lA,v0,rfl,d,p,f,u,s2⟩
  have a0:=s2 _ _ ab
  kt_k
  show Q .non (upd H2 t (.ins Z.bb.C dx (zf8 "buckets" (V.ref D) (zf8 "room" (V.int r) (zf8 "wide" (V.int z) (zf8 "own" (V.int own) []))))))
  rw [z19]
  have n3:∀ {q:Addr},H3 q=none->q≠t:=fun h=>(zag ab h).symm
  have aa:∀ {q:Addr},H3 q=none->H q=none:=fun h=>by rw [<- af _ (n3 h)]; exact h
  refine k D bA lA _ ⟨⟨dx,zad⟩,by rw [zac ap]; exact d,fun k hk=>?_,fun i j hi hj h=>(u i j hi hj h).1,fun i j hi hj h=>(u i j hi hj h).2,fun k hk=>(f k hk).2.2⟩ (aa hD) (fun k hk=>⟨aa (f k hk).1,aa (f k hk).2.1⟩) fun c o e hc=>?_
  ·obtain ⟨⟨v,b1⟩,b2⟩:=p k hk
   exact ⟨⟨v,by rw [zac (n3 (f k hk).1)]; exact b1⟩,by rw [zac (n3 (f k hk).2.1)]; exact b2⟩
  ·rw [zac hc]
   exact s2 _ _ (by rw [af _ hc]; exact e)
theorem zh6:zaj ["self","name"] ["self","name"] (zah (zai (top 36) 3)):=fS
theorem zi3 (Z:ZZ P w K mg base){CB:Addr}:zco Z 3 Z.bm (z3a CB Z.bb.C):=by
 have i:=Z.bb.cl
 obtain ⟨l,h,g,p,-⟩:=Z.bb.na
 have b:=z0h Z
 refine Z.bm.fn.ok zh6 (by kd_p) (fun cdv A outer s H vs Q E hr c=>?_)
 refine c _ fun t bl own z r m n bA lA ns d hT a h1 h2 h3 h4 k=>?_
 subst d
 obtain ⟨⟨dx,j⟩,q,-⟩:=id hT
 refine ⟨_,(zaf (zar (zfg zcg (za9 (pv 0) rfl) (pfD Z.bi b hr rfl (zaa (za9 (pv 0) rfl) (zaa (pv 1) zab))) (fun _ _=>rfl)))),?_⟩
 have e:=znd h1 h2 a
 have f:=zdy h1 h2 h3 h4 a
 have o:atI (zj0 n bA) (((Builtin.Int.intBits (Builtin.bitXor own m):Nat):Int) - 1)=some (V.ref (bA (zbh own m))):=by
  rw [e]
  exact zpt (by omega) (by rw [ij]; exact f)
 kt_k
theorem zl3:zaj ["self","name","answers"] ["self","name","answers"] (zah (zai (top 36) 1)):=fS
theorem zlv (Z:ZZ P w K mg base){psA:List Str}{R:Addr->FuncData->Prop}{spA:Addr->FuncData->Sp}(GA:∀ f fd,R f fd->zc_ P w K mg base CX0 5 f fd psA (spA f fd))(bA':∀ f fd,R f fd->zci K fd psA [])(mA:zyp spA):zco Z 8 Z.bn (zya K Z.ba.C Z.bb.C R spA):=by
 have p:=Z.bb.cl
 obtain ⟨v,o,l,x,-⟩:=Z.bb.na
 have c:=zi3 (CB:=Z.ba.C) Z
 have d:=zkm Z GA bA' mA
 refine Z.bn.fn.ok zl3 (by kd_p) (fun cdv A outer s H vs Q E hr h=>?_)
 obtain ⟨t,bl,f,own,z,r,m,n,bA,lA,ns,rfl,hT,h1,h2,h3,h4,k1,k2⟩:=h
 obtain ⟨⟨dx,u⟩,y,g,-⟩:=id hT
 refine ⟨_,(zae (zbn (zan zhu (pv 1) (za9 (pv 0) rfl) (za5 _))
   (zaf (zar zd0))
   za6)
  (zaf (zar (pmD (pmD (pv 0) Z.bb.cl Z.bm c hr (zaa (pv 1) zab)) Z.ba.cl Z.bg d hr (zaa (pv 1) (zaa (pv 2) zab)))))),?_⟩
 kt_k
 by_cases b:m=own
 ·subst b
  refine zlw rfl ?_
  exact k1 rfl
 ·have a:own≠m:=fun e=>b e.symm
  refine ze7 (fun e=>b (by injection e)) ?_
  have i:=zdy h1 h2 h3 h4 a
  obtain ⟨⟨dk,q⟩,j⟩:=g _ i
  have hf:=k2 a
  kt_k
theorem zk9:zaj ["self","k"] ["self","k"] (zah (zai (top 36) 4)):=fS
theorem zkl (Z:ZZ P w K mg base):zco Z 2 Z.bo (ztw Z.ba.C Z.bb.C):=by
 have l:=Z.bb.cl
 obtain ⟨p,i,h,u,-⟩:=Z.bb.na
 have e:=zgg Z
 refine Z.bo.fn.ok zk9 (by kd_p) (fun cdv A outer s H vs Q E hr c=>?_)
 refine c _ fun t bl own z r j n bA lA ns d hT h1 h2 k=>?_
 subst d
 obtain ⟨⟨dx,o⟩,v,a,-⟩:=id hT
 have hB:=a _ h2
 obtain ⟨⟨dk,m⟩,g⟩:=id hB
 refine ⟨_,(zaf (zar (zbi (zfg zcg (za9 (pv 0) rfl) (pv 1) (fun _ _=>rfl)) Z.ba.cl Z.be.me e hr.mm Z.be.b .nil zbw))),?_⟩
 have q:=zpt (f:=bA) h1 h2
 kt_k
theorem zeq:zaj ["self","names","bucket"] ["self"] (zah (zai (top 36) 5)):=fS
theorem zey (Z:ZZ P w K mg base):zco Z 2 Z.bp (zye Z.ba.C Z.bb.C):=by
 have af:=Z.bb.cl
 obtain ⟨ag,ae,ad,ai,-⟩:=Z.bb.na
 have u:=zgg Z
 refine Z.bp.fn.ok zeq (by kd_p) (fun cdv A outer s H vs Q E hr l=>?_)
 refine l _ fun t bl own z r n bA lA ns q hT aa k=>?_
 subst q
 obtain ⟨⟨dx,o⟩,f,h,-⟩:=id hT
 refine ⟨_,(zae (za2 (i:=1) zeq.nd rfl oL (zb0 zab))
  (zae (zca PassesOwn.never rfl (zbb (za9 (pv 0) rfl)) (zas (i:=2) zeq.nd rfl oL)
   (zaf (zap (zgv ge PySem.F.slot_list_extend PySem.F.type_list_extend zuz (pv 1) (zaa (zbi (pv 2) Z.ba.cl Z.be.me u hr.mm Z.be.b .nil zbw) zab)))))
  (zaf (zar (za0 zkb rfl Z.ds.n_sorted zfl (zaa (pv 1) zab)))))),?_⟩
 kt_k
 intro p hp
 have s0:zax H (upd H p (.lst [])):=zax.new H hp
 have ac:=s0 _ _ o
 have x:=s0 _ _ f
 kt_k
 refine zbs (K:=K) (a:=bl) (xs:=zj0 n bA) (fun i σ H2=>zer (∃ v:Option V,σ=[some (.ref t),some (.ref p),v]/\zax H H2/\H2 p=some (.lst ((zdo ns i).map V.int))))
  ⟨⟨none,rfl,s0,zad⟩⟩ (fun i σ H2 _ ⟨_,_,s2,_⟩=>SqL.of (s2 _ _ f)) ?_ ?_
 ·rintro i y σ H2 hi ⟨v,rfl,s2,c⟩
  obtain ⟨e,rfl⟩:=zvb hi
  obtain ⟨⟨dk,d⟩,g⟩:=h _ e
  have hB:zdc Z.ba.C H2 (bA i) (lA i) r (ns i):=⟨⟨dk,s2 _ _ d⟩,s2 _ _ g⟩
  have ab:=s2 _ _ d
  kt_k
  intro m H3 hm ah s3
  have aj:=s3 _ _ c
  have hsz:((zdo ns i).map V.int).length+((ns i).map V.int).length<=sizeLine:=by
   have e1:=zva (ns:=ns) (j:=i+1) (k:=n) e
   rw [zgj,fe] at e1
   rw [d9,d9]
   exact ia (zau (by omega))
  kt_k
  refine ⟨⟨_,rfl,(s2.trans s3).put hp,?_⟩⟩
  rw [zad,zgj,gm]
 ·rintro σ H2 ⟨v,rfl,s2,c⟩
  rw [zg5] at c
  kt_k
  intro m hm
  exact k m _ (s2.free hm) zad (s2.put (s2.free hm))
theorem zp1:zaj ["thing"] ["thing"] (zah (top 10)):=fS
def zh8 (K:W.Frag)(H:Hp)(v:V):Prop:=(∃ b,v = .bl b)\/∃ t,zlo K H v t/\PySem.W.kitOne K t (.type "int")=some false
def zxu (K:W.Frag):Sp:=fun vs H Q _=>∃ v,vs=[v]/\((∃ i,v = .int i)/\Q (.bl true) H\/zh8 K H v/\Q (.bl false) H)
theorem zkj (Z:ZZ P w K mg base):zgb Z 1 Z.bq (zxu K):=by
 refine Z.bq.fn.ok zp1 (by kd_p) (fun cdv A outer s H vs Q E hr h=>?_)
 obtain ⟨v,rfl,h⟩:=h
 refine ⟨_,(zaf (zar (zjp (za0 zmx rfl Z.ds.n_isinstance zbl (zaa (pv 0) (zaa (zxs rfl Z.ds.n_int z36) zab))) (zjr (zy6 (za0 zmx rfl Z.ds.n_isinstance zbl (zaa (pv 0) (zaa (zxs rfl Z.ds.n_bool zzv) zab)))))))),?_⟩
 rcases h with ⟨⟨i,rfl⟩,k⟩ | ⟨⟨b,rfl⟩ | ⟨t,ht,hk⟩,k⟩
 ·kt_k
 ·kt_k
 ·kt_k
theorem zs7:zaj ["thing","wide"] ["thing","wide"] (zah (top 11)):=fS
def zx8 (K:W.Frag):Sp:=fun vs H Q _=>∃ (v:V) (z:Int),vs=[v,.int z]/\((∃ i,v = .int i/\Q (.bl (decide (0<=i) && decide (((Builtin.Int.intBits i:Nat):Int)<=z))) H)\/zh8 K H v/\Q (.bl false) H)
theorem zmu (Z:ZZ P w K mg base):zgb Z 2 Z.br (zx8 K):=by
 have a:=zkj Z
 refine Z.br.fn.ok zs7 (by kd_p) (fun cdv A outer s H vs Q E hr h=>?_)
 obtain ⟨v,z,rfl,h⟩:=h
 refine ⟨_,(zaf (zar (zjp (pfD Z.bq a hr rfl (zaa (pv 0) zab)) (zjp (zd7 z49 (pv 0) zak (za5 _)) (zjr (zd7 zwf (zih (pv 0)) (pv 1) (za5 _))))))),?_⟩
 rcases h with ⟨i,rfl,k⟩ | ⟨hw,k⟩
 ·refine ⟨_,rfl,_,rfl,.inl ⟨⟨i,rfl⟩,?_⟩⟩
  kt_k
  by_cases hi:0<=i
  ·refine zlw hi ?_
   rw [decide_eq_true hi,Bool.true_and] at k
   kt_k
  ·refine ze7 hi ?_
   rw [decide_eq_false hi,Bool.false_and] at k
   exact k
 ·refine ⟨_,rfl,_,rfl,.inr ⟨hw,?_⟩⟩
  kt_k
def wF (z r:Int)(td sd:Addr):List (Str × V):=[(("wide" : Str),V.int z),(("room" : Str),V.int r),(("tables" : Str),V.ref td),(("silent" : Str),V.ref sd)]
theorem z2s (z r:Int)(a b:Addr):zf8 "silent" (V.ref b) (zf8 "tables" (V.ref a) (zf8 "room" (V.int r) (zf8 "wide" (V.int z) [])))=wF z r a b:=by kernel_rfl
theorem z4j (m:Str)(h:m∉(["wide","room","tables","silent"]:List Str))(z r:Int)(a b:Addr):(wF z r a b).lookup m=none:=by
 simp only [gl,gi,or_false,not_or] at h
 obtain ⟨h1,h2,h3,h4⟩:=h
 have e1:(m == "wide")=false:=beq_eq_false_iff_ne.mpr h1
 have e2:(m == "room")=false:=beq_eq_false_iff_ne.mpr h2
 have e3:(m == "tables")=false:=beq_eq_false_iff_ne.mpr h3
 have e4:(m == "silent")=false:=beq_eq_false_iff_ne.mpr h4
 unfold wF
 simp only [List.lookup,e1,e2,e3,e4]
structure zbv where
 t:Addr
 bl:Addr
 bA:Nat->Addr
 lA:Nat->Addr
 ns:Nat->List Int
def zcv (hs:List Int)(T:Int->zbv):List (Key × V):=hs.map fun h=>(Sum.inl h,V.ref (T h).t)
def zfa (sil:List Int):List (Key × V):=sil.map fun h=>(Sum.inl h,V.bl true)
structure zam (CB CT CW:Addr)(H:Hp)(w td sd:Addr)(z r:Int)(hs sil:List Int)(T:Int->zbv):Prop where
 ob:∃ dx,H w=some (.ins CW dx (wF z r td sd))
 tb:H td=some (.dK (zcv hs T))
 si:H sd=some (.dK (zfa sil))
 ta:∀ h∈hs,zdm CB CT H (T h).t (T h).bl h z r z.toNat (T h).bA (T h).lA (T h).ns
 nd:hs.Nodup
 hb:∀ h∈hs,0<=h/\h<2 ^ z.toNat
 z1:1<=z
 z2:z<=60
 r1:1<=r
 r2:r<=8
 ln:hs.length<=60
 ts:td≠sd
theorem zam.keep {CB CT CW:Addr}{H H':Hp}{w td sd:Addr}{z r:Int}{hs sil:List Int}{T:Int->zbv}(W:zam CB CT CW H w td sd z r hs sil T)(s:∀ q o,(∀ ps,o≠ .tbl ps)->H q=some o->H' q=some o):zam CB CT CW H' w td sd z r hs sil T:=by
 obtain ⟨⟨dx,h1⟩,h2,h3,h4,h5,h6,h7,h8,h9,a,b,c⟩:=W
 exact ⟨⟨dx,s _ _ (fun _ z=>nomatch z) h1⟩,s _ _ (fun _ z=>nomatch z) h2,s _ _ (fun _ z=>nomatch z) h3,fun h hh=>(h4 h hh).keep s,h5,h6,h7,h8,h9,a,b,c⟩
theorem zcd {hs:List Int}{T:Int->zbv}{i:Int}:zee (zcv hs T) (Sum.inl i)=if i∈hs then some (V.ref (T i).t) else none:=by
 induction hs with
 | nil=>rfl
 | cons h t ih =>
  by_cases e:h=i
  ·subst e
   rw [if_pos (fk ..)]
   exact zg7 rfl
  ·have z:zee (zcv (h :: t) T) (Sum.inl i)=zee (zcv t T) (Sum.inl i):=zf4 (by simpa using e)
   rw [z,ih]
   by_cases m:i∈t
   ·rw [if_pos m,if_pos (fg _ m)]
   ·rw [if_neg m,if_neg (by simp [m,Ne.symm e])]
theorem zg8 {sil:List Int}{i:Int}:(zee (zfa sil) (Sum.inl i)).isSome=decide (i∈sil):=by
 induction sil with
 | nil=>rfl
 | cons h t ih =>
  by_cases e:h=i
  ·subst e
   have z:zee (zfa (h :: t)) (Sum.inl h)=some (V.bl true):=zg7 rfl
   rw [z]
   simp
  ·have z:zee (zfa (h :: t)) (Sum.inl i)=zee (zfa t) (Sum.inl i):=zf4 (by simpa using e)
   rw [z,ih]
   simp [Ne.symm e]
theorem ztq {i z:Int}(hi:0<=i)(hz:0<=z):decide (((Builtin.Int.intBits i:Nat):Int)<=z)=decide (i<2 ^ z.toNat):=by
 have c:((2 ^ z.toNat:Nat):Int)=2 ^ z.toNat:=by simp
 have hp:=zd8 z.toNat
 by_cases h0:i=0
 ·subst h0
  have e:Builtin.Int.intBits 0=0:=by decide +kernel
  rw [e,decide_eq_true (by omega),decide_eq_true hp]
 ·have e:Builtin.Int.intBits i=i.natAbs.log2+1:=by
   unfold Builtin.Int.intBits
   rw [if_neg (by simpa using h0)]
  rw [e]
  have l:=Nat.log2_lt (n:=i.natAbs) (k:=z.toNat) (by omega)
  refine decide_eq_decide.mpr ⟨fun h=>?_,fun h=>?_⟩
  ·have:=l.mp (by omega)
   omega
  ·have:=l.mpr (by omega)
   omega
def zdr (z i:Int):Bool:=decide (0<=i) && decide (((Builtin.Int.intBits i:Nat):Int)<=z)
theorem zej {z i:Int}(h0:0<=i)(h1:i<2 ^ z.toNat)(hz:1<=z):zdr z i=true:=by
 unfold zdr
 rw [decide_eq_true h0,ztq h0 (by omega),decide_eq_true h1]
 rfl
local macro_rules | `(tactic| walk_at "fld") => `(tactic| first | exact wF_wide _ _ _ _ | exact wF_room _ _ _ _ | exact wF_tables _ _ _ _ | exact wF_silent _ _ _ _ | exact z4j _ (by decide +kernel) _ _ _ _ | exact zik.k (k := Sum.inl _) (by walk_at "hp"))
def ztu (K:W.Frag)(CB CT CW:Addr):Sp:=fun vs H Q _=>∃ (w td sd:Addr) (z r:Int) (hs sil:List Int) (T:Int->zbv) (v:V),vs=[.ref w,v]/\zam CB CT CW H w td sd z r hs sil T/\((∃ i,v = .int i/\Q (.bl (zdr z i && decide (i∈hs))) H)\/zh8 K H v/\Q (.bl false) H)
def zo4 (K:W.Frag)(CB CT CW:Addr):Sp:=fun vs H Q _=>∃ (w td sd:Addr) (z r:Int) (hs sil:List Int) (T:Int->zbv) (v:V),vs=[.ref w,v]/\zam CB CT CW H w td sd z r hs sil T/\((∃ i,v = .int i/\Q (.bl (zdr z i && decide (i∈hs) && !decide (i∈sil))) H)\/zh8 K H v/\Q (.bl false) H)
theorem zjx:zaj ["self","thing"] ["self","thing"] (zah (zai (top 39) 4)):=fS
theorem zcs (Z:ZZ P w K mg base){CB CT:Addr}:zco Z 3 Z.bs (ztu K CB CT Z.bc.C):=by
 have f:=Z.bc.cl
 obtain ⟨l,d,c,e,-⟩:=Z.bc.na
 have a:=zmu Z
 refine Z.bs.fn.ok zjx (by kd_p) (fun cdv A outer s H vs Q E hr h=>?_)
 obtain ⟨w,td,sd,z,r,hs,sil,TT,v,rfl,hW,h⟩:=h
 obtain ⟨⟨dx,j⟩,b,g,-⟩:=id hW
 refine ⟨_,(zaf (zar (zjp (pfD Z.br a hr rfl (zaa (pv 1) (zaa (za9 (pv 0) rfl) zab))) (zjr (zzh (z2p (zfm hr) (pv 1) (za9 (pv 0) rfl))))))),?_⟩
 kt_k
 rcases h with ⟨i,rfl,k⟩ | ⟨hw,k⟩
 ·refine .inl ⟨i,rfl,?_⟩
  refine ⟨_,rfl,?_⟩
  change if zdr z i=true then _ else _
  cases hn:zdr z i with
  | true =>
   rw [hn,Bool.true_and] at k
   kt_k
   rw [zcd]
   by_cases m:i∈hs
   ·rw [if_pos m]
    rw [decide_eq_true m] at k
    exact k
   ·rw [if_neg m]
    rw [decide_eq_false m] at k
    exact k
  | false =>
   rw [hn,Bool.false_and] at k
   kt_k
 ·refine .inr ⟨hw,?_⟩
  kt_k
theorem zke:zaj ["self","name"] ["self","name"] (zah (zai (top 39) 3)):=fS
theorem zbg (Z:ZZ P w K mg base){CB CT:Addr}:zco Z 4 Z.bt (zo4 K CB CT Z.bc.C):=by
 have f:=Z.bc.cl
 obtain ⟨l,d,c,e,-⟩:=Z.bc.na
 have a:=zcs (CB:=CB) (CT:=CT) Z
 refine Z.bt.fn.ok zke (by kd_p) (fun cdv A outer s H vs Q E hr h=>?_)
 obtain ⟨w,td,sd,z,r,hs,sil,TT,v,rfl,hW,h⟩:=h
 obtain ⟨⟨dx,j⟩,b,g,-⟩:=id hW
 refine ⟨_,(zaf (zar (zjp (pmD (pv 0) Z.bc.cl Z.bs a hr (zaa (pv 1) zab)) (zjr (zzh (zn3 (zfm hr) (pv 1) (za9 (pv 0) rfl))))))),?_⟩
 kt_k
 rcases h with ⟨i,rfl,k⟩ | ⟨hw,k⟩
 ·refine .inl ⟨i,rfl,?_⟩
  refine ⟨_,rfl,?_⟩
  cases hn:(zdr z i && decide (i∈hs)) with
  | true =>
   rw [hn,Bool.true_and] at k
   kt_k
   rw [zg8]
   exact k
  | false =>
   rw [hn,Bool.false_and] at k
   kt_k
 ·refine .inr ⟨hw,?_⟩
  kt_k
theorem zdz:zaj ["self","thing"] ["self","thing"] (zah (zai (top 39) 16)):=fS
def zok (CB CT CW:Addr):Sp:=fun vs H Q _=>∀ CC:Prop,(∀ (w td sd:Addr) (z r:Int) (hs sil:List Int) (T:Int->zbv) (i:Int),vs=[.ref w,.int i]->zam CB CT CW H w td sd z r hs sil T->i∈hs->(Q .non H)->CC)->CC
theorem zbm (Z:ZZ P w K mg base){CB CT:Addr}:zco Z 4 Z.bv (zok CB CT Z.bc.C):=by
 have e:=Z.bc.cl
 have a:=zcs (CB:=CB) (CT:=CT) Z
 refine Z.bv.fn.ok zdz (by kd_p) (fun cdv A outer s H vs Q E hr b=>?_)
 refine b _ fun w td sd z r hs sil TT i c hW hi k=>?_
 subst c
 obtain ⟨⟨dx,g⟩,d,f,-⟩:=id hW
 have hn:zdr z i=true:=zej (hW.hb i hi).1 (hW.hb i hi).2 hW.z1
 refine ⟨_,(zaf (zbn (zd3 (zb_ (pmD (pv 0) Z.bc.cl Z.bs a hr (zaa (pv 1) zab))))
   (zaf (zds (W:=fun _=>False) Z.bu rfl rfl (zaa zd0 zab) (fun _ _ _ _ _ _ _ _ _ hw=>hw.elim)))
   za6)),?_⟩
 kt_k
 refine .inl ⟨i,rfl,?_⟩
 rw [hn,decide_eq_true hi]
 kt_k
theorem zif:zaj ["self","thing"] ["self","thing"] (zah (zai (top 39) 15)):=fS
def zqx (CB CT CW:Addr):Sp:=fun vs H Q _=>∀ CC:Prop,(∀ (w td sd:Addr) (z r:Int) (hs sil:List Int) (T:Int->zbv) (i:Int),vs=[.ref w,.int i]->zam CB CT CW H w td sd z r hs sil T->0<=i->i<2 ^ z.toNat->(Q .non H)->CC)->CC
theorem zc7 (Z:ZZ P w K mg base){CB CT:Addr}:zco Z 3 Z.bx (zqx CB CT Z.bc.C):=by
 have f:=Z.bc.cl
 obtain ⟨m,g,e,h,-⟩:=Z.bc.na
 have a:=zmu Z
 refine Z.bx.fn.ok zif (by kd_p) (fun cdv A outer s H vs Q E hr b=>?_)
 refine b _ fun w td sd z r hs sil TT i c hW h0 h1 k=>?_
 subst c
 obtain ⟨⟨dx,l⟩,d,j,-⟩:=id hW
 have hn:zdr z i=true:=zej h0 h1 hW.z1
 refine ⟨_,(zaf (zbn (zd3 (zb_ (pfD Z.br a hr rfl (zaa (pv 1) (zaa (za9 (pv 0) rfl) zab)))))
   (zaf (zds (W:=fun _=>False) Z.bw rfl rfl (zaa zd0 zab) (fun _ _ _ _ _ _ _ _ _ hw=>hw.elim)))
   za6)),?_⟩
 kt_k
 refine .inl ⟨i,rfl,?_⟩
 unfold zdr at hn
 rw [hn]
 kt_k
theorem zc0:zaj ["self","thing"] ["self","thing"] (zah (zai (top 39) 17)):=fS
def zs5 (CB CT CW:Addr):Sp:=fun vs H Q _=>∀ CC:Prop,(∀ (w td sd:Addr) (z r:Int) (hs sil:List Int) (T:Int->zbv) (i:Int),vs=[.ref w,.int i]->zam CB CT CW H w td sd z r hs sil T->i∈hs->i∉sil->(Q .non H)->CC)->CC
theorem zbd (Z:ZZ P w K mg base){CB CT:Addr}:zco Z 5 Z.b0 (zs5 CB CT Z.bc.C):=by
 have g:=Z.bc.cl
 have a:=zbm (CB:=CB) (CT:=CT) Z
 have e:=zbg (CB:=CB) (CT:=CT) Z
 refine Z.b0.fn.ok zc0 (by kd_p) (fun cdv A outer s H vs Q E hr c=>?_)
 refine c _ fun w td sd z r hs sil TT i d hW hi b k=>?_
 subst d
 obtain ⟨⟨dx,j⟩,f,h,-⟩:=id hW
 have hn:zdr z i=true:=zej (hW.hb i hi).1 (hW.hb i hi).2 hW.z1
 refine ⟨_,(zae (zap (pmD (pv 0) Z.bc.cl Z.bv a hr (zaa (pv 1) zab)))
  (zaf (zbn (zd3 (zb_ (pmD (pv 0) Z.bc.cl Z.bt e hr (zaa (pv 1) zab))))
   (zaf (zds (W:=fun _=>False) Z.bz rfl rfl (zaa zd0 zab) (fun _ _ _ _ _ _ _ _ _ hw=>hw.elim)))
   za6))),?_⟩
 kt_k
 refine .inl ⟨i,rfl,?_⟩
 rw [hn,decide_eq_true hi,decide_eq_false b]
 kt_k
theorem zl0:zaj ["self"] ["self"] (zah (zai (top 39) 1)):=fS
def zxc (CB CT CW:Addr):Sp:=fun vs H Q _=>∀ CC:Prop,(∀ (w td sd:Addr) (z r:Int) (hs sil:List Int) (T:Int->zbv),vs=[.ref w]->zam CB CT CW H w td sd z r hs sil T->(∀ l,H l=none->Q (.ref l) (upd H l (.lst ((za1 hs).map V.int))))->CC)->CC
theorem zcp (Z:ZZ P w K mg base){CB CT:Addr}:zco Z 1 Z.b1 (zxc CB CT Z.bc.C):=by
 have f:=Z.bc.cl
 obtain ⟨m,h,e,i,-⟩:=Z.bc.na
 refine Z.b1.fn.ok zl0 (by kd_p) (fun cdv A outer s H vs Q E hr a=>?_)
 refine a _ fun w td sd z r hs sil TT c hW k=>?_
 subst c
 obtain ⟨⟨dx,l⟩,d,j,-⟩:=id hW
 have g:=hW.ln
 have b:(zcv hs TT).map (·.1)=hs.map Sum.inl:=by
  unfold zcv
  rw [l4]
  rfl
 have n:hs.length<64:=by omega
 refine ⟨_,(zaf (zar (za0 (zjo rfl) rfl Z.ds.n_sorted zfl (zaa (za9 (pv 0) rfl) zab)))),?_⟩
 kt_k
theorem zl2:zaj ["self","house","k"] ["self","house","k"] (zah (zai (top 39) 5)):=fS
def zpp (CB CT CW:Addr):Sp:=fun vs H Q _=>∀ CC:Prop,(∀ (w td sd:Addr) (z r:Int) (hs sil:List Int) (T:Int->zbv) (i j:Int),vs=[.ref w,.int i,.int j]->zam CB CT CW H w td sd z r hs sil T->i∈hs->0<=j->j.toNat<z.toNat->(∀ (m:Addr) (H':Hp),H m=none->H' m=some (.lst (((T i).ns j.toNat).map V.int))->zax H H'->Q (.ref m) H')->CC)->CC
theorem zdi (Z:ZZ P w K mg base):zco Z 5 Z.b2 (zpp Z.ba.C Z.bb.C Z.bc.C):=by
 have n:=Z.bc.cl
 obtain ⟨q,m,l,v,-⟩:=Z.bc.na
 have g:=zkl Z
 have a:=zbm (CB:=Z.ba.C) (CT:=Z.bb.C) Z
 refine Z.b2.fn.ok zl2 (by kd_p) (fun cdv A outer s H vs Q E hr c=>?_)
 refine c _ fun w td sd z r hs sil TT i j e hW hi hj u k=>?_
 subst e
 obtain ⟨⟨dx,p⟩,f,x,b,-⟩:=id hW
 have d:=b i hi
 obtain ⟨o,h⟩:=d.ob
 have hg:zik H td (V.int i) (some (V.ref (TT i).t)):=by
  have:=zik.k (k:=Sum.inl i) f
  rw [zcd,if_pos hi] at this
  exact this
 refine ⟨_,(zae (zap (pmD (pv 0) Z.bc.cl Z.bv a hr (zaa (pv 1) zab)))
  (zaf (zar (pmD (zep (zfm hr) (za9 (pv 0) rfl) (pv 1) (fun _ _=>rfl)) Z.bb.cl Z.bo g hr (zaa (pv 2) zab))))),?_⟩
 kt_k
theorem znp:zaj ["self","house"] ["self","house"] (zah (zai (top 39) 6)):=fS
def zp8 (CB CT CW:Addr):Sp:=fun vs H Q _=>∀ CC:Prop,(∀ (w td sd:Addr) (z r:Int) (hs sil:List Int) (T:Int->zbv) (i:Int),vs=[.ref w,.int i]->zam CB CT CW H w td sd z r hs sil T->i∈hs->(zdo (T i).ns z.toNat).length<64->(∀ (m:Addr) (H':Hp),H m=none->H' m=some (.lst ((za1 (zdo (T i).ns z.toNat)).map V.int))->zax H H'->Q (.ref m) H')->CC)->CC
theorem zii (Z:ZZ P w K mg base):zco Z 5 Z.b3 (zp8 Z.ba.C Z.bb.C Z.bc.C):=by
 have o:=Z.bc.cl
 obtain ⟨u,n,m,v,-⟩:=Z.bc.na
 have h:=zey Z
 have a:=zbm (CB:=Z.ba.C) (CT:=Z.bb.C) Z
 refine Z.b3.fn.ok znp (by kd_p) (fun cdv A outer s H vs Q E hr d=>?_)
 refine d _ fun w td sd z r hs sil TT i f hW hi j k=>?_
 subst f
 obtain ⟨⟨dx,q⟩,g,x,c,-⟩:=id hW
 have e:=c i hi
 obtain ⟨p,l⟩:=e.ob
 have hg:zik H td (V.int i) (some (V.ref (TT i).t)):=by
  have:=zik.k (k:=Sum.inl i) g
  rw [zcd,if_pos hi] at this
  exact this
 refine ⟨_,(zae (zap (pmD (pv 0) Z.bc.cl Z.bv a hr (zaa (pv 1) zab)))
  (zaf (zar (zbi (zep (zfm hr) (za9 (pv 0) rfl) (pv 1) (fun _ _=>rfl)) Z.bb.cl Z.bp.me h hr.mm Z.bp.b .nil zbw)))),?_⟩
 kt_k
def zxe (v:V)(most:Int):Bool:=match v with | .int i=>decide (1<=i) && decide (i<=most) | _=>false
def zfe (K:W.Frag)(H:Hp)(v:V):Prop:=(∃ i,v = .int i)\/zh8 K H v/\∀ i,v≠ .int i
def zxr (K:W.Frag):Sp:=fun vs H Q _=>∃ (v:V) (m:Int),vs=[v,.int m]/\zfe K H v/\Q (.bl (zxe v m)) H
theorem zs4:zaj ["thing","most"] ["thing","most"] (zah (top 38)):=fS
theorem zsr (Z:ZZ P w K mg base):zgb Z 2 Z.b4 (zxr K):=by
 have a:=zkj Z
 refine Z.b4.fn.ok zs4 (by kd_p) (fun cdv A outer s H vs Q E hr h=>?_)
 obtain ⟨v,m,rfl,hk,k⟩:=h
 refine ⟨_,(zaf (zar (zjp (pfD Z.bq a hr rfl (zaa (pv 0) zab)) (zjr (zxv zwf zwf zak (pv 0) (pv 1)))))),?_⟩
 rcases hk with ⟨i,rfl⟩ | ⟨hw,b⟩
 ·refine ⟨_,rfl,_,rfl,.inl ⟨⟨i,rfl⟩,?_⟩⟩
  kt_k
  have k:Q (.bl (decide (1<=i) && decide (i<=m))) H:=k
  by_cases h1:1<=i
  ·rw [decide_eq_true h1,Bool.true_and] at k
   refine zlw h1 ?_
   kt_k
  ·rw [decide_eq_false h1,Bool.false_and] at k
   refine ze7 h1 ?_
   exact k
 ·have e:zxe v m=false:=by
   cases v <;> first | rfl | exact absurd rfl (b _)
  rw [e] at k
  refine ⟨_,rfl,_,rfl,.inr ⟨hw,?_⟩⟩
  kt_k
theorem zju:zaj ["self","wide","room"] ["self","wide","room"] (zah (zai (top 39) 0)):=fS
def zzu (CB CT CW:Addr):Sp:=fun vs H Q _=>∀ CC:Prop,(∀ (w dx:Addr) (z r:Int),vs=[.ref w,.int z,.int r]->H w=some (.ins CW dx [])->1<=z->z<=60->1<=r->r<=8->(∀ (td sd:Addr) (H':Hp) (T:Int->zbv),zam CB CT CW H' w td sd z r [] [] T->H td=none->H sd=none->td≠sd->ztg w H H'->Q .non H')->CC)->CC
theorem zpk (Z:ZZ P w K mg base){CB CT:Addr}:zco Z 3 Z.b6 (zzu CB CT Z.bc.C):=by
 have aa:=Z.bc.cl
 obtain ⟨ab,x,v,ac,-⟩:=Z.bc.na
 have q:=zsr Z
 refine Z.b6.fn.ok zju (by kd_p) (fun cdv A outer s H vs Q E hr t=>?_)
 refine t _ fun w dx z r u hw n l m p k=>?_
 subst u
 have e1:zxe (.int z) 60=true:=by
  show (decide (1<=z) && decide (z<=60))=true
  rw [decide_eq_true n,decide_eq_true l]
  rfl
 have e2:zxe (.int r) 8=true:=by
  show (decide (1<=r) && decide (r<=8))=true
  rw [decide_eq_true m,decide_eq_true p]
  rfl
 have y:zfe K H (.int z):= .inl ⟨z,rfl⟩
 have ad:zfe K H (.int r):= .inl ⟨r,rfl⟩
 refine ⟨_,(zae (zbn (zd3 (zb_ (pfD Z.b4 q hr rfl (zaa (pv 1) (zaa zak zab)))))
   (zaf (zds (W:=fun _=>False) Z.b5 rfl rfl (zaa zd0 zab) (fun _ _ _ _ _ _ _ _ _ hw=>hw.elim)))
   za6)
  (zae (zbn (zd3 (zb_ (pfD Z.b4 q hr rfl (zaa (pv 2) (zaa zak zab)))))
   (zaf (zds (W:=fun _=>False) Z.b5 rfl rfl (zaa zd0 zab) (fun _ _ _ _ _ _ _ _ _ hw=>hw.elim)))
   za6)
  (zae (zf7 (pv 0) (pv 1) rfl)
  (zae (zf7 (pv 0) (pv 2) rfl)
  (zae (zf7 (pv 0) zj3 rfl)
  (zaf (zf7 (pv 0) zj3 rfl))))))),?_⟩
 kt_k
 rw [e1]
 kt_k
 rw [e2]
 kt_k
 intro td j
 have b:td≠w:=(zag zad j).symm
 have g:H td=none:=by rw [zac b,zac b] at j; exact j
 kt_k
 intro sd a
 have d:sd≠w:=fun e=>by rw [e,zad] at a; cases a
 have f:td≠sd:=fun e=>by rw [<- e,zac b,zad] at a; cases a
 have i:H sd=none:=by rw [zac d,zac f.symm,zac d,zac d] at a; exact a
 kt_k
 refine k td sd _ (fun _=>⟨0,0,fun _=>0,fun _=>0,fun _=>[]⟩) ⟨⟨dx,?_⟩,?_,?_,fun h hh=>(nomatch hh),je,fun h hh=>(nomatch hh),n,l,m,p,by decide,f⟩ g i f fun c o e hc=>?_
 ·rw [zad,z2s]
 ·rw [zac b,zac f,zac b,zad]
  rfl
 ·rw [zac d,zad]
  rfl
 ·rw [zac hc,zac (zag e i),zac hc,zac (zag e g),zac hc,zac hc]
  exact e
theorem zdm.keepD {CB CT t bl:Addr}{own z r:Int}{n:Nat}{bA lA:Nat->Addr}{ns:Nat->List Int}{H H':Hp}(T:zdm CB CT H t bl own z r n bA lA ns)(s:∀ q o,(∀ ps,o≠ .tbl ps)->(∀ d,o≠ .dK d)->H q=some o->H' q=some o):zdm CB CT H' t bl own z r n bA lA ns:=by
 obtain ⟨⟨dx,h1⟩,h2,h3,h4,h5,h6⟩:=T
 refine ⟨⟨dx,s _ _ (fun _ z=>nomatch z) (fun _ z=>nomatch z) h1⟩,s _ _ (fun _ z=>nomatch z) (fun _ z=>nomatch z) h2,fun k hk=>?_,h4,h5,h6⟩
 obtain ⟨⟨dx,b1⟩,b2⟩:=h3 k hk
 exact ⟨⟨dx,s _ _ (fun _ z=>nomatch z) (fun _ z=>nomatch z) b1⟩,s _ _ (fun _ z=>nomatch z) (fun _ z=>nomatch z) b2⟩
def zv0:Sp:=fun vs H Q _=>∃ a b c:V,vs=[a,b,c]/\Q .non H
theorem zku:zaj ["self","house","visited"] ["self","house","visited"] (zah (zai (top 39) 19)):=fS
theorem zgm {CW:Addr}(D:DfM K CW "settles" "Town.settles" (zai (top 39) 19) ["self","house","visited"]):zc_ P w K mg base CX0 1 D.f D.fd ["self","house","visited"] zv0:=by
 refine D.fn.ok zku (by kd_p) (fun cdv A outer s H vs Q E hr h=>?_)
 obtain ⟨a,b,c,rfl,k⟩:=h
 exact ⟨_,(zaf zus),k⟩
theorem zim:zaj ["self"] ["self"] (zah (zai (top 39) 2)):=fS
def zpv (CB CT CW:Addr):Sp:=fun vs H Q _=>∀ CC:Prop,(∀ (w td sd:Addr) (z r:Int) (hs sil:List Int) (T:Int->zbv),vs=[.ref w]->zam CB CT CW H w td sd z r hs sil T->(∀ (l:Addr) (H':Hp),zax H H'->H l=none->H' l=some (.lst (((za1 hs).filter fun h=> !decide (h∈sil)).map V.int))->Q (.ref l) H')->CC)->CC
theorem zba (Z:ZZ P w K mg base){CB CT:Addr}:zco Z 5 Z.b7 (zpv CB CT Z.bc.C):=by
 have u:=Z.bc.cl
 have j:=zcp (CB:=CB) (CT:=CT) Z
 have m:=zbg (CB:=CB) (CT:=CT) Z
 refine Z.b7.fn.ok zim (by kd_p) (fun cdv A outer s H vs Q E hr f=>?_)
 refine f _ fun w td sd z r hs sil TT g hW k=>?_
 subst g
 obtain ⟨⟨dx,y⟩,aa,ab,-⟩:=id hW
 have v:=hW.ln
 refine ⟨_,(zaf (zar (zct rfl (zaz (own:=["house"]) (caps:=[0]) (N':=["house","self"]) (by kernel_rfl)) (zbb (zbi (pv 0) Z.bc.cl Z.b1.me j hr.mm Z.b1.b .nil zbw)) (fun _ _ _ _ _=>(zas (i:=0) (show (["house","self"]:List Str).Nodup by decide +kernel) rfl oL)) (fun _ _ _ _ _=>(zcu (zb_ (pmD (pv 1) Z.bc.cl Z.bt m hr (zaa (pv 0) zab))))) (fun _ _ _ _ _=>(pv 0))))),?_⟩
 kt_k
 intro l hl
 kt_k
 intro D hD
 have s1:zax H (upd H l (.lst ((za1 hs).map V.int))):=zax.new H hl
 have c:upd H l (.lst ((za1 hs).map V.int)) l=some (.lst ((za1 hs).map V.int)):=zad
 generalize upd H l (.lst ((za1 hs).map V.int))=H1 at s1 c hD |-
 refine zbo (fun h=> !decide (h∈sil)) hD (SqL.of c) (by rw [zbr]; omega) (fun x hx H2 Qt s2 q=>?_) fun H2 s2 n=>?_
 ·have a:x∈hs:=(zaw hs).subset hx
  have d:zam CB CT Z.bc.C H2 w td sd z r hs sil TT:=hW.keep fun q o _ e=>s2 _ _ (s1 _ _ e)
  obtain ⟨t,p⟩:=d.ob
  have hn:zdr z x=true:=zej (hW.hb x a).1 (hW.hb x a).2 hW.z1
  kt_k
  refine .inl ⟨x,rfl,?_⟩
  rw [hn,decide_eq_true a,Bool.true_and,Bool.true_and]
  kt_k
  exact q H2 (zax.refl H2)
 ·exact k D H2 (s1.trans s2) (s1.free hD) n
theorem Tab.hold {T1:Addr}{po:Pos}{qu:Str}{H H':Hp}(t:Tab H T1 po qu)(s:∀ q o,((∃ x k,o = .frz x k)\/q=T1)->H q=some o->H' q=some o):Tab H' T1 po qu:=by
 obtain ⟨ps,h1,h2,z⟩:=t
 refine ⟨ps,s _ _ (.inr rfl) h1,h2,?_⟩
 rcases z with z | ⟨c',oc,k,z1,z2,z3⟩
 ·exact .inl z
 ·exact .inr ⟨c',oc,k,z1,s _ _ (.inl ⟨_,_,rfl⟩) z2,z3⟩
def zir (r:Int)(aw:Int->Bool)(ns:List Int)(n:Int):List Int :=
 if n∈ns then ns.erase n++[n] else if (ns.length:Int)<r then ns++[n] else match ns with | []=>[] | x :: t=>t++[if aw x then x else n]
def zgc {α:Type}(N:Int->α)(h:Int)(x:α):Int->α:=fun g=>if g=h then x else N g
theorem zal {α:Type}{N:Int->α}{h:Int}{x:α}:zgc N h x h=x:=if_pos rfl
theorem zay {α:Type}{N:Int->α}{h g:Int}{x:α}(e:g≠h):zgc N h x g=N g:=if_neg e
def zkq (r:Int)(aw:Int->Bool)(N:Int->Nat->List Int)(h n:Int):Int->Nat->List Int:=zgc N h (zpr (N h) (zbh h n) (zir r aw (N h (zbh h n)) n))
def zs2 (r:Int)(aw:Int->Bool)(N:Int->Nat->List Int)(a b:Int):Int->Nat->List Int:=zkq r aw (zkq r aw N a b) b a
def zcm (r:Int)(aw:Int->Bool)(N:Int->Nat->List Int)(a:Int):List Int->Int->Nat->List Int
 | []=>N
 | b :: t=>zcm r aw (zs2 r aw N a b) a t
theorem zgz {r:Int}{aw:Int->Bool}{a b:Int}:∀ {l:List Int} {N:Int->Nat->List Int},zcm r aw N a (l++[b])=zs2 r aw (zcm r aw N a l) a b
 | [],_=>rfl
 | _ :: t,_=>zgz (l:=t)
theorem zvr {r:Int}{aw:Int->Bool}{ns:List Int}{n m:Int}(h:m∈zir r aw ns n):m∈ns\/m=n:=by
 unfold zir at h
 split at h
 ·rcases fj.mp h with h | h
  ·exact .inl (List.mem_of_mem_erase h)
  ·exact .inr (fc.mp h)
 ·split at h
  ·rcases fj.mp h with h | h
   ·exact .inl h
   ·exact .inr (fc.mp h)
  ·split at h
   ·cases h
   ·rename_i x t _ _
    rcases fj.mp h with h | h
    ·exact .inl (fg _ h)
    ·have e:=fc.mp h
     split at e
     ·exact .inl (e ▸ fk ..)
     ·exact .inr e
theorem zbx {l:List Int}{x:Int}(h:l.Nodup)(hx:x∉l):(l++[x]).Nodup:=jg.mpr ⟨h,by simp,fun a ha b hb e=>hx (by rw [<- fc.mp hb,<- e]; exact ha)⟩
theorem zqi {r:Int}{aw:Int->Bool}{ns:List Int}{n:Int}(h:ns.Nodup):(zir r aw ns n).Nodup:=by
 unfold zir
 split
 ·exact zbx (h.erase n) (List.Nodup.not_mem_erase h)
 ·rename_i hn
  split
  ·exact zbx h hn
  ·split
   ·exact je
   ·obtain ⟨h1,h2⟩:=j7.mp h
    split
    ·exact zbx h2 h1
    ·exact zbx h2 fun z=>hn (fg _ z)
theorem zt4 {r:Int}{aw:Int->Bool}{ns:List Int}{n:Int}(hr:1<=r)(h:(ns.length:Int)<=r):((zir r aw ns n).length:Int)<=r:=by
 unfold zir
 split
 ·rename_i hn
  have:=ie hn
  have:=List.length_pos_of_mem hn
  rw [fe,fu]
  omega
 ·split
  ·rw [fe,fu]
   omega
  ·split
   ·simp only [jk]
    omega
   ·rw [fe,fu]
    rw [gs] at h
    exact h
structure NOk (pool:List Int)(z:Nat)(r:Int)(hs:List Int)(N:Int->Nat->List Int):Prop where
 nd:∀ h∈hs,∀ k,(N h k).Nodup
 le:∀ h∈hs,∀ k,((N h k).length:Int)<=r
 st:∀ h∈hs,∀ k,∀ m∈N h k,m∈pool/\m≠h/\zbh h m=k
theorem NOk.hear {pool:List Int}{z:Nat}{r:Int}{hs:List Int}{N:Int->Nat->List Int}(O:NOk pool z r hs N)(hr:1<=r){aw:Int->Bool}{a b:Int}(hb:b∈pool)(hne:b≠a):NOk pool z r hs (zkq r aw N a b):=by
 unfold zkq
 refine ⟨fun h hh k=>?_,fun h hh k=>?_,fun h hh k m hm=>?_⟩
 ·by_cases e:h=a
  ·subst e
   rw [zal]
   by_cases e2:k=zbh h b
   ·subst e2
    rw [za_]
    exact zqi (O.nd h hh _)
   ·rw [zbe e2]
    exact O.nd h hh _
  ·rw [zay e]
   exact O.nd h hh _
 ·by_cases e:h=a
  ·subst e
   rw [zal]
   by_cases e2:k=zbh h b
   ·subst e2
    rw [za_]
    exact zt4 hr (O.le h hh _)
   ·rw [zbe e2]
    exact O.le h hh _
  ·rw [zay e]
   exact O.le h hh _
 ·by_cases e:h=a
  ·subst e
   rw [zal] at hm
   by_cases e2:k=zbh h b
   ·subst e2
    rw [za_] at hm
    rcases zvr hm with y | rfl
    ·exact O.st h hh _ m y
    ·exact ⟨hb,hne,rfl⟩
   ·rw [zbe e2] at hm
    exact O.st h hh _ m hm
  ·rw [zay e] at hm
   exact O.st h hh _ m hm
theorem NOk.meet {pool:List Int}{z:Nat}{r:Int}{hs:List Int}{N:Int->Nat->List Int}(O:NOk pool z r hs N)(hr:1<=r){aw:Int->Bool}{a b:Int}(ha:a∈pool)(hb:b∈pool)(hne:b≠a):NOk pool z r hs (zs2 r aw N a b):=(O.hear hr hb hne).hear hr ha hne.symm
theorem zdh {ns:Nat->List Int}{m:Int}:∀ {n:Nat},m∈zdo ns n↔∃ k,k<n/\m∈ns k
 | 0=>⟨fun h=>(nomatch h),fun ⟨k,h,_⟩=>absurd h (Nat.not_lt_zero k)⟩
 | n+1=>by
  rw [zgj,fj,zdh (n:=n)]
  constructor
  ·rintro (⟨k,h1,h2⟩ | h)
   ·exact ⟨k,iw h1,h2⟩
   ·exact ⟨n,ip n,h⟩
  ·rintro ⟨k,h1,h2⟩
   by_cases e:k=n
   ·subst e
    exact .inr h2
   ·exact .inl ⟨k,by omega,h2⟩
theorem zms {ns:Nat->List Int}{st:Int->Nat}(h1:∀ k,(ns k).Nodup)(h2:∀ k,∀ m∈ns k,st m=k):∀ {n:Nat},(zdo ns n).Nodup
 | 0=>je
 | n+1=>by
  rw [zgj]
  refine jg.mpr ⟨zms h1 h2,h1 n,fun a ha b hb e=>?_⟩
  subst e
  obtain ⟨k,hk,hm⟩:=zdh.mp ha
  have:=h2 k a hm
  have:=h2 n a hb
  omega
theorem NOk.cat {pool:List Int}{z:Nat}{r:Int}{hs:List Int}{N:Int->Nat->List Int}(O:NOk pool z r hs N){h:Int}(hh:h∈hs)(n:Nat):(zdo (N h) n).Nodup:=zms (st:=zbh h) (O.nd h hh) fun k m hm=>(O.st h hh k m hm).2.2
theorem zby:∀ {a b:List Int},a.Nodup->(∀ x∈a,x∈b)->a.length<=b.length
 | [],_,_,_=>im _
 | x :: a,b,h,s=>by
  obtain ⟨h1,h2⟩:=j7.mp h
  have hx:=s x (fk ..)
  have:=zby (b:=b.erase x) h2 fun y hy=>(List.mem_erase_of_ne (fun (e:y=x)=>h1 (by rw [<- e]; exact hy))).mpr (s y (fg _ hy))
  have e:=ie hx
  have:=List.length_pos_of_mem hx
  rw [gs]
  omega
theorem NOk.len {pool:List Int}{z:Nat}{r:Int}{hs:List Int}{N:Int->Nat->List Int}(O:NOk pool z r hs N){h:Int}(hh:h∈hs)(n:Nat):(zdo (N h) n).length<=pool.length :=
 zby (O.cat hh n) fun x hx=>by
  obtain ⟨k,_,hm⟩:=zdh.mp hx
  exact (O.st h hh k x hm).1
theorem zq9 {a b:List Int}(p:a.Perm b):za1 a=za1 b:=zj5 ((zaw a).trans p) (zi2 a)
theorem ztk {a b:List Int}(ha:a.Nodup)(hb:b.Nodup)(h:∀ x,x∈a↔x∈b):a.Perm b:=(List.perm_ext_iff_of_nodup ha hb).mpr h
inductive Rch (E:Int->Int->Prop) (d:Int):Int->Prop where
 | own:Rch E d d
 | go {a b:Int}:Rch E d a->E a b->Rch E d b
theorem Rch.of_closed {E:Int->Int->Prop}{d:Int}{ks:List Int}(hd:d∈ks)(hc:∀ a∈ks,∀ b,E a b->b∈ks){x:Int}(h:Rch E d x):x∈ks:=by
 induction h with
 | own=>exact hd
 | go _ e ih=>exact hc _ ih _ e
def zm1 (z:Nat)(aw:Int->Bool)(N:Int->Nat->List Int)(a b:Int):Prop:=b∈zdo (N a) z/\aw b=true
def zfp (aw:Int->Bool)(f:List Int)(xs:List Int):List Int:=xs.foldl (fun f o=>if aw o && !decide (o∈f) then f++[o] else f) f
theorem zsg {aw:Int->Bool}{f xs:List Int}{o:Int}:zfp aw f (xs++[o])=if aw o && !decide (o∈zfp aw f xs) then zfp aw f xs++[o] else zfp aw f xs:=by
 unfold zfp
 rw [List.foldl_append]
 rfl
structure zgq (R:Int->Prop)(f g:List Int):Prop where
 sub:∀ x∈f,x∈g
 nd:g.Nodup
 re:∀ x∈g,R x
 le:f=g\/f.length<g.length
theorem zgq.refl {R:Int->Prop}{f:List Int}(h1:f.Nodup)(h2:∀ x∈f,R x):zgq R f f:=⟨fun _ h=>h,h1,h2,.inl rfl⟩
theorem zgq.trans {R:Int->Prop}{f g h:List Int}(a:zgq R f g)(b:zgq R g h):zgq R f h :=
 ⟨fun x hx=>b.sub x (a.sub x hx),b.nd,b.re,by
  rcases a.le with rfl | a1
  ·exact b.le
  ·rcases b.le with rfl | b1
   ·exact .inr a1
   ·exact .inr (lc a1 b1)⟩
theorem zgq.snoc {R:Int->Prop}{f:List Int}{o:Int}(h1:f.Nodup)(h2:∀ x∈f,R x)(ho:o∉f)(hR:R o):zgq R f (f++[o]) :=
 ⟨fun x hx=>gb _ hx,zbx h1 ho,fun x hx=>(fj.mp hx).elim (h2 x) fun z=>fc.mp z ▸ hR,.inr (by rw [fe,fu]; omega)⟩
theorem zhj {R:Int->Prop}{aw:Int->Bool}:∀ {xs f:List Int},f.Nodup->(∀ x∈f,R x)->(∀ x∈xs,aw x=true->R x)->zgq R f (zfp aw f xs)/\∀ x∈xs,aw x=true->x∈zfp aw f xs
 | [],f,h1,h2,_=>⟨zgq.refl h1 h2,fun x hx=>(nomatch hx)⟩
 | o :: xs,f,h1,h2,h3=>by
  show zgq R f (zfp aw (if aw o && !decide (o∈f) then f++[o] else f) xs)/\∀ x∈o :: xs,aw x=true->x∈zfp aw (if aw o && !decide (o∈f) then f++[o] else f) xs
  have g1:zgq R f (if aw o && !decide (o∈f) then f++[o] else f):=by
   split
   ·rename_i e
    simp only [ic,jm,decide_eq_false_iff_not] at e
    exact zgq.snoc h1 h2 e.2 (h3 o (fk ..) e.1)
   ·exact zgq.refl h1 h2
  have ho:aw o=true->o∈(if aw o && !decide (o∈f) then f++[o] else f):=fun e=>by
   by_cases m:o∈f
   ·exact g1.sub o m
   ·rw [if_pos (by simp [e,m])]
    exact fh _ (fc.mpr rfl)
  obtain ⟨g2,i2⟩:=zhj g1.nd g1.re fun x hx=>h3 x (fg _ hx)
  refine ⟨g1.trans g2,fun x hx a=>?_⟩
  rcases gl.mp hx with rfl | hx
  ·exact g2.sub _ (ho a)
  ·exact i2 x hx a
def zgd (aw:Int->Bool)(kp:Int->List Int)(f:List Int)(xs:List Int):List Int:=xs.foldl (fun f h=>zfp aw f (kp h)) f
theorem zsf {aw:Int->Bool}{kp:Int->List Int}{f xs:List Int}{o:Int}:zgd aw kp f (xs++[o])=zfp aw (zgd aw kp f xs) (kp o):=by
 unfold zgd
 rw [List.foldl_append]
 rfl
theorem zd5 {R:Int->Prop}{aw:Int->Bool}{kp:Int->List Int}(hR:∀ a,R a->∀ x∈kp a,aw x=true->R x):∀ {xs f:List Int},f.Nodup->(∀ x∈f,R x)->(∀ x∈xs,R x)->zgq R f (zgd aw kp f xs)/\∀ a∈xs,∀ x∈kp a,aw x=true->x∈zgd aw kp f xs
 | [],f,h1,h2,_=>⟨zgq.refl h1 h2,fun x hx=>(nomatch hx)⟩
 | o :: xs,f,h1,h2,h3=>by
  show zgq R f (zgd aw kp (zfp aw f (kp o)) xs)/\∀ a∈o :: xs,∀ x∈kp a,aw x=true->x∈zgd aw kp (zfp aw f (kp o)) xs
  obtain ⟨g1,i1⟩:=zhj h1 h2 (hR o (h3 o (fk ..)))
  obtain ⟨g2,i2⟩:=zd5 hR g1.nd g1.re fun x hx=>h3 x (fg _ hx)
  refine ⟨g1.trans g2,fun a ha x hx hax=>?_⟩
  rcases gl.mp ha with rfl | ha
  ·exact g2.sub _ (i1 x hx hax)
  ·exact i2 a ha x hx hax
def zbc (aw:Int->Bool)(kp:Int->List Int)(d:Int):Nat->List Int
 | 0=>[d]
 | n+1=>zgd aw kp (zbc aw kp d n) (zbc aw kp d n)
theorem zh_ {R:Int->Prop}{aw:Int->Bool}{kp:Int->List Int}{d:Int}(hd:R d)(hR:∀ a,R a->∀ x∈kp a,aw x=true->R x):∀ n,(zbc aw kp d n).Nodup/\(∀ x∈zbc aw kp d n,R x)/\d∈zbc aw kp d n
 | 0=>⟨by simp [zbc],fun x hx=>fc.mp hx ▸ hd,fc.mpr rfl⟩
 | n+1=>by
  obtain ⟨h1,h2,h3⟩:=zh_ hd hR n
  obtain ⟨g,_⟩:=zd5 hR h1 h2 h2
  exact ⟨g.nd,g.re,g.sub _ h3⟩
theorem zpb {R:Int->Prop}{aw:Int->Bool}{kp:Int->List Int}{d:Int}(hd:R d)(hR:∀ a,R a->∀ x∈kp a,aw x=true->R x):∀ n,(∀ a∈zbc aw kp d n,∀ x∈kp a,aw x=true->x∈zbc aw kp d n)\/n+1<=(zbc aw kp d n).length
 | 0=> .inr (gd _)
 | n+1=>by
  obtain ⟨h1,h2,_⟩:=zh_ hd hR n
  obtain ⟨g,i⟩:=zd5 hR h1 h2 h2
  rcases g.le with e | e
  ·exact .inl fun a ha x hx hax=>by
    rw [show zbc aw kp d (n+1)=zbc aw kp d n from e.symm] at ha
    exact i a ha x hx hax
  ·rcases zpb hd hR n with c | c
   ·have h:∀ x∈zgd aw kp (zbc aw kp d n) (zbc aw kp d n),x∈zbc aw kp d n:=by
     have b:∀ a,a∈zbc aw kp d n->∀ x∈kp a,aw x=true->x∈zbc aw kp d n:=c
     exact (zd5 (R:=fun x=>x∈zbc aw kp d n) b h1 (fun _ h=>h) (fun _ h=>h)).1.re
    have:=zby g.nd h
    omega
   ·exact .inr (gz c e)
theorem zu2 {z:Nat}{aw:Int->Bool}{N:Int->Nat->List Int}{kp:Int->List Int}{hs:List Int}{d:Int}(hk:∀ a∈hs,(kp a).Perm (zdo (N a) z))(haw:∀ x,aw x=true->x∈hs)(hd:d∈hs) :
  (zbc aw kp d hs.length).Nodup/\∀ x,x∈zbc aw kp d hs.length↔Rch (zm1 z aw N) d x:=by
 have f:∀ x,Rch (zm1 z aw N) d x->x∈hs:=fun x h=>by
  cases h with
  | own=>exact hd
  | go _ e=>exact haw _ e.2
 have hR:∀ a,Rch (zm1 z aw N) d a->∀ x∈kp a,aw x=true->Rch (zm1 z aw N) d x:=fun a ha x hx g=> .go ha ⟨(hk a (f a ha)).subset hx,g⟩
 obtain ⟨h1,h2,h3⟩:=zh_ (R:=Rch (zm1 z aw N) d) (aw:=aw) (kp:=kp) .own hR hs.length
 refine ⟨h1,fun x=>⟨h2 x,fun h=>?_⟩⟩
 have hc:∀ a∈zbc aw kp d hs.length,∀ x∈kp a,aw x=true->x∈zbc aw kp d hs.length:=by
  rcases zpb (R:=Rch (zm1 z aw N) d) (aw:=aw) (kp:=kp) .own hR hs.length with c | c
  ·exact c
  ·have:=zby h1 fun x hx=>f x (h2 x hx)
   omega
 exact Rch.of_closed h3 (fun a ha b e=>hc a ha b ((hk a (f a (h2 a ha))).symm.subset e.1) e.2) h
theorem zgn {l:List Int}{j:Nat}{x:Int}(h:l[j]? = some x):l.take (j+1)=l.take j++[x]:=by
 obtain ⟨h1,h2⟩:=List.getElem?_eq_some_iff.mp h
 rw [List.take_succ_eq_append_getElem h1,h2]
theorem zoc {l:List Int}{n:Int}(h:l.Nodup):l.filter (fun y=> !decide (y=n))=l.erase n:=by
 rw [h.erase_eq_filter]
 exact j8 fun x _=>by
  by_cases e:x=n <;> simp [e]
structure zck (z:Nat)(hs:List Int)(T:Int->zbv):Prop where
 b:∀ h∈hs,∀ g∈hs,h≠g->∀ i j,i<z->j<z->(T h).bA i≠(T g).bA j
 l:∀ h∈hs,∀ g∈hs,h≠g->∀ i j,i<z->j<z->(T h).lA i≠(T g).lA j
 n:∀ h∈hs,∀ g∈hs,h≠g->∀ j,j<z->(T h).bl≠(T g).lA j
def zo8 (T:Int->zbv)(h:Int)(k:Nat)(l':Addr)(xs:List Int):Int->zbv:=zgc T h ⟨(T h).t,(T h).bl,(T h).bA,zpr (T h).lA k l',zpr (T h).ns k xs⟩
def Own (td sd:Addr)(z:Nat)(hs:List Int)(T:Int->zbv)(q:Addr):Prop:=q=td\/q=sd\/∃ h∈hs,q=(T h).bl\/∃ k,k<z/\(q=(T h).bA k\/q=(T h).lA k)
structure zeh (T1:Addr)(H H':Hp)(O O':Addr->Prop):Prop where
 k:∀ q o,(∀ ps,o≠ .tbl ps)->H q=some o->¬ O q->H' q=some o
 o:∀ q,O' q->O q\/H q=none
 e:∀ q,H' q=none->H q=none
 t:∀ q ps,H q=some (.tbl ps)->q≠T1->H' q=some (.tbl ps)
theorem zeh.refl {T1:Addr}(H:Hp)(O:Addr->Prop):zeh T1 H H O O:=⟨fun _ _ _ e _=>e,fun _ h=> .inl h,fun _ h=>h,fun _ _ e _=>e⟩
theorem zeh.same {T1:Addr}{H H':Hp}{O:Addr->Prop}(s:zax H H'):zeh T1 H H' O O:=⟨fun _ _ _ e _=>s _ _ e,fun _ h=> .inl h,fun q h=>s.free h,fun _ _ e _=>s _ _ e⟩
theorem zeh.trans {T1:Addr}{H H1 H2:Hp}{O O1 O2:Addr->Prop}(a:zeh T1 H H1 O O1)(b:zeh T1 H1 H2 O1 O2):zeh T1 H H2 O O2:=by
 refine ⟨fun q o ho e hn=>b.k q o ho (a.k q o ho e hn) fun z=>?_,fun q z=>?_,fun q h=>a.e q (b.e q h),fun q ps e hq=>b.t q ps (a.t q ps e hq) hq⟩
 ·rcases a.o q z with y | y
  ·exact hn y
  ·rw [e] at y
   cases y
 ·rcases b.o q z with y | y
  ·exact a.o q y
  ·exact .inr (a.e q y)
theorem zdm.only {CB CT t bl:Addr}{own z r:Int}{n:Nat}{bA lA:Nat->Addr}{ns:Nat->List Int}{H H':Hp}(T:zdm CB CT H t bl own z r n bA lA ns)(s1:∀ o,H t=some o->H' t=some o)(s2:∀ o,H bl=some o->H' bl=some o)
  (s3:∀ k,k<n->∀ o,H (bA k)=some o->H' (bA k)=some o)(s4:∀ k,k<n->∀ o,H (lA k)=some o->H' (lA k)=some o):zdm CB CT H' t bl own z r n bA lA ns:=by
 obtain ⟨⟨dx,h1⟩,h2,h3,h4,h5,h6⟩:=T
 refine ⟨⟨dx,s1 _ h1⟩,s2 _ h2,fun k hk=>?_,h4,h5,h6⟩
 obtain ⟨⟨dx,b1⟩,b2⟩:=h3 k hk
 exact ⟨⟨dx,s3 k hk _ b1⟩,s4 k hk _ b2⟩
theorem zy4 {C C' dx dx':Addr}{f g:List (Str × V)}{H:Hp}{p q:Addr}(h1:H p=some (.ins C dx f))(h2:H q=some (.ins C' dx' g))(hl:f.length≠g.length):p≠q:=fun e=>by
 rw [e,h2] at h1
 have:=Option.some.inj h1
 injection this with _ _ h3
 exact hl (congrArg km h3.symm)
theorem ztr {T:Int->zbv}{h:Int}{k:Nat}{l':Addr}{xs:List Int}:(fun g=>(zo8 T h k l' xs g).ns)=zgc (fun g=>(T g).ns) h (zpr (T h).ns k xs):=by
 funext g
 unfold zo8
 by_cases e:g=h
 ·subst e
  rw [zal,zal]
 ·rw [zay e,zay e]
theorem z20 {T:Int->zbv}{h g:Int}{k:Nat}{l':Addr}{xs:List Int}:(zo8 T h k l' xs g).t=(T g).t:=by
 unfold zo8
 by_cases e:g=h
 ·subst e
  rw [zal]
 ·rw [zay e]
theorem zt5 {T:Int->zbv}{h g:Int}{k:Nat}{l':Addr}{xs:List Int}:(zo8 T h k l' xs g).bl=(T g).bl:=by
 unfold zo8
 by_cases e:g=h
 ·subst e
  rw [zal]
 ·rw [zay e]
theorem zqy {T:Int->zbv}{h g:Int}{k:Nat}{l':Addr}{xs:List Int}:(zo8 T h k l' xs g).bA=(T g).bA:=by
 unfold zo8
 by_cases e:g=h
 ·subst e
  rw [zal]
 ·rw [zay e]
theorem znv {T:Int->zbv}{h g:Int}{k j:Nat}{l':Addr}{xs:List Int}:(g=h/\j=k/\(zo8 T h k l' xs g).lA j=l')\/(¬ (g=h/\j=k)/\(zo8 T h k l' xs g).lA j=(T g).lA j):=by
 unfold zo8
 by_cases e:g=h
 ·subst e
  rw [zal]
  by_cases e2:j=k
  ·subst e2
   exact .inl ⟨rfl,rfl,za_⟩
  ·exact .inr ⟨fun z=>e2 z.2,zbe e2⟩
 ·rw [zay e]
  exact .inr ⟨fun z=>e z.1,rfl⟩
theorem zs0 {hs:List Int}{T:Int->zbv}{h:Int}{k:Nat}{l':Addr}{xs:List Int}:zcv hs (zo8 T h k l' xs)=zcv hs T:=by
 unfold zcv
 exact ik fun g _=>by rw [z20]
section
variable {CB CT CW w td sd:Addr} {H H':Hp} {z r:Int} {hs sil:List Int} {T:Int->zbv}
theorem zam.turn {T1:Addr}(W:zam CB CT CW H w td sd z r hs sil T)(A:zck z.toNat hs T){h:Int}(hh:h∈hs){k:Nat}(hk:k<z.toNat){l':Addr}{xs:List Int}(hB:zdc CB H' ((T h).bA k) l' r xs)(hl:l'=(T h).lA k\/H l'=none)
  (fr:∀ q o,(∀ ps,o≠ .tbl ps)->H q=some o->q≠(T h).bA k->q≠(T h).lA k->H' q=some o)(he:∀ q,H' q=none->H q=none)(ft:∀ q ps,H q=some (.tbl ps)->q≠T1->H' q=some (.tbl ps)) :
  zam CB CT CW H' w td sd z r hs sil (zo8 T h k l' xs)/\zck z.toNat hs (zo8 T h k l' xs)/\zeh T1 H H' (Own td sd z.toNat hs T) (Own td sd z.toNat hs (zo8 T h k l' xs)):=by
 obtain ⟨⟨dx,x⟩,aa,ab,u,aj,ao,ak,ah,ai,al,ag,am⟩:=id W
 have ae:=u h hh
 obtain ⟨⟨dk,d⟩,p⟩:=ae.bk k hk
 have an:∀ g∈hs,∀ j,j<z.toNat->∃ ys,H ((T g).lA j)=some (.lst ys):=fun g hg j hj=>⟨_,((u g hg).bk j hj).li⟩
 refine ⟨⟨⟨dx,?_⟩,?_,?_,fun g hg=>?_,aj,ao,ak,ah,ai,al,ag,am⟩,⟨?_,?_,?_⟩,⟨fun q o ho e hn=>?_,fun q hq=>?_,fun q hq=>?_,ft⟩⟩
 ·exact fr _ _ (fun _ z=>nomatch z) x (zy4 x d (by simp [wF,bF])) (zdv x p (by intro z; cases z))
 ·rw [zs0]
  exact fr _ _ (fun _ z=>nomatch z) aa (zdv aa d (by intro z; cases z)) (zdv aa p (by intro z; cases z))
 ·exact fr _ _ (fun _ z=>nomatch z) ab (zdv ab d (by intro z; cases z)) (zdv ab p (by intro z; cases z))
 ·by_cases e:g=h
  ·subst e
   have:=ae.turn hk (fun _=>False) hB hl (fun q o ho e a b _=>fr q o ho e a b) (fun _ z=>z.elim)
   unfold zo8
   rw [zal]
   exact this
  ·unfold zo8
   rw [zay e]
   have t:=u g hg
   obtain ⟨dg,af⟩:=t.ob
   refine t.only (fun o eo=>?_) (fun o eo=>?_) (fun j hj o eo=>?_) (fun j hj o eo=>?_)
   ·have e1:=af.symm.trans eo
    cases e1
    exact fr _ _ (fun _ z=>nomatch z) eo (zy4 eo d (by simp [tF,bF])) (zdv eo p (by intro z; cases z))
   ·have e1:=t.li.symm.trans eo
    cases e1
    exact fr _ _ (fun _ z=>nomatch z) eo (zdv eo d (by intro z; cases z)) (A.n g hg h hh e k hk)
   ·obtain ⟨⟨dj,ac⟩,ad⟩:=t.bk j hj
    have e1:=ac.symm.trans eo
    cases e1
    exact fr _ _ (fun _ z=>nomatch z) eo (A.b g hg h hh e j k hj hk) (zdv eo p (by intro z; cases z))
   ·obtain ⟨⟨dj,ac⟩,ad⟩:=t.bk j hj
    have e1:=ad.symm.trans eo
    cases e1
    exact fr _ _ (fun _ z=>nomatch z) eo (zdv eo d (by intro z; cases z)) (A.l g hg h hh e j k hj hk)
 ·intro g hg g' f c i j hi hj
  rw [zqy,zqy]
  exact A.b g hg g' f c i j hi hj
 ·intro g hg g' f c i j hi hj
  have fresh:∀ s∈hs,s≠h->∀ m,m<z.toNat->l'≠(T s).lA m:=fun s v hn m hm=>by
   rcases hl with y | y
   ·rw [y]
    exact A.l h hh s v (Ne.symm hn) k m hk hm
   ·obtain ⟨ys,hy⟩:=an s v m hm
    exact (zag hy y).symm
  rcases znv (T:=T) (h:=h) (g:=g) (k:=k) (j:=i) (l':=l') (xs:=xs) with ⟨a1,a2,a3⟩ | ⟨a1,a3⟩ <;> rcases znv (T:=T) (h:=h) (g:=g') (k:=k) (j:=j) (l':=l') (xs:=xs) with ⟨b1,b2,b3⟩ | ⟨b1,b3⟩
  ·exact absurd (a1.trans b1.symm) c
  ·rw [a3,b3]
   exact fresh g' f (fun y=>c (a1.trans y.symm)) j hj
  ·rw [a3,b3]
   exact (fresh g hg (fun y=>c (y.trans b1.symm)) i hi).symm
  ·rw [a3,b3]
   exact A.l g hg g' f c i j hi hj
 ·intro g hg g' f c j hj
  rw [zt5]
  rcases znv (T:=T) (h:=h) (g:=g') (k:=k) (j:=j) (l':=l') (xs:=xs) with ⟨b1,b2,b3⟩ | ⟨b1,b3⟩
  ·rw [b3]
   rcases hl with y | y
   ·rw [y]
    exact A.n g hg h hh (fun y=>c (y.trans b1.symm)) k hk
   ·exact zag (u g hg).li y
  ·rw [b3]
   exact A.n g hg g' f c j hj
 ·exact fr q o ho e (fun y=>hn (.inr (.inr ⟨h,hh,.inr ⟨k,hk,.inl y⟩⟩))) (fun y=>hn (.inr (.inr ⟨h,hh,.inr ⟨k,hk,.inr y⟩⟩)))
 ·rcases hq with y | y | ⟨g,hg,y | ⟨j,hj,y⟩⟩
  ·exact .inl (.inl y)
  ·exact .inl (.inr (.inl y))
  ·rw [zt5] at y
   exact .inl (.inr (.inr ⟨g,hg,.inl y⟩))
  ·rw [zqy] at y
   rcases y with y | y
   ·exact .inl (.inr (.inr ⟨g,hg,.inr ⟨j,hj,.inl y⟩⟩))
   ·rcases znv (T:=T) (h:=h) (g:=g) (k:=k) (j:=j) (l':=l') (xs:=xs) with ⟨b1,b2,b3⟩ | ⟨b1,b3⟩
    ·rw [b3] at y
     subst y
     rcases hl with y | y
     ·exact .inl (.inr (.inr ⟨h,hh,.inr ⟨k,hk,.inr y⟩⟩))
     ·exact .inr y
    ·rw [b3] at y
     exact .inl (.inr (.inr ⟨g,hg,.inr ⟨j,hj,.inr y⟩⟩))
 ·exact he q hq
end
def zea:Expr:=match (zbk (zai (top 39) 25)).getD 0 (.Pass zx5) with | .Expr (.Call _ (_ :: e :: _) _ _) _=>e | _=> .Constant .none 0 zx5
def quH:Str:=(("Town.hears_of" : Str) ++ ".<locals>.") ++ "<lambda>"
abbrev RH:Addr->FuncData->Prop:=RLm "<lambda>" quH (zga zea) (zf_ zea) (zdp zea)
abbrev z6s (H:Hp)(f:Addr)(cv:List V)(fd:FuncData):Prop:=zy1 H f "<lambda>" quH (zga zea) (zf_ zea) (zdp zea) ["self"] cv fd
def z5p (K:W.Frag)(CB CT CW:Addr)(cv:List V):Sp:=fun vs H Q E=>∃ (w:Addr) (i:V),vs=[i]/\cv=[.ref w]/\(∃ dx fs,H w=some (.ins CW dx fs)/\fs.lookup ("answers" : Str)=none)/\zo4 K CB CT CW [.ref w,i] H Q E
def spH (K:W.Frag)(CB CT CW:Addr)(f:Addr)(fd:FuncData):Sp:=fun vs H Q E=>∃ cv,cv.length=(["self"]:List Str).length/\z6s H f cv fd/\z5p K CB CT CW cv vs H Q E
theorem zx6 {K:W.Frag}{CB CT CW:Addr}:zyp (spH K CB CT CW):=fun f fd vs H Q Q' E hq h=>by
 obtain ⟨cv,h1,h2,w,i,e1,e2,h3,w',td,sd,z,r,hs,sil,T,v,e3,hW,k⟩:=h
 refine ⟨cv,h1,h2,w,i,e1,e2,h3,w',td,sd,z,r,hs,sil,T,v,e3,hW,?_⟩
 rcases k with ⟨j,e,k⟩ | ⟨a,k⟩
 ·exact .inl ⟨j,e,hq _ _ k⟩
 ·exact .inr ⟨a,hq _ _ k⟩
def awB (hs sil:List Int)(x:Int):Bool:=decide (x∈hs) && !decide (x∈sil)
theorem zkn {z:Int}{hs sil:List Int}(hb:∀ h∈hs,0<=h/\h<2 ^ z.toNat)(z1:1<=z)(x:Int):(zdr z x && decide (x∈hs) && !decide (x∈sil))=awB hs sil x:=by
 unfold awB
 by_cases e:x∈hs
 ·rw [zej (hb x e).1 (hb x e).2 z1,Bool.true_and]
 ·rw [decide_eq_false e,Bool.and_false,Bool.false_and]
theorem zzz {f:Addr}{fd:FuncData}(h:RH f fd):zci K fd ["first"] []:=by
 obtain ⟨clos,pm,c',ct,rfl⟩:=h
 exact .all (us1 fun _=>rfl)
theorem z1d:zg4 ["first","self"] ["first"] ["self"] (zdp zea):=⟨rfl,rfl,rfl,by decide +kernel,by decide +kernel,by decide +kernel,by decide +kernel,by decide +kernel,by decide +kernel,by decide +kernel⟩
theorem z1s (Z:ZZ P w K mg base){CB CT:Addr}{f:Addr}{fd:FuncData}:zc_ P w K mg base CX0 5 f fd ["first"] (spH K CB CT Z.bc.C f fd):=by
 have c:=zbg (CB:=CB) (CT:=CT) Z
 refine zu1 (name:= "<lambda>") (qual:=quH) (params:=zga zea) (body:=zf_ zea) (sp:=z5p K CB CT Z.bc.C) z1d (fun cv vs H Q E h=>?_) (fun clos cdv A outer s H cv vs Q E hr d h=>?_)
 ·obtain ⟨w,i,rfl,_⟩:=h
  rfl
 ·obtain ⟨w,i,rfl,rfl,⟨dx,fs,hw,a⟩,k⟩:=h
  refine ⟨_,(zfy (pv 1) Z.bc.cl Z.bt.me c hr.mm Z.bt.b .nil zbw (zaa (pv 0) zab)),?_⟩
  exact ⟨_,rfl,w,dx,fs,rfl,hw,a,_,rfl,k⟩
def zvq (K:W.Frag)(CB CT CW T1:Addr):Sp:=fun vs H Q _=>∀ CC:Prop,(∀ (w td sd:Addr) (z r:Int) (hs sil:List Int) (T:Int->zbv) (h n:Int),vs=[.ref w,.int h,.int n]->zam CB CT CW H w td sd z r hs sil T->zck z.toNat hs T->h∈hs->0<=n->n<2 ^ z.toNat->n≠h->((∀ k,((T h).ns k).length<=1000))->Tab H T1 (za7 zea) quH->(∀ (H':Hp) (T':Int->zbv),zam CB CT CW H' w td sd z r hs sil T'->zck z.toNat hs T'->(fun g=>(T' g).ns)=zkq r (awB hs sil) (fun g=>(T g).ns) h n->zeh T1 H H' (Own td sd z.toNat hs T) (Own td sd z.toNat hs T')->Tab H' T1 (za7 zea) quH->Q .non H')->CC)->CC
theorem zj1:zaj ["self","house","name"] ["self","house","name"] (zah (zai (top 39) 25)):=fS
theorem zjw (Z:ZZ P w K mg base):z3z Z 9 Z.b8 (zvq K Z.ba.C Z.bb.C Z.bc.C Z.b8.P):=by
 have bj:=Z.bc.cl
 obtain ⟨bf,a9,bi,bq,-⟩:=Z.bc.na
 have GA:∀ f fd,RH f fd->zc_ P w K mg base CX0 5 f fd ["first"] (spH K Z.ba.C Z.bb.C Z.bc.C f fd):=fun f fd _=>z1s Z
 have bA:∀ f fd,RH f fd->zci K fd ["first"] []:=fun f fd h=>zzz h
 have ay:=zlv Z GA bA zx6
 refine Z.b8.ok Z.dt zj1 (fz:=["self"]) (by decide +kernel) (by kd_p) (fun A outer s H vs Q E hr au H1 sm a0 hC=>?_)
 refine au _ fun w td sd z r hs sil TT h n aw ah hA hh af ap ai aa hT k0=>?_
 subst aw
 have hW:zam Z.ba.C Z.bb.C Z.bc.C H1 w td sd z r hs sil TT:=ah.keep fun q o _ e=>sm _ _ e
 have k:∀ (H':Hp) (T':Int->zbv),zam Z.ba.C Z.bb.C Z.bc.C H' w td sd z r hs sil T'->zck z.toNat hs T'->(fun g=>(T' g).ns)=zkq r (awB hs sil) (fun g=>(TT g).ns) h n->zeh Z.b8.P H1 H' (Own td sd z.toNat hs TT) (Own td sd z.toNat hs T')->Tab H' Z.b8.P (za7 zea) quH->Q .non H':=fun H' T' a b c d e=>k0 H' T' a b c ((zeh.same sm).trans d) e
 have ao:Tab H1 Z.b8.P (za7 zea) quH:=(sm.but _).2 _ _ hT
 clear k0 ah
 obtain ⟨⟨dx,be⟩,az,bh,ar,bo,m,ax,bd,av,bg,bm,bp⟩:=id hW
 have a4:=ar h hh
 obtain ⟨br,a5⟩:=a4.ob
 have hg:zik H1 td (V.int h) (some (V.ref (TT h).t)):=by
  have:=zik.k (k:=Sum.inl h) az
  rw [zcd,if_pos hh] at this
  exact this
 obtain ⟨c1,a1,v1⟩:=a0 0 "self" (.ref w) (by decide +kernel) rfl rfl
 refine ⟨_,(zaf (zap (pmD (zep (zfm hr) (za9 (pv 0) rfl) (pv 1) (fun _ _=>rfl)) Z.bb.cl Z.bn ay hr (zaa (pv 2) (zaa (ztm rfl hC Z.dv (zg9 (by kernel_rfl))) zab))))),?_⟩
 kt_k
 refine zpw ao fun f H2 fo clos c' oc k1 k2 hb u hf an sh a2 cs=>?_
 have nP:∀ {b:Addr} {o:HO},(∀ ps,o≠ .tbl ps)->H1 b=some o->H2 b=some o:=fun {b o} ho e=>hb b o (fun y=>by
  obtain ⟨ps,hP,_⟩:=ao
  rw [y,hP] at e
  cases e
  exact ho _ rfl) e
 have keep:∀ c v,zez H1 c v->zez H2 c v:=fun c v hv=>hv.same fun o k e=>nP (fun _ z=>nomatch z) e
 obtain ⟨fd,hd,hR,hF⟩:=zq4 (qual:=quH) (params:=zga zea) (body:=zf_ zea) (scope:=zdp zea) (fr:=["self"]) (cv:=[.ref w]) sh an a2 cs (fun i x v h1 h2=>by
  match i,h1,h2 with
  | 0,h1,h2 =>
   cases h1
   cases h2
   exact ⟨by decide +kernel,c1,a1,keep _ _ v1⟩)
 have ae:zam Z.ba.C Z.bb.C Z.bc.C H2 w td sd z r hs sil TT:=hW.keep fun q o ho e=>nP ho e
 have d2:zeh Z.b8.P H1 H2 (Own td sd z.toNat hs TT) (Own td sd z.toNat hs TT):=⟨fun q o ho e _=>nP ho e,fun _ y=> .inl y,(fun q e=>by
  by_cases y:q=Z.b8.P
  ·obtain ⟨ps,hP,_⟩:=u
   rw [y,hP] at e
   cases e
  ·cases eq:H1 q with
   | none=>rfl
   | some o =>
    rw [hb q o y eq] at e
    cases e),fun q ps e y=>hb q _ y e⟩
 obtain ⟨⟨aq,ag⟩,a6,a7,ak,-⟩:=id ae
 have p:=ak h hh
 obtain ⟨a8,a3⟩:=p.ob
 have aj:zbh h n<z.toNat:=zdy (m h hh).1 af (m h hh).2 ap (Ne.symm ai)
 have j:=p.bk _ aj
 have ac:∀ (H3:Hp) (l':Addr) (xs:List Int),xs=zir r (awB hs sil) ((TT h).ns (zbh h n)) n->zdc Z.ba.C H3 ((TT h).bA (zbh h n)) l' r xs->(l'=(TT h).lA (zbh h n)\/H2 l'=none)->(ztg ((TT h).lA (zbh h n)) H2 H3/\l'=(TT h).lA (zbh h n)\/ztg ((TT h).bA (zbh h n)) H2 H3)->Q .non H3:=fun H3 l' xs l B3 ad ab=>by
  have fr:∀ q o,H2 q=some o->q≠(TT h).bA (zbh h n)->q≠(TT h).lA (zbh h n)->H3 q=some o:=fun q o e a b=>by
   rcases ab with ⟨y,_⟩ | y
   ·exact y q o e b
   ·exact y q o e a
  have he:∀ q,H3 q=none->H2 q=none:=fun q e=>by
   cases eq:H2 q with
   | none=>rfl
   | some o =>
    exfalso
    obtain ⟨⟨db,y1⟩,y2⟩:=B3
    rcases ab with ⟨y,rfl⟩ | y
    ·by_cases e2:q=(TT h).lA (zbh h n)
     ·rw [e2,y2] at e
      cases e
     ·rw [y q o eq e2] at e
      cases e
    ·by_cases e2:q=(TT h).bA (zbh h n)
     ·rw [e2,y1] at e
      cases e
     ·rw [y q o eq e2] at e
      cases e
  obtain ⟨W3,A3,d3⟩:=ae.turn hA hh aj B3 ad (fun q o _ e a b=>fr q o e a b) he (fun q ps e _=>fr q _ e (fun y=>by
   obtain ⟨⟨db,y1⟩,_⟩:=id j
   rw [y,y1] at e
   cases e) (fun y=>by
   rw [y,j.li] at e
   cases e))
  refine k H3 _ W3 A3 ?_ (d2.trans d3) (Tab.hold u fun q o ho e=>?_)
  ·rw [ztr,l]
   rfl
  ·obtain ⟨⟨db,y1⟩,y2⟩:=id j
   refine fr q o e (fun y=>?_) (fun y=>?_)
   ·subst y
    rcases ho with ⟨x,kk,rfl⟩ | y
    ·rw [y1] at e
     cases e
    ·obtain ⟨ps,hP,_⟩:=u
     rw [<- y,y1] at hP
     cases hP
   ·subst y
    rcases ho with ⟨x,kk,rfl⟩ | y
    ·rw [y2] at e
     cases e
    ·obtain ⟨ps,hP,_⟩:=u
     rw [<- y,y2] at hP
     cases hP
 refine ⟨(TT h).t,(TT h).bl,f,h,z,r,n,z.toNat,(TT h).bA,(TT h).lA,(TT h).ns,rfl,p,(m h hh).1,af,(m h hh).2,ap,fun y=>absurd y.symm ai,fun _=>?_⟩
 unfold zng
 refine ⟨_,_,f,r,n,_,rfl,j,aa _,av,fun hm H3 B3 b3=>?_,fun hm hl H3 B3 b3=>?_,fun hm hl=>?_⟩
 ·exact ac H3 _ _ (by unfold zir; rw [if_pos hm]) B3 (.inl rfl) (.inl ⟨b3,rfl⟩)
 ·exact ac H3 _ _ (by unfold zir; rw [if_neg hm,if_pos hl]) B3 (.inl rfl) (.inl ⟨b3,rfl⟩)
 ·have am:∃ x xs,(TT h).ns (zbh h n)=x :: xs:=by
   cases e:(TT h).ns (zbh h n) with
   | nil =>
    rw [e] at hl
    exact absurd hl (by simp only [jk]; omega)
   | cons x xs=>exact ⟨x,xs,rfl⟩
  obtain ⟨x,xs,l⟩:=am
  have al:xs.length<=1000:=by
   have:=aa (zbh h n)
   rw [l,gs] at this
   omega
  rw [l] at j
  unfold zru
  refine ⟨_,_,f,r,n,x,xs,fd,rfl,j,al,.inl ⟨fo,k1,an,hd⟩,hR,[.ref w],rfl,hF,w,.int x,rfl,rfl,⟨aq,_,ag,z4j _ (by decide +kernel) _ _ _ _⟩,w,td,sd,z,r,hs,sil,TT,.int x,rfl,ae,.inl ⟨x,rfl,_,rfl,j,fun l' H3 ad B3 b3=>?_⟩⟩
  rw [zkn m ax x] at B3
  refine ac H3 l' _ ?_ B3 (.inr ad) (.inr b3)
  unfold zir
  rw [if_neg hm,if_neg (show ¬ (((TT h).ns (zbh h n)).length:Int)<r by omega),l]
def z3j (K:W.Frag)(CB CT CW T1:Addr):Sp:=fun vs H Q _=>∀ CC:Prop,(∀ (w td sd:Addr) (z r:Int) (hs sil:List Int) (T:Int->zbv) (h n:Int),vs=[.ref w,.int h,.int n]->zam CB CT CW H w td sd z r hs sil T->zck z.toNat hs T->h∈hs->n∈hs->n≠h->((∀ g∈hs,∀ k,((T g).ns k).length<=1000))->Tab H T1 (za7 zea) quH->(∀ (H':Hp) (T':Int->zbv),zam CB CT CW H' w td sd z r hs sil T'->zck z.toNat hs T'->(fun g=>(T' g).ns)=zs2 r (awB hs sil) (fun g=>(T g).ns) h n->zeh T1 H H' (Own td sd z.toNat hs T) (Own td sd z.toNat hs T')->Tab H' T1 (za7 zea) quH->Q .non H')->CC)->CC
theorem zom:zaj ["self","one","other"] ["self","one","other"] (zah (zai (top 39) 24)):=fS
theorem zjf (Z:ZZ P w K mg base):zco Z 10 Z.b9 (z3j K Z.ba.C Z.bb.C Z.bc.C Z.b8.P):=by
 have q:=Z.bc.cl
 have e:=zjw Z
 refine Z.b9.fn.ok zom (by kd_p) (fun cdv A outer s H vs Q E hr i=>?_)
 refine i _ fun w td sd z r hs sil TT h n j hW hA hh hn d a hT k=>?_
 subst j
 obtain ⟨dx,v⟩:=hW.ob
 have c:=hW.hb n hn
 have u:=c.1
 have ac:=c.2
 have ab:=a h hh
 refine ⟨_,(zae (zap (zfy (pv 0) Z.bc.cl Z.b8.me e hr.mm Z.b8.b .nil zbw (zaa (pv 1) (zaa (pv 2) zab))))
  (zaf (zap (zfy (pv 0) Z.bc.cl Z.b8.me e hr.mm Z.b8.b .nil zbw (zaa (pv 2) (zaa (pv 1) zab)))))),?_⟩
 kt_k
 intro H1 T1 W1 A1 e1 d1 x
 obtain ⟨y,o⟩:=W1.ob
 have f:=W1.hb h hh
 have p:=f.1
 have aa:=f.2
 have m:h≠n:=Ne.symm d
 have t:∀ k,((T1 n).ns k).length<=1000:=fun k=>by
  have e2:=congrFun (congrFun e1 n) k
  have e2:(T1 n).ns k=zkq r (awB hs sil) (fun g=>(TT g).ns) h n n k:=e2
  unfold zkq at e2
  rw [zay d] at e2
  rw [e2]
  exact a n hn k
 kt_k
 intro H2 T2 W2 A2 e2 d2 l
 refine k H2 T2 W2 A2 ?_ (d1.trans d2) l
 unfold zs2
 rw [e2,e1]
structure CT (E:Int->Int->Prop)(d:Int)(ks ws:List Int):Prop where
 nd:ks.Nodup
 dm:d∈ks
 re:∀ x∈ks,Rch E d x
 ws:∀ x∈ws,x∈ks
theorem zr2 {ks:List Int}{x:Int}(h:x∉ks):zec (zfa ks) (Sum.inl x) (V.bl true)=zfa (ks++[x]):=by
 have e:zee (zfa ks) (Sum.inl x)=none:=by
  have:=zg8 (sil:=ks) (i:=x)
  rw [decide_eq_false h] at this
  exact Option.isSome_eq_false_iff.mp this |> fun z=>by simpa using z
 rw [zj_ _ e]
 unfold zfa
 rw [gm]
 rfl
theorem ztf (l:List Int):l=[]\/∃ t a,l=t++[a]:=by
 rcases List.eq_nil_or_concat l with h | ⟨t,a,h⟩
 ·exact .inl h
 ·exact .inr ⟨t,a,by rw [h,List.concat_eq_append]⟩
theorem zm4 {l:List Int}{a:Int}:(l++[a]).map V.int=l.map V.int++[V.int a]:=by simp
theorem zv2 {l:List Int}{a:Int}:((l++[a]).map V.int).dropLast=l.map V.int:=by
 rw [zm4,List.dropLast_concat]
theorem zcj:zaj ["self","house","reached","waiting","here","name"] ["self","house"] (zah (zai (top 39) 8)):=fS
def zrr (CB CT CW:Addr):Sp:=fun vs H Q _=>∀ CC:Prop,(∀ (w td sd:Addr) (z r:Int) (hs sil:List Int) (T:Int->zbv) (i:Int),vs=[.ref w,.int i]->zam CB CT CW H w td sd z r hs sil T->i∈hs->i∉sil->((∀ g∈hs,(zdo (T g).ns z.toNat).length<64))->(∀ (l:Addr) (ks:List Int) (H':Hp),zax H H'->H l=none->H' l=some (.lst ((za1 ks).map V.int))->ks.Nodup->(∀ x,x∈ks↔Rch (zm1 z.toNat (awB hs sil) (fun g=>(T g).ns)) i x)->Q (.ref l) H')->CC)->CC
theorem zgp (Z:ZZ P w K mg base):zco Z 6 Z.ca (zrr Z.ba.C Z.bb.C Z.bc.C):=by
 have cd:=Z.bc.cl
 obtain ⟨ch,b9,cb,cm,-⟩:=Z.bc.na
 have bh:=zey Z
 have b1:=zbg (CB:=Z.ba.C) (CT:=Z.bb.C) Z
 have bj:=zbd (CB:=Z.ba.C) (CT:=Z.bb.C) Z
 refine Z.ca.fn.ok zcj (by kd_p) (fun cdv A outer s H vs Q E hr bn=>?_)
 refine bn _ fun w td sd z r hs sil TT i av hW hi ck ay k=>?_
 subst av
 obtain ⟨⟨dx,br⟩,bg,cj,bm,-⟩:=id hW
 have ce:=hW.ln
 generalize hE:zm1 z.toNat (awB hs sil) (fun g=>(TT g).ns)=E at k
 have ad:∀ x,Rch E i x->x∈hs:=fun x hx=>by
  subst hE
  cases hx with
  | own=>exact hi
  | go _ e =>
   have e2:=e.2
   unfold awB at e2
   simp only [ic,decide_eq_true_eq] at e2
   exact e2.1
 have ap:∀ {ks ws:List Int},CT E i ks ws->ks.length<=hs.length:=fun c=>zby c.nd fun x hx=>ad x (c.re x hx)
 refine ⟨_,(zae (zap (pmD (pv 0) Z.bc.cl Z.b0 bj hr (zaa (pv 1) zab)))
  (zae (za2 (i:=2) zcj.nd rfl oL (z0a (zww (pv 1) zfw z08) rfl rfl (fun z=>nomatch z) (ix rfl)))
  (zae (za2 (i:=3) zcj.nd rfl oL (zb0 (zaa (pv 1) zab)))
  (zae (zmw PassesOwn.never (zan z4f (za0 za3 rfl Z.ds.n_len zc1 (zaa (pv 3) zab)) zak (za5 _))
   (zae (za2 (i:=4) zcj.nd rfl oL (zy2 ge m9 ma z2v (pv 3)))
   (zaf (zca PassesOwn.never rfl (zbb (zbi (zep (zfm hr) (za9 (pv 0) rfl) (pv 4) (fun _ _=>rfl)) Z.bb.cl Z.bp.me bh hr.mm Z.bp.b .nil zbw)) (zas (i:=5) zcj.nd rfl oL)
    (zaf (zbn (PW.pt (zgx (z3b (zn3 (zfm hr) (pv 5) (pv 2))) (zfz (zb_ (pmD (pv 0) Z.bc.cl Z.bt b1 hr (zaa (pv 5) zab))))))
     (zae (zix (zfm hr) (pv 2) (pv 5) zfw rfl)
     (zaf (zap (zgv ge PySem.F.slot_list_append PySem.F.type_list_append zb4 (pv 3) (zaa (pv 5) zab)))))
     za6))))))
  (zaf (zar (za0 (zjo rfl) rfl Z.ds.n_sorted zfl (zaa (pv 2) zab)))))))),?_⟩
 kt_k
 intro rc ax
 refine ⟨_,rfl,?_⟩
 refine ⟨zad,[(Sum.inl i,V.bl true)],rfl,(show 1<=15 by decide),?_⟩
 have s1:zax H (upd (upd H rc (.dK [])) rc (.dK (zi_ [] [(Sum.inl i,V.bl true)]))):=((zax.refl H).lay ax).put ax
 have ah:upd (upd H rc (.dK [])) rc (.dK (zi_ [] [(Sum.inl i,V.bl true)])) rc=some (.dK (zfa [i])):=zad
 generalize upd (upd H rc (.dK [])) rc (.dK (zi_ [] [(Sum.inl i,V.bl true)]))=H1 at s1 ah |-
 kt_k
 intro wt az
 have s2:zax H (upd H1 wt (.lst [V.int i])):=s1.put (s1.free az)
 have au:upd H1 wt (.lst [V.int i]) wt=some (.lst [V.int i]):=zad
 have aq:upd H1 wt (.lst [V.int i]) rc=some (.dK (zfa [i])):=by rw [zac (zag ah az)]; exact ah
 have an:H wt=none:=s1.free az
 generalize upd H1 wt (.lst [V.int i])=H2 at s2 au aq |-
 have c0:CT E i [i] [i]:=⟨by simp,fc.mpr rfl,fun x hx=>fc.mp hx ▸ Rch.own,fun x hx=>hx⟩
 kt_k
 refine ⟨fun m σ H3=>zer (∃ (v4 v5:Option V) (ks ws:List Int),σ=[some (.ref w),some (.int i),some (.ref rc),some (.ref wt),v4,v5]/\zax H H3/\H3 rc=some (.dK (zfa ks))/\H3 wt=some (.lst (ws.map V.int))/\CT E i ks ws/\(∀ a∈ks,a∉ws->∀ b,E a b->b∈ks)/\m=2 * (hs.length - ks.length)+ws.length/\ws.length<=2 * ks.length),⟨_,⟨none,none,[i],[i],rfl,s2,aq,au,c0,fun a ha hn=>absurd ha hn,rfl,by simp⟩⟩,?_⟩
 rintro m σ H3 ⟨v4,v5,ks,ws,rfl,s3,ao,aj,c3,a9,hm,bo⟩
 have cn:=ap c3
 rcases ztf ws with rfl | ⟨u,a,rfl⟩
 ·have bq:map (fun x:Key × V=>x.fst) (zfa ks)=map Sum.inl ks:=by
   unfold zfa
   rw [l4]
   rfl
  have cf:ks.length<64:=by omega
  kt_k
  intro l hl
  refine k l ks _ (s3.put (s3.free hl)) (s3.free hl) zad c3.nd fun x=>⟨c3.re x,fun h=>Rch.of_closed c3.dm (fun a ha b e=>a9 a ha (fun z=>nomatch z) b e) h⟩
 ·have aj:H3 wt=some (.lst ((u++[a]).map V.int)):=aj
  have ha:a∈ks:=c3.ws a (fh _ (fc.mpr rfl))
  have aw:=ad a (c3.re a ha)
  have s4:zax H (upd H3 wt (.lst (((u++[a]).map V.int).dropLast))):=s3.put an
  have b4:=s4 _ _ br
  have a8:=(bm a aw).same s4
  obtain ⟨ci,b2⟩:=a8.ob
  have b8:zik (upd H3 wt (.lst (((u++[a]).map V.int).dropLast))) td (V.int a) (some (V.ref (TT a).t)):=by
   have:=zik.k (k:=Sum.inl a) (s4 _ _ bg)
   rw [zcd,if_pos aw] at this
   exact this
  have ar:upd H3 wt (.lst (((u++[a]).map V.int).dropLast)) rc=some (.dK (zfa ks)):=by rw [zac (zdv ao aj (by intro z; cases z))]; exact ao
  have a2:upd H3 wt (.lst (((u++[a]).map V.int).dropLast)) wt=some (.lst (u.map V.int)):=by rw [zad,zv2]
  have cg:=ay a aw
  have bf:((u++[a]).map V.int).length=u.length+1:=by simp
  have bv:((u++[a]).map V.int)[((u++[a]).map V.int).length - 1]? = some (V.int a):=by rw [zm4]; simp
  have bd:(0:Int)<((((u++[a]).map V.int).length:Nat):Int):=by rw [bf]; omega
  kt_k
  refine zlw bd ?_
  refine ⟨fun σ' H'=>zer (∃ (v4 v5:Option V) (ks ws:List Int),σ'=[some (.ref w),some (.int i),some (.ref rc),some (.ref wt),v4,v5]/\zax H H'/\H' rc=some (.dK (zfa ks))/\H' wt=some (.lst (ws.map V.int))/\CT E i ks ws/\(∀ a∈ks,a∉ws->∀ b,E a b->b∈ks)/\2 * (hs.length - ks.length)+ws.length<m/\ws.length<=2 * ks.length),fun σ' H' ⟨v4,v5,ks,ws,e,a,b,c,d,f,g,h⟩=>⟨_,g,⟨v4,v5,ks,ws,e,a,b,c,d,f,rfl,h⟩⟩,?_⟩
  kt_k
  intro kl H5 ai a7 s5
  have bw:kl≠wt:=fun e=>by rw [e,zad] at ai; cases ai
  have be:kl≠rc:=(zag ar ai).symm
  have a1:=s5 _ _ ar
  have a4:=s5 _ _ a2
  kt_k
  refine zbs (K:=K) (a:=kl) (xs:=(za1 (zdo (TT a).ns z.toNat)).map V.int) (fun j σ H6=>zer (∃ (v5:Option V) (n p:List Int),σ=[some (.ref w),some (.int i),some (.ref rc),some (.ref wt),some (.int a),v5]/\zax H H6/\H6 kl=some (.lst ((za1 (zdo (TT a).ns z.toNat)).map V.int))/\H6 rc=some (.dK (zfa n))/\H6 wt=some (.lst (p.map V.int))/\CT E i n p/\a∈n /\
    (∀ g∈n,g∉p->g=a\/∀ b,E g b->b∈n)/\(∀ x∈(za1 (zdo (TT a).ns z.toNat)).take j,awB hs sil x=true->x∈n)/\2 * (hs.length - n.length)+p.length<m/\p.length<=2 * n.length)) ?_ (fun j σ H6 _ ⟨_,_,_,_,_,e,_⟩=>SqL.of e) ?_ ?_
  ·refine ⟨⟨_,ks,u,rfl,s4.trans s5,a7,a1,a4,⟨c3.nd,c3.dm,c3.re,fun x hx=>c3.ws x (gb _ hx)⟩,ha,fun g hg hn=>?_,fun x hx=>absurd hx (by simp),?_,?_⟩⟩
   ·by_cases e:g=a
    ·exact .inl e
    ·exact .inr fun b=>a9 g hg (fun y=>by
      rcases fj.mp y with y | y
      ·exact hn y
      ·exact e (fc.mp y)) b
   ·rw [hm,fe,fu]
    omega
   ·rw [fe,fu] at bo
    omega
  ·rintro j y σ H6 hj ⟨v5,n,p,rfl,s6,ac,aa,v,c6,al,ag,ak,am,ae⟩
   obtain ⟨x,hx,rfl⟩:∃ x,(za1 (zdo (TT a).ns z.toNat))[j]? = some x/\y=V.int x:=by
    rw [List.getElem?_map] at hj
    cases e:(za1 (zdo (TT a).ns z.toNat))[j]? with
    | none=>rw [e] at hj; cases hj
    | some x=>rw [e] at hj; exact ⟨x,rfl,(Option.some.inj hj).symm⟩
   have bz:x∈zdo (TT a).ns z.toNat:=(zaw _).subset (fm hx)
   have htk:(za1 (zdo (TT a).ns z.toNat)).take (j+1)=(za1 (zdo (TT a).ns z.toNat)).take j++[x]:=zgn hx
   have bu:zam Z.ba.C Z.bb.C Z.bc.C H6 w td sd z r hs sil TT:=hW.keep fun q o _ e=>s6 _ _ e
   obtain ⟨cc,b5⟩:=bu.ob
   have bi:=ap c6
   have av:=zg8 (sil:=n) (i:=x)
   kt_k
   rw [av]
   by_cases af:x∈n
   ·rw [decide_eq_true af]
    refine ⟨⟨_,n,p,rfl,s6,ac,aa,v,c6,al,ag,fun y hy ab=>?_,am,ae⟩⟩
    rw [htk] at hy
    rcases fj.mp hy with hy | hy
    ·exact ak y hy ab
    ·exact fc.mp hy ▸ af
   ·rw [decide_eq_false af]
    kt_k
    refine .inl ⟨x,rfl,?_⟩
    rw [zkn hW.hb hW.z1 x]
    cases a0:awB hs sil x with
    | false =>
     kt_k
     refine ⟨⟨_,n,p,rfl,s6,ac,aa,v,c6,al,ag,fun y hy ab=>?_,am,ae⟩⟩
     rw [htk] at hy
     rcases fj.mp hy with hy | hy
     ·exact ak y hy ab
     ·rw [fc.mp hy,a0] at ab
      cases ab
    | true =>
     have a3:(zfa n).length<sizeLine:=by
      unfold zfa
      rw [d9]
      exact zau (by omega)
     have b7:zpc H6 rc (V.int x) (V.bl true) (upd H6 rc (.dK (zec (zfa n) (Sum.inl x) (V.bl true)))):=zpc.k (k:=Sum.inl x) aa a3
     have a5:wt≠rc:=zdv v aa (by intro z; cases z)
     have b6:upd H6 rc (.dK (zec (zfa n) (Sum.inl x) (V.bl true))) wt=some (.lst (p.map V.int)):=by rw [zac a5]; exact v
     have b3:(p.map V.int).length<sizeLine:=by
      rw [d9]
      exact zau (by omega)
     kt_k
     have a6:Rch E i x:=by
      subst hE
      exact .go (c6.re a al) ⟨bz,a0⟩
     refine ⟨⟨_,n++[x],p++[x],rfl,(s6.put ax).put an,?_,?_,?_,⟨zbx c6.nd af,gb _ c6.dm,fun y hy=>?_,fun y hy=>?_⟩,gb _ al,fun g hg hn=>?_,fun y hy ab=>?_,?_,?_⟩⟩
     ·rw [zac bw,zac be]
      exact ac
     ·rw [zac a5.symm,zad,zr2 af]
     ·rw [zad,zm4]
     ·rcases fj.mp hy with y1 | y1
      ·exact c6.re y y1
      ·exact fc.mp y1 ▸ a6
     ·rcases fj.mp hy with y1 | y1
      ·exact gb _ (c6.ws y y1)
      ·exact fh _ y1
     ·rcases fj.mp hg with y1 | y1
      ·rcases ag g y1 (fun z=>hn (gb _ z)) with e | e
       ·exact .inl e
       ·exact .inr fun b hb=>gb _ (e b hb)
      ·exact absurd (fh _ y1) hn
     ·rw [htk] at hy
      rcases fj.mp hy with hy | hy
      ·exact gb _ (ak y hy ab)
      ·exact fh _ hy
     ·have:=zby (zbx c6.nd af) (b:=hs) fun y hy=>(fj.mp hy).elim (fun z=>ad y (c6.re y z)) fun z=>ad y (fc.mp z ▸ a6)
      rw [fe,fu] at this |-
      rw [fe,fu]
      omega
     ·rw [fe,fu,fe,fu]
      omega
  ·rintro σ H6 ⟨v5,n,p,rfl,s6,ac,aa,v,c6,al,ag,ak,am,ae⟩
   refine ⟨⟨_,_,n,p,rfl,s6,aa,v,c6,fun g hg hn b hb=>?_,am,ae⟩⟩
   rcases ag g hg hn with rfl | e
   ·subst hE
    refine ak b ?_ hb.2
    rw [ii (by rw [d9]; exact gd _)]
    exact (zaw _).symm.subset hb.1
   ·exact e b hb
theorem zam.ex {CB CT CW w td sd:Addr}{H:Hp}{z r:Int}{hs sil:List Int}{T:Int->zbv}(W:zam CB CT CW H w td sd z r hs sil T){q:Addr}(h:Own td sd z.toNat hs T q):∃ o,H q=some o:=by
 rcases h with rfl | rfl | ⟨g,hg,rfl | ⟨k,hk,rfl | rfl⟩⟩
 ·exact ⟨_,W.tb⟩
 ·exact ⟨_,W.si⟩
 ·exact ⟨_,(W.ta g hg).li⟩
 ·obtain ⟨⟨d,e⟩,_⟩:=(W.ta g hg).bk k hk
  exact ⟨_,e⟩
 ·exact ⟨_,((W.ta g hg).bk k hk).li⟩
theorem zam.notOwn {CB CT CW w td sd:Addr}{H:Hp}{z r:Int}{hs sil:List Int}{T:Int->zbv}(W:zam CB CT CW H w td sd z r hs sil T){q:Addr}(h:H q=none):¬ Own td sd z.toNat hs T q:=fun y=>by
 obtain ⟨o,e⟩:=W.ex y
 rw [h] at e
 cases e
def z3w (h:Int)(y:Int):Bool:= !decide (V.int y=V.int h)
theorem z1v {h y:Int}(e:z3w h y=true):y≠h:=fun z=>by
 subst z
 unfold z3w at e
 rw [decide_eq_true rfl] at e
 cases e
def zht (h:Int)(ks:List Int):List Int:=(za1 ks).filter (z3w h)
theorem zic {h x:Int}{ks:List Int}(hx:x∈zht h ks):x∈ks/\x≠h:=by
 obtain ⟨a,b⟩:=gr.mp hx
 exact ⟨(zaw _).subset a,z1v b⟩
theorem NOk.meets {pool:List Int}{z:Nat}{r:Int}{hs:List Int}(hr:1<=r){aw:Int->Bool}{a:Int}(ha:a∈pool):∀ {l:List Int} {N:Int->Nat->List Int},(∀ x∈l,x∈pool/\x≠a)->NOk pool z r hs N->NOk pool z r hs (zcm r aw N a l)
 | [],_,_,O=>O
 | b :: t,N,h,O=>NOk.meets (l:=t) hr ha (fun x hx=>h x (fg _ hx)) (O.meet hr ha (h b (fk ..)).1 (h b (fk ..)).2)
theorem ze2:zaj ["self","house","door","visited","name"] ["self","house","door"] (zah (zai (top 39) 23)):=fS
def zw_ (CB CT CW T1:Addr):Sp:=fun vs H Q _=>∀ CC:Prop,(∀ (w td sd:Addr) (z r:Int) (hs sil pool:List Int) (T:Int->zbv) (h d:Int),vs=[.ref w,.int h,.int d]->zam CB CT CW H w td sd z r hs sil T->zck z.toNat hs T->h∈hs->d∈hs->d∉sil->NOk pool z.toNat r hs (fun g=>(T g).ns)->pool.length<64->((∀ x∈hs,x∈pool))->Tab H T1 (za7 zea) quH->(∀ (l:Addr) (ks:List Int) (H':Hp) (T':Int->zbv),ks.Nodup->(∀ x,x∈ks↔Rch (zm1 z.toNat (awB hs sil) (fun g=>(T g).ns)) d x)->zam CB CT CW H' w td sd z r hs sil T'->zck z.toNat hs T'->(fun g=>(T' g).ns)=zcm r (awB hs sil) (fun g=>(T g).ns) h (zht h ks)->zeh T1 H H' (Own td sd z.toNat hs T) (Own td sd z.toNat hs T')->Tab H' T1 (za7 zea) quH->H l=none->¬ Own td sd z.toNat hs T' l->H' l=some (.lst ((zht h ks).map V.int))->Q (.ref l) H')->CC)->CC
theorem zeu (Z:ZZ P w K mg base):zco Z 11 Z.cb (zw_ Z.ba.C Z.bb.C Z.bc.C Z.b8.P):=by
 have aw:=Z.bc.cl
 have ai:=zgp Z
 have ak:=zjf Z
 refine Z.cb.fn.ok ze2 (by kd_p) (fun cdv A outer s H vs Q E hr ab=>?_)
 refine ab _ fun w td sd z r hs sil pool TT h d ad hW hA hh hd ao hO ah aa hT k=>?_
 subst ad
 obtain ⟨dx,ap⟩:=hW.ob
 have ax:=hW.ln
 have ac:=hW.r1
 have ar:=hW.r2
 have al:∀ g∈hs,(zdo (TT g).ns z.toNat).length<64:=fun g hg=>gz (hO.len hg z.toNat) ah
 refine ⟨_,(zae (zf5 (i:=3) ze2.nd rfl oL rfl (zaz (own:=["name"]) (caps:=[1]) (N':=["name","house"]) (by kernel_rfl)) (zbb (pmD (pv 0) Z.bc.cl Z.ca ai hr (zaa (pv 2) zab))) (fun _ _ _ _ _=>(zas (i:=0) (show (["name","house"]:List Str).Nodup by decide +kernel) rfl oL)) (fun _ _ _ _ _=>(zcu (zan zw2 (pv 0) (pv 1) (za5 _)))) (fun _ _ _ _ _=>(pv 0)))
  (zae (zca PassesOwn.never rfl (zbb (pv 3)) (zas (i:=4) ze2.nd rfl oL)
   (zaf (zap (pmD (pv 0) Z.bc.cl Z.b9 ak hr (zaa (pv 1) (zaa (pv 4) zab))))))
  (zaf (zar (pv 3))))),?_⟩
 kt_k
 intro l ks H1 s1 hl ae u f
 have ay:zam Z.ba.C Z.bb.C Z.bc.C H1 w td sd z r hs sil TT:=hW.keep fun q o _ e=>s1 _ _ e
 have b:∀ x∈ks,x∈hs:=fun x hx=>by
  have hx:=(f x).mp hx
  cases hx with
  | own=>exact hd
  | go _ e =>
   have e2:=e.2
   unfold awB at e2
   simp only [ic,decide_eq_true_eq] at e2
   exact e2.1
 have az:ks.length<=hs.length:=zby u b
 kt_k
 intro D hD
 refine zbo (z3w h) hD (SqL.of ae) (by rw [zbr]; omega) (fun x hx H2 Qt s2 q=>?_) fun H2 s2 c=>?_
 ·kt_k
  exact q H2 (zax.refl H2)
 ·have c:H2 D=some (.lst ((zht h ks).map V.int)):=c
  have m:zax H H2:=s1.trans s2
  have ag:zam Z.ba.C Z.bb.C Z.bc.C H2 w td sd z r hs sil TT:=hW.keep fun q o _ e=>m _ _ e
  have aj:Tab H2 Z.b8.P (za7 zea) quH:=(m.but _).2 _ _ hT
  have n:H D=none:=s1.free hD
  have nD:=hW.notOwn n
  kt_k
  refine zbs (K:=K) (a:=D) (xs:=(zht h ks).map V.int) (fun j σ H6=>zer (∃ (v:Option V) (T6:Int->zbv),σ=[some (.ref w),some (.int h),some (.int d),some (.ref D),v]/\zam Z.ba.C Z.bb.C Z.bc.C H6 w td sd z r hs sil T6/\zck z.toNat hs T6/\(fun g=>(T6 g).ns)=zcm r (awB hs sil) (fun g=>(TT g).ns) h ((zht h ks).take j)/\zeh Z.b8.P H2 H6 (Own td sd z.toNat hs TT) (Own td sd z.toNat hs T6)/\Tab H6 Z.b8.P (za7 zea) quH)) ?_ (fun j σ H6 _ ⟨_,_,_,_,_,_,e,_⟩=>SqL.of (e.k _ _ (fun _ z=>nomatch z) c nD)) ?_ ?_
  ·exact ⟨⟨_,TT,rfl,ag,hA,rfl,zeh.refl _ _,aj⟩⟩
  ·rintro j y σ H6 hj ⟨v,T6,rfl,W6,A6,e6,d6,p⟩
   obtain ⟨x,hx,rfl⟩:∃ x,(zht h ks)[j]? = some x/\y=V.int x:=by
    rw [List.getElem?_map] at hj
    cases e:(zht h ks)[j]? with
    | none=>rw [e] at hj; cases hj
    | some x=>rw [e] at hj; exact ⟨x,rfl,(Option.some.inj hj).symm⟩
   have t:=zic (fm hx)
   have aq:=b x t.1
   have au:=t.2
   have O6:NOk pool z.toNat r hs (fun g=>(T6 g).ns):=by
    rw [e6]
    exact NOk.meets ac (aa h hh) (fun y hy=>by
     have:=zic (gy hy)
     exact ⟨aa y (b y this.1),this.2⟩) hO
   have am:∀ g∈hs,∀ k,((T6 g).ns k).length<=1000:=fun g hg k=>by
    have:(((T6 g).ns k).length:Int)<=r:=O6.le g hg k
    omega
   obtain ⟨av,an⟩:=W6.ob
   kt_k
   intro H7 T7 W7 A7 e7 d7 af
   refine ⟨⟨_,T7,rfl,W7,A7,?_,d6.trans d7,af⟩⟩
   rw [e7,e6,zgn hx,zgz]
  ·rintro σ H6 ⟨v,T6,rfl,W6,A6,e6,d6,p⟩
   rw [d9,gj] at e6
   kt_k
   refine k D ks H6 T6 u f W6 A6 e6 ((zeh.same m).trans d6) p n (fun y=>?_) (d6.k _ _ (fun _ z=>nomatch z) c nD)
   rcases d6.o D y with y | y
   ·exact nD y
   ·rw [c] at y
    cases y
theorem zjl:zaj ["self","name","door","visited"] ["self","name","door"] (zah (zai (top 39) 11)):=fS
def zxb (N:Int->Nat->List Int)(i:Int):Int->Nat->List Int:=zgc N i (fun _=>[])
def zz2 (CB CT CW T1:Addr):Sp:=fun vs H Q _=>∀ CC:Prop,(∀ (w td sd:Addr) (z r:Int) (hs sil pool:List Int) (T:Int->zbv) (i:Int) (dv:V),vs=[.ref w,.int i,dv]->zam CB CT CW H w td sd z r hs sil T->zck z.toNat hs T->0<=i->i<2 ^ z.toNat->i∉hs->hs.length<60->NOk pool z.toNat r hs (fun g=>(T g).ns)->pool.length<64->((∀ x∈hs,x∈pool))->i∈pool->((dv = .non\/∃ d,dv = .int d/\d∈hs/\d∉sil))->Tab H T1 (za7 zea) quH->(∀ (l:Addr) (vis:List Int) (H':Hp) (T':Int->zbv),(dv = .non->vis=[])->(∀ d,dv = .int d->∃ ks:List Int,ks.Nodup/\(∀ x,x∈ks↔Rch (zm1 z.toNat (awB (hs++[i]) sil) (zxb (fun g=>(T g).ns) i)) d x)/\vis=zht i ks)->zam CB CT CW H' w td sd z r (hs++[i]) sil T'->zck z.toNat (hs++[i]) T'->(fun g=>(T' g).ns)=zcm r (awB (hs++[i]) sil) (zxb (fun g=>(T g).ns) i) i vis->zeh T1 H H' (Own td sd z.toNat hs T) (Own td sd z.toNat (hs++[i]) T')->Tab H' T1 (za7 zea) quH->H l=none->¬ Own td sd z.toNat (hs++[i]) T' l->H' l=some (.lst (vis.map V.int))->Q (.ref l) H')->CC)->CC
theorem zji (Z:ZZ P w K mg base):zyx Z 12 Z.ce (zz2 Z.ba.C Z.bb.C Z.bc.C Z.b8.P):=by
 have bz:=Z.bc.cl
 obtain ⟨b6,bu,bv,b9,-⟩:=Z.bc.na
 have a8:=zns Z
 have a2:=zc7 (CB:=Z.ba.C) (CT:=Z.bb.C) Z
 have a3:=zcs (CB:=Z.ba.C) (CT:=Z.bb.C) Z
 have a6:=zbd (CB:=Z.ba.C) (CT:=Z.bb.C) Z
 have a5:=zeu Z
 have bn:zc_ P w K mg base CX0 1 _ _ _ _:=zgm Z.cd
 refine Z.ce.ok zjl (by kd_p) (fun cdv A outer s H vs Q E hr a9=>?_)
 refine a9 _ fun w td sd z r hs sil pool TT i dv ay hW hA h0 h1 ai bt hO b2 bp az bg bo k=>?_
 subst ay
 obtain ⟨⟨dx,be⟩,ap,bf,av,bm,bi,ao,a7,bd,a1,b1,aq⟩:=id hW
 have hn:zdr z i=true:=zej h0 h1 ao
 have au:∀ (t c:Addr),H t=none->H c=none->c≠t->∀ (bl:Addr) (bA lA:Nat->Addr) (H1:Hp),zdm Z.ba.C Z.bb.C H1 t bl i z r z.toNat bA lA (fun _=>[])->upd (upd H c (.own t)) t (.ins Z.bb.C c []) bl=none ->
   (∀ k,k<z.toNat->upd (upd H c (.own t)) t (.ins Z.bb.C c []) (bA k)=none/\upd (upd H c (.own t)) t (.ins Z.bb.C c []) (lA k)=none)->ztg t (upd (upd H c (.own t)) t (.ins Z.bb.C c [])) H1 ->
   ∃ (H2:Hp) (T2:Int->zbv),H2=upd H1 td (.dK (zec (zcv hs TT) (Sum.inl i) (V.ref t)))/\H1 td=some (.dK (zcv hs TT))/\H1 w=some (.ins Z.bc.C dx (wF z r td sd))/\zam Z.ba.C Z.bb.C Z.bc.C H2 w td sd z r (hs++[i]) sil T2/\zck z.toNat (hs++[i]) T2/\(fun g=>(T2 g).ns)=zxb (fun g=>(TT g).ns) i/\zeh Z.b8.P H H2 (Own td sd z.toNat hs TT) (Own td sd z.toNat (hs++[i]) T2)/\Tab H2 Z.b8.P (za7 zea) quH:=fun t c ht ac aj bl bA lA H1 aa ad u ae=>by
  have s1:zax H H1:=fun q o e=>ae q o (by rw [zac (zag e ht),zac (zag e ac)]; exact e) (zag e ht)
  have ak:∀ {q:Addr},upd (upd H c (.own t)) t (.ins Z.bb.C c []) q=none->H q=none:=fun {q} e=>by
   cases eq:H q with
   | none=>rfl
   | some o =>
    rw [zac (zag eq ht),zac (zag eq ac),eq] at e
    cases e
  have f:=s1 _ _ ap
  have ab:=s1 _ _ be
  have bw:w≠td:=zdv ab f (by intro z; cases z)
  let T2:Int->zbv:=zgc TT i ⟨t,bl,bA,lA,fun _=>[]⟩
  have eT:∀ h∈hs,T2 h=TT h:=fun h hh=>zay (fun e=>ai (by rw [<- e]; exact hh))
  have v:T2 i=⟨t,bl,bA,lA,fun _=>[]⟩:=zal
  have fr:∀ q o,(∀ ps,o≠ .tbl ps)->(∀ d,o≠ .dK d)->H1 q=some o->upd H1 td (.dK (zec (zcv hs TT) (Sum.inl i) (V.ref t))) q=some o:=fun q o _ hd e=>by
   rw [zac (fun y=>by rw [y,f] at e; exact hd _ (Option.some.inj e).symm)]
   exact e
  have mem:∀ {h:Int},h∈hs++[i]->h∈hs/\T2 h=TT h\/h=i:=fun {h} hh=>by
   rcases fj.mp hh with m | m
   ·exact .inl ⟨m,eT h m⟩
   ·exact .inr (fc.mp m)
  have af:∀ h∈hs,∀ j,j<z.toNat->(∃ o,H ((TT h).bA j)=some o)/\(∃ o,H ((TT h).lA j)=some o):=fun h hh j hj=>⟨hW.ex (.inr (.inr ⟨h,hh,.inr ⟨j,hj,.inl rfl⟩⟩)),hW.ex (.inr (.inr ⟨h,hh,.inr ⟨j,hj,.inr rfl⟩⟩))⟩
  have nb:∀ k,k<z.toNat->H (bA k)=none/\H (lA k)=none:=fun k hk=>⟨ak (u k hk).1,ak (u k hk).2⟩
  refine ⟨_,T2,rfl,f,ab,⟨⟨dx,?_⟩,?_,?_,fun h hh=>?_,zbx bm ai,fun h hh=>?_,ao,a7,bd,a1,?_,aq⟩,⟨?_,?_,?_⟩,?_,⟨?_,?_,?_,fun q ps e _=>by
   rw [zac (fun y=>by rw [y,ap] at e; cases e)]
   exact s1 _ _ e⟩,?_⟩
  ·exact fr _ _ (fun _ z=>nomatch z) (fun _ z=>nomatch z) ab
  ·rw [zad,zj_ _ (by rw [zcd,if_neg ai])]
   unfold zcv
   rw [gm]
   congr 2
   congr 1
   ·exact ik fun h hh=>by rw [eT h hh]
   ·show [(Sum.inl i,V.ref t)]=[(Sum.inl i,V.ref (T2 i).t)]
    rw [v]
  ·rw [zac aq.symm]
   exact s1 _ _ bf
  ·rcases mem hh with ⟨m,e⟩ | rfl
   ·rw [e]
    exact (((av h m).same s1).keepD fr)
   ·rw [v]
    exact aa.keepD fr
  ·rcases fj.mp hh with m | m
   ·exact bi h m
   ·rw [fc.mp m]
    exact ⟨h0,h1⟩
  ·rw [fe,fu]
   omega
  ·intro h hh g hg p a b ha hb
   rcases mem hh with ⟨m1,e1⟩ | rfl <;> rcases mem hg with ⟨m2,e2⟩ | rfl
   ·rw [e1,e2]
    exact hA.b h m1 g m2 p a b ha hb
   ·rw [e1,v]
    obtain ⟨o,eo⟩:=(af h m1 a ha).1
    exact zag eo (nb b hb).1
   ·rw [e2,v]
    obtain ⟨o,eo⟩:=(af g m2 b hb).1
    exact (zag eo (nb a ha).1).symm
   ·exact absurd rfl p
  ·intro h hh g hg p a b ha hb
   rcases mem hh with ⟨m1,e1⟩ | rfl <;> rcases mem hg with ⟨m2,e2⟩ | rfl
   ·rw [e1,e2]
    exact hA.l h m1 g m2 p a b ha hb
   ·rw [e1,v]
    obtain ⟨o,eo⟩:=(af h m1 a ha).2
    exact zag eo (nb b hb).2
   ·rw [e2,v]
    obtain ⟨o,eo⟩:=(af g m2 b hb).2
    exact (zag eo (nb a ha).2).symm
   ·exact absurd rfl p
  ·intro h hh g hg p b hb
   rcases mem hh with ⟨m1,e1⟩ | rfl <;> rcases mem hg with ⟨m2,e2⟩ | rfl
   ·rw [e1,e2]
    exact hA.n h m1 g m2 p b hb
   ·rw [e1,v]
    exact zag (av h m1).li (nb b hb).2
   ·rw [e2,v]
    obtain ⟨o,eo⟩:=(af g m2 b hb).2
    exact (zag eo (ak ad)).symm
   ·exact absurd rfl p
  ·funext g
   show (zgc TT i ⟨t,bl,bA,lA,fun _=>[]⟩ g).ns=zgc (fun g=>(TT g).ns) i (fun _=>[]) g
   by_cases e:g=i
   ·subst e
    rw [zal,zal]
   ·rw [zay e,zay e]
  ·intro q o ho e bj
   rw [zac (fun y=>bj (.inl y))]
   exact s1 _ _ e
  ·intro q hq
   rcases hq with y | y | ⟨h,hh,y⟩
   ·exact .inl (.inl y)
   ·exact .inl (.inr (.inl y))
   ·rcases mem hh with ⟨m,e⟩ | rfl
    ·rw [e] at y
     exact .inl (.inr (.inr ⟨h,m,y⟩))
    ·rw [v] at y
     rcases y with rfl | ⟨j,hj,rfl | rfl⟩
     ·exact .inr (ak ad)
     ·exact .inr (nb j hj).1
     ·exact .inr (nb j hj).2
  ·intro q hq
   by_cases e:q=td
   ·rw [e,zad] at hq
    cases hq
   ·rw [zac e] at hq
    exact s1.free hq
  ·have ar:Tab H1 Z.b8.P (za7 zea) quH:=(s1.but _).2 _ _ bo
   refine Tab.hold ar fun q o ho e=>?_
   rw [zac (fun y=>?_)]
   ·exact e
   ·rw [y,f] at e
    cases e
    rcases ho with ⟨x,kk,e2⟩ | e2
    ·cases e2
    ·obtain ⟨ps,hP,_⟩:=ar
     rw [<- e2,y,f] at hP
     cases hP
 have an:(zcv hs TT).length<sizeLine:=by
  unfold zcv
  rw [d9]
  exact zau (by omega)
 refine ⟨_,(zae (zap (pmD (pv 0) Z.bc.cl Z.bx a2 hr (zaa (pv 1) zab)))
  (zae (zbn (zb_ (pmD (pv 0) Z.bc.cl Z.bs a3 hr (zaa (pv 1) zab)))
   (zaf (zds (W:=fun _=>False) Z.cc rfl rfl (zaa zd0 zab) (fun _ _ _ _ _ _ _ _ _ hw=>hw.elim)))
   za6)
  (zae (zbn (zan znk (pv 2) zdn (za5 _))
   (zaf (zap (pmD (pv 0) Z.bc.cl Z.b0 a6 hr (zaa (pv 2) zab))))
   za6)
  (zae (zix (zfm hr) (za9 (pv 0) rfl) (pv 1) (zpy (DfM.mk' Z.bb Z.bl) a8 hr.mm rfl Z.bb.hm Z.bl.b .nil zbw (zaa (pv 1) (zaa (za9 (pv 0) rfl) (zaa (za9 (pv 0) rfl) zab)))) rfl)
  (zae (za2 (i:=3) zjl.nd rfl oL (zj4 (zan zrq (pv 2) zdn (za5 _)) (zb0 zab) (pmD (pv 0) Z.bc.cl Z.cb a5 hr (zaa (pv 1) (zaa (pv 2) zab)))))
  (zae (zap (pmD (pv 0) Z.bc.cl Z.cd bn hr (zaa (pv 1) (zaa (pv 3) zab))))
  (zaf (zar (pv 3))))))))),?_⟩
 kt_k
 refine .inl ⟨i,rfl,?_⟩
 rw [hn,decide_eq_false ai]
 rcases bg with rfl | ⟨d,rfl,hd,b4⟩
 ·kt_k
  intro t c ht ac aj
  kt_k
  intro bl bA lA H1 aa ad u ae
  obtain ⟨H2,T2,rfl,f,ab,W2,A2,e2,d2,al⟩:=au t c ht ac aj bl bA lA H1 aa ad u ae
  have ag:zpc H1 td (V.int i) (V.ref t) (upd H1 td (.dK (zec (zcv hs TT) (Sum.inl i) (V.ref t)))):=zpc.k (k:=Sum.inl i) f an
  generalize upd H1 td (.dK (zec (zcv hs TT) (Sum.inl i) (V.ref t)))=H2 at ag W2 d2 al |-
  kt_k
  intro l hl
  have s3:zax H2 (upd H2 l (.lst [])):=zax.new H2 hl
  have ah:upd H2 l (.lst []) l=some (.lst []):=zad
  generalize upd H2 l (.lst [])=H3 at s3 ah |-
  have W3:zam Z.ba.C Z.bb.C Z.bc.C H3 w td sd z r (hs++[i]) sil T2:=W2.keep fun q o _ e=>s3 _ _ e
  obtain ⟨bh,aw⟩:=W3.ob
  kt_k
  exact k l [] H3 T2 (fun _=>rfl) (fun d y=>(nomatch y)) W3 A2 e2 (d2.trans (zeh.same s3)) ((s3.but _).2 _ _ al) (d2.e _ hl) (W2.notOwn hl) ah
 ·kt_k
  intro t c ht ac aj
  kt_k
  intro bl bA lA H1 aa ad u ae
  obtain ⟨H2,T2,rfl,f,ab,W2,A2,e2,d2,al⟩:=au t c ht ac aj bl bA lA H1 aa ad u ae
  have ag:zpc H1 td (V.int i) (V.ref t) (upd H1 td (.dK (zec (zcv hs TT) (Sum.inl i) (V.ref t)))):=zpc.k (k:=Sum.inl i) f an
  generalize upd H1 td (.dK (zec (zcv hs TT) (Sum.inl i) (V.ref t)))=H2 at ag W2 d2 al |-
  have O2:NOk pool z.toNat r (hs++[i]) (fun g=>(T2 g).ns):=by
   rw [e2]
   unfold zxb
   refine ⟨fun h hh k=>?_,fun h hh k=>?_,fun h hh k m hm=>?_⟩
   ·by_cases e:h=i
    ·rw [e,zal]
     exact je
    ·rw [zay e]
     exact hO.nd h ((fj.mp hh).elim id fun y=>absurd (fc.mp y) e) k
   ·by_cases e:h=i
    ·rw [e,zal]
     simp only [jk]
     omega
    ·rw [zay e]
     exact hO.le h ((fj.mp hh).elim id fun y=>absurd (fc.mp y) e) k
   ·by_cases e:h=i
    ·rw [e,zal] at hm
     cases hm
    ·rw [zay e] at hm
     exact hO.st h ((fj.mp hh).elim id fun y=>absurd (fc.mp y) e) k m hm
  have br:∀ x∈hs++[i],x∈pool:=fun x hx=>(fj.mp hx).elim (bp x) fun y=>fc.mp y ▸ az
  have b7:i∈hs++[i]:=fh _ (fc.mpr rfl)
  have b5:d∈hs++[i]:=gb _ hd
  obtain ⟨b3,bq⟩:=W2.ob
  kt_k
  intro l ks H3 T3 ax am W3 A3 e3 d3 a4 hl a0 ah
  obtain ⟨bh,aw⟩:=W3.ob
  rw [e2] at am e3
  kt_k
  exact k l (zht i ks) H3 T3 (fun y=>(nomatch y)) (fun d' y=>⟨ks,ax,by cases y; exact am,rfl⟩) W3 A3 e3 (d2.trans d3) a4 (d2.e _ hl) a0 ah
def zjb (h:Int)(l:List Int):List Int:=l.filter fun x=> !decide (x=h)
def zzf (h:Int)(l:List Int):List Int:=if h∈l then l else l++[h]
theorem zem {h x:Int}{l:List Int}:x∈zjb h l↔x∈l/\x≠h:=by
 unfold zjb
 rw [gr]
 simp
theorem zfc {h:Int}{l:List Int}(hn:l.Nodup):(zjb h l).Nodup:=hn.filter _
theorem zt1 {h:Int}{l:List Int}:(zjb h l).length<=l.length:=gn _ _
theorem z0i {h:Int}{l:List Int}(hh:h∉l):zjb h l=l:=by
 unfold zjb
 refine List.filter_eq_self.mpr fun x hx=>?_
 rw [decide_eq_false (fun (e:x=h)=>hh (by rw [<- e]; exact hx))]
 rfl
theorem zu3 {h:Int}{hs:List Int}{T:Int->zbv}:zeb (zcv hs T) (Sum.inl h)=zcv (zjb h hs) T:=by
 unfold zeb zcv zjb
 rw [List.filter_map]
 congr 1
 refine j8 fun x _=>?_
 show decide ((Sum.inl x:Key)≠Sum.inl h) = !decide (x=h)
 by_cases e:x=h
 ·subst e
  simp
 ·rw [decide_eq_false e]
  simp [e]
theorem zrk {h:Int}{sil:List Int}:zeb (zfa sil) (Sum.inl h)=zfa (zjb h sil):=by
 unfold zeb zfa zjb
 rw [List.filter_map]
 congr 1
 refine j8 fun x _=>?_
 show decide ((Sum.inl x:Key)≠Sum.inl h) = !decide (x=h)
 by_cases e:x=h
 ·subst e
  simp
 ·rw [decide_eq_false e]
  simp [e]
theorem z1q {h:Int}{sil:List Int}:zec (zfa sil) (Sum.inl h) (V.bl true)=zfa (zzf h sil):=by
 unfold zzf
 by_cases e:h∈sil
 ·rw [if_pos e]
  unfold zec
  rw [if_pos (by rw [zg3,zg8,decide_eq_true e])]
  unfold zfa
  rw [l4]
  refine ik fun x _=>?_
  show (if (Sum.inl x:Key)=Sum.inl h then ((Sum.inl x:Key),V.bl true) else ((Sum.inl x:Key),V.bl true))=_
  split <;> rfl
 ·rw [if_neg e]
  exact zr2 e
section
variable {CB CT CW w td sd:Addr} {H H':Hp} {z r:Int} {hs sil:List Int} {T:Int->zbv}
theorem zam.dicts (W:zam CB CT CW H w td sd z r hs sil T){hs' sil':List Int}(k:∀ q o,H q=some o->q≠td->q≠sd->H' q=some o)(e1:H' td=some (.dK (zcv hs' T)))(e2:H' sd=some (.dK (zfa sil')))(hn:hs'.Nodup)(hm:∀ x∈hs',x∈hs)(hl:hs'.length<=60):zam CB CT CW H' w td sd z r hs' sil' T:=by
 obtain ⟨⟨dx,h1⟩,h2,h3,h4,h5,h6,h7,h8,h9,a,c,b⟩:=W
 have up:∀ q o,(∀ d,o≠ .dK d)->H q=some o->H' q=some o:=fun q o hd e=>k q o e (fun y=>by rw [y,h2] at e; exact hd _ (Option.some.inj e).symm) (fun y=>by rw [y,h3] at e; exact hd _ (Option.some.inj e).symm)
 exact ⟨⟨dx,up _ _ (fun _ z=>nomatch z) h1⟩,e1,e2,fun h hh=>(h4 h (hm h hh)).keepD fun q o _ hd e=>up q o hd e,hn,fun h hh=>h6 h (hm h hh),h7,h8,h9,a,hl,b⟩
theorem zck.sub {n:Nat}{hs':List Int}(A:zck n hs T)(hm:∀ x∈hs',x∈hs):zck n hs' T:=⟨fun h hh g hg=>A.b h (hm h hh) g (hm g hg),fun h hh g hg=>A.l h (hm h hh) g (hm g hg),fun h hh g hg=>A.n h (hm h hh) g (hm g hg)⟩
theorem NOk.sub {pool:List Int}{n:Nat}{hs':List Int}{N:Int->Nat->List Int}(O:NOk pool n r hs N)(hm:∀ x∈hs',x∈hs):NOk pool n r hs' N:=⟨fun h hh=>O.nd h (hm h hh),fun h hh=>O.le h (hm h hh),fun h hh=>O.st h (hm h hh)⟩
theorem zeh.dicts {T1:Addr}(W:zam CB CT CW H w td sd z r hs sil T){hs':List Int}(k:∀ q o,H q=some o->q≠td->q≠sd->H' q=some o)(x1:∃ o,H' td=some o)(x2:∃ o,H' sd=some o)(hm:∀ x∈hs',x∈hs):zeh T1 H H' (Own td sd z.toNat hs T) (Own td sd z.toNat hs' T):=by
 refine ⟨fun q o _ e hn=>k q o e (fun y=>hn (.inl y)) (fun y=>hn (.inr (.inl y))),fun q hq=>?_,fun q hq=>?_,fun q ps e _=>k q _ e (fun y=>by rw [y,W.tb] at e; cases e) (fun y=>by rw [y,W.si] at e; cases e)⟩
 ·rcases hq with y | y | ⟨g,hg,y⟩
  ·exact .inl (.inl y)
  ·exact .inl (.inr (.inl y))
  ·exact .inl (.inr (.inr ⟨g,hm g hg,y⟩))
 ·cases e:H q with
  | none=>rfl
  | some o =>
   exfalso
   by_cases y1:q=td
   ·obtain ⟨o1,e1⟩:=x1
    rw [y1,e1] at hq
    cases hq
   ·by_cases y2:q=sd
    ·obtain ⟨o1,e1⟩:=x2
     rw [y2,e1] at hq
     cases hq
    ·rw [k q o e y1 y2] at hq
     cases hq
theorem Tab.dicts {T1:Addr}{po:Pos}{qu:Str}(W:zam CB CT CW H w td sd z r hs sil T)(t:Tab H T1 po qu)(k:∀ q o,H q=some o->q≠td->q≠sd->H' q=some o):Tab H' T1 po qu:=Tab.hold t fun q o ho e=>by
 have key:∀ d,o≠ .dK d:=fun d y=>by
  subst y
  rcases ho with ⟨x,kk,e2⟩ | e2
  ·cases e2
  ·obtain ⟨ps,hP,_⟩:=t
   rw [<- e2,e] at hP
   cases hP
 exact k q o e (fun y=>by rw [y,W.tb] at e; exact key _ (Option.some.inj e).symm) (fun y=>by rw [y,W.si] at e; exact key _ (Option.some.inj e).symm)
end
def zys:Sp:=fun vs H Q _=>∃ a b:V,vs=[a,b]/\Q .non H
theorem zlp:zaj ["self","house"] ["self","house"] (zah (zai (top 39) 20)):=fS
theorem zl8 {CW:Addr}(D:DfM K CW "leaves" "Town.leaves" (zai (top 39) 20) ["self","house"]):zc_ P w K mg base CX0 1 D.f D.fd ["self","house"] zys:=by
 refine D.fn.ok zlp (by kd_p) (fun cdv A outer s H vs Q E hr h=>?_)
 obtain ⟨a,b,rfl,k⟩:=h
 exact ⟨_,(zaf zus),k⟩
theorem zoo:zaj ["self","house"] ["self","house"] (zah (zai (top 39) 13)):=fS
def z2c (CB CT CW:Addr):Sp:=fun vs H Q _=>∀ CC:Prop,(∀ (w td sd:Addr) (z r:Int) (hs sil:List Int) (T:Int->zbv) (i:Int),vs=[.ref w,.int i]->zam CB CT CW H w td sd z r hs sil T->i∈hs->sil.length<=900->(∀ (H':Hp),zam CB CT CW H' w td sd z r hs (zzf i sil) T->(∀ q o,H q=some o->q≠td->q≠sd->H' q=some o)->Q .non H')->CC)->CC
theorem zpf (Z:ZZ P w K mg base){CB CT:Addr}:zco Z 5 Z.cf (z2c CB CT Z.bc.C):=by
 have m:=Z.bc.cl
 obtain ⟨t,l,j,u,-⟩:=Z.bc.na
 have b:=zbm (CB:=CB) (CT:=CT) Z
 refine Z.cf.fn.ok zoo (by kd_p) (fun cdv A outer s H vs Q E hr c=>?_)
 refine c _ fun w td sd z r hs sil TT i d hW hi n k=>?_
 subst d
 obtain ⟨⟨dx,p⟩,f,g,-⟩:=id hW
 have a:(zfa sil).length<sizeLine:=by
  unfold zfa
  rw [d9]
  exact zau (by omega)
 have h:zpc H sd (V.int i) (V.bl true) (upd H sd (.dK (zec (zfa sil) (Sum.inl i) (V.bl true)))):=zpc.k (k:=Sum.inl i) g a
 have kk:∀ q o,H q=some o->q≠td->q≠sd->upd H sd (.dK (zec (zfa sil) (Sum.inl i) (V.bl true))) q=some o:=fun q o e _ y=>by rw [zac y]; exact e
 have hk:=k _ (hW.dicts kk (by rw [zac hW.ts]; exact f) (by rw [zad,z1q]) hW.nd (fun x hx=>hx) hW.ln) kk
 refine ⟨_,(zae (zap (pmD (pv 0) Z.bc.cl Z.bv b hr (zaa (pv 1) zab)))
  (zaf (zix (zfm hr) (za9 (pv 0) rfl) (pv 1) zfw rfl))),?_⟩
 kt_k
theorem zsb:zaj ["self","house"] ["self","house"] (zah (zai (top 39) 12)):=fS
def z57 (CB CT CW:Addr):Sp:=fun vs H Q _=>∀ CC:Prop,(∀ (w td sd:Addr) (z r:Int) (hs sil:List Int) (T:Int->zbv) (i:Int),vs=[.ref w,.int i]->zam CB CT CW H w td sd z r hs sil T->i∈hs->(∀ (H':Hp),zam CB CT CW H' w td sd z r (zjb i hs) (zjb i sil) T->(∀ q o,H q=some o->q≠td->q≠sd->H' q=some o)->Q .non H')->CC)->CC
theorem zs3 (Z:ZZ P w K mg base){CB CT:Addr}:zco Z 5 Z.ch (z57 CB CT Z.bc.C):=by
 have ac:=Z.bc.cl
 obtain ⟨ad,ab,aa,ae,-⟩:=Z.bc.na
 have g:=zbm (CB:=CB) (CT:=CT) Z
 have h:zc_ P w K mg base CX0 1 _ _ _ _:=zl8 Z.cg
 refine Z.ch.fn.ok zsb (by kd_p) (fun cdv A outer s H vs Q E hr j=>?_)
 refine j _ fun w td sd z r hs sil TT i l hW hi k=>?_
 subst l
 obtain ⟨⟨dx,f⟩,d,n,-⟩:=id hW
 have m:zee (zcv hs TT) (Sum.inl i)=some (V.ref (TT i).t):=by rw [zcd,if_pos hi]
 refine ⟨_,(zae (zap (pmD (pv 0) Z.bc.cl Z.bv g hr (zaa (pv 1) zab)))
  (zae (zap (zr0 (za9 (pv 0) rfl) (pv 1) ⟨rfl,rfl,rfl,rfl⟩))
  (zae (zap (zxo (za9 (pv 0) rfl) (pv 1) zdn ⟨rfl,rfl,rfl,rfl⟩))
  (zaf (zap (pmD (pv 0) Z.bc.cl Z.cg h hr (zaa (pv 1) zab))))))),?_⟩
 kt_k
 refine ⟨.inl ⟨_,.inl d⟩,_,rfl,_,Sum.inl i,_,d,rfl,m,?_⟩
 have nw:w≠td:=zdv f d (by intro z; cases z)
 have c:upd H td (.dK (zeb (zcv hs TT) (Sum.inl i))) w=some (.ins Z.bc.C dx (wF z r td sd)):=by rw [zac nw]; exact f
 have a:upd H td (.dK (zeb (zcv hs TT) (Sum.inl i))) sd=some (.dK (zfa sil)):=by rw [zac hW.ts.symm]; exact n
 have b:upd H td (.dK (zeb (zcv hs TT) (Sum.inl i))) td=some (.dK (zcv (zjb i hs) TT)):=by rw [zad,zu3]
 have k1:∀ q o,H q=some o->q≠td->upd H td (.dK (zeb (zcv hs TT) (Sum.inl i))) q=some o:=fun q o e y=>by rw [zac y]; exact e
 generalize upd H td (.dK (zeb (zcv hs TT) (Sum.inl i)))=H1 at c a b k1 |-
 kt_k
 refine ⟨.inl ⟨_,.inl a⟩,_,rfl,_,Sum.inl i,a,rfl,fun v hv=>?_,fun hv=>?_⟩
 ·have k2:∀ q o,H q=some o->q≠td->q≠sd->upd H1 sd (.dK (zeb (zfa sil) (Sum.inl i))) q=some o:=fun q o e y1 y2=>by rw [zac y2]; exact k1 q o e y1
  have hk:=k _ (hW.dicts k2 (by rw [zac hW.ts]; exact b) (by rw [zad,zrk]) (zfc hW.nd) (fun x hx=>(zem.mp hx).1) (gf zt1 hW.ln)) k2
  have u:upd H1 sd (.dK (zeb (zfa sil) (Sum.inl i))) w=some (.ins Z.bc.C dx (wF z r td sd)):=by rw [zac (zdv c a (by intro z; cases z))]; exact c
  kt_k
 ·have p:i∉sil:=fun y=>by
   have:=zg8 (sil:=sil) (i:=i)
   rw [hv,decide_eq_true y] at this
   cases this
  have hk:=k H1 (hW.dicts (fun q o e y1 _=>k1 q o e y1) b (by rw [z0i p]; exact a) (zfc hW.nd) (fun x hx=>(zem.mp hx).1) (gf zt1 hW.ln)) (fun q o e y1 _=>k1 q o e y1)
  kt_k
theorem zje:zaj ["self","house","door","visited"] ["self","house","door"] (zah (zai (top 39) 14)):=fS
def z2w (CB CT CW T1:Addr):Sp:=fun vs H Q _=>∀ CC:Prop,(∀ (w td sd:Addr) (z r:Int) (hs sil pool:List Int) (T:Int->zbv) (h d:Int),vs=[.ref w,.int h,.int d]->zam CB CT CW H w td sd z r hs sil T->zck z.toNat hs T->h∈hs->h∈sil->d∈hs->d∉sil->NOk pool z.toNat r hs (fun g=>(T g).ns)->pool.length<64->((∀ x∈hs,x∈pool))->Tab H T1 (za7 zea) quH->(∀ (l:Addr) (ks:List Int) (H':Hp) (T':Int->zbv),ks.Nodup->(∀ x,x∈ks↔Rch (zm1 z.toNat (awB hs (zjb h sil)) (fun g=>(T g).ns)) d x)->zam CB CT CW H' w td sd z r hs (zjb h sil) T'->zck z.toNat hs T'->(fun g=>(T' g).ns)=zcm r (awB hs (zjb h sil)) (fun g=>(T g).ns) h (zht h ks)->zeh T1 H H' (Own td sd z.toNat hs T) (Own td sd z.toNat hs T')->Tab H' T1 (za7 zea) quH->H l=none->¬ Own td sd z.toNat hs T' l->H' l=some (.lst ((zht h ks).map V.int))->Q (.ref l) H')->CC)->CC
theorem zph (Z:ZZ P w K mg base):zco Z 12 Z.ci (z2w Z.ba.C Z.bb.C Z.bc.C Z.b8.P):=by
 have aq:=Z.bc.cl
 obtain ⟨an,al,ap,au,-⟩:=Z.bc.na
 have aa:=zbg (CB:=Z.ba.C) (CT:=Z.bb.C) Z
 have f:=zbm (CB:=Z.ba.C) (CT:=Z.bb.C) Z
 have ag:=zbd (CB:=Z.ba.C) (CT:=Z.bb.C) Z
 have af:=zeu Z
 have ac:zc_ P w K mg base CX0 1 _ _ _ _:=zgm Z.cd
 refine Z.ci.fn.ok zje (by kd_p) (fun cdv A outer s H vs Q E hr j=>?_)
 refine j _ fun w td sd z r hs sil pool TT h d m hW hA hh b hd g hO ar av hT k=>?_
 subst m
 obtain ⟨⟨dx,am⟩,p,a,-⟩:=id hW
 have hn:zdr z h=true:=zej (hW.hb h hh).1 (hW.hb h hh).2 hW.z1
 refine ⟨_,(zae (zap (pmD (pv 0) Z.bc.cl Z.bv f hr (zaa (pv 1) zab)))
  (zae (zbn (zb_ (pmD (pv 0) Z.bc.cl Z.bt aa hr (zaa (pv 1) zab)))
   (zaf (zds (W:=fun _=>False) Z.cc rfl rfl (zaa zd0 zab) (fun _ _ _ _ _ _ _ _ _ hw=>hw.elim)))
   za6)
  (zae (zap (pmD (pv 0) Z.bc.cl Z.b0 ag hr (zaa (pv 2) zab)))
  (zae (zap (zr0 (za9 (pv 0) rfl) (pv 1) ⟨rfl,rfl,rfl,rfl⟩))
  (zae (za2 (i:=3) zje.nd rfl oL (pmD (pv 0) Z.bc.cl Z.cb af hr (zaa (pv 1) (zaa (pv 2) zab))))
  (zae (zap (pmD (pv 0) Z.bc.cl Z.cd ac hr (zaa (pv 1) (zaa (pv 3) zab))))
  (zaf (zar (pv 3))))))))),?_⟩
 kt_k
 refine .inl ⟨h,rfl,?_⟩
 rw [hn,decide_eq_true hh,decide_eq_true b]
 obtain ⟨vv,ad⟩:∃ v,zee (zfa sil) (Sum.inl h)=some v:=by
  have:=zg8 (sil:=sil) (i:=h)
  rw [decide_eq_true b] at this
  exact js.mp this
 kt_k
 refine ⟨.inl ⟨_,.inl a⟩,_,rfl,_,Sum.inl h,_,a,rfl,ad,?_⟩
 have k1:∀ q o,H q=some o->q≠td->q≠sd->upd H sd (.dK (zeb (zfa sil) (Sum.inl h))) q=some o:=fun q o e _ y=>by rw [zac y]; exact e
 have W1:zam Z.ba.C Z.bb.C Z.bc.C (upd H sd (.dK (zeb (zfa sil) (Sum.inl h)))) w td sd z r hs (zjb h sil) TT:=hW.dicts k1 (by rw [zac hW.ts]; exact p) (by rw [zad,zrk]) hW.nd (fun x hx=>hx) hW.ln
 have d1:zeh Z.b8.P H (upd H sd (.dK (zeb (zfa sil) (Sum.inl h)))) (Own td sd z.toNat hs TT) (Own td sd z.toNat hs TT):=zeh.dicts hW k1 ⟨_,W1.tb⟩ ⟨_,W1.si⟩ (fun x hx=>hx)
 have ae:Tab (upd H sd (.dK (zeb (zfa sil) (Sum.inl h)))) Z.b8.P (za7 zea) quH:=Tab.dicts hW hT k1
 generalize upd H sd (.dK (zeb (zfa sil) (Sum.inl h)))=H1 at k1 W1 d1 ae |-
 have ai:d∉zjb h sil:=fun y=>g (zem.mp y).1
 obtain ⟨ao,aj⟩:=W1.ob
 kt_k
 intro l ks H2 T2 u c W2 A2 e2 d2 ab hl n t
 obtain ⟨ak,ah⟩:=W2.ob
 kt_k
 exact k l ks H2 T2 u c W2 A2 e2 (d1.trans d2) ab (d1.e _ hl) n t
theorem zq_ (ns:List Int){m:Int}(hm:0<=m):znu (ns.map V.int) none (some m)=(ns.take m.toNat).map V.int:=by
 obtain ⟨k,rfl⟩:∃ k:Nat,m=k:=⟨m.toNat,by omega⟩
 unfold znu
 rw [HT.sIx_none,HT.sIx_nat,mf,Nat.sub_zero,d9,<- nk,ij]
 congr 1
 rcases Nat.le_total k ns.length with h | h
 ·rw [Nat.min_eq_left h]
 ·rw [Nat.min_eq_right h,gj,ii h]
def z1w (K:W.Frag)(CB CT T0:Addr):Sp:=fun vs H Q _=>∀ CC:Prop,(∀ (t bl:Addr) (own z r g many:Int) (bv:V) (n:Nat) (bA lA:Nat->Addr) (ns:Nat->List Int),vs=[.ref t,.int g,.int many,bv]->zdm CB CT H t bl own z r n bA lA ns->(zdo ns n).length<64->((∀ y∈zdo ns n,0<=y))->0<=g->0<=many->((bv = .non\/∃ b,bv = .int b))->Tab H T0 (za7 zd_) quL->(∀ (l:Addr) (H':Hp),Nx T0 H H'->H l=none->H' l=some (.lst (((zfh g ((za1 (zdo ns n)).filter fun y=> !decide (V.int y=bv))).take many.toNat).map V.int))->Q (.ref l) H')->CC)->CC
theorem zf9:zaj ["self","goal","many","but","names"] ["self","goal","many","but"] (zah (zai (top 36) 6)):=fS
theorem zjv (Z:ZZ P w K mg base):zyx Z 6 Z.cj (z1w K Z.ba.C Z.bb.C Z.bk.P):=by
 have ad:=Z.bb.cl
 have v:=z0g Z
 have o:=zey Z
 refine Z.cj.ok zf9 (by kd_p) (fun cdv A outer s H vs Q E hr f=>?_)
 refine f _ fun t bl own z r g ab bv n bA lA ns h hT d u hg c aa a k=>?_
 subst h
 obtain ⟨dx,ae⟩:=hT.ob
 refine ⟨_,(zae (zf5 (i:=4) zf9.nd rfl oL rfl (zaz (own:=["name"]) (caps:=[3]) (N':=["name","but"]) (by kernel_rfl)) (zbb (zbi (pv 0) Z.bb.cl Z.bp.me o hr.mm Z.bp.b .nil zbw)) (fun _ _ _ _ _=>(zas (i:=0) (show (["name","but"]:List Str).Nodup by decide +kernel) rfl oL)) (fun _ _ _ _ _=>(zcu (zan zw2 (pv 0) (pv 1) (za5 _)))) (fun _ _ _ _ _=>(pv 0)))
  (zaf (zar (zei zgl (zfv v hr.mm rfl Z.bk.hm Z.bk.kp Z.bk.b .nil zbw (zaa (pv 1) (zaa (pv 4) zab))) zhl (zfn (pv 2)))))),?_⟩
 kt_k
 intro m H1 hm j s1
 kt_k
 intro D hD
 refine zbo (fun y=> !decide (V.int y=bv)) hD (SqL.of j) (by rw [zbr]; omega) (fun x hx H2 Qt s2 q=>?_) fun H2 s2 ah=>?_
 ·have sc:z4z (V.int x) bv=true:=by rcases aa with rfl | ⟨b,rfl⟩ <;> rfl
  exact ⟨_,rfl,_,rfl,sc,_,rfl,q H2 (zax.refl H2)⟩
 ·have af:Tab H2 Z.bk.P (za7 zd_) quL:=((s1.trans s2).but _).2 _ _ a
  have e:((za1 (zdo ns n)).filter fun y=> !decide (V.int y=bv)).length<64:=gz (gn _ _) (by rw [zbr]; exact d)
  have ac:∀ y∈(za1 (zdo ns n)).filter fun y=> !decide (V.int y=bv),0<=y:=fun y hy=>u y ((zaw _).subset (gr.mp hy).1)
  kt_k
  intro l H3 nb p hl ag
  have N3:Nx Z.bk.P H H3:=(Nx.of a (s1.trans s2)).trans ⟨nb,p⟩
  kt_k
  rw [zq_ _ c]
  intro q hq
  exact k q _ (N3.same (zax.new H3 hq)) (N3.free hq) zad
inductive zhy (nx:Int->Option Int):Int->List Int->Prop
 | last {h:Int}:nx h=none->zhy nx h [h]
 | step {h n:Int} {l:List Int}:nx h=some n->zhy nx n l->zhy nx h (h :: l)
theorem zhy.det {nx:Int->Option Int}{h:Int}{a:List Int}(x:zhy nx h a):∀ {b:List Int},zhy nx h b->a=b:=by
 induction x with
 | last e =>
  intro b y
  cases y with
  | last _=>rfl
  | step e' _=>rw [e] at e'; cases e'
 | step e _ ih =>
  intro b y
  cases y with
  | last e'=>rw [e] at e'; cases e'
  | step e' z =>
   rw [e] at e'
   cases e'
   rw [ih z]
def cnt (pool:List Int)(g h:Int):Nat:=pool.countP fun n=>decide (Builtin.bitXor g n<Builtin.bitXor g h)
theorem z33 {pool:List Int}{g h n:Int}(hn:n∈pool)(lt:Builtin.bitXor g n<Builtin.bitXor g h):cnt pool g n<cnt pool g h:=by
 unfold cnt
 have:∀ {l:List Int},(l.countP fun m=>decide (Builtin.bitXor g m<Builtin.bitXor g n))<=l.countP fun m=>decide (Builtin.bitXor g m<Builtin.bitXor g h):=fun {l}=>List.countP_mono_left fun m _ hm=>by
  have:=of_decide_eq_true hm
  exact decide_eq_true (by omega)
 obtain ⟨l1,l2,rfl⟩:=List.append_of_mem hn
 rw [ky,ky,lu,lu]
 have e1:=this (l:=l1)
 have e2:=this (l:=l2)
 rw [if_neg (by simp),if_pos (by simpa using lt)]
 omega
theorem z2m {pool:List Int}{g h:Int}(hh:h∈pool):cnt pool g h+1<=pool.length:=by
 unfold cnt
 obtain ⟨l1,l2,rfl⟩:=List.append_of_mem hh
 rw [ky,lu,if_neg (by simp),fe,gs]
 have e1:=List.countP_le_length (p:=fun n=>decide (Builtin.bitXor g n<Builtin.bitXor g h)) (l:=l1)
 have e2:=List.countP_le_length (p:=fun n=>decide (Builtin.bitXor g n<Builtin.bitXor g h)) (l:=l2)
 omega
structure Nz (ex:Addr->Prop)(TB:Hp->Prop)(H H':Hp):Prop where
 k:∀ q o,¬ ex q->H q=some o->H' q=some o
 t:TB H'
structure TBO (T0:Addr)(ex:Addr->Prop)(TB:Hp->Prop):Prop where
 hold:∀ {H H':Hp},TB H->(∀ q o,((∃ x k,o=HO.frz x k)\/ex q)->H q=some o->H' q=some o)->TB H'
 is:∀ {H:Hp} {q:Addr},TB H->ex q->∃ ps,H q=some (.tbl ps)
 t0:∀ {H:Hp},TB H->Tab H T0 (za7 zd_) quL
 e0:ex T0
 up:∀ {H H':Hp},TB H->(∀ b o,b≠T0->H b=some o->H' b=some o)->Tab H' T0 (za7 zd_) quL->TB H'
section
variable {T0:Addr} {ex:Addr->Prop} {TB:Hp->Prop} {H H1 H2:Hp}
theorem Nz.of (B:TBO T0 ex TB)(t:TB H)(s:zax H H1):Nz ex TB H H1:=⟨fun q o _ e=>s _ _ e,B.hold t fun q o _ e=>s _ _ e⟩
theorem Nz.trans (a:Nz ex TB H H1)(b:Nz ex TB H1 H2):Nz ex TB H H2:=⟨fun q o h e=>b.k q o h (a.k q o h e),b.t⟩
theorem Nz.keep (B:TBO T0 ex TB)(t:TB H)(a:Nz ex TB H H1):∀ q o,(∀ ps,o≠ .tbl ps)->H q=some o->H1 q=some o:=fun q o ho e=>a.k q o (fun y=>by
 obtain ⟨ps,hP⟩:=B.is t y
 rw [hP] at e
 cases e
 exact ho _ rfl) e
theorem Nz.lst (B:TBO T0 ex TB)(t:TB H)(a:Nz ex TB H H1){b:Addr}{xs:List V}(e:H b=some (.lst xs)):H1 b=some (.lst xs):=a.keep B t _ _ (fun _ z=>nomatch z) e
theorem Nz.free (B:TBO T0 ex TB)(a:Nz ex TB H H1){b:Addr}(e:H1 b=none):H b=none:=by
 cases eq:H b with
 | none=>rfl
 | some o =>
  rcases Classical.em (ex b) with y | y
  ·obtain ⟨ps,hP⟩:=B.is a.t y
   rw [hP] at e
   cases e
  ·rw [a.k _ _ y eq] at e
   cases e
theorem Nz.putO (B:TBO T0 ex TB)(a:Nz ex TB H H1){b:Addr}{o u:HO}(e:H b=none)(e1:H1 b=some o)(n1:∀ ps,o≠ .tbl ps)(n2:∀ x k,o≠ .frz x k):Nz ex TB H (upd H1 b u):=by
 refine ⟨fun q o' h z=>?_,B.hold a.t fun q o' ho z=>?_⟩
 ·rw [zac (zag z e)]
  exact a.k q o' h z
 ·rw [zac (fun y=>?_)]
  ·exact z
  ·rw [y,e1] at z
   cases z
   rcases ho with ⟨x,k,z2⟩ | z2
   ·exact n2 _ _ z2
   ·obtain ⟨ps,hP⟩:=B.is a.t z2
    rw [y,e1] at hP
    exact n1 _ (Option.some.inj hP)
theorem Nz.put (B:TBO T0 ex TB)(a:Nz ex TB H H1){b:Addr}{xs ys:List V}(e:H b=none)(e1:H1 b=some (.lst xs)):Nz ex TB H (upd H1 b (.lst ys)):=a.putO B e e1 (fun _ z=>nomatch z) (fun _ _ z=>nomatch z)
theorem Nz.putD (B:TBO T0 ex TB)(a:Nz ex TB H H1){b:Addr}{xs ys:List (Key × V)}(e:H b=none)(e1:H1 b=some (.dK xs)):Nz ex TB H (upd H1 b (.dK ys)):=a.putO B e e1 (fun _ z=>nomatch z) (fun _ _ z=>nomatch z)
theorem Nz.by (B:TBO T0 ex TB)(t:TB H)(kp:∀ b o,b≠T0->H b=some o->H1 b=some o)(t':Tab H1 T0 (za7 zd_) quL):Nz ex TB H H1:=⟨fun q o h e=>kp q o (fun y=>h (y ▸ B.e0)) e,B.up t kp t'⟩
theorem zt9:TBO T0 (fun q=>q=T0) (fun H=>Tab H T0 (za7 zd_) quL):=⟨fun t h=>Tab.hold t h,fun {H q} t y=>by
 obtain ⟨ps,hP,_⟩:=t
 exact ⟨ps,by rw [y]; exact hP⟩,fun t=>t,rfl,fun _ _ t'=>t'⟩
theorem Nz.nx (a:Nz (fun q=>q=T0) (fun H=>Tab H T0 (za7 zd_) quL) H H1):Nx T0 H H1:=⟨fun b o h e=>a.k b o h e,a.t⟩
theorem Nz.ofNx (a:Nx T0 H H1):Nz (fun q=>q=T0) (fun H=>Tab H T0 (za7 zd_) quL) H H1:=⟨fun b o h e=>a.1 b o h e,a.2⟩
end
theorem zmr {p:Int->Bool}:∀ {l:List Int} {i:Nat} {n:Int},(∀ x∈l.take i,p x=false)->l[i]? = some n->p n=true->l.find? p=some n
 | [],i,n,_,h,_=>by simp at h
 | x :: r,0,n,_,h,hp=>by
  cases h
  simp [hp]
 | x :: r,i+1,n,h,hi,hp=>by
  have hx:=h x (by simp)
  have h1:=zmr (l:=r) (i:=i) (fun y hy=>h y (by simp [hy])) hi hp
  simp [hx,h1]
theorem zow {p:Int->Bool}:∀ {l:List Int},(∀ x∈l,p x=false)->l.find? p=none
 | [],_=>rfl
 | x :: r,h=>by
  have hx:=h x (by simp)
  have h1:=zow (l:=r) fun y hy=>h y (by simp [hy])
  simp [hx,h1]
theorem zb7 {ns:List Int}{i:Nat}{y:V}(h:(ns.map V.int)[i]? = some y):∃ n,ns[i]? = some n/\y=V.int n:=by
 rw [List.getElem?_map] at h
 cases e:ns[i]? with
 | none=>rw [e] at h; cases h
 | some n=>rw [e] at h; cases h; exact ⟨n,rfl,rfl⟩
def ovI:Option Int->V
 | none=> .non
 | some n=> .int n
def zog (tell:Int->Int->Option (List Int))(g h:Int):Option Int:=match (zfh g ((tell h h).getD [])).find? (fun n=>(tell n h).isSome) with
 | none=>none
 | some n=>if Builtin.bitXor g n<Builtin.bitXor g h then some n else none
structure z17 (K:W.Frag)(ex:Addr->Prop)(TB:Hp->Prop)(f:Addr)(fd:FuncData)(spA:Sp)(hs:List Int)(tell:Int->Int->Option (List Int))(g:Int)(St:Hp->Prop):Prop where
 nx:∀ H H',St H->Nz ex TB H H'->St H'
 tb:∀ H,St H->TB H
 fn:∀ H,St H->FnV K H f fd
 ca:∀ (H:Hp) (Q:VK) (i a:Int),St H->(tell i a=none->∀ H',Nz ex TB H H'->Q .non H')->(∀ xs,tell i a=some xs->∀ (l:Addr) (H':Hp),Nz ex TB H H'->H l=none->H' l=some (.lst (xs.map V.int))->Q (.ref l) H')->spA [.int i,.int g,.int a] H Q E0
 su:∀ i a xs,tell i a=some xs->xs.length<64/\∀ y∈xs,0<=y
 aw:∀ i a,(tell i a).isSome=true->i∈hs
 sa:∀ i a b,(tell i a).isSome=(tell i b).isSome
def z1m (K:W.Frag)(ex:Addr->Prop)(TB:Hp->Prop)(R:Addr->FuncData->Prop)(spA:Addr->FuncData->Sp):Sp:=fun vs H Q _=>∃ (h g:Int) (f:Addr) (fd:FuncData) (hs:List Int) (tell:Int->Int->Option (List Int)) (St:Hp->Prop),vs=[.int h,.int g,.ref f]/\z17 K ex TB f fd (spA f fd) hs tell g St/\St H/\R f fd/\(tell h h).isSome=true/\0<=g/\∀ H',Nz ex TB H H'->Q (ovI (zog tell g h)) H'
def z2e (K:W.Frag)(ex:Addr->Prop)(TB:Hp->Prop)(R:Addr->FuncData->Prop)(spA:Addr->FuncData->Sp):Sp:=fun vs H Q _=>∃ (h g:Int) (f:Addr) (fd:FuncData) (hs:List Int) (tell:Int->Int->Option (List Int)) (St:Hp->Prop),vs=[.int h,.int g,.ref f]/\z17 K ex TB f fd (spA f fd) hs tell g St/\St H/\R f fd/\(tell h h).isSome=true/\0<=g/\hs.length<=60 /\
 ∀ (l:Addr) (a:List Int) (H':Hp),Nz ex TB H H'->zhy (zog tell g) h a->H l=none->H' l=some (.lst (a.map V.int))->Q (.ref l) H'
theorem zi6:zaj ["here","goal","tells","name"] ["here","goal","tells"] (zah (top 32)):=fS
theorem zwq (Z:ZZ P w K mg base){ex:Addr->Prop}{TB:Hp->Prop}{psA:List Str}{R:Addr->FuncData->Prop}{spA:Addr->FuncData->Sp}(GA:∀ f fd,R f fd->zc_ P w K mg base CX0 8 f fd psA (spA f fd))(bA:∀ f fd,R f fd->zci K fd psA [])(B:TBO Z.bk.P ex TB):zgb Z 9 Z.ck (z1m K ex TB R spA):=by
 have ag:=zty Z
 have aj:=z0g Z
 refine Z.ck.fn.ok zi6 (by kd_p) (fun cdv A outer s H vs Q E hr h=>?_)
 obtain ⟨h,g,f,fd,hs,tell,St,rfl,W,j,hR,hh,hg,k⟩:=h
 refine ⟨_,(zae (zca PassesOwn.never rfl (zbb (zfv aj hr.mm rfl Z.bk.hm Z.bk.kp Z.bk.b .nil zbw (zaa (pv 1) (zaa (zj2 (pv 2) GA bA hr.mm (zaa (pv 0) (zaa (pv 1) (zaa (pv 0) zab)))) zab)))) (zas (i:=3) zi6.nd rfl oL)
   (zaf (zbn (zan znk (zj2 (pv 2) GA bA hr.mm (zaa (pv 3) (zaa (pv 1) (zaa (pv 0) zab)))) zdn (za5 _))
    (zaf (zar (zj4 (zb_ (pfD Z.bj ag hr rfl (zaa (pv 1) (zaa (pv 3) (zaa (pv 0) zab))))) (pv 3) zdn)))
    za6)))
  (zaf (zar zdn))),?_⟩
 obtain ⟨xs,m⟩:=js.mp hh
 refine ⟨_,rfl,_,rfl,f,fd,rfl,W.fn H j,hR,_,rfl,_,rfl,_,rfl,W.fn H j,W.ca H _ h h j (fun e=>by rw [m] at e; cases e) fun ys d l0 H1 N1 an ad=>?_⟩
 rw [m] at d
 cases d
 obtain ⟨ac,ah⟩:=W.su h h xs m
 have q:=W.nx _ _ j N1
 refine ⟨g,l0,xs,rfl,SqL.of ad,ac,hg,ah,B.t0 (W.tb _ q),fun l H2 ak ai hl ab=>?_⟩
 have ae:Nz ex TB H1 H2:=Nz.by B (W.tb _ q) ak ai
 have N2:=N1.trans ae
 have u:=W.nx _ _ q ae
 have o:(tell h h).getD []=xs:=by rw [m]; rfl
 refine ⟨l,rfl,⟨_,SqL.of ab⟩,zbs (K:=K) (a:=l) (xs:=(zfh g xs).map V.int) (fun i σ H3=>zer (∃ v3:Option V,σ=[some (.int h),some (.int g),some (.ref f),v3]/\Nz ex TB H2 H3/\∀ x∈(zfh g xs).take i,(tell x h).isSome=false))
  ⟨⟨none,rfl,Nz.of B (W.tb _ u) (zax.refl H2),fun _ z=>(nomatch z)⟩⟩ (fun i σ H3 _ ⟨_,_,N3,_⟩=>SqL.of (N3.lst B (W.tb _ u) ab)) ?_ ?_⟩
 ·rintro i y σ H3 hi ⟨v3,rfl,N3,c⟩
  obtain ⟨n,hn,rfl⟩:=zb7 hi
  have r:=W.nx _ _ u N3
  have et:(zfh g xs).take (i+1)=(zfh g xs).take i++[n]:=by rw [gq,hn]; rfl
  refine ⟨_,rfl,f,fd,rfl,W.fn _ r,hR,_,rfl,_,rfl,_,rfl,W.fn _ r,W.ca H3 _ n h r (fun e H4 t=>?_) fun ys d l1 H4 t am al=>?_⟩
  ·refine ⟨rfl,_,rfl,?_⟩
   refine zls rfl ?_
   refine ⟨⟨_,rfl,N3.trans t,fun x hx=>?_⟩⟩
   rw [et,fj,fc] at hx
   rcases hx with z | z
   ·exact c x z
   ·rw [z,e]
    rfl
  ·refine ⟨rfl,_,rfl,?_⟩
   refine zqk (fun z=>nomatch z) ?_
   have f1:=zmr (p:=fun n=>(tell n h).isSome) c hn (by rw [d]; rfl)
   have af:zog tell g h=if Builtin.bitXor g n<Builtin.bitXor g h then some n else none:=by
    unfold zog
    rw [o,f1]
   have aa:∀ v,v=ovI (zog tell g h)->Q v H4:=fun v e=>by
    rw [e]
    exact k H4 ((N2.trans N3).trans t)
   kt_k
   by_cases lt:Builtin.bitXor g n<Builtin.bitXor g h
   ·refine zlw lt ?_
    refine ⟨_,rfl,aa _ ?_⟩
    rw [af,if_pos lt]
    rfl
   ·refine ze7 lt ?_
    refine aa _ ?_
    rw [af,if_neg lt]
    rfl
 ·rintro σ H3 ⟨v3,rfl,N3,c⟩
  rw [d9,gj] at c
  have f1:=zow (p:=fun n=>(tell n h).isSome) c
  have en:ovI (zog tell g h)=V.non:=by
   unfold zog
   rw [o,f1]
   rfl
  have z:=k H3 (N2.trans N3)
  rw [en] at z
  exact z
theorem z02 {K:W.Frag}{ex:Addr->Prop}{TB:Hp->Prop}{f:Addr}{fd:FuncData}{spA:Sp}{hs:List Int}{tell:Int->Int->Option (List Int)}{g:Int}{St:Hp->Prop}(W:z17 K ex TB f fd spA hs tell g St){h q:Int}(e:zog tell g h=some q):q∈hs/\(tell q q).isSome=true/\Builtin.bitXor g q<Builtin.bitXor g h:=by
 unfold zog at e
 split at e
 ·cases e
 ·rename_i n e1
  split at e
  ·rename_i lt
   cases e
   have:=List.find?_some e1
   exact ⟨W.aw _ _ this,by rw [W.sa q q h]; exact this,lt⟩
  ·cases e
theorem zrs:zaj ["start","goal","tells","houses","here"] ["start","goal","tells"] (zah (top 30)):=fS
theorem zvk (Z:ZZ P w K mg base){ex:Addr->Prop}{TB:Hp->Prop}{psA:List Str}{R:Addr->FuncData->Prop}{spA:Addr->FuncData->Sp}(GA:∀ f fd,R f fd->zc_ P w K mg base CX0 8 f fd psA (spA f fd))(bA:∀ f fd,R f fd->zci K fd psA [])(B:TBO Z.bk.P ex TB):zgb Z 10 Z.cl (z2e K ex TB R spA):=by
 have ab:=zwq Z GA bA B
 refine Z.cl.fn.ok zrs (by kd_p) (fun cdv A outer s H vs Q E hr h=>?_)
 obtain ⟨h,g,f,fd,hs,tell,St,rfl,W,x,hR,hh,hg,ad,k⟩:=h
 have v:=W.aw h h hh
 have hT:=W.tb _ x
 refine ⟨_,(zae (za2 (i:=3) zrs.nd rfl oL (zb0 zab))
  (zae (za2 (i:=4) zrs.nd rfl oL (pv 0))
  (zae (zmw PassesOwn.never (zan znk (pv 4) zdn (za5 _))
   (zae (zap (zgv ge PySem.F.slot_list_append PySem.F.type_list_append zb4 (pv 3) (zaa (pv 4) zab)))
   (zaf (za2 (i:=4) zrs.nd rfl oL (pfD Z.ck ab hr rfl (zaa (pv 4) (zaa (pv 1) (zaa (pv 2) zab))))))))
  (zaf (zar (pv 3)))))),?_⟩
 kt_k
 intro l hl
 have s0:zax H (upd H l (.lst [])):=zax.new H hl
 kt_k
 refine ⟨fun m σ H2=>zer (∃ (o:Option Int) (pre:List Int),σ=[some (.int h),some (.int g),some (.ref f),some (.ref l),some (ovI o)]/\Nz ex TB H H2/\H2 l=some (.lst (pre.map V.int)) /\
   m=(match o with | none=>0 | some n=>cnt hs g n+1)/\pre.length+m<=60/\(∀ n,o=some n->n∈hs/\(tell n n).isSome=true/\∀ r,zhy (zog tell g) n r->zhy (zog tell g) h (pre++r))/\(o=none->zhy (zog tell g) h pre)),
  ⟨_,⟨some h,[],rfl,Nz.of B hT s0,zad,rfl,by have:=z2m (g:=g) v; simp; omega,fun n e=>by cases e; exact ⟨v,hh,fun r z=>z⟩,fun z=>nomatch z⟩⟩,?_⟩
 rintro m σ H2 ⟨o,pre,rfl,N2,a,rfl,hm,aa,hn⟩
 cases o with
 | none =>
  refine ⟨_,rfl,rfl,_,rfl,?_⟩
  refine zls rfl ?_
  refine ⟨_,rfl,k l pre H2 N2 (hn rfl) hl a⟩
 | some n =>
  obtain ⟨ae,y,p⟩:=aa n rfl
  have hm:pre.length+(cnt hs g n+1)<=60:=hm
  have hsz:(pre.map V.int).length<sizeLine:=by rw [d9]; exact zau (by omega)
  refine ⟨_,rfl,rfl,_,rfl,?_⟩
  refine zqk (fun z=>nomatch z) ?_
  refine ⟨fun σ' H'=>∃ m',m'<cnt hs g n+1/\zer (∃ (o:Option Int) (pre:List Int),σ'=[some (.int h),some (.int g),some (.ref f),some (.ref l),some (ovI o)]/\Nz ex TB H H'/\H' l=some (.lst (pre.map V.int)) /\
   m'=(match o with | none=>0 | some n=>cnt hs g n+1)/\pre.length+m'<=60/\(∀ n,o=some n->n∈hs/\(tell n n).isSome=true/\∀ r,zhy (zog tell g) n r->zhy (zog tell g) h (pre++r))/\(o=none->zhy (zog tell g) h pre)),fun _ _ z=>z,?_⟩
  have N3:Nz ex TB H (upd H2 l (.lst (pre.map V.int++[ovI (some n)]))):=N2.put B hl a
  have t:upd H2 l (.lst (pre.map V.int++[ovI (some n)])) l=some (.lst ((pre++[n]).map V.int)):=by rw [zad]; simp [ovI]
  refine ⟨_,rfl,.inl ⟨rfl,_,SqL.of a⟩,_,rfl,l,_,_,rfl,rfl,a,hsz,?_⟩
  generalize upd H2 l (.lst (pre.map V.int++[ovI (some n)]))=H3 at N3 t
  have u:=W.nx _ _ x N3
  refine ⟨_,rfl,_,rfl,_,rfl,n,g,f,fd,hs,tell,St,rfl,W,u,hR,y,hg,fun H4 b=>?_⟩
  have j:H4 l=some (.lst ((pre++[n]).map V.int)):=b.lst B (W.tb _ u) t
  cases c:zog tell g n with
  | none=>exact ⟨0,by omega,⟨none,pre++[n],rfl,N3.trans b,j,rfl,by simp; omega,⟨fun _ z=>(nomatch z),fun _=>p _ (.last c)⟩⟩⟩
  | some q =>
   obtain ⟨d,ac,lt⟩:=z02 W c
   have hc:=z33 d lt
   refine ⟨cnt hs g q+1,by omega,⟨some q,pre++[n],rfl,N3.trans b,j,rfl,by simp; omega,fun m e=>?_,fun z=>nomatch z⟩⟩
   cases e
   refine ⟨d,ac,fun r z=>?_⟩
   rw [iq]
   exact p _ (.step c z)
def zdg (z r:Int)(hs sil:List Int)(N:Int->Nat->List Int)(g i a:Int):Option (List Int):=if awB hs sil i=true then some ((zfh g ((za1 (zdo (N i) z.toNat)).filter fun y=> !decide (V.int y=V.int a))).take r.toNat) else none
def zki (z:Int)(hs:List Int)(N:Int->Nat->List Int):Prop:=∀ h∈hs,(zdo (N h) z.toNat).length<64/\∀ y∈zdo (N h) z.toNat,0<=y
def zr4 (CB CT CW T0:Addr):Sp:=fun vs H Q _=>∃ (w td sd:Addr) (z r:Int) (hs sil:List Int) (T:Int->zbv) (i g a:Int),vs=[.ref w,.int i,.int g,.int a]/\zam CB CT CW H w td sd z r hs sil T/\zki z hs (fun h=>(T h).ns)/\0<=g/\Tab H T0 (za7 zd_) quL /\
 (zdg z r hs sil (fun h=>(T h).ns) g i a=none->Q .non H)/\(∀ xs,zdg z r hs sil (fun h=>(T h).ns) g i a=some xs->∀ (l:Addr) (H':Hp),Nx T0 H H'->H l=none->H' l=some (.lst (xs.map V.int))->Q (.ref l) H')
theorem zi5 {hs sil:List Int}{x:Int}(h:awB hs sil x=true):x∈hs/\x∉sil:=by
 unfold awB at h
 simp only [ic,decide_eq_true_eq,jm,decide_eq_false_iff_not] at h
 exact h
theorem zne:zaj ["self","house","goal","asker"] ["self","house","goal","asker"] (zah (zai (top 39) 7)):=fS
theorem zia (Z:ZZ P w K mg base):zco Z 7 Z.cm (zr4 Z.ba.C Z.bb.C Z.bc.C Z.bk.P):=by
 have ab:=Z.bc.cl
 obtain ⟨af,v,u,ah,-⟩:=Z.bc.na
 have m:=zjv Z
 have f:=zbg (CB:=Z.ba.C) (CT:=Z.bb.C) Z
 refine Z.cm.fn.ok zne (by kd_p) (fun cdv A outer s H vs Q E hr h=>?_)
 obtain ⟨w,td,sd,z,r,hs,sil,TT,i,g,a,rfl,hW,n,hg,p,k1,k2⟩:=h
 obtain ⟨⟨dx,ae⟩,j,aj,d,-⟩:=id hW
 refine ⟨_,(zae (zbn (zd3 (zb_ (pmD (pv 0) Z.bc.cl Z.bt f hr (zaa (pv 1) zab))))
   (zaf (zar zdn))
   za6)
  (zaf (zar (zfy (zep (zfm hr) (za9 (pv 0) rfl) (pv 1) (fun _ _=>rfl)) Z.bb.cl Z.cj.me m hr.mm Z.cj.b .nil zbw (zaa (pv 2) (zaa (za9 (pv 0) rfl) (zaa (pv 3) zab))))))),?_⟩
 cases c:awB hs sil i with
 | false =>
  kt_k
  refine .inl ⟨i,rfl,?_⟩
  rw [zkn hW.hb hW.z1 i,c]
  have hk:=k1 (by unfold zdg; rw [c]; rfl)
  kt_k
 | true =>
  obtain ⟨hi,aa⟩:=zi5 c
  have e:=d i hi
  obtain ⟨ad,q⟩:=e.ob
  have ac:zik H td (V.int i) (some (V.ref (TT i).t)):=by
   have:=zik.k (k:=Sum.inl i) j
   rw [zcd,if_pos hi] at this
   exact this
  have ai:0<=r:=by have:=hW.r1; omega
  have ak:V.int a=V.non\/∃ x,V.int a=V.int x:= .inr ⟨a,rfl⟩
  obtain ⟨o,ag⟩:=n i hi
  have k3:∀ (l:Addr) (H':Hp),Nx Z.bk.P H H'->H l=none->H' l=some (.lst (((zfh g ((za1 (zdo (TT i).ns z.toNat)).filter fun y=> !decide (V.int y=V.int a))).take r.toNat).map V.int))->Q (.ref l) H':=k2 _ (by unfold zdg; rw [if_pos c])
  kt_k
  refine .inl ⟨i,rfl,?_⟩
  rw [zkn hW.hb hW.z1 i,c]
  kt_k
def zjz:Expr:=match (zbk (zai (top 39) 18)).getD 0 (.Pass zx5) with | .Return (some e) _=>e | _=> .Constant .none 0 zx5
def quT:Str:=(("Town.teller" : Str) ++ ".<locals>.") ++ "<lambda>"
abbrev RT:Addr->FuncData->Prop:=RLm "<lambda>" quT (zga zjz) (zf_ zjz) (zdp zjz)
abbrev z5b (H:Hp)(f:Addr)(cv:List V)(fd:FuncData):Prop:=zy1 H f "<lambda>" quT (zga zjz) (zf_ zjz) (zdp zjz) ["self"] cv fd
def z4i (CB CT CW T0:Addr)(cv:List V):Sp:=fun vs H Q E=>∃ (w:Addr) (i g a:V),vs=[i,g,a]/\cv=[.ref w]/\(∃ dx fs,H w=some (.ins CW dx fs)/\fs.lookup ("tells" : Str)=none)/\zr4 CB CT CW T0 [.ref w,i,g,a] H Q E
def spT (CB CT CW T0:Addr)(f:Addr)(fd:FuncData):Sp:=fun vs H Q E=>∃ cv,cv.length=(["self"]:List Str).length/\z5b H f cv fd/\z4i CB CT CW T0 cv vs H Q E
theorem zv4 {f:Addr}{fd:FuncData}(h:RT f fd):zci K fd ["house","goal","asker"] []:=by
 obtain ⟨clos,pm,c',ct,rfl⟩:=h
 exact .all (us3 fun _ _ _=>rfl)
theorem z0t:zg4 ["house","goal","asker","self"] ["house","goal","asker"] ["self"] (zdp zjz):=⟨rfl,rfl,rfl,by decide +kernel,by decide +kernel,by decide +kernel,by decide +kernel,by decide +kernel,by decide +kernel,by decide +kernel⟩
theorem zu5 (Z:ZZ P w K mg base){f:Addr}{fd:FuncData}:zc_ P w K mg base CX0 8 f fd ["house","goal","asker"] (spT Z.ba.C Z.bb.C Z.bc.C Z.bk.P f fd):=by
 have d:=zia Z
 refine zu1 (name:= "<lambda>") (qual:=quT) (params:=zga zjz) (body:=zf_ zjz) (sp:=z4i Z.ba.C Z.bb.C Z.bc.C Z.bk.P) z0t (fun cv vs H Q E h=>?_) (fun clos cdv A outer s H cv vs Q E hr e h=>?_)
 ·obtain ⟨w,i,g,a,rfl,_⟩:=h
  rfl
 ·obtain ⟨w,i,g,a,rfl,rfl,⟨dx,fs,hw,c⟩,k⟩:=h
  refine ⟨_,(zfy (pv 3) Z.bc.cl Z.cm.me d hr.mm Z.cm.b .nil zbw (zaa (pv 0) (zaa (pv 1) (zaa (pv 2) zab)))),?_⟩
  exact ⟨_,rfl,w,dx,fs,rfl,hw,c,_,rfl,_,rfl,_,rfl,k⟩
def zyl (T1:Addr):Sp:=fun vs H Q _=>∃ w:Addr,vs=[.ref w]/\Tab H T1 (za7 zjz) quT /\
 ∀ (f:Addr) (fd:FuncData) (fo:Obj) (k:HO) (H':Hp),(∀ b o,b≠T1->H b=some o->H' b=some o)->Tab H' T1 (za7 zjz) quT->H f=none->RT f fd->H' f=some (.frz fo k)->fo.data = .func fd->z5b H' f [.ref w] fd->Q (.ref f) H'
theorem zl9:zaj ["self"] ["self"] (zah (zai (top 39) 18)):=fS
theorem zhi (Z:ZZ P w K mg base){CW:Addr}(D:zzb K CW "teller" "Town.teller" (zai (top 39) 18) ["self"])(hB:base.BuiltinsAt mg D.P):zc_ P w K mg base CX0 1 D.f D.fd ["self"] (zyl D.P):=by
 refine D.ok Z.dt zl9 (fz:=["self"]) (by decide +kernel) (by kd_p) (fun A outer s H vs Q E hr h H1 sm g hC=>?_)
 obtain ⟨w,rfl,hT,k⟩:=h
 refine ⟨_,(zaf (zar (ztm rfl hC hB (zg9 (by kernel_rfl))))),?_⟩
 obtain ⟨c1,j,v1⟩:=g 0 "self" (.ref w) (by decide +kernel) rfl rfl
 have d:Tab H1 D.P (za7 zjz) quT:=(sm.but D.P).2 _ _ hT
 refine zpw d fun f H' fo clos c' oc k1 k2 hb l hf a sh m cs=>?_
 have keep:∀ c v,zez H1 c v->zez H' c v:=fun c v hv=>hv.same fun o k e=>hb c _ (fun z=>by
  obtain ⟨ps,hP,_⟩:=d
  rw [z,hP] at e
  cases e) e
 obtain ⟨fd,hd,hR,hF⟩:=zq4 (qual:=quT) (params:=zga zjz) (body:=zf_ zjz) (scope:=zdp zjz) (fr:=["self"]) (cv:=[.ref w]) sh a m cs (fun i x v h1 h2=>by
  match i,h1,h2 with
  | 0,h1,h2 =>
   cases h1
   cases h2
   exact ⟨by decide +kernel,c1,j,keep _ _ v1⟩)
 exact k f fd fo k1 H' (fun b o h e=>hb b o h (sm b o e)) l (sm.free hf) hR a hd hF
theorem Nx.keep {T:Addr}{H H1:Hp}(a:Nx T H H1)(t:Tab H T (za7 zd_) quL):∀ q o,(∀ ps,o≠ .tbl ps)->H q=some o->H1 q=some o:=fun q o ho e=>a.1 q o (fun z=>by
 obtain ⟨ps,hP,_⟩:=t
 rw [z,hP] at e
 cases e
 exact ho _ rfl) e
theorem zvy {z r:Int}{hs sil:List Int}{N:Int->Nat->List Int}{g i a:Int}{xs:List Int}(hk:zki z hs N)(e:zdg z r hs sil N g i a=some xs):xs.length<64/\∀ y∈xs,0<=y:=by
 unfold zdg at e
 split at e
 ·rename_i b
  cases e
  obtain ⟨h1,h2⟩:=hk i (zi5 b).1
  constructor
  ·have a1:=zur g ((za1 (zdo (N i) z.toNat)).filter fun y=> !decide (V.int y=V.int a))
   have a2:=gn (fun y=> !decide (V.int y=V.int a)) (za1 (zdo (N i) z.toNat))
   rw [zbr] at a2
   rw [gh]
   omega
  ·intro y hy
   have y1:=(zhb g _).subset (gy hy)
   have y2:=(gr.mp (zff.mp y1)).1
   exact h2 y ((zaw _).subset y2)
 ·cases e
theorem zes {z r:Int}{hs sil:List Int}{N:Int->Nat->List Int}{g i a:Int}:(zdg z r hs sil N g i a).isSome=awB hs sil i:=by
 unfold zdg
 cases awB hs sil i <;> rfl
structure z5y (CB CT CW T0:Addr)(w td sd:Addr)(z r:Int)(hs sil:List Int)(T:Int->zbv)(f:Addr)(fd:FuncData)(fo:Obj)(k:HO)(H:Hp):Prop where
 W:zam CB CT CW H w td sd z r hs sil T
 t:Tab H T0 (za7 zd_) quL
 o:H f=some (.frz fo k)
 l:z5b H f [.ref w] fd
theorem zti {K:W.Frag}{CB CT CW T0:Addr}{w td sd:Addr}{z r:Int}{hs sil:List Int}{T:Int->zbv}{f:Addr}{fd:FuncData}{fo:Obj}{k:HO}(hk:zki z hs (fun h=>(T h).ns))(hfd:fo.data = .func fd){g:Int}(hg:0<=g) :
  z17 K (fun q=>q=T0) (fun H=>Tab H T0 (za7 zd_) quL) f fd (spT CB CT CW T0 f fd) hs (zdg z r hs sil (fun h=>(T h).ns) g) g (z5y CB CT CW T0 w td sd z r hs sil T f fd fo k):=by
 refine ⟨fun H H' S N=>⟨S.W.keep (N.keep zt9 S.t),N.t,N.keep zt9 S.t _ _ (fun _ z=>nomatch z) S.o,S.l.same fun a o k e=>N.keep zt9 S.t _ _ (fun _ z=>nomatch z) e⟩,fun H S=>S.t,fun H S=> .inl ⟨fo,k,S.o,hfd⟩,fun H Q i a S h1 h2=>?_,fun i a xs e=>zvy hk e,fun i a e=>?_,fun i a b=>by rw [zes,zes]⟩
 ·obtain ⟨dx,c⟩:=S.W.ob
  exact ⟨[.ref w],rfl,S.l,w,.int i,.int g,.int a,rfl,rfl,⟨dx,_,c,z4j _ (by decide +kernel) _ _ _ _⟩,w,td,sd,z,r,hs,sil,T,i,g,a,rfl,S.W,hk,hg,S.t,fun e=>h1 e H (Nz.of zt9 S.t (zax.refl H)),fun xs e l H' n=>h2 xs e l H' (Nz.ofNx n)⟩
 ·rw [zes] at e
  exact (zi5 e).1
structure Kx (T0 T1:Addr)(H H':Hp):Prop where
 k:∀ q o,(∀ ps,o≠ .tbl ps)->H q=some o->H' q=some o
 t0:Tab H' T0 (za7 zd_) quL
 t1:Tab H' T1 (za7 zjz) quT
 b:∀ q ps,H q=some (.tbl ps)->q≠T0->q≠T1->H' q=some (.tbl ps)
 e:∀ q,H' q=none->H q=none
theorem Kx.of {T0 T1:Addr}{H H':Hp}(a:Tab H T0 (za7 zd_) quL)(b:Tab H T1 (za7 zjz) quT)(s:zax H H'):Kx T0 T1 H H':=⟨fun q o _ e=>s _ _ e,(s.but T0).2 _ _ a,(s.but T1).2 _ _ b,fun q ps e _ _=>s _ _ e,fun q e=>s.free e⟩
theorem Kx.trans {T0 T1:Addr}{H H1 H2:Hp}(a:Kx T0 T1 H H1)(b:Kx T0 T1 H1 H2):Kx T0 T1 H H2:=⟨fun q o h e=>b.k q o h (a.k q o h e),b.t0,b.t1,fun q ps e y1 y2=>b.b q ps (a.b q ps e y1 y2) y1 y2,fun q e=>a.e q (b.e q e)⟩
theorem Kx.nx {T0 T1:Addr}{H H':Hp}(hne:T0≠T1)(a:Tab H T0 (za7 zd_) quL)(b:Tab H T1 (za7 zjz) quT)(n:Nx T0 H H'):Kx T0 T1 H H':=by
 refine ⟨n.keep a,n.2,Tab.hold b fun q o h e=>n.1 q o (fun y=>?_) e,fun q ps e y _=>n.1 q _ y e,fun q e=>n.free e⟩
 rcases h with ⟨x,k,rfl⟩ | h
 ·obtain ⟨ps,hP,_⟩:=a
  rw [y,hP] at e
  cases e
 ·exact hne (y.symm.trans h)
def z0x (CB CT CW T0 T1:Addr):Sp:=fun vs H Q _=>∀ CC:Prop,(∀ (w td sd:Addr) (z r:Int) (hs sil:List Int) (T:Int->zbv) (i g:Int),vs=[.ref w,.int i,.int g]->zam CB CT CW H w td sd z r hs sil T->zki z hs (fun h=>(T h).ns)->i∈hs->i∉sil->0<=g->g<2 ^ z.toNat->Tab H T0 (za7 zd_) quL->Tab H T1 (za7 zjz) quT->(∀ (l:Addr) (a:List Int) (H':Hp),Kx T0 T1 H H'->zhy (zog (zdg z r hs sil (fun h=>(T h).ns) g) g) i a->H l=none->H' l=some (.lst (a.map V.int))->Q (.ref l) H')->CC)->CC
theorem zqr:zaj ["self","start","goal"] ["self","start","goal"] (zah (zai (top 39) 10)):=fS
theorem zk1 (Z:ZZ P w K mg base):zco Z 11 Z.co (z0x Z.ba.C Z.bb.C Z.bc.C Z.bk.P Z.cn.P):=by
 have ak:=Z.bc.cl
 have GA:∀ f fd,RT f fd->zc_ P w K mg base CX0 8 f fd ["house","goal","asker"] (spT Z.ba.C Z.bb.C Z.bc.C Z.bk.P f fd):=fun f fd _=>zu5 Z
 have bA:∀ f fd,RT f fd->zci K fd ["house","goal","asker"] []:=fun f fd h=>zv4 h
 have ad:=zc7 (CB:=Z.ba.C) (CT:=Z.bb.C) Z
 have af:=zbd (CB:=Z.ba.C) (CT:=Z.bb.C) Z
 have ae:=zhi Z Z.cn Z.dw
 have p:=zvk Z GA bA zt9
 refine Z.co.fn.ok zqr (by kd_p) (fun cdv A outer s H vs Q E hr t=>?_)
 refine t _ fun w td sd z r hs sil TT i g u hW ag hi ab hg aj ah n k=>?_
 subst u
 obtain ⟨dx,ai⟩:=hW.ob
 refine ⟨_,(zae (zap (pmD (pv 0) Z.bc.cl Z.b0 af hr (zaa (pv 1) zab)))
  (zae (zap (pmD (pv 0) Z.bc.cl Z.bx ad hr (zaa (pv 2) zab)))
  (zaf (zar (zfv p hr.mm rfl Z.dz Z.cl.fn.kp Z.cl.b .nil zbw (zaa (pv 1) (zaa (pv 2) (zaa (zbi (pv 0) Z.bc.cl Z.cn.me ae hr.mm Z.cn.b .nil zbw) zab)))))))),?_⟩
 kt_k
 intro f fd fo k0 H1 j d hf hR v ac hF
 have kp:∀ q o,(∀ ps,o≠ .tbl ps)->H q=some o->H1 q=some o:=fun q o ho e=>j q o (fun y=>by
  obtain ⟨ps,hP,_⟩:=n
  rw [y,hP] at e
  cases e
  exact ho _ rfl) e
 have c:Tab H1 Z.bk.P (za7 zd_) quL:=Tab.hold ah fun q o h e=>j q o (fun y=>by
  rcases h with ⟨x,k,rfl⟩ | h
  ·obtain ⟨ps,hP,_⟩:=n
   rw [y,hP] at e
   cases e
  ·exact Z.dx (h.symm.trans y)) e
 have W1:=hW.keep kp
 have m:(zdg z r hs sil (fun h=>(TT h).ns) g i i).isSome=true:=by
  rw [zes]
  unfold awB
  rw [decide_eq_true hi,decide_eq_false ab]
  rfl
 have free:∀ {q:Addr},H1 q=none->H q=none:=fun {q} e=>by
  cases eq:H q with
  | none=>rfl
  | some o =>
   by_cases y:q=Z.cn.P
   ·obtain ⟨ps,hP,_⟩:=d
    rw [y,hP] at e
    cases e
   ·rw [j q o y eq] at e
    cases e
 have K1:Kx Z.bk.P Z.cn.P H H1:=⟨kp,c,d,fun q ps e _ y=>j q _ y e,fun q e=>free e⟩
 refine ⟨i,g,f,fd,hs,_,_,rfl,zti ag ac hg,⟨W1,c,v,hF⟩,hR,m,hg,hW.ln,fun l a H2 N2 ch hl aa=>?_⟩
 exact k l a H2 (K1.trans (Kx.nx Z.dx c d N2.nx)) ch (free hl) aa
theorem Kx.tab {T0 T1 Ti:Addr}{H H':Hp}{po:Pos}{qu:Str}(a:Kx T0 T1 H H')(t:Tab H Ti po qu)(h0:Ti≠T0)(h1:Ti≠T1):Tab H' Ti po qu:=Tab.hold t fun q o ho e=>by
 rcases ho with ⟨x,k,rfl⟩ | rfl
 ·exact a.k q _ (fun _ z=>nomatch z) e
 ·obtain ⟨ps,hP,_⟩:=t
  rw [hP] at e
  cases e
  exact a.b _ _ hP h0 h1
def zsw (T3:Addr)(H H':Hp):Prop:=∀ (Ti:Addr) (po:Pos) (qu:Str),Ti≠T3->Tab H Ti po qu->Tab H' Ti po qu
theorem zam.kind {CB CT CW w td sd:Addr}{H:Hp}{z r:Int}{hs sil:List Int}{T:Int->zbv}(W:zam CB CT CW H w td sd z r hs sil T){q:Addr}{x:Obj}{k:HO}(e:H q=some (.frz x k)):¬ Own td sd z.toNat hs T q:=fun y=>by
 rcases y with rfl | rfl | ⟨g,hg,rfl | ⟨j,hj,rfl | rfl⟩⟩
 ·rw [W.tb] at e
  cases e
 ·rw [W.si] at e
  cases e
 ·rw [(W.ta g hg).li] at e
  cases e
 ·obtain ⟨⟨d,e1⟩,_⟩:=(W.ta g hg).bk j hj
  rw [e1] at e
  cases e
 ·rw [((W.ta g hg).bk j hj).li] at e
  cases e
theorem zsw.deed {CB CT CW w td sd T3:Addr}{H H':Hp}{z r:Int}{hs sil:List Int}{T:Int->zbv}{O':Addr->Prop}(W:zam CB CT CW H w td sd z r hs sil T)(d:zeh T3 H H' (Own td sd z.toNat hs T) O'):zsw T3 H H':=fun Ti po qu hn t=>Tab.hold t fun q o ho e=>by
 rcases ho with ⟨x,k,rfl⟩ | rfl
 ·exact d.k q _ (fun _ z=>nomatch z) e (W.kind e)
 ·obtain ⟨ps,hP,_⟩:=t
  rw [hP] at e
  cases e
  exact d.t _ _ hP hn
def tv (L:Int->Addr)(tl:Int->Option (List Int))(n:Int):V:=match tl n with | none=>V.non | some _=>V.ref (L n)
theorem ztj {L:Int->Addr}{tl:Int->Option (List Int)}{n:Int}(h:tl n=none):tv L tl n=V.non:=by
 unfold tv
 rw [h]
theorem zua {L:Int->Addr}{tl:Int->Option (List Int)}{n:Int}{ns:List Int}(h:tl n=some ns):tv L tl n=V.ref (L n):=by
 unfold tv
 rw [h]
structure zky (pool:List Int)(tl:Int->Option (List Int)):Prop where
 le:pool.length<=60
 nn:∀ n∈pool,0<=n
 ns:∀ n∈pool,∀ ns,tl n=some ns->ns.length<=12/\∀ m∈ns,m∈pool
theorem zp9:∀ {l m:List Int},l.Nodup->(∀ x∈l,x∈m)->l.length<=m.length:=fun {l m} a b=>zby a b
theorem ztc {g:Int}{ns l:List Int}(hg:0<=g)(hn:∀ y∈ns,0<=y)(hd:l.Nodup)(hm:∀ y,y∈l↔y∈ns)(hs:l.Pairwise (fun x y=>Builtin.bitXor g x<=Builtin.bitXor g y)):l=zfh g ns:=by
 have p:l.Perm (zhc ns):=(List.perm_ext_iff_of_nodup hd (zhk ns)).mpr fun y=>(hm y).trans zff.symm
 exact zr3 (p.trans (zaw _).symm) (fun x hx y hy e=>zy8 hg (hn x (zff.mp ((zaw _).subset hx))) (hn y (zff.mp ((zaw _).subset hy))) e) hs
theorem zqg (g:Int)(ns:List Int):(zfh g ns).Nodup:=(zhb g ns).nodup_iff.mpr (zhk ns)
theorem _root_.PySem.Paired.mp {α β:Type}{F G:α->β->Prop}{a:List α}{b:List β}(h:Paired F a b)(f:∀ x y,F x y->G x y):Paired G a b:=L2.Paired.mapP h f
theorem _root_.PySem.Paired.len {α β:Type}{F:α->β->Prop}:∀ {a:List α} {b:List β},Paired F a b->a.length=b.length
 | _,_,.nil=>rfl
 | _,_,.cons _ t=>by rw [gs,gs,PySem.Paired.len t]
theorem zf0 {α β:Type}{F:α->β->Prop}{x:α}{y:β}(h:F x y):∀ {a:List α} {b:List β},Paired F a b->Paired F (a++[x]) (b++[y])
 | _,_,.nil=> .cons h .nil
 | _,_,.cons r t=> .cons r (zf0 h t)
def z1z (p:Int->Bool):List Int->List Int
 | []=>[]
 | x :: r=>if p x then [x] else x :: z1z p r
theorem zoy {p:Int->Bool}:∀ {l:List Int} {i:Nat} {n:Int},(∀ x∈l.take i,p x=false)->l[i]? = some n->p n=true->l.find? p=some n/\z1z p l=l.take (i+1)
 | [],i,n,_,h,_=>by simp at h
 | x :: r,0,n,_,h,hp=>by
  cases h
  exact ⟨by simp [hp],by simp [z1z,hp]⟩
 | x :: r,i+1,n,h,hi,hp=>by
  have hx:=h x (by simp)
  obtain ⟨h1,h2⟩:=zoy (l:=r) (i:=i) (fun y hy=>h y (by simp [hy])) hi hp
  exact ⟨by simp [hx,h1],by simp [z1z,hx,h2]⟩
theorem zrw {p:Int->Bool}:∀ {l:List Int},(∀ x∈l,p x=false)->l.find? p=none/\z1z p l=l
 | [],_=>⟨rfl,rfl⟩
 | x :: r,h=>by
  have hx:=h x (by simp)
  obtain ⟨h1,h2⟩:=zrw (l:=r) fun y hy=>h y (by simp [hy])
  exact ⟨by simp [hx,h1],by simp [z1z,hx,h2]⟩
theorem zfd {α β:Type}{F:α->β->Prop}{f:α->V}:∀ {ps:List α} {R:List β} {j:Nat} {x:V},Paired F ps R->(ps.map f)[j]? = some x->∃ p h,ps[j]? = some p/\R[j]? = some h/\x=f p/\F p h
 | _,_,j,x,.nil,e=>by simp at e
 | _,_,0,x,.cons (a:=p) (b:=h) r t,e=>by
  simp at e
  exact ⟨p,h,rfl,rfl,e.symm,r⟩
 | _,_,j+1,x,.cons (a:=p) (b:=h) r t,e=>by
  obtain ⟨p',h',a1,a2,a3,a4⟩:=zfd t (f:=f) (j:=j) (x:=x) (by simpa using e)
  exact ⟨p',h',a1,a2,a3,a4⟩
def zud (tl:Int->Option (List Int))(st h:Int):List Int:=((tl h).getD []).filter fun n=> !decide (n=st)
def zkw (tl:Int->Option (List Int))(st:Int)(R:List Int):List Int:=R.flatMap (zud tl st)
def zpi (tl:Int->Option (List Int))(R:List Int):List Int:=R.filter fun h=> !(tl h).isSome
def flR (tl:Int->Option (List Int))(R:List Int)(n:Int):Bool:= !decide (n∈zpi tl R)
def zgf (tl:Int->Option (List Int))(st g:Int)(rm:Nat)(R:List Int):List Int:=((zfh g (zkw tl st R)).filter (flR tl R)).take rm
def zy7 (R:List Int)(n:Int):Bool:= !decide (n∈R)
def zm3 (tl:Int->Option (List Int))(st g:Int)(rm:Nat)(R:List Int):Option Int:=(zgf tl st g rm R).find? (zy7 R)
inductive Row (tl:Int->Option (List Int)) (st g:Int) (rm:Nat):List Int->Prop
 | one:Row tl st g rm [st]
 | more {R:List Int} {h:Int}:Row tl st g rm R->zm3 tl st g rm R=some h->Row tl st g rm (R++[h])
section
variable {tl:Int->Option (List Int)} {st g:Int} {rm:Nat} {R:List Int} {pool:List Int}
theorem Row.pos (x:Row tl st g rm R):0<R.length:=by
 cases x
 ·simp
 ·simp
theorem Row.head (x:Row tl st g rm R):R[0]? = some st:=by
 induction x with
 | one=>rfl
 | @more R h x _ ih=>rw [List.getElem?_append_left x.pos]; exact ih
theorem zg1 (o:zky pool tl)(hR:∀ h∈R,h∈pool):∀ n∈zkw tl st R,n∈pool/\n≠st:=fun n hn=>by
 obtain ⟨h,hh,hm⟩:=List.mem_flatMap.mp hn
 unfold zud at hm
 obtain ⟨h1,h2⟩:=gr.mp hm
 refine ⟨?_,by simpa using h2⟩
 cases e:tl h with
 | none=>rw [e] at h1; cases h1
 | some ns=>rw [e] at h1; exact (o.ns h (hR h hh) ns e).2 n h1
theorem zmg:∀ n∈zgf tl st g rm R,n∈zkw tl st R/\flR tl R n=true:=fun n hn=>by
 obtain ⟨h1,h2⟩:=gr.mp (gy hn)
 exact ⟨zla.mp h1,h2⟩
theorem zvo {h:Int}(e:zm3 tl st g rm R=some h):h∈zgf tl st g rm R/\¬ h∈R:=by
 have h1:=List.find?_some e
 have h2:=List.mem_of_find?_eq_some e
 unfold zy7 at h1
 exact ⟨h2,by simpa using h1⟩
theorem Row.ok (o:zky pool tl)(hst:st∈pool)(x:Row tl st g rm R):(∀ h∈R,h∈pool)/\R.Nodup:=by
 induction x with
 | one=>exact ⟨fun h hh=>by rw [fc.mp hh]; exact hst,by simp⟩
 | more x e ih =>
  obtain ⟨h1,h2⟩:=zvo e
  exact ⟨zm_ ih.1 (zg1 o ih.1 _ (zmg _ h1).1).1,zbx ih.2 h2⟩
theorem zop {ns ks:List Int}{p:Int->Bool}(hg:0<=g)(hn:∀ y∈ns,0<=y)(hk:∀ y,y∈ks↔y∈ns):(zfh g ns).filter p=zfh g (ks.filter p):=by
 refine ztc hg (fun y hy=>hn y ((hk y).mp (gr.mp hy).1)) ((zqg g ns).filter _) (fun y=>?_) ((zjc _ _).filter _)
 rw [gr,gr,zla,hk]
end
def zcn (ks:List Int)(fl:Int->Bool):List (Key × V):=ks.map fun n=>(Sum.inl n,V.bl (fl n))
theorem zhz {fl:Int->Bool}{n:Int}:∀ {ks:List Int},n∈ks->zee (zcn ks fl) (Sum.inl n)=some (V.bl (fl n))
 | [],h=>nomatch h
 | m :: r,h=>by
  by_cases e:m=n
  ·subst e
   exact zg7 rfl
  ·have hr:n∈r:=by
    rcases gl.mp h with z | z
    ·exact absurd z.symm e
    ·exact z
   have z:zee (zcn (m :: r) fl) (Sum.inl n)=zee (zcn r fl) (Sum.inl n):=zf4 fun z=>e (Sum.inl.inj z)
   rw [z,zhz hr]
theorem zof {fl:Int->Bool}{n:Int}:∀ {ks:List Int},¬ n∈ks->zee (zcn ks fl) (Sum.inl n)=none
 | [],_=>rfl
 | m :: r,h=>by
  have z:zee (zcn (m :: r) fl) (Sum.inl n)=zee (zcn r fl) (Sum.inl n):=zf4 fun z=>h (by
   have:=Sum.inl.inj z
   rw [<- this]
   exact fk ..)
  rw [z,zof fun y=>h (fg _ y)]
theorem zwd {ks:List Int}{fl:Int->Bool}{h:Int}{b:Bool}(hh:h∈ks):zec (zcn ks fl) (Sum.inl h) (V.bl b)=zcn ks (fun n=>if n=h then b else fl n):=by
 have a:((zcn ks fl).any fun kv=>decide (kv.1=(Sum.inl h:Key)))=true:=by rw [zg3,zhz hh]; rfl
 unfold zec
 rw [if_pos a]
 unfold zcn
 rw [l4]
 refine ik fun n hn=>?_
 show (if (Sum.inl n:Key)=Sum.inl h then ((Sum.inl n:Key),V.bl b) else (Sum.inl n,V.bl (fl n)))=(Sum.inl n,V.bl (if n=h then b else fl n))
 by_cases e:n=h
 ·rw [if_pos (by rw [e]),if_pos e]
 ·rw [if_neg fun z=>e (Sum.inl.inj z),if_neg e]
theorem z1l {H:Hp}{p:Addr}{a b:HO}:upd (upd H p a) p b=upd H p b:=funext fun q=>by
 by_cases e:q=p
 ·rw [e,zad,zad]
 ·rw [zac e,zac e,zac e]
def z4y (tl:Int->Option (List Int))(Lr:Int->Addr)(H:Hp)(p:Addr)(h:Int):Prop:=H p=some (.tup [.int h,tv Lr tl h])
structure ze4 (H:Hp)(rl:Addr)(R:List Int)(tl:Int->Option (List Int))(Lr:Int->Addr):Prop where
 ex:∃ ps:List Addr,H rl=some (.lst (ps.map V.ref))/\Paired (z4y tl Lr H) ps R
def z3q:Sp:=fun vs H Q _=>∃ (sd:Addr) (st h:Int) (v:V) (ks:List Int) (fl:Int->Bool),vs=[.ref sd,.int st,.int h,v]/\H sd=some (.dK (zcn ks fl))/\ks.Nodup/\ks.length<=100 /\
 ((v = .non/\h∈ks/\Q .non (upd H sd (.dK (zcn ks (fun n=>if n=h then false else fl n))))) \/
  ∃ (p:Addr) (ns:List Int),v = .ref p/\H p=some (.lst (ns.map V.int))/\ns.length<=12/\(∀ n∈ns,n≠st->¬ n∈ks->fl n=true) /\
  ∀ ks':List Int,ks'.Nodup->(∀ n,n∈ks'↔n∈ks\/(n∈ns/\n≠st))->Q .non (upd H sd (.dK (zcn ks' fl))))
def zmb (T0:Addr):Sp:=fun vs H Q _=>∃ (sd:Addr) (g rm:Int) (ks:List Int) (fl:Int->Bool),vs=[.ref sd,.int g,.int rm]/\H sd=some (.dK (zcn ks fl))/\ks.length<=60/\0<=g/\0<=rm/\(∀ n∈ks,0<=n)/\Tab H T0 (za7 zd_) quL /\
 ∀ (l:Addr) (H':Hp),(∀ b o,b≠T0->H b=some o->H' b=some o)->Tab H' T0 (za7 zd_) quL->H l=none->H' l=some (.lst (((zfh g (ks.filter fl)).take rm.toNat).map V.int))->Q (.ref l) H'
def zvl:Sp:=fun vs H Q _=>∃ (nl rl:Addr) (names R:List Int) (tl:Int->Option (List Int)) (Lr:Int->Addr),vs=[.ref nl,.ref rl]/\H nl=some (.lst (names.map V.int))/\ze4 H rl R tl Lr/\R.length<=100/\∀ H',zax H H'->Q (ovI (names.find? (zy7 R))) H'
theorem zi7:zaj ["seen","start","house","told","name"] ["seen","start","house","told"] (zah (top 27)):=fS
theorem zz0 (Z:ZZ P w K mg base):zgb Z 1 Z.cp z3q:=by
 refine Z.cp.fn.ok zi7 (by kd_p) (fun cdv A outer s H vs Q E hr h=>?_)
 obtain ⟨sd,st,h,v,ks,fl,rfl,o,aa,hl,hc⟩:=h
 refine ⟨_,(zae (zbn (zan zrq (pv 3) zdn (za5 _))
   (zae (zix (zfm hr) (pv 0) (pv 2) zfw rfl)
   (zaf z1k))
   za6)
  (zaf (zca PassesOwn.never rfl (zbb (pv 3)) (zas (i:=4) zi7.nd rfl oL)
   (zaf (zbn (zan zw2 (pv 4) (pv 1) (za5 _))
    (zaf (zap (zxj (pv 0) (pv 4) zfw ⟨rfl,rfl,rfl,rfl⟩)))
    za6))))),?_⟩
 have u:∀ {ks:List Int},ks.length<=200->(zcn ks fl).length<sizeLine:=fun {ks} h=>by
  unfold zcn
  rw [d9]
  exact zau (by omega)
 rcases hc with ⟨rfl,hh,q⟩ | ⟨p,ns,rfl,hp,ae,ab,q⟩
 ·refine ⟨_,rfl,rfl,_,rfl,?_⟩
  refine zlw rfl ?_
  refine ⟨_,rfl,_,rfl,sd,_,rfl,zpc.k (k:=Sum.inl h) o (u (by omega)),?_⟩
  rw [zwd hh]
  exact q
 ·refine ⟨_,rfl,rfl,_,rfl,?_⟩
  refine ze7 (fun z=>nomatch z) ?_
  refine ⟨_,rfl,p,rfl,⟨_,SqL.of hp⟩,?_⟩
  have t:p≠sd:=fun z=>by rw [z,o] at hp; cases hp
  refine zbs (K:=K) (a:=p) (xs:=ns.map V.int) (fun i σ H2=>zer (∃ (v4:Option V) (c:List Int),σ=[some (.ref sd),some (.int st),some (.int h),some (.ref p),v4]/\H2=upd H sd (.dK (zcn c fl))/\c.Nodup/\c.length<=ks.length+i/\∀ n,n∈c↔n∈ks\/(n∈ns.take i/\n≠st)))
   ⟨⟨none,ks,rfl,funext fun q=>?_,aa,gd _,fun n=>by simp⟩⟩ (fun i σ H2 _ ⟨_,_,_,e,_⟩=>SqL.of (by rw [e,zac t]; exact hp)) ?_ ?_
  ·by_cases e:q=sd
   ·rw [e,zad,o]
   ·rw [zac e]
  ·rintro i y σ H2 hi ⟨v4,c,rfl,rfl,d,ad,j⟩
   obtain ⟨n,hn,rfl⟩:=zb7 hi
   have af:i<ns.length:=(List.getElem?_eq_some_iff.mp hn).1
   have et:ns.take (i+1)=ns.take i++[n]:=by rw [gq,hn]; rfl
   have f:∀ m,(m∈ks\/(m∈ns.take (i+1)/\m≠st))↔m∈c\/(m=n/\m≠st):=fun m=>by
    rw [j,et,fj,fc]
    constructor
    ·rintro (z | ⟨z | z,y⟩)
     ·exact .inl (.inl z)
     ·exact .inl (.inr ⟨z,y⟩)
     ·exact .inr ⟨z,y⟩
    ·rintro ((z | ⟨z,y⟩) | ⟨z,y⟩)
     ·exact .inl z
     ·exact .inr ⟨.inl z,y⟩
     ·exact .inr ⟨.inr z,y⟩
   refine ⟨_,rfl,_,rfl,rfl,_,rfl,?_⟩
   by_cases g:n=st
   ·refine zls (by rw [g]) ?_
    refine ⟨⟨_,c,rfl,rfl,d,by omega,fun m=>?_⟩⟩
    rw [f]
    exact ⟨.inl,fun z=>z.elim id fun ⟨a,b⟩=>absurd (a.trans g) b⟩
   ·refine zqk (z1c g) ?_
    have r:upd H sd (.dK (zcn c fl)) sd=some (.dK (zcn c fl)):=zad
    refine ⟨_,rfl,sd,rfl,.inl ⟨_,.inl r⟩,_,rfl,zcn c fl,Sum.inl n,r,rfl,u (by omega),fun v e=>?_,fun e=>?_⟩
    ·have l:n∈c:=by
      by_cases z:n∈c
      ·exact z
      ·rw [zof z] at e; cases e
     refine ⟨⟨_,c,rfl,rfl,d,by omega,fun m=>?_⟩⟩
     rw [f]
     exact ⟨.inl,fun z=>z.elim id fun ⟨a,_⟩=>a ▸ l⟩
    ·have l:¬ n∈c:=fun z=>by rw [zhz z] at e; cases e
     have x:¬ n∈ks:=fun z=>l ((j n).mpr (.inl z))
     have ac:=ab n (fm hn) g x
     refine ⟨⟨_,c++[n],rfl,?_,zbx d l,by simp; omega,fun m=>?_⟩⟩
     ·rw [zj_ _ e,z1l]
      unfold zcn
      rw [gm,<- ac]
      rfl
     ·rw [f,fj,fc]
      exact ⟨fun z=>z.imp id fun a=>⟨a,a ▸ g⟩,fun z=>z.imp id fun a=>a.1⟩
  ·rintro σ H2 ⟨v4,c,rfl,rfl,d,ad,j⟩
   rw [d9,gj] at j
   exact q c d j
theorem zp3:zaj ["seen","goal","room"] ["seen","goal","room"] (zah (top 28)):=fS
theorem zp4 (Z:ZZ P w K mg base):zgb Z 6 Z.cq (zmb Z.bk.P):=by
 have v:=z0g Z
 refine Z.cq.fn.ok zp3 (by kd_p) (fun cdv A outer s H vs Q E hr h=>?_)
 obtain ⟨sd,g,rm,ks,fl,rfl,f,hl,hg,r,t,hT,k⟩:=h
 refine ⟨_,(zaf (zar (zei zgl (zfv v hr.mm rfl Z.bk.hm Z.bk.kp Z.bk.b .nil zbw (zaa (pv 1) (zaa (z03 (H0:=H) rfl (zct rfl (zaz (own:=["name"]) (caps:=[0]) (N':=["name","seen"]) (by kernel_rfl)) (zz7 (pv 0)) (fun _ _ _ _ _=>(zas (i:=0) (show (["name","seen"]:List Str).Nodup by decide +kernel) rfl oL)) (fun _ _ _ _ _=>(zcu (zb_ (zep (zfm hr) (pv 1) (pv 0) (fun _ _=>rfl))))) (fun _ _ _ _ _=>(pv 0)))) zab))) zhl (zfn (pv 2))))),?_⟩
 refine ⟨_,rfl,_,rfl,sd,zcn ks fl,rfl,.inl f,fun o H1 h1 m ab Dl c=>?_⟩
 have hk:(zcn ks fl).map (·.1)=ks.map Sum.inl:=by unfold zcn; rw [l4]; rfl
 have d:Dl≠sd:=fun z=>by rw [z,h1] at c; cases c
 have ae:H Dl=none:=by rw [<- m Dl d]; exact c
 refine zuk fl hk c h1 (by omega) (fun x hx H' Qt s q=>?_) fun H2 s2 y=>?_
 ·refine ⟨_,rfl,_,rfl,sd,_,rfl,.inl ⟨_,Sum.inl x,.inr ⟨o,s _ _ h1⟩,rfl,(zhz hx).symm⟩,_,rfl,q H' (zax.refl H')⟩
 ·refine ⟨sd,zcn ks fl,o,s2 _ _ h1,fun ob u e=>(by rw [f] at e; cases e),?_⟩
  have s3:zax H (upd H2 sd (.dK (zcn ks fl))):=fun b u e=>by
   by_cases z:b=sd
   ·subst z
    rw [zad,<- e,f]
   ·rw [zac z]
    refine s2 _ _ ?_
    rw [m b z]
    exact e
  have j:upd H2 sd (.dK (zcn ks fl)) Dl=some (.lst ((ks.filter fl).map V.int)):=by rw [zac d]; exact y
  generalize upd H2 sd (.dK (zcn ks fl))=H3 at s3 j
  have ad:(ks.filter fl).length<=ks.length:=gn _ _
  refine ⟨g,Dl,ks.filter fl,rfl,SqL.of j,by omega,hg,fun n hn=>t n (gr.mp hn).1,(s3.but _).2 _ _ hT,fun l H4 kp p ac aa=>?_⟩
  kt_k
  rw [zq_ _ r]
  intro l2 a
  have s5:zax H4 (upd H4 l2 (.lst (((zfh g (ks.filter fl)).take rm.toNat).map V.int))):=zax.new H4 a
  refine k l2 _ (fun b u hb e=>s5 _ _ (kp b u hb (s3 _ _ e))) ((s5.but _).2 _ _ p) ?_ zad
  cases e:H l2 with
  | none=>rfl
  | some u =>
   by_cases z:l2=Z.bk.P
   ·obtain ⟨ps,hP,_⟩:=p
    rw [z,hP] at a
    cases a
   ·rw [kp _ _ z (s3 _ _ e)] at a
    cases a
theorem zdq:zaj ["names","row","done","name"] ["names","row"] (zah (top 29)):=fS
theorem zx2 (Z:ZZ P w K mg base):zgb Z 1 Z.cr zvl:=by
 refine Z.cr.fn.ok zdq (by kd_p) (fun cdv A outer s H vs Q E hr h=>?_)
 obtain ⟨nl,rl,names,R,tl,Lr,rfl,o,hR,aa,k⟩:=h
 refine ⟨_,(zae (zf5 (i:=2) zdq.nd rfl oL rfl (zaz (own:=["house","told"]) (caps:=[]) (N':=["house","told"]) (by kernel_rfl)) (zbb (pv 1)) (fun _ _ _ _ _=>(zwb (K:=K) (n:=2) rfl rfl (zb1 (zas (i:=0) (show (["house","told"]:List Str).Nodup by decide +kernel) rfl oL) (zb1 (zas (i:=1) (show (["house","told"]:List Str).Nodup by decide +kernel) rfl oL) zi0)))) (fun _ _ _ _ _=>zfx) (fun _ _ _ _ _=>(pv 0)))
  (zae (zca PassesOwn.never rfl (zbb (pv 0)) (zas (i:=3) zdq.nd rfl oL)
   (zaf (zbn (zan zcf (pv 3) (pv 2) (by with_unfolding_all rfl))
    (zaf (zar (pv 3)))
    za6)))
  (zaf (zar zdn)))),?_⟩
 obtain ⟨ps,r,g⟩:=hR.ex
 have l:=g.len
 kt_k
 intro Dl f
 refine zd2 (xs:=ps.map V.ref) (fun j σ H'=>zer (∃ v1 v2:Option V,σ=[v1,v2]/\zax H H'/\H' Dl=some (.lst ((R.take j).map V.int)))) ⟨⟨none,none,rfl,zax.new H f,zad⟩⟩ (fun j σ H' _ ⟨_,_,_,s,_⟩=>SqL.of (s _ _ r)) ?_ ?_
 ·rintro j x σ H' hj ⟨v1,v2,rfl,s,hD⟩
  have u:j<R.length:=by
   have:=(List.getElem?_eq_some_iff.mp hj).1
   rw [d9] at this
   omega
  obtain ⟨p,h,hp,hh,rfl,m⟩:=zfd g hj
  have v:=s _ _ (show H p=_ from m)
  have hsz:((R.take j).map V.int).length<sizeLine:=by rw [d9,gh]; exact zau (by omega)
  kt_k
  refine ⟨⟨_,_,rfl,s.put f,?_⟩⟩
  rw [zad,gq,hh]
  simp
 rintro σ H2 ⟨v1,v2,rfl,s2,t⟩
 rw [d9,l,gj] at t
 have d:=s2 _ _ o
 have q:=zbz R
 kt_k
 refine zbs (K:=K) (a:=nl) (xs:=names.map V.int) (fun i σ H'=>zer (∃ v3:Option V,σ=[some (.ref nl),some (.ref rl),some (.ref Dl),v3]/\H'=H2/\∀ x∈names.take i,zy7 R x=false))
  ⟨⟨none,rfl,rfl,fun _ h=>(nomatch h)⟩⟩ (fun i σ H' _ ⟨_,_,e,_⟩=>by rw [e]; exact SqL.of d) ?_ ?_
 ·rintro i y σ H' hi ⟨v3,rfl,rfl,b⟩
  obtain ⟨n,hn,rfl⟩:=zb7 hi
  have et:names.take (i+1)=names.take i++[n]:=by rw [gq,hn]; rfl
  kt_k
  show if (!inV (V.int n) (R.map V.int))=true then _ else _
  rw [zch]
  by_cases c:n∈R
  ·refine zls c ?_
   refine ⟨⟨_,rfl,rfl,fun x hx=>?_⟩⟩
   rw [et,fj,fc] at hx
   rcases hx with z | z
   ·exact b x z
   ·rw [z]
    unfold zy7
    simp [c]
  ·refine zqk c ?_
   refine ⟨_,rfl,?_⟩
   have e:=(zoy (p:=zy7 R) b hn (by unfold zy7; simp [c])).1
   have z:=k _ s2
   rw [e] at z
   exact z
 ·rintro σ H' ⟨v3,rfl,rfl,b⟩
  rw [d9,gj] at b
  have e:=(zrw (p:=zy7 R) b).1
  have z:=k _ s2
  rw [e] at z
  exact z
theorem ze4.same {H H1:Hp}{rl:Addr}{R:List Int}{tl:Int->Option (List Int)}{Lr:Int->Addr}(c:ze4 H rl R tl Lr)(s:zax H H1):ze4 H1 rl R tl Lr:=by
 obtain ⟨ps,h,hp⟩:=c.ex
 exact ⟨ps,s _ _ h,hp.mp fun p t e=>s _ _ e⟩
theorem ze4.more {H:Hp}{rl p:Addr}{R:List Int}{n:Int}{tl:Int->Option (List Int)}{Lr Lr':Int->Addr}{ps:List Addr}(h:H rl=some (.lst (ps.map V.ref)))(hp:Paired (z4y tl Lr H) ps R)(hn:H p=none)(hL:∀ m∈R,tv Lr' tl m=tv Lr tl m) :
  ze4 (upd (upd H p (.tup [.int n,tv Lr' tl n])) rl (.lst (ps.map V.ref++[.ref p]))) rl (R++[n]) tl Lr':=by
 have c:p≠rl:=fun z=>by rw [z,h] at hn; cases hn
 have d:Paired (z4y tl Lr' H) ps R:=by
  clear h hn
  induction hp with
  | nil=>exact .nil
  | @cons a b ps R e _ ih =>
   refine .cons ?_ (ih fun m hm=>hL m (fg _ hm))
   show H a=some (.tup [.int b,tv Lr' tl b])
   rw [hL b (fk ..)]
   exact e
 refine ⟨ps++[p],by rw [zad]; simp,zf0 ?_ (d.mp fun a b e=>?_)⟩
 ·show upd _ _ _ p=_
  rw [zac c,zad]
 ·have e:H a=some (.tup [.int b,tv Lr' tl b]):=e
  show upd _ _ _ a=_
  rw [zac (fun z=>by rw [z,h] at e; cases e),zac (zag e hn)]
  exact e
theorem zmd {tl:Int->Option (List Int)}{R:List Int}{h:Int}:zpi tl (R++[h])=zpi tl R++if (tl h).isSome then [] else [h]:=by
 unfold zpi
 rw [ig]
 cases e:tl h with
 | none=>simp [e]
 | some ns=>simp [e]
theorem zwr {tl:Int->Option (List Int)}{R:List Int}{h:Int}{ns:List Int}(e:tl h=some ns):flR tl (R++[h])=flR tl R:=funext fun n=>by
 unfold flR
 rw [zmd,e]
 simp
theorem zw1 {tl:Int->Option (List Int)}{R:List Int}{h:Int}(e:tl h=none):flR tl (R++[h])=fun n=>if n=h then false else flR tl R n:=funext fun n=>by
 unfold flR
 rw [zmd,e]
 by_cases z:n=h
 ·simp [z]
 ·simp [z]
theorem zod {tl:Int->Option (List Int)}{st:Int}{R:List Int}{h:Int}:zkw tl st (R++[h])=zkw tl st R++zud tl st h:=by
 unfold zkw
 simp
theorem zyn {pool:List Int}{tl:Int->Option (List Int)}{st g:Int}{rm:Nat}{R ks:List Int}(o:zky pool tl)(hR:∀ h∈R,h∈pool)(hg:0<=g)(hm:∀ n,n∈ks↔n∈zkw tl st R):(zfh g (ks.filter (flR tl R))).take rm=zgf tl st g rm R:=by
 unfold zgf
 rw [zop hg (fun y hy=>o.nn y (zg1 o hR y hy).1) hm]
theorem zry {pool:List Int}{tl:Int->Option (List Int)}{st:Int}{R ks:List Int}(o:zky pool tl)(hR:∀ h∈R,h∈pool)(hd:ks.Nodup)(hm:∀ n,n∈ks↔n∈zkw tl st R):ks.length<=60 :=
 gf (zp9 hd fun n hn=>(zg1 o hR n ((hm n).mp hn)).1) o.le
structure z43 (ex:Addr->Prop)(TB:Hp->Prop)(H:Hp)(tl:Int->Option (List Int))(st:Int)(rl sd:Addr)(R ks:List Int)(Lr:Int->Addr)(H2:Hp):Prop where
 nx:Nz ex TB H H2
 row:ze4 H2 rl R tl Lr
 ls:∀ m∈R,∀ ns,tl m=some ns->H (Lr m)=none/\Lr m≠rl/\H2 (Lr m)=some (.lst (ns.map V.int))
 seen:H2 sd=some (.dK (zcn ks (flR tl R)))
 nd:ks.Nodup
 mem:∀ n,n∈ks↔n∈zkw tl st R
 qs:∀ x∈R,tl x=none->x∈ks
def zw6 (K:W.Frag)(ex:Addr->Prop)(TB:Hp->Prop)(RR:Addr->FuncData->Prop)(spA:Addr->FuncData->Sp):Sp:=fun vs H Q _=>∃ (st g rm:Int) (f:Addr) (fd:FuncData) (hs pool:List Int) (tell:Int->Int->Option (List Int)) (St:Hp->Prop),vs=[.int st,.int g,.int rm,.ref f]/\z17 K ex TB f fd (spA f fd) hs tell g St/\St H/\RR f fd/\zky pool (fun h=>tell h st)/\st∈pool/\(tell st st).isSome=true/\0<=g/\0<=rm /\
 ∀ (t rl fl:Addr) (R:List Int) (Lr:Int->Addr) (H':Hp),Row (fun h=>tell h st) st g rm.toNat R->zm3 (fun h=>tell h st) st g rm.toNat R=none->Nz ex TB H H'->H' t=some (.tup [.ref rl,.ref fl])->ze4 H' rl R (fun h=>tell h st) Lr->(∀ m∈R,∀ ns,tell m st=some ns->H (Lr m)=none/\Lr m≠rl/\H' (Lr m)=some (.lst (ns.map V.int)))->H rl=none->H fl=none->fl≠rl->H' fl=some (.lst ((zgf (fun h=>tell h st) st g rm.toNat R).map V.int))->Q (.ref t) H'
theorem ze4.nx {T0:Addr}{ex:Addr->Prop}{TB:Hp->Prop}{H H1:Hp}{rl:Addr}{R:List Int}{tl:Int->Option (List Int)}{Lr:Int->Addr}(c:ze4 H rl R tl Lr)(B:TBO T0 ex TB)(t:TB H)(a:Nz ex TB H H1):ze4 H1 rl R tl Lr:=by
 obtain ⟨ps,h,hp⟩:=c.ex
 exact ⟨ps,a.lst B t h,hp.mp fun p _ e=>a.keep B t _ _ (fun _ z=>nomatch z) e⟩
theorem zek:zaj ["start","goal","room","tells","row","seen","found","house","told"] ["start","goal","room","tells"] (zah (top 26)):=fS
theorem ztn (Z:ZZ P w K mg base){ex:Addr->Prop}{TB:Hp->Prop}{psA:List Str}{RR:Addr->FuncData->Prop}{spA:Addr->FuncData->Sp}(GA:∀ f fd,RR f fd->zc_ P w K mg base CX0 8 f fd psA (spA f fd))(bA:∀ f fd,RR f fd->zci K fd psA [])(B:TBO Z.bk.P ex TB):zgb Z 9 Z.cs (zw6 K ex TB RR spA):=by
 have b4:=zz0 Z
 have b6:=zp4 Z
 have ci:=zx2 Z
 refine Z.cs.fn.ok zek (by kd_p) (fun cdv A outer s H vs Q E hr h=>?_)
 obtain ⟨st,g,rm,f,fd,hs,pool,tell,St,rfl,W,r,hR,hP,bj,a0,hg,cb,k⟩:=h
 refine ⟨_,(zae (za2 (i:=4) zek.nd rfl oL (zb0 zab))
  (zae (za2 (i:=5) zek.nd rfl oL zj3)
  (zae (za2 (i:=6) zek.nd rfl oL (zb0 zab))
  (zae (za2 (i:=7) zek.nd rfl oL (pv 0))
  (zae (zmw PassesOwn.never (zan znk (pv 7) zdn (za5 _))
   (zae (za2 (i:=8) zek.nd rfl oL (zj2 (pv 3) GA bA hr.mm (zaa (pv 7) (zaa (pv 1) (zaa (pv 0) zab)))))
   (zae (zap (zgv ge PySem.F.slot_list_append PySem.F.type_list_append zb4 (pv 4) (zaa (ze9 (zaa (pv 7) (zaa (zj4 (zan zrq (pv 8) zdn (za5 _)) zdn (zh4 zge rfl Z.ds.n_list zm2 (zaa (pv 8) zab))) zab))) zab)))
   (zae (zap (pfD Z.cp b4 hr rfl (zaa (pv 5) (zaa (pv 0) (zaa (pv 7) (zaa (pv 8) zab))))))
   (zae (za2 (i:=6) zek.nd rfl oL (pfD Z.cq b6 hr rfl (zaa (pv 5) (zaa (pv 1) (zaa (pv 2) zab)))))
   (zaf (za2 (i:=7) zek.nd rfl oL (pfD Z.cr ci hr rfl (zaa (pv 6) (zaa (pv 4) zab))))))))))
  (zaf (zar (ze9 (zaa (pv 4) (zaa (pv 6) zab)))))))))),?_⟩
 have h9:=hP.le
 generalize b5:(fun h=>tell h st)=tl at hP k
 have au:∀ h,tell h st=tl h:=fun h=>by rw [<- b5]
 have hT:=W.tb _ r
 kt_k
 intro rl aq
 have s1:zax H (upd H rl (.lst [])):=zax.new H aq
 have e1:upd H rl (.lst []) rl=some (.lst []):=zad
 generalize upd H rl (.lst [])=H1 at s1 e1
 kt_k
 intro sd ar
 have s2:zax H1 (upd H1 sd (.dK [])):=zax.new H1 ar
 have e2:upd H1 sd (.dK []) sd=some (.dK []):=zad
 generalize upd H1 sd (.dK [])=H2 at s2 e2
 kt_k
 intro bd aj
 have s3:zax H2 (upd H2 bd (.lst [])):=zax.new H2 aj
 generalize upd H2 bd (.lst [])=H3 at s3
 have a4:H sd=none:=s1.free ar
 have ae:rl≠sd:=fun z=>by rw [<- z,e1] at ar; cases ar
 have ch:=s1.trans (s2.trans s3)
 kt_k
 refine ⟨fun m σ H4=>zer (∃ (o:Option Int) (fl:Addr) (R ks:List Int) (Lr:Int->Addr) (v8:Option V),σ=[some (.int st),some (.int g),some (.int rm),some (.ref f),some (.ref rl),some (.ref sd),some (.ref fl),some (ovI o),v8]/\z43 ex TB H tl st rl sd R ks Lr H4 /\
   ((R=[]/\o=some st)\/(Row tl st g rm.toNat R/\o=zm3 tl st g rm.toNat R/\H fl=none/\fl≠rl/\H4 fl=some (.lst ((zgf tl st g rm.toNat R).map V.int))))/\m=61 - R.length),
  ⟨_,⟨some st,bd,[],[],fun _=>0,none,rfl,⟨Nz.of B hT ch,⟨[],s3 _ _ (s2 _ _ e1),.nil⟩,fun _ z=>(nomatch z),s3 _ _ e2,je,fun n=>by simp [zkw],fun _ z=>(nomatch z)⟩,.inl ⟨rfl,rfl⟩,rfl⟩⟩,?_⟩
 rintro m σ H4 ⟨o,fl,R,ks,Lr,v8,rfl,I,ay,rfl⟩
 cases o with
 | none =>
  obtain ⟨ac,b9,aj,br,bl⟩:Row tl st g rm.toNat R/\none=zm3 tl st g rm.toNat R/\H fl=none/\fl≠rl/\H4 fl=some (.lst ((zgf tl st g rm.toNat R).map V.int)):=by
   rcases ay with ⟨_,z⟩ | z
   ·cases z
   ·exact z
  refine ⟨_,rfl,rfl,_,rfl,?_⟩
  refine zls rfl ?_
  refine ⟨_,rfl,_,rfl,(ix rfl),fun t ht=>?_⟩
  have s5:zax H4 (upd H4 t (.tup [V.ref rl,V.ref fl])):=zax.new H4 ht
  exact k t rl fl R Lr _ ac b9.symm (I.nx.trans (Nz.of B (W.tb _ (W.nx _ _ r I.nx)) s5)) zad (I.row.same s5) (fun m hm ns e=>by
   rw [au] at e
   obtain ⟨a,b,c⟩:=I.ls m hm ns e
   exact ⟨a,b,s5 _ _ c⟩) aq aj br (s5 _ _ bl)
 | some h =>
  have ah:(∀ x∈R,x∈pool)/\R.Nodup/\h∈pool/\¬ h∈R/\(tl h=none->h∈ks)/\(Row tl st g rm.toNat (R++[h])):=by
   rcases ay with ⟨rfl,z⟩ | ⟨ac,z,_⟩
   ·cases z
    exact ⟨fun _ z=>(nomatch z),je,bj,gi,fun z=>(by rw [au,z] at a0; cases a0),.one⟩
   ·obtain ⟨a1,a2⟩:=ac.ok hP bj
    obtain ⟨b1,b2⟩:=zvo z.symm
    have b3:=(zmg _ b1).1
    exact ⟨a1,a2,(zg1 hP a1 _ b3).1,b2,fun _=>(I.mem h).mpr b3,.more ac z.symm⟩
  obtain ⟨ah,ce,a9,bm,bt,a8⟩:=ah
  have cc:(R++[h]).length<=60:=gf (zp9 (zbx ce bm) (zm_ ah a9)) h9
  rw [fe,fu] at cc
  have bf:=W.nx _ _ r I.nx
  have T4:=W.tb _ bf
  refine ⟨_,rfl,rfl,_,rfl,?_⟩
  refine zqk (fun z=>nomatch z) ?_
  refine ⟨fun σ' H'=>∃ m',m'<61 - R.length/\zer (∃ (o:Option Int) (fl:Addr) (R ks:List Int) (Lr:Int->Addr) (v8:Option V),σ'=[some (.int st),some (.int g),some (.int rm),some (.ref f),some (.ref rl),some (.ref sd),some (.ref fl),some (ovI o),v8]/\z43 ex TB H tl st rl sd R ks Lr H' /\
   ((R=[]/\o=some st)\/(Row tl st g rm.toNat R/\o=zm3 tl st g rm.toNat R/\H fl=none/\fl≠rl/\H' fl=some (.lst ((zgf tl st g rm.toNat R).map V.int))))/\m'=61 - R.length),fun _ _ z=>z,?_⟩
  have cn:=zry hP ah I.nd I.mem
  have a3:∀ (H8:Hp) (v8:V) (Lr':Int->Addr) (j:List Int),Nz ex TB H H8->ze4 H8 rl (R++[h]) tl Lr'->(∀ m∈R++[h],∀ ns,tl m=some ns->H (Lr' m)=none/\Lr' m≠rl/\H8 (Lr' m)=some (.lst (ns.map V.int)))->H8 sd=some (.dK (zcn j (flR tl (R++[h]))))->j.Nodup->(∀ n,n∈j↔n∈zkw tl st (R++[h]))->(∀ x∈R++[h],tl x=none->x∈j) ->
    z4n (z4b (zxh (zmb Z.bk.P) [] E0 (zl1 (zxk 5) (zl1 (zxk 1) (zl1 (zxk 2) zzi)))) (zoi 6)) (z4b (zxh zvl [] E0 (zl1 (zxk 6) (zl1 (zxk 4) zzi))) (zoi 7))
     { nx:=fun σ' H'=>∃ m',m'<61 - R.length/\zer (∃ (o:Option Int) (fl:Addr) (R ks:List Int) (Lr:Int->Addr) (v8:Option V),σ'=[some (.int st),some (.int g),some (.int rm),some (.ref f),some (.ref rl),some (.ref sd),some (.ref fl),some (ovI o),v8]/\z43 ex TB H tl st rl sd R ks Lr H' /\
      ((R=[]/\o=some st)\/(Row tl st g rm.toNat R/\o=zm3 tl st g rm.toNat R/\H fl=none/\fl≠rl/\H' fl=some (.lst ((zgf tl st g rm.toNat R).map V.int))))/\m'=61 - R.length),rt:=Q }
     [some (.int st),some (.int g),some (.int rm),some (.ref f),some (.ref rl),some (.ref sd),some (.ref fl),some (.int h),some v8] H8:=fun H8 v8 Lr' j K8 R8 L8 bu ad v cg=>by
   have ao:=zm_ ah a9
   have cj:=zry hP ao ad v
   have T8:=W.tb _ (W.nx _ _ r K8)
   refine ⟨_,rfl,_,rfl,_,rfl,sd,g,rm,j,_,rfl,bu,by omega,hg,cb,fun n hn=>hP.nn n (zg1 hP ao n ((v n).mp hn)).1,B.t0 T8,fun lf H9 b7 cf be am=>?_⟩
   rw [zyn hP ao hg v] at am
   have ap:Nz ex TB H8 H9:=Nz.by B T8 b7 cf
   have aw:=ap.keep B T8
   have cd:H9 sd=some (.dK (zcn j (flR tl (R++[h])))):=aw _ _ (fun _ z=>nomatch z) bu
   have R9:ze4 H9 rl (R++[h]) tl Lr':=R8.nx B T8 ap
   have L9:∀ m∈R++[h],∀ ns,tl m=some ns->H (Lr' m)=none/\Lr' m≠rl/\H9 (Lr' m)=some (.lst (ns.map V.int)):=fun m hm ns e=>by
    obtain ⟨a,b,c⟩:=L8 m hm ns e
    exact ⟨a,b,aw _ _ (fun _ z=>nomatch z) c⟩
   have b0:lf≠rl:=fun z=>by
    obtain ⟨_,y,_⟩:=R8.ex
    rw [z,y] at be
    cases be
   have bn:H lf=none:=K8.free B be
   refine ⟨_,rfl,_,rfl,lf,rl,_,R++[h],tl,Lr',rfl,am,R9,by simp; omega,fun cl al=>?_⟩
   exact ⟨61 - (R++[h]).length,by simp; omega,⟨zm3 tl st g rm.toNat (R++[h]),lf,R++[h],j,Lr',_,rfl,⟨(K8.trans ap).trans (Nz.of B ap.t al),R9.same al,fun m hm ns e=>by
    obtain ⟨a,b,c⟩:=L9 m hm ns e
    exact ⟨a,b,al _ _ c⟩,al _ _ cd,ad,v,cg⟩,.inr ⟨a8,rfl,bn,b0,al _ _ am⟩,rfl⟩⟩
  have bh:=W.fn _ bf
  refine ⟨_,rfl,f,fd,rfl,bh,hR,_,rfl,_,rfl,_,rfl,bh,W.ca H4 _ h st bf (fun en H5 u=>?_) fun ns en l0 H5 u bo az=>?_⟩
  ·-- silent
   have d:tl h=none:=(au h).symm.trans en
   have N5:=I.nx.trans u
   have bc:=I.row.nx B T4 u
   have ai:=u.keep B T4
   have ab:H5 sd=some (.dK (zcn ks (flR tl R))):=ai _ _ (fun _ z=>nomatch z) I.seen
   have L5:∀ m∈R,∀ ns,tl m=some ns->H (Lr m)=none/\Lr m≠rl/\H5 (Lr m)=some (.lst (ns.map V.int)):=fun m hm ns e=>by
    obtain ⟨a,b,c⟩:=I.ls m hm ns e
    exact ⟨a,b,ai _ _ (fun _ z=>nomatch z) c⟩
   obtain ⟨ps,p,ak⟩:=bc.ex
   have an:(ps.map V.ref).length<sizeLine:=by rw [d9,ak.len]; exact zau (by omega)
   refine ⟨_,rfl,.inl ⟨rfl,_,SqL.of p⟩,_,rfl,_,rfl,rfl,_,rfl,?_⟩
   refine zlw rfl ?_
   refine ⟨(ix rfl),fun t ht=>?_⟩
   have ag:t≠rl:=fun z=>by rw [z,p] at ht; cases ht
   refine ⟨rl,_,_,rfl,rfl,(zac ag.symm).trans p,an,?_⟩
   have T5:=W.tb _ (W.nx _ _ r N5)
   have K6:Nz ex TB H (upd (upd H5 t (.tup [ovI (some h),V.non])) rl (.lst (ps.map V.ref++[V.ref t]))):=(N5.trans (Nz.of B T5 (zax.new H5 ht))).put B aq (xs:=ps.map V.ref) ((zac ag.symm).trans p)
   have R6:ze4 (upd (upd H5 t (.tup [ovI (some h),V.non])) rl (.lst (ps.map V.ref++[V.ref t]))) rl (R++[h]) tl Lr:=by
    have z:=ze4.more (n:=h) (Lr':=Lr) p ak ht fun _ _=>rfl
    rw [ztj d] at z
    exact z
   have a7:∀ q o,q≠rl->H5 q=some o->upd (upd H5 t (.tup [ovI (some h),V.non])) rl (.lst (ps.map V.ref++[V.ref t])) q=some o:=fun q o hq e=>by
    rw [zac hq,zac (zag e ht)]
    exact e
   generalize upd (upd H5 t (.tup [ovI (some h),V.non])) rl (.lst (ps.map V.ref++[V.ref t]))=H6 at K6 R6 a7
   have a6:=a7 _ _ ae.symm ab
   refine ⟨_,rfl,_,rfl,_,rfl,_,rfl,sd,st,h,V.non,ks,flR tl R,rfl,a6,I.nd,by omega,.inl ⟨rfl,bt d,?_⟩⟩
   rw [<- zw1 d]
   refine a3 _ V.non Lr ks (K6.putD B a4 a6) ?_ (fun m hm ns e=>?_) zad I.nd (fun n=>?_) (fun x hx e=>?_)
   ·obtain ⟨qs,bg,a5⟩:=R6.ex
    refine ⟨qs,(zac ae).trans bg,a5.mp fun a b e=>?_⟩
    have e:H6 a=_:=e
    exact (zac (fun z=>by rw [z,a6] at e; cases e)).trans e
   ·rw [fj,fc] at hm
    rcases hm with z | z
    ·obtain ⟨a,b,c⟩:=L5 m z ns e
     exact ⟨a,b,by rw [zac (fun y=>by rw [y,ab] at c; cases c)]; exact a7 _ _ b c⟩
    ·rw [z,d] at e
     cases e
   ·rw [I.mem,zod]
    unfold zud
    rw [d]
    simp
   ·rw [fj,fc] at hx
    rcases hx with z | z
    ·exact I.qs x z e
    ·rw [z]
     exact bt d
  ·have d:tl h=some ns:=(au h).symm.trans en
   have N5:=I.nx.trans u
   have ai:=u.keep B T4
   obtain ⟨bv,ck⟩:=hP.ns h a9 ns d
   have ab:H5 sd=some (.dK (zcn ks (flR tl R))):=ai _ _ (fun _ z=>nomatch z) I.seen
   have bc:ze4 H5 rl R tl Lr:=I.row.nx B T4 u
   have L5:∀ m∈R,∀ ns,tl m=some ns->H (Lr m)=none/\Lr m≠rl/\H5 (Lr m)=some (.lst (ns.map V.int)):=fun m hm ns e=>by
    obtain ⟨a,b,c⟩:=I.ls m hm ns e
    exact ⟨a,b,ai _ _ (fun _ z=>nomatch z) c⟩
   obtain ⟨ps,p,ak⟩:=bc.ex
   have an:(ps.map V.ref).length<sizeLine:=by rw [d9,ak.len]; exact zau (by omega)
   have bb:l0≠rl:=fun z=>by
    obtain ⟨_,y,_⟩:=I.row.ex
    rw [z,y] at bo
    cases bo
   refine ⟨_,rfl,.inl ⟨rfl,_,SqL.of p⟩,_,rfl,_,rfl,rfl,_,rfl,?_⟩
   refine ze7 (fun z=>nomatch z) ?_
   refine ⟨_,rfl,l0,ns.map V.int,rfl,.inl (SqL.of az),fun l hl=>?_⟩
   refine ⟨(ix rfl),fun t ht=>?_⟩
   have s6:zax H5 (upd H5 l (.lst (ns.map V.int))):=zax.new H5 hl
   have e6:upd H5 l (.lst (ns.map V.int)) l=some (.lst (ns.map V.int)):=zad
   have T5:=W.tb _ (W.nx _ _ r N5)
   have ax:l≠rl:=fun z=>by rw [z,p] at hl; cases hl
   have bz:H l=none:=N5.free B hl
   generalize upd H5 l (.lst (ns.map V.int))=H6 at s6 ht e6 |-
   have aa:=s6 _ _ p
   have ag:t≠rl:=fun z=>by rw [z,aa] at ht; cases ht
   refine ⟨rl,_,_,rfl,rfl,(zac ag.symm).trans aa,an,?_⟩
   have N6:=N5.trans (Nz.of B T5 s6)
   have T6:=W.tb _ (W.nx _ _ r N6)
   have K7:Nz ex TB H (upd (upd H6 t (.tup [ovI (some h),V.ref l])) rl (.lst (ps.map V.ref++[V.ref t]))):=(N6.trans (Nz.of B T6 (zax.new H6 ht))).put B aq (xs:=ps.map V.ref) ((zac ag.symm).trans aa)
   let Lr':Int->Addr:=fun m=>if m=h then l else Lr m
   have bw:Lr' h=l:=if_pos rfl
   have bq:∀ m∈R,Lr' m=Lr m:=fun m hm=>if_neg fun (z:m=h)=>bm (z ▸ hm)
   have R7:ze4 (upd (upd H6 t (.tup [ovI (some h),V.ref l])) rl (.lst (ps.map V.ref++[V.ref t]))) rl (R++[h]) tl Lr':=by
    have z:=ze4.more (n:=h) (Lr':=Lr') aa (ak.mp fun a b e=>s6 _ _ e) ht fun m hm=>by unfold tv; rw [bq m hm]
    rw [zua d,bw] at z
    exact z
   have af:∀ q o,q≠rl->H6 q=some o->upd (upd H6 t (.tup [ovI (some h),V.ref l])) rl (.lst (ps.map V.ref++[V.ref t])) q=some o:=fun q o hq e=>by
    rw [zac hq,zac (zag e ht)]
    exact e
   have L7:∀ m∈R++[h],∀ ns,tl m=some ns->H (Lr' m)=none/\Lr' m≠rl/\upd (upd H6 t (.tup [ovI (some h),V.ref l])) rl (.lst (ps.map V.ref++[V.ref t])) (Lr' m)=some (.lst (ns.map V.int)):=fun m hm ba e=>by
    rw [fj,fc] at hm
    rcases hm with z | z
    ·rw [bq m z]
     obtain ⟨a,b,c⟩:=L5 m z ba e
     exact ⟨a,b,af _ _ b (s6 _ _ c)⟩
    ·subst z
     rw [d] at e
     cases e
     rw [bw]
     exact ⟨bz,ax,af _ _ ax e6⟩
   generalize upd (upd H6 t (.tup [ovI (some h),V.ref l])) rl (.lst (ps.map V.ref++[V.ref t]))=H7 at K7 R7 af L7
   have av:=af _ _ ae.symm (s6 _ _ ab)
   have bi:=af _ _ bb (s6 _ _ az)
   refine ⟨_,rfl,_,rfl,_,rfl,_,rfl,sd,st,h,V.ref l0,ks,flR tl R,rfl,av,I.nd,by omega,.inr ⟨l0,ns,rfl,bi,bv,fun n _ cm b8=>?_,fun j ad bp=>?_⟩⟩
   ·unfold flR
    rw [jm,decide_eq_false_iff_not]
    intro z
    unfold zpi at z
    obtain ⟨z1,z2⟩:=gr.mp z
    refine b8 (I.qs n z1 ?_)
    cases e:tl n with
    | none=>rfl
    | some _=>rw [e] at z2; cases z2
   ·rw [<- zwr (R:=R) d]
    refine a3 _ (V.ref l0) Lr' j (K7.putD B a4 av) ?_ (fun m hm ba e=>?_) zad ad (fun n=>?_) fun x hx e=>?_
    ·obtain ⟨qs,bg,a5⟩:=R7.ex
     refine ⟨qs,(zac ae).trans bg,a5.mp fun a b e=>?_⟩
     have e:H7 a=_:=e
     exact (zac (fun z=>by rw [z,av] at e; cases e)).trans e
    ·obtain ⟨a,b,c⟩:=L7 m hm ba e
     exact ⟨a,b,by rw [zac (fun y=>by rw [y,av] at c; cases c)]; exact c⟩
    ·rw [bp,I.mem,zod,fj]
     unfold zud
     rw [d]
     simp
    ·rw [fj,fc] at hx
     rcases hx with z | z
     ·exact (bp x).mpr (.inl (I.qs x z e))
     ·rw [z,d] at e
      cases e
def zpa (N:Int->Nat->List Int)(h n:Int):Int->Nat->List Int:=zgc N h (zpr (N h) (zbh h n) ((N h (zbh h n)).erase n))
def learn1 (r:Int)(aw:Int->Bool)(tl:Int->Option (List Int))(N:Int->Nat->List Int)(st h:Int):Int->Nat->List Int:=if (tl h).isSome=true then zs2 r aw N st h else zpa N st h
def zjn (r:Int)(aw:Int->Bool)(tl:Int->Option (List Int))(N:Int->Nat->List Int)(st:Int):List Int->Int->Nat->List Int
 | []=>N
 | h :: t=>zjn r aw tl (learn1 r aw tl N st h) st t
theorem zhr {r:Int}{aw:Int->Bool}{tl:Int->Option (List Int)}{st h:Int}:∀ {l:List Int} {N:Int->Nat->List Int},zjn r aw tl N st (l++[h])=learn1 r aw tl (zjn r aw tl N st l) st h
 | [],_=>rfl
 | _ :: t,_=>zhr (l:=t)
theorem NOk.drop {pool:List Int}{z:Nat}{r:Int}{hs:List Int}{N:Int->Nat->List Int}(O:NOk pool z r hs N){a b:Int}:NOk pool z r hs (zpa N a b):=by
 have sub:∀ h k,∃ m,zpa N a b h k=N h k\/zpa N a b h k=(N h k).erase m:=fun h k=>by
  unfold zpa
  by_cases e:h=a
  ·subst e
   rw [zal]
   by_cases e2:k=zbh h b
   ·subst e2
    rw [za_]
    exact ⟨b,.inr rfl⟩
   ·rw [zbe e2]
    exact ⟨b,.inl rfl⟩
  ·rw [zay e]
   exact ⟨b,.inl rfl⟩
 refine ⟨fun h hh k=>?_,fun h hh k=>?_,fun h hh k m hm=>?_⟩
 ·obtain ⟨m,e | e⟩:=sub h k
  ·rw [e]
   exact O.nd h hh k
  ·rw [e]
   exact (O.nd h hh k).erase m
 ·obtain ⟨m,e | e⟩:=sub h k
  ·rw [e]
   exact O.le h hh k
  ·rw [e]
   have:=O.le h hh k
   have:=List.length_erase_le (a:=m) (l:=N h k)
   omega
 ·obtain ⟨n,e | e⟩:=sub h k
  ·rw [e] at hm
   exact O.st h hh k m hm
  ·rw [e] at hm
   exact O.st h hh k m (List.mem_of_mem_erase hm)
theorem NOk.learn1 {pool:List Int}{z:Nat}{r:Int}{hs:List Int}{N:Int->Nat->List Int}(O:NOk pool z r hs N)(hr:1<=r){aw:Int->Bool}{tl:Int->Option (List Int)}{a b:Int}(ha:a∈pool)(hb:b∈pool)(hne:b≠a):NOk pool z r hs (learn1 r aw tl N a b):=by
 unfold NN.learn1
 split
 ·exact O.meet hr ha hb hne
 ·exact O.drop
theorem NOk.learn {pool:List Int}{z:Nat}{r:Int}{hs:List Int}(hr:1<=r){aw:Int->Bool}{tl:Int->Option (List Int)}{a:Int}(ha:a∈pool):∀ {l:List Int} {N:Int->Nat->List Int},NOk pool z r hs N->(∀ x∈l,x∈pool/\x≠a)->NOk pool z r hs (zjn r aw tl N a l)
 | [],_,O,_=>O
 | x :: t,_,O,h=>NOk.learn (l:=t) hr ha (O.learn1 hr ha (h x (fk ..)).1 (h x (fk ..)).2) fun y hy=>h y (fg _ hy)
theorem zam.tupN {CB CT CW w td sd:Addr}{H:Hp}{z r:Int}{hs sil:List Int}{T:Int->zbv}(W:zam CB CT CW H w td sd z r hs sil T){q:Addr}{xs:List V}(e:H q=some (.tup xs)):¬ Own td sd z.toNat hs T q:=fun y=>by
 rcases y with rfl | rfl | ⟨g,hg,rfl | ⟨j,hj,rfl | rfl⟩⟩
 ·rw [W.tb] at e
  cases e
 ·rw [W.si] at e
  cases e
 ·rw [(W.ta g hg).li] at e
  cases e
 ·obtain ⟨⟨d,e1⟩,_⟩:=(W.ta g hg).bk j hj
  rw [e1] at e
  cases e
 ·rw [((W.ta g hg).bk j hj).li] at e
  cases e
theorem zvx (x:V)(xs:List V):znu (x :: xs) (some 1) none=xs:=by
 unfold znu
 have e1:HT.sIx (x :: xs).length 0 (some 1)=1:=by
  have:=HT.sIx_nat (x :: xs).length 0 1
  rw [show ((1:Nat):Int)=1 from rfl] at this
  rw [this]
  simp
 rw [e1,HT.sIx_none,List.drop_succ_cons,mf]
 exact ii (by simp)
theorem zam.dropped {CB CT CW w td sd T1:Addr}{H H':Hp}{z r:Int}{hs sil:List Int}{T:Int->zbv}(W:zam CB CT CW H w td sd z r hs sil T)(A:zck z.toNat hs T)(t:Tab H T1 (za7 zea) quH){h n:Int}(hh:h∈hs)(hst:zbh h n<z.toNat)
  (B:zdc CB H' ((T h).bA (zbh h n)) ((T h).lA (zbh h n)) r (((T h).ns (zbh h n)).erase n))(b:ztg ((T h).lA (zbh h n)) H H') :
  ∃ T',zam CB CT CW H' w td sd z r hs sil T'/\zck z.toNat hs T'/\(fun g=>(T' g).ns)=zpa (fun g=>(T g).ns) h n/\zeh T1 H H' (Own td sd z.toNat hs T) (Own td sd z.toNat hs T')/\Tab H' T1 (za7 zea) quH:=by
 have a:=(W.ta h hh).bk _ hst
 have he:∀ q,H' q=none->H q=none:=fun q e=>by
  cases eq:H q with
  | none=>rfl
  | some o =>
   exfalso
   by_cases e2:q=(T h).lA (zbh h n)
   ·rw [e2,B.li] at e
    cases e
   ·rw [b q o eq e2] at e
    cases e
 obtain ⟨W3,A3,d3⟩:=W.turn (T1:=T1) A hh hst B (.inl rfl) (fun q o _ e _ y=>b q o e y) he (fun q ps e _=>b q _ e (fun y=>by
  rw [y,a.li] at e
  cases e))
 refine ⟨_,W3,A3,?_,d3,Tab.hold t fun q o ho e=>b q o e (fun y=>?_)⟩
 ·rw [ztr]
  rfl
 ·subst y
  rcases ho with ⟨x,kk,rfl⟩ | y
  ·rw [a.li] at e
   cases e
  ·obtain ⟨ps,hP,_⟩:=t
   rw [<- y,a.li] at hP
   cases hP
def zxa (CB CT CW T1:Addr):Sp:=fun vs H Q _=>∀ CC:Prop,(∀ (w td sd rl:Addr) (z r:Int) (hs sil pool rest:List Int) (T:Int->zbv) (st:Int) (tl:Int->Option (List Int)) (Lr:Int->Addr),vs=[.ref w,.int st,.ref rl]->zam CB CT CW H w td sd z r hs sil T->zck z.toNat hs T->NOk pool z.toNat r hs (fun g=>(T g).ns)->st∈hs->st∈pool->ze4 H rl (st :: rest) tl Lr->rest.length<=60->((∀ h∈rest,h∈pool/\h≠st/\0<=h/\h<2 ^ z.toNat/\((tl h).isSome=true->h∈hs)))->Tab H T1 (za7 zea) quH->(∀ (H':Hp) (T':Int->zbv),zam CB CT CW H' w td sd z r hs sil T'->zck z.toNat hs T'->(fun g=>(T' g).ns)=zjn r (awB hs sil) tl (fun g=>(T g).ns) st rest->zeh T1 H H' (Own td sd z.toNat hs T) (Own td sd z.toNat hs T')->Tab H' T1 (za7 zea) quH->Q .non H')->CC)->CC
theorem zkt:zaj ["self","name"] ["self","name"] (zah (zai (top 34) 3)):=fS
theorem zlh (Z:ZZ P w K mg base):zco Z 1 Z.ct (zz4 Z.ba.C):=by
 have d:=Z.ba.cl
 obtain ⟨f,b,-⟩:=Z.ba.na
 refine Z.ct.fn.ok zkt (by kd_p) (fun cdv A outer s H vs Q E hr h=>?_)
 obtain ⟨p,l,r,n,ns,rfl,⟨⟨dx,hp⟩,hl⟩,k⟩:=h
 have a:p≠l:=zdv hp hl (by intro z; cases z)
 refine ⟨_,(zae (zbn (zan zcf (pv 1) (za9 (pv 0) rfl) (by with_unfolding_all rfl))
   (zaf (zar zfw))
   za6)
  (zae (zap (zgv ge jv jw zkp (za9 (pv 0) rfl) (zaa (pv 1) zab)))
  (zaf (zar zfw)))),?_⟩
 kt_k
 show if (!inV (V.int n) (ns.map V.int))=true then _ else _
 rw [zch]
 by_cases hn:n∈ns
 ·refine zls hn ?_
  kt_k
  have q:=k (upd H l (.lst ((ns.erase n).map V.int))) ⟨⟨dx,by rw [zac a]; exact hp⟩,zad⟩ fun c o e hc=>by rw [zac hc]; exact e
  rw [decide_eq_true hn] at q
  exact q
 ·refine zqk hn ?_
  have q:=k H ⟨⟨dx,hp⟩,by rw [List.erase_of_not_mem hn]; exact hl⟩ fun c o e hc=>e
  rw [decide_eq_false hn] at q
  exact q
theorem zl5:zaj ["self","name"] ["self","name"] (zah (zai (top 36) 2)):=fS
theorem zhh (Z:ZZ P w K mg base):zco Z 4 Z.cu (zw8 Z.ba.C Z.bb.C):=by
 have q:=Z.bb.cl
 obtain ⟨x,p,o,y,-⟩:=Z.bb.na
 have d:=zi3 (CB:=Z.ba.C) Z
 have h:=zlh Z
 refine Z.cu.fn.ok zl5 (by kd_p) (fun cdv A outer s H vs Q E hr g=>?_)
 refine g _ fun t bl own z r m n bA lA ns i hT h1 h2 h3 h4 c=>?_
 subst i
 obtain ⟨k1,k2⟩:=c
 obtain ⟨⟨dx,v⟩,aa,f,-⟩:=id hT
 refine ⟨_,(zae (zbn (zan zhu (pv 1) (za9 (pv 0) rfl) (za5 _))
   (zaf (zar zfw))
   za6)
  (zaf (zar (pmD (pmD (pv 0) Z.bb.cl Z.bm d hr (zaa (pv 1) zab)) Z.ba.cl Z.ct h hr (zaa (pv 1) zab))))),?_⟩
 kt_k
 by_cases b:m=own
 ·subst b
  refine zlw rfl ?_
  exact k1 rfl
 ·have a:own≠m:=fun e=>b e.symm
  refine ze7 (fun e=>b (by injection e)) ?_
  have j:=zdy h1 h2 h3 h4 a
  have hB:=f _ j
  obtain ⟨⟨dk,u⟩,l⟩:=id hB
  have kk:=k2 a
  kt_k
theorem zex:zaj ["self","start","row","house","told"] ["self","start","row"] (zah (zai (top 39) 21)):=fS
theorem zlq (Z:ZZ P w K mg base):zco Z 11 Z.cv (zxa Z.ba.C Z.bb.C Z.bc.C Z.b8.P):=by
 have a3:=Z.bc.cl
 obtain ⟨az,ay,a2,a7,-⟩:=Z.bc.na
 have an:=zjf Z
 have am:=zhh Z
 refine Z.cv.fn.ok zex (by kd_p) (fun cdv A outer s H vs Q E hr af=>?_)
 refine af _ fun w td sd rl z r hs sil pool c TT st tl Lr ah hW hA hO l j u aw b hT k=>?_
 subst ah
 obtain ⟨ps,a8,ak⟩:=u.ex
 cases ak with
 | @cons p0 _ pt _ hp0 hpt =>
 have ag:=hW.r1
 have a0:=hW.r2
 refine ⟨_,(zaf (zca PassesOwn.never rfl (zbb (zei zgl (pv 2) (zfn zak) zhl)) (zo_ (n:=2) rfl (zb1 (zas (i:=3) zex.nd rfl oL) (zb1 (zas (i:=4) zex.nd rfl oL) zi0)))
   (zaf (zbn (zan zrq (pv 4) zdn (za5 _))
    (zaf (zap (pmD (zep (zfm hr) (za9 (pv 0) rfl) (pv 1) (fun _ _=>rfl)) Z.bb.cl Z.cu am hr (zaa (pv 3) zab))))
    (zaf (zap (pmD (pv 0) Z.bc.cl Z.b9 an hr (zaa (pv 1) (zaa (pv 3) zab))))))))),?_⟩
 kt_k
 rw [gu,zvx]
 intro sl ac
 have s1:zax H (upd H sl (.lst (pt.map V.ref))):=zax.new H ac
 have e1:upd H sl (.lst (pt.map V.ref)) sl=some (.lst (pt.map V.ref)):=zad
 generalize upd H sl (.lst (pt.map V.ref))=H1 at s1 e1 |-
 have W1:=hW.keep (H':=H1) fun q o _ e=>s1 _ _ e
 have ap:¬ Own td sd z.toNat hs TT sl:=hW.notOwn ac
 have aa:=hpt.len
 kt_k
 refine zbs (K:=K) (a:=sl) (xs:=pt.map V.ref) (fun i σ H2=>zer (∃ (v3 v4:Option V) (T2:Int->zbv),σ=[some (.ref w),some (.int st),some (.ref rl),v3,v4]/\zam Z.ba.C Z.bb.C Z.bc.C H2 w td sd z r hs sil T2/\zck z.toNat hs T2/\(fun g=>(T2 g).ns)=zjn r (awB hs sil) tl (fun g=>(TT g).ns) st (c.take i)/\zeh Z.b8.P H1 H2 (Own td sd z.toNat hs TT) (Own td sd z.toNat hs T2)/\Tab H2 Z.b8.P (za7 zea) quH))
  ⟨⟨_,_,TT,rfl,W1,hA,rfl,zeh.refl _ _,(s1.but _).2 _ _ hT⟩⟩ (fun i σ H2 _ ⟨_,_,_,_,_,_,_,d,_⟩=>SqL.of (d.k _ _ (fun _ z=>nomatch z) e1 ap)) ?_ ?_
 ·rintro i y σ H2 hi ⟨v3,v4,T2,rfl,W2,A2,e2,d2,t2⟩
  obtain ⟨p,h,hp,hh,rfl,m⟩:=zfd hpt hi
  have m:H p=some (.tup [.int h,tv Lr tl h]):=m
  have ae:H2 p=some (.tup [.int h,tv Lr tl h]):=d2.k _ _ (fun _ z=>nomatch z) (s1 _ _ m) (hW.tupN m)
  obtain ⟨a4,aj,al,aq,ao⟩:=b h (fm hh)
  have et:c.take (i+1)=c.take i++[h]:=by rw [gq,hh]; rfl
  have O2:NOk pool z.toNat r hs (fun g=>(T2 g).ns):=by
   rw [e2]
   exact NOk.learn ag j hO fun x hx=>⟨(b x (gy hx)).1,(b x (gy hx)).2.1⟩
  have a1:∀ g∈hs,∀ k,((T2 g).ns k).length<=1000:=fun g hg k=>by
   have:(((T2 g).ns k).length:Int)<=r:=O2.le g hg k
   omega
  obtain ⟨⟨ax,ar⟩,ab,au,ad,-⟩:=id W2
  have ai:=ad st l
  obtain ⟨a6,av⟩:=ai.ob
  have hg:zik H2 td (V.int st) (some (V.ref (T2 st).t)):=by
   have:=zik.k (k:=Sum.inl st) ab
   rw [zcd,if_pos l] at this
   exact this
  have v:=W2.hb st l
  cases f:tl h with
  | none =>
   rw [ztj f] at ae
   have j:zbh st h<z.toNat:=zdy v.1 al v.2 aq (Ne.symm aj)
   kt_k
   intro _ H3 B3 b3
   obtain ⟨T3,W3,A3,e3,d3,t3⟩:=W2.dropped A2 t2 l j B3 b3
   refine ⟨⟨_,_,T3,rfl,W3,A3,?_,d2.trans d3,t3⟩⟩
   rw [e3,e2,et,zhr]
   unfold learn1
   rw [f]
   rfl
  | some ns =>
   rw [zua f] at ae
   have a5:=ao (by rw [f]; rfl)
   kt_k
   intro H3 T3 W3 A3 e3 d3 t3
   refine ⟨⟨_,_,T3,rfl,W3,A3,?_,d2.trans d3,t3⟩⟩
   rw [e3,e2,et,zhr]
   unfold learn1
   rw [f]
   rfl
 ·rintro σ H2 ⟨v3,v4,T2,rfl,W2,A2,e2,d2,t2⟩
  rw [d9,aa,gj] at e2
  exact k H2 T2 W2 A2 e2 ((zeh.same s1).trans d2) t2
theorem zmk {z r:Int}{hs sil pool:List Int}{N:Int->Nat->List Int}{g st:Int}(O:NOk pool z.toNat r hs N)(hr:r<=8)(hl:pool.length<=60)(hn:∀ x∈pool,0<=x):zky pool (fun h=>zdg z r hs sil N g h st):=by
 refine ⟨hl,hn,fun n _ ns e=>?_⟩
 have e:zdg z r hs sil N g n st=some ns:=e
 unfold zdg at e
 split at e
 ·rename_i a
  cases e
  refine ⟨?_,fun m hm=>?_⟩
  ·rw [gh]
   omega
  ·have y2:=(gr.mp (zla.mp (gy hm))).1
   obtain ⟨k,_,hm⟩:=zdh.mp ((zaw _).subset y2)
   exact (O.st n (zi5 a).1 k m hm).1
 ·cases e
structure z4_ (T0 T1 T3:Addr)(H H':Hp)(O O':Addr->Prop):Prop where
 k:∀ q o,(∀ ps,o≠ .tbl ps)->H q=some o->¬ O q->H' q=some o
 o:∀ q,O' q->O q\/H q=none
 e:∀ q,H' q=none->H q=none
 t:∀ q ps,H q=some (.tbl ps)->q≠T0->q≠T1->q≠T3->H' q=some (.tbl ps)
 t0:Tab H' T0 (za7 zd_) quL
 t1:Tab H' T1 (za7 zjz) quT
 t3:Tab H' T3 (za7 zea) quH
def z3d (CB CT CW T0 T1 T3:Addr):Sp:=fun vs H Q _=>∀ CC:Prop,(∀ (w td sd:Addr) (z r:Int) (hs sil pool:List Int) (T:Int->zbv) (i g:Int),vs=[.ref w,.int i,.int g]->zam CB CT CW H w td sd z r hs sil T->zck z.toNat hs T->NOk pool z.toNat r hs (fun h=>(T h).ns)->pool.length<=60->((∀ x∈pool,0<=x/\x<2 ^ z.toNat))->((∀ x∈hs,x∈pool))->i∈hs->i∉sil->0<=g->g<2 ^ z.toNat->Tab H T0 (za7 zd_) quL->Tab H T1 (za7 zjz) quT->Tab H T3 (za7 zea) quH->(∀ (t rl fl:Addr) (rest:List Int) (Lr:Int->Addr) (H':Hp) (T':Int->zbv),Row (fun h=>zdg z r hs sil (fun h=>(T h).ns) g h i) i g r.toNat (i :: rest)->zm3 (fun h=>zdg z r hs sil (fun h=>(T h).ns) g h i) i g r.toNat (i :: rest)=none->zam CB CT CW H' w td sd z r hs sil T'->zck z.toNat hs T'->(fun h=>(T' h).ns)=zjn r (awB hs sil) (fun h=>zdg z r hs sil (fun h=>(T h).ns) g h i) (fun h=>(T h).ns) i rest->z4_ T0 T1 T3 H H' (Own td sd z.toNat hs T) (Own td sd z.toNat hs T')->H' t=some (.tup [.ref rl,.ref fl])->ze4 H' rl (i :: rest) (fun h=>zdg z r hs sil (fun h=>(T h).ns) g h i) Lr->(∀ m∈i :: rest,∀ ns,zdg z r hs sil (fun h=>(T h).ns) g m i=some ns->H (Lr m)=none/\Lr m≠rl/\H' (Lr m)=some (.lst (ns.map V.int))/\¬ Own td sd z.toNat hs T' (Lr m))->H rl=none->H fl=none->fl≠rl->¬ Own td sd z.toNat hs T' fl->H' fl=some (.lst ((zgf (fun h=>zdg z r hs sil (fun h=>(T h).ns) g h i) i g r.toNat (i :: rest)).map V.int))->Q (.ref t) H')->CC)->CC
theorem zln:zaj ["self","start","goal","answer"] ["self","start","goal"] (zah (zai (top 39) 9)):=fS
theorem zp7 (Z:ZZ P w K mg base):zco Z 12 Z.cw (z3d Z.ba.C Z.bb.C Z.bc.C Z.bk.P Z.cn.P Z.b8.P):=by
 have bp:=Z.bc.cl
 obtain ⟨bm,bh,bo,bq,-⟩:=Z.bc.na
 have GA:∀ f fd,RT f fd->zc_ P w K mg base CX0 8 f fd ["house","goal","asker"] (spT Z.ba.C Z.bb.C Z.bc.C Z.bk.P f fd):=fun f fd _=>zu5 Z
 have bA:∀ f fd,RT f fd->zci K fd ["house","goal","asker"] []:=fun f fd h=>zv4 h
 have a1:=zc7 (CB:=Z.ba.C) (CT:=Z.bb.C) Z
 have a7:=zbd (CB:=Z.ba.C) (CT:=Z.bb.C) Z
 have be:=zhi Z Z.cn Z.dw
 have bd:=ztn Z GA bA zt9
 have an:=zlq Z
 refine Z.cw.fn.ok zln (by kd_p) (fun cdv A outer s H vs Q E hr am=>?_)
 refine am _ fun w td sd z r hs sil pool TT i g ao hW hA hO ah ab v hi az hg bn a2 ai a4 k=>?_
 subst ao
 obtain ⟨dx,bj⟩:=hW.ob
 have bi:=hW.r1
 have ap:=hW.r2
 have a8:zki z hs (fun h=>(TT h).ns):=fun h hh=>⟨gz (hO.len hh z.toNat) (by omega),fun y hy=>by
  obtain ⟨kk,_,hm⟩:=zdh.mp hy
  exact (ab y (hO.st h hh kk y hm).1).1⟩
 refine ⟨_,(zae (zap (pmD (pv 0) Z.bc.cl Z.b0 a7 hr (zaa (pv 1) zab)))
  (zae (zap (pmD (pv 0) Z.bc.cl Z.bx a1 hr (zaa (pv 2) zab)))
  (zae (za2 (i:=3) zln.nd rfl oL (pfD Z.cs bd hr rfl (zaa (pv 1) (zaa (pv 2) (zaa (za9 (pv 0) rfl) (zaa (zbi (pv 0) Z.bc.cl Z.cn.me be hr.mm Z.cn.b .nil zbw) zab))))))
  (zae (zap (pmD (pv 0) Z.bc.cl Z.cv an hr (zaa (pv 1) (zaa (zfg zyw (pv 3) zak (fun _ _=>rfl)) zab))))
  (zaf (zar (pv 3))))))),?_⟩
 kt_k
 intro f fd fo k0 H1 aa u hf hR ax a0 hF
 have kp:∀ q o,(∀ ps,o≠ .tbl ps)->H q=some o->H1 q=some o:=fun q o ho e=>aa q o (fun y=>by
  obtain ⟨ps,hP,_⟩:=ai
  rw [y,hP] at e
  cases e
  exact ho _ rfl) e
 have n:Tab H1 Z.bk.P (za7 zd_) quL:=Tab.hold a2 fun q o h e=>aa q o (fun y=>by
  rcases h with ⟨x,k,rfl⟩ | h
  ·obtain ⟨ps,hP,_⟩:=ai
   rw [y,hP] at e
   cases e
  ·exact Z.dx (h.symm.trans y)) e
 have W1:=hW.keep kp
 have ad:(zdg z r hs sil (fun h=>(TT h).ns) g i i).isSome=true:=by
  rw [zes]
  unfold awB
  rw [decide_eq_true hi,decide_eq_false az]
  rfl
 have free:∀ {q:Addr},H1 q=none->H q=none:=fun {q} e=>by
  cases eq:H q with
  | none=>rfl
  | some o =>
   by_cases y:q=Z.cn.P
   ·obtain ⟨ps,hP,_⟩:=u
    rw [y,hP] at e
    cases e
   ·rw [aa q o y eq] at e
    cases e
 have K1:Kx Z.bk.P Z.cn.P H H1:=⟨kp,n,u,fun q ps e _ y=>aa q _ y e,fun q e=>free e⟩
 have l:zky pool (fun h=>zdg z r hs sil (fun h=>(TT h).ns) g h i):=zmk hO ap ah fun x hx=>(ab x hx).1
 have aq:0<=r:=by omega
 refine ⟨i,g,r,f,fd,hs,pool,_,_,rfl,zti a8 a0 hg,⟨W1,n,ax,hF⟩,hR,l,v i hi,ad,hg,aq,fun t rl fl R Lr H2 j ay N2 ht a5 a3 af ae ag ac=>?_⟩
 have K2:Kx Z.bk.P Z.cn.P H H2:=K1.trans (Kx.nx Z.dx n u N2.nx)
 have W2:=hW.keep K2.k
 have t3:=K2.tab a4 Z.d0.symm Z.d1.symm
 obtain ⟨d,rfl⟩:∃ d,R=i :: d:=by
  have:=j.head
  cases R with
  | nil=>cases this
  | cons a b =>
   cases this
   exact ⟨b,rfl⟩
 obtain ⟨aj,al⟩:=j.ok l (v i hi)
 obtain ⟨a9,au⟩:=j7.mp al
 have ar:d.length<=60:=gf (zp9 au fun x hx=>aj x (fg _ hx)) ah
 have ak:∀ h∈d,h∈pool/\h≠i/\0<=h/\h<2 ^ z.toNat/\((zdg z r hs sil (fun h=>(TT h).ns) g h i).isSome=true->h∈hs):=fun h hh=>by
  have hp:=aj h (fg _ hh)
  refine ⟨hp,fun e=>a9 (e ▸ hh),(ab h hp).1,(ab h hp).2,fun e=>?_⟩
  rw [zes] at e
  exact (zi5 e).1
 have bl:=v i hi
 obtain ⟨bg,bf⟩:=W2.ob
 have a6:¬ Own td sd z.toNat hs TT rl:=hW.notOwn (free af)
 kt_k
 intro H3 T3 W3 A3 e3 d3 av
 have kt:=zsw.deed W2 d3
 have no:∀ {q:Addr} {o:HO},H q=none->H2 q=some o->¬ Own td sd z.toNat hs T3 q:=fun {q o} e e2 y=>by
  rcases d3.o q y with y | y
  ·exact hW.notOwn e y
  ·rw [e2] at y
   cases y
 kt_k
 refine k t rl fl d Lr H3 T3 j ay W3 A3 e3 ⟨fun q o ho e hn=>d3.k q o ho (K2.k q o ho e) hn,fun q y=>(d3.o q y).imp id (K2.e q),fun q e=>K2.e q (d3.e q e),fun q ps e y0 y1 y3=>d3.t q ps (K2.b q ps e y0 y1) y3,kt _ _ _ Z.d0 K2.t0,kt _ _ _ Z.d1 K2.t1,av⟩ (d3.k _ _ (fun _ z=>nomatch z) ht (W2.tupN ht)) ?_ (fun m hm ns e=>?_) (free af) (free ae) ag (no (free ae) ac) (d3.k _ _ (fun _ z=>nomatch z) ac (hW.notOwn (free ae)))
 ·obtain ⟨ps,v,aw⟩:=a5.ex
  exact ⟨ps,d3.k _ _ (fun _ z=>nomatch z) v a6,aw.mp fun p h e=>d3.k _ _ (fun _ z=>nomatch z) e (W2.tupN e)⟩
 ·obtain ⟨a,b,c⟩:=a3 m hm ns e
  exact ⟨free a,b,d3.k _ _ (fun _ z=>nomatch z) c (hW.notOwn (free a)),no (free a) c⟩
theorem zzx {i k:Int}(hi:0<=i):Builtin.bitXor (i / 2 ^ k.toNat) 1 * 2 ^ k.toNat=((znb i.toNat k.toNat:Nat):Int):=by
 have e:(i / 2 ^ k.toNat).toNat=i.toNat / 2 ^ k.toNat:=by
  have h1:i=((i.toNat:Nat):Int):=by omega
  have h2:i / 2 ^ k.toNat=((i.toNat / 2 ^ k.toNat:Nat):Int):=by
   rw [Int.natCast_ediv,zhx,<- h1]
  rw [h2,ij]
 have nn:0<=i / 2 ^ k.toNat:=Int.ediv_nonneg hi (Int.le_of_lt (by
  have:=ll (n:=k.toNat) (show 0<2 by decide)
  have:=zhx k.toNat
  omega))
 rw [bx nn (by decide),e]
 unfold znb
 rw [Int.natCast_mul,zhx]
 rfl
theorem z4a (a:Int)(k:Nat):Builtin.bitOr (a * 2 ^ k) (1 * 2 ^ k - 1)=a * 2 ^ k+(2 ^ k - 1):=by
 rw [PyProof.Rows.bitOr_and,n9,PySem.W.kbt_mask,Int.mul_emod_left]
 omega
theorem zsk {a:Int}(h0:0<=a)(h1:a<2 ^ 63):(Builtin.bitXor a 1).natAbs<2 ^ 64:=by
 have:=bx h0 (show (0:Int)<=1 by decide)
 have z:=Nat.xor_lt_two_pow (x:=a.toNat) (y:=(1:Int).toNat) (n:=63) (by omega) (by decide)
 omega
def z3y:Sp:=fun vs H Q _=>∃ i k:Int,vs=[.int i,.int k]/\0<=i/\i<2 ^ 60/\0<=k/\k<=60 /\
 ∀ (p:Addr) (H':Hp),zax H H'->H p=none->H' p=some (.tup [.int (znb i.toNat k.toNat:Nat),.int ((znb i.toNat k.toNat+(2 ^ k.toNat - 1):Nat))])->Q (.ref p) H'
theorem zqz:zaj ["name","k","low","high"] ["name","k"] (zah (top 16)):=fS
theorem zzq (Z:ZZ P w K mg base):zgb Z 1 Z.cx z3y:=by
 refine Z.cx.fn.ok zqz (by kd_p) (fun cdv A outer s H vs Q E hr h=>?_)
 obtain ⟨i,k,rfl,hi,b,hk,a,kk⟩:=h
 refine ⟨_,(zae (za2 (i:=2) zqz.nd rfl oL (za8 zi9 (za8 zmh (za8 z2i (pv 0) (pv 1)) zak) (pv 1)))
  (zae (za2 (i:=3) zqz.nd rfl oL (za8 z48 (pv 2) (za8 zrt (za8 zi9 zak (pv 1)) zak)))
  (zaf (zar (ze9 (zaa (pv 2) (zaa (pv 3) zab))))))),?_⟩
 have q:=zd8 k.toNat
 have d0:0<=i / 2 ^ k.toNat:=Int.ediv_nonneg hi (Int.le_of_lt q)
 have d1:i / 2 ^ k.toNat<2 ^ 63:=Int.lt_of_le_of_lt (Int.ediv_le_self _ hi) (by omega)
 refine ⟨_,rfl,_,rfl,_,_,rfl,rfl,hk,_,_,rfl,rfl,_,rfl,_,_,rfl,rfl,⟨hk,by omega,zsk d0 d1⟩,?_⟩
 refine ⟨_,rfl,_,rfl,_,_,rfl,rfl,⟨hk,by omega,by decide⟩,_,_,rfl,rfl,_,_,rfl,rfl,?_⟩
 refine ⟨_,rfl,_,rfl,(show 2<=sizeLine by decide),fun p hp=>?_⟩
 refine kk p _ (zax.new H hp) hp ?_
 rw [zad]
 have e1:=zzx (i:=i) (k:=k) hi
 have e2:=z4a (Builtin.bitXor (i / 2 ^ k.toNat) 1) k.toNat
 have e3:=zhx k.toNat
 have e4:((znb i.toNat k.toNat+(2 ^ k.toNat - 1):Nat):Int)=(znb i.toNat k.toNat:Nat)+((2:Int) ^ k.toNat - 1):=by omega
 show some (HO.tup [V.int (Builtin.bitXor (i / 2 ^ k.toNat) 1 * 2 ^ k.toNat),V.int (Builtin.bitOr (Builtin.bitXor (i / 2 ^ k.toNat) 1 * 2 ^ k.toNat) (1 * 2 ^ k.toNat - 1))])=_
 rw [e2,e1,e4]
def zw3 (K:W.Frag):Sp:=fun vs H Q _=>∀ CC:Prop,(∀ (p e:Addr) (ns:List Int) (lo hi:Int),vs=[.ref p,.ref e]->SqL K H p (ns.map V.int)->ns.length<64->H e=some (.tup [.int lo,.int hi])->(∀ (l:Addr) (H':Hp),zax H H'->H l=none->H' l=some (.lst ((ns.filter fun n=>decide (lo<=n) && decide (n<=hi)).map V.int))->Q (.ref l) H')->CC)->CC
theorem ztd:zaj ["names","ends"] ["names","ends"] (zah (top 21)):=fS
theorem zsc (Z:ZZ P w K mg base):zgb Z 1 Z.cz (zw3 K):=by
 refine Z.cz.fn.ok ztd (by kd_p) (fun cdv A outer s H vs Q E hr b=>?_)
 refine b _ fun p e ns lo hi d hS hl he k=>?_
 subst d
 refine ⟨_,(zaf (zar (zct rfl (zaz (own:=["name"]) (caps:=[1]) (N':=["name","ends"]) (by kernel_rfl)) (zbb (pv 0)) (fun _ _ _ _ _=>(zas (i:=0) (show (["name","ends"]:List Str).Nodup by decide +kernel) rfl oL)) (fun _ _ _ _ _=>(zcu (zxw zwf zwf (zfg (zts (K:=K) rfl) (pv 1) zak (fun _ _=>rfl)) (pv 0) (zfg (zts (K:=K) rfl) (pv 1) zak (fun _ _=>rfl))))) (fun _ _ _ _ _=>(pv 0))))),?_⟩
 kt_k
 refine ⟨⟨_,hS⟩,fun Dl a=>?_⟩
 refine zbo (fun n=>decide (lo<=n) && decide (n<=hi)) a hS (by omega) (fun x hx H2 Qt s2 q=>?_) fun H2 s2 c=>?_
 ·have f:=s2 _ _ he
  have q2:=q H2 (zax.refl H2)
  kt_k
  by_cases h:lo<=x
  ·rw [decide_eq_true h,Bool.true_and] at q2
   refine zlw h ?_
   kt_k
  ·rw [decide_eq_false h,Bool.false_and] at q2
   refine ze7 h ?_
   kt_k
 ·exact k Dl H2 s2 a c
def zo9 (r:Int)(aw:Int->Bool)(ns ds:List Int):Bool:=ns.all aw && (decide ((ns.length:Int)=r) || ds.all fun d=>decide (d∈ns))
def z27 (K:W.Frag)(CB CT CW:Addr):Sp:=fun vs H Q _=>∀ CC:Prop,(∀ (w td sd:Addr) (z r:Int) (hs sil:List Int) (T:Int->zbv) (p q:Addr) (ns ds:List Int),vs=[.ref w,.ref p,.ref q]->zam CB CT CW H w td sd z r hs sil T->H p=some (.lst (ns.map V.int))->H q=some (.lst (ds.map V.int))->ns.length<=60->ds.length<=60->(∀ H',zax H H'->Q (.bl (zo9 r (awB hs sil) ns ds)) H')->CC)->CC
theorem zm9:zaj ["town","kept","due"] ["town","kept","due"] (zah (top 22)):=fS
theorem zmz (Z:ZZ P w K mg base){CB CT:Addr}:zgb Z 5 Z.c0 (z27 K CB CT Z.bc.C):=by
 have ad:=Z.bc.cl
 obtain ⟨ae,ac,ab,af,-⟩:=Z.bc.na
 have v:=zbg (CB:=CB) (CT:=CT) Z
 refine Z.c0.fn.ok zm9 (by kd_p) (fun cdv A outer s H vs Q E hr t=>?_)
 refine t _ fun w td sd z r hs sil TT p q ns ds u hW hp hq hn hd k=>?_
 subst u
 obtain ⟨dx,c⟩:=hW.ob
 refine ⟨_,(zae (zbn (zd3 (zb_ (za0 (zrj rfl) rfl Z.ds.n_all zze (zaa (zct rfl (zaz (own:=["name"]) (caps:=[0]) (N':=["name","town"]) (by kernel_rfl)) (zbb (pv 1)) (fun _ _ _ _ _=>(zas (i:=0) (show (["name","town"]:List Str).Nodup by decide +kernel) rfl oL)) (fun _ _ _ _ _=>zfx) (fun _ _ _ _ _=>(pmD (pv 1) Z.bc.cl Z.bt v hr (zaa (pv 0) zab)))) zab))))
   (zaf (zar zfw))
   za6)
  (zaf (zar (z4o (zd7 zhu (za0 za3 rfl Z.ds.n_len zc1 (zaa (pv 1) zab)) (za9 (pv 0) rfl) (za5 _)) (zjr (za0 (zrj rfl) rfl Z.ds.n_all zze (zaa (zct rfl (zaz (own:=["name"]) (caps:=[1]) (N':=["name","kept"]) (by kernel_rfl)) (zbb (pv 2)) (fun _ _ _ _ _=>(zas (i:=0) (show (["name","kept"]:List Str).Nodup by decide +kernel) rfl oL)) (fun _ _ _ _ _=>zfx) (fun _ _ _ _ _=>(zd7 (ze6 (K:=K) rfl) (pv 0) (pv 1) (by with_unfolding_all rfl)))) zab))))))),?_⟩
 kt_k
 intro Dl g
 refine zd2 (xs:=ns.map V.int) (fun j σ H2=>zer (∃ v0:Option V,σ=[v0,some (.ref w)]/\zax H H2/\H2 Dl=some (.lst (((ns.take j).map (awB hs sil)).map V.bl)))) ⟨⟨none,rfl,zax.new H g,zad⟩⟩ (fun j σ H2 _ ⟨_,_,s,_⟩=>SqL.of (s _ _ hp)) ?_ ?_
 ·rintro j x σ H2 hj ⟨v0,rfl,s2,l⟩
  obtain ⟨n,a,rfl⟩:=zb7 hj
  have W2:=hW.keep (H':=H2) fun q o _ e=>s2 _ _ e
  have b:=s2 _ _ c
  have hsz:(((ns.take j).map (awB hs sil)).map V.bl).length<sizeLine:=by
   rw [d9,d9,gh]
   exact zau (by omega)
  kt_k
  refine .inl ⟨n,rfl,?_⟩
  rw [zkn hW.hb hW.z1 n]
  kt_k
  refine ⟨⟨_,rfl,s2.put g,?_⟩⟩
  rw [zad,gq,a]
  simp
 ·rintro σ H2 ⟨v0,rfl,s2,l⟩
  rw [d9,gj] at l
  have ea:((ns.map (awB hs sil)).all id)=ns.all (awB hs sil):=by rw [nr]; rfl
  have b:=s2 _ _ c
  have m:=s2 _ _ hp
  have aa:=s2 _ _ hq
  kt_k
  rw [ea]
  unfold zo9 at k
  cases ha:ns.all (awB hs sil) with
  | false =>
   rw [ha,Bool.false_and] at k
   have k2:=k H2 s2
   kt_k
  | true =>
   rw [ha,Bool.true_and] at k
   kt_k
   rw [d9]
   by_cases hl:(ns.length:Int)=r
   ·rw [decide_eq_true hl,Bool.true_or] at k
    have k2:=k H2 s2
    refine zlw (congrArg V.int hl) ?_
    kt_k
   ·rw [decide_eq_false hl,Bool.false_or] at k
    refine ze7 (fun e=>hl (V.int.inj e)) ?_
    kt_k
    intro El h
    refine zd2 (xs:=ds.map V.int) (fun j σ H3=>zer (∃ v0:Option V,σ=[v0,some (.ref p)]/\zax H2 H3/\H3 El=some (.lst (((ds.take j).map fun d=>decide (d∈ns)).map V.bl)))) ⟨⟨none,rfl,zax.new H2 h,zad⟩⟩ (fun j σ H3 _ ⟨_,_,s,_⟩=>SqL.of (s _ _ aa)) ?_ ?_
    ·rintro j x σ H3 hj ⟨v0,rfl,s3,f⟩
     obtain ⟨n,a,rfl⟩:=zb7 hj
     have ag:=s3 _ _ m
     have y:=zbz ns
     have hsz:(((ds.take j).map fun d=>decide (d∈ns)).map V.bl).length<sizeLine:=by
      rw [d9,d9,gh]
      exact zau (by omega)
     kt_k
     refine ⟨⟨_,rfl,s3.put h,?_⟩⟩
     rw [zad,zch,gq,a]
     simp
    ·rintro σ H3 ⟨v0,rfl,s3,f⟩
     rw [d9,gj] at f
     have eb:((ds.map fun d=>decide (d∈ns)).all id)=ds.all fun d=>decide (d∈ns):=by rw [nr]; rfl
     have k2:=k H3 (s2.trans s3)
     rw [<- eb] at k2
     kt_k
def zaq (hs sil:List Int):List Int:=(za1 hs).filter fun h=> !decide (h∈sil)
def zda (live:List Int)(h:Int)(k:Nat):List Int:=live.filter fun n=>decide (((znb h.toNat k:Nat):Int)<=n) && decide (n<=((znb h.toNat k+(2 ^ k - 1):Nat):Int))
structure z1x (N:Int->Nat->List Int)(live:List Int)(L:Addr)(H:Hp)(p:Addr)(e:Int × Nat):Prop where
 ex:∃ a b:Addr,H p=some (.tup [.int e.1,.int (e.2:Int),.ref a,.ref b])/\H a=some (.lst ((N e.1 e.2).map V.int))/\H b=some (.lst ((zda live e.1 e.2).map V.int))/\a≠L/\b≠L
def zce (z:Nat)(ls:List Int):List (Int × Nat):=ls.flatMap fun h=>(ji z).map fun k=>(h,k)
theorem zie {z:Nat}{a b:List Int}:zce z (a++b)=zce z a++zce z b:=List.flatMap_append
theorem zkd {z:Nat}{h:Int}:zce z [h]=(ji z).map fun k=>(h,k):=by
 unfold zce
 simp
theorem zgu {z:Nat}:∀ {ls:List Int},(zce z ls).length=ls.length * z
 | []=>by simp [zce]
 | h :: t=>by
  have:=zgu (z:=z) (ls:=t)
  unfold zce at this |-
  rw [List.flatMap_cons,fe,d9,jz,this,gs,Nat.succ_mul]
  omega
theorem zo7 {z:Nat}{ls:List Int}{e:Int × Nat}(h:e∈zce z ls):e.1∈ls/\e.2<z:=by
 unfold zce at h
 obtain ⟨x,hx,h⟩:=List.mem_flatMap.mp h
 obtain ⟨k,hk,rfl⟩:=kg.mp h
 exact ⟨hx,jc.mp hk⟩
theorem z1x.but {N:Int->Nat->List Int}{live:List Int}{L:Addr}{H H':Hp}(s:∀ q o,q≠L->H q=some o->H' q=some o){xs:List V}(hL:H L=some (.lst xs)){p:Addr}{e:Int × Nat}(h:z1x N live L H p e):z1x N live L H' p e:=by
 obtain ⟨a,b,h1,h2,h3,h4,h5⟩:=h.ex
 exact ⟨a,b,s _ _ (zdv h1 hL (by intro z; cases z)) h1,s _ _ h4 h2,s _ _ h5 h3,h4,h5⟩
theorem zd9 {hs sil:List Int}:(zaq hs sil).length<=hs.length:=by
 unfold zaq
 have:=gn (fun h=> !decide (h∈sil)) (za1 hs)
 rw [zbr] at this
 exact this
theorem zbf {hs sil:List Int}{x:Int}:x∈zaq hs sil↔x∈hs/\x∉sil:=by
 unfold zaq
 rw [gr]
 refine ⟨fun ⟨a,b⟩=>⟨(zaw _).subset a,by simpa using b⟩,fun ⟨a,b⟩=>⟨(zaw _).symm.subset a,by simpa using b⟩⟩
theorem z6b {z h:Int}(hz:z<=60)(h1:h<2 ^ z.toNat):h<2 ^ 60:=Int.lt_of_lt_of_le h1 (by
 have:(2 ^ z.toNat:Nat)<=2 ^ 60:=Nat.pow_le_pow_right (by decide) (by omega)
 have e1:((2 ^ z.toNat:Nat):Int)=2 ^ z.toNat:=by simp
 have e2:((2 ^ 60:Nat):Int)=2 ^ 60:=by simp
 omega)
def z3s (CB CT CW:Addr):Sp:=fun vs H Q _=>∀ CC:Prop,(∀ (w td sd:Addr) (z r:Int) (hs sil:List Int) (T:Int->zbv),vs=[.ref w]->zam CB CT CW H w td sd z r hs sil T->hs.length<=12->(∀ (l:Addr) (ps:List Addr) (H':Hp),zax H H'->H l=none->H' l=some (.lst (ps.map V.ref))->Paired (z1x (fun h=>(T h).ns) (zaq hs sil) l H') ps (zce z.toNat (zaq hs sil))->Q (.ref l) H')->CC)->CC
theorem zcq:zaj ["town","answering","buckets","house","k"] ["town"] (zah (top 20)):=fS
theorem zu0 (Z:ZZ P w K mg base):zgb Z 6 Z.c1 (z3s Z.ba.C Z.bb.C Z.bc.C):=by
 have a8:=Z.bc.cl
 obtain ⟨a5,a3,a7,bf,-⟩:=Z.bc.na
 have ah:=zba (CB:=Z.ba.C) (CT:=Z.bb.C) Z
 have ad:=zdi Z
 have ak:=zzq Z
 have ag:=zsc Z
 refine Z.c1.fn.ok zcq (by kd_p) (fun cdv A outer s H vs Q E hr ac=>?_)
 refine ac _ fun w td sd z r hs sil TT af hW ae k=>?_
 subst af
 obtain ⟨dx,l⟩:=hW.ob
 have a4:=hW.z1
 have ab:=hW.z2
 refine ⟨_,(zae (za2 (i:=1) zcq.nd rfl oL (zbi (pv 0) Z.bc.cl Z.b7.me ah hr.mm Z.b7.b .nil zbw))
  (zae (za2 (i:=2) zcq.nd rfl oL (zb0 zab))
  (zae (zca PassesOwn.never rfl (zbb (pv 1)) (zas (i:=3) zcq.nd rfl oL)
   (zaf (zca PassesOwn.never rfl (zc2 rfl Z.ds.n_range (zaa (za9 (pv 0) rfl) zab)) (zas (i:=4) zcq.nd rfl oL)
    (zaf (zap (zgv ge PySem.F.slot_list_append PySem.F.type_list_append zb4 (pv 2) (zaa (ze9 (zaa (pv 3) (zaa (pv 4) (zaa (pmD (pv 0) Z.bc.cl Z.b2 ad hr (zaa (pv 3) (zaa (pv 4) zab))) (zaa (pfD Z.cz ag hr rfl (zaa (pv 1) (zaa (pfD Z.cx ak hr rfl (zaa (pv 3) (zaa (pv 4) zab))) zab))) zab))))) zab)))))))
  (zaf (zar (pv 2)))))),?_⟩
 kt_k
 intro al H1 s1 bg c
 have c:H1 al=some (.lst ((zaq hs sil).map V.int)):=c
 kt_k
 intro L hL
 have s2:zax H1 (upd H1 L (.lst [])):=zax.new H1 hL
 have e2:upd H1 L (.lst []) L=some (.lst (([]:List Addr).map V.ref)):=zad
 generalize upd H1 L (.lst [])=H2 at s2 e2 |-
 have ao:H L=none:=s1.free hL
 have a2:(zaq hs sil).length<=12:=gf zd9 ae
 have av:=s2 _ _ c
 kt_k
 refine zbs (K:=K) (a:=al) (xs:=(zaq hs sil).map V.int) (fun i σ H3=>zer (∃ (v3 v4:Option V) (ps:List Addr),σ=[some (.ref w),some (.ref al),some (.ref L),v3,v4]/\zax H1 H3/\H3 L=some (.lst (ps.map V.ref))/\Paired (z1x (fun h=>(TT h).ns) (zaq hs sil) L H3) ps (zce z.toNat ((zaq hs sil).take i)))) ⟨⟨_,_,[],rfl,s2,e2,.nil⟩⟩ (fun i σ H3 _ ⟨_,_,_,_,s,_⟩=>SqL.of (s _ _ c)) ?_ ?_
 ·rintro i y σ H3 hi ⟨v3,v4,ps,rfl,s3,e3,pp⟩
  obtain ⟨h,hh,rfl⟩:=zb7 hi
  have au:=s3 _ _ (s1 _ _ l)
  have aq:h∈hs:=(zbf.mp (fm hh)).1
  have v:=hW.hb h aq
  have a6:=v.1
  have a0:h<2 ^ 60:=z6b ab v.2
  have ay:i<12:=by
   have:=(List.getElem?_eq_some_iff.mp hh).1
   omega
  have aa:=pp.len
  rw [zgu,gh] at aa
  have az:ps.length<=12 * 60:=by
   rw [aa]
   exact l9 (by omega) (by omega)
  have et:(zaq hs sil).take (i+1)=(zaq hs sil).take i++[h]:=by rw [gq,hh]; rfl
  kt_k
  refine zhw (lo:=0) (n:=z.toNat) (fun j σ H4=>zer (∃ (v4:Option V) (ps:List Addr),σ=[some (.ref w),some (.ref al),some (.ref L),some (.int h),v4]/\zax H1 H4/\H4 L=some (.lst (ps.map V.ref))/\Paired (z1x (fun h=>(TT h).ns) (zaq hs sil) L H4) ps (zce z.toNat ((zaq hs sil).take i)++(ji j).map fun k=>(h,k)))) ⟨⟨_,ps,rfl,s3,e3,by simpa using pp⟩⟩ ?_ ?_
  ·rintro j σ H4 hj ⟨aj,f,rfl,s4,e4,d⟩
   have be:=hW.keep (H':=H4) fun q o _ e=>s4 _ _ (s1 _ _ e)
   have a1:=s4 _ _ (s1 _ _ l)
   have bd:0<=0+(j:Int):=by omega
   have a9:(0+(j:Int)).toNat<z.toNat:=by omega
   have aw:0+(j:Int)<=60:=by omega
   have ej:(0+(j:Int)).toNat=j:=by omega
   have ar:(zaq hs sil).length<64:=by omega
   kt_k
   intro m H5 hm em s5
   kt_k
   intro p H6 s6 hp ep
   have ax:=s6 _ _ (s5 _ _ (s4 _ _ c))
   kt_k
   intro b H7 s7 hb eb
   kt_k
   intro t ht
   have g:=(s5.trans s6).trans s7
   have e7:=g _ _ e4
   have s8:zax H7 (upd H7 t (.tup [.int h,.int (0+(j:Int)),.ref m,.ref b])):=zax.new H7 ht
   have u:upd H7 t (.tup [.int h,.int (0+(j:Int)),.ref m,.ref b]) t=some (.tup [.int h,.int (0+(j:Int)),.ref m,.ref b]):=zad
   generalize upd H7 t (.tup [.int h,.int (0+(j:Int)),.ref m,.ref b])=H8 at s8 u |-
   have e8:=s8 _ _ e7
   have am:=s8 _ _ (s7 _ _ (s6 _ _ em))
   have ai:=s8 _ _ eb
   have nm:m≠L:=(zag e4 hm).symm
   have nb:b≠L:=(zag (s6 _ _ (s5 _ _ e4)) hb).symm
   have an:t≠L:=(zag e7 ht).symm
   have ap:=d.len
   rw [fe,zgu,d9,jz] at ap
   have hsz:(f.map V.ref).length<sizeLine:=by
    rw [d9]
    refine zau ?_
    have:((zaq hs sil).take i).length * z.toNat<=12 * 60:=l9 (by rw [gh]; omega) (by omega)
    omega
   kt_k
   refine ⟨⟨_,f++[t],rfl,((s4.trans g).trans s8).put hL,?_,?_⟩⟩
   ·rw [zad,gm]
    rfl
   ·rw [jr,gm,<- iq]
    refine zf0 ⟨m,b,?_,?_,?_,nm,nb⟩ (d.mp fun p e x=>x.but (fun q o hq e=>by rw [zac hq]; exact s8 _ _ (g _ _ e)) e4)
    ·rw [zac an,u,mq]
    ·rw [zac nm,am,ej]
    ·rw [zac nb,ai,ej]
     rfl
  ·rintro σ H4 ⟨aj,f,rfl,s4,e4,d⟩
   refine ⟨⟨_,_,f,rfl,s4,e4,?_⟩⟩
   rw [et,zie,zkd]
   exact d
 ·rintro σ H3 ⟨v3,v4,ps,rfl,s3,e3,pp⟩
  rw [d9,gj] at pp
  kt_k
  exact k L ps H3 (s1.trans s3) ao e3 pp
def zyd (r:Int)(aw:Int->Bool)(N:Int->Nat->List Int)(live:List Int)(e:Int × Nat):Bool:= !zo9 r aw (N e.1 e.2) (zda live e.1 e.2)
def zt8 (z r:Int)(hs sil:List Int)(N:Int->Nat->List Int):Option (Int × Nat):=(zce z.toNat (zaq hs sil)).find? (zyd r (awB hs sil) N (zaq hs sil))
theorem zmq {α:Type}{p:α->Bool}{l a b:List α}{e:α}(h:l=a++e :: b)(ha:∀ x∈a,p x=false)(he:p e=true):l.find? p=some e:=by
 rw [h,List.find?_append,List.find?_eq_none.mpr fun x hx=>by rw [ha x hx]; exact Bool.false_ne_true,List.find?_cons_of_pos he]
 rfl
theorem zj8 {α:Type}{l:List α}{i:Nat}{e:α}(h:l[i]? = some e):l=l.take i++e :: l.drop (i+1):=by
 obtain ⟨h1,h2⟩:=List.getElem?_eq_some_iff.mp h
 rw [<- h2,List.getElem_cons_drop h1,List.take_append_drop]
theorem zos {live:List Int}{h:Int}{k:Nat}:(zda live h k).length<=live.length:=gn _ _
def zk_ (z r:Int)(hs sil:List Int)(N:Int->Nat->List Int)(H:Hp)(Q:VK):Prop:=(zt8 z r hs sil N=none->∀ H',zax H H'->Q .non H')/\∀ e,zt8 z r hs sil N=some e->∀ (p:Addr) (H':Hp),zax H H'->H p=none->H' p=some (.tup [.int e.1,.int (e.2:Int)])->Q (.ref p) H'
def zvh (CB CT CW:Addr):Sp:=fun vs H Q _=>∀ CC:Prop,(∀ (w td sd:Addr) (z r:Int) (hs sil:List Int) (T:Int->zbv),vs=[.ref w]->zam CB CT CW H w td sd z r hs sil T->hs.length<=12->((∀ h∈hs,∀ k,(((T h).ns k).length:Int)<=r))->(zk_ z r hs sil (fun h=>(T h).ns) H Q)->CC)->CC
theorem zib:zaj ["town","house","k","kept","due"] ["town"] (zah (top 18)):=fS
theorem zxd (Z:ZZ P w K mg base):zgb Z 7 Z.c2 (zvh Z.ba.C Z.bb.C Z.bc.C):=by
 have m:=zu0 Z
 have l:=zmz (CB:=Z.ba.C) (CT:=Z.bb.C) Z
 refine Z.c2.fn.ok zib (by kd_p) (fun cdv A outer s H vs Q E hr g=>?_)
 refine g _ fun w td sd z r hs sil TT j hW ab u f=>?_
 subst j
 obtain ⟨k1,k2⟩:=f
 have ac:=hW.r2
 refine ⟨_,(zae (zca PassesOwn.never rfl (zbb (pfD Z.c1 m hr rfl (zaa (pv 0) zab))) (zo_ (n:=4) rfl (zb1 (zas (i:=1) zib.nd rfl oL) (zb1 (zas (i:=2) zib.nd rfl oL) (zb1 (zas (i:=3) zib.nd rfl oL) (zb1 (zas (i:=4) zib.nd rfl oL) zi0)))))
   (zaf (zbn (zd3 (zb_ (pfD Z.c0 l hr rfl (zaa (pv 0) (zaa (pv 3) (zaa (pv 4) zab))))))
    (zaf (zar (ze9 (zaa (pv 1) (zaa (pv 2) zab)))))
    za6)))
  (zaf (zar zdn))),?_⟩
 kt_k
 intro L ps H1 s1 hL eL pp
 have v:=pp.len
 kt_k
 refine zbs (K:=K) (a:=L) (xs:=ps.map V.ref) (fun i σ H2=>zer (∃ v1 v2 v3 v4:Option V,σ=[some (.ref w),v1,v2,v3,v4]/\zax H1 H2/\∀ x∈(zce z.toNat (zaq hs sil)).take i,zyd r (awB hs sil) (fun h=>(TT h).ns) (zaq hs sil) x=false)) ⟨⟨_,_,_,_,rfl,zax.refl H1,fun x hx=>(nomatch hx)⟩⟩ (fun i σ H2 _ ⟨_,_,_,_,_,s,_⟩=>SqL.of (s _ _ eL)) ?_ ?_
 ·rintro i y σ H2 hi ⟨v1,v2,v3,v4,rfl,s2,c⟩
  obtain ⟨p,e,hp,he,rfl,hx⟩:=zfd pp hi
  obtain ⟨a,b,h1,h2,h3,-,-⟩:=hx.ex
  have h1:=s2 _ _ h1
  have h2:=s2 _ _ h2
  have h3:=s2 _ _ h3
  obtain ⟨hm,hk⟩:=zo7 (fm he)
  have aa:=(zbf.mp hm).1
  have W2:=hW.keep (H':=H2) fun q o _ e=>s2 _ _ (s1 _ _ e)
  have ad:((TT e.1).ns e.2).length<=60:=by
   have:=u e.1 aa e.2
   omega
  have ae:(zda (zaq hs sil) e.1 e.2).length<=60:=by
   have a1:=zos (live:=zaq hs sil) (h:=e.1) (k:=e.2)
   have a2:=zd9 (hs:=hs) (sil:=sil)
   omega
  kt_k
  intro H3 s3
  have et:(zce z.toNat (zaq hs sil)).take (i+1)=(zce z.toNat (zaq hs sil)).take i++[e]:=by rw [gq,he]; rfl
  cases hb:zo9 r (awB hs sil) ((TT e.1).ns e.2) (zda (zaq hs sil) e.1 e.2) with
  | true =>
   kt_k
   refine ⟨⟨_,_,_,_,rfl,s2.trans s3,fun x hx=>?_⟩⟩
   rw [et] at hx
   rcases fj.mp hx with hx | hx
   ·exact c x hx
   ·rw [fc.mp hx]
    unfold zyd
    rw [hb]
    rfl
  | false =>
   kt_k
   intro t ht
   have d:=(s1.trans s2).trans s3
   refine k2 e (zmq (zj8 he) c ?_) t _ (d.put (d.free ht)) (d.free ht) zad
   unfold zyd
   rw [hb]
   rfl
 ·rintro σ H2 ⟨v1,v2,v3,v4,rfl,s2,c⟩
  rw [d9,v,gj] at c
  kt_k
  exact k1 (List.find?_eq_none.mpr fun x hx=>by rw [c x hx]; exact Bool.false_ne_true) H2 (s1.trans s2)
theorem z5m (a b:Int):decide (V.int a=V.int b)=decide (a=b):=by simp
theorem zme {l:List Int}{p:Int->Bool}:l.all p=decide (l.filter (fun x=> !p x)=[]):=by
 rw [Bool.eq_iff_iff,iz,decide_eq_true_eq,List.filter_eq_nil_iff]
 exact ⟨fun h x hx=>by rw [h x hx]; simp,fun h x hx=>by simpa using h x hx⟩
theorem znw {hs sil:List Int}{x:Int}:awB hs sil x=decide (x∈zaq hs sil):=by
 unfold awB
 rw [Bool.eq_iff_iff]
 simp [zbf]
theorem zml {live:List Int}{h:Int}{k:Nat}(hl:∀ n∈live,0<=n)(hh:0<=h):live.filter (fun n=>decide ((((Builtin.Int.intBits (Builtin.bitXor n h):Nat):Int))=(0+(k:Int))+1))=zda live h k:=by
 unfold zda
 refine j8 fun n hn=>?_
 have n0:=hl n hn
 rw [Bool.eq_iff_iff]
 simp only [decide_eq_true_eq,ic]
 have e1:(((znb h.toNat k:Nat):Int)<=n/\n<=((znb h.toNat k+(2 ^ k - 1):Nat):Int))↔(znb h.toNat k<=n.toNat/\n.toNat<=znb h.toNat k+(2 ^ k - 1)):=by omega
 rw [e1,z01]
 by_cases e:n=h
 ·subst e
  have z:Builtin.bitXor n n=0:=by rw [bx n0 n0,lg]; rfl
  rw [z]
  refine ⟨fun y=>?_,fun y=>absurd y.symm (zmv _)⟩
  have:Builtin.Int.intBits 0=0:=by decide
  rw [this] at y
  omega
 ·have ne:h.toNat≠n.toNat:=by omega
  have b:=znd n0 hh e
  rw [<- zr9 ne,Nat.xor_comm]
  omega
theorem z1g {r:Int}{hs sil ns ds:List Int}(hl:(ns.length:Int)<=r):(!zo9 r (awB hs sil) ns ds)=(!decide (ns.filter (fun n=> !decide (n∈zaq hs sil))=[]) || (decide ((ns.length:Int)<r) && !decide (ds.filter (fun n=> !decide (n∈ns))=[]))):=by
 unfold zo9
 have e1:ns.all (awB hs sil)=decide (ns.filter (fun n=> !decide (n∈zaq hs sil))=[]):=by
  rw [zme]
  simp only [znw]
 rw [e1,zme]
 have e2:decide ((ns.length:Int)<r) = !decide ((ns.length:Int)=r):=by
  rw [Bool.eq_iff_iff]
  simp
  omega
 rw [e2]
 cases decide (ns.filter (fun n=> !decide (n∈zaq hs sil))=[]) <;> cases decide ((ns.length:Int)=r) <;> simp
theorem zp0 {z:Nat}{live:List Int}{i j:Nat}{h:Int}(hh:live[i]? = some h)(hj:j<z):∃ b,zce z live=(zce z (live.take i)++(ji j).map fun k=>(h,k))++(h,j) :: b:=by
 have e1:(ji z)[j]? = some j:=by simp [hj]
 have e2:=zj8 e1
 have e3:(ji z).take j=ji j:=by rw [List.take_range,Nat.min_eq_left (by omega)]
 refine ⟨((ji z).drop (j+1)).map (fun k=>(h,k))++zce z (live.drop (i+1)),?_⟩
 conv=>lhs; rw [zj8 hh]
 rw [zie]
 have e4:zce z (h :: live.drop (i+1))=((ji z).map fun k=>(h,k))++zce z (live.drop (i+1)):=by
  unfold zce
  rw [List.flatMap_cons]
 rw [e4]
 conv=>lhs; rw [e2]
 rw [e3,gm,gu]
 simp only [iq,List.cons_append]
theorem zfi:zaj ["_law_town","_law_live","_law_house","_law_k","_law_names","_law_spanned"] ["_law_town"] (zah (top 49)):=fS
theorem zuj (Z:ZZ P w K mg base):zgb Z 6 Z.c3 (zvh Z.ba.C Z.bb.C Z.bc.C):=by
 have bu:=Z.bc.cl
 obtain ⟨bp,bj,bt,bz,-⟩:=Z.bc.na
 have az:=zba (CB:=Z.ba.C) (CT:=Z.bb.C) Z
 have ar:=zdi Z
 refine Z.c3.fn.ok zfi (by kd_p) (fun cdv A outer s H vs Q E hr aq=>?_)
 refine aq _ fun w td sd z r hs sil TT aw hW av a7 ab=>?_
 subst aw
 obtain ⟨k1,k2⟩:=ab
 obtain ⟨dx,af⟩:=hW.ob
 have bo:=hW.z1
 have bl:=hW.z2
 have bq:=hW.r2
 have bi:(zaq hs sil).length<=12:=gf zd9 av
 have a8:∀ n∈zaq hs sil,0<=n:=fun n hn=>(hW.hb n (zbf.mp hn).1).1
 refine ⟨_,(zae (za2 (i:=1) zfi.nd rfl (Or.inr rfl) (zbi (pv 0) Z.bc.cl Z.b7.me az hr.mm Z.b7.b .nil zbw))
  (zae (zca PassesOwn.never rfl (zbb (pv 1)) (zas (i:=2) zfi.nd rfl (Or.inr rfl))
   (zaf (zca PassesOwn.never rfl (zc2 rfl Z.ds.n_range (zaa (za9 (pv 0) rfl) zab)) (zas (i:=3) zfi.nd rfl (Or.inr rfl))
    (zae (za2 (i:=4) zfi.nd rfl (Or.inr rfl) (pmD (pv 0) Z.bc.cl Z.b2 ar hr (zaa (pv 2) (zaa (pv 3) zab))))
    (zae (zf5 (i:=5) zfi.nd rfl oL rfl (zaz (own:=["_law_name_here"]) (caps:=[3,2]) (N':=["_law_name_here","_law_k","_law_house"]) (by kernel_rfl)) (zbb (pv 1)) (fun _ _ _ _ _=>(zas (i:=0) (show (["_law_name_here","_law_k","_law_house"]:List Str).Nodup by decide +kernel) rfl oL)) (fun _ _ _ _ _=>(zcu (zan zhu (zmc (K:=K) rfl (za8 zmh (pv 0) (pv 2))) (za8 zg2 (pv 1) zak) (za5 _)))) (fun _ _ _ _ _=>(pv 0)))
    (zae (zbn (zan (zh5 hr.units) (zct rfl (zaz (own:=["_law_name_here"]) (caps:=[1]) (N':=["_law_name_here","_law_live"]) (by kernel_rfl)) (zbb (pv 4)) (fun _ _ _ _ _=>(zas (i:=0) (show (["_law_name_here","_law_live"]:List Str).Nodup by decide +kernel) rfl oL)) (fun _ _ _ _ _=>(zcu (zan (zdx (K:=K) rfl) (pv 0) (pv 1) (by with_unfolding_all rfl)))) (fun _ _ _ _ _=>(pv 0))) (zb0 zab) (za5 _))
     (zaf (zar (ze9 (zaa (pv 2) (zaa (pv 3) zab)))))
     za6)
    (zaf (zbn (PW.pt (zgx (zan zm6 (za0 za3 rfl Z.ds.n_len zc1 (zaa (pv 4) zab)) (za9 (pv 0) rfl) (za5 _)) (zfz (zan (zh5 hr.units) (zct rfl (zaz (own:=["_law_name_here"]) (caps:=[4]) (N':=["_law_name_here","_law_names"]) (by kernel_rfl)) (zbb (pv 5)) (fun _ _ _ _ _=>(zas (i:=0) (show (["_law_name_here","_law_names"]:List Str).Nodup by decide +kernel) rfl oL)) (fun _ _ _ _ _=>(zcu (zan (zdx (K:=K) rfl) (pv 0) (pv 1) (by with_unfolding_all rfl)))) (fun _ _ _ _ _=>(pv 0))) (zb0 zab) (za5 _)))))
     (zaf (zar (ze9 (zaa (pv 2) (zaa (pv 3) zab)))))
     za6))))))))
  (zaf (zar zdn)))),?_⟩
 kt_k
 intro al H1 s1 b0 f
 have f:H1 al=some (.lst ((zaq hs sil).map V.int)):=f
 kt_k
 refine zbs (K:=K) (a:=al) (xs:=(zaq hs sil).map V.int) (fun i σ H2=>zer (∃ v2 v3 v4 v5:Option V,σ=[some (.ref w),some (.ref al),v2,v3,v4,v5]/\zax H1 H2/\∀ x∈zce z.toNat ((zaq hs sil).take i),zyd r (awB hs sil) (fun h=>(TT h).ns) (zaq hs sil) x=false)) ⟨⟨_,_,_,_,rfl,zax.refl H1,fun x hx=>(nomatch hx)⟩⟩ (fun i σ H2 _ ⟨_,_,_,_,_,s,_⟩=>SqL.of (s _ _ f)) ?_ ?_
 ·rintro i y σ H2 hi ⟨v2,v3,v4,v5,rfl,s2,u⟩
  obtain ⟨h,hh,rfl⟩:=zb7 hi
  have bd:=s2 _ _ (s1 _ _ af)
  have ap:h∈hs:=(zbf.mp (fm hh)).1
  have a4:=(hW.hb h ap).1
  have et:(zaq hs sil).take (i+1)=(zaq hs sil).take i++[h]:=by rw [gq,hh]; rfl
  kt_k
  refine zhw (lo:=0) (n:=z.toNat) (fun j σ H3=>zer (∃ v3 v4 v5:Option V,σ=[some (.ref w),some (.ref al),some (.int h),v3,v4,v5]/\zax H1 H3/\∀ x∈zce z.toNat ((zaq hs sil).take i)++(ji j).map (fun k=>(h,k)),zyd r (awB hs sil) (fun h=>(TT h).ns) (zaq hs sil) x=false)) ⟨⟨_,_,_,rfl,s2,by simpa using u⟩⟩ ?_ ?_
  ·rintro j σ H3 hj ⟨v3,v4,v5,rfl,s3,l⟩
   have bm:=hW.keep (H':=H3) fun q o _ e=>s3 _ _ (s1 _ _ e)
   have ad:=s3 _ _ (s1 _ _ af)
   have bw:0<=0+(j:Int):=by omega
   have bv:(0+(j:Int)).toNat<z.toNat:=by omega
   have ej:(0+(j:Int)).toNat=j:=by omega
   have ae:=s3 _ _ f
   kt_k
   intro m H4 hm em s4
   rw [ej] at em
   have v:=s4 _ _ ae
   have ai:=a7 h ap j
   generalize a6:(TT h).ns j=ns at em ai
   kt_k
   intro D1 a1
   refine zbo (fun n=>decide ((((Builtin.Int.intBits (Builtin.bitXor n h):Nat):Int))=(0+(j:Int))+1)) a1 (SqL.of v) (by omega) (fun x hx H5 Qt s5 q=>?_) fun H5 s5 am=>?_
   ·have q2:=q H5 (zax.refl H5)
    kt_k
    show Qt (decide (V.int _=V.int _)) H5
    rw [z5m]
    exact q2
   ·rw [zml a8 a4] at am
    have an:=s5 _ _ v
    have aj:=s5 _ _ em
    kt_k
    intro D2 a3
    have bn:=zbz (zaq hs sil)
    refine zbo (fun n=> !decide (n∈zaq hs sil)) a3 (SqL.of aj) (by omega) (fun x hx H6 Qt s6 q=>?_) fun H6 s6 a0=>?_
    ·have q2:=q H6 (zax.refl H6)
     have bh:=s6 _ _ an
     kt_k
     rw [zch]
     exact q2
    ·kt_k
     intro e0 ax
     generalize ah:upd H6 e0 _=H7
     obtain ⟨s7,ag⟩:=nw ax ah
     replace ag:H7 e0=some (.lst (([]:List Int).map V.int)):=ag
     clear ah
     have a9:=s7 _ _ a0
     have ac:=s7 _ _ (s6 _ _ am)
     have au:=s7 _ _ (s6 _ _ aj)
     have bf:=s7 _ _ (s6 _ _ (s5 _ _ (s4 _ _ ad)))
     have g:=((s4.trans s5).trans s6).trans s7
     have c:=z1g (r:=r) (hs:=hs) (sil:=sil) (ns:=ns) (ds:=zda (zaq hs sil) h j) ai
     have d:∀ b,(!zo9 r (awB hs sil) ns (zda (zaq hs sil) h j))=b->zyd r (awB hs sil) (fun h=>(TT h).ns) (zaq hs sil) (h,j)=b:=fun b hb=>by
      unfold zyd
      show (!zo9 r (awB hs sil) ((TT h).ns j) (zda (zaq hs sil) h j))=b
      rw [a6]
      exact hb
     have aa:zyd r (awB hs sil) (fun h=>(TT h).ns) (zaq hs sil) (h,j)=true->∀ (t:Addr) (Hx:Hp),zax H3 Hx->H3 t=none->Hx t=some (.tup [.int h,.int (0+(j:Int))])->Q (.ref t) Hx:=fun hb t Hx sx ht ext=>by
      obtain ⟨b,eb⟩:=zp0 hh hj
      rw [mq] at ext
      exact k2 (h,j) (zmq eb l hb) t Hx ((s1.trans s3).trans sx) ((s1.trans s3).free ht) ext
     kt_k
     by_cases c1:ns.filter (fun n=> !decide (n∈zaq hs sil))=[]
     ·rw [decide_eq_true c1] at c |-
      kt_k
      rw [d9]
      by_cases c2:(ns.length:Int)<r
      ·rw [decide_eq_true c2] at c
       refine zlw c2 ?_
       kt_k
       intro D3 ay
       have be:=zbz ns
       refine zbo (fun n=> !decide (n∈ns)) ay (SqL.of ac) (by have:=zos (live:=zaq hs sil) (h:=h) (k:=j); omega) (fun x hx H8 Qt s8 q=>?_) fun H8 s8 a5=>?_
       ·have q2:=q H8 (zax.refl H8)
        have br:=s8 _ _ au
        kt_k
        rw [zch]
        exact q2
       ·kt_k
        intro e1 a2
        generalize ao:upd H8 e1 _=H9
        obtain ⟨s9,ak⟩:=nw a2 ao
        replace ak:H9 e1=some (.lst (([]:List Int).map V.int)):=ak
        clear ao
        have bg:=s9 _ _ a5
        have p:=(g.trans s8).trans s9
        kt_k
        by_cases c3:(zda (zaq hs sil) h j).filter (fun n=> !decide (n∈ns))=[]
        ·rw [decide_eq_true c3] at c |-
         kt_k
         refine ⟨⟨_,_,_,rfl,s3.trans p,fun x hx=>?_⟩⟩
         rw [jr,gm,<- iq] at hx
         rcases fj.mp hx with hx | hx
         ·exact l x hx
         ·rw [fc.mp hx]
          exact d _ c
        ·rw [decide_eq_false c3] at c |-
         kt_k
         intro t ht
         exact aa (d _ c) t _ (p.put (p.free ht)) (p.free ht) zad
      ·rw [decide_eq_false c2] at c
       refine ze7 c2 ?_
       kt_k
       refine ⟨⟨_,_,_,rfl,s3.trans g,fun x hx=>?_⟩⟩
       rw [jr,gm,<- iq] at hx
       rcases fj.mp hx with hx | hx
       ·exact l x hx
       ·rw [fc.mp hx]
        exact d _ c
     ·rw [decide_eq_false c1] at c |-
      kt_k
      intro t ht
      exact aa (d _ c) t _ (g.put (g.free ht)) (g.free ht) zad
  ·rintro σ H3 ⟨v3,v4,v5,rfl,s3,l⟩
   refine ⟨⟨_,_,_,_,rfl,s3,?_⟩⟩
   rw [et,zie,zkd]
   exact l
 ·rintro σ H2 ⟨v2,v3,v4,v5,rfl,s2,u⟩
  rw [d9,gj] at u
  kt_k
  exact k1 (List.find?_eq_none.mpr fun x hx=>by rw [u x hx]; exact Bool.false_ne_true) H2 (s1.trans s2)
def z1t (K:W.Frag):Sp:=fun vs H Q _=>∃ (a:Addr) (ns:List Int) (k:Int),vs=[.ref a,.int k]/\SqL K H a (ns.map V.int)/\0<=k/\∀ c:Int,Q (.int c) H
def z1_:Sp:=fun vs H Q _=>∃ (c k:Int) (b:Bool),vs=[.int c,.int k,.bl b]/\∀ m:Int,Q (.int m) H
def z0k (K:W.Frag):Sp:=fun vs H Q _=>∃ (a:Addr) (ss:List Int),vs=[.ref a]/\SqL K H a (ss.map V.int)/\∀ (p:Addr) (z r:Int) (b:Bool) (H':Hp),1<=z->z<=60->1<=r->r<=8->zax H H'->H' p=some (.tup [.int z,.int r,.bl b])->Q (.ref p) H'
def z23:Sp:=fun vs H Q _=>∃ x z b:Int,vs=[.int x,.int z,.int b]/\1<=z/\z<=60/\∀ i:Int,0<=i->i<2 ^ z.toNat->Q (.int i) H
theorem zwz {z:Int}(h1:1<=z)(h2:z<=60):(0:Int)<1 * 2 ^ z.toNat/\(1:Int) * 2 ^ z.toNat<=2 ^ 60:=by
 have a:(2 ^ z.toNat:Nat)<=2 ^ 60:=Nat.pow_le_pow_right (by decide) (by omega)
 have b:=zd8 z.toNat
 have e1:((2 ^ z.toNat:Nat):Int)=2 ^ z.toNat:=by simp
 have e2:((2 ^ 60:Nat):Int)=2 ^ 60:=by simp
 omega
theorem zvf (x:Int):∃ z,1<=z/\z<=60/\atI [V.int 3,V.int 4,V.int 5,V.int 6,V.int 8,V.int 60] (x % 6)=some (V.int z):=by
 have h:x % 6=0\/x % 6=1\/x % 6=2\/x % 6=3\/x % 6=4\/x % 6=5:=by omega
 rcases h with h | h | h | h | h | h <;> rw [h]
 ·exact ⟨3,by decide,by decide,rfl⟩
 ·exact ⟨4,by decide,by decide,rfl⟩
 ·exact ⟨5,by decide,by decide,rfl⟩
 ·exact ⟨6,by decide,by decide,rfl⟩
 ·exact ⟨8,by decide,by decide,rfl⟩
 ·exact ⟨60,by decide,by decide,rfl⟩
theorem zut (x:Int):∃ r,1<=r/\r<=8/\atI [V.int 1,V.int 2,V.int 2,V.int 3,V.int 8] (x / 6 % 5)=some (V.int r):=by
 have h:x / 6 % 5=0\/x / 6 % 5=1\/x / 6 % 5=2\/x / 6 % 5=3\/x / 6 % 5=4:=by omega
 rcases h with h | h | h | h | h <;> rw [h]
 ·exact ⟨1,by decide,by decide,rfl⟩
 ·exact ⟨2,by decide,by decide,rfl⟩
 ·exact ⟨2,by decide,by decide,rfl⟩
 ·exact ⟨3,by decide,by decide,rfl⟩
 ·exact ⟨8,by decide,by decide,rfl⟩
theorem zp_:zaj ["_law_script","_law_k"] ["_law_script","_law_k"] (zah (top 41)):=fS
theorem zli (Z:ZZ P w K mg base):zgb Z 1 Z.c4 (z1t K):=by
 refine Z.c4.fn.ok zp_ (by kd_p) (fun cdv A outer s H vs Q E hr h=>?_)
 obtain ⟨a,ns,i,rfl,hS,hi,k⟩:=h
 refine ⟨_,(zae (zbn (zan zm6 (pv 1) (za0 za3 rfl Z.ds.n_len zc1 (zaa (pv 0) zab)) (za5 _))
   (zaf (zar (zfg zcg (pv 0) (pv 1) (fun _ _=>rfl))))
   za6)
  (zaf (zar zak))),?_⟩
 kt_k
 refine zwn (fun c=>?_) (fun c=>?_)
 ·have c':=of_decide_eq_true c
  rw [d9] at c'
  have b:i.toNat<ns.length:=by omega
  have d:atI (ns.map V.int) i=some (V.int ns[i.toNat]):=by
   have e:((i.toNat:Nat):Int)=i:=by omega
   have z:=ziv (xs:=ns.map V.int) (j:=i.toNat) (v:=V.int ns[i.toNat]) (by simp [b])
   rwa [e] at z
  kt_k
  exact k _
 ·exact k 0
def zxz:Sp:=fun vs H Q _=>∃ c k:Int,vs=[.int c,.int k]/\∀ m:Int,Q (.int m) H
theorem zkk:zaj ["_law_cell","_law_k","_law_number"] ["_law_cell","_law_k"] (zah (top 42)):=fS
theorem zot (Z:ZZ P w K mg base):zgb Z 1 Z.c5 zxz:=by
 refine Z.c5.fn.ok zkk (by kd_p) (fun cdv A outer s H vs Q E hr h=>?_)
 obtain ⟨c,i,rfl,k⟩:=h
 refine ⟨_,(zae (za2 (i:=2) zkk.nd rfl oL (za8 zb9 (za8 zg2 (za8 zb9 (pv 0) zak) (za8 zmi zak (za8 zg2 (pv 1) zak))) zak))
  (zae (za2 (i:=2) zkk.nd rfl oL (za8 zb9 (za8 zg2 (za8 zg2 (za8 zmi (pv 2) (pv 2)) (za8 zmi zak (pv 1))) zak) zak))
  (zaf (zar (za8 zb9 (za8 zmi (pv 2) (pv 2)) zak))))),?_⟩
 kt_k
 exact k _
theorem znq:zaj ["_law_cell","_law_k","_law_plain","_law_number"] ["_law_cell","_law_k","_law_plain"] (zah (top 43)):=fS
theorem zx7 (Z:ZZ P w K mg base):zgb Z 2 Z.c6 z1_:=by
 have a:=zot Z
 refine Z.c6.fn.ok znq (by kd_p) (fun cdv A outer s H vs Q E hr h=>?_)
 obtain ⟨c,i,b,rfl,k⟩:=h
 refine ⟨_,(zae (za2 (i:=0) znq.nd rfl oL (za8 zb9 (pv 0) (za8 z3f zak zak)))
  (zae (zbn (zb_ (pv 2))
   (zaf (zar (pv 0)))
   za6)
  (zae (za2 (i:=3) znq.nd rfl oL (za8 zg2 (za8 zmi (pfD Z.c5 a hr rfl (zaa (pv 0) (zaa (pv 1) zab))) zak) (pfD Z.c5 a hr rfl (zaa (pv 0) (zaa (za8 zg2 (pv 1) zak) zab)))))
  (zaf (zar (za8 zg2 (za8 zmi (pv 3) zak) (pfD Z.c5 a hr rfl (zaa (pv 0) (zaa (za8 zg2 (pv 1) zak) zab))))))))),?_⟩
 kt_k
 refine zwn (fun c=>?_) (fun c=>?_)
 ·kt_k
  exact k _
 ·kt_k
  intro m1
  kt_k
  intro m2
  kt_k
  intro m3
  kt_k
  exact k _
theorem zn6:zaj ["_law_script","_law_x"] ["_law_script"] (zah (top 44)):=fS
theorem zv9 (Z:ZZ P w K mg base):zgb Z 2 Z.c7 (z0k K):=by
 have e:=zot Z
 have j:=zli Z
 refine Z.c7.fn.ok zn6 (by kd_p) (fun cdv A outer s H vs Q E hr h=>?_)
 obtain ⟨a,ss,rfl,hS,k⟩:=h
 refine ⟨_,(zae (za2 (i:=1) zn6.nd rfl oL (pfD Z.c5 e hr rfl (zaa (pfD Z.c4 j hr rfl (zaa (pv 0) (zaa zak zab))) (zaa zak zab))))
  (zaf (zar (ze9 (zaa (zfg zcg (zb0 (zaa zak (zaa zak (zaa zak (zaa zak (zaa zak (zaa zak zab))))))) (za8 zb9 (pv 1) zak) (fun _ _=>rfl)) (zaa (zfg zcg (zb0 (zaa zak (zaa zak (zaa zak (zaa zak (zaa zak zab)))))) (za8 zb9 (za8 zcz (pv 1) zak) zak) (fun _ _=>rfl)) (zaa (zd7 zhu (za8 zb9 (za8 zcz (pv 1) zak) zak) zak (za5 _)) zab))))))),?_⟩
 kt_k
 intro c
 kt_k
 intro x
 obtain ⟨z,m,f,az⟩:=zvf x
 obtain ⟨r,l,n,ar⟩:=zut x
 kt_k
 intro p1 o
 generalize b:upd H p1 _=H1
 obtain ⟨s1,e1⟩:=nw o b
 clear b
 kt_k
 intro p2 g
 generalize d:upd H1 p2 _=H2
 obtain ⟨s2,e2⟩:=nw g d
 clear d
 kt_k
 intro p3 p
 exact k p3 z r _ _ m f l n ((s1.trans s2).lay p) zad
theorem zrl:zaj ["_law_x","_law_wide","_law_base","_law_many"] ["_law_x","_law_wide","_law_base"] (zah (top 45)):=fS
theorem zri (Z:ZZ P w K mg base):zgb Z 1 Z.c8 z23:=by
 refine Z.c8.fn.ok zrl (by kd_p) (fun cdv A outer s H vs Q E hr h=>?_)
 obtain ⟨x,z,b,rfl,d,a,k⟩:=h
 obtain ⟨q1,q2⟩:=zwz d a
 have em:∀ y:Int,0<=y % (1 * 2 ^ z.toNat)/\y % (1 * 2 ^ z.toNat)<2 ^ z.toNat:=fun y=>by
  have a1:=Int.emod_nonneg y (Int.ne_of_gt q1)
  have a2:=Int.emod_lt_of_pos y q1
  exact ⟨a1,by rw [n9] at a2 |-; exact a2⟩
 refine ⟨_,(zae (za2 (i:=3) zrl.nd rfl oL (za8 zi9 zak (pv 1)))
  (zae (zbn (zan zhu (za8 zb9 (za8 zcz (pv 0) (pv 3)) zak) zak (za5 _))
   (zaf (zar (za8 zb9 (za8 zmh (pv 2) (za8 zb9 (pv 0) zak)) (pv 3))))
   za6)
  (zaf (zar (za8 zb9 (pv 0) (pv 3)))))),?_⟩
 kt_k
 refine zwn (fun c=>?_) (fun c=>?_)
 ·kt_k
  exact k _ (em _).1 (em _).2
 ·kt_k
  exact k _ (em _).1 (em _).2
def zfo (aw:Int->Bool)(ns ds:List Int):Bool:=decide (0<(ds.length:Int)) && !ns.any aw
def z3_ (K:W.Frag)(CB CT CW:Addr):Sp:=fun vs H Q _=>∀ CC:Prop,(∀ (w td sd:Addr) (z r:Int) (hs sil:List Int) (T:Int->zbv) (p q:Addr) (ns ds:List Int),vs=[.ref w,.ref p,.ref q]->zam CB CT CW H w td sd z r hs sil T->H p=some (.lst (ns.map V.int))->H q=some (.lst (ds.map V.int))->ns.length<=60->(∀ H',zax H H'->Q (.bl (zfo (awB hs sil) ns ds)) H')->CC)->CC
theorem zsu:zaj ["town","kept","due"] ["town","kept","due"] (zah (top 23)):=fS
theorem zs8 (Z:ZZ P w K mg base){CB CT:Addr}:zgb Z 5 Z.c9 (z3_ K CB CT Z.bc.C):=by
 have u:=Z.bc.cl
 obtain ⟨v,t,m,y,-⟩:=Z.bc.na
 have g:=zbg (CB:=CB) (CT:=CT) Z
 refine Z.c9.fn.ok zsu (by kd_p) (fun cdv A outer s H vs Q E hr c=>?_)
 refine c _ fun w td sd z r hs sil TT p q ns ds f hW hp hq hn k=>?_
 subst f
 obtain ⟨dx,d⟩:=hW.ob
 unfold zfo at k
 refine ⟨_,(zaf (zar (zjp (zd7 z4f (za0 za3 rfl Z.ds.n_len zc1 (zaa (pv 2) zab)) zak (za5 _)) (zjr (zy6 (za0 (zwt rfl) rfl Z.ds.n_any z3l (zaa (zct rfl (zaz (own:=["name"]) (caps:=[0]) (N':=["name","town"]) (by kernel_rfl)) (zbb (pv 1)) (fun _ _ _ _ _=>(zas (i:=0) (show (["name","town"]:List Str).Nodup by decide +kernel) rfl oL)) (fun _ _ _ _ _=>zfx) (fun _ _ _ _ _=>(pmD (pv 1) Z.bc.cl Z.bt g hr (zaa (pv 0) zab)))) zab))))))),?_⟩
 kt_k
 rw [d9]
 by_cases hl:(0:Int)<(ds.length:Int)
 ·rw [decide_eq_true hl,Bool.true_and] at k
  refine zlw hl ?_
  kt_k
  intro Dl a
  refine zd2 (xs:=ns.map V.int) (fun j σ H2=>zer (∃ v0:Option V,σ=[v0,some (.ref w)]/\zax H H2/\H2 Dl=some (.lst (((ns.take j).map (awB hs sil)).map V.bl)))) ⟨⟨none,rfl,zax.new H a,zad⟩⟩ (fun j σ H2 _ ⟨_,_,s,_⟩=>SqL.of (s _ _ hp)) ?_ ?_
  ·rintro j x σ H2 hj ⟨v0,rfl,s2,b⟩
   obtain ⟨n,h,rfl⟩:=zb7 hj
   have W2:=hW.keep (H':=H2) fun q o _ e=>s2 _ _ e
   have l:=s2 _ _ d
   have hsz:(((ns.take j).map (awB hs sil)).map V.bl).length<sizeLine:=by
    rw [d9,d9,gh]
    exact zau (by omega)
   kt_k
   refine .inl ⟨n,rfl,?_⟩
   rw [zkn hW.hb hW.z1 n]
   kt_k
   refine ⟨⟨_,rfl,s2.put a,?_⟩⟩
   rw [zad,gq,h]
   simp
  ·rintro σ H2 ⟨v0,rfl,s2,b⟩
   rw [d9,gj] at b
   have ea:((ns.map (awB hs sil)).any id)=ns.any (awB hs sil):=by rw [List.any_map]; rfl
   have k2:=k H2 s2
   rw [<- ea] at k2
   kt_k
 ·rw [decide_eq_false hl,Bool.false_and] at k
  have k2:=k H (zax.refl H)
  refine ze7 hl ?_
  kt_k
def zuu (H:Hp)(p:Addr)(e:Int × Nat):Prop:=H p=some (.tup [.int e.1,.int (e.2:Int)])
theorem zmn {α:Type}{p:α->Bool}{e:α}(h:p e=true):[e].filter p=[e]:=by rw [kj,if_pos h]; rfl
theorem zo6 {α:Type}{p:α->Bool}{e:α}(h:p e=false):[e].filter p=[]:=by rw [kj,if_neg (by rw [h]; exact Bool.false_ne_true)]; rfl
def z31 (z:Int)(hs sil:List Int)(N:Int->Nat->List Int):List (Int × Nat):=(zce z.toNat (zaq hs sil)).filter fun e=>zfo (awB hs sil) (N e.1 e.2) (zda (zaq hs sil) e.1 e.2)
structure zde (H:Hp)(l:Addr)(es:List (Int × Nat)):Prop where
 ex:∃ ps:List Addr,H l=some (.lst (ps.map V.ref))/\Paired (zuu H) ps es
theorem zde.same {H H':Hp}{l:Addr}{es:List (Int × Nat)}(h:zde H l es)(s:zax H H'):zde H' l es:=by
 obtain ⟨ps,a,b⟩:=h.ex
 exact ⟨ps,s _ _ a,b.mp fun _ _ e=>s _ _ e⟩
theorem zde.more {H:Hp}{l t:Addr}{ps:List Addr}{es:List (Int × Nat)}{e:Int × Nat}(h:H l=some (.lst (ps.map V.ref)))(hp:Paired (zuu H) ps es)(ht:zuu H t e):Paired (zuu (upd H l (.lst ((ps++[t]).map V.ref)))) (ps++[t]) (es++[e]):=by
 have up:∀ p e,zuu H p e->zuu (upd H l (.lst ((ps++[t]).map V.ref))) p e:=fun p e x=>by
  have x:H p=some (.tup [.int e.1,.int (e.2:Int)]):=x
  show upd H l _ p=_
  rw [zac (zdv x h (by intro z; cases z))]
  exact x
 exact zf0 (up _ _ ht) (hp.mp up)
def zvn (CB CT CW:Addr):Sp:=fun vs H Q _=>∀ CC:Prop,(∀ (w td sd:Addr) (z r:Int) (hs sil:List Int) (T:Int->zbv),vs=[.ref w]->zam CB CT CW H w td sd z r hs sil T->hs.length<=12->((∀ h∈hs,∀ k,(((T h).ns k).length:Int)<=r))->(∀ (l:Addr) (H':Hp),zax H H'->H l=none->zde H' l (z31 z hs sil (fun h=>(T h).ns))->Q (.ref l) H')->CC)->CC
theorem zro {z:Int}{hs sil:List Int}{N:Int->Nat->List Int}(h1:hs.length<=12)(h2:z<=60):(zce z.toNat (zaq hs sil)).length<=720:=by
 rw [zgu]
 exact l9 (gf zd9 h1) (show z.toNat<=60 by omega)
theorem zxl:zaj ["town"] ["town"] (zah (top 19)):=fS
theorem zxp (Z:ZZ P w K mg base):zgb Z 7 Z.da (zvn Z.ba.C Z.bb.C Z.bc.C):=by
 have x:=zu0 Z
 have j:=zs8 (CB:=Z.ba.C) (CT:=Z.bb.C) Z
 refine Z.da.fn.ok zxl (by kd_p) (fun cdv A outer s H vs Q E hr l=>?_)
 refine l _ fun w td sd z r hs sil TT v hW u aa k=>?_
 subst v
 have ae:=hW.r2
 have g:=hW.z2
 have ai:=zro (sil:=sil) (N:=fun h=>(TT h).ns) u g
 refine ⟨_,(zaf (zar (zct rfl (zaz (own:=["house","k","kept","due"]) (caps:=[0]) (N':=["house","k","kept","due","town"]) (by kernel_rfl)) (zbb (pfD Z.c1 x hr rfl (zaa (pv 0) zab))) (fun _ _ _ _ _=>(zwb (K:=K) (n:=4) rfl rfl (zb1 (zas (i:=0) (show (["house","k","kept","due","town"]:List Str).Nodup by decide +kernel) rfl oL) (zb1 (zas (i:=1) (show (["house","k","kept","due","town"]:List Str).Nodup by decide +kernel) rfl oL) (zb1 (zas (i:=2) (show (["house","k","kept","due","town"]:List Str).Nodup by decide +kernel) rfl oL) (zb1 (zas (i:=3) (show (["house","k","kept","due","town"]:List Str).Nodup by decide +kernel) rfl oL) zi0)))))) (fun _ _ _ _ _=>(zcu (zb_ (pfD Z.c9 j hr rfl (zaa (pv 4) (zaa (pv 2) (zaa (pv 3) zab))))))) (fun _ _ _ _ _=>(ze9 (zaa (pv 0) (zaa (pv 1) zab))))))),?_⟩
 kt_k
 intro L ps H1 s1 hL eL pp
 have ab:=pp.len
 kt_k
 intro Dl c
 refine zd2 (xs:=ps.map V.ref) (fun i σ H2=>zer (∃ (v0 v1 v2 v3:Option V) (qs:List Addr),σ=[v0,v1,v2,v3,some (.ref w)]/\zax H1 H2/\H2 Dl=some (.lst (qs.map V.ref))/\Paired (zuu H2) qs (((zce z.toNat (zaq hs sil)).take i).filter fun e=>zfo (awB hs sil) ((TT e.1).ns e.2) (zda (zaq hs sil) e.1 e.2)))) ⟨⟨none,none,none,none,[],rfl,zax.new H1 c,zad,.nil⟩⟩ (fun i σ H2 _ ⟨_,_,_,_,_,_,s,_⟩=>SqL.of (s _ _ eL)) ?_ ?_
 ·rintro i y σ H2 hi ⟨v0,v1,v2,v3,qs,rfl,s2,eD,qq⟩
  obtain ⟨p,e,hp,he,rfl,hx⟩:=zfd pp hi
  obtain ⟨a,b,h1,h2,h3,-,-⟩:=hx.ex
  have h1:=s2 _ _ h1
  have h2:=s2 _ _ h2
  have h3:=s2 _ _ h3
  obtain ⟨hm,hk⟩:=zo7 (fm he)
  have ad:=(zbf.mp hm).1
  have W2:=hW.keep (H':=H2) fun q o _ e=>s2 _ _ (s1 _ _ e)
  have af:((TT e.1).ns e.2).length<=60:=by
   have:=aa e.1 ad e.2
   omega
  have ah:i<720:=by
   have:=(List.getElem?_eq_some_iff.mp he).1
   omega
  have ag:=qq.len
  have ac:=gn (fun e:Int × Nat=>zfo (awB hs sil) ((TT e.1).ns e.2) (zda (zaq hs sil) e.1 e.2)) ((zce z.toNat (zaq hs sil)).take i)
  rw [gh] at ac
  have hsz:(qs.map V.ref).length<sizeLine:=by
   rw [d9]
   exact zau (by omega)
  have et:(zce z.toNat (zaq hs sil)).take (i+1)=(zce z.toNat (zaq hs sil)).take i++[e]:=by rw [gq,he]; rfl
  kt_k
  intro H3 s3
  cases hb:zfo (awB hs sil) ((TT e.1).ns e.2) (zda (zaq hs sil) e.1 e.2) with
  | true =>
   kt_k
   intro t ht
   generalize f:upd H3 t _=H4
   obtain ⟨s4,e4⟩:=nw ht f
   clear f
   have d:=s3.trans s4
   have m:=d _ _ eD
   kt_k
   have ea:qs.map V.ref++[V.ref t]=(qs++[t]).map V.ref:=by rw [gm]; rfl
   rw [ea]
   refine ⟨⟨_,_,_,_,qs++[t],rfl,(s2.trans d).put c,zad,?_⟩⟩
   rw [et,ig,zmn (p:=fun e:Int × Nat=>zfo (awB hs sil) ((TT e.1).ns e.2) (zda (zaq hs sil) e.1 e.2)) hb]
   exact zde.more m (qq.mp fun _ _ e=>d _ _ e) e4
  | false =>
   kt_k
   refine ⟨⟨_,_,_,_,qs,rfl,s2.trans s3,s3 _ _ eD,?_⟩⟩
   rw [et,ig,zo6 (p:=fun e:Int × Nat=>zfo (awB hs sil) ((TT e.1).ns e.2) (zda (zaq hs sil) e.1 e.2)) hb,j6]
   exact qq.mp fun _ _ e=>s3 _ _ e
 ·rintro σ H2 ⟨v0,v1,v2,v3,qs,rfl,s2,eD,qq⟩
  rw [d9,ab,gj] at qq
  kt_k
  exact k Dl H2 (s1.trans s2) (s1.free c) ⟨qs,eD,qq⟩
theorem zqf {t u:TS}{D:zuc}{σ:St}{H:Hp}(h:∀ U:St->Hp->Prop,(∀ σ H,u D σ H->U σ H)->t { D with nx:=U } σ H):z1y t u D σ H:=by
 unfold z1y
 exact h _ fun _ _ h=>h
structure Kd (T0 T1 T3:Addr)(H H':Hp)(O O':Addr->Prop):Prop where
 k:∀ q o,(∀ ps,o≠ .tbl ps)->H q=some o->¬ O q->H' q=some o
 o:∀ q,O' q->O q\/H q=none
 e:∀ q,H' q=none->H q=none
 t:∀ q ps,H q=some (.tbl ps)->q≠T0->q≠T1->q≠T3->H' q=some (.tbl ps)
section
variable {T0 T1 T3:Addr} {H H1 H':Hp} {O O1 O':Addr->Prop}
theorem Kd.trans (a:Kd T0 T1 T3 H H1 O O1)(b:Kd T0 T1 T3 H1 H' O1 O'):Kd T0 T1 T3 H H' O O':=by
 refine ⟨fun q o ho e hn=>b.k q o ho (a.k q o ho e hn) fun y=>?_,fun q y=>?_,fun q y=>a.e q (b.e q y),fun q ps e h0 h1 h3=>b.t q ps (a.t q ps e h0 h1 h3) h0 h1 h3⟩
 ·rcases a.o q y with z | z
  ·exact hn z
  ·rw [e] at z
   cases z
 ·rcases b.o q y with z | z
  ·exact a.o q z
  ·exact .inr (a.e q z)
theorem Kd.same (s:zax H H'):Kd T0 T1 T3 H H' O O:=⟨fun q o _ e _=>s _ _ e,fun _ y=> .inl y,fun _ e=>s.free e,fun _ _ e _ _ _=>s _ _ e⟩
theorem Kd.deed (d:zeh T3 H H' O O'):Kd T0 T1 T3 H H' O O':=⟨d.k,d.o,d.e,fun q ps e _ _ h=>d.t q ps e h⟩
theorem Kd.ask (d:z4_ T0 T1 T3 H H' O O'):Kd T0 T1 T3 H H' O O':=⟨d.k,d.o,d.e,d.t⟩
theorem Kd.kx (d:Kx T0 T1 H H'):Kd T0 T1 T3 H H' O O:=⟨fun q o ho e _=>d.k q o ho e,fun _ y=> .inl y,d.e,fun q ps e h0 h1 _=>d.b q ps e h0 h1⟩
end
theorem NOk.pool {pool pool':List Int}{z:Nat}{r:Int}{hs:List Int}{N:Int->Nat->List Int}(O:NOk pool z r hs N)(h:∀ x∈pool,x∈pool'):NOk pool' z r hs N:=⟨O.nd,O.le,fun g hg k m hm=>⟨h m (O.st g hg k m hm).1,(O.st g hg k m hm).2⟩⟩
theorem NOk.comer {pool:List Int}{z:Nat}{r:Int}{hs:List Int}{N:Int->Nat->List Int}(O:NOk pool z r hs N)(hr:1<=r)(i:Int):NOk pool z r (hs++[i]) (zxb N i):=by
 unfold zxb
 refine ⟨fun h hh k=>?_,fun h hh k=>?_,fun h hh k m hm=>?_⟩
 ·by_cases e:h=i
  ·rw [e,zal]
   exact je
  ·rw [zay e]
   exact O.nd h ((fj.mp hh).elim id fun y=>absurd (fc.mp y) e) k
 ·by_cases e:h=i
  ·rw [e,zal]
   simp only [jk]
   omega
  ·rw [zay e]
   exact O.le h ((fj.mp hh).elim id fun y=>absurd (fc.mp y) e) k
 ·by_cases e:h=i
  ·rw [e,zal] at hm
   cases hm
  ·rw [zay e] at hm
   exact O.st h ((fj.mp hh).elim id fun y=>absurd (fc.mp y) e) k m hm
theorem zr7 {z:Nat}{hs sil:List Int}{N:Int->Nat->List Int}{d i:Int}{ks:List Int}(hm:∀ x,x∈ks↔Rch (zm1 z (awB hs sil) N) d x)(hd:d∈hs):∀ x∈zht i ks,x∈hs/\x≠i:=fun x hx=>by
 have a:=zic hx
 refine ⟨?_,a.2⟩
 have b:=(hm x).mp a.1
 cases b with
 | own=>exact hd
 | go _ e=>exact (zi5 e.2).1
theorem zx4 {h x:Int}{l:List Int}(hx:x∈zzf h l):x∈l\/x=h:=by
 unfold zzf at hx
 split at hx
 ·exact .inl hx
 ·exact (fj.mp hx).elim .inl fun y=> .inr (fc.mp y)
theorem zsh {h:Int}{l:List Int}(hn:l.Nodup):(zzf h l).Nodup:=by
 unfold zzf
 split
 ·exact hn
 ·rename_i e
  exact zbx hn e
theorem zc8 {c:Int}{l:List Int}(h0:l≠[]):∃ h,h∈l/\atI (l.map V.int) (c % (((l.map V.int).length:Nat):Int))=some (V.int h):=by
 rw [d9]
 have hp:=List.length_pos_iff.mpr h0
 have a:(0:Int)<((l.length:Nat):Int):=by omega
 have a1:=Int.emod_nonneg c (Int.ne_of_gt a)
 have a2:=Int.emod_lt_of_pos c a
 have b:(c % ((l.length:Nat):Int)).toNat<l.length:=by omega
 refine ⟨l[(c % ((l.length:Nat):Int)).toNat],j4 b,?_⟩
 have e:(((c % ((l.length:Nat):Int)).toNat:Nat):Int)=c % ((l.length:Nat):Int):=by omega
 have z:=ziv (xs:=l.map V.int) (j:=(c % ((l.length:Nat):Int)).toNat) (v:=V.int l[(c % ((l.length:Nat):Int)).toNat]) (by simp [b])
 rwa [e] at z
theorem zdt {l:List Int}(h0:l≠[]):(0:Int)<(((l.map V.int).length:Nat):Int):=by
 have hp:=List.length_pos_iff.mpr h0
 rw [d9]
 omega
structure Std (CB CT CW T0 T1 T3:Addr)(H:Hp)(w td sd:Addr)(z r:Int)(hs sil pool:List Int)(T:Int->zbv):Prop where
 W:zam CB CT CW H w td sd z r hs sil T
 A:zck z.toNat hs T
 O:NOk pool z.toNat r hs (fun g=>(T g).ns)
 pq:∀ x∈hs,x∈pool
 pb:∀ x∈pool,0<=x/\x<2 ^ z.toNat
 sm:∀ x∈sil,x∈hs
 sn:sil.Nodup
 n12:hs.length<=12
 t0:Tab H T0 (za7 zd_) quL
 t1:Tab H T1 (za7 zjz) quT
 t3:Tab H T3 (za7 zea) quH
section
variable {CB CT CW T0 T1 T3:Addr} {H H3:Hp} {w td sd:Addr} {z r:Int} {hs sil pool:List Int} {T T':Int->zbv}
theorem Std.same (X:Std CB CT CW T0 T1 T3 H w td sd z r hs sil pool T)(s:zax H H3):Std CB CT CW T0 T1 T3 H3 w td sd z r hs sil pool T:=⟨X.W.keep fun q o _ e=>s _ _ e,X.A,X.O,X.pq,X.pb,X.sm,X.sn,X.n12,(s.but _).2 _ _ X.t0,(s.but _).2 _ _ X.t1,(s.but _).2 _ _ X.t3⟩
theorem Std.sl (X:Std CB CT CW T0 T1 T3 H w td sd z r hs sil pool T):sil.length<=12:=gf (zby X.sn X.sm) X.n12
theorem Std.kept (X:Std CB CT CW T0 T1 T3 H w td sd z r hs sil pool T)(hp:pool.length<=60):zki z hs (fun h=>(T h).ns):=fun h hh=>⟨gz (X.O.len hh z.toNat) (by omega),fun y hy=>by
 obtain ⟨k,_,hm⟩:=zdh.mp hy
 exact (X.pb y (X.O.st h hh k y hm).1).1⟩
theorem Std.come (X:Std CB CT CW T0 T1 T3 H w td sd z r hs sil pool T)(n0:T0≠T3)(n1:T1≠T3){i:Int}{vis:List Int}(h12:hs.length<12)(hi:0<=i/\i<2 ^ z.toNat)(hv:∀ x∈vis,x∈hs++[i]/\x≠i)(W3:zam CB CT CW H3 w td sd z r (hs++[i]) sil T')(A3:zck z.toNat (hs++[i]) T')
  (e3:(fun g=>(T' g).ns)=zcm r (awB (hs++[i]) sil) (zxb (fun g=>(T g).ns) i) i vis)(d3:zeh T3 H H3 (Own td sd z.toNat hs T) (Own td sd z.toNat (hs++[i]) T'))(t3:Tab H3 T3 (za7 zea) quH) :
  Std CB CT CW T0 T1 T3 H3 w td sd z r (hs++[i]) sil (pool++[i]) T'/\Kd T0 T1 T3 H H3 (Own td sd z.toNat hs T) (Own td sd z.toNat (hs++[i]) T'):=by
 have a:=W3.r1
 have b:∀ x∈hs++[i],x∈pool++[i]:=fun x hx=>(fj.mp hx).elim (fun y=>gb _ (X.pq x y)) fun y=>fh _ y
 have c:i∈pool++[i]:=fh _ (fc.mpr rfl)
 have kt:=zsw.deed X.W d3
 refine ⟨⟨W3,A3,?_,b,fun x hx=>(fj.mp hx).elim (X.pb x) fun y=>fc.mp y ▸ hi,fun x hx=>gb _ (X.sm x hx),X.sn,by rw [fe,fu]; omega,kt _ _ _ n0 X.t0,kt _ _ _ n1 X.t1,t3⟩,Kd.deed d3⟩
 rw [e3]
 exact NOk.meets a c (fun x hx=>⟨b x (hv x hx).1,(hv x hx).2⟩) ((X.O.pool fun x hx=>gb _ hx).comer a i)
theorem Std.woke (X:Std CB CT CW T0 T1 T3 H w td sd z r hs sil pool T)(n0:T0≠T3)(n1:T1≠T3){h:Int}{vis:List Int}(hh:h∈hs)(hv:∀ x∈vis,x∈hs/\x≠h)(W3:zam CB CT CW H3 w td sd z r hs (zjb h sil) T')(A3:zck z.toNat hs T')
  (e3:(fun g=>(T' g).ns)=zcm r (awB hs (zjb h sil)) (fun g=>(T g).ns) h vis)(d3:zeh T3 H H3 (Own td sd z.toNat hs T) (Own td sd z.toNat hs T'))(t3:Tab H3 T3 (za7 zea) quH) :
  Std CB CT CW T0 T1 T3 H3 w td sd z r hs (zjb h sil) pool T'/\Kd T0 T1 T3 H H3 (Own td sd z.toNat hs T) (Own td sd z.toNat hs T'):=by
 have a:=W3.r1
 have kt:=zsw.deed X.W d3
 refine ⟨⟨W3,A3,?_,X.pq,X.pb,fun x hx=>X.sm x (zem.mp hx).1,zfc X.sn,X.n12,kt _ _ _ n0 X.t0,kt _ _ _ n1 X.t1,t3⟩,Kd.deed d3⟩
 rw [e3]
 exact NOk.meets a (X.pq h hh) (fun x hx=>⟨X.pq x (hv x hx).1,(hv x hx).2⟩) X.O
theorem Std.dicts (X:Std CB CT CW T0 T1 T3 H w td sd z r hs sil pool T){hs' sil':List Int}(hn:hs'.Nodup)(hm:∀ x∈hs',x∈hs)(sm:∀ x∈sil',x∈hs')(sn:sil'.Nodup)(W4:zam CB CT CW H3 w td sd z r hs' sil' T)(k4:∀ q o,H q=some o->q≠td->q≠sd->H3 q=some o) :
  Std CB CT CW T0 T1 T3 H3 w td sd z r hs' sil' pool T/\Kd T0 T1 T3 H H3 (Own td sd z.toNat hs T) (Own td sd z.toNat hs' T):=by
 have d4:zeh T3 H H3 (Own td sd z.toNat hs T) (Own td sd z.toNat hs' T):=zeh.dicts X.W k4 ⟨_,W4.tb⟩ ⟨_,W4.si⟩ hm
 exact ⟨⟨W4,X.A.sub hm,X.O.sub hm,fun x hx=>X.pq x (hm x hx),X.pb,sm,sn,gf (zby hn hm) X.n12,Tab.dicts X.W X.t0 k4,Tab.dicts X.W X.t1 k4,Tab.dicts X.W X.t3 k4⟩,Kd.deed d4⟩
theorem Std.asked (X:Std CB CT CW T0 T1 T3 H w td sd z r hs sil pool T){i g:Int}{rest:List Int}(hp:pool.length<=60)(hi:i∈hs)(hR:Row (fun h=>zdg z r hs sil (fun h=>(T h).ns) g h i) i g r.toNat (i :: rest))(W3:zam CB CT CW H3 w td sd z r hs sil T')(A3:zck z.toNat hs T')
  (e3:(fun g=>(T' g).ns)=zjn r (awB hs sil) (fun h=>zdg z r hs sil (fun h=>(T h).ns) g h i) (fun h=>(T h).ns) i rest)(d3:z4_ T0 T1 T3 H H3 (Own td sd z.toNat hs T) (Own td sd z.toNat hs T')) :
  Std CB CT CW T0 T1 T3 H3 w td sd z r hs sil pool T'/\Kd T0 T1 T3 H H3 (Own td sd z.toNat hs T) (Own td sd z.toNat hs T'):=by
 have a:=X.pq i hi
 obtain ⟨d,b⟩:=hR.ok (zmk X.O W3.r2 hp fun x hx=>(X.pb x hx).1) a
 obtain ⟨c,-⟩:=j7.mp b
 refine ⟨⟨W3,A3,?_,X.pq,X.pb,X.sm,X.sn,X.n12,d3.t0,d3.t1,d3.t3⟩,Kd.ask d3⟩
 rw [e3]
 exact NOk.learn W3.r1 a X.O fun x hx=>⟨d x (fg _ hx),fun e=>c (e ▸ hx)⟩
theorem Std.went (X:Std CB CT CW T0 T1 T3 H w td sd z r hs sil pool T)(n0:T0≠T3)(n1:T1≠T3)(a:Kx T0 T1 H H3):Std CB CT CW T0 T1 T3 H3 w td sd z r hs sil pool T/\Kd T0 T1 T3 H H3 (Own td sd z.toNat hs T) (Own td sd z.toNat hs T):=by
 refine ⟨⟨X.W.keep a.k,X.A,X.O,X.pq,X.pb,X.sm,X.sn,X.n12,a.t0,a.t1,Tab.hold X.t3 fun q o ho e=>?_⟩,Kd.kx a⟩
 rcases ho with ⟨x,k,rfl⟩ | rfl
 ·exact a.k _ _ (fun _ z=>nomatch z) e
 ·obtain ⟨ps,hP,_⟩:=X.t3
  rw [hP] at e
  cases e
  exact a.b _ _ hP n0.symm n1.symm
end
def zho (aw:Int->Bool)(N:Int->Nat->List Int)(h:Int):Int->Nat->List Int:=zgc N h fun k=>(N h k).filter aw
def lostP (aw:Int->Bool)(N:Int->Nat->List Int)(h:Int)(l:List Int):Int->Nat->List Int:=zgc N h fun k=>(N h k).filter fun x=>aw x || !decide (x∈l)
theorem zu_ {aw:Int->Bool}{N:Int->Nat->List Int}{h:Int}:lostP aw N h []=N:=by
 funext g k
 unfold lostP
 by_cases e:g=h
 ·subst e
  rw [zal]
  simp
 ·rw [zay e]
theorem zsz {pool hs:List Int}{z:Nat}{r:Int}{aw:Int->Bool}{N:Int->Nat->List Int}{h n:Int}{l:List Int}(O:NOk pool z r hs N)(hh:h∈hs)(ha:aw n=false):lostP aw N h (l++[n])=zpa (lostP aw N h l) h n:=by
 funext g k
 unfold zpa lostP
 by_cases e:g=h
 ·subst e
  rw [zal,zal]
  have hn:((N g k).filter fun x=>aw x || !decide (x∈l)).Nodup:=(O.nd g hh k).filter _
  have a:(N g k).filter (fun x=>aw x || !decide (x∈l++[n]))=((N g k).filter fun x=>aw x || !decide (x∈l)).filter fun y=> !decide (y=n):=by
   rw [List.filter_filter]
   refine j8 fun x _=>?_
   by_cases ex:x=n
   ·subst ex
    simp [ha]
   ·simp [ex]
  by_cases ek:k=zbh g n
  ·subst ek
   rw [za_,zal,a,zoc hn]
  ·rw [zbe ek,zal,a]
   refine List.filter_eq_self.mpr fun x hx=>?_
   have b:=(gr.mp hx).1
   have hs:=(O.st g hh k x b).2.2
   have:x≠n:=fun e=>ek (by rw [<- hs,e])
   simp [this]
 ·rw [zay e,zay e,zay e]
theorem zta {aw:Int->Bool}{N:Int->Nat->List Int}{h n:Int}{l:List Int}(ha:aw n=true):lostP aw N h (l++[n])=lostP aw N h l:=by
 unfold lostP
 congr 1
 funext k
 refine j8 fun x _=>?_
 by_cases ex:x=n
 ·subst ex
  simp [ha]
 ·simp [ex]
theorem zo2 {pool hs:List Int}{z:Nat}{r:Int}{aw:Int->Bool}{N:Int->Nat->List Int}{h:Int}(O:NOk pool z r hs N)(hh:h∈hs)(hb:∀ x∈pool,0<=x/\x<2 ^ z)(hp:h∈pool):lostP aw N h (za1 (zdo (N h) z))=zho aw N h:=by
 unfold lostP zho
 congr 1
 funext k
 refine j8 fun x hx=>?_
 obtain ⟨h1,h2,h3⟩:=O.st h hh k x hx
 have a:=hb h hp
 have b:=hb x h1
 have hk:k<z:=h3 ▸ zdy a.1 b.1 a.2 b.2 (Ne.symm h2)
 have:x∈za1 (zdo (N h) z):=(zaw _).symm.subset (zdh.mpr ⟨k,hk,hx⟩)
 simp [this]
theorem NOk.lostP {pool hs:List Int}{z:Nat}{r:Int}{aw:Int->Bool}{N:Int->Nat->List Int}{h:Int}{l:List Int}(O:NOk pool z r hs N):NOk pool z r hs (lostP aw N h l):=by
 unfold NN.lostP
 refine ⟨fun g hg k=>?_,fun g hg k=>?_,fun g hg k m hm=>?_⟩
 ·by_cases e:g=h
  ·subst e
   rw [zal]
   exact (O.nd g hg k).filter _
  ·rw [zay e]
   exact O.nd g hg k
 ·by_cases e:g=h
  ·subst e
   rw [zal]
   have a:=gn (fun x=>aw x || !decide (x∈l)) (N g k)
   have b:=O.le g hg k
   omega
  ·rw [zay e]
   exact O.le g hg k
 ·by_cases e:g=h
  ·subst e
   rw [zal] at hm
   exact O.st g hg k m (gr.mp hm).1
  ·rw [zay e] at hm
   exact O.st g hg k m hm
def zqo (CB CT CW T1:Addr):Sp:=fun vs H Q _=>∀ CC:Prop,(∀ (w td sd:Addr) (z r:Int) (hs sil pool:List Int) (T:Int->zbv) (h:Int),vs=[.ref w,.int h]->zam CB CT CW H w td sd z r hs sil T->zck z.toNat hs T->h∈hs->NOk pool z.toNat r hs (fun g=>(T g).ns)->pool.length<64->((∀ x∈hs,x∈pool))->((∀ x∈pool,0<=x/\x<2 ^ z.toNat))->Tab H T1 (za7 zea) quH->(∀ (H':Hp) (T':Int->zbv),zam CB CT CW H' w td sd z r hs sil T'->zck z.toNat hs T'->(fun g=>(T' g).ns)=zho (awB hs sil) (fun g=>(T g).ns) h->zeh T1 H H' (Own td sd z.toNat hs T) (Own td sd z.toNat hs T')->Tab H' T1 (za7 zea) quH->Q .non H')->CC)->CC
theorem zeo:zaj ["self","house","name"] ["self","house"] (zah (zai (top 39) 22)):=fS
theorem zij (Z:ZZ P w K mg base){T1:Addr}:zco Z 6 Z.db (zqo Z.ba.C Z.bb.C Z.bc.C T1):=by
 have aw:=Z.bc.cl
 obtain ⟨ar,ao,av,ay,-⟩:=Z.bc.na
 have ac:=zii Z
 have ah:=zbg (CB:=Z.ba.C) (CT:=Z.bb.C) Z
 have ai:=zhh Z
 refine Z.db.fn.ok zeo (by kd_p) (fun cdv A outer s H vs Q E hr v=>?_)
 refine v _ fun w td sd z r hs sil pool TT h aa hW hA hh hO ag ae u hT k=>?_
 subst aa
 obtain ⟨dx,aq⟩:=hW.ob
 have aj:(zdo (TT h).ns z.toNat).length<64:=gz (hO.len hh z.toNat) ag
 refine ⟨_,(zaf (zca PassesOwn.never rfl (zbb (pmD (pv 0) Z.bc.cl Z.b3 ac hr (zaa (pv 1) zab))) (zas (i:=2) zeo.nd rfl oL)
   (zaf (zbn (zd3 (zb_ (pmD (pv 0) Z.bc.cl Z.bt ah hr (zaa (pv 2) zab))))
    (zaf (zap (pmD (zep (zfm hr) (za9 (pv 0) rfl) (pv 1) (fun _ _=>rfl)) Z.bb.cl Z.cu ai hr (zaa (pv 2) zab))))
    za6)))),?_⟩
 kt_k
 intro l H1 hl el s1
 have W1:=hW.keep (H':=H1) fun q o _ e=>s1 _ _ e
 have nl:¬ Own td sd z.toNat hs TT l:=hW.notOwn hl
 kt_k
 refine zbs (K:=K) (a:=l) (xs:=(za1 (zdo (TT h).ns z.toNat)).map V.int) (fun i σ H2=>zer (∃ (v2:Option V) (T2:Int->zbv),σ=[some (.ref w),some (.int h),v2]/\zam Z.ba.C Z.bb.C Z.bc.C H2 w td sd z r hs sil T2/\zck z.toNat hs T2/\(fun g=>(T2 g).ns)=lostP (awB hs sil) (fun g=>(TT g).ns) h ((za1 (zdo (TT h).ns z.toNat)).take i)/\zeh T1 H1 H2 (Own td sd z.toNat hs TT) (Own td sd z.toNat hs T2)/\Tab H2 T1 (za7 zea) quH))
  ⟨⟨_,TT,rfl,W1,hA,zu_.symm,zeh.refl _ _,(s1.but _).2 _ _ hT⟩⟩ (fun i σ H2 _ ⟨_,_,_,_,_,_,d,_⟩=>SqL.of (d.k _ _ (fun _ z=>nomatch z) el nl)) ?_ ?_
 ·rintro i y σ H2 hi ⟨v2,T2,rfl,W2,A2,e2,d2,t2⟩
  obtain ⟨n,hn,rfl⟩:=zb7 hi
  have et:(za1 (zdo (TT h).ns z.toNat)).take (i+1)=(za1 (zdo (TT h).ns z.toNat)).take i++[n]:=by rw [gq,hn]; rfl
  obtain ⟨kk,_,af⟩:=zdh.mp ((zaw _).subset (fm hn))
  obtain ⟨x,ad,_⟩:=hO.st h hh kk n af
  have b:=u n x
  have c:=hW.hb h hh
  obtain ⟨⟨an,ak⟩,f,al,m,-⟩:=id W2
  have ab:=m h hh
  obtain ⟨ax,am⟩:=ab.ob
  have hg:zik H2 td (V.int h) (some (V.ref (T2 h).t)):=by
   have:=zik.k (k:=Sum.inl h) f
   rw [zcd,if_pos hh] at this
   exact this
  kt_k
  refine .inl ⟨n,rfl,?_⟩
  rw [zkn hW.hb hW.z1 n]
  cases j:awB hs sil n with
  | true =>
   kt_k
   refine ⟨⟨_,T2,rfl,W2,A2,?_,d2,t2⟩⟩
   rw [e2,et,zta j]
  | false =>
   have p:zbh h n<z.toNat:=zdy c.1 b.1 c.2 b.2 (Ne.symm ad)
   have au:=c.1
   have az:=c.2
   have ap:=b.1
   have a0:=b.2
   kt_k
   intro _ H3 B3 b3
   obtain ⟨T3,W3,A3,e3,d3,t3⟩:=W2.dropped A2 t2 hh p B3 b3
   refine ⟨⟨_,T3,rfl,W3,A3,?_,d2.trans d3,t3⟩⟩
   rw [e3,e2,et,zsz hO hh j]
 ·rintro σ H2 ⟨v2,T2,rfl,W2,A2,e2,d2,t2⟩
  rw [d9,gj,zo2 hO hh u (ae h hh)] at e2
  exact k H2 T2 W2 A2 e2 ((zeh.same s1).trans d2) t2
def z5g (z:Nat)(r:Int)(aw:Int->Bool)(N:Int->Nat->List Int)(h:Int)(vis:List Int)(N':Int->Nat->List Int):Prop:=∃ ks:List Int,ks.Nodup/\(∀ x,x∈ks↔Rch (zm1 z aw (zho aw N h)) h x)/\vis=zht h ks/\N'=zcm r aw (zho aw N h) h (zht h ks)
theorem NOk.lost {pool hs:List Int}{z:Nat}{r:Int}{aw:Int->Bool}{N:Int->Nat->List Int}{h:Int}(O:NOk pool z r hs N)(hh:h∈hs)(hb:∀ x∈pool,0<=x/\x<2 ^ z)(hp:h∈pool):NOk pool z r hs (zho aw N h):=by
 rw [<- zo2 O hh hb hp]
 exact O.lostP
def z32 (CB CT CW T0 T1 T3:Addr):Sp:=fun vs H Q _=>∀ CC:Prop,(∀ (w td sd:Addr) (z r:Int) (hs sil pool:List Int) (T:Int->zbv) (h:Int),vs=[.ref w,.int h]->Std CB CT CW T0 T1 T3 H w td sd z r hs sil pool T->h∈hs->h∉sil->pool.length<64->(∀ (l:Addr) (vis:List Int) (H':Hp) (T':Int->zbv),z5g z.toNat r (awB hs sil) (fun g=>(T g).ns) h vis (fun g=>(T' g).ns)->Std CB CT CW T0 T1 T3 H' w td sd z r hs sil pool T'->zeh T3 H H' (Own td sd z.toNat hs T) (Own td sd z.toNat hs T')->H l=none->¬ Own td sd z.toNat hs T' l->H' l=some (.lst (vis.map V.int))->Q (.ref l) H')->CC)->CC
theorem zh2:zaj ["town","house"] ["town","house"] (zah (top 24)):=fS
theorem znn (Z:ZZ P w K mg base){T0 T1:Addr}(n03:T0≠Z.b8.P)(n13:T1≠Z.b8.P):zgb Z 12 Z.dc (z32 Z.ba.C Z.bb.C Z.bc.C T0 T1 Z.b8.P):=by
 have ac:=Z.bc.cl
 obtain ⟨af,ab,aa,ag,-⟩:=Z.bc.na
 have t:=zbd (CB:=Z.ba.C) (CT:=Z.bb.C) Z
 have n:=zij (T1:=Z.b8.P) Z
 have q:=zeu Z
 refine Z.dc.fn.ok zh2 (by kd_p) (fun cdv A outer s H vs Q E hr j=>?_)
 refine j _ fun w td sd z r hs sil pool TT h m X hh hn ae k=>?_
 subst m
 have hW:=X.W
 have hA:=X.A
 have hO:=X.O
 have b:=X.pq
 have c:=X.pb
 have ah:=X.t3
 obtain ⟨dx,ad⟩:=hW.ob
 refine ⟨_,(zae (zap (pmD (pv 0) Z.bc.cl Z.b0 t hr (zaa (pv 1) zab)))
  (zae (zap (pmD (pv 0) Z.bc.cl Z.db n hr (zaa (pv 1) zab)))
  (zaf (zar (pmD (pv 0) Z.bc.cl Z.cb q hr (zaa (pv 1) (zaa (pv 1) zab))))))),?_⟩
 kt_k
 intro H1 T2 W2 A2 e2 d2 t2
 have O2:NOk pool z.toNat r hs (fun g=>(T2 g).ns):=by
  rw [e2]
  exact hO.lost hh c (b h hh)
 obtain ⟨y,v⟩:=W2.ob
 kt_k
 intro l ks H3 T3 u f W3 A3 e3 d3 t3 o p i
 have d:=d2.trans d3
 have kt:=zsw.deed X.W d
 rw [e2] at e3
 have a:∀ x,x∈ks↔Rch (zm1 z.toNat (awB hs sil) (zho (awB hs sil) (fun g=>(TT g).ns) h)) h x:=fun x=>by rw [<- e2]; exact f x
 refine k l (zht h ks) H3 T3 ⟨ks,u,a,rfl,e3⟩ ⟨W3,A3,?_,b,c,X.sm,X.sn,X.n12,kt _ _ _ n03 X.t0,kt _ _ _ n13 X.t1,t3⟩ d (d2.e _ o) p i
 rw [e3]
 exact NOk.meets W3.r1 (b h hh) (fun x hx=>⟨b x (zr7 a hh x hx).1,(zr7 a hh x hx).2⟩) (hO.lost hh c (b h hh))
theorem zsy {l:List Int}{p:Int->Bool}:(!l.any p)=decide (l.filter p=[]):=by
 rw [Bool.eq_iff_iff,decide_eq_true_eq,List.filter_eq_nil_iff,jm,List.any_eq_false]
theorem zyg {hs sil ns ds:List Int}:zfo (awB hs sil) ns ds=(decide (ns.filter (fun n=>decide (n∈zaq hs sil))=[]) && !decide (ds=[])):=by
 unfold zfo
 have e1:(!ns.any (awB hs sil))=decide (ns.filter (fun n=>decide (n∈zaq hs sil))=[]):=by
  rw [zsy,show awB hs sil=fun n=>decide (n∈zaq hs sil) from funext fun n=>znw]
 have e2:decide (0<(ds.length:Int)) = !decide (ds=[]):=by
  cases ds with
  | nil=>rfl
  | cons d t =>
   rw [decide_eq_true (by rw [gs]; omega),decide_eq_false (by simp)]
   rfl
 rw [e1,e2,Bool.and_comm]
def zny (e:Int × Nat):PyData:= .tuple [.int e.1,.int (e.2:Int)]
theorem zra {K:W.Frag}{H:Hp}:∀ {ps:List Addr} {es:List (Int × Nat)},Paired (zuu H) ps es->DVs K H (es.map zny) (ps.map V.ref)
 | _,_,.nil=>by unfold DVs; rfl
 | _,_,@Paired.cons _ _ _ p e ps es x t=>by
  show DVs K H (zny e :: es.map zny) (.ref p :: ps.map V.ref)
  have x:H p=some (.tup [.int e.1,.int (e.2:Int)]):=x
  unfold DVs
  refine ⟨_,_,rfl,?_,zra t⟩
  unfold zny DV
  refine ⟨p,_,rfl,SqT.of x,?_⟩
  unfold DVs
  refine ⟨_,_,rfl,by unfold DV; rfl,?_⟩
  unfold DVs
  refine ⟨_,_,rfl,by unfold DV; rfl,?_⟩
  unfold DVs
  rfl
theorem zrd:∀ es:List (Int × Nat),PyData.eqvAll (es.map zny) (es.map zny)=true
 | []=>by simp [PyData.eqvAll]
 | e :: es=>by
  have ih:=zrd es
  simp [PyData.eqvAll,PyData.eqv,zny,ih]
theorem zde.dv {K:W.Frag}{H:Hp}{l:Addr}{es:List (Int × Nat)}(h:zde H l es):DV K H (.list (es.map zny)) (.ref l):=by
 obtain ⟨ps,a,b⟩:=h.ex
 unfold DV
 exact ⟨l,_,rfl,SqL.of a,zra b⟩
theorem zwv (es:List (Int × Nat)):PyData.canLay0 (.list (es.map zny))=true:=by
 unfold PyData.canLay0
 exact zqw fun e _=>by simp [zny,PyData.canLay0,PyData.canLayAll0]
theorem zvu (es:List (Int × Nat)):PyData.depth (.list (es.map zny))<=64:=by
 unfold PyData.depth
 have:=znc (g:=zny) (n:=1) (xs:=es) fun e _=>by simp [zny,PyData.depth,PyData.depthAll]
 omega
theorem zd6:zaj ["_law_town","_law_live","_law_found","_law_house","_law_k","_law_spanned","_law_awake"] ["_law_town"] (zah (top 50)):=fS
theorem zu8 (Z:ZZ P w K mg base):zgb Z 6 Z.dd (zvn Z.ba.C Z.bb.C Z.bc.C):=by
 have bq:=Z.bc.cl
 obtain ⟨bz,bl,bp,b1,-⟩:=Z.bc.na
 have a7:=zba (CB:=Z.ba.C) (CT:=Z.bb.C) Z
 have a6:=zdi Z
 refine Z.dd.fn.ok zd6 (by kd_p) (fun cdv A outer s H vs Q E hr a5=>?_)
 refine a5 _ fun w td sd z r hs sil TT au hW ag ay k=>?_
 subst au
 obtain ⟨dx,ah⟩:=hW.ob
 have bn:=hW.z1
 have a4:=hW.z2
 have bo:=hW.r2
 have bv:(zaq hs sil).length<=12:=gf zd9 ag
 have a1:∀ n∈zaq hs sil,0<=n:=fun n hn=>(hW.hb n (zbf.mp hn).1).1
 have b0:=zro (sil:=sil) (N:=fun h=>(TT h).ns) ag a4
 have bw:=zbz (zaq hs sil)
 refine ⟨_,(zae (za2 (i:=1) zd6.nd rfl (Or.inr rfl) (zbi (pv 0) Z.bc.cl Z.b7.me a7 hr.mm Z.b7.b .nil zbw))
  (zae (za2 (i:=2) zd6.nd rfl oL (zb0 zab))
  (zae (zca PassesOwn.never rfl (zbb (pv 1)) (zas (i:=3) zd6.nd rfl (Or.inr rfl))
   (zaf (zca PassesOwn.never rfl (zc2 rfl Z.ds.n_range (zaa (za9 (pv 0) rfl) zab)) (zas (i:=4) zd6.nd rfl (Or.inr rfl))
    (zae (zf5 (i:=5) zd6.nd rfl oL rfl (zaz (own:=["_law_name_here"]) (caps:=[4,3]) (N':=["_law_name_here","_law_k","_law_house"]) (by kernel_rfl)) (zbb (pv 1)) (fun _ _ _ _ _=>(zas (i:=0) (show (["_law_name_here","_law_k","_law_house"]:List Str).Nodup by decide +kernel) rfl oL)) (fun _ _ _ _ _=>(zcu (zan zhu (zmc (K:=K) rfl (za8 zmh (pv 0) (pv 2))) (za8 zg2 (pv 1) zak) (za5 _)))) (fun _ _ _ _ _=>(pv 0)))
    (zae (zf5 (i:=6) zd6.nd rfl oL rfl (zaz (own:=["_law_name_here"]) (caps:=[1]) (N':=["_law_name_here","_law_live"]) (by kernel_rfl)) (zbb (pmD (pv 0) Z.bc.cl Z.b2 a6 hr (zaa (pv 3) (zaa (pv 4) zab)))) (fun _ _ _ _ _=>(zas (i:=0) (show (["_law_name_here","_law_live"]:List Str).Nodup by decide +kernel) rfl oL)) (fun _ _ _ _ _=>(zcu (zan (ze6 (K:=K) rfl) (pv 0) (pv 1) (by with_unfolding_all rfl)))) (fun _ _ _ _ _=>(pv 0)))
    (zaf (zbn (PW.pt (zgx (zan (zh5 hr.units) (pv 5) (zb0 zab) (za5 _)) (zfz (zan (zun hr.units) (pv 6) (zb0 zab) (za5 _)))))
     (zaf (zap (zgv ge PySem.F.slot_list_append PySem.F.type_list_append zb4 (pv 2) (zaa (ze9 (zaa (pv 3) (zaa (pv 4) zab))) zab))))
     za6)))))))
  (zaf (zar (pv 2)))))),?_⟩
 kt_k
 intro al H1 s1 b3 d
 have d:H1 al=some (.lst ((zaq hs sil).map V.int)):=d
 kt_k
 intro L hL
 generalize ai:upd H1 L _=H2
 obtain ⟨s2,e2⟩:=nw hL ai
 replace e2:H2 L=some (.lst (([]:List Addr).map V.ref)):=e2
 clear ai
 have bg:=s2 _ _ d
 kt_k
 refine zbs (K:=K) (a:=al) (xs:=(zaq hs sil).map V.int) (fun i σ H3=>zer (∃ (v3 v4 v5 v6:Option V) (ps:List Addr),σ=[some (.ref w),some (.ref al),some (.ref L),v3,v4,v5,v6]/\zax H1 H3/\H3 L=some (.lst (ps.map V.ref))/\Paired (zuu H3) ps ((zce z.toNat ((zaq hs sil).take i)).filter fun e=>zfo (awB hs sil) ((TT e.1).ns e.2) (zda (zaq hs sil) e.1 e.2)))) ⟨⟨_,_,_,_,[],rfl,s2,e2,.nil⟩⟩ (fun i σ H3 _ ⟨_,_,_,_,_,_,s,_⟩=>SqL.of (s _ _ d)) ?_ ?_
 ·rintro i y σ H3 hi ⟨v3,v4,v5,v6,ps,rfl,s3,e3,pp⟩
  obtain ⟨h,hh,rfl⟩:=zb7 hi
  have bf:=s3 _ _ (s1 _ _ ah)
  have aq:h∈hs:=(zbf.mp (fm hh)).1
  have ax:=(hW.hb h aq).1
  have et:(zaq hs sil).take (i+1)=(zaq hs sil).take i++[h]:=by rw [gq,hh]; rfl
  kt_k
  refine zhw (lo:=0) (n:=z.toNat) (fun j σ H4=>zer (∃ (v4 v5 v6:Option V) (ps:List Addr),σ=[some (.ref w),some (.ref al),some (.ref L),some (.int h),v4,v5,v6]/\zax H1 H4/\H4 L=some (.lst (ps.map V.ref))/\Paired (zuu H4) ps ((zce z.toNat ((zaq hs sil).take i)++(ji j).map fun k=>(h,k)).filter fun e=>zfo (awB hs sil) ((TT e.1).ns e.2) (zda (zaq hs sil) e.1 e.2)))) ⟨⟨_,_,_,ps,rfl,s3,e3,by simpa using pp⟩⟩ ?_ ?_
  ·rintro j σ H4 hj ⟨v4,v5,v6,c,rfl,s4,e4,g⟩
   have a2:=hW.keep (H':=H4) fun q o _ e=>s4 _ _ (s1 _ _ e)
   have af:=s4 _ _ (s1 _ _ ah)
   have bu:0<=0+(j:Int):=by omega
   have br:(0+(j:Int)).toNat<z.toNat:=by omega
   have ej:(0+(j:Int)).toNat=j:=by omega
   have u:=s4 _ _ d
   have bt:=g.len
   have a9:=gn (fun e:Int × Nat=>zfo (awB hs sil) ((TT e.1).ns e.2) (zda (zaq hs sil) e.1 e.2)) (zce z.toNat ((zaq hs sil).take i)++(ji j).map fun k=>(h,k))
   have hsz:(c.map V.ref).length<sizeLine:=by
    rw [d9]
    rw [fe,zgu,d9,jz,gh] at a9
    have:(min i (zaq hs sil).length) * z.toNat<=12 * 60:=l9 (by omega) (by omega)
    exact zau (by omega)
   kt_k
   intro D2 a8
   refine zbo (fun n=>decide ((((Builtin.Int.intBits (Builtin.bitXor n h):Nat):Int))=(0+(j:Int))+1)) a8 (SqL.of u) (by omega) (fun x hx H7 Qt s7 q=>?_) fun H5 s5 ab=>?_
   ·have q2:=q H7 (zax.refl H7)
    kt_k
    show Qt (decide (V.int _=V.int _)) H7
    rw [z5m]
    exact q2
   rw [zml a1 ax] at ab
   have bm:=a2.keep (H':=H5) fun q o _ e=>s5 _ _ e
   have bi:=s5 _ _ af
   have ao:=s5 _ _ u
   kt_k
   intro m H6 hm em s6
   rw [ej] at em
   have am:=s6 _ _ ao
   have av:=ay h aq j
   generalize an:(TT h).ns j=ns at em av
   kt_k
   intro D1 aw
   refine zbo (fun n=>decide (n∈zaq hs sil)) aw (SqL.of em) (by omega) (fun x hx H8 Qt s8 q=>?_) fun H7 s7 az=>?_
   ·have q2:=q H8 (zax.refl H8)
    have be:=s8 _ _ am
    kt_k
    rw [zch]
    exact q2
   have aa:=s7 _ _ (s6 _ _ ab)
   kt_k
   intro f1 a0
   generalize ac:upd H7 f1 _=H8
   obtain ⟨s8,e8⟩:=nw a0 ac
   replace e8:H8 f1=some (.lst (([]:List Int).map V.int)):=e8
   clear ac
   have bj:=s8 _ _ aa
   have ak:=s8 _ _ az
   have l:=((s5.trans s6).trans s7).trans s8
   have aj:=l _ _ e4
   have er:(ji (j+1)).map (fun k=>(h,k))=(ji j).map (fun k=>(h,k))++[(h,j)]:=by rw [jr,gm]; rfl
   have f:=zyg (hs:=hs) (sil:=sil) (ns:=ns) (ds:=zda (zaq hs sil) h j)
   have no:∀ Hx,zax H4 Hx->zfo (awB hs sil) ns (zda (zaq hs sil) h j)=false->Paired (zuu Hx) c ((zce z.toNat ((zaq hs sil).take i)++(ji (j+1)).map fun k=>(h,k)).filter fun e=>zfo (awB hs sil) ((TT e.1).ns e.2) (zda (zaq hs sil) e.1 e.2)):=fun Hx sx hb=>by
    rw [er,<- iq,ig,zo6 (p:=fun e:Int × Nat=>zfo (awB hs sil) ((TT e.1).ns e.2) (zda (zaq hs sil) e.1 e.2)) (by show zfo (awB hs sil) ((TT h).ns j) (zda (zaq hs sil) h j)=false; rw [an,hb]),j6]
    exact g.mp fun _ _ e=>sx _ _ e
   kt_k
   by_cases c2:zda (zaq hs sil) h j=[]
   ·rw [decide_eq_true c2,Bool.not_true,Bool.and_false] at f
    rw [decide_eq_true c2]
    kt_k
    exact ⟨⟨_,_,_,c,rfl,s4.trans l,aj,no _ l f⟩⟩
   ·rw [decide_eq_false c2] at f |-
    kt_k
    intro f2 bd
    generalize ae:upd H8 f2 _=H9
    obtain ⟨s9,e9⟩:=nw bd ae
    replace e9:H9 f2=some (.lst (([]:List Int).map V.int)):=e9
    clear ae
    have bh:=s9 _ _ ak
    have ap:=s9 _ _ aj
    have v:=l.trans s9
    kt_k
    by_cases c1:ns.filter (fun n=>decide (n∈zaq hs sil))=[]
    ·rw [decide_eq_true c1] at f
     refine zlw c1 ?_
     kt_k
     intro t ht
     generalize ar:upd H9 t _=Ha
     obtain ⟨sa,ea⟩:=nw ht ar
     clear ar
     have ad:=v.trans sa
     have a3:=sa _ _ ap
     kt_k
     have eq:c.map V.ref++[V.ref t]=(c++[t]).map V.ref:=by rw [gm]; rfl
     rw [eq]
     refine ⟨⟨_,_,_,c++[t],rfl,(s4.trans ad).put hL,zad,?_⟩⟩
     rw [er,<- iq,ig,zmn (p:=fun e:Int × Nat=>zfo (awB hs sil) ((TT e.1).ns e.2) (zda (zaq hs sil) e.1 e.2)) (by show zfo (awB hs sil) ((TT h).ns j) (zda (zaq hs sil) h j)=true; rw [an]; exact f)]
     refine zde.more a3 (g.mp fun _ _ e=>ad _ _ e) ?_
     show Ha t=_
     rw [ea,mq]
    ·rw [decide_eq_false c1,Bool.false_and] at f
     refine ze7 c1 ?_
     kt_k
     exact ⟨⟨_,_,_,c,rfl,s4.trans v,ap,no _ v f⟩⟩
  ·rintro σ H4 ⟨v4,v5,v6,c,rfl,s4,e4,g⟩
   refine ⟨⟨_,_,_,_,c,rfl,s4,e4,?_⟩⟩
   rw [et,zie,zkd]
   exact g
 ·rintro σ H3 ⟨v3,v4,v5,v6,ps,rfl,s3,e3,pp⟩
  rw [d9,gj] at pp
  kt_k
  exact k L H3 (s1.trans s3) (s1.free hL) ⟨ps,e3,pp⟩
theorem ze_:zaj ["_law_town","_law_house","_law_live","_law_found","_law_turn","_law_one","_law_name_here"] ["_law_town","_law_house"] (zah (top 48)):=fS
theorem zox (Z:ZZ P w K mg base):zgb Z 6 Z.de (zrr Z.ba.C Z.bb.C Z.bc.C):=by
 have bo:=Z.bc.cl
 obtain ⟨bj,bg,bn,bq,-⟩:=Z.bc.na
 have a4:=zba (CB:=Z.ba.C) (CT:=Z.bb.C) Z
 have a5:=zii Z
 refine Z.de.fn.ok ze_ (by kd_p) (fun cdv A outer s H vs Q E hr a1=>?_)
 refine a1 _ fun w td sd z r hs sil TT d a2 hW hd a0 aj k=>?_
 subst a2
 obtain ⟨dx,bh⟩:=hW.ob
 have bp:=hW.ln
 have ak:(zaq hs sil).length<64:=by have:=zd9 (hs:=hs) (sil:=sil); omega
 have ag:∀ x,awB hs sil x=decide (x∈zaq hs sil):=fun x=>znw
 have ay:∀ x∈zaq hs sil,x∈hs:=fun x hx=>(zbf.mp hx).1
 have af:d∈zaq hs sil:=zbf.mpr ⟨hd,a0⟩
 refine ⟨_,(zae (za2 (i:=2) ze_.nd rfl oL (zbi (pv 0) Z.bc.cl Z.b7.me a4 hr.mm Z.b7.b .nil zbw))
  (zae (za2 (i:=3) ze_.nd rfl oL (zb0 (zaa (pv 1) zab)))
  (zae (zca PassesOwn.never rfl (zc2 rfl Z.ds.n_range (zaa (za0 za3 rfl Z.ds.n_len zc1 (zaa (pv 2) zab)) zab)) (zas (i:=4) ze_.nd rfl oL)
   (zaf (zca PassesOwn.never rfl (zbb (zh4 zge rfl Z.ds.n_list zm2 (zaa (pv 3) zab))) (zas (i:=5) ze_.nd rfl oL)
    (zaf (zca PassesOwn.never rfl (zbb (pmD (pv 0) Z.bc.cl Z.b3 a5 hr (zaa (pv 5) zab))) (zas (i:=6) ze_.nd rfl oL)
     (zaf (zbn (PW.pt (zgx (zan zgw (pv 6) (pv 2) (by with_unfolding_all rfl)) (zfz (zan zcf (pv 6) (pv 3) (by with_unfolding_all rfl)))))
      (zaf (zap (zgv ge PySem.F.slot_list_append PySem.F.type_list_append zb4 (pv 3) (zaa (pv 6) zab))))
      za6)))))))
  (zaf (zar (za0 zkb rfl Z.ds.n_sorted zfl (zaa (pv 3) zab))))))),?_⟩
 kt_k
 intro al H0 s0 bt h
 replace h:H0 al=some (.lst ((zaq hs sil).map V.int)):=h
 generalize zaq hs sil=lv at ak ag ay af h
 let aw:Int->Bool:=awB hs sil
 let kp:Int->List Int:=fun a=>za1 (zdo (TT a).ns z.toNat)
 have ah:∀ x,aw x=true->x∈lv:=fun x e=>of_decide_eq_true ((ag x).symm.trans e)
 let R:Int->Prop:=fun x=>x∈lv
 have hR:∀ a,R a->∀ x∈kp a,aw x=true->R x:=fun a _ x _ e=>ah x e
 have au:∀ {f:List Int},f.Nodup->(∀ x∈f,x∈lv)->f.length<=lv.length:=fun a b=>zby a b
 have bm:(lv.map V.int).length<64:=by rw [d9]; exact ak
 kt_k
 intro p hp
 have s1:zax H (upd H0 p (.lst [V.int d])):=s0.put (s0.free hp)
 have bl:H p=none:=s0.free hp
 have ap:upd H0 p (.lst [V.int d]) p=some (.lst ((zbc aw kp d 0).map V.int)):=zad
 have am:upd H0 p (.lst [V.int d]) al=some (.lst (lv.map V.int)):=by rw [zac (zag h hp)]; exact h
 have az:zax H0 (upd H0 p (.lst [V.int d])):=zax.new H0 hp
 generalize upd H0 p (.lst [V.int d])=H1 at s1 ap am az |-
 iterate 4 (walk_at "e")
 refine ⟨by omega,by omega,?_⟩
 rw [d9]
 refine zhw (lo:=0) (n:=lv.length) (fun i σ H6=>zer (∃ (v3 v4 v5:Option V),σ=[some (.ref w),some (.int d),some (.ref al),some (.ref p),v3,v4,v5]/\zax H0 H6/\H6 p=some (.lst ((zbc aw kp d i).map V.int)))) ⟨⟨_,_,_,rfl,az,ap⟩⟩ ?_ ?_
 ·rintro i σ H6 hi ⟨v3,v4,v5,rfl,s6,ac⟩
  obtain ⟨t1,t2,t3⟩:=zh_ (R:=R) (aw:=aw) (kp:=kp) af hR i
  kt_k
  intro c hc
  have s7:zax H0 (upd H6 c (.lst ((zbc aw kp d i).map V.int))):=s6.put (s6.free hc)
  have aq:upd H6 c (.lst ((zbc aw kp d i).map V.int)) c=some (.lst ((zbc aw kp d i).map V.int)):=zad
  have av:p≠c:=zag ac hc
  have ao:upd H6 c (.lst ((zbc aw kp d i).map V.int)) p=some (.lst ((zgd aw kp (zbc aw kp d i) []).map V.int)):=by rw [zac av]; exact ac
  generalize upd H6 c (.lst ((zbc aw kp d i).map V.int))=H7 at s7 aq ao |-
  kt_k
  refine zbs (K:=K) (a:=c) (xs:=(zbc aw kp d i).map V.int) (fun j σ H8=>zer (∃ (v4 v5:Option V),σ=[some (.ref w),some (.int d),some (.ref al),some (.ref p),some (.int (0+(i:Int))),v4,v5]/\zax H0 H8/\H8 c=some (.lst ((zbc aw kp d i).map V.int))/\H8 p=some (.lst ((zgd aw kp (zbc aw kp d i) ((zbc aw kp d i).take j)).map V.int)))) ⟨⟨_,_,rfl,s7,aq,by rw [List.take_zero]; exact ao⟩⟩ (fun j σ H8 _ ⟨_,_,_,_,e,_⟩=>SqL.of e) ?_ ?_
  ·rintro j y σ H8 hj ⟨v4,v5,rfl,s8,ai,v⟩
   obtain ⟨a,ha,rfl⟩:=zb7 hj
   have a3:a∈hs:=ay a (t2 a (fm ha))
   have W8:=hW.keep (H':=H8) fun q o _ e=>s8 _ _ (s0 _ _ e)
   obtain ⟨br,a9⟩:=W8.ob
   have bd:=aj a a3
   obtain ⟨g8,_⟩:=zd5 (R:=R) (aw:=aw) (kp:=kp) hR t1 t2 (xs:=(zbc aw kp d i).take j) (fun x hx=>t2 x (gy hx))
   kt_k
   intro kl H9 ax ar s9
   have a8:p≠kl:=zag v ax
   have bi:c≠kl:=zag ai ax
   kt_k
   refine zbs (K:=K) (a:=kl) (xs:=(za1 (zdo (TT a).ns z.toNat)).map V.int) (fun u σ HA=>zer (∃ (v5:Option V),σ=[some (.ref w),some (.int d),some (.ref al),some (.ref p),some (.int (0+(i:Int))),some (.int a),v5]/\zax H0 HA/\HA c=some (.lst ((zbc aw kp d i).map V.int))/\HA kl=some (.lst ((za1 (zdo (TT a).ns z.toNat)).map V.int))/\HA p=some (.lst ((zfp aw (zgd aw kp (zbc aw kp d i) ((zbc aw kp d i).take j)) ((kp a).take u)).map V.int)))) ⟨⟨_,rfl,s8.trans s9,s9 _ _ ai,ar,by rw [List.take_zero]; exact s9 _ _ v⟩⟩ (fun u σ HA _ ⟨_,_,_,_,e,_⟩=>SqL.of e) ?_ ?_
   ·rintro u y σ HA hu ⟨v5,rfl,sA,ab,m,t⟩
    obtain ⟨x,hx,rfl⟩:=zb7 hu
    have be:=sA _ _ h
    obtain ⟨gA,_⟩:=zhj (R:=R) (aw:=aw) g8.nd g8.re (xs:=(kp a).take u) (fun x _ e=>ah x e)
    have a7:=au gA.nd gA.re
    have ae:zfp aw (zgd aw kp (zbc aw kp d i) ((zbc aw kp d i).take j)) ((kp a).take (u+1))=if aw x && !decide (x∈zfp aw (zgd aw kp (zbc aw kp d i) ((zbc aw kp d i).take j)) ((kp a).take u)) then zfp aw (zgd aw kp (zbc aw kp d i) ((zbc aw kp d i).take j)) ((kp a).take u)++[x] else zfp aw (zgd aw kp (zbc aw kp d i) ((zbc aw kp d i).take j)) ((kp a).take u):=by rw [zgn hx,zsg]
    generalize zfp aw (zgd aw kp (zbc aw kp d i) ((zbc aw kp d i).take j)) ((kp a).take u)=f at t a7 ae gA
    have bf:(f.map V.int).length<sizeLine:=by
     rw [d9]
     exact zau (by omega)
    have aa:aw x=decide (x∈lv):=ag x
    kt_k
    rw [zch]
    by_cases an:x∈lv
    ·rw [decide_eq_true an] at aa |-
     kt_k
     rw [zch]
     by_cases ad:x∈f
     ·rw [decide_eq_true ad]
      kt_k
      refine ⟨⟨_,rfl,sA,ab,m,?_⟩⟩
      rw [ae,aa,decide_eq_true ad,Bool.true_and,if_neg (by decide)]
      exact t
     ·rw [decide_eq_false ad]
      kt_k
      refine ⟨⟨_,rfl,sA.put hp,?_,?_,?_⟩⟩
      ·rw [zac av.symm]
       exact ab
      ·rw [zac a8.symm]
       exact m
      ·rw [zad,ae,aa,decide_eq_false ad,Bool.true_and,if_pos (by decide),gm]
       rfl
    ·rw [decide_eq_false an] at aa |-
     kt_k
     refine ⟨⟨_,rfl,sA,ab,m,?_⟩⟩
     rw [ae,aa,Bool.false_and,if_neg Bool.false_ne_true]
     exact t
   ·rintro σ HA ⟨v5,rfl,sA,ab,m,t⟩
    refine ⟨⟨_,_,rfl,sA,ab,?_⟩⟩
    rw [d9,show (za1 (zdo (TT a).ns z.toNat)).length=(kp a).length from rfl,gj] at t
    rw [zgn ha,zsf]
    exact t
  ·rintro σ H8 ⟨v4,v5,rfl,s8,ai,v⟩
   rw [d9,gj] at v
   exact ⟨⟨_,_,_,rfl,s8,v⟩⟩
 ·rintro σ H6 ⟨v3,v4,v5,rfl,s6,ac⟩
  obtain ⟨c1,c2⟩:=zu2 (z:=z.toNat) (aw:=aw) (N:=fun g=>(TT g).ns) (kp:=kp) (hs:=lv) (d:=d) (fun a _=>zaw _) ah af
  have a6:(zbc aw kp d lv.length).length<64:=by
   have:=au c1 (zh_ (R:=R) (aw:=aw) (kp:=kp) af hR lv.length).2.1
   omega
  generalize zbc aw kp d lv.length=ks at ac c1 c2 a6
  kt_k
  intro l hl
  exact k l ks _ ((s0.trans s6).put ((s0.trans s6).free hl)) ((s0.trans s6).free hl) zad c1 c2
def zel (CB CT CW T0 T1 T3 w td sd:Addr)(z r:Int)(hs pool:List Int)(T:Int->zbv)(H:Hp)(Q:VK):Prop:=∀ (H':Hp) (hs' sil' pool':List Int) (T':Int->zbv),Std CB CT CW T0 T1 T3 H' w td sd z r hs' sil' pool' T'->Kd T0 T1 T3 H H' (Own td sd z.toNat hs T) (Own td sd z.toNat hs' T')->pool'.length<=pool.length+1->Q .non H'
theorem zel.same {CB CT CW T0 T1 T3 w td sd:Addr}{z r:Int}{hs pool:List Int}{T:Int->zbv}{H H1:Hp}{Q:VK}(k:zel CB CT CW T0 T1 T3 w td sd z r hs pool T H Q)(s:zax H H1):zel CB CT CW T0 T1 T3 w td sd z r hs pool T H1 Q:=fun H' hs' sil' pool' T' a b c=>k H' hs' sil' pool' T' a ((Kd.same s).trans b) c
theorem zel.end {CB CT CW T0 T1 T3 w td sd:Addr}{z r:Int}{hs sil pool:List Int}{T:Int->zbv}{H:Hp}{Q:VK}(k:zel CB CT CW T0 T1 T3 w td sd z r hs pool T H Q)(X:Std CB CT CW T0 T1 T3 H w td sd z r hs sil pool T):Q .non H:=k H hs sil pool T X (Kd.same (zax.refl H)) (by omega)
section
variable {CB CT CW T0 T1 T3 w td sd:Addr} {z r:Int} {hs sil pool:List Int} {T:Int->zbv} {H:Hp} {Q:VK}
theorem zel.come (k:zel CB CT CW T0 T1 T3 w td sd z r hs pool T H Q)(X:Std CB CT CW T0 T1 T3 H w td sd z r hs sil pool T)(n0:T0≠T3)(n1:T1≠T3){n:Int}(h12:hs.length<12)(hn0:0<=n)(hn1:n<2 ^ z.toNat){dv:V}(hd:dv = .non\/∃ d,dv = .int d/\d∈hs){vis:List Int}{H':Hp}{T':Int->zbv}
  (a1:dv = .non->vis=[])(a2:∀ d,dv = .int d->∃ ks:List Int,ks.Nodup/\(∀ x,x∈ks↔Rch (zm1 z.toNat (awB (hs++[n]) sil) (zxb (fun g=>(T g).ns) n)) d x)/\vis=zht n ks)
  (W3:zam CB CT CW H' w td sd z r (hs++[n]) sil T')(A3:zck z.toNat (hs++[n]) T')(e3:(fun g=>(T' g).ns)=zcm r (awB (hs++[n]) sil) (zxb (fun g=>(T g).ns) n) n vis)(d3:zeh T3 H H' (Own td sd z.toNat hs T) (Own td sd z.toNat (hs++[n]) T'))(t3:Tab H' T3 (za7 zea) quH):Q .non H':=by
 have hv:∀ x∈vis,x∈hs++[n]/\x≠n:=by
  rcases hd with rfl | ⟨d,rfl,hd⟩
  ·rw [a1 rfl]
   exact fun x hx=>(nomatch hx)
  ·obtain ⟨ks,_,b2,rfl⟩:=a2 d rfl
   exact zr7 b2 (gb _ hd)
 obtain ⟨X3,kl⟩:=X.come n0 n1 h12 ⟨hn0,hn1⟩ hv W3 A3 e3 d3 t3
 exact k H' _ _ _ _ X3 kl (by rw [fe,fu]; omega)
theorem zel.woke (k:zel CB CT CW T0 T1 T3 w td sd z r hs pool T H Q)(X:Std CB CT CW T0 T1 T3 H w td sd z r hs sil pool T)(n0:T0≠T3)(n1:T1≠T3){h d:Int}(hh:h∈hs)(hd:d∈hs){ks:List Int}{H':Hp}{T':Int->zbv}
  (a2:∀ x,x∈ks↔Rch (zm1 z.toNat (awB hs (zjb h sil)) (fun g=>(T g).ns)) d x)
  (W3:zam CB CT CW H' w td sd z r hs (zjb h sil) T')(A3:zck z.toNat hs T')(e3:(fun g=>(T' g).ns)=zcm r (awB hs (zjb h sil)) (fun g=>(T g).ns) h (zht h ks))(d3:zeh T3 H H' (Own td sd z.toNat hs T) (Own td sd z.toNat hs T'))(t3:Tab H' T3 (za7 zea) quH):Q .non H':=by
 obtain ⟨X3,kl⟩:=X.woke n0 n1 hh (zr7 a2 hd) W3 A3 e3 d3 t3
 exact k H' _ _ _ _ X3 kl (by omega)
theorem zel.hush (k:zel CB CT CW T0 T1 T3 w td sd z r hs pool T H Q)(X:Std CB CT CW T0 T1 T3 H w td sd z r hs sil pool T){h:Int}(hh:h∈hs){H':Hp}(W3:zam CB CT CW H' w td sd z r hs (zzf h sil) T)(k3:∀ q o,H q=some o->q≠td->q≠sd->H' q=some o):Q .non H':=by
 obtain ⟨X3,kl⟩:=X.dicts X.W.nd (fun x hx=>hx) (fun x hx=>(zx4 hx).elim (X.sm x) fun e=>e ▸ hh) (zsh X.sn) W3 k3
 exact k H' _ _ _ _ X3 kl (by omega)
theorem zel.gone (k:zel CB CT CW T0 T1 T3 w td sd z r hs pool T H Q)(X:Std CB CT CW T0 T1 T3 H w td sd z r hs sil pool T){h:Int}{H':Hp}(W3:zam CB CT CW H' w td sd z r (zjb h hs) (zjb h sil) T)(k3:∀ q o,H q=some o->q≠td->q≠sd->H' q=some o):Q .non H':=by
 obtain ⟨X3,kl⟩:=X.dicts (zfc X.W.nd) (fun x hx=>(zem.mp hx).1) (fun x hx=>zem.mpr ⟨X.sm x (zem.mp hx).1,(zem.mp hx).2⟩) (zfc X.sn) W3 k3
 exact k H' _ _ _ _ X3 kl (by omega)
end
def zuv (CB CT CW T0 T1 T3:Addr):Sp:=fun vs H Q _=>∀ CC:Prop,(∀ (w td sd:Addr) (z r:Int) (hs sil pool:List Int) (T:Int->zbv) (x b mo:Int),vs=[.ref w,.int x,.int b,.int mo]->Std CB CT CW T0 T1 T3 H w td sd z r hs sil pool T->mo<=12->pool.length<60->(zel CB CT CW T0 T1 T3 w td sd z r hs pool T H Q)->CC)->CC
theorem zj6:zaj ["_law_town","_law_x","_law_base","_law_most","_law_live","_law_name_here"] ["_law_town","_law_x","_law_base","_law_most"] (zah (top 46)):=fS
theorem zxy (Z:ZZ P w K mg base){T0 T1:Addr}(n03:T0≠Z.b8.P)(n13:T1≠Z.b8.P):zgb Z 13 Z.df (zuv Z.ba.C Z.bb.C Z.bc.C T0 T1 Z.b8.P):=by
 have bj:=Z.bc.cl
 obtain ⟨bf,a5,bi,bo,-⟩:=Z.bc.na
 have aa:=zcp (CB:=Z.ba.C) (CT:=Z.bb.C) Z
 have an:=zba (CB:=Z.ba.C) (CT:=Z.bb.C) Z
 have ab:=zji Z
 have ak:=zri Z
 refine Z.df.fn.ok zj6 (by kd_p) (fun cdv A outer s H vs Q E hr ag=>?_)
 refine ag _ fun w td sd z r hs sil pool TT x b mo ah X a8 ay k=>?_
 subst ah
 have ai:=X.W.z1
 have ae:=X.W.z2
 obtain ⟨q1,q2⟩:=zwz ai ae
 have hW:=X.W
 obtain ⟨dx,aj⟩:=hW.ob
 refine ⟨_,(zae (za2 (i:=4) zj6.nd rfl oL (zbi (pv 0) Z.bc.cl Z.b7.me an hr.mm Z.b7.b .nil zbw))
  (zae (za2 (i:=5) zj6.nd rfl oL (pfD Z.c8 ak hr rfl (zaa (pv 1) (zaa (za9 (pv 0) rfl) (zaa (pv 2) zab)))))
  (zae (za2 (i:=1) zj6.nd rfl oL (za8 zcz (za8 zcz (pv 1) zak) (za8 zi9 zak (za9 (pv 0) rfl))))
  (zaf (zbn (PW.pt (zgx (zan zcf (pv 5) (zbi (pv 0) Z.bc.cl Z.b1.me aa hr.mm Z.b1.b .nil zbw) (by with_unfolding_all rfl)) (zfz (zan zm6 (za0 za3 rfl Z.ds.n_len zc1 (zaa (zbi (pv 0) Z.bc.cl Z.b1.me aa hr.mm Z.b1.b .nil zbw) zab)) (pv 3) (za5 _)))))
   (zaf (zbn (zan (zun hr.units) (pv 4) (zb0 zab) (za5 _))
    (zaf (zap (zfy (pv 0) Z.bc.cl Z.ce.me ab hr.mm Z.ce.bd (.cons (show zcb .non Value.none from rfl) .nil) zbw (zaa (pv 5) zab))))
    (zaf (zap (zfy (pv 0) Z.bc.cl Z.ce.me ab hr.mm Z.ce.b .nil zbw (zaa (pv 5) (zaa (zfg zcg (pv 4) (za8 zb9 (pv 1) (za0 za3 rfl Z.ds.n_len zc1 (zaa (pv 4) zab))) (fun _ _=>rfl)) zab)))))))
   za6))))),?_⟩
 kt_k
 intro al H1 s1 av a
 have a:H1 al=some (.lst ((zaq hs sil).map V.int)):=a
 have X1:=X.same s1
 have k1:=k.same s1
 have v:=X1.W
 obtain ⟨bg,ac⟩:=v.ob
 clear k X hW s1 av aj
 kt_k
 intro n h ad
 kt_k
 intro l1 ao
 generalize o:upd H1 l1 _=H2
 obtain ⟨s2,e2⟩:=nw ao o
 clear o
 have a9:=zbz (za1 hs)
 have X2:=X1.same s2
 have k2:=k1.same s2
 have ar:=X2.W
 obtain ⟨a3,ax⟩:=ar.ob
 have m:=s2 _ _ a
 clear X1 k1 v ac s2
 kt_k
 rw [zch]
 by_cases f:n∈za1 hs
 ·rw [decide_eq_true f]
  kt_k
  exact k2.end X2
 ·rw [decide_eq_false f]
  kt_k
  intro l2 aq
  generalize q:upd H2 l2 _=H3
  obtain ⟨s3,e3⟩:=nw aq q
  clear q
  have X3:=X2.same s3
  have k3:=k2.same s3
  have l:=s3 _ _ m
  clear X2 k2 s3
  kt_k
  rw [d9,zbr]
  by_cases h8:((hs.length:Nat):Int)<mo
  ·refine zlw h8 ?_
   have bq:n∉hs:=fun y=>f ((zaw _).symm.subset y)
   have a6:hs.length<60:=by omega
   have j:hs.length<12:=by omega
   kt_k
   intro e0 am
   generalize t:upd H3 e0 _=H4
   obtain ⟨s4,e4⟩:=nw am t
   replace e4:H4 e0=some (.lst (([]:List Int).map V.int)):=e4
   clear t
   have X4:=X3.same s4
   have k4:=k3.same s4
   have aw:=s4 _ _ l
   have au:=X4.W
   have bm:=X4.A
   have a7:=X4.t3
   obtain ⟨bh,a0⟩:=au.ob
   have a4:NOk (pool++[n]) z.toNat r hs (fun g=>(TT g).ns):=X4.O.pool fun x hx=>gb _ hx
   have bl:(pool++[n]).length<64:=by rw [fe,fu]; omega
   have bp:∀ x∈hs,x∈pool++[n]:=fun x hx=>gb _ (X4.pq x hx)
   have be:n∈pool++[n]:=fh _ (fc.mpr rfl)
   kt_k
   by_cases e:zaq hs sil=[]
   ·refine zlw e ?_
    have ap:V.non=V.non\/∃ d,V.non=V.int d/\d∈hs/\d∉sil:= .inl rfl
    kt_k
    intro l5 p H5 T5 a1 a2 W5 A5 e5 d5 t5 _ _ _
    exact k4.come X4 n03 n13 j h ad (.inl rfl) a1 a2 W5 A5 e5 d5 t5
   ·refine ze7 e ?_
    obtain ⟨d,hd,bn⟩:=zc8 (c:=x / 2 / (1 * 2 ^ z.toNat)) e
    have az:=zdt e
    obtain ⟨u,af⟩:=zbf.mp hd
    have ap:V.int d=V.non\/∃ d',V.int d=V.int d'/\d'∈hs/\d'∉sil:= .inr ⟨d,rfl,u,af⟩
    kt_k
    intro l5 p H5 T5 a1 a2 W5 A5 e5 d5 t5 _ _ _
    exact k4.come X4 n03 n13 j h ad (.inr ⟨d,rfl,u⟩) a1 a2 W5 A5 e5 d5 t5
  ·refine ze7 h8 ?_
   kt_k
   exact k3.end X3
theorem z5o {c:Bool}{A B:Prop}(h1:A)(h2:A->c=false->B):if c=true then A else B:=by
 cases c
 ·exact z2x (h2 h1 rfl)
 ·exact z3k h1
theorem z6d {c:Bool}{A B:Prop}(h1:B)(h2:B->c=true->A):if c=true then A else B:=by
 cases c
 ·exact z2x h1
 ·exact z3k (h2 h1 rfl)
theorem zen:zaj ["_law_town","_law_x","_law_base","_law_most","_law_live","_law_houses","_law_deed_here","_law_other","_law_name_here","_law_silent"] ["_law_town","_law_x","_law_base","_law_most"] (zah (top 47)):=fS
theorem zx0 (Z:ZZ P w K mg base):zgb Z 14 Z.dg (zuv Z.ba.C Z.bb.C Z.bc.C Z.bk.P Z.cn.P Z.b8.P):=by
 have cy:=Z.bc.cl
 obtain ⟨c9,cp,cu,di,-⟩:=Z.bc.na
 have a8:=zcp (CB:=Z.ba.C) (CT:=Z.bb.C) Z
 have bu:=zba (CB:=Z.ba.C) (CT:=Z.bb.C) Z
 have bj:=zji Z
 have bh:=zph Z
 have be:=zpf (CB:=Z.ba.C) (CT:=Z.bb.C) Z
 have a6:=zs3 (CB:=Z.ba.C) (CT:=Z.bb.C) Z
 have b0:=zk1 Z
 have bg:=zp7 Z
 have bp:=zri Z
 have a4:=zxy (T0:=Z.bk.P) (T1:=Z.cn.P) Z Z.d0 Z.d1
 refine Z.dg.fn.ok zen (by kd_p) (fun cdv A outer s H vs Q E hr bm=>?_)
 refine bm _ fun w td sd z r hs sil pool TT x b mo az X c6 ca k=>?_
 subst az
 have a0:=X.W.z1
 have bl:=X.W.z2
 obtain ⟨q1,q2⟩:=zwz a0 bl
 have hW:=X.W
 obtain ⟨dx,bo⟩:=hW.ob
 have ck:=X.n12
 refine ⟨_,(zbq (za2 (i:=4) zen.nd rfl (Or.inr rfl) (zbi (pv 0) Z.bc.cl Z.b7.me bu hr.mm Z.b7.b .nil zbw))
  (zbq (za2 (i:=5) zen.nd rfl oL (zbi (pv 0) Z.bc.cl Z.b1.me a8 hr.mm Z.b1.b .nil zbw))
  (zae (za2 (i:=6) zen.nd rfl oL (za8 zb9 (pv 1) zak))
  (zae (za2 (i:=1) zen.nd rfl oL (za8 zcz (pv 1) zak))
  (zae (za2 (i:=7) zen.nd rfl oL (za8 zcz (za8 zcz (pv 1) zak) (za8 zi9 zak (za9 (pv 0) rfl))))
  (zbq (za2 (i:=8) zen.nd rfl oL (pfD Z.c8 bp hr rfl (zaa (pv 1) (zaa (za9 (pv 0) rfl) (zaa (pv 2) zab)))))
  (zbq (zf5 (i:=9) zen.nd rfl oL rfl (zaz (own:=["_law_house"]) (caps:=[4]) (N':=["_law_house","_law_live"]) (by kernel_rfl)) (zbb (pv 5)) (fun _ _ _ _ _=>(zas (i:=0) (show (["_law_house","_law_live"]:List Str).Nodup by decide +kernel) rfl oL)) (fun _ _ _ _ _=>(zcu (zan (zdx (K:=K) rfl) (pv 0) (pv 1) (by with_unfolding_all rfl)))) (fun _ _ _ _ _=>(pv 0)))
  (zaf (zbn (PW.pt (zse (zan (zun hr.units) (pv 4) (zb0 zab) (za5 _)) (zpq (zan zm6 (pv 6) zak (za5 _)))))
   (zaf (zbn (PW.pt (zgx (zan zhu (pv 6) zak (za5 _)) (zgx (zan zhu (za8 zb9 (pv 7) zak) zak (za5 _)) (zgx (zan zcf (pv 8) (pv 5) (by with_unfolding_all rfl)) (zfz (zan zm6 (za0 za3 rfl Z.ds.n_len zc1 (zaa (pv 5) zab)) (pv 3) (za5 _)))))))
    (zaf (zap (zfy (pv 0) Z.bc.cl Z.ce.me bj hr.mm Z.ce.bd (.cons (show zcb .non Value.none from rfl) .nil) zbw (zaa (pv 8) zab))))
    (zaf (zap (pfD Z.df a4 hr rfl (zaa (pv 0) (zaa (pv 1) (zaa (pv 2) (zaa (pv 3) zab)))))))))
   (zaf (zbn (zan zm6 (pv 6) zak (za5 _))
    (zaf (zap (pmD (pv 0) Z.bc.cl Z.cw bg hr (zaa (zfg zcg (pv 4) (za8 zb9 (pv 7) (za0 za3 rfl Z.ds.n_len zc1 (zaa (pv 4) zab))) (fun _ _=>rfl)) (zaa (pv 8) zab)))))
    (zaf (zbn (zan zhu (pv 6) zak (za5 _))
     (zaf (zap (pmD (pv 0) Z.bc.cl Z.cf be hr (zaa (zfg zcg (pv 4) (za8 zb9 (pv 7) (za0 za3 rfl Z.ds.n_len zc1 (zaa (pv 4) zab))) (fun _ _=>rfl)) zab))))
     (zaf (zbn (zan zhu (pv 6) zak (za5 _))
      (zaf (zap (pmD (pv 0) Z.bc.cl Z.ch a6 hr (zaa (zfg zcg (pv 5) (za8 zb9 (pv 7) (za0 za3 rfl Z.ds.n_len zc1 (zaa (pv 5) zab))) (fun _ _=>rfl)) zab))))
      (zaf (zbn (PW.pt (zgx (zan zhu (pv 6) zak (za5 _)) (zfz (zan (zh5 hr.units) (pv 9) (zb0 zab) (za5 _)))))
       (zaf (zap (pmD (pv 0) Z.bc.cl Z.ci bh hr (zaa (zfg zcg (pv 9) (za8 zb9 (pv 7) (za0 za3 rfl Z.ds.n_len zc1 (zaa (pv 9) zab))) (fun _ _=>rfl)) (zaa (zfg zcg (pv 4) (za8 zb9 (za8 zcz (pv 7) zak) (za0 za3 rfl Z.ds.n_len zc1 (zaa (pv 4) zab))) (fun _ _=>rfl)) zab)))))
       (zaf (zap (pmD (pv 0) Z.bc.cl Z.co b0 hr (zaa (zfg zcg (pv 4) (za8 zb9 (pv 7) (za0 za3 rfl Z.ds.n_len zc1 (zaa (pv 4) zab))) (fun _ _=>rfl)) (zaa (pv 8) zab)))))))))))))))))))))),?_⟩
 refine zqf fun U hU=>?_
 kt_k
 intro al H1 s1 b4 v
 have v:H1 al=some (.lst ((zaq hs sil).map V.int)):=v
 have X1:=X.same s1
 have k1:=k.same s1
 have aq:=X1.W
 obtain ⟨db,au⟩:=aq.ob
 clear k X hW s1 b4 bo
 kt_k
 refine hU _ _ (zqf fun U hU=>?_)
 kt_k
 intro l1 bv
 generalize am:upd H1 l1 _=H2
 obtain ⟨s2,e2⟩:=nw bv am
 clear am
 have X2:=X1.same s2
 have k2:=k1.same s2
 have ao:=X2.W
 obtain ⟨c3,ad⟩:=ao.ob
 have aa:=s2 _ _ v
 clear X1 k1 aq au s2
 kt_k
 refine hU _ _ ?_
 kt_k
 refine zqf fun U hU=>?_
 kt_k
 intro n ay b5
 kt_k
 refine hU _ _ (zqf fun U hU=>?_)
 kt_k
 intro Dl a3
 have c7:=zbz (zaq hs sil)
 refine zbo (fun h=> !decide (h∈zaq hs sil)) a3 (SqL.of e2) (by rw [zbr]; omega) (fun y hy H5 Qt s5 q=>?_) fun H3 s3 bt=>?_
 ·have q2:=q H5 (zax.refl H5)
  have ar:=s5 _ _ aa
  kt_k
  rw [zch]
  exact q2
 have X3:=X2.same s3
 have k3:=k2.same s3
 have ak:=s3 _ _ aa
 have e3:=s3 _ _ e2
 clear X2 k2 s3 ao ad
 kt_k
 refine hU _ _ ?_
 kt_k
 intro e0 ae
 generalize an:upd H3 e0 _=H4
 obtain ⟨s4,e4⟩:=nw ae an
 replace e4:H4 e0=some (.lst (([]:List Int).map V.int)):=e4
 clear an
 have X4:=X3.same s4
 have k4:=k3.same s4
 have aj:=s4 _ _ ak
 have c5:=s4 _ _ e3
 have br:=s4 _ _ bt
 have ag:=X4.W
 have a9:=X4.A
 have aw:=X4.t3
 obtain ⟨de,ah⟩:=ag.ob
 clear X3 k3 s4 ae
 have o:pool.length<=60:=by omega
 have cc:pool.length<64:=by omega
 have cs:=X4.pq
 have dk:=X4.pb
 have c4:=X4.O
 have bf:=X4.t0
 have a7:=X4.t1
 have dc:sil.length<=900:=by have:=X4.sl; omega
 have cg:=zbz (za1 hs)
 kt_k
 refine z5o ?_ (fun hA hc=>?_)
 ·kt_k
  refine z6d ?_ (fun hB h3=>?_)
  ·kt_k
  ·kt_k
   refine zwn (fun _=>?_) (fun _=>hB)
   kt_k
   rw [zch]
   by_cases ab:n∈za1 hs
   ·rw [decide_eq_true ab]
    exact hB
   ·rw [decide_eq_false ab]
    kt_k
    rw [d9,zbr]
    by_cases h8:((hs.length:Nat):Int)<mo
    ·refine zlw h8 ?_
     have c2:n∉hs:=fun y=>ab ((zaw _).symm.subset y)
     have cq:hs.length<60:=by omega
     have bn:hs.length<12:=by omega
     have ax:NOk (pool++[n]) z.toNat r hs (fun g=>(TT g).ns):=X4.O.pool fun x hx=>gb _ hx
     have c0:(pool++[n]).length<64:=by rw [fe,fu]; omega
     have dl:∀ x∈hs,x∈pool++[n]:=fun x hx=>gb _ (X4.pq x hx)
     have cr:n∈pool++[n]:=fh _ (fc.mpr rfl)
     have dd:V.non=V.non\/∃ d,V.non=V.int d/\d∈hs/\d∉sil:= .inl rfl
     kt_k
     intro l5 cb H5 T5 a1 a2 W5 A5 e5 d5 t5 _ _ _
     exact k4.come X4 Z.d0 Z.d1 bn ay b5 (.inl rfl) a1 a2 W5 A5 e5 d5 t5
    ·exact ze7 h8 hB
 ·have f:zaq hs sil≠[]:=of_decide_eq_false hc
  kt_k
  refine zwn (fun _=>hA) (fun _=>?_)
  kt_k
  refine zwn (fun _=>?_) (fun _=>?_)
  ·obtain ⟨h,hh,u⟩:=zc8 (c:=x / 10 / 2 / (1 * 2 ^ z.toNat)) f
   have m:=zdt f
   obtain ⟨j,ac⟩:=zbf.mp hh
   kt_k
   intro t rl fl cd Lr H5 T5 ai cv W5 A5 e5 K5 _ _ _ _ _ _ _ _
   obtain ⟨X5,kl⟩:=X4.asked o j ai W5 A5 e5 K5
   exact k4 H5 _ _ _ _ X5 kl (by omega)
  ·kt_k
   refine zwn (fun _=>?_) (fun _=>?_)
   ·obtain ⟨h,hh,u⟩:=zc8 (c:=x / 10 / 2 / (1 * 2 ^ z.toNat)) f
    have m:=zdt f
    obtain ⟨j,ac⟩:=zbf.mp hh
    kt_k
    intro H5 W5 k5
    exact k4.hush X4 j W5 k5
   ·kt_k
    refine zwn (fun _=>?_) (fun _=>?_)
    ·have p:za1 hs≠[]:=fun e=>f (by unfold zaq; rw [e]; rfl)
     obtain ⟨h,hh,u⟩:=zc8 (c:=x / 10 / 2 / (1 * 2 ^ z.toNat)) p
     have m:=zdt p
     have j:h∈hs:=(zaw _).subset hh
     kt_k
     intro H5 W5 k5
     exact k4.gone X4 W5 k5
    ·kt_k
     refine zwn (fun _=>?_) (fun _=>?_)
     ·kt_k
      intro e1 a5
      generalize ap:upd H4 e1 _=H5
      obtain ⟨s5,e5⟩:=nw a5 ap
      replace e5:H5 e1=some (.lst (([]:List Int).map V.int)):=e5
      clear ap
      have X5:=X4.same s5
      have k5:=k4.same s5
      have ar:=s5 _ _ aj
      have ct:=s5 _ _ br
      have av:=X5.W
      have dh:=X5.A
      have ax:=X5.O
      have da:=X5.t3
      obtain ⟨cx,cj⟩:=av.ob
      clear ag a9 aw bf a7 ah
      kt_k
      by_cases p:(za1 hs).filter (fun h=> !decide (h∈zaq hs sil))=[]
      ·rw [decide_eq_true p]
       kt_k
       obtain ⟨h,hh,u⟩:=zc8 (c:=x / 10 / 2 / (1 * 2 ^ z.toNat)) f
       have m:=zdt f
       obtain ⟨j,ac⟩:=zbf.mp hh
       have b2:=X5.kept o
       have bi:=X5.t0
       have b6:=X5.t1
       kt_k
       intro l a H6 K6 _ _ _
       obtain ⟨X6,kl⟩:=X5.went Z.d0 Z.d1 K6
       exact k5 H6 _ _ _ _ X6 kl (by omega)
      ·rw [decide_eq_false p]
       obtain ⟨h,hh,b9⟩:=zc8 (c:=x / 10 / 2 / (1 * 2 ^ z.toNat)) p
       have bw:=zdt p
       obtain ⟨b3,bq⟩:=gr.mp hh
       have j:h∈hs:=(zaw _).subset b3
       have dj:h∈sil:=by
        have y:h∉zaq hs sil:=by simpa using bq
        exact Classical.byContradiction fun w=>y (zbf.mpr ⟨j,w⟩)
       obtain ⟨d,hd,u⟩:=zc8 (c:=x / 10 / 2 / (1 * 2 ^ z.toNat) / 8) f
       have m:=zdt f
       obtain ⟨bz,cm⟩:=zbf.mp hd
       kt_k
       intro l6 c1 H6 T6 cz af W6 A6 e6 d6 t6 _ _ _
       exact k5.woke X5 Z.d0 Z.d1 j bz af W6 A6 e6 d6 t6
     ·kt_k
      obtain ⟨h,hh,u⟩:=zc8 (c:=x / 10 / 2 / (1 * 2 ^ z.toNat)) f
      have m:=zdt f
      obtain ⟨j,ac⟩:=zbf.mp hh
      have b2:=X4.kept o
      have bi:=X4.t0
      have b6:=X4.t1
      kt_k
      intro l a H6 K6 _ _ _
      obtain ⟨X6,kl⟩:=X4.went Z.d0 Z.d1 K6
      exact k4 H6 _ _ _ _ X6 kl (by omega)
theorem zrm {K:W.Frag}{H:Hp}{Q:VK}{neg:Bool}{d:PyData}{a b:V}(h1:DV K H d a)(h2:DV K H d b)(l:d.canLay0=true)(p:d.depth<=64)(e:PyData.eqv d d=true)(q:Q (.bl (!neg)) H):z1u K neg a b H Q:=by
 refine ⟨d,d,h1,h2,l,l,p,?_⟩
 rw [e]
 cases neg <;> exact q
def FV (H:Hp)(o:Option (Int × Nat))(v:V):Prop:=match o with | none=>v = .non | some e=>∃ p,v = .ref p/\H p=some (.tup [.int e.1,.int (e.2:Int)])
theorem FV.same {H H':Hp}{o:Option (Int × Nat)}{v:V}(h:FV H o v)(s:zax H H'):FV H' o v:=by
 cases o with
 | none=>exact h
 | some e =>
  obtain ⟨p,rfl,h⟩:=h
  exact ⟨p,rfl,s _ _ h⟩
theorem zk_.of {z r:Int}{hs sil:List Int}{N:Int->Nat->List Int}{H:Hp}{Q:VK}(q:∀ (v:V) (H':Hp),zax H H'->FV H' (zt8 z r hs sil N) v->Q v H'):zk_ z r hs sil N H Q:=by
 refine ⟨fun h H' s=>q _ H' s ?_,fun e h p H' s _ ep=>q _ H' s ?_⟩
 ·rw [h]
  rfl
 ·rw [h]
  exact ⟨p,rfl,ep⟩
theorem FV.ne {K:W.Frag}{H:Hp}{Q:VK}{o:Option (Int × Nat)}{a b:V}(h1:FV H o a)(h2:FV H o b)(q:Q (.bl false) H):z1u K true a b H Q:=by
 cases o with
 | none =>
  have h1:a = .non:=h1
  have h2:b = .non:=h2
  subst h1
  subst h2
  exact zrm (d:= .none) (by unfold DV; rfl) (by unfold DV; rfl) (by simp [PyData.canLay0]) (by simp [PyData.depth]) (by simp [PyData.eqv]) q
 | some e =>
  have dv:∀ {v:V},FV H (some e) v->DV K H (zny e) v:=fun {v} h=>by
   obtain ⟨p,rfl,x⟩:=h
   unfold zny DV
   refine ⟨p,_,rfl,SqT.of x,?_⟩
   unfold DVs
   refine ⟨_,_,rfl,by unfold DV; rfl,?_⟩
   unfold DVs
   refine ⟨_,_,rfl,by unfold DV; rfl,?_⟩
   unfold DVs
   rfl
  exact zrm (dv h1) (dv h2) (by simp [zny,PyData.canLay0,PyData.canLayAll0]) (by simp [zny,PyData.depth,PyData.depthAll]) (by simp [zny,PyData.eqv,PyData.eqvAll]) q
theorem zde.ne {K:W.Frag}{H:Hp}{Q:VK}{l m:Addr}{es:List (Int × Nat)}(h1:zde H l es)(h2:zde H m es)(q:Q (.bl false) H):z1u K true (.ref l) (.ref m) H Q:=zrm h1.dv h2.dv (zwv es) (zvu es) (by unfold PyData.eqv; exact zrd es) q
def stW:Stmt:=(zbk (top 51)).getD 0 (.Pass ⟨0,0,0,0⟩)
def quW:Str:= "_law_as_it_is.<locals>._law_tells"
def zyy:Pos:=match stW with | .FunctionDef _ _ _ _ _ _ _ _ _ p=>p | _=>⟨0,0,0,0⟩
abbrev RWt:Addr->FuncData->Prop:=RFn "_law_tells" quW (zb5 stW) (zbk stW) (zah stW)
abbrev z41 (H:Hp)(f:Addr)(cv:List V)(fd:FuncData):Prop:=FunV H f "_law_tells" quW (zb5 stW) (zbk stW) (zah stW) ["_law_town"] cv fd
theorem _root_.L2.FunV.fnv {K:W.Frag}{H:Hp}{f:Addr}{name qual:Str}{params:Arguments}{body:List Stmt}{scope:Scope}{fr:List Str}{cv:List V}{fd:FuncData}(x:FunV H f name qual params body scope fr cv fd):FnV K H f fd:=by
 obtain ⟨fo,cells,clos,c',oc,k,k',e1,s,e2,_⟩:=x.ex
 exact .inl ⟨fo,k,e1,e2⟩
def z4u (CB CT CW T0:Addr)(f:Addr)(fd:FuncData):Sp:=fun vs H Q E=>∃ cv,cv.length=(["_law_town"]:List Str).length/\z41 H f cv fd/\z4i CB CT CW T0 cv vs H Q E
structure z55 (CB CT CW T0:Addr)(w td sd:Addr)(z r:Int)(hs sil:List Int)(T:Int->zbv)(f:Addr)(fd:FuncData)(H:Hp):Prop where
 W:zam CB CT CW H w td sd z r hs sil T
 t:Tab H T0 (za7 zd_) quL
 l:z41 H f [.ref w] fd
theorem z05 {f:Addr}{fd:FuncData}(h:RWt f fd):zci K fd ["_law_house","_law_aim","_law_asker"] []:=by
 obtain ⟨clos,doc,pm,c',ct,rfl⟩:=h
 exact .all (us3 fun _ _ _=>rfl)
theorem zhq:zg4 ["_law_house","_law_aim","_law_asker","_law_town"] ["_law_house","_law_aim","_law_asker"] ["_law_town"] (zah ((zbk (top 51)).getD 0 (.Pass ⟨0,0,0,0⟩))):=⟨rfl,rfl,rfl,by decide +kernel,by decide +kernel,by decide +kernel,by decide +kernel,by decide +kernel,by decide +kernel,by decide +kernel⟩
theorem zux (Z:ZZ P w K mg base){f:Addr}{fd:FuncData}:zc_ P w K mg base CX0 8 f fd ["_law_house","_law_aim","_law_asker"] (z4u Z.ba.C Z.bb.C Z.bc.C Z.bk.P f fd):=by
 have c:=zia Z
 refine z2b (name:= "_law_tells") (qual:=quW) (params:=zb5 stW) (body:=zbk stW) (sp:=z4i Z.ba.C Z.bb.C Z.bc.C Z.bk.P) zhq (fun cv vs H Q E h=>?_) (fun clos cdv A outer s H cv vs Q E hr d h=>?_)
 ·obtain ⟨w,i,g,a,rfl,_⟩:=h
  rfl
 ·obtain ⟨w,i,g,a,rfl,rfl,⟨dx,fs,hw,b⟩,k⟩:=h
  refine ⟨_,(zaf (zar (pmD (pv 3) Z.bc.cl Z.cm c hr (zaa (pv 0) (zaa (pv 1) (zaa (pv 2) zab)))))),?_⟩
  exact ⟨_,rfl,w,dx,fs,rfl,hw,b,_,rfl,_,rfl,_,rfl,k⟩
theorem z0w {K:W.Frag}{CB CT CW T0:Addr}{w td sd:Addr}{z r:Int}{hs sil:List Int}{T:Int->zbv}{f:Addr}{fd:FuncData}(hk:zki z hs (fun h=>(T h).ns)){g:Int}(hg:0<=g) :
  z17 K (fun q=>q=T0) (fun H=>Tab H T0 (za7 zd_) quL) f fd (z4u CB CT CW T0 f fd) hs (zdg z r hs sil (fun h=>(T h).ns) g) g (z55 CB CT CW T0 w td sd z r hs sil T f fd):=by
 refine ⟨fun H H' S N=>⟨S.W.keep (N.keep zt9 S.t),N.t,S.l.same fun a o k e=>N.keep zt9 S.t _ _ (fun _ z=>nomatch z) e⟩,fun H S=>S.t,fun H S=>S.l.fnv,fun H Q i a S h1 h2=>?_,fun i a xs e=>zvy hk e,fun i a e=>?_,fun i a b=>by rw [zes,zes]⟩
 ·obtain ⟨dx,c⟩:=S.W.ob
  exact ⟨[.ref w],rfl,S.l,w,.int i,.int g,.int a,rfl,rfl,⟨dx,_,c,z4j _ (by decide +kernel) _ _ _ _⟩,w,td,sd,z,r,hs,sil,T,i,g,a,rfl,S.W,hk,hg,S.t,fun e=>h1 e H (Nz.of zt9 S.t (zax.refl H)),fun xs e l H' n=>h2 xs e l H' (Nz.ofNx n)⟩
 ·rw [zes] at e
  exact (zi5 e).1
structure K3x (T0 T1 T2:Addr)(H H':Hp):Prop where
 k:∀ q o,(∀ ps,o≠ .tbl ps)->H q=some o->H' q=some o
 t0:Tab H' T0 (za7 zd_) quL
 t1:Tab H' T1 (za7 zjz) quT
 t2:Tab H' T2 zyy quW
 b:∀ q ps,H q=some (.tbl ps)->q≠T0->q≠T1->q≠T2->H' q=some (.tbl ps)
 e:∀ q,H' q=none->H q=none
def z3h (CB CT CW T0 T1 T2 T3:Addr):Sp:=fun vs H Q _=>∀ CC:Prop,(∀ (w td sd:Addr) (z r:Int) (hs sil pool:List Int) (T:Int->zbv),vs=[.ref w]->Std CB CT CW T0 T1 T3 H w td sd z r hs sil pool T->pool.length<=60->Tab H T2 zyy quW->(∀ H',K3x T0 T1 T2 H H'->Q (.bl true) H')->CC)->CC
theorem zdj:zaj ["_law_town","_law_tells","_law_live","_law_start","_law_goal"] ["_law_town"] (zah (top 51)):=fS
theorem zjg (Z:ZZ P w K mg base){T3:Addr}:z2l Z 13 Z.dh (z3h Z.ba.C Z.bb.C Z.bc.C Z.bk.P Z.cn.P Z.dh.P T3):=by
 have c5:=Z.bc.cl
 obtain ⟨dc,cy,c4,dj,-⟩:=Z.bc.na
 have b4:=zba (CB:=Z.ba.C) (CT:=Z.bb.C) Z
 have ci:=zxd Z
 have bh:=zuj Z
 have b6:=zxp Z
 have bo:=zu8 Z
 have cm:=zk1 Z
 have ck:=zgp Z
 have b2:=zox Z
 have GA:∀ f fd,RWt f fd->zc_ P w K mg base CX0 8 f fd ["_law_house","_law_aim","_law_asker"] (z4u Z.ba.C Z.bb.C Z.bc.C Z.bk.P f fd):=fun f fd _=>zux Z
 have bA:∀ f fd,RWt f fd->zci K fd ["_law_house","_law_aim","_law_asker"] []:=fun f fd h=>z05 h
 have a8:=zvk Z GA bA zt9
 refine Z.dh.ok Z.dt zdj (fz:=["_law_town"]) (by decide +kernel) (by kd_p) (fun A outer s H vs Q E hr bw H1 sm cf hC=>?_)
 refine bw _ fun w td sd z r hs sil pool TT bg X hp a4 k=>?_
 subst bg
 refine ⟨_,(zae (z3x (i:=1) zdj.nd rfl oL rfl hC Z.d2 (zg9 (by kernel_rfl)))
  (zae (za2 (i:=2) zdj.nd rfl oL (zbi (pv 0) Z.bc.cl Z.b7.me b4 hr.mm Z.b7.b .nil zbw))
  (zae (zbn (PW.pt (zse (zan (zre hr.units) (pfD Z.c2 ci hr rfl (zaa (pv 0) zab)) (pfD Z.c3 bh hr rfl (zaa (pv 0) zab)) (za5 _)) (zpq (zan (zre hr.units) (pfD Z.da b6 hr rfl (zaa (pv 0) zab)) (pfD Z.dd bo hr rfl (zaa (pv 0) zab)) (za5 _)))))
   (zaf (zar zfw))
   za6)
  (zae (zca PassesOwn.never rfl (zbb (za8 zn5 (zei zgl (pv 2) zhl (zfn zak)) (zei zgl (pv 2) (zfn (zzm zug zak)) zhl))) (zas (i:=3) zdj.nd rfl oL)
   (zae (zbn (zan (zh5 hr.units) (pmD (pv 0) Z.bc.cl Z.ca ck hr (zaa (pv 3) zab)) (pfD Z.de b2 hr rfl (zaa (pv 0) (zaa (pv 3) zab))) (za5 _))
    (zaf (zar zfw))
    za6)
   (zaf (zca PassesOwn.never rfl (zbb (pv 2)) (zas (i:=4) zdj.nd rfl oL)
    (zaf (zbn (zan (zh5 hr.units) (pmD (pv 0) Z.bc.cl Z.co cm hr (zaa (pv 3) (zaa (pv 4) zab))) (zfv a8 hr.mm rfl Z.dz Z.cl.fn.kp Z.cl.b .nil zbw (zaa (pv 3) (zaa (pv 4) (zaa (pv 1) zab)))) (za5 _))
     (zaf (zar zfw))
     za6))))))
  (zaf (zar zfw)))))),?_⟩
 obtain ⟨c1,cg,v1⟩:=cf 0 "_law_town" (.ref w) (by decide +kernel) rfl rfl
 have l:Tab H1 Z.dh.P zyy quW:=(sm.but Z.dh.P).2 _ _ a4
 refine z09 l fun f H2 fo clos c' oc k1 k2 hb ac hf bq sh ar cs=>?_
 have nP:∀ {b:Addr} {o:HO},(∀ ps,o≠ .tbl ps)->H1 b=some o->H2 b=some o:=fun {b o} ho e=>hb b o (fun y=>by
  obtain ⟨ps,hP,_⟩:=l
  rw [y,hP] at e
  cases e
  exact ho _ rfl) e
 have keep:∀ c v,zez H1 c v->zez H2 c v:=fun c v hv=>hv.same fun o k e=>nP (fun _ z=>nomatch z) e
 obtain ⟨fd,hd,hR,hF⟩:=zz5 (qual:=quW) (params:=zb5 stW) (body:=zbk stW) (scope:=zah stW) (fr:=["_law_town"]) (cv:=[.ref w]) sh bq ar cs (fun i x v h1 h2=>by
  match i,h1,h2 with
  | 0,h1,h2 =>
   cases h1
   cases h2
   exact ⟨by decide +kernel,c1,cg,keep _ _ v1⟩)
 have ae:∀ {Ti:Addr} {po:Pos} {qu:Str},Ti≠Z.dh.P->Tab H Ti po qu->Tab H2 Ti po qu:=fun {Ti po qu} hn t=>Tab.hold ((sm.but Ti).2 _ _ t) fun q o ho e=>by
  rcases ho with ⟨x,kk,rfl⟩ | rfl
  ·exact nP (fun _ z=>nomatch z) e
  ·exact hb _ _ hn e
 have m:zam Z.ba.C Z.bb.C Z.bc.C H2 w td sd z r hs sil TT:=X.W.keep fun q o ho e=>nP ho (sm _ _ e)
 have aw:=ae Z.d3 X.t0
 have av:=ae Z.d4 X.t1
 have a1:∀ q,H2 q=none->H q=none:=fun q e=>by
  cases eq:H q with
  | none=>rfl
  | some o =>
   by_cases y:q=Z.dh.P
   ·obtain ⟨ps,hP,_⟩:=ac
    rw [y,hP] at e
    cases e
   ·rw [hb _ _ y (sm _ _ eq)] at e
    cases e
 have ce:∀ H3,Kx Z.bk.P Z.cn.P H2 H3->Q (.bl true) H3:=fun H3 K4=>k H3 ⟨fun q o ho e=>K4.k q o ho (nP ho (sm _ _ e)),K4.t0,K4.t1,K4.tab ac Z.d3.symm Z.d4.symm,fun q ps e y0 y1 y2=>K4.b q ps (hb q _ y2 (sm _ _ e)) y0 y1,fun q e=>a1 q (K4.e q e)⟩
 have a5:=X.kept hp
 have b0:=X.n12
 have c6:∀ h∈hs,∀ k,(((TT h).ns k).length:Int)<=r:=X.O.le
 have cd:=X.W.hb
 obtain ⟨c7,cq⟩:=m.ob
 have c8:(zaq hs sil).length<=12:=gf zd9 b0
 have cu:∀ g∈hs,(zdo (TT g).ns z.toNat).length<64:=fun g hg=>(a5 g hg).1
 clear k X a4 l ae nP keep ar cs sh a1
 kt_k
 intro al H3 s3 dl d
 have d:H3 al=some (.lst ((zaq hs sil).map V.int)):=d
 have W3:=m.keep (H':=H3) fun q o _ e=>s3 _ _ e
 kt_k
 refine zk_.of fun v4 H4 s4 f4=>?_
 have W4:=W3.keep (H':=H4) fun q o _ e=>s4 _ _ e
 kt_k
 refine zk_.of fun v5 H5 s5 f5=>?_
 have W5:=W4.keep (H':=H5) fun q o _ e=>s5 _ _ e
 refine FV.ne (f4.same s5) f5 ?_
 kt_k
 intro l6 H6 s6 bm h6
 have W6:=W5.keep (H':=H6) fun q o _ e=>s6 _ _ e
 kt_k
 intro l7 H7 s7 cj h7
 have W7:=W6.keep (H':=H7) fun q o _ e=>s7 _ _ e
 refine zde.ne (h6.same s7) h7 ?_
 have an:=((s4.trans s5).trans s6).trans s7
 have ab:=an _ _ d
 have K7:Kx Z.bk.P Z.cn.P H2 H7:=Kx.of aw av (s3.trans an)
 clear f4 f5 h6 h7 s4 s5 s6 s7 W3 W4 W5 W6 bm cj d
 obtain ⟨t1,az,cz,b3⟩:=zqv (zaq hs sil) none (some 1)
 obtain ⟨t2,a6,c0,be⟩:=zqv (zaq hs sil) (some (-1)) none
 kt_k
 rw [az]
 intro p8 ay
 generalize ao:upd H7 p8 _=H8
 obtain ⟨s8,e8⟩:=nw ay ao
 clear ao
 have au:=s8 _ _ ab
 kt_k
 rw [a6]
 intro p9 ax
 generalize aq:upd H8 p9 _=H9
 obtain ⟨s9,e9⟩:=nw ax aq
 have cp:=s9 _ _ e8
 clear aq
 have hsz:(t1.map V.int).length+(t2.map V.int).length<=sizeLine:=by
  rw [d9,d9]
  exact ia (zau (by omega))
 kt_k
 intro L hL
 generalize ah:upd H9 L _=Ha
 have sa:zax H9 Ha:=by rw [<- ah]; exact zax.new H9 hL
 have ea:Ha L=some (.lst ((t1++t2).map V.int)):=by rw [<- ah,zad,gm]
 clear ah
 have af:=(s8.trans s9).trans sa
 have ad:=af _ _ ab
 have Ka:Kx Z.bk.P Z.cn.P H2 Ha:=K7.trans (Kx.of K7.t0 K7.t1 af)
 have b8:∀ x∈t1++t2,x∈zaq hs sil:=fun x hx=>(fj.mp hx).elim (b3 x) (be x)
 clear s8 s9 sa af e8 e9 cp au ay ax hL K7 az a6
 kt_k
 refine zbs (K:=K) (a:=L) (xs:=(t1++t2).map V.int) (fun i σ Hb=>zer (∃ v3 v4:Option V,σ=[some (.ref w),some (.ref f),some (.ref al),v3,v4]/\Kx Z.bk.P Z.cn.P Ha Hb)) ⟨⟨_,_,rfl,Kx.of Ka.t0 Ka.t1 (zax.refl Ha)⟩⟩ (fun i σ Hb _ ⟨_,_,_,n⟩=>SqL.of (n.k _ _ (fun _ z=>nomatch z) ea)) ?_ ?_
 ·rintro i y σ Hb hi ⟨v3,v4,rfl,Kb⟩
  obtain ⟨st,bj,rfl⟩:=zb7 hi
  obtain ⟨bp,bv⟩:=zbf.mp (b8 st (fm bj))
  have a7:zam Z.ba.C Z.bb.C Z.bc.C Hb w td sd z r hs sil TT:=m.keep (Ka.trans Kb).k
  obtain ⟨dg,cx⟩:=a7.ob
  kt_k
  intro l1 bd cc s1 b5 cb a9 ap
  have cw:=a7.keep (H':=cc) fun q o _ e=>s1 _ _ e
  kt_k
  intro l2 db br s2 bn am bz ai
  rw [zq9 (ztk bz a9 fun x=>by rw [ap,ai])] at am
  have aj:=s2 _ _ cb
  replace Kb:=Kb.trans (Kx.of Kb.t0 Kb.t1 (s1.trans s2))
  have cr:br al=some (.lst ((zaq hs sil).map V.int)):=Kb.k _ _ (fun _ z=>nomatch z) ad
  generalize za1 bd=ls1 at aj am
  kt_k
  change if (!decide (ls1=ls1))=true then _ else _
  refine zls rfl ?_
  kt_k
  refine zbs (K:=K) (a:=al) (xs:=(zaq hs sil).map V.int) (fun j σ Hc=>zer (∃ v4:Option V,σ=[some (.ref w),some (.ref f),some (.ref al),some (.int st),v4]/\Kx Z.bk.P Z.cn.P Ha Hc)) ⟨⟨_,rfl,Kb⟩⟩ (fun j σ Hc _ ⟨_,_,n⟩=>SqL.of (n.k _ _ (fun _ z=>nomatch z) ad)) ?_ ?_
  ·rintro j y σ Hc hj ⟨v4,rfl,Kc⟩
   obtain ⟨g,bf,rfl⟩:=zb7 hj
   obtain ⟨b1,_⟩:=zbf.mp (fm bf)
   obtain ⟨hg,df⟩:=cd g b1
   have u:=Ka.trans Kc
   have bi:zam Z.ba.C Z.bb.C Z.bc.C Hc w td sd z r hs sil TT:=m.keep u.k
   obtain ⟨dk,ct⟩:=bi.ob
   have c9:=u.t0
   have di:=u.t1
   kt_k
   intro l1 p1 Hd p b9 b5 a3
   have aa:=u.trans p
   have a2:zam Z.ba.C Z.bb.C Z.bc.C Hd w td sd z r hs sil TT:=m.keep aa.k
   have bu:z41 Hd f [.ref w] fd:=hF.same fun a o k e=>aa.k _ _ (fun _ z=>nomatch z) e
   have ag:(zdg z r hs sil (fun h=>(TT h).ns) g st st).isSome=true:=by
    rw [zes]
    unfold awB
    rw [decide_eq_true bp,decide_eq_false bv]
    rfl
   refine ⟨_,rfl,_,rfl,_,rfl,st,g,f,fd,hs,_,_,rfl,z0w a5 hg,⟨a2,aa.t0,bu⟩,hR,ag,hg,a2.ln,fun l2 p2 He Ne bt bn a0=>?_⟩
   have ch:=b9.det bt
   subst ch
   have ak:=Ne.lst zt9 aa.t0 a3
   have Ke:=Kc.trans (p.trans (Kx.nx Z.dx p.t0 p.t1 Ne.nx))
   refine ⟨l1,l2,p1,p1,rfl,rfl,SqL.of ak,SqL.of a0,_,rfl,?_⟩
   change if (!decide (p1=p1))=true then _ else _
   refine zls rfl ?_
   exact ⟨⟨_,rfl,Ke⟩⟩
  ·rintro σ Hc ⟨v4,rfl,Kc⟩
   exact ⟨⟨_,_,rfl,Kc⟩⟩
 ·rintro σ Hb ⟨v3,v4,rfl,Kb⟩
  kt_k
  exact ce Hb (Ka.trans Kb)
def zi4 (ls:List Int)(L:Int->Addr):List (Key × V):=ls.map fun h=>(Sum.inl h,V.ref (L h))
theorem zgo {ls:List Int}{L:Int->Addr}{i:Int}:zee (zi4 ls L) (Sum.inl i)=if i∈ls then some (V.ref (L i)) else none:=zcd (T:=fun h=>⟨L h,L h,fun _=>L h,fun _=>L h,fun _=>[]⟩)
def zk7 (d:Addr)(ls:List Int)(L:Int->Addr)(B:Int->Nat->Addr)(z:Nat)(q:Addr):Prop:=q=d\/∃ h∈ls,q=L h\/∃ k,k<z/\q=B h k
structure zdb (H:Hp)(d:Addr)(ls:List Int)(L:Int->Addr)(B:Int->Nat->Addr)(z:Nat)(N:Int->Nat->List Int):Prop where
 dd:H d=some (.dK (zi4 ls L))
 l:∀ h∈ls,H (L h)=some (.lst (zj0 z (B h)))
 b:∀ h∈ls,∀ k,k<z->H (B h k)=some (.lst ((N h k).map V.int))
 i:∀ h∈ls,∀ g∈ls,∀ j k,j<z->k<z->B h j=B g k->h=g/\j=k
section
variable {H H' H3:Hp} {d l:Addr} {ls:List Int} {L:Int->Addr} {B:Int->Nat->Addr} {z:Nat} {N:Int->Nat->List Int} {h:Int} {b:Nat->Addr}
theorem zdb.keep (t:zdb H d ls L B z N)(s:∀ q o,(∀ ps,o≠ .tbl ps)->H q=some o->zk7 d ls L B z q->H' q=some o):zdb H' d ls L B z N :=
 ⟨s d (.dK (zi4 ls L)) (fun _ z=>nomatch z) t.dd (.inl rfl),fun h hh=>s (L h) (.lst (zj0 z (B h))) (fun _ z=>nomatch z) (t.l h hh) (.inr ⟨h,hh,.inl rfl⟩),fun h hh k hk=>s (B h k) (.lst ((N h k).map V.int)) (fun _ z=>nomatch z) (t.b h hh k hk) (.inr ⟨h,hh,.inr ⟨k,hk,rfl⟩⟩),t.i⟩
theorem zdb.same (t:zdb H d ls L B z N)(s:zax H H'):zdb H' d ls L B z N:=t.keep fun q o _ e _=>s _ _ e
theorem zdb.ex (t:zdb H d ls L B z N){q:Addr}(y:zk7 d ls L B z q):∃ o,H q=some o:=by
 rcases y with rfl | ⟨h,hh,rfl | ⟨k,hk,rfl⟩⟩
 ·exact ⟨_,t.dd⟩
 ·exact ⟨_,t.l h hh⟩
 ·exact ⟨_,t.b h hh k hk⟩
theorem zdb.more (t:zdb H d ls L B z N)(s:zax H H3)(hl:H3 l=some (.lst (zj0 z b)))(hb:∀ k,k<z->H3 (b k)=some (.lst ((N h k).map V.int)))(fb:∀ k,k<z->H (b k)=none)(ib:∀ j k,j<z->k<z->b j=b k->j=k)(hn:h∉ls) :
  zdb (upd H3 d (.dK (zec (zi4 ls L) (Sum.inl h) (V.ref l)))) d (ls++[h]) (zgc L h l) (zgc B h b) z N:=by
 have hd:=s _ _ t.dd
 have up:∀ q xs,H3 q=some (.lst xs)->upd H3 d (.dK (zec (zi4 ls L) (Sum.inl h) (V.ref l))) q=some (.lst xs):=fun q xs e=>by
  rw [zac (zdv e hd (by intro z; cases z))]
  exact e
 have e0:zee (zi4 ls L) (Sum.inl h)=none:=by rw [zgo,if_neg hn]
 have mem:∀ {g:Int},g∈ls++[h]->g≠h->g∈ls:=fun hg e=>(fj.mp hg).elim id fun y=>absurd (fc.mp y) e
 refine ⟨?_,fun g hg=>?_,fun g hg k hk=>?_,fun g hg f hf j k hj hk=>?_⟩
 ·rw [zad,zj_ _ e0]
  have em:zi4 ls L=zi4 ls (zgc L h l):=ik fun g hg=>by rw [zay (fun e:g=h=>hn (e ▸ hg))]
  have e1:zi4 (ls++[h]) (zgc L h l)=zi4 ls (zgc L h l)++[(Sum.inl h,V.ref (zgc L h l h))]:=gm
  rw [em,e1,zal]
 ·by_cases e:g=h
  ·rw [e,zal,zal]
   exact up _ _ hl
  ·rw [zay e,zay e]
   exact up _ _ (s _ _ (t.l g (mem hg e)))
 ·by_cases e:g=h
  ·rw [e,zal]
   exact up _ _ (hb k hk)
  ·rw [zay e]
   exact up _ _ (s _ _ (t.b g (mem hg e) k hk))
 ·have no:∀ {g:Int} {j k:Nat},g∈ls->j<z->k<z->B g j≠b k:=fun hg hj hk y=>by
   have:=t.b _ hg _ hj
   rw [y,fb _ hk] at this
   cases this
  by_cases e:g=h
  ·subst e
   rw [zal]
   by_cases e2:f=g
   ·subst e2
    rw [zal]
    exact fun y=>⟨rfl,ib j k hj hk y⟩
   ·rw [zay e2]
    exact fun y=>absurd y.symm (no (mem hf e2) hk hj)
  ·rw [zay e]
   by_cases e2:f=h
   ·subst e2
    rw [zal]
    exact fun y=>absurd y (no (mem hg e) hj hk)
   ·rw [zay e2]
    exact t.i g (mem hg e) f (mem hf e2) j k hj hk
theorem zdb.line (t:zdb H d ls L B z N)(hh:h∈ls){k:Nat}(hk:k<z){xs:List Int}(e:H' (B h k)=some (.lst (xs.map V.int)))(s:∀ q o,q≠B h k->H q=some o->H' q=some o):zdb H' d ls L B z (zgc N h (zpr (N h) k xs)):=by
 have eb:=t.b h hh k hk
 refine ⟨s _ _ (zdv t.dd eb (by intro z; cases z)) t.dd,fun g hg=>s _ _ (fun y=>?_) (t.l g hg),fun g hg j hj=>?_,t.i⟩
 ·have el:=t.l g hg
  rw [y,eb] at el
  have el:(N h k).map V.int=zj0 z (B g):=by injection Option.some.inj el
  have e0:=znj (f:=B g) (gz (im k) hk)
  rw [<- el,List.getElem?_map] at e0
  cases eq:(N h k)[0]? <;> rw [eq] at e0 <;> cases e0
 ·by_cases e1:g=h/\j=k
  ·obtain ⟨rfl,rfl⟩:=e1
   rw [zal,za_]
   exact e
  ·have ne:B g j≠B h k:=fun y=>e1 (t.i g hg h hh j k hj hk y)
   have ex:zgc N h (zpr (N h) k xs) g j=N g j:=by
    by_cases e2:g=h
    ·rw [e2,zal,zbe fun y=>e1 ⟨e2,y⟩]
    ·rw [zay e2]
   rw [ex]
   exact s _ _ ne (t.b g hg j hj)
theorem zdb.pair (t:zdb H d ls L B z N)(hh:h∈ls):H (L h)=some (.lst (((ji z).map (B h)).map V.ref))/\Paired (fun b k=>H b=some (.lst ((N h k).map V.int))) ((ji z).map (B h)) (ji z):=by
 refine ⟨by rw [t.l h hh,l4]; rfl,?_⟩
 have a:∀ ks:List Nat,(∀ k∈ks,k<z)->Paired (fun b k=>H b=some (.lst ((N h k).map V.int))) (ks.map (B h)) ks:=fun ks hk=>by
  induction ks with
  | nil=>exact .nil
  | cons k ks ih=>exact .cons (t.b h hh k (hk k (fk ..))) (ih fun x hx=>hk x (fg _ hx))
 exact a _ fun k hk=>jc.mp hk
end
section
variable {α:Type} {K:W.Frag} {H:Hp} {N:α->List Int}
def znt (N:α->List Int)(ks:List α):PyData:= .list (ks.map fun k=> .list ((N k).map PyData.int))
theorem ztz:∀ {bs:List Addr} {ks:List α},Paired (fun b k=>H b=some (.lst ((N k).map V.int))) bs ks->DVs K H (ks.map fun k=> .list ((N k).map PyData.int)) (bs.map V.ref)
 | _,_,.nil=>by unfold DVs; rfl
 | _,_,@Paired.cons _ _ _ b k bs ks e t=>by
  show DVs K H (.list ((N k).map PyData.int) :: ks.map fun k=> .list ((N k).map PyData.int)) (.ref b :: bs.map V.ref)
  unfold DVs
  exact ⟨_,_,rfl,zqq (SqL.of e),ztz t⟩
theorem zul:∀ ks:List α,PyData.eqvAll (ks.map fun k=> .list ((N k).map PyData.int)) (ks.map fun k=> .list ((N k).map PyData.int))=true
 | []=>by simp [PyData.eqvAll]
 | k :: ks=>by
  have ih:=zul ks
  have e1:PyData.eqvAll ((N k).map PyData.int) ((N k).map PyData.int)=true:=by rw [my]; simp
  simp only [gu,PyData.eqvAll,PyData.eqv,e1,ih,Bool.and_self]
theorem zn8 (ks:List α):(znt N ks).canLay0=true:=by
 unfold znt PyData.canLay0
 exact zqw fun k _=>by unfold PyData.canLay0; exact zj7 _
theorem zsa (ks:List α):(znt N ks).depth<=60:=by
 unfold znt PyData.depth
 have:=znc (g:=fun k=>PyData.list ((N k).map PyData.int)) (n:=1) (xs:=ks) fun k _=>by unfold PyData.depth; rw [zll]; decide
 omega
theorem zr1 {ks:List α}{l:Addr}{bs:List Addr}(a:H l=some (.lst (bs.map V.ref)))(b:Paired (fun b k=>H b=some (.lst ((N k).map V.int))) bs ks):DV K H (znt N ks) (V.ref l):=by
 unfold znt DV
 exact ⟨_,_,rfl,SqL.of a,ztz b⟩
theorem ztv (ks:List α):PyData.eqv (znt N ks) (znt N ks)=true:=by
 unfold znt
 simp only [PyData.eqv,zul]
end
theorem zvz {K:W.Frag}{neg:Bool}{H:Hp}{c d:Addr}{L L':Int->Addr}{B B':Int->Nat->Addr}{ls:List Int}{z:Nat}{N:Int->Nat->List Int}{Q:VK}(h1:zdb H c ls L B z N)(h2:zdb H d ls L' B' z N)(q:Q (.bl (!neg)) H):z0p K neg (.ref c) (.ref d) H Q:=by
 refine ⟨c,d,_,_,rfl,rfl,.inl h1.dd,.inl h2.dd,by simp [zi4],fun p hp=>?_,q⟩
 unfold zi4 at hp
 obtain ⟨n,hn,rfl⟩:=kg.mp hp
 refine ⟨V.ref (L' n),by rw [zgo,if_pos hn],?_⟩
 obtain ⟨a,b⟩:=h1.pair hn
 obtain ⟨a',b'⟩:=h2.pair hn
 exact ⟨_,_,zr1 a b,zr1 a' b',zn8 _,zn8 _,zsa _,ztv _⟩
def zt7 (CB CT CW:Addr):Sp:=fun vs H Q _=>∀ CC:Prop,(∀ (w td sd:Addr) (z r:Int) (hs sil:List Int) (T:Int->zbv),vs=[.ref w]->zam CB CT CW H w td sd z r hs sil T->hs.length<=12->(∀ (d:Addr) (L:Int->Addr) (B:Int->Nat->Addr) (H':Hp),zax H H'->zdb H' d (za1 hs) L B z.toNat (fun h=>(T h).ns)->(∀ q,zk7 d (za1 hs) L B z.toNat q->H q=none)->Q (.ref d) H')->CC)->CC
theorem ziy:zaj ["_law_town","_law_tables_here","_law_house"] ["_law_town"] (zah (top 52)):=fS
theorem zmj (Z:ZZ P w K mg base):zgb Z 6 Z.di (zt7 Z.ba.C Z.bb.C Z.bc.C):=by
 have au:=Z.bc.cl
 obtain ⟨ap,am,ar,ay,-⟩:=Z.bc.na
 have ah:=zcp (CB:=Z.ba.C) (CT:=Z.bb.C) Z
 have ab:=zdi Z
 refine Z.di.fn.ok ziy (by kd_p) (fun cdv A outer s H vs Q E hr aa=>?_)
 refine aa _ fun w td sd z r hs sil TT ad hW ac k=>?_
 subst ad
 obtain ⟨dx,t⟩:=hW.ob
 have ao:=hW.z1
 have an:=hW.z2
 have ag:(za1 hs).Nodup:=(zaw hs).nodup_iff.mpr hW.nd
 have aq:(za1 hs).length<=12:=by rw [zbr]; exact ac
 refine ⟨_,(zae (za2 (i:=1) ziy.nd rfl oL zj3)
  (zae (zca PassesOwn.never rfl (zbb (zbi (pv 0) Z.bc.cl Z.b1.me ah hr.mm Z.b1.b .nil zbw)) (zas (i:=2) ziy.nd rfl (Or.inr rfl))
   (zaf (zix (zfm hr) (pv 1) (pv 2) (zct rfl (zaz (own:=["_law_k"]) (caps:=[2,0]) (N':=["_law_k","_law_house","_law_town"]) (by kernel_rfl)) (zc2 rfl Z.ds.n_range (zaa (za9 (pv 0) rfl) zab)) (fun _ _ _ _ _=>(zas (i:=0) (show (["_law_k","_law_house","_law_town"]:List Str).Nodup by decide +kernel) rfl oL)) (fun _ _ _ _ _=>zfx) (fun _ _ _ _ _=>(pmD (pv 2) Z.bc.cl Z.b2 ab hr (zaa (pv 1) (zaa (pv 0) zab))))) rfl)))
  (zaf (zar (pv 1))))),?_⟩
 kt_k
 intro d hd
 generalize f:upd H d _=H1
 obtain ⟨s1,e1⟩:=nw hd f
 clear f
 have W1:=hW.keep (H':=H1) fun q o _ e=>s1 _ _ e
 have ak:=s1 _ _ t
 kt_k
 intro l hl
 generalize u:upd H1 l _=H2
 obtain ⟨s2,e2⟩:=nw hl u
 clear u
 have ai:l≠d:=(zag e1 hl).symm
 kt_k
 refine zbs (K:=K) (a:=l) (xs:=(za1 hs).map V.int) (fun i σ H3=>zer (∃ (v2:Option V) (L:Int->Addr) (B:Int->Nat->Addr),σ=[some (.ref w),some (.ref d),v2]/\zax H H3/\H3 l=some (.lst ((za1 hs).map V.int))/\zdb H3 d ((za1 hs).take i) L B z.toNat (fun h=>(TT h).ns)/\∀ q,zk7 d ((za1 hs).take i) L B z.toNat q->H q=none)) ⟨⟨_,fun _=>l,fun _ _=>l,rfl,s1.trans s2,e2,⟨s2 _ _ e1,fun h hh=>(nomatch hh),fun h hh=>(nomatch hh),fun h hh=>(nomatch hh)⟩,fun q y=>y.elim (fun y=>y ▸ hd) fun ⟨h,hh,_⟩=>(nomatch hh)⟩⟩ (fun i σ H3 _ ⟨_,_,_,_,_,e,_⟩=>SqL.of e) ?_ ?_
 ·rintro i y σ H3 hi ⟨v2,L,B,rfl,s3,e3,t3,f3⟩
  obtain ⟨h,hh,rfl⟩:=zb7 hi
  have az:h∈hs:=(zaw _).subset (fm hh)
  have p:=s3 _ _ t
  have et:(za1 hs).take (i+1)=(za1 hs).take i++[h]:=by rw [gq,hh]; rfl
  have af:h∉(za1 hs).take i:=fun y=>by
   have nn:=ag
   rw [zj8 hh] at nn
   exact (jg.mp nn).2.2 h y h (fk ..) rfl
  kt_k
  intro Dl c
  refine zfb (lo:=0) (n:=z.toNat) (fun j σ H4=>zer (∃ (v0:Option V) (b:Nat->Addr),σ=[v0,some (.int h),some (.ref w)]/\zax H3 H4/\H4 Dl=some (.lst (zj0 j b))/\∀ k,k<j->b k≠Dl/\H3 (b k)=none/\H4 (b k)=some (.lst (((TT h).ns k).map V.int))/\∀ i,i<j->b i=b k->i=k)) ⟨⟨none,fun _=>Dl,rfl,zax.new H3 c,zad,fun k hk=>absurd hk (Nat.not_lt_zero k)⟩⟩ ?_ ?_
  ·rintro j σ H4 hj ⟨v0,b,rfl,s4,e4,hb⟩
   have ax:=hW.keep (H':=H4) fun q o _ e=>s4 _ _ (s3 _ _ e)
   have al:=s4 _ _ p
   have aw:0<=0+(j:Int):=by omega
   have av:(0+(j:Int)).toNat<z.toNat:=by omega
   have ej:(0+(j:Int)).toNat=j:=by omega
   have hsz:(zj0 j b).length<sizeLine:=by
    rw [zg5]
    exact zau (by omega)
   kt_k
   intro m H5 hm em s5
   have e5:=s5 _ _ e4
   have nm:m≠Dl:=(zag e4 hm).symm
   rw [ej] at em
   kt_k
   refine ⟨⟨_,zpr b j m,rfl,(s4.trans s5).put c,?_,fun k hk=>?_⟩⟩
   ·rw [zad,zk8]
   ·have x:∀ i,i<j->b i≠m:=fun i hi=>zag (hb i hi).2.2.1 hm
    by_cases e:k=j
    ·subst e
     rw [za_]
     refine ⟨nm,s4.free hm,by rw [zac nm]; exact em,fun i hi=>?_⟩
     by_cases e2:i=k
     ·exact fun _=>e2
     ·rw [zbe e2]
      exact fun y=>absurd y (x i (by omega))
    ·rw [zbe e]
     obtain ⟨b1,b2,b3,b4⟩:=hb k (by omega)
     refine ⟨b1,b2,by rw [zac b1]; exact s5 _ _ b3,fun i hi=>?_⟩
     by_cases e2:i=j
     ·subst e2
      rw [za_]
      exact fun y=>absurd y.symm (x k (by omega))
     ·rw [zbe e2]
      exact b4 i (by omega)
  ·rintro σ H4 ⟨v0,b,rfl,s4,e4,hb⟩
   have t4:=t3.same s4
   have ae:=t4.dd
   have v:(zi4 ((za1 hs).take i) L).length<sizeLine:=by
    unfold zi4
    rw [d9,gh]
    exact zau (by omega)
   have aj:zpc H4 d (V.int h) (V.ref Dl) (upd H4 d (.dK (zec (zi4 ((za1 hs).take i) L) (Sum.inl h) (V.ref Dl)))):=zpc.k (k:=Sum.inl h) ae v
   kt_k
   refine ⟨⟨_,zgc L h Dl,zgc B h b,rfl,(s3.trans s4).put hd,?_,?_,?_⟩⟩
   ·rw [zac ai]
    exact s4 _ _ e3
   ·rw [et]
    exact t3.more s4 e4 (fun k hk=>(hb k hk).2.2.1) (fun k hk=>(hb k hk).2.1) (fun j k hj hk=>(hb k hk).2.2.2 j hj) af
   ·rw [et]
    rintro q (y | ⟨g,hg,y⟩)
    ·exact y ▸ hd
    ·by_cases e:g=h
     ·subst e
      rw [zal,zal] at y
      rcases y with y | ⟨k,hk,y⟩
      ·exact y ▸ s3.free c
      ·exact y ▸ s3.free (hb k hk).2.1
     ·rw [zay e,zay e] at y
      exact f3 q (.inr ⟨g,(fj.mp hg).elim id fun y=>absurd (fc.mp y) e,y⟩)
 ·rintro σ H3 ⟨v2,L,B,rfl,s3,e3,t3,f3⟩
  rw [d9,gj] at t3 f3
  kt_k
  exact k d L B H3 s3 t3 f3
def zyf:Sp:=fun vs H Q _=>∀ CC:Prop,(∀ (d al:Addr) (ls lv:List Int) (L:Int->Addr) (B:Int->Nat->Addr) (z:Nat) (N:Int->Nat->List Int) (h n r:Int),vs=[.ref d,.int h,.int n,.int r,.ref al]->zdb H d ls L B z N->H al=some (.lst (lv.map V.int))->al≠B h (zbh h n)->h∈ls->h≠n->0<=h->0<=n->zbh h n<z->(N h (zbh h n)).length<=60->1<=r->(∀ H',zdb H' d ls L B z (zkq r (fun x=>decide (x∈lv)) N h n)->(∀ q o,q≠B h (zbh h n)->H q=some o->H' q=some o)->(∀ q,H' q=none->H q=none)->Q .non H')->CC)->CC
theorem zk5:zaj ["_law_tables_here","_law_house","_law_name_here","_law_room","_law_live","_law_bucket","_law_first"] ["_law_tables_here","_law_house","_law_name_here","_law_room","_law_live"] (zah (top 53)):=fS
theorem zup (Z:ZZ P w K mg base):zgb Z 1 Z.dj zyf:=by
 refine Z.dj.fn.ok zk5 (by kd_p) (fun cdv A outer s H vs Q E hr v=>?_)
 refine v _ fun d al ls lv L B z N h n r ab t ae p hh ad h0 aa g f ai k=>?_
 subst ab
 have hg:zik H d (V.int h) (some (V.ref (L h))):=by
  have:=zik.k (k:=Sum.inl h) t.dd
  rw [zgo,if_pos hh] at this
  exact this
 have hl:=t.l h hh
 have hb:=t.b h hh _ g
 have m:(((Builtin.Int.intBits (Builtin.bitXor h n):Nat):Int) - 1)=((zbh h n:Nat):Int):=znd h0 aa ad
 have ac:atI (zj0 z (B h)) (((Builtin.Int.intBits (Builtin.bitXor h n):Nat):Int) - 1)=some (V.ref (B h (zbh h n))):=by
  rw [m]
  exact zpt (i:=((zbh h n:Nat):Int)) (Int.natCast_nonneg _) (by rw [ij]; exact g)
 have kk:∀ (H':Hp) (xs:List Int),H' (B h (zbh h n))=some (.lst (xs.map V.int))->xs=zir r (fun x=>decide (x∈lv)) (N h (zbh h n)) n->(∀ q,q≠B h (zbh h n)->H' q=H q)->Q .non H':=fun H' xs e ex s=>by
  subst ex
  refine k H' (t.line hh g e fun q o hq eq=>(s q hq).trans eq) (fun q o hq eq=>(s q hq).trans eq) fun q eq=>?_
  by_cases y:q=B h (zbh h n)
  ·rw [y,e] at eq
   cases eq
  ·rw [<- s q y]
   exact eq
 generalize B h (zbh h n)=b at hb ac p kk
 generalize ah:N h (zbh h n)=ns at hb f kk
 have hsz:(ns.map V.int).length<sizeLine:=by
  rw [d9]
  exact zau (by omega)
 refine ⟨_,(zae (za2 (i:=5) zk5.nd rfl oL (zfg zcg (zep (zfm hr) (pv 0) (pv 1) (fun _ _=>rfl)) (za8 zrt (zih (za8 zmh (pv 1) (pv 2))) zak) (fun _ _=>rfl)))
  (zaf (zbn (zan zgw (pv 2) (pv 5) (by with_unfolding_all rfl))
   (zae (zap (zgv ge jv jw zkp (pv 5) (zaa (pv 2) zab)))
   (zaf (zap (zgv ge PySem.F.slot_list_append PySem.F.type_list_append zb4 (pv 5) (zaa (pv 2) zab)))))
   (zaf (zbn (zan zm6 (za0 za3 rfl Z.ds.n_len zc1 (zaa (pv 5) zab)) (pv 3) (za5 _))
    (zaf (zap (zgv ge PySem.F.slot_list_append PySem.F.type_list_append zb4 (pv 5) (zaa (pv 2) zab))))
    (zae (za2 (i:=6) zk5.nd rfl oL (zgv ge m9 ma zw5 (pv 5) (zaa zak zab)))
    (zaf (zbn (zan zgw (pv 6) (pv 4) (by with_unfolding_all rfl))
     (zaf (zap (zgv ge PySem.F.slot_list_append PySem.F.type_list_append zb4 (pv 5) (zaa (pv 6) zab))))
     (zaf (zap (zgv ge PySem.F.slot_list_append PySem.F.type_list_append zb4 (pv 5) (zaa (pv 2) zab)))))))))))),?_⟩
 kt_k
 rw [zch]
 unfold zir at kk
 by_cases hm:n∈ns
 ·rw [if_pos hm] at kk
  refine zlw hm ?_
  have aj:=ie hm
  have af:upd H b (.lst ((ns.erase n).map V.int)) b=some (.lst ((ns.erase n).map V.int)):=zad
  have j:((ns.erase n).map V.int).length<sizeLine:=by
   rw [d9]
   exact zau (by omega)
  kt_k
  refine kk _ (ns.erase n++[n]) (by rw [zad,gm]; rfl) rfl fun q hq=>by rw [zac hq,zac hq]
 ·rw [if_neg hm] at kk
  refine ze7 hm ?_
  kt_k
  rw [d9]
  by_cases a:((ns.length:Nat):Int)<r
  ·rw [if_pos a] at kk
   refine zlw a ?_
   kt_k
   refine kk _ (ns++[n]) (by rw [zad,gm]; rfl) rfl fun q hq=>by rw [zac hq]
  ·rw [if_neg a] at kk
   refine ze7 a ?_
   cases ns with
   | nil =>
    simp only [jk] at a
    omega
   | cons y tl =>
    have hi:seqIndex? 0 ((y :: tl).map V.int).length=some 0:=by
     rw [d9,gs]
     simp [seqIndex?]
    have hy:((y :: tl).map V.int)[0]? = some (V.int y):=rfl
    have af:upd H b (.lst (((y :: tl).map V.int).eraseIdx 0)) b=some (.lst (tl.map V.int)):=zad
    have ag:upd H b (.lst (((y :: tl).map V.int).eraseIdx 0)) al=some (.lst (lv.map V.int)):=by rw [zac p]; exact ae
    have j:(tl.map V.int).length<sizeLine:=by
     rw [d9]
     rw [gs] at f
     exact zau (by omega)
    have u:∀ H',H' b=some (.lst ((tl++[if decide (y∈lv)=true then y else n]).map V.int))->(∀ q,q≠b->H' q=H q)->Q .non H':=fun H' e s=>kk H' _ e rfl s
    kt_k
    rw [zch]
    by_cases c:y∈lv
    ·refine zlw c ?_
     kt_k
     refine u _ (by rw [zad,if_pos (decide_eq_true c),gm]; rfl) fun q hq=>by rw [zac hq,zac hq]
    ·refine ze7 c ?_
     kt_k
     refine u _ (by rw [zad,if_neg (by rw [decide_eq_false c]; decide),gm]; rfl) fun q hq=>by rw [zac hq,zac hq]
theorem zto {X:Cx}{st:List Stmt}:PSs X st (fun _ _ _=>False):=fun _ _ _ _ _ _ h=>h.elim
def zc6 (z:Int)(hs:List Int)(v:V):Bool:=match v with | .int i=>zdr z i && decide (i∈hs) | _=>false
def z56 (sil:List Int)(v:V):Bool:=match v with | .int i=>decide (i∈sil) | _=>false
def zwp (z:Int)(hs sil:List Int)(v:V):Bool:=zc6 z hs v && !z56 sil v
theorem zoh {z:Int}{hs:List Int}{v:V}(h:∀ i,v≠ .int i):zc6 z hs v=false:=by cases v <;> first | rfl | exact absurd rfl (h _)
theorem zz9 {z:Int}{hs sil:List Int}{v:V}(h:∀ i,v≠ .int i):zwp z hs sil v=false:=by
 unfold zwp
 rw [zoh h]
 rfl
theorem zum {K:W.Frag}{H H':Hp}{v:V}{t:Value}(h:zlo K H v t)(s:zax H H'):zlo K H' v t:=by
 cases h with
 | non=>exact .non
 | bl x=>exact .bl x
 | int i=>exact .int i
 | str x=>exact .str x
 | flt x=>exact .flt x
 | lst e=>exact .lst (s _ _ e)
 | frz e=>exact .frz (s _ _ e)
 | tup e=>exact .tup (s _ _ e)
 | dK e=>exact .dK (s _ _ e)
 | dT e=>exact .dT (s _ _ e)
 | ins e cl ha hn htk hm=>exact .ins (s _ _ e) cl ha hn htk hm
theorem zfe.same {K:W.Frag}{H H':Hp}{v:V}(h:zfe K H v)(s:zax H H'):zfe K H' v:=by
 rcases h with h | ⟨h,n⟩
 ·exact .inl h
 ·refine .inr ⟨?_,n⟩
  rcases h with h | ⟨t,ht,hk⟩
  ·exact .inl h
  ·exact .inr ⟨t,zum ht s,hk⟩
def zq7 (K:W.Frag)(CB CT CW CN:Addr):Sp:=fun vs H Q E=>∀ CC:Prop,(∀ (w td sd:Addr) (z r:Int) (hs sil:List Int) (T:Int->zbv) (v:V),vs=[.ref w,v]->zam CB CT CW H w td sd z r hs sil T->zfe K H v->(if zc6 z hs v=true then Q .non H else E (.ref CN) none H)->CC)->CC
def zwc (K:W.Frag)(CB CT CW CN CS:Addr):Sp:=fun vs H Q E=>∀ CC:Prop,(∀ (w td sd:Addr) (z r:Int) (hs sil:List Int) (T:Int->zbv) (v:V),vs=[.ref w,v]->zam CB CT CW H w td sd z r hs sil T->zfe K H v->(if zc6 z hs v=true then (if zwp z hs sil v=true then Q .non H else E (.ref CS) none H) else E (.ref CN) none H)->CC)->CC
def z5u (a b:Addr)(h:Bool):Addr:=if h=true then b else a
def z1j (K:W.Frag)(CB CT CW CN CS:Addr):Sp:=fun vs H _ E=>∀ CC:Prop,(∀ (w td sd:Addr) (z r:Int) (hs sil:List Int) (T:Int->zbv) (v:V),vs=[.ref w,v]->zam CB CT CW H w td sd z r hs sil T->zfe K H v->zwp z hs sil v=false->(E (.ref (z5u CN CS (zc6 z hs v))) none H)->CC)->CC
theorem znl (Z:ZZ P w K mg base){CB CT:Addr}:zc_ P w K mg base (CXR P w) 4 Z.bv.f Z.bv.fd ["self","thing"] (zq7 K CB CT Z.bc.C Z.bu.C):=by
 have g:=Z.bc.cl
 have c:=zcs (CB:=CB) (CT:=CT) Z
 refine Z.bv.fn.okX zdz (by kd_p) (fun cdv A outer s H vs Q E hr d=>?_)
 refine d _ fun w td sd z r hs sil TT v e hW hk k=>?_
 subst e
 obtain ⟨⟨dx,h⟩,j,l,-⟩:=id hW
 refine ⟨_,(zaf (zbn (zd3 (zb_ (pmD (pv 0) Z.bc.cl Z.bs c hr (zaa (pv 1) zab))))
   (zaf (zds (W:=fun H=>E (.ref Z.bu.C) none H) Z.bu rfl rfl (zaa zd0 zab) (fun _ _ _ _ _ _ _ I hm hw=>zjm I hm hw)))
   za6)),?_⟩
 kt_k
 cases hn:zc6 z hs v with
 | true =>
  rw [hn,if_pos rfl] at k
  rcases id hk with ⟨i,rfl⟩ | ⟨hw,b⟩
  ·refine .inl ⟨i,rfl,?_⟩
   have a:(zdr z i && decide (i∈hs))=true:=hn
   rw [a]
   kt_k
  ·exact absurd ((zoh b).symm.trans (hn)) (by decide)
 | false =>
  rw [hn,if_neg (by decide)] at k
  rcases id hk with ⟨i,rfl⟩ | ⟨hw,b⟩
  ·refine .inl ⟨i,rfl,?_⟩
   have a:(zdr z i && decide (i∈hs))=false:=hn
   rw [a]
   kt_k
  ·refine .inr ⟨hw,?_⟩
   kt_k
theorem zq3 (Z:ZZ P w K mg base){CB CT:Addr}:zc_ P w K mg base (CXR P w) 5 Z.b0.f Z.b0.fd ["self","thing"] (zwc K CB CT Z.bc.C Z.bu.C Z.bz.C):=by
 have j:=Z.bc.cl
 have h:zc_ P w K mg base (CXR P w) 4 _ _ _ _:=znl (CB:=CB) (CT:=CT) Z
 have g:=zbg (CB:=CB) (CT:=CT) Z
 refine Z.b0.fn.okX zc0 (by kd_p) (fun cdv A outer s H vs Q E hr d=>?_)
 refine d _ fun w td sd z r hs sil TT v e hW hk k=>?_
 subst e
 obtain ⟨⟨dx,l⟩,m,n,-⟩:=id hW
 refine ⟨_,(zae (zap (zq8 (Th:=fun _=>E) (pv 0) Z.bc.cl Z.bv.me h hr.mm Z.bv.b .nil (fun _ _ _ _ _ _ I R=>ztt I R) (zaa (pv 1) zab)))
  (zaf (zbn (zd3 (zb_ (pmD (pv 0) Z.bc.cl Z.bt g hr (zaa (pv 1) zab))))
   (zaf (zds (W:=fun H=>E (.ref Z.bz.C) none H) Z.bz rfl rfl (zaa zd0 zab) (fun _ _ _ _ _ _ _ I hm hw=>zjm I hm hw)))
   za6))),?_⟩
 kt_k
 cases hn:zc6 z hs v with
 | false =>
  rw [hn,if_neg (by decide)] at k
  kt_k
 | true =>
  rw [hn,if_pos rfl] at k
  kt_k
  cases ha:zwp z hs sil v with
  | true =>
   rw [ha,if_pos rfl] at k
   rcases id hk with ⟨i,rfl⟩ | ⟨hw,c⟩
   ·refine .inl ⟨i,rfl,?_⟩
    have a:(zdr z i && decide (i∈hs) && !decide (i∈sil))=true:=ha
    rw [a]
    kt_k
   ·exact absurd ((zz9 c).symm.trans (ha)) (by decide)
  | false =>
   rw [ha,if_neg (by decide)] at k
   rcases id hk with ⟨i,rfl⟩ | ⟨hw,c⟩
   ·refine .inl ⟨i,rfl,?_⟩
    have a:(zdr z i && decide (i∈hs) && !decide (i∈sil))=false:=ha
    rw [a]
    kt_k
   ·refine .inr ⟨hw,?_⟩
    kt_k
theorem zl7 (Z:ZZ P w K mg base){CB CT:Addr}:zc_ P w K mg base (CXR P w) 6 Z.dc.f Z.dc.fd ["town","house"] (z1j K CB CT Z.bc.C Z.bu.C Z.bz.C):=by
 have e:=Z.bc.cl
 have c:zc_ P w K mg base (CXR P w) 5 _ _ _ _:=zq3 (CB:=CB) (CT:=CT) Z
 refine Z.dc.fn.okX zh2 (by kd_p) (fun cdv A outer s H vs Q E hr a=>?_)
 refine a _ fun w td sd z r hs sil TT v d hW hk ha k=>?_
 subst d
 obtain ⟨dx,g⟩:=hW.ob
 refine ⟨_,(zae (zap (zq8 (Th:=fun _=>E) (pv 0) Z.bc.cl Z.b0.me c hr.mm Z.b0.b .nil (fun _ _ _ _ _ _ I R=>ztt I R) (zaa (pv 1) zab)))
  zto),?_⟩
 kt_k
 rw [ha]
 cases hh:zc6 z hs v with
 | true =>
  rw [hh] at k
  exact k
 | false =>
  rw [hh] at k
  exact k
local macro_rules | `(tactic| walk_at "fld") => `(tactic| exact fun _ h => h)
structure zqa (K:W.Frag)(NE CA c0 c1 c2 c3 c4 c5 c6:Addr)(d:Int):Prop where
 ek:z4l K CA
 ex:PySem.W.excIn K CA bmV "ValueError.__new__" = true
 mr:zoe K CA NE=true
 m0:PySem.W.kitOne K (.ref CA) (.ref c0)=some (decide ((0:Int)=d))
 m1:PySem.W.kitOne K (.ref CA) (.ref c1)=some (decide ((1:Int)=d))
 m2:PySem.W.kitOne K (.ref CA) (.ref c2)=some (decide ((2:Int)=d))
 m3:PySem.W.kitOne K (.ref CA) (.ref c3)=some (decide ((3:Int)=d))
 m4:PySem.W.kitOne K (.ref CA) (.ref c4)=some (decide ((4:Int)=d))
 m5:PySem.W.kitOne K (.ref CA) (.ref c5)=some (decide ((5:Int)=d))
 m6:PySem.W.kitOne K (.ref CA) (.ref c6)=some (decide ((6:Int)=d))
 mv:PySem.W.kitOne K (.ref CA) (.type "ValueError")=some true
def zef (d:Int):List Bool:=[decide ((0:Int)=d),decide ((1:Int)=d),decide ((2:Int)=d),decide ((3:Int)=d),decide ((4:Int)=d),decide ((5:Int)=d),decide ((6:Int)=d),true]
def zzs (K:W.Frag)(CB CT CW:Addr):Sp:=fun vs H Q _=>∀ CC:Prop,(∀ (w td sd:Addr) (z r:Int) (hs sil:List Int) (T:Int->zbv) (v:V),vs=[.ref w,v]->zam CB CT CW H w td sd z r hs sil T->zfe K H v->zwp z hs sil v=false->(∀ (l:Addr) (H':Hp),zax H H'->H' l=some (.lst ((zef (if zc6 z hs v=true then 1 else 0)).map V.bl))->Q (.ref l) H')->CC)->CC
theorem zgh:zaj ["_law_town","_law_house","_law_told","e"] ["_law_town","_law_house"] (zah (top 54)):=fS
theorem zwa (Z:ZZ P w K mg base){CB CT:Addr}(MK0:zqa K Z.dk.C Z.bu.C Z.bu.C Z.bz.C Z.bw.C Z.b5.C Z.cc.C Z.dm.C Z.dl.C 0)(MK1:zqa K Z.dk.C Z.bz.C Z.bu.C Z.bz.C Z.bw.C Z.b5.C Z.cc.C Z.dm.C Z.dl.C 1):zgb Z 7 Z.dn (zzs K CB CT Z.bc.C):=by
 have u:zc_ P w K mg base (CXR P w) 6 _ _ _ _:=zl7 (CB:=CB) (CT:=CT) Z
 refine Z.dn.fn.ok zgh (by kd_p) (fun cdv A outer s H vs Q E hr j=>?_)
 refine j _ fun w td sd z r hs sil TT v m hW hk ha k=>?_
 subst m
 obtain ⟨CA,dd,eC,eD,MK⟩:∃ (CA:Addr) (dd:Int),z5u Z.bu.C Z.bz.C (zc6 z hs v)=CA/\(if zc6 z hs v=true then (1:Int) else 0)=dd/\zqa K Z.dk.C CA Z.bu.C Z.bz.C Z.bw.C Z.b5.C Z.cc.C Z.dm.C Z.dl.C dd:=by
  cases zc6 z hs v
  ·exact ⟨_,_,rfl,rfl,MK0⟩
  ·exact ⟨_,_,rfl,rfl,MK1⟩
 rw [eD] at k
 obtain ⟨ek,ex,mr,m0,m1,m2,m3,m4,m5,m6,mv⟩:=MK
 let Th:St->Value->Hp->Prop:=fun σ C H'=>C = .ref CA/\zax H H'/\∃ l,H' l=some (.lst [])/\σ=[some (.ref w),some v,some (.ref l),none]
 refine ⟨_,(zae (za2 (i:=2) zgh.nd rfl oL (zb0 zab))
  (zae (z2q (Th:=Th) (i:=3) Z.dk rfl rfl rfl rfl zgh.nd rfl rfl
   (fun pins E' hE=>(zaf (zap (zxg (Th:=fun σ C _ H'=>Th σ C H') u hr.mm rfl Z.dc.hm Z.dc.fn.kp Z.dc.b .nil hE (zaa (pv 0) (zaa (pv 1) zab))))))
   (fun _=>(zae (za2 (i:=2) zgh.nd rfl oL (zb0 (zaa (za0 (zdk (K:=K) rfl) rfl Z.ds.n_isinstance zbl (zaa (pv 3) (zaa (zhn (v:= .ref Z.bu.C) rfl Z.bu.hm rfl) zab))) (zaa (za0 (zdk (K:=K) rfl) rfl Z.ds.n_isinstance zbl (zaa (pv 3) (zaa (zhn (v:= .ref Z.bz.C) rfl Z.bz.hm rfl) zab))) (zaa (za0 (zdk (K:=K) rfl) rfl Z.ds.n_isinstance zbl (zaa (pv 3) (zaa (zhn (v:= .ref Z.bw.C) rfl Z.bw.hm rfl) zab))) (zaa (za0 (zdk (K:=K) rfl) rfl Z.ds.n_isinstance zbl (zaa (pv 3) (zaa (zhn (v:= .ref Z.b5.C) rfl Z.b5.hm rfl) zab))) zab))))))
   (zaf (za2 (i:=2) zgh.nd rfl oL (za8 zn5 (pv 2) (zb0 (zaa (za0 (zdk (K:=K) rfl) rfl Z.ds.n_isinstance zbl (zaa (pv 3) (zaa (zhn (v:= .ref Z.cc.C) rfl Z.cc.hm rfl) zab))) (zaa (za0 (zdk (K:=K) rfl) rfl Z.ds.n_isinstance zbl (zaa (pv 3) (zaa (zhn (v:= .ref Z.dm.C) rfl Z.dm.hm rfl) zab))) (zaa (za0 (zdk (K:=K) rfl) rfl Z.ds.n_isinstance zbl (zaa (pv 3) (zaa (zhn (v:= .ref Z.dl.C) rfl Z.dl.hm rfl) zab))) (zaa (za0 (zdk (K:=K) rfl) rfl Z.ds.n_isinstance zbl (zaa (pv 3) (zaa (zxs rfl Z.ds.n_ValueError zm7) zab))) zab)))))))))))
  (zaf (zar (pv 2))))),?_⟩
 kt_k
 intro l hl
 have s2:zax H (upd H l (.lst [])):=zax.new H hl
 have f:upd H l (.lst []) l=some (.lst []):=zad
 generalize upd H l (.lst [])=H2 at s2 f |-
 have W2:=hW.keep (H':=H2) fun q o _ e=>s2 _ _ e
 have ab:=hk.same s2
 refine And.intro ?_ (fun σ' C H' t=>?_)
 ·kt_k
  exact ⟨by rw [eC],s2,l,f,rfl⟩
 ·obtain ⟨rfl,s3,l',y,rfl⟩:=t
  refine ⟨CA,rfl,ex,mr,fun e he=>?_⟩
  generalize a:upd H' e _=H3
  obtain ⟨d,x⟩:zax H' H3/\H3 e=some (z4m e (.ref CA)):=by rw [<- a]; exact ⟨zax.new H' he,zad⟩
  clear a
  kt_k
  intro p1 n
  generalize g:upd H3 p1 _=H4
  obtain ⟨s4,e4⟩:=nw n g
  have ac:=s4 _ _ x
  clear g
  kt_k
  intro p2 p
  generalize h:upd H4 p2 _=H5
  obtain ⟨s5,e5⟩:=nw p h
  have aa:=s5 _ _ e4
  clear h
  kt_k
  intro p3 c
  have s6:=((s3.trans d).trans (s4.trans s5)).lay (o:= .lst ((zef dd).map V.bl)) (((s3.trans d).trans (s4.trans s5)).free c |> fun _=>c)
  kt_k
  exact k p3 _ s6 zad
theorem zrz {K:W.Frag}{H:Hp}:∀ bs:List Bool,DVs K H (bs.map PyData.bool) (bs.map V.bl)
 | []=>by unfold DVs; rfl
 | b :: t=>by
  have ih:=zrz (K:=K) (H:=H) t
  rw [gu,gu]
  unfold DVs
  exact ⟨_,_,rfl,by unfold DV; rfl,ih⟩
theorem zrh {K:W.Frag}{neg:Bool}{H:Hp}{Q:VK}{a b:Addr}{d:Int}(hd:d=0\/d=1)(h1:H a=some (.lst ((zef d).map V.bl)))(h2:H b=some (.lst ((zef d).map V.bl)))(q:Q (.bl (!neg)) H):z1u K neg (.ref a) (.ref b) H Q:=by
 have dv:∀ t,H t=some (.lst ((zef d).map V.bl))->DV K H (.list ((zef d).map PyData.bool)) (.ref t):=fun t ht=>by
  unfold DV
  exact ⟨t,_,rfl,SqL.of ht,zrz _⟩
 refine zrm (dv a h1) (dv b h2) ?_ ?_ ?_ q <;> rcases hd with rfl | rfl <;> decide +kernel
def zue (CB CT CW:Addr):Sp:=fun vs H Q _=>∀ CC:Prop,(∀ (w td sd:Addr) (z r:Int) (hs sil:List Int) (T:Int->zbv) (x:Int),vs=[.ref w,.int x]->zam CB CT CW H w td sd z r hs sil T->hs.length<=12->(∀ H',zax H H'->Q (.bl true) H')->CC)->CC
theorem zr8 {xs:List V}{c:Int}(h:xs.length=8):∃ v,v∈xs/\atI xs (c % 8)=some v:=by
 have a1:=Int.emod_nonneg c (show (8:Int)≠0 by decide)
 have a2:=Int.emod_lt_of_pos c (show (0:Int)<8 by decide)
 have a:(c % 8).toNat<xs.length:=by omega
 refine ⟨xs[(c % 8).toNat],j4 a,?_⟩
 have e:(((c % 8).toNat:Nat):Int)=c % 8:=by omega
 have z:=ziv (xs:=xs) (j:=(c % 8).toNat) (v:=xs[(c % 8).toNat]) (by simp [a])
 rwa [e] at z
theorem z3p {K:W.Frag}{H:Hp}{z:Int}{hs:List Int}{p1 p2:Addr}{od:Int}(hz:1<=z)(e1:H p1=some (.lst [V.int 0]))(e2:H p2=some (.tup [V.int 0]))(ho:zc6 z hs (.int od)=false):∀ v∈[V.non,V.bl true,V.int (-1),V.int (1 * 2 ^ z.toNat),V.str "0",V.ref p1,V.ref p2,V.int od],zfe K H v/\zc6 z hs v=false:=fun v hv=>by
 have no:∀ i:Int,zdr z i=false->zc6 z hs (.int i)=false:=fun i h=>by
  show (zdr z i && decide (i∈hs))=false
  rw [h,Bool.false_and]
 simp only [gl,gi,or_false] at hv
 rcases hv with rfl | rfl | rfl | rfl | rfl | rfl | rfl | rfl
 ·exact ⟨.inr ⟨.inr ⟨_,.non,zjq _⟩,fun _ z=>nomatch z⟩,rfl⟩
 ·exact ⟨.inr ⟨.inl ⟨_,rfl⟩,fun _ z=>nomatch z⟩,rfl⟩
 ·exact ⟨.inl ⟨_,rfl⟩,no _ rfl⟩
 ·refine ⟨.inl ⟨_,rfl⟩,no _ ?_⟩
  have q2:=zd8 z.toNat
  unfold zdr
  rw [ztq (by omega) (by omega),n9,decide_eq_false (Int.lt_irrefl _),Bool.and_false]
 ·exact ⟨.inr ⟨.inr ⟨_,.str _,zk6 _⟩,fun _ z=>nomatch z⟩,rfl⟩
 ·exact ⟨.inr ⟨.inr ⟨_,.lst e1,zjj _⟩,fun _ z=>nomatch z⟩,rfl⟩
 ·exact ⟨.inr ⟨.inr ⟨_,.tup e2,zh7 _⟩,fun _ z=>nomatch z⟩,rfl⟩
 ·exact ⟨.inl ⟨_,rfl⟩,ho⟩
theorem zdf:zaj ["_law_town","_law_x","_law_tables_here","_law_live","_law_house","_law_free","_law_odd"] ["_law_town","_law_x"] (zah (top 55)):=fS
theorem zpz (Z:ZZ P w K mg base)(MK0:zqa K Z.dk.C Z.bu.C Z.bu.C Z.bz.C Z.bw.C Z.b5.C Z.cc.C Z.dm.C Z.dl.C 0)(MK1:zqa K Z.dk.C Z.bz.C Z.bu.C Z.bz.C Z.bw.C Z.b5.C Z.cc.C Z.dm.C Z.dl.C 1):zgb Z 8 Z.dp (zue Z.ba.C Z.bb.C Z.bc.C):=by
 have b0:=Z.bc.cl
 obtain ⟨b6,bt,bv,cb,-⟩:=Z.bc.na
 have ap:=zcp (CB:=Z.ba.C) (CT:=Z.bb.C) Z
 have bj:=zba (CB:=Z.ba.C) (CT:=Z.bb.C) Z
 have av:=zmj Z
 have ah:=zwa (CB:=Z.ba.C) (CT:=Z.bb.C) Z MK0 MK1
 refine Z.dp.fn.ok zdf (by kd_p) (fun cdv A outer s H vs Q E hr be=>?_)
 refine be _ fun w td sd z r hs sil TT x a3 hW b3 k=>?_
 subst a3
 obtain ⟨dx,bf⟩:=hW.ob
 have aj:=hW.z1
 have b2:=hW.z2
 have q2:=zd8 z.toNat
 refine ⟨_,(zae (za2 (i:=2) zdf.nd rfl oL (pfD Z.di av hr rfl (zaa (pv 0) zab)))
  (zae (za2 (i:=3) zdf.nd rfl oL (zbi (pv 0) Z.bc.cl Z.b7.me bj hr.mm Z.b7.b .nil zbw))
  (zae (zca PassesOwn.never rfl (zbb (zbi (pv 0) Z.bc.cl Z.b1.me ap hr.mm Z.b1.b .nil zbw)) (zas (i:=4) zdf.nd rfl oL)
   (zaf (zbn (PW.pt (zgx (zan zcf (pv 4) (pv 3) (by with_unfolding_all rfl)) (zfz (zan (zre hr.units) (pfD Z.dn ah hr rfl (zaa (pv 0) (zaa (pv 4) zab))) (zct rfl (zaz (own:=["_law_k"]) (caps:=[]) (N':=["_law_k"]) (by kernel_rfl)) (zc2 rfl Z.ds.n_range (zaa zak zab)) (fun _ _ _ _ _=>(zas (i:=0) (show (["_law_k"]:List Str).Nodup by decide +kernel) rfl oL)) (fun _ _ _ _ _=>zfx) (fun _ _ _ _ _=>(zd7 (ze6 (K:=K) rfl) (pv 0) (ze9 (zaa zak (zaa zak zab))) (by with_unfolding_all rfl)))) (za5 _)))))
    (zaf (zar zfw))
    za6)))
  (zae (zf5 (i:=5) zdf.nd rfl oL rfl (zaz (own:=["_law_name_here"]) (caps:=[0]) (N':=["_law_name_here","_law_town"]) (by kernel_rfl)) (zc2 rfl Z.ds.n_range (zaa (za8 zi9 zak zak) zab)) (fun _ _ _ _ _=>(zas (i:=0) (show (["_law_name_here","_law_town"]:List Str).Nodup by decide +kernel) rfl oL)) (fun _ _ _ _ _=>(zcu (zan (zdx (K:=K) rfl) (pv 0) (zbi (pv 1) Z.bc.cl Z.b1.me ap hr.mm Z.b1.b .nil zbw) (by with_unfolding_all rfl)))) (fun _ _ _ _ _=>(pv 0)))
  (zbq (za2 (i:=6) zdf.nd rfl oL (zfg zcg (zb0 (zaa zdn (zaa zfw (zaa (zzm zug zak) (zaa (za8 zi9 zak (za9 (pv 0) rfl)) (zaa zd0 (zaa (zb0 (zaa zak zab)) (zaa (ze9 (zaa zak zab)) (zaa (zj4 (zan (zh5 hr.units) (pv 5) (zb0 zab) (za5 _)) (zfg zcg (pv 5) zak (fun _ _=>rfl)) (zzm zug zak)) zab))))))))) (za8 zb9 (pv 1) zak) (fun _ _=>rfl)))
  (zaf (zar (zjp (zd7 (zyz hr.units) (pfD Z.dn ah hr rfl (zaa (pv 0) (zaa (pv 6) zab))) (zct rfl (zaz (own:=["_law_k"]) (caps:=[]) (N':=["_law_k"]) (by kernel_rfl)) (zc2 rfl Z.ds.n_range (zaa zak zab)) (fun _ _ _ _ _=>(zas (i:=0) (show (["_law_k"]:List Str).Nodup by decide +kernel) rfl oL)) (fun _ _ _ _ _=>zfx) (fun _ _ _ _ _=>(zd7 (ze6 (K:=K) rfl) (pv 0) (ze9 (zaa zak (zaa zak zab))) (by with_unfolding_all rfl)))) (za5 _)) (zjr (zd7 (z0e hr.units) (pfD Z.di av hr rfl (zaa (pv 0) zab)) (pv 2) (za5 _))))))))))),?_⟩
 kt_k
 intro d L B H1 s1 t1 _
 have W1:=hW.keep (H':=H1) fun q o _ e=>s1 _ _ e
 have a0:=s1 _ _ bf
 kt_k
 intro al H2 s2 ce t
 replace t:H2 al=some (.lst ((zaq hs sil).map V.int)):=t
 have ai:=s2 _ _ a0
 have ax:=s1.trans s2
 have W2:=hW.keep (H':=H2) fun q o _ e=>ax _ _ e
 have b4:=zbz (zaq hs sil)
 kt_k
 intro l3 a5
 generalize ay:upd H2 l3 _=H3
 obtain ⟨s3,e3⟩:=nw a5 ay
 clear ay
 kt_k
 refine zbs (K:=K) (a:=l3) (xs:=(za1 hs).map V.int) (fun i σ H4=>zer (∃ v4:Option V,σ=[some (.ref w),some (.int x),some (.ref d),some (.ref al),v4,none,none]/\zax H3 H4)) ⟨⟨_,rfl,zax.refl H3⟩⟩ (fun i σ H4 _ ⟨_,_,s⟩=>SqL.of (s _ _ e3)) ?_ ?_
 ·rintro i y σ H4 hi ⟨v4,rfl,s4⟩
  obtain ⟨h,hh,rfl⟩:=zb7 hi
  have ac:h∈hs:=(zaw _).subset (fm hh)
  have f:=s3.trans s4
  have bq:=f _ _ t
  have W4:=W2.keep (H':=H4) fun q o _ e=>f _ _ e
  kt_k
  rw [zch]
  by_cases ag:h∈zaq hs sil
  ·rw [decide_eq_true ag]
   kt_k
   exact ⟨⟨_,rfl,s4⟩⟩
  ·rw [decide_eq_false ag]
   have am:h∈sil:=Classical.byContradiction fun y=>ag (zbf.mpr ⟨ac,y⟩)
   have a1:zc6 z hs (.int h)=true:=by
    have e1:=zej (hW.hb h ac).1 (hW.hb h ac).2 aj
    show (zdr z h && decide (h∈hs))=true
    rw [e1,decide_eq_true ac]
    rfl
   have ca:zwp z hs sil (.int h)=false:=by
    unfold zwp
    rw [a1]
    show (true && !decide (h∈sil))=false
    rw [decide_eq_true am]
    rfl
   have hk:zfe K H4 (.int h):= .inl ⟨h,rfl⟩
   kt_k
   intro m H5 s5 em
   rw [a1,if_pos rfl] at em
   kt_k
   intro Dl g
   refine zfb (lo:=0) (n:=(8:Int).toNat) (fun i σ H6=>zer (∃ v0:Option V,σ=[v0]/\zax H5 H6/\H6 Dl=some (.lst (((zef 1).take i).map V.bl)))) ⟨⟨none,rfl,zax.new H5 g,zad⟩⟩ ?_ ?_
   ·rintro i σ H6 hi ⟨v0,rfl,s6,ab⟩
    have bg:i<8:=hi
    have hsz:(((zef 1).take i).map V.bl).length<sizeLine:=by
     rw [d9,gh]
     exact zau (by have:(zef 1).length=8:=rfl; omega)
    kt_k
    intro tp p
    have af:upd H6 tp (.tup [V.int 1,V.int 7]) Dl=some (.lst (((zef 1).take i).map V.bl)):=by rw [zac (zag ab p)]; exact ab
    have ae:upd H6 tp (.tup [V.int 1,V.int 7]) tp=some (.tup [V.int 1,V.int 7]):=zad
    have sp:zax H6 (upd H6 tp (.tup [V.int 1,V.int 7])):=zax.new H6 p
    generalize upd H6 tp (.tup [V.int 1,V.int 7])=H7 at af ae sp |-
    kt_k
    refine ⟨⟨_,rfl,(s6.trans sp).put g,?_⟩⟩
    rw [zad]
    have h8:i=0\/i=1\/i=2\/i=3\/i=4\/i=5\/i=6\/i=7:=by omega
    rcases h8 with rfl | rfl | rfl | rfl | rfl | rfl | rfl | rfl <;> rfl
   ·rintro σ H6 ⟨v0,rfl,s6,ab⟩
    refine zrh (.inr rfl) (s6 _ _ em) ab ?_
    kt_k
    exact ⟨⟨_,rfl,(s4.trans s5).trans s6⟩⟩
 ·rintro σ H4 ⟨v4,rfl,s4⟩
  have f:=s3.trans s4
  have W4:=W2.keep (H':=H4) fun q o _ e=>f _ _ e
  have ad:=f _ _ ai
  kt_k
  intro Df aq
  refine zfb (lo:=0) (n:=8) (fun i σ H5=>zer (∃ (v0:Option V) (fs:List Int),σ=[v0,some (.ref w)]/\zax H4 H5/\H5 Df=some (.lst (fs.map V.int))/\fs.length<=i/\∀ y∈fs,y∉hs)) ⟨⟨none,[],rfl,zax.new H4 aq,zad,gd _,fun y hy=>(nomatch hy)⟩⟩ ?_ ?_
  ·rintro i σ H5 hi ⟨v0,fs,rfl,s5,e5,a4,hf⟩
   have W5:=W4.keep (H':=H5) fun q o _ e=>s5 _ _ e
   have az:=s5 _ _ ad
   have hsz:(fs.map V.int).length<sizeLine:=by
    rw [d9]
    exact zau (by omega)
   have br:=zbz (za1 hs)
   kt_k
   intro l6 a6
   generalize l:upd H5 l6 _=H6
   obtain ⟨s6,e6⟩:=nw a6 l
   clear l
   have a9:=s6 _ _ e5
   kt_k
   rw [zch]
   by_cases hm:0+(i:Int)∈za1 hs
   ·rw [decide_eq_true hm]
    exact ⟨⟨_,fs,rfl,s5.trans s6,a9,by omega,hf⟩⟩
   ·rw [decide_eq_false hm]
    kt_k
    refine ⟨⟨_,fs++[0+(i:Int)],rfl,(s5.trans s6).put aq,by rw [zad,gm]; rfl,by rw [fe,fu]; omega,fun y hy=>?_⟩⟩
    rcases fj.mp hy with hy | hy
    ·exact hf y hy
    ·rw [fc.mp hy]
     exact fun y=>hm ((zaw _).symm.subset y)
  ·rintro σ H5 ⟨v0,fs,rfl,s5,e5,a4,hf⟩
   have az:=s5 _ _ ad
   have ao:=(ax.trans f).trans s5
   have t5:=t1.same (s2.trans (f.trans s5))
   kt_k
   refine mid (fun σ H'=>zer (∃ (v5:Option V) (v:V),σ=[some (.ref w),some (.int x),some (.ref d),some (.ref al),v4,v5,some v]/\zax H5 H'/\zfe K H' v/\zc6 z hs v=false)) ?_ (fun U hU=>?_)
   ·rintro σ H6 ⟨v5,v,rfl,s6,b9,ak⟩
    have a2:=ao.trans s6
    have W6:=hW.keep (H':=H6) fun q o _ e=>a2 _ _ e
    have b8:zwp z hs sil v=false:=by
     unfold zwp
     rw [ak]
     rfl
    kt_k
    intro m H7 s7 em
    rw [ak,if_neg (by decide)] at em
    kt_k
    intro Dl g
    refine zfb (lo:=0) (n:=(8:Int).toNat) (fun i σ H8=>zer (∃ v0:Option V,σ=[v0]/\zax H7 H8/\H8 Dl=some (.lst (((zef 0).take i).map V.bl)))) ⟨⟨none,rfl,zax.new H7 g,zad⟩⟩ ?_ ?_
    ·rintro i σ H8 hi ⟨v0,rfl,s8,u⟩
     have bg:i<8:=hi
     have hsz:(((zef 0).take i).map V.bl).length<sizeLine:=by
      rw [d9,gh]
      exact zau (by have:(zef 0).length=8:=rfl; omega)
     kt_k
     intro tp p
     have af:upd H8 tp (.tup [V.int 0,V.int 7]) Dl=some (.lst (((zef 0).take i).map V.bl)):=by rw [zac (zag u p)]; exact u
     have ae:upd H8 tp (.tup [V.int 0,V.int 7]) tp=some (.tup [V.int 0,V.int 7]):=zad
     have sp:zax H8 (upd H8 tp (.tup [V.int 0,V.int 7])):=zax.new H8 p
     generalize upd H8 tp (.tup [V.int 0,V.int 7])=H9 at af ae sp |-
     kt_k
     refine ⟨⟨_,rfl,(s8.trans sp).put g,?_⟩⟩
     rw [zad]
     have h8:i=0\/i=1\/i=2\/i=3\/i=4\/i=5\/i=6\/i=7:=by omega
     rcases h8 with rfl | rfl | rfl | rfl | rfl | rfl | rfl | rfl <;> rfl
    ·rintro σ H8 ⟨v0,rfl,s8,u⟩
     refine zrh (.inl rfl) (s8 _ _ em) u ?_
     have aa:=(s6.trans s7).trans s8
     have ar:=ao.trans aa
     have W8:=hW.keep (H':=H8) fun q o _ e=>ar _ _ e
     kt_k
     intro c9 L9 B9 H9 s9 t9 _
     refine ⟨_,rfl,zvz t9 ((t5.same aa).same s9) ?_⟩
     exact k H9 (ar.trans s9)
   ·kt_k
    intro p1 bi
    generalize l:upd H5 p1 _=H6
    obtain ⟨s6,e6⟩:=nw bi l
    clear l
    kt_k
    intro p2 bo
    generalize aw:upd H6 p2 _=H7
    obtain ⟨s7,e7⟩:=nw bo aw
    clear aw
    have bd:=s7 _ _ (s6 _ _ e5)
    kt_k
    intro p3 bm
    generalize an:upd H7 p3 _=H8
    obtain ⟨s8,e8⟩:=nw bm an
    replace e8:H8 p3=some (.lst (([]:List Int).map V.int)):=e8
    clear an
    have cd:=s8 _ _ bd
    have a7:=s8 _ _ (s7 _ _ e6)
    have bh:=s8 _ _ e7
    have aa:=(s6.trans s7).trans s8
    have au:∀ (od:Int) (q:Addr) (v:V),H8 q=none->zc6 z hs (.int od)=false->v∈[V.non,V.bl true,V.int (-1),V.int (1 * 2 ^ z.toNat),V.str "0",V.ref p1,V.ref p2,V.int od]->U [some (.ref w),some (.int x),some (.ref d),some (.ref al),v4,some (.ref Df),some v] (upd H8 q (.lst [V.non,V.bl true,V.int (-1),V.int (1 * 2 ^ z.toNat),V.str "0",V.ref p1,V.ref p2,V.int od])):=fun od q v hq ho hv=>by
     have sq:zax H8 (upd H8 q (.lst [V.non,V.bl true,V.int (-1),V.int (1 * 2 ^ z.toNat),V.str "0",V.ref p1,V.ref p2,V.int od])):=zax.new H8 hq
     obtain ⟨a,b⟩:=z3p (K:=K) aj (sq _ _ a7) (sq _ _ bh) ho v hv
     exact hU _ _ ⟨⟨_,v,rfl,aa.trans sq,a,b⟩⟩
    cases fs with
    | nil =>
     kt_k
     intro q hq
     obtain ⟨v,hv,a8⟩:=zr8 (c:=x) (xs:=[V.non,V.bl true,V.int (-1),V.int (1 * 2 ^ z.toNat),V.str "0",V.ref p1,V.ref p2,V.int (-2)]) rfl
     have bn:upd H8 q (.lst [V.non,V.bl true,V.int (-1),V.int (1 * 2 ^ z.toNat),V.str "0",V.ref p1,V.ref p2,V.int (-2)]) q=some (.lst [V.non,V.bl true,V.int (-1),V.int (1 * 2 ^ z.toNat),V.str "0",V.ref p1,V.ref p2,V.int (-2)]):=zad
     kt_k
     exact au (-2) q v hq rfl hv
    | cons y fs =>
     have hy:zc6 z hs (.int y)=false:=by
      show (zdr z y && decide (y∈hs))=false
      rw [decide_eq_false (hf y (fk ..)),Bool.and_false]
     have bp:atI ((y :: fs).map V.int) 0=some (V.int y):=ziv (xs:=(y :: fs).map V.int) (j:=0) (v:=V.int y) rfl
     kt_k
     intro q hq
     obtain ⟨v,hv,a8⟩:=zr8 (c:=x) (xs:=[V.non,V.bl true,V.int (-1),V.int (1 * 2 ^ z.toNat),V.str "0",V.ref p1,V.ref p2,V.int y]) rfl
     have bn:upd H8 q (.lst [V.non,V.bl true,V.int (-1),V.int (1 * 2 ^ z.toNat),V.str "0",V.ref p1,V.ref p2,V.int y]) q=some (.lst [V.non,V.bl true,V.int (-1),V.int (1 * 2 ^ z.toNat),V.str "0",V.ref p1,V.ref p2,V.int y]):=zad
     kt_k
     exact au y q v hq hy hv
theorem zwy {ls:List Int}{L:Int->Addr}{h:Int}{l:Addr}(hh:h∈ls):zec (zi4 ls L) (Sum.inl h) (V.ref l)=zi4 ls (zgc L h l):=by
 unfold zec
 rw [zg3,zgo,if_pos hh,if_pos (show (some (V.ref (L h))).isSome=true from rfl)]
 unfold zi4
 rw [l4]
 refine ik fun g _=>?_
 by_cases e:g=h
 ·subst e
  rw [zal]
  simp
 ·rw [zay e]
  simp [e]
theorem zdb.swap {H H3:Hp}{d l:Addr}{ls:List Int}{L:Int->Addr}{B:Int->Nat->Addr}{z:Nat}{N:Int->Nat->List Int}{h:Int}{b:Nat->Addr}{f:Nat->List Int}(t:zdb H d ls L B z N)(s:zax H H3)(hl:H3 l=some (.lst (zj0 z b)))(hb:∀ k,k<z->H3 (b k)=some (.lst ((f k).map V.int)))(fb:∀ k,k<z->H (b k)=none)(ib:∀ j k,j<z->k<z->b j=b k->j=k)(hh:h∈ls) :
  zdb (upd H3 d (.dK (zec (zi4 ls L) (Sum.inl h) (V.ref l)))) d ls (zgc L h l) (zgc B h b) z (zgc N h f):=by
 have hd:=s _ _ t.dd
 have up:∀ q xs,H3 q=some (.lst xs)->upd H3 d (.dK (zec (zi4 ls L) (Sum.inl h) (V.ref l))) q=some (.lst xs):=fun q xs e=>by
  rw [zac (zdv e hd (by intro z; cases z))]
  exact e
 refine ⟨by rw [zad,zwy hh],fun g hg=>?_,fun g hg k hk=>?_,fun g hg f hf j k hj hk=>?_⟩
 ·by_cases e:g=h
  ·rw [e,zal,zal]
   exact up _ _ hl
  ·rw [zay e,zay e]
   exact up _ _ (s _ _ (t.l g hg))
 ·by_cases e:g=h
  ·rw [e,zal,zal]
   exact up _ _ (hb k hk)
  ·rw [zay e,zay e]
   exact up _ _ (s _ _ (t.b g hg k hk))
 ·have no:∀ {g:Int} {j k:Nat},g∈ls->j<z->k<z->B g j≠b k:=fun hg hj hk y=>by
   have:=t.b _ hg _ hj
   rw [y,fb _ hk] at this
   cases this
  by_cases e:g=h
  ·subst e
   rw [zal]
   by_cases e2:f=g
   ·subst e2
    rw [zal]
    exact fun y=>⟨rfl,ib j k hj hk y⟩
   ·rw [zay e2]
    exact fun y=>absurd y.symm (no hf hk hj)
  ·rw [zay e]
   by_cases e2:f=h
   ·subst e2
    rw [zal]
    exact fun y=>absurd y (no hg hj hk)
   ·rw [zay e2]
    exact t.i g hg f hf j k hj hk
structure Kp (H H':Hp)(O O':Addr->Prop):Prop where
 k:∀ q o,(∀ ps,o≠ .tbl ps)->H q=some o->¬ O q->H' q=some o
 o:∀ q,O' q->O q\/H q=none
 e:∀ q,H' q=none->H q=none
theorem Kp.trans {H H1 H':Hp}{O O1 O':Addr->Prop}(a:Kp H H1 O O1)(b:Kp H1 H' O1 O'):Kp H H' O O':=by
 refine ⟨fun q o ho e hn=>b.k q o ho (a.k q o ho e hn) fun y=>?_,fun q y=>?_,fun q y=>a.e q (b.e q y)⟩
 ·rcases a.o q y with z | z
  ·exact hn z
  ·rw [e] at z
   cases z
 ·rcases b.o q y with z | z
  ·exact a.o q z
  ·exact .inr (a.e q z)
theorem Kp.same {H H':Hp}{O:Addr->Prop}(s:zax H H'):Kp H H' O O:=⟨fun q o _ e _=>s _ _ e,fun _ y=> .inl y,fun _ e=>s.free e⟩
theorem Kp.stay {H H':Hp}{O O':Addr->Prop}(a:Kp H H' O O'){q:Addr}{o:HO}(ho:∀ ps,o≠ .tbl ps)(e:H q=some o)(hn:¬ O q):H' q=some o/\¬ O' q:=⟨a.k q o ho e hn,fun y=>(a.o q y).elim hn fun z=>by rw [e] at z; cases z⟩
theorem Kd.tab {CB CT CW T0 T1 T2 T3 w td sd:Addr}{H H':Hp}{z r:Int}{hs sil:List Int}{T:Int->zbv}{po:Pos}{qu:Str}{O':Addr->Prop}(d:Kd T0 T1 T3 H H' (Own td sd z.toNat hs T) O')(W:zam CB CT CW H w td sd z r hs sil T)(h0:T2≠T0)(h1:T2≠T1)(h3:T2≠T3)(t:Tab H T2 po qu):Tab H' T2 po qu:=Tab.hold t fun q o ho e=>by
 rcases ho with ⟨x,k,rfl⟩ | rfl
 ·exact d.k q _ (fun _ z=>nomatch z) e (W.kind e)
 ·obtain ⟨ps,hP,_⟩:=t
  rw [hP] at e
  cases e
  exact d.t _ _ hP h0 h1 h3
theorem Std.k3 {CB CT CW T0 T1 T2 T3 w td sd:Addr}{H H':Hp}{z r:Int}{hs sil pool:List Int}{T:Int->zbv}(X:Std CB CT CW T0 T1 T3 H w td sd z r hs sil pool T)(a:K3x T0 T1 T2 H H')(h0:T3≠T0)(h1:T3≠T1)(h2:T3≠T2):Std CB CT CW T0 T1 T3 H' w td sd z r hs sil pool T/\∀ {O:Addr->Prop},Kp H H' O O:=⟨⟨X.W.keep a.k,X.A,X.O,X.pq,X.pb,X.sm,X.sn,X.n12,a.t0,a.t1,Tab.hold X.t3 fun q o ho e=>by
 rcases ho with ⟨x,k,rfl⟩ | rfl
 ·exact a.k q _ (fun _ z=>nomatch z) e
 ·obtain ⟨ps,hP,_⟩:=X.t3
  rw [hP] at e
  cases e
  exact a.b _ _ hP h0 h1 h2⟩,fun {O}=>⟨fun q o ho e _=>a.k q o ho e,fun _ y=> .inl y,a.e⟩⟩
theorem Rch.iff {E F:Int->Int->Prop}(hf:∀ a b,E a b↔F a b){a b:Int}:Rch E a b↔Rch F a b:=by
 have one:∀ {E F:Int->Int->Prop},(∀ a b,E a b->F a b)->Rch E a b->Rch F a b:=fun {E F} hf y=>by
  induction y with
  | own=>exact .own
  | go _ e ih=>exact ih.go (hf _ _ e)
 exact ⟨one fun a b=>(hf a b).mp,one fun a b=>(hf a b).mpr⟩
theorem zub {z:Nat}{aw:Int->Bool}{N:Int->Nat->List Int}{h:Int}(a b:Int):zm1 z aw (zho aw N h) a b↔zm1 z aw N a b:=by
 unfold zm1
 constructor <;> rintro ⟨m,ha⟩ <;> obtain ⟨k,hk,hm⟩:=zdh.mp m <;> refine ⟨zdh.mpr ⟨k,hk,?_⟩,ha⟩
 ·unfold zho at hm
  by_cases e:a=h
  ·rw [e,zal] at hm
   exact e ▸ (gr.mp hm).1
  ·rw [zay e] at hm
   exact hm
 ·unfold zho
  by_cases e:a=h
  ·rw [e,zal]
   exact gr.mpr ⟨e ▸ hm,ha⟩
  ·rw [zay e]
   exact hm
def zzj (CB CT CW T0 T1 T2 T3:Addr):Sp:=fun vs H Q _=>∀ CC:Prop,(∀ (w td sd:Addr) (z r:Int) (hs sil pool:List Int) (T:Int->zbv) (h:Int),vs=[.ref w,.int h]->Std CB CT CW T0 T1 T3 H w td sd z r hs sil pool T->Tab H T2 zyy quW->pool.length<=60->h∈hs->h∉sil->(∀ (H':Hp) (T':Int->zbv),Std CB CT CW T0 T1 T3 H' w td sd z r hs sil pool T'->Tab H' T2 zyy quW->Kp H H' (Own td sd z.toNat hs T) (Own td sd z.toNat hs T')->Q (.bl true) H')->CC)->CC
theorem ze5:zaj ["_law_town","_law_house","_law_tables_here","_law_live","_law_due","_law_name_here","_law_found"] ["_law_town","_law_house"] (zah (top 56)):=fS
theorem zvs (Z:ZZ P w K mg base):zgb Z 14 Z.dq (zzj Z.ba.C Z.bb.C Z.bc.C Z.bk.P Z.cn.P Z.dh.P Z.b8.P):=by
 have cu:=Z.bc.cl
 obtain ⟨cy,co,ct,c3,-⟩:=Z.bc.na
 have b0:=zba (CB:=Z.ba.C) (CT:=Z.bb.C) Z
 have a4:=zmj Z
 have bz:=zox Z
 have a2:=zup Z
 have ce:=znn (T0:=Z.bk.P) (T1:=Z.cn.P) Z Z.d0 Z.d1
 have cb:=zjg (T3:=Z.b8.P) Z
 refine Z.dq.fn.ok ze5 (by kd_p) (fun cdv A outer s H vs Q E hr bu=>?_)
 refine bu _ fun w td sd z r hs sil pool TT h bq X tb cv hh hn k=>?_
 subst bq
 have hW:=X.W
 have bv:=X.n12
 have hO:=X.O
 have cp:=hW.z1
 have a6:=hW.r1
 have cr:=hW.r2
 have ac:=X.pq
 obtain ⟨dx,au⟩:=hW.ob
 have cg:∀ g∈hs,(zdo (TT g).ns z.toNat).length<64:=fun g hg=>gz (hO.len hg z.toNat) (by omega)
 have ab:h∈za1 hs:=(zaw _).symm.subset hh
 have ar:(fun x=>decide (x∈zaq hs sil))=awB hs sil:=funext fun x=>znw.symm
 refine ⟨_,(zbq (za2 (i:=2) ze5.nd rfl oL (pfD Z.di a4 hr rfl (zaa (pv 0) zab)))
  (zbq (za2 (i:=3) ze5.nd rfl (Or.inr rfl) (zbi (pv 0) Z.bc.cl Z.b7.me b0 hr.mm Z.b7.b .nil zbw))
  (zbq (zf5 (i:=4) ze5.nd rfl oL rfl (zaz (own:=["_law_name_here"]) (caps:=[1]) (N':=["_law_name_here","_law_house"]) (by kernel_rfl)) (zbb (pfD Z.de bz hr rfl (zaa (pv 0) (zaa (pv 1) zab)))) (fun _ _ _ _ _=>(zas (i:=0) (show (["_law_name_here","_law_house"]:List Str).Nodup by decide +kernel) rfl oL)) (fun _ _ _ _ _=>(zcu (zan zw2 (pv 0) (pv 1) (za5 _)))) (fun _ _ _ _ _=>(pv 0)))
  (zbq (zix (zfm hr) (pv 2) (pv 1) (zct rfl (zaz (own:=["_law_bucket"]) (caps:=[3]) (N':=["_law_bucket","_law_live"]) (by kernel_rfl)) (zbb (zep (zfm hr) (pv 2) (pv 1) (fun _ _=>rfl))) (fun _ _ _ _ _=>(zas (i:=0) (show (["_law_bucket","_law_live"]:List Str).Nodup by decide +kernel) rfl oL)) (fun _ _ _ _ _=>zfx) (fun _ _ _ _ _=>(zct rfl (zaz (own:=["_law_name_here"]) (caps:=[1]) (N':=["_law_name_here","_law_live"]) (by kernel_rfl)) (zyb (K:=K) rfl (pv 0)) (fun _ _ _ _ _=>(zas (i:=0) (show (["_law_name_here","_law_live"]:List Str).Nodup by decide +kernel) rfl oL)) (fun _ _ _ _ _=>(zcu (zan (ze6 (K:=K) rfl) (pv 0) (pv 1) (by with_unfolding_all rfl)))) (fun _ _ _ _ _=>(pv 0))))) rfl)
  (zbq (zca PassesOwn.never rfl (zbb (pv 4)) (zas (i:=5) ze5.nd rfl oL)
   (zae (zap (pfD Z.dj a2 hr rfl (zaa (pv 2) (zaa (pv 1) (zaa (pv 5) (zaa (za9 (pv 0) rfl) (zaa (pv 3) zab)))))))
   (zaf (zap (pfD Z.dj a2 hr rfl (zaa (pv 2) (zaa (pv 5) (zaa (pv 1) (zaa (za9 (pv 0) rfl) (zaa (pv 3) zab))))))))))
  (zbq (za2 (i:=6) ze5.nd rfl oL (pfD Z.dc ce hr rfl (zaa (pv 0) (zaa (pv 1) zab))))
  (zbq (zbn (PW.pt (zse (zd3 (zb_ (za0 zmx rfl Z.ds.n_isinstance zbl (zaa (pv 6) (zaa (zxs rfl Z.ds.n_list zm2) zab))))) (zse (zan (zh5 hr.units) (pv 6) (pv 4) (za5 _)) (zpq (zan (z0n hr.units) (pfD Z.di a4 hr rfl (zaa (pv 0) zab)) (pv 2) (za5 _))))))
   (zaf (zar zfw))
   za6)
  (zaf (zar (zfv cb hr.mm rfl Z.dh.hm Z.dh.kp Z.dh.b .nil zbw (zaa (pv 0) zab))))))))))),?_⟩
 refine zqf fun U hU=>?_
 kt_k
 intro d L B H1 s1 t1 f1
 have W1:=hW.keep (H':=H1) fun q o _ e=>s1 _ _ e
 have bj:=s1 _ _ au
 kt_k
 refine hU _ _ (zqf fun U hU=>?_)
 kt_k
 intro al H2 s2 bl p
 replace p:H2 al=some (.lst ((zaq hs sil).map V.int)):=p
 have af:=s1.trans s2
 have W2:=hW.keep (H':=H2) fun q o _ e=>af _ _ e
 have a7:∀ q,zk7 d (za1 hs) L B z.toNat q->al≠q:=fun q y e=>by
  obtain ⟨o,eo⟩:=t1.ex y
  rw [<- e,bl] at eo
  cases eo
 kt_k
 refine hU _ _ (zqf fun U hU=>?_)
 kt_k
 intro l3 ks H3 s3 cs az bm ao
 have ap:∀ x∈ks,x∈hs:=fun x hx=>by
  cases (ao x).mp hx with
  | own=>exact hh
  | go _ e=>exact (zi5 e.2).1
 have c4:ks.length<=12:=gf (zby bm ap) bv
 kt_k
 intro D3 aw
 refine zbo (z3w h) aw (SqL.of az) (by rw [zbr]; omega) (fun x hx H5 Qt s5 q=>?_) fun H4 s4 u=>?_
 ·kt_k
  exact q H5 (zax.refl H5)
 replace u:H4 D3=some (.lst ((zht h ks).map V.int)):=u
 have ad:=s3.trans s4
 have ai:=af.trans ad
 have t4:=t1.same (s2.trans ad)
 have c:=ad _ _ p
 have aj:H2 D3=none:=s3.free aw
 have a8:H D3=none:=af.free aj
 kt_k
 refine hU _ _ (zqf fun U hU=>?_)
 have bo:zik H4 d (V.int h) (some (V.ref (L h))):=by
  have:=zik.k (k:=Sum.inl h) t4.dd
  rw [zgo,if_pos ab] at this
  exact this
 have bn:=t4.l h ab
 kt_k
 intro Dl t
 refine zd2 (xs:=zj0 z.toNat (B h)) (fun j σ H5=>zer (∃ (v0:Option V) (b:Nat->Addr),σ=[v0,some (.ref al)]/\zax H4 H5/\H5 Dl=some (.lst (zj0 j b))/\∀ k,k<j->b k≠Dl/\H4 (b k)=none/\H5 (b k)=some (.lst ((((TT h).ns k).filter fun n=>decide (n∈zaq hs sil)).map V.int))/\∀ i,i<j->b i=b k->i=k)) ⟨⟨none,fun _=>Dl,rfl,zax.new H4 t,zad,fun k hk=>absurd hk (Nat.not_lt_zero k)⟩⟩ (fun j σ H5 _ ⟨_,_,_,s,_⟩=>SqL.of (s _ _ bn)) ?_ ?_
 ·rintro j y σ H5 hj ⟨v0,b,rfl,s5,e5,hb⟩
  obtain ⟨bt,rfl⟩:=zvb hj
  have eb:=s5 _ _ (t4.b h ab j bt)
  have bg:=s5 _ _ c
  have cz:(((TT h).ns j).length:Int)<=r:=hO.le h hh j
  have cx:=zbz (zaq hs sil)
  have hsz:(zj0 j b).length<sizeLine:=by
   rw [zg5]
   have:=hW.z2
   exact zau (by omega)
  kt_k
  intro m hm
  refine zbo (fun n=>decide (n∈zaq hs sil)) hm (SqL.of eb) (by omega) (fun x hx H8 Qt s8 q=>?_) fun H6 s6 em=>?_
  ·have q2:=q H8 (zax.refl H8)
   have an:=s8 _ _ bg
   kt_k
   rw [zch]
   exact q2
  have e6:=s6 _ _ e5
  have nm:m≠Dl:=(zag e5 hm).symm
  kt_k
  refine ⟨⟨_,zpr b j m,rfl,(s5.trans s6).put t,?_,fun k hk=>?_⟩⟩
  ·rw [zad,zk8]
  ·have be:∀ i,i<j->b i≠m:=fun i hi=>zag (hb i hi).2.2.1 hm
   by_cases e:k=j
   ·subst e
    rw [za_]
    refine ⟨nm,s5.free hm,by rw [zac nm]; exact em,fun i hi=>?_⟩
    by_cases e2:i=k
    ·exact fun _=>e2
    ·rw [zbe e2]
     exact fun y=>absurd y (be i (by omega))
   ·rw [zbe e]
    obtain ⟨b1,b2,b3,b4⟩:=hb k (by omega)
    refine ⟨b1,b2,by rw [zac b1]; exact s6 _ _ b3,fun i hi=>?_⟩
    by_cases e2:i=j
    ·subst e2
     rw [za_]
     exact fun y=>absurd y.symm (be k (by omega))
    ·rw [zbe e2]
     exact b4 i (by omega)
 rintro σ H5 ⟨v0,b,rfl,s5,e5,hb⟩
 rw [zg5] at e5 hb
 have t5:=t4.same s5
 have am:(zi4 (za1 hs) L).length<sizeLine:=by
  unfold zi4
  rw [d9,zbr]
  exact zau (by omega)
 have a9:zpc H5 d (V.int h) (V.ref Dl) (upd H5 d (.dK (zec (zi4 (za1 hs) L) (Sum.inl h) (V.ref Dl)))):=zpc.k (k:=Sum.inl h) t5.dd am
 have t6:=t4.swap s5 e5 (fun k hk=>(hb k hk).2.2.1) (fun k hk=>(hb k hk).2.1) (fun j k hj hk=>(hb k hk).2.2.2 j hj) ab
 have bd:H d=none:=f1 d (.inl rfl)
 have a0:zax H (upd H5 d (.dK (zec (zi4 (za1 hs) L) (Sum.inl h) (V.ref Dl)))):=(ai.trans s5).put bd
 have ax:∀ q xs,H4 q=some (.lst xs)->upd H5 d (.dK (zec (zi4 (za1 hs) L) (Sum.inl h) (V.ref Dl))) q=some (.lst xs):=fun q xs e=>by
  rw [zac (zdv e t4.dd (by intro z; cases z))]
  exact s5 _ _ e
 have bh:=ax _ _ u
 have aq:=ax _ _ c
 have f6:∀ q,zk7 d (za1 hs) (zgc L h Dl) (zgc B h b) z.toNat q->H q=none/\(zk7 d (za1 hs) L B z.toNat q\/H4 q=none):=by
  rintro q (y | ⟨g,hg,y⟩)
  ·exact ⟨y ▸ bd,.inl (.inl y)⟩
  ·by_cases e:g=h
   ·subst e
    rw [zal,zal] at y
    rcases y with y | ⟨k,hk,y⟩
    ·exact ⟨y ▸ ai.free t,.inr (y ▸ t)⟩
    ·exact ⟨y ▸ ai.free (hb k hk).2.1,.inr (y ▸ (hb k hk).2.1)⟩
   ·rw [zay e,zay e] at y
    exact ⟨f1 q (.inr ⟨g,hg,y⟩),.inl (.inr ⟨g,hg,y⟩)⟩
 have f:∀ q,zk7 d (za1 hs) (zgc L h Dl) (zgc B h b) z.toNat q->al≠q:=fun q y e=>by
  rcases (f6 q y).2 with y | y
  ·exact a7 q y e
  ·rw [<- e,c] at y
   cases y
 have ae:∀ q,zk7 d (za1 hs) (zgc L h Dl) (zgc B h b) z.toNat q->D3≠q:=fun q y e=>by
  rcases (f6 q y).2 with y | y
  ·obtain ⟨o,eo⟩:=t1.ex y
   rw [<- e] at eo
   rw [s2 _ _ eo] at aj
   cases aj
  ·rw [<- e,u] at y
   cases y
 rw [show (fun n=>decide (n∈zaq hs sil))=awB hs sil from ar] at t6
 replace t6:zdb _ d (za1 hs) (zgc L h Dl) (zgc B h b) z.toNat (zho (awB hs sil) (fun g=>(TT g).ns) h):=t6
 kt_k
 refine hU _ _ (zqf fun U hU=>?_)
 generalize upd H5 d (.dK (zec (zi4 (za1 hs) L) (Sum.inl h) (V.ref Dl)))=H6 at t6 a0 bh aq
 generalize zgc L h Dl=L' at t6 f6 f ae
 generalize zgc B h b=B' at t6 f6 f ae
 clear t5 a9 am ax e5 hb s5 t bn bo t4 aj a7 t1 f1 u c az ad ai aw af W2 W1 bj p bl s1 s2 s3 s4
 have hv:∀ x∈zht h ks,x∈hs/\x≠h:=fun x hx=>⟨ap x (zic hx).1,(zic hx).2⟩
 have OL:NOk pool z.toNat r hs (zho (awB hs sil) (fun g=>(TT g).ns) h):=hO.lost hh X.pb (ac h hh)
 have OM:∀ i,NOk pool z.toNat r hs (zcm r (awB hs sil) (zho (awB hs sil) (fun g=>(TT g).ns) h) h ((zht h ks).take i)):=fun i=>NOk.meets a6 (ac h hh) (fun x hx=>⟨ac x (hv x (gy hx)).1,(hv x (gy hx)).2⟩) OL
 kt_k
 refine zbs (K:=K) (a:=D3) (xs:=(zht h ks).map V.int) (fun i σ H7=>zer (∃ v5:Option V,σ=[some (.ref w),some (.int h),some (.ref d),some (.ref al),some (.ref D3),v5,none]/\zax H H7/\H7 D3=some (.lst ((zht h ks).map V.int))/\H7 al=some (.lst ((zaq hs sil).map V.int))/\zdb H7 d (za1 hs) L' B' z.toNat (zcm r (awB hs sil) (zho (awB hs sil) (fun g=>(TT g).ns) h) h ((zht h ks).take i)))) ⟨⟨_,rfl,a0,bh,aq,t6⟩⟩ (fun i σ H7 _ ⟨_,_,_,e,_⟩=>SqL.of e) ?_ ?_
 ·rintro i y σ H7 hi ⟨v5,rfl,s7,e7,ak,t7⟩
  obtain ⟨n,a3,rfl⟩:=zb7 hi
  obtain ⟨ah,ag⟩:=hv n (fm a3)
  have ch:=s7 _ _ au
  have aa:=hW.hb h hh
  have v:=hW.hb n ah
  have b9:n∈za1 hs:=(zaw _).symm.subset ah
  have bi:zbh h n<z.toNat:=zdy aa.1 v.1 aa.2 v.2 (Ne.symm ag)
  have a1:zbh n h<z.toNat:=zdy v.1 aa.1 v.2 aa.2 ag
  have O7:=OM i
  generalize bw:zcm r (awB hs sil) (zho (awB hs sil) (fun g=>(TT g).ns) h) h ((zht h ks).take i)=N7 at t7 O7
  have c1:zk7 d (za1 hs) L' B' z.toNat (B' h (zbh h n)):= .inr ⟨h,ab,.inr ⟨_,bi,rfl⟩⟩
  have c2:zk7 d (za1 hs) L' B' z.toNat (B' n (zbh n h)):= .inr ⟨n,b9,.inr ⟨_,a1,rfl⟩⟩
  have ca:=f _ c1
  have cc:=f _ c2
  have c0:(N7 h (zbh h n)).length<=60:=by
   have:=O7.le h hh (zbh h n)
   omega
  have ci:h≠n:=Ne.symm ag
  have h0:=aa.1
  have n0:=v.1
  kt_k
  intro H8 t8 k8 e8
  rw [ar] at t8
  have O8:NOk pool z.toNat r hs (zkq r (awB hs sil) N7 h n):=O7.hear a6 (ac n ah) ag
  have cm:(zkq r (awB hs sil) N7 h n n (zbh n h)).length<=60:=by
   have:=O8.le n ah (zbh n h)
   omega
  have av:=k8 _ _ (ae _ c1) e7
  have an:=k8 _ _ ca ak
  have s8:zax H H8:=fun q o e=>k8 q o (fun y=>by rw [y,(f6 _ c1).1] at e; cases e) (s7 _ _ e)
  have cf:=s8 _ _ au
  kt_k
  intro H9 t9 k9 e9
  rw [ar] at t9
  refine ⟨⟨_,rfl,fun q o e=>k9 q o (fun y=>by rw [y,(f6 _ c2).1] at e; cases e) (s8 _ _ e),k9 _ _ (ae _ c2) av,k9 _ _ cc an,?_⟩⟩
  rw [zgn a3,zgz,bw]
  exact t9
 ·rintro σ H7 ⟨v5,rfl,s7,e7,ak,t7⟩
  rw [d9,gj] at t7
  refine hU _ _ (zqf fun U hU=>?_)
  have X7:=X.same s7
  have br:pool.length<64:=by omega
  kt_k
  intro l8 cj H8 T8 b6 X8 d8 cq cw a5
  obtain ⟨b5,bp,ay,rfl,e8⟩:=b6
  have bf:zht h b5=zht h ks:=by
   unfold zht
   rw [zq9 (ztk bp bm fun x=>by rw [ay,ao,Rch.iff zub])]
  rw [bf] at a5 e8
  have t8:zdb H8 d (za1 hs) L' B' z.toNat (fun g=>(T8 g).ns):=by
   rw [e8]
   exact t7.keep fun q o ho e y=>d8.k q o ho e (hW.notOwn (f6 q y).1)
  have av:H8 D3=some (.lst ((zht h ks).map V.int)):=d8.k _ _ (fun _ z=>nomatch z) e7 (hW.notOwn a8)
  have W8:=X8.W
  kt_k
  refine hU _ _ (zqf fun U hU=>?_)
  generalize zht h ks=vs8 at a5 av
  kt_k
  change if (!decide (vs8=vs8))=true then _ else _
  refine zls rfl ?_
  kt_k
  intro c9 L9 B9 H9 s9 t9 _
  refine ⟨_,rfl,zvz t9 (t8.same s9) ?_⟩
  kt_k
  refine hU _ _ ?_
  have X9:=X8.same s9
  have kd:Kd Z.bk.P Z.cn.P Z.b8.P H7 H8 (Own td sd z.toNat hs TT) (Own td sd z.toNat hs T8):=Kd.deed d8
  have ck:Tab H9 Z.dh.P zyy quW:=(s9.but _).2 _ _ (kd.tab X7.W Z.d3.symm Z.d4.symm Z.d5 ((s7.but _).2 _ _ tb))
  kt_k
  intro Ha ka
  obtain ⟨Xa,cd⟩:=X9.k3 ka Z.d0.symm Z.d1.symm Z.d5.symm
  exact k Ha T8 Xa ka.t2 (((Kp.same s7).trans ⟨d8.k,d8.o,d8.e⟩).trans ((Kp.same s9).trans cd))
theorem us5 {R:List Value->Prop}(h:∀ a b c d e,R [a,b,c,d,e]):∀ us:List Value,us.length=5->R us:=usS fun a=>us4 (h a)
def zr6 (K:W.Frag)(tabs:List (Addr × Addr)):Sp:=fun vs H Q _=>∃ (a:Addr) (ns:List Int),vs=[.ref a]/\SqL K H a (ns.map V.int)/\ns.length<=63/\(∀ q∈tabs,H q.2=some (.tbl #[]))/\∀ H',Q (.bl true) H'
theorem Std.new {CB CT CW T0 T1 T3 w td sd:Addr}{H:Hp}{z r:Int}{T U:Int->zbv}(W:zam CB CT CW H w td sd z r [] [] T)(t0:Tab H T0 (za7 zd_) quL)(t1:Tab H T1 (za7 zjz) quT)(t3:Tab H T3 (za7 zea) quH):Std CB CT CW T0 T1 T3 H w td sd z r [] [] [] U :=
 ⟨⟨W.ob,W.tb,W.si,fun h hh=>(nomatch hh),W.nd,W.hb,W.z1,W.z2,W.r1,W.r2,W.ln,W.ts⟩,⟨fun h hh=>(nomatch hh),fun h hh=>(nomatch hh),fun h hh=>(nomatch hh)⟩,⟨fun h hh=>(nomatch hh),fun h hh=>(nomatch hh),fun h hh=>(nomatch hh)⟩,fun x hx=>hx,fun x hx=>(nomatch hx),fun x hx=>(nomatch hx),je,by decide,t0,t1,t3⟩
theorem zzr (ss:List Int):(znu (ss.map V.int) (some 2) (some 26)).length<=24:=by
 unfold znu
 have e1:=HT.sIx_nat (ss.map V.int).length 0 2
 have e2:=HT.sIx_nat (ss.map V.int).length (ss.map V.int).length 26
 rw [show ((2:Nat):Int)=2 from rfl] at e1
 rw [show ((26:Nat):Int)=26 from rfl] at e2
 rw [e1,e2,gh]
 omega
theorem zg0:zaj ["_law_script","_law_wide","_law_room","_law_plain","_law_town","_law_base","_law_cells","_law_k","_law_cell","_law_x","_law_live"] ["_law_script"] (zah (top 57)):=fS
theorem z35 (Z:ZZ P w K mg base)(MK0:zqa K Z.dk.C Z.bu.C Z.bu.C Z.bz.C Z.bw.C Z.b5.C Z.cc.C Z.dm.C Z.dl.C 0)(MK1:zqa K Z.dk.C Z.bz.C Z.bu.C Z.bz.C Z.bw.C Z.b5.C Z.cc.C Z.dm.C Z.dl.C 1){tabs:List (Addr × Addr)}(ht0:(Z.bk.c,Z.bk.P)∈tabs)(ht1:(Z.cn.c,Z.cn.P)∈tabs)(ht3:(Z.b8.c,Z.b8.P)∈tabs)(ht2:(Z.dh.c,Z.dh.P)∈tabs):zgb Z 15 Z.dr (zr6 K tabs):=by
 have c5:=Z.bc.cl
 have cm:=zpk (CB:=Z.ba.C) (CT:=Z.bb.C) Z
 have bo:=zli Z
 have aq:=zx7 Z
 have b2:=zv9 Z
 have bp:=zx0 Z
 have cj:=zba (CB:=Z.ba.C) (CT:=Z.bb.C) Z
 have cq:=zjg (T3:=Z.b8.P) Z
 have bv:=zvs Z
 have cf:=zpz Z MK0 MK1
 refine Z.dr.fn.ok zg0 (by kd_p) (fun cdv A outer s H vs Q E hr h=>?_)
 obtain ⟨a,ss,rfl,hS,cy,hT,k⟩:=h
 refine ⟨_,(zbq (z2a (pfD Z.c7 b2 hr rfl (zaa (pv 0) zab)) (zo_ (n:=3) rfl (zb1 (zas (i:=1) zg0.nd rfl oL) (zb1 (zas (i:=2) zg0.nd rfl oL) (zb1 (zas (i:=3) zg0.nd rfl oL) zi0)))))
  (zbq (za2 (i:=4) zg0.nd rfl oL (zpy (DfM.mk' Z.bc Z.b6) cm hr.mm rfl Z.bc.hm Z.b6.b .nil zbw (zaa (pv 1) (zaa (pv 2) zab))))
  (zbq (za2 (i:=5) zg0.nd rfl oL (za8 zb9 (pfD Z.c6 aq hr rfl (zaa (pfD Z.c4 bo hr rfl (zaa (pv 0) (zaa zak zab))) (zaa zak (zaa (pv 3) zab)))) (za8 zi9 zak (pv 1))))
  (zbq (za2 (i:=6) zg0.nd rfl oL (za8 zn5 (zei zgl (pv 0) (zfn zak) (zfn zak)) (zb0 (zaa zak zab))))
  (zae (zca PassesOwn.never rfl (zz6 rfl Z.ds.n_enumerate (zaa (pv 6) zab)) (zo_ (n:=2) rfl (zb1 (zas (i:=7) zg0.nd rfl oL) (zb1 (zas (i:=8) zg0.nd rfl oL) zi0)))
   (zae (za2 (i:=9) zg0.nd rfl oL (pfD Z.c6 aq hr rfl (zaa (pv 8) (zaa (za8 zg2 zak (pv 7)) (zaa (pv 3) zab)))))
   (zae (zap (pfD Z.dg bp hr rfl (zaa (pv 4) (zaa (pv 9) (zaa (pv 5) (zaa zak zab))))))
   (zae (zbn (zd3 (zb_ (zfv cq hr.mm rfl Z.dh.hm Z.dh.kp Z.dh.b .nil zbw (zaa (pv 4) zab))))
    (zaf (zar zfw))
    za6)
   (zae (za2 (i:=10) zg0.nd rfl oL (zbi (pv 4) Z.bc.cl Z.b7.me cj hr.mm Z.b7.b .nil zbw))
   (zaf (zbn (PW.pt (zgx (PW.pt (zse (zan zhu (za8 zb9 (pv 7) zak) zak (za5 _)) (zpq (zan zhu (pv 7) (za8 zrt (za0 za3 rfl Z.ds.n_len zc1 (zaa (pv 6) zab)) zak) (za5 _))))) (zfz (zan (zh5 hr.units) (pv 10) (zb0 zab) (za5 _)))))
    (zaf (zbn (PW.pt (zse (zd3 (zb_ (pfD Z.dq bv hr rfl (zaa (pv 4) (zaa (zfg zcg (pv 10) (za8 zb9 (za8 zcz (pv 9) zak) (za0 za3 rfl Z.ds.n_len zc1 (zaa (pv 10) zab))) (fun _ _=>rfl)) zab))))) (zpq (zd3 (zb_ (pfD Z.dp cf hr rfl (zaa (pv 4) (zaa (za8 zcz (pv 9) zak) zab))))))))
     (zaf (zar zfw))
     za6))
    za6)))))))
  (zaf (zar zfw))))))),?_⟩
 have a3:Tab H Z.bk.P (za7 zd_) quL:=Tab.new (hT _ ht0)
 have bj:Tab H Z.cn.P (za7 zjz) quT:=Tab.new (hT _ ht1)
 have ap:Tab H Z.dh.P zyy quW:=Tab.new (hT _ ht2)
 have a0:Tab H Z.b8.P (za7 zea) quH:=Tab.new (hT _ ht3)
 refine zqf fun U hU=>?_
 kt_k
 intro tp z r pb H1 bq ce c9 c2 s1 bt
 obtain ⟨q1,q2⟩:=zwz bq ce
 kt_k
 refine hU _ _ (zqf fun U hU=>?_)
 kt_k
 intro w dx hw a9 ci
 kt_k
 intro td sd H2 TT W2 cp ch cb av
 have ao:zax H1 H2:=fun q o e=>av q o (by rw [zac (zag e hw),zac (zag e a9)]; exact e) (zag e hw)
 have j:=s1.trans ao
 have X2:Std Z.ba.C Z.bb.C Z.bc.C Z.bk.P Z.cn.P Z.b8.P H2 w td sd z r [] [] [] TT:=Std.new W2 ((j.but _).2 _ _ a3) ((j.but _).2 _ _ bj) ((j.but _).2 _ _ a0)
 have ay:=(j.but _).2 _ _ ap
 have ck:=j.seq hS
 clear ci cb cp ch av hw a9 ao s1 bt a3 bj ap a0 W2
 kt_k
 refine hU _ _ (zqf fun U hU=>?_)
 kt_k
 intro c
 kt_k
 intro m
 kt_k
 refine hU _ _ (zqf fun U hU=>?_)
 obtain ⟨ts,a1,c1,_⟩:=zqv ss (some 2) (some 26)
 have cr:ts.length<=24:=by
  have e:=congrArg km a1
  rw [d9] at e
  rw [<- e]
  exact zzr ss
 kt_k
 rw [a1]
 intro p4 az
 generalize bf:upd H2 p4 _=H4
 obtain ⟨s4,e4⟩:=nw az bf
 clear bf
 kt_k
 intro p5 a4
 generalize bg:upd H4 p5 _=H5
 obtain ⟨s5,e5⟩:=nw a4 bg
 have b0:=s5 _ _ e4
 clear bg
 have cz:(ts.map V.int).length+[V.int 7].length<=sizeLine:=by
  rw [d9]
  exact ia (zau (show ts.length+1<=1000 by omega))
 kt_k
 intro L hL
 generalize ae:upd H5 L _=H6
 have s6:zax H5 H6:=by rw [<- ae]; exact zax.new H5 hL
 have bh:H6 L=some (.lst ((ts++[7]).map V.int)):=by rw [<- ae,zad,gm]; rfl
 clear ae
 have af:=(s4.trans s5).trans s6
 have X6:=X2.same af
 have cd:=(af.but _).2 _ _ ay
 have nL:¬ Own td sd z.toNat [] TT L:=X2.W.notOwn ((s4.trans s5).free hL)
 have ca:(ts++[7]).length<=25:=by
  rw [fe,fu]
  omega
 generalize ts++[7]=cs at bh ca
 clear s4 s5 s6 af X2 ck j e4 e5 b0 az a4 hL hS ay
 kt_k
 refine hU _ _ ?_
 kt_k
 refine zxm (K:=K) (a:=L) (xs:=cs.map V.int) (fun i σ H7=>zer (∃ (v7 v8 v9 ag:Option V) (hs sil pool:List Int) (T7:Int->zbv),σ=[some (.ref a),some (.int z),some (.int r),some (.bl pb),some (.ref w),some (.int (m % (1 * 2 ^ z.toNat))),some (.ref L),v7,v8,v9,ag]/\Std Z.ba.C Z.bb.C Z.bc.C Z.bk.P Z.cn.P Z.b8.P H7 w td sd z r hs sil pool T7/\Tab H7 Z.dh.P zyy quW/\H7 L=some (.lst (cs.map V.int))/\¬ Own td sd z.toNat hs T7 L/\pool.length<=i)) ⟨⟨_,_,_,_,[],[],[],TT,rfl,X6,cd,bh,nL,gd 0⟩⟩ (fun i σ H7 _ ⟨_,_,_,_,_,_,_,_,_,_,_,e,_⟩=>SqL.of e) ?_ ?_
 ·rintro i y σ p tt hi ⟨v7,v8,v9,ag,hs,sil,pool,T7,rfl,an,ac,ad,ah,ab⟩ bm
  obtain ⟨cell,co,rfl⟩:=zsp hi
  have cw:i<25:=by
   obtain ⟨h1,_⟩:=List.getElem?_eq_some_iff.mp hi
   rw [d9] at h1
   omega
  have s7:zax p (upd p tt (.tup [.int i,.int cell])):=zax.new p bm
  have bd:upd p tt (.tup [.int i,.int cell]) tt=some (.tup [.int i,.int cell]):=zad
  have X7:=an.same s7
  have u:=(s7.but _).2 _ _ ac
  have v:=s7 _ _ ad
  generalize upd p tt (.tup [.int i,.int cell])=H7 at s7 bd X7 v u |-
  clear an ac ad s7
  have cv:pool.length<60:=by omega
  kt_k
  intro x
  kt_k
  intro H8 g f d T8 X8 l a7
  have b1:=l.tab X7.W Z.d3.symm Z.d4.symm Z.d5 u
  have be:Kp H7 H8 (Own td sd z.toNat hs T7) (Own td sd z.toNat g T8):=⟨l.k,l.o,l.e⟩
  obtain ⟨a5,au⟩:=be.stay (o:= .lst (cs.map V.int)) (fun _ z=>nomatch z) v ah
  have ak:d.length<=i+1:=by omega
  have da:d.length<=60:=by omega
  clear X7 u v ah l be a7 ab
  kt_k
  intro H9 k9
  obtain ⟨X9,ar⟩:=X8.k3 k9 Z.d0.symm Z.d1.symm Z.d5.symm
  have am:=k9.t2
  obtain ⟨bi,ai⟩:=(ar (O:=Own td sd z.toNat g T8)).stay (o:= .lst (cs.map V.int)) (fun _ z=>nomatch z) a5 au
  clear X8 b1 a5 au ar k9
  have W9:=X9.W
  obtain ⟨c3,a2⟩:=W9.ob
  kt_k
  intro al Ha sa ct t
  replace t:Ha al=some (.lst ((zaq g f).map V.int)):=t
  have Xa:=X9.same sa
  have aw:=(sa.but _).2 _ _ am
  have a8:=sa _ _ bi
  clear X9 am bi W9 a2 sa ct
  kt_k
  refine z5o ?_ (fun hA _=>?_)
  ·kt_k
   intro e0 br
   generalize a6:upd Ha e0 _=Hb
   obtain ⟨sb,eb⟩:=nw br a6
   replace eb:Hb e0=some (.lst (([]:List Int).map V.int)):=eb
   clear a6
   have Xb:=Xa.same sb
   have cg:=(sb.but _).2 _ _ aw
   have ax:=sb _ _ a8
   have cx:=sb _ _ t
   kt_k
   by_cases aa:zaq g f=[]
   ·refine zls aa ?_
    kt_k
    exact ⟨⟨_,_,_,_,g,f,d,T8,rfl,Xb,cg,ax,ai,ak⟩⟩
   ·refine zqk aa ?_
    obtain ⟨h,hh,c8⟩:=zc8 (c:=x / 10) aa
    have c0:=zdt aa
    obtain ⟨dc,db⟩:=zbf.mp hh
    kt_k
    intro Hc Tc Xc b3 bn
    obtain ⟨b9,b4⟩:=bn.stay (o:= .lst (cs.map V.int)) (fun _ z=>nomatch z) ax ai
    have Wc:=Xc.W
    have cu:=Xc.n12
    kt_k
    intro Hd aj
    kt_k
    exact ⟨⟨_,_,_,_,g,f,d,Tc,rfl,Xc.same aj,(aj.but _).2 _ _ b3,aj _ _ b9,b4,ak⟩⟩
  ·kt_k
   refine zwn (fun _=>hA) (fun _=>?_)
   kt_k
   exact ⟨⟨_,_,_,_,g,f,d,T8,rfl,Xa,aw,a8,ai,ak⟩⟩
 ·rintro σ H7 ⟨v7,v8,v9,ag,hs,sil,pool,T7,rfl,X7,u,v,ah,ab⟩
  kt_k
  exact k H7
end
open PySem.W in
theorem all_mk {l:OpenLaw}{w:World}{K:Frag}{h:Heap}{mg:Str->Option Value}{ts:List Addr}{fa C0 f0 f1 f2 f3 f4 C1 f5 f6 f7 T8 f8 f9 f10 f11 C2 f12 f13 f14 f15 f16 f17 f18 f19 f20 f21 f22 T23 f23 f24 f25 f26 f27 f28 f29 f30 c30 P30 f31 f32 f33 f34 f35 f36 f37 c37 P37 E0 E1 E2 E3 E4 E5 E6 E7 f38 c38 P38 f39 c39 P39 f40 f41 f42 f43 f44 f45 f46 f47 f48 f49 f50 f51 f52 f53 f54 f55 f56 f57 f58 f59 f60 f61 f62 f63 f64 f65 f66 f67 f68 f69 f70 f71 f72 f73 f74 f75:Addr}(X:K.In h)(G:h.Ns mainGlobals mg)(hfa:mg "law" = some (.ref fa))
  {td8 od8 an8 td23 od23 an23 od30 an30 qb30 od37 an37 qb37 od38 an38 qb38 od39 an39 qb39 od75 an75:Option Addr}{ts8 sl8 ts23 sl23 sl30 qs30 sl37 qs37 sl38 qs38 sl39 qs39 sl75:Array (Option Value)}{to8 oc8 kV8 dc8 pm8 ct8 cd8 to23 oc23 kV23 dc23 pm23 ct23 cd23 oc30 kV30 dc30 pm30 ct30 qa30 oc37 kV37 dc37 pm37 ct37 qa37 oc38 kV38 dc38 pm38 ct38 qa38 oc39 kV39 dc39 pm39 ct39 qa39 oc75 kV75 dc75 pm75 ct75 cd75:Value}{qv30 qv37 qv38 qv39:Array Value}{tn8 tn23:Nat}{g0 g1 g2 g3 g4 g5 g6 g7 g9 g10 g11 g12 g13 g14 g15 g16 g17 g18 g19 g20 g21 g22 g24 g25 g26 g27 g28 g29 g31 g32 g33 g34 g35 g36 g40 g41 g42 g43 g44 g45 g46 g47 g48 g49 g50 g51 g52 g53 g54 g55 g56 g57 g58 g59 g60 g61 g62 g63 g64 g65 g66 g67 g68 g69 g70 g71 g72 g73 g74:FuncData}
  (aC0:nsIn K mainGlobals "Bucket" = some (some (.ref C0)))(pg0:plainGet K C0 Str.empty=true)(hd0:hasDictIn K C0=true)(po0:plainOver K C0=true)(sa0:findIn K (.ref C0) "__setattr__" = some (some (.builtin "object.__setattr__")))(mk0:makesIn K C0=true)(kc0:keepIn K (.ref C0)=true)
  (na0_0:findIn K (.ref C0) "room" = some none)
  (na0_1:findIn K (.ref C0) "order" = some none)
  (a0:findIn K (.ref C0) "__init__" = some (some (.ref f0)))
  (i0:isFn K (.ref f0)=true)
  (F0:Fun K "__init__" "Bucket.__init__" (zai (top 34) 0) f0 g0)
  (a1:findIn K (.ref C0) "names" = some (some (.ref f1)))
  (i1:isFn K (.ref f1)=true)
  (F1:Fun K "names" "Bucket.names" (zai (top 34) 4) f1 g1)
  (a2:findIn K (.ref C0) "hears_when_full" = some (some (.ref f2)))
  (i2:isFn K (.ref f2)=true)
  (F2:Fun K "hears_when_full" "Bucket.hears_when_full" (zai (top 34) 2) f2 g2)
  (a3:findIn K (.ref C0) "hears" = some (some (.ref f3)))
  (i3:isFn K (.ref f3)=true)
  (F3:Fun K "hears" "Bucket.hears" (zai (top 34) 1) f3 g3)
  (a4:findIn K (.ref C0) "drops" = some (some (.ref f4)))
  (i4:isFn K (.ref f4)=true)
  (F4:Fun K "drops" "Bucket.drops" (zai (top 34) 3) f4 g4)
  (aC1:nsIn K mainGlobals "Table" = some (some (.ref C1)))(pg1:plainGet K C1 Str.empty=true)(hd1:hasDictIn K C1=true)(po1:plainOver K C1=true)(sa1:findIn K (.ref C1) "__setattr__" = some (some (.builtin "object.__setattr__")))(mk1:makesIn K C1=true)(kc1:keepIn K (.ref C1)=true)
  (na1_0:findIn K (.ref C1) "own" = some none)
  (na1_1:findIn K (.ref C1) "wide" = some none)
  (na1_2:findIn K (.ref C1) "room" = some none)
  (na1_3:findIn K (.ref C1) "buckets" = some none)
  (a5:findIn K (.ref C1) "__init__" = some (some (.ref f5)))
  (i5:isFn K (.ref f5)=true)
  (F5:Fun K "__init__" "Table.__init__" (zai (top 36) 0) f5 g5)
  (a6:findIn K (.ref C1) "bucket" = some (some (.ref f6)))
  (i6:isFn K (.ref f6)=true)
  (F6:Fun K "bucket" "Table.bucket" (zai (top 36) 4) f6 g6)
  (a7:findIn K (.ref C1) "keeps" = some (some (.ref f7)))
  (i7:isFn K (.ref f7)=true)
  (F7:Fun K "keeps" "Table.keeps" (zai (top 36) 5) f7 g7)
  (a8:findIn K (.ref C1) "nearest" = some (some (.ref f8)))
  (i8:isFn K (.ref f8)=true)
  (l8:K.lookup f8=some ⟨oc8,od8,.func (fnOf "nearest" "Table.nearest" (zb5 (zai (top 36) 6)) (zbk (zai (top 36) 6)) (zah (zai (top 36) 6)) (.ref T8) kV8 dc8 pm8 an8 cd8 ct8),sl8⟩)
  (ld8:K.lookup T8=some ⟨to8,td8,.seq #[Value.none] tn8,ts8⟩)
  (e8:codeIn K cd8 "Table.nearest" = true)(k8:keepIn K (.ref f8)=true)
  (a9:findIn K (.ref C1) "bucket_of" = some (some (.ref f9)))
  (i9:isFn K (.ref f9)=true)
  (F9:Fun K "bucket_of" "Table.bucket_of" (zai (top 36) 3) f9 g9)
  (a10:findIn K (.ref C1) "hears" = some (some (.ref f10)))
  (i10:isFn K (.ref f10)=true)
  (F10:Fun K "hears" "Table.hears" (zai (top 36) 1) f10 g10)
  (a11:findIn K (.ref C1) "drops" = some (some (.ref f11)))
  (i11:isFn K (.ref f11)=true)
  (F11:Fun K "drops" "Table.drops" (zai (top 36) 2) f11 g11)
  (aC2:nsIn K mainGlobals "Town" = some (some (.ref C2)))(pg2:plainGet K C2 Str.empty=true)(hd2:hasDictIn K C2=true)(po2:plainOver K C2=true)(sa2:findIn K (.ref C2) "__setattr__" = some (some (.builtin "object.__setattr__")))(mk2:makesIn K C2=true)(kc2:keepIn K (.ref C2)=true)
  (na2_0:findIn K (.ref C2) "wide" = some none)
  (na2_1:findIn K (.ref C2) "room" = some none)
  (na2_2:findIn K (.ref C2) "tables" = some none)
  (na2_3:findIn K (.ref C2) "silent" = some none)
  (a12:findIn K (.ref C2) "__init__" = some (some (.ref f12)))
  (i12:isFn K (.ref f12)=true)
  (F12:Fun K "__init__" "Town.__init__" (zai (top 39) 0) f12 g12)
  (a13:findIn K (.ref C2) "houses" = some (some (.ref f13)))
  (i13:isFn K (.ref f13)=true)
  (F13:Fun K "houses" "Town.houses" (zai (top 39) 1) f13 g13)
  (a14:findIn K (.ref C2) "answering" = some (some (.ref f14)))
  (i14:isFn K (.ref f14)=true)
  (F14:Fun K "answering" "Town.answering" (zai (top 39) 2) f14 g14)
  (a15:findIn K (.ref C2) "answers" = some (some (.ref f15)))
  (i15:isFn K (.ref f15)=true)
  (F15:Fun K "answers" "Town.answers" (zai (top 39) 3) f15 g15)
  (a16:findIn K (.ref C2) "is_house" = some (some (.ref f16)))
  (i16:isFn K (.ref f16)=true)
  (F16:Fun K "is_house" "Town.is_house" (zai (top 39) 4) f16 g16)
  (a17:findIn K (.ref C2) "bucket" = some (some (.ref f17)))
  (i17:isFn K (.ref f17)=true)
  (F17:Fun K "bucket" "Town.bucket" (zai (top 39) 5) f17 g17)
  (a18:findIn K (.ref C2) "keeps" = some (some (.ref f18)))
  (i18:isFn K (.ref f18)=true)
  (F18:Fun K "keeps" "Town.keeps" (zai (top 39) 6) f18 g18)
  (a19:findIn K (.ref C2) "tells" = some (some (.ref f19)))
  (i19:isFn K (.ref f19)=true)
  (F19:Fun K "tells" "Town.tells" (zai (top 39) 7) f19 g19)
  (a20:findIn K (.ref C2) "come_to" = some (some (.ref f20)))
  (i20:isFn K (.ref f20)=true)
  (F20:Fun K "come_to" "Town.come_to" (zai (top 39) 8) f20 g20)
  (a21:findIn K (.ref C2) "ask" = some (some (.ref f21)))
  (i21:isFn K (.ref f21)=true)
  (F21:Fun K "ask" "Town.ask" (zai (top 39) 9) f21 g21)
  (a22:findIn K (.ref C2) "way" = some (some (.ref f22)))
  (i22:isFn K (.ref f22)=true)
  (F22:Fun K "way" "Town.way" (zai (top 39) 10) f22 g22)
  (a23:findIn K (.ref C2) "come" = some (some (.ref f23)))
  (i23:isFn K (.ref f23)=true)
  (l23:K.lookup f23=some ⟨oc23,od23,.func (fnOf "come" "Town.come" (zb5 (zai (top 39) 11)) (zbk (zai (top 39) 11)) (zah (zai (top 39) 11)) (.ref T23) kV23 dc23 pm23 an23 cd23 ct23),sl23⟩)
  (ld23:K.lookup T23=some ⟨to23,td23,.seq #[Value.none] tn23,ts23⟩)
  (e23:codeIn K cd23 "Town.come" = true)(k23:keepIn K (.ref f23)=true)
  (a24:findIn K (.ref C2) "go" = some (some (.ref f24)))
  (i24:isFn K (.ref f24)=true)
  (F24:Fun K "go" "Town.go" (zai (top 39) 12) f24 g24)
  (a25:findIn K (.ref C2) "hush" = some (some (.ref f25)))
  (i25:isFn K (.ref f25)=true)
  (F25:Fun K "hush" "Town.hush" (zai (top 39) 13) f25 g25)
  (a26:findIn K (.ref C2) "wake" = some (some (.ref f26)))
  (i26:isFn K (.ref f26)=true)
  (F26:Fun K "wake" "Town.wake" (zai (top 39) 14) f26 g26)
  (a27:findIn K (.ref C2) "check_name" = some (some (.ref f27)))
  (i27:isFn K (.ref f27)=true)
  (F27:Fun K "check_name" "Town.check_name" (zai (top 39) 15) f27 g27)
  (a28:findIn K (.ref C2) "check_house" = some (some (.ref f28)))
  (i28:isFn K (.ref f28)=true)
  (F28:Fun K "check_house" "Town.check_house" (zai (top 39) 16) f28 g28)
  (a29:findIn K (.ref C2) "check_answering" = some (some (.ref f29)))
  (i29:isFn K (.ref f29)=true)
  (F29:Fun K "check_answering" "Town.check_answering" (zai (top 39) 17) f29 g29)
  (a30:findIn K (.ref C2) "teller" = some (some (.ref f30)))
  (i30:isFn K (.ref f30)=true)
  (l30:K.lookup f30=some ⟨oc30,od30,.func (fnOf "teller" "Town.teller" (zb5 (zai (top 39) 18)) (zbk (zai (top 39) 18)) (zah (zai (top 39) 18)) .none kV30 dc30 pm30 an30 (.ref c30) ct30),sl30⟩)
  (e30:codeIn K (.ref c30) "Town.teller" = true)(k30:keepIn K (.ref f30)=true)
  (t30:K.lookup c30=some ⟨qa30,qb30,.fields qv30,qs30⟩)(r30:(qv30[11]? : Option Value)=some (.ref P30))
  (h30:codeHdIn K c30 P30=true)(n30:K.lookup P30=none)(m30:P30∈ts)
  (a31:findIn K (.ref C2) "settles" = some (some (.ref f31)))
  (i31:isFn K (.ref f31)=true)
  (F31:Fun K "settles" "Town.settles" (zai (top 39) 19) f31 g31)
  (a32:findIn K (.ref C2) "leaves" = some (some (.ref f32)))
  (i32:isFn K (.ref f32)=true)
  (F32:Fun K "leaves" "Town.leaves" (zai (top 39) 20) f32 g32)
  (a33:findIn K (.ref C2) "learns" = some (some (.ref f33)))
  (i33:isFn K (.ref f33)=true)
  (F33:Fun K "learns" "Town.learns" (zai (top 39) 21) f33 g33)
  (a34:findIn K (.ref C2) "drops_lost" = some (some (.ref f34)))
  (i34:isFn K (.ref f34)=true)
  (F34:Fun K "drops_lost" "Town.drops_lost" (zai (top 39) 22) f34 g34)
  (a35:findIn K (.ref C2) "visits" = some (some (.ref f35)))
  (i35:isFn K (.ref f35)=true)
  (F35:Fun K "visits" "Town.visits" (zai (top 39) 23) f35 g35)
  (a36:findIn K (.ref C2) "meet" = some (some (.ref f36)))
  (i36:isFn K (.ref f36)=true)
  (F36:Fun K "meet" "Town.meet" (zai (top 39) 24) f36 g36)
  (a37:findIn K (.ref C2) "hears_of" = some (some (.ref f37)))
  (i37:isFn K (.ref f37)=true)
  (l37:K.lookup f37=some ⟨oc37,od37,.func (fnOf "hears_of" "Town.hears_of" (zb5 (zai (top 39) 25)) (zbk (zai (top 39) 25)) (zah (zai (top 39) 25)) .none kV37 dc37 pm37 an37 (.ref c37) ct37),sl37⟩)
  (e37:codeIn K (.ref c37) "Town.hears_of" = true)(k37:keepIn K (.ref f37)=true)
  (t37:K.lookup c37=some ⟨qa37,qb37,.fields qv37,qs37⟩)(r37:(qv37[11]? : Option Value)=some (.ref P37))
  (h37:codeHdIn K c37 P37=true)(n37:K.lookup P37=none)(m37:P37∈ts)
  (aE0:nsIn K mainGlobals "NearError" = some (some (.ref E0)))(xE0:excIn K E0 bmV "ValueError.__new__" = true)
  (aE1:nsIn K mainGlobals "NoSize" = some (some (.ref E1)))(xE1:excIn K E1 bmV "ValueError.__new__" = true)
  (aE2:nsIn K mainGlobals "NoName" = some (some (.ref E2)))(xE2:excIn K E2 bmV "ValueError.__new__" = true)
  (aE3:nsIn K mainGlobals "NoHouse" = some (some (.ref E3)))(xE3:excIn K E3 bmV "ValueError.__new__" = true)
  (aE4:nsIn K mainGlobals "Silent" = some (some (.ref E4)))(xE4:excIn K E4 bmV "ValueError.__new__" = true)
  (aE5:nsIn K mainGlobals "Taken" = some (some (.ref E5)))(xE5:excIn K E5 bmV "ValueError.__new__" = true)
  (aE6:nsIn K mainGlobals "NoTown" = some (some (.ref E6)))(xE6:excIn K E6 bmV "ValueError.__new__" = true)
  (aE7:nsIn K mainGlobals "NoLine" = some (some (.ref E7)))(xE7:excIn K E7 bmV "ValueError.__new__" = true)
  (fg5_:specialIn K (.builtin "object.__class__") "__get__" = some (some (.builtin "getset_descriptor.__get__")))
  (fg6_:takesIn K (.builtin "object.__class__")=some true)
  (fa_g1:findIn K (.ref E3) "__getattribute__" = some (some (.builtin "BaseException.__getattribute__")))
  (fa_g2:findIn K (.ref E3) "__getattr__" = some none)
  (fa_g3:hasDictIn K E3=true)
  (fa_g4:findIn K (.ref E3) "__class__" = some (some (.builtin "object.__class__")))
  (fa_g7:mroIn K E3 (.type "object")=some true)
  (fa_g8:mroIn K E3 (.type "BaseException")=some true)
  (fa_mr:zoe K E3 E0=true)
  (fa_m0:kitOne K (.ref E3) (.ref E3)=some true)
  (fa_m1:kitOne K (.ref E3) (.ref E4)=some false)
  (fa_m2:kitOne K (.ref E3) (.ref E2)=some false)
  (fa_m3:kitOne K (.ref E3) (.ref E1)=some false)
  (fa_m4:kitOne K (.ref E3) (.ref E5)=some false)
  (fa_m5:kitOne K (.ref E3) (.ref E6)=some false)
  (fa_m6:kitOne K (.ref E3) (.ref E7)=some false)
  (fa_mv:kitOne K (.ref E3) (.type "ValueError")=some true)
  (fb_g1:findIn K (.ref E4) "__getattribute__" = some (some (.builtin "BaseException.__getattribute__")))
  (fb_g2:findIn K (.ref E4) "__getattr__" = some none)
  (fb_g3:hasDictIn K E4=true)
  (fb_g4:findIn K (.ref E4) "__class__" = some (some (.builtin "object.__class__")))
  (fb_g7:mroIn K E4 (.type "object")=some true)
  (fb_g8:mroIn K E4 (.type "BaseException")=some true)
  (fb_mr:zoe K E4 E0=true)
  (fb_m0:kitOne K (.ref E4) (.ref E3)=some false)
  (fb_m1:kitOne K (.ref E4) (.ref E4)=some true)
  (fb_m2:kitOne K (.ref E4) (.ref E2)=some false)
  (fb_m3:kitOne K (.ref E4) (.ref E1)=some false)
  (fb_m4:kitOne K (.ref E4) (.ref E5)=some false)
  (fb_m5:kitOne K (.ref E4) (.ref E6)=some false)
  (fb_m6:kitOne K (.ref E4) (.ref E7)=some false)
  (fb_mv:kitOne K (.ref E4) (.type "ValueError")=some true)
  (a38:nsIn K mainGlobals "by_nearness" = some (some (.ref f38)))
  (l38:K.lookup f38=some ⟨oc38,od38,.func (fnOf "by_nearness" "by_nearness" (zb5 (top 14)) (zbk (top 14)) (zah (top 14)) .none kV38 dc38 pm38 an38 (.ref c38) ct38),sl38⟩)
  (e38:codeIn K (.ref c38) "by_nearness" = true)(k38:keepIn K (.ref f38)=true)
  (t38:K.lookup c38=some ⟨qa38,qb38,.fields qv38,qs38⟩)(r38:(qv38[11]? : Option Value)=some (.ref P38))
  (h38:codeHdIn K c38 P38=true)(n38:K.lookup P38=none)(m38:P38∈ts)
  (a39:nsIn K mainGlobals "_law_as_it_is" = some (some (.ref f39)))
  (l39:K.lookup f39=some ⟨oc39,od39,.func (fnOf "_law_as_it_is" "_law_as_it_is" (zb5 (top 51)) (zbk (top 51)) (zah (top 51)) .none kV39 dc39 pm39 an39 (.ref c39) ct39),sl39⟩)
  (e39:codeIn K (.ref c39) "_law_as_it_is" = true)(k39:keepIn K (.ref f39)=true)
  (t39:K.lookup c39=some ⟨qa39,qb39,.fields qv39,qs39⟩)(r39:(qv39[11]? : Option Value)=some (.ref P39))
  (h39:codeHdIn K c39 P39=true)(n39:K.lookup P39=none)(m39:P39∈ts)
  (a40:nsIn K mainGlobals "is_whole" = some (some (.ref f40)))
  (F40:Fun K "is_whole" "is_whole" (top 10) f40 g40)
  (a41:nsIn K mainGlobals "is_name" = some (some (.ref f41)))
  (F41:Fun K "is_name" "is_name" (top 11) f41 g41)
  (a42:nsIn K mainGlobals "far" = some (some (.ref f42)))
  (F42:Fun K "far" "far" (top 12) f42 g42)
  (a43:nsIn K mainGlobals "nearer" = some (some (.ref f43)))
  (F43:Fun K "nearer" "nearer" (top 13) f43 g43)
  (a44:nsIn K mainGlobals "step" = some (some (.ref f44)))
  (F44:Fun K "step" "step" (top 15) f44 g44)
  (a45:nsIn K mainGlobals "span" = some (some (.ref f45)))
  (F45:Fun K "span" "span" (top 16) f45 g45)
  (a46:nsIn K mainGlobals "fault" = some (some (.ref f46)))
  (F46:Fun K "fault" "fault" (top 18) f46 g46)
  (a47:nsIn K mainGlobals "holes" = some (some (.ref f47)))
  (F47:Fun K "holes" "holes" (top 19) f47 g47)
  (a48:nsIn K mainGlobals "each_bucket" = some (some (.ref f48)))
  (F48:Fun K "each_bucket" "each_bucket" (top 20) f48 g48)
  (a49:nsIn K mainGlobals "of_span" = some (some (.ref f49)))
  (F49:Fun K "of_span" "of_span" (top 21) f49 g49)
  (a50:nsIn K mainGlobals "is_at_rest" = some (some (.ref f50)))
  (F50:Fun K "is_at_rest" "is_at_rest" (top 22) f50 g50)
  (a51:nsIn K mainGlobals "is_hole" = some (some (.ref f51)))
  (F51:Fun K "is_hole" "is_hole" (top 23) f51 g51)
  (a52:nsIn K mainGlobals "look_round" = some (some (.ref f52)))
  (F52:Fun K "look_round" "look_round" (top 24) f52 g52)
  (a53:nsIn K mainGlobals "asked" = some (some (.ref f53)))
  (F53:Fun K "asked" "asked" (top 26) f53 g53)
  (a54:nsIn K mainGlobals "note_told" = some (some (.ref f54)))
  (F54:Fun K "note_told" "note_told" (top 27) f54 g54)
  (a55:nsIn K mainGlobals "standing" = some (some (.ref f55)))
  (F55:Fun K "standing" "standing" (top 28) f55 g55)
  (a56:nsIn K mainGlobals "first_unasked" = some (some (.ref f56)))
  (F56:Fun K "first_unasked" "first_unasked" (top 29) f56 g56)
  (a57:nsIn K mainGlobals "way" = some (some (.ref f57)))
  (F57:Fun K "way" "way" (top 30) f57 g57)
  (a58:nsIn K mainGlobals "goes_next" = some (some (.ref f58)))
  (F58:Fun K "goes_next" "goes_next" (top 32) f58 g58)
  (a59:nsIn K mainGlobals "is_size" = some (some (.ref f59)))
  (F59:Fun K "is_size" "is_size" (top 38) f59 g59)
  (a60:nsIn K mainGlobals "_law_cell_at" = some (some (.ref f60)))
  (F60:Fun K "_law_cell_at" "_law_cell_at" (top 41) f60 g60)
  (a61:nsIn K mainGlobals "_law_mixed" = some (some (.ref f61)))
  (F61:Fun K "_law_mixed" "_law_mixed" (top 42) f61 g61)
  (a62:nsIn K mainGlobals "_law_draw" = some (some (.ref f62)))
  (F62:Fun K "_law_draw" "_law_draw" (top 43) f62 g62)
  (a63:nsIn K mainGlobals "_law_sizes" = some (some (.ref f63)))
  (F63:Fun K "_law_sizes" "_law_sizes" (top 44) f63 g63)
  (a64:nsIn K mainGlobals "_law_name" = some (some (.ref f64)))
  (F64:Fun K "_law_name" "_law_name" (top 45) f64 g64)
  (a65:nsIn K mainGlobals "_law_come" = some (some (.ref f65)))
  (F65:Fun K "_law_come" "_law_come" (top 46) f65 g65)
  (a66:nsIn K mainGlobals "_law_deed" = some (some (.ref f66)))
  (F66:Fun K "_law_deed" "_law_deed" (top 47) f66 g66)
  (a67:nsIn K mainGlobals "_law_fault" = some (some (.ref f67)))
  (F67:Fun K "_law_fault" "_law_fault" (top 49) f67 g67)
  (a68:nsIn K mainGlobals "_law_holes" = some (some (.ref f68)))
  (F68:Fun K "_law_holes" "_law_holes" (top 50) f68 g68)
  (a69:nsIn K mainGlobals "_law_reach" = some (some (.ref f69)))
  (F69:Fun K "_law_reach" "_law_reach" (top 48) f69 g69)
  (a70:nsIn K mainGlobals "_law_tables" = some (some (.ref f70)))
  (F70:Fun K "_law_tables" "_law_tables" (top 52) f70 g70)
  (a71:nsIn K mainGlobals "_law_hears" = some (some (.ref f71)))
  (F71:Fun K "_law_hears" "_law_hears" (top 53) f71 g71)
  (a72:nsIn K mainGlobals "_law_marks" = some (some (.ref f72)))
  (F72:Fun K "_law_marks" "_law_marks" (top 54) f72 g72)
  (a73:nsIn K mainGlobals "_law_refused" = some (some (.ref f73)))
  (F73:Fun K "_law_refused" "_law_refused" (top 55) f73 g73)
  (a74:nsIn K mainGlobals "_law_right" = some (some (.ref f74)))
  (F74:Fun K "_law_right" "_law_right" (top 56) f74 g74)
  (a75:nsIn K mainGlobals "law" = some (some (.ref f75)))
  (l75:K.lookup f75=some ⟨oc75,od75,.func (fnOf "law" "law" (zb5 (top 57)) (zbk (top 57)) (zah (top 57)) .none kV75 dc75 pm75 an75 cd75 ct75),sl75⟩)
  (e75:codeIn K cd75 "law" = true)(k75:keepIn K (.ref f75)=true)
  (al0:nsIn K mainGlobals "way_asks" = some (some (.ref f57)))
  (hne01:P38≠P30)
  (hne02:P38≠P39)
  (hne12:P30≠P39)
  (hne03:P38≠P37)
  (hne13:P30≠P37)
  (hne23:P39≠P37)
  (z0:nsIn K mainGlobals "len" = some none)(z1:nsIn K mainGlobals "abs" = some none)(z2:nsIn K mainGlobals "isinstance" = some none)(z3:nsIn K mainGlobals "int" = some none)(z4:nsIn K mainGlobals "bool" = some none)(z5:nsIn K mainGlobals "str" = some none)(z6:nsIn K mainGlobals "list" = some none)(z7:nsIn K mainGlobals "range" = some none)(z8:nsIn K mainGlobals "min" = some none)(z9:nsIn K mainGlobals "sorted" = some none)(z10:nsIn K mainGlobals "sum" = some none)(z11:nsIn K mainGlobals "enumerate" = some none)(z12:nsIn K mainGlobals "set" = some none)(z13:nsIn K mainGlobals "max" = some none)(z14:nsIn K mainGlobals "all" = some none)(z15:nsIn K mainGlobals "any" = some none)(z16:nsIn K mainGlobals "ValueError" = some none) :
  ∃ (fd:FuncData) (tabs:List (Addr × Addr)),(∀ q∈tabs,q.2∈ts/\codeHdIn K q.1 q.2=true/\K.lookup q.2=none)/\(∀ (s:Shared) (v:Value),BindsTo s fd ⟨[v],[]⟩ [("_law_script",v)])/\∀ base:Heap,K.In base->base.Ns mainGlobals mg->(∀ q∈tabs,base.BuiltinsAt mg q.2)->zc_ l.prog w K mg base CX0 15 fa fd ["_law_script"] (zr6 K tabs):=by
 have e:=hfa.symm.trans (mg_of X G a75)
 cases e
 have T:Txt mg:=⟨mg_none_of X G z0,mg_none_of X G z1,mg_none_of X G z2,mg_none_of X G z3,mg_none_of X G z4,mg_none_of X G z5,mg_none_of X G z6,mg_none_of X G z7,mg_none_of X G z8,mg_none_of X G z9,mg_none_of X G z10,mg_none_of X G z11,mg_none_of X G z12,mg_none_of X G z13,mg_none_of X G z14,mg_none_of X G z15,mg_none_of X G z16⟩
 let zyk:DfC K mg "Bucket" ["room","order"]:=⟨C0,mg_of X G aC0,⟨pg0,hd0,po0,sa0⟩,⟨na0_0,⟨na0_1,trivial⟩⟩,mk0,kc0⟩
 let zwk:DfC K mg "Table" ["own","wide","room","buckets"]:=⟨C1,mg_of X G aC1,⟨pg1,hd1,po1,sa1⟩,⟨na1_0,⟨na1_1,⟨na1_2,⟨na1_3,trivial⟩⟩⟩⟩,mk1,kc1⟩
 let zk0:z1r K zwk.C "nearest" "Table.nearest" (zai (top 36) 6) ["self","goal","many","but"] [Value.none]:=⟨f8,_,⟨_,_,_,_,_,_,_,_,_,_,rfl,l8,e8⟩,⟨a8,i8,k8⟩,
  fun s us hK hl=>by
   obtain ⟨u0,u1,u2,u3,rfl⟩:=zzp hl
   exact BindsTo.of_defaults rfl (hK _ _ ld8) rfl rfl rfl,
  fun s us hK hl=>by
   obtain ⟨u0,u1,u2,rfl⟩:=z0s hl
   exact BindsTo.of_defaults rfl (hK _ _ ld8) rfl rfl rfl⟩
 let zr5:DfC K mg "Town" ["wide","room","tables","silent"]:=⟨C2,mg_of X G aC2,⟨pg2,hd2,po2,sa2⟩,⟨na2_0,⟨na2_1,⟨na2_2,⟨na2_3,trivial⟩⟩⟩⟩,mk2,kc2⟩
 let zpx:z1r K zr5.C "come" "Town.come" (zai (top 39) 11) ["self","name","door"] [Value.none]:=⟨f23,_,⟨_,_,_,_,_,_,_,_,_,_,rfl,l23,e23⟩,⟨a23,i23,k23⟩,
  fun s us hK hl=>by
   obtain ⟨u0,u1,u2,rfl⟩:=z2n hl
   exact BindsTo.of_defaults rfl (hK _ _ ld23) rfl rfl rfl,
  fun s us hK hl=>by
   obtain ⟨u0,u1,rfl⟩:=z04 hl
   exact BindsTo.of_defaults rfl (hK _ _ ld23) rfl rfl rfl⟩
 let zdu:zzb K zr5.C "teller" "Town.teller" (zai (top 39) 18) ["self"]:=⟨f30,c30,P30,_,⟨_,_,_,_,_,_,_,_,rfl,l30⟩,e30,h30,n30,⟨a30,i30,k30⟩,(zkf (st:=zai (top 39) 18) l30 e30 k30).binds fun _ _ _ _ _ _=>us1 fun _=>rfl⟩
 let zcx:zzb K zr5.C "hears_of" "Town.hears_of" (zai (top 39) 25) ["self","house","name"]:=⟨f37,c37,P37,_,⟨_,_,_,_,_,_,_,_,rfl,l37⟩,e37,h37,n37,⟨a37,i37,k37⟩,(zkf (st:=zai (top 39) 25) l37 e37 k37).binds fun _ _ _ _ _ _=>us3 fun _ _ _=>rfl⟩
 let zq6:DfE K mg "NearError" :=⟨E0,mg_of X G aE0,xE0⟩
 let zw9:DfE K mg "NoSize" :=⟨E1,mg_of X G aE1,xE1⟩
 let zws:DfE K mg "NoName" :=⟨E2,mg_of X G aE2,xE2⟩
 let zou:DfE K mg "NoHouse" :=⟨E3,mg_of X G aE3,xE3⟩
 let zrf:DfE K mg "Silent" :=⟨E4,mg_of X G aE4,xE4⟩
 let z0q:DfE K mg "Taken" :=⟨E5,mg_of X G aE5,xE5⟩
 let zwx:DfE K mg "NoTown" :=⟨E6,mg_of X G aE6,xE6⟩
 let zw4:DfE K mg "NoLine" :=⟨E7,mg_of X G aE7,xE7⟩
 let zdw:DfF K mg "by_nearness" (top 14) ["goal","names"]:=⟨f38,c38,P38,_,⟨_,_,_,_,_,_,_,_,rfl,l38⟩,e38,h38,n38,k38,mg_of X G a38,(zkf (st:=top 14) l38 e38 k38).binds fun _ _ _ _ _ _=>us2 fun _ _=>rfl⟩
 let zc4:DfF K mg "_law_as_it_is" (top 51) ["_law_town"]:=⟨f39,c39,P39,_,⟨_,_,_,_,_,_,_,_,rfl,l39⟩,e39,h39,n39,k39,mg_of X G a39,(zkf (st:=top 51) l39 e39 k39).binds fun _ _ _ _ _ _=>us1 fun _=>rfl⟩
 have hm_way_asks:=mg_of X G al0
 refine ⟨fnOf "law" "law" (zb5 (top 57)) (zbk (top 57)) (zah (top 57)) .none kV75 dc75 pm75 an75 cd75 ct75,[(c30,P30),(c37,P37),(c38,P38),(c39,P39)],fun q hq=>by
  simp only [gl,gi,or_false] at hq
  rcases hq with rfl | rfl | rfl | rfl
  ·exact ⟨m30,h30,n30⟩
  ·exact ⟨m37,h37,n37⟩
  ·exact ⟨m38,h38,n38⟩
  ·exact ⟨m39,h39,n39⟩,fun s v=> .of_eq rfl,fun base hK hG hB=>?_⟩
 have ht_Town_teller:(zdu.c,zdu.P)∈([(c30,P30),(c37,P37),(c38,P38),(c39,P39)]:List (Addr × Addr)):= .head _
 have hB_Town_teller:base.BuiltinsAt mg zdu.P:=hB (c30,P30) (by simp)
 have ht_Town_hears_of:(zcx.c,zcx.P)∈([(c30,P30),(c37,P37),(c38,P38),(c39,P39)]:List (Addr × Addr)):= .tail _ (.head _)
 have hB_Town_hears_of:base.BuiltinsAt mg zcx.P:=hB (c37,P37) (by simp)
 have ht_by_nearness:(zdw.c,zdw.P)∈([(c30,P30),(c37,P37),(c38,P38),(c39,P39)]:List (Addr × Addr)):= .tail _ (.tail _ (.head _))
 have hB_by_nearness:base.BuiltinsAt mg zdw.P:=hB (c38,P38) (by simp)
 have ht__law_as_it_is:(zc4.c,zc4.P)∈([(c30,P30),(c37,P37),(c38,P38),(c39,P39)]:List (Addr × Addr)):= .tail _ (.tail _ (.tail _ (.head _)))
 have hB__law_as_it_is:base.BuiltinsAt mg zc4.P:=hB (c39,P39) (by simp)
 exact z35 ⟨zyk,zwk,zr5,⟨f0,_,F0,⟨a0,i0,F0.kp⟩,F0.binds fun _ _ _ _ _ _=>us2 fun _ _=>rfl⟩,⟨f1,_,F1,⟨a1,i1,F1.kp⟩,F1.binds fun _ _ _ _ _ _=>us1 fun _=>rfl⟩,⟨f2,_,F2,⟨a2,i2,F2.kp⟩,F2.binds fun _ _ _ _ _ _=>us3 fun _ _ _=>rfl⟩,⟨f3,_,F3,⟨a3,i3,F3.kp⟩,F3.binds fun _ _ _ _ _ _=>us3 fun _ _ _=>rfl⟩,⟨_,_,F42,mg_of X G a42,F42.binds fun _ _ _ _ _ _=>us2 fun _ _=>rfl⟩,⟨_,_,F44,mg_of X G a44,F44.binds fun _ _ _ _ _ _=>us2 fun _ _=>rfl⟩,⟨_,_,F43,mg_of X G a43,F43.binds fun _ _ _ _ _ _=>us3 fun _ _ _=>rfl⟩,zdw,⟨f5,_,F5,⟨a5,i5,F5.kp⟩,F5.binds fun _ _ _ _ _ _=>us4 fun _ _ _ _=>rfl⟩,⟨f9,_,F9,⟨a9,i9,F9.kp⟩,F9.binds fun _ _ _ _ _ _=>us2 fun _ _=>rfl⟩,⟨f10,_,F10,⟨a10,i10,F10.kp⟩,F10.binds fun _ _ _ _ _ _=>us3 fun _ _ _=>rfl⟩,⟨f6,_,F6,⟨a6,i6,F6.kp⟩,F6.binds fun _ _ _ _ _ _=>us2 fun _ _=>rfl⟩,⟨f7,_,F7,⟨a7,i7,F7.kp⟩,F7.binds fun _ _ _ _ _ _=>us1 fun _=>rfl⟩,⟨_,_,F40,mg_of X G a40,F40.binds fun _ _ _ _ _ _=>us1 fun _=>rfl⟩,⟨_,_,F41,mg_of X G a41,F41.binds fun _ _ _ _ _ _=>us2 fun _ _=>rfl⟩,⟨f16,_,F16,⟨a16,i16,F16.kp⟩,F16.binds fun _ _ _ _ _ _=>us2 fun _ _=>rfl⟩,⟨f15,_,F15,⟨a15,i15,F15.kp⟩,F15.binds fun _ _ _ _ _ _=>us2 fun _ _=>rfl⟩,zou,⟨f28,_,F28,⟨a28,i28,F28.kp⟩,F28.binds fun _ _ _ _ _ _=>us2 fun _ _=>rfl⟩,zws,⟨f27,_,F27,⟨a27,i27,F27.kp⟩,F27.binds fun _ _ _ _ _ _=>us2 fun _ _=>rfl⟩,zrf,⟨f29,_,F29,⟨a29,i29,F29.kp⟩,F29.binds fun _ _ _ _ _ _=>us2 fun _ _=>rfl⟩,⟨f13,_,F13,⟨a13,i13,F13.kp⟩,F13.binds fun _ _ _ _ _ _=>us1 fun _=>rfl⟩,⟨f17,_,F17,⟨a17,i17,F17.kp⟩,F17.binds fun _ _ _ _ _ _=>us3 fun _ _ _=>rfl⟩,⟨f18,_,F18,⟨a18,i18,F18.kp⟩,F18.binds fun _ _ _ _ _ _=>us2 fun _ _=>rfl⟩,⟨_,_,F59,mg_of X G a59,F59.binds fun _ _ _ _ _ _=>us2 fun _ _=>rfl⟩,zw9,⟨f12,_,F12,⟨a12,i12,F12.kp⟩,F12.binds fun _ _ _ _ _ _=>us3 fun _ _ _=>rfl⟩,⟨f14,_,F14,⟨a14,i14,F14.kp⟩,F14.binds fun _ _ _ _ _ _=>us1 fun _=>rfl⟩,zcx,⟨f36,_,F36,⟨a36,i36,F36.kp⟩,F36.binds fun _ _ _ _ _ _=>us3 fun _ _ _=>rfl⟩,⟨f20,_,F20,⟨a20,i20,F20.kp⟩,F20.binds fun _ _ _ _ _ _=>us2 fun _ _=>rfl⟩,⟨f35,_,F35,⟨a35,i35,F35.kp⟩,F35.binds fun _ _ _ _ _ _=>us3 fun _ _ _=>rfl⟩,z0q,⟨f31,_,F31,⟨a31,i31,F31.kp⟩,F31.binds fun _ _ _ _ _ _=>us3 fun _ _ _=>rfl⟩,zpx,⟨f25,_,F25,⟨a25,i25,F25.kp⟩,F25.binds fun _ _ _ _ _ _=>us2 fun _ _=>rfl⟩,⟨f32,_,F32,⟨a32,i32,F32.kp⟩,F32.binds fun _ _ _ _ _ _=>us2 fun _ _=>rfl⟩,⟨f24,_,F24,⟨a24,i24,F24.kp⟩,F24.binds fun _ _ _ _ _ _=>us2 fun _ _=>rfl⟩,⟨f26,_,F26,⟨a26,i26,F26.kp⟩,F26.binds fun _ _ _ _ _ _=>us3 fun _ _ _=>rfl⟩,zk0,⟨_,_,F58,mg_of X G a58,F58.binds fun _ _ _ _ _ _=>us3 fun _ _ _=>rfl⟩,⟨_,_,F57,mg_of X G a57,F57.binds fun _ _ _ _ _ _=>us3 fun _ _ _=>rfl⟩,⟨f19,_,F19,⟨a19,i19,F19.kp⟩,F19.binds fun _ _ _ _ _ _=>us4 fun _ _ _ _=>rfl⟩,zdu,⟨f22,_,F22,⟨a22,i22,F22.kp⟩,F22.binds fun _ _ _ _ _ _=>us3 fun _ _ _=>rfl⟩,⟨_,_,F54,mg_of X G a54,F54.binds fun _ _ _ _ _ _=>us4 fun _ _ _ _=>rfl⟩,⟨_,_,F55,mg_of X G a55,F55.binds fun _ _ _ _ _ _=>us3 fun _ _ _=>rfl⟩,⟨_,_,F56,mg_of X G a56,F56.binds fun _ _ _ _ _ _=>us2 fun _ _=>rfl⟩,⟨_,_,F53,mg_of X G a53,F53.binds fun _ _ _ _ _ _=>us4 fun _ _ _ _=>rfl⟩,⟨f4,_,F4,⟨a4,i4,F4.kp⟩,F4.binds fun _ _ _ _ _ _=>us2 fun _ _=>rfl⟩,⟨f11,_,F11,⟨a11,i11,F11.kp⟩,F11.binds fun _ _ _ _ _ _=>us2 fun _ _=>rfl⟩,⟨f33,_,F33,⟨a33,i33,F33.kp⟩,F33.binds fun _ _ _ _ _ _=>us3 fun _ _ _=>rfl⟩,⟨f21,_,F21,⟨a21,i21,F21.kp⟩,F21.binds fun _ _ _ _ _ _=>us3 fun _ _ _=>rfl⟩,⟨_,_,F45,mg_of X G a45,F45.binds fun _ _ _ _ _ _=>us2 fun _ _=>rfl⟩,⟨_,_,F49,mg_of X G a49,F49.binds fun _ _ _ _ _ _=>us2 fun _ _=>rfl⟩,⟨_,_,F50,mg_of X G a50,F50.binds fun _ _ _ _ _ _=>us3 fun _ _ _=>rfl⟩,⟨_,_,F48,mg_of X G a48,F48.binds fun _ _ _ _ _ _=>us1 fun _=>rfl⟩,⟨_,_,F46,mg_of X G a46,F46.binds fun _ _ _ _ _ _=>us1 fun _=>rfl⟩,⟨_,_,F67,mg_of X G a67,F67.binds fun _ _ _ _ _ _=>us1 fun _=>rfl⟩,⟨_,_,F60,mg_of X G a60,F60.binds fun _ _ _ _ _ _=>us2 fun _ _=>rfl⟩,⟨_,_,F61,mg_of X G a61,F61.binds fun _ _ _ _ _ _=>us2 fun _ _=>rfl⟩,⟨_,_,F62,mg_of X G a62,F62.binds fun _ _ _ _ _ _=>us3 fun _ _ _=>rfl⟩,⟨_,_,F63,mg_of X G a63,F63.binds fun _ _ _ _ _ _=>us1 fun _=>rfl⟩,⟨_,_,F64,mg_of X G a64,F64.binds fun _ _ _ _ _ _=>us3 fun _ _ _=>rfl⟩,⟨_,_,F51,mg_of X G a51,F51.binds fun _ _ _ _ _ _=>us3 fun _ _ _=>rfl⟩,⟨_,_,F47,mg_of X G a47,F47.binds fun _ _ _ _ _ _=>us1 fun _=>rfl⟩,⟨f34,_,F34,⟨a34,i34,F34.kp⟩,F34.binds fun _ _ _ _ _ _=>us2 fun _ _=>rfl⟩,⟨_,_,F52,mg_of X G a52,F52.binds fun _ _ _ _ _ _=>us2 fun _ _=>rfl⟩,⟨_,_,F68,mg_of X G a68,F68.binds fun _ _ _ _ _ _=>us1 fun _=>rfl⟩,⟨_,_,F69,mg_of X G a69,F69.binds fun _ _ _ _ _ _=>us2 fun _ _=>rfl⟩,⟨_,_,F65,mg_of X G a65,F65.binds fun _ _ _ _ _ _=>us4 fun _ _ _ _=>rfl⟩,⟨_,_,F66,mg_of X G a66,F66.binds fun _ _ _ _ _ _=>us4 fun _ _ _ _=>rfl⟩,zc4,⟨_,_,F70,mg_of X G a70,F70.binds fun _ _ _ _ _ _=>us1 fun _=>rfl⟩,⟨_,_,F71,mg_of X G a71,F71.binds fun _ _ _ _ _ _=>us5 fun _ _ _ _ _=>rfl⟩,zq6,zw4,zwx,⟨_,_,F72,mg_of X G a72,F72.binds fun _ _ _ _ _ _=>us2 fun _ _=>rfl⟩,⟨_,_,F73,mg_of X G a73,F73.binds fun _ _ _ _ _ _=>us2 fun _ _=>rfl⟩,⟨_,_,F74,mg_of X G a74,F74.binds fun _ _ _ _ _ _=>us2 fun _ _=>rfl⟩,⟨_,_,zkf (st:=top 57) l75 e75 k75,mg_of X G a75,(zkf (st:=top 57) l75 e75 k75).binds fun _ _ _ _ _ _=>us1 fun _=>rfl⟩,T,hK,hB_by_nearness,hB_Town_hears_of,hB_Town_teller,hne01,hm_way_asks,hne03,hne13,hB__law_as_it_is,hne02,hne12,hne23⟩ ⟨⟨fa_g1,fa_g2,fa_g3,fa_g4,fg5_,fg6_,fa_g7,fa_g8⟩,zou.ex,fa_mr,fa_m0,fa_m1,fa_m2,fa_m3,fa_m4,fa_m5,fa_m6,fa_mv⟩ ⟨⟨fb_g1,fb_g2,fb_g3,fb_g4,fg5_,fg6_,fb_g7,fb_g8⟩,zrf.ex,fb_mr,fb_m0,fb_m1,fb_m2,fb_m3,fb_m4,fb_m5,fb_m6,fb_mv⟩ ht_by_nearness ht_Town_teller ht_Town_hears_of ht__law_as_it_is
theorem walk {l:PySem.W.OpenLaw}{q:Program}{loose:List Str}{XP:(Str->Option Value)->Heap->Prop}{YP:World->Heap->Prop}{d:DefRec}{K:Params->PySem.W.Frag}{ts:List Addr}(hn:l.most=some 63)(hdf:d.params.defaults=[])
  (hY:∀ (w:World) (h:Heap),YP w h->(K w.params).In h)(hYT:∀ (w:World) (h:Heap),YP w h->∀ P∈ts,h.get? P=some (n5 #[]))
  (F:∀ (w:World) (mg:Str->Option Value) (fa:Addr) (h:Heap),(K w.params).In h->h.Ns mainGlobals mg->mg d.name=some (.ref fa) ->
   ∃ (fd:FuncData) (tabs:List (Addr × Addr)),(∀ q∈tabs,q.2∈ts/\PySem.W.codeHdIn (K w.params) q.1 q.2=true/\(K w.params).lookup q.2=none)/\(∀ (s:Shared) (u:Value),BindsTo s fd ⟨[u],[]⟩ [("_law_script",u)]) /\
    ∀ base:Heap,(K w.params).In base->base.Ns mainGlobals mg->(∀ q∈tabs,base.BuiltinsAt mg q.2)->zc_ l.prog w (K w.params) mg base CX0 15 fa fd ["_law_script"] (zr6 (K w.params) tabs)) :
  PySem.W.WalkO q loose XP YP l.row.toRowW d [] (fun f vs=>PySem.call f vs) :=
 L2.walk_ofT (n:=63) (k:=15) (x:= "_law_script") (sp:=zr6) hn (by decide) hdf ⟨rfl,by decide,by decide⟩ hY hYT F fun K tabs H a ns hl hS hT=>⟨a,ns,rfl,hS,hl,hT,fun _=>rfl⟩
end NN
namespace PySem.W.Fast
def tw356671404033479188:=Nat
def tw8284997983546285285:=Nat
def tw4332635246569743535:=Nat
def tw8771586114870951952:=Nat
def tw15108833637809800548:=Nat
def tw14234587253717400584:=Nat
def tw12536458180739591072:=Nat
def tw11400688130667682714:=Nat
def tw1866358381687392862:=Nat
def tw3734016323577925249:=Nat
def tw2332739269194632574:=Nat
def tw17628224136656964760:=Nat
def tw2372037859809323729:=Nat
def tw9597228708568256870:=Nat
def tw13578354968787652964:=Nat
def tw14565570042672431151:=Nat
def tw4112644431939788711:=Nat
def tw3878972256687823988:=Nat
def tw3543867005106637274:=Nat
def tw827156210127903465:=Nat
def tw15394758055223071781:=Nat
def tw364137326286266435:=Nat
def tw2985860643054126020:=Nat
def tw10763032487729307776:=Nat
def tw13684918267538989807:=Nat
def tw753872555157771251:=Nat
def tw914666450555035288:=Nat
def tw14135994807848252840:=Nat
def tw3049301766175775358:=Nat
def tw3978462735536820267:=Nat
def tw15348449190483468554:=Nat
def tw135278867317307487:=Nat
def tw14580846320923089249:=Nat
def tw2003365819051795486:=Nat
def tw13711048918075145040:=Nat
def tw8368778519700811285:=Nat
def tw16021731504780100093:=Nat
def tw6602846146097740243:=Nat
def tw16394895483762726577:=Nat
def tw14348574577690397474:=Nat
def tw18054600171358634350:=Nat
def tw7758198288304172974:=Nat
def tw2115024234358306510:=Nat
def tw9873915765104296697:=Nat
def tw11939396791278904806:=Nat
def tw16673123042468065022:=Nat
def tw151857776942521574:=Nat
def tw2509063729287335554:=Nat
def tw4466298579489818640:=Nat
def tw18298931354361405942:=Nat
def tw11764115460241890237:=Nat
def tw7656788128347971773:=Nat
def tw10720805317365559730:=Nat
def tw13582561361206829465:=Nat
def tw2056230657082558081:=Nat
def tw8864182442952259024:=Nat
def tw17868271314749113417:=Nat
def tw8485138202187994940:=Nat
def tw1895645270005082887:=Nat
def tw12369787772143614873:=Nat
def tw10777676412988169392:=Nat
def tw514565139102333360:=Nat
def tw7193045115708968965:=Nat
def tw16958185868349715324:=Nat
def tw9464841344822918426:=Nat
def tw1416448333003916706:=Nat
def tw4098534113869940126:=Nat
def tw15452311535240086366:=Nat
def tw8925074856710734388:=Nat
def tw9226586861152731947:=Nat
def tw11269330975588135159:=Nat
def tw11843591267680128036:=Nat
def tw12026029656111657504:=Nat
def tw6421010202579470800:=Nat
def tw8337728443421292297:=Nat
def tw3103903231112932510:=Nat
def tw1659863543950558259:=Nat
def tw18136286515004488920:=Nat
def tw15716463798897693776:=Nat
def tw16163513599790134371:=Nat
def tw9018891458154443852:=Nat
def tw6350059534650308236:=Nat
def tw1364394202952639929:=Nat
def tw8401591533800502081:=Nat
def tw5357597942148328219:=Nat
def tw1325140446373787260:=Nat
def tw18275607625531053444:=Nat
def tw14880356118897710805:=Nat
def tw13118746091864329144:=Nat
def tw7146243435024414237:=Nat
def tw3771110623876324688:=Nat
def tw10069576657415675190:=Nat
def tw3665065389503167129:=Nat
def tw8353014817987187863:=Nat
def tw14568789132316852520:=Nat
def tw11939033083422825071:=Nat
def tw10064060710048277315:=Nat
def tw2123622992566644001:=Nat
def tw15603546993918950096:=Nat
def tw17366374042193108437:=Nat
def tw4519803787285676067:=Nat
def tw422052572797885623:=Nat
def tw17065858984153156791:=Nat
def tw2726384834482043301:=Nat
def tw4634237643628969384:=Nat
def tw4110420233014889261:=Nat
def tw8688652358084332198:=Nat
def tw8213138904760918559:=Nat
def tw4146589785517742805:=Nat
def tw4647185624421249864:=Nat
def tw6651718959701105895:=Nat
def tw6443636703951593393:=Nat
def tw4457048655029105698:=Nat
def tw1323901586385082578:=Nat
def tw12208727650699452656:=Nat
def tw11156335026453024860:=Nat
def tw14963300963175007716:=Nat
def tw13960844326761370055:=Nat
def tw11137309341865660082:=Nat
def tw17093877963867701729:=Nat
def tw12185070099853534026:=Nat
def tw6733928648696224632:=Nat
def tw18400664405745242718:=Nat
def tw14383075684068521807:=Nat
def tw7440832457282014286:=Nat
def tw17130939039456784901:=Nat
def tw1217694715362185257:=Nat
def tw5281864158253890277:=Nat
def tw6825516680389469184:=Nat
def tw7435863015006806162:=Nat
def tw15389960598088737845:=Nat
def tw12791359494916641492:=Nat
def tw3014731611845544770:=Nat
def tw4553250252903723978:=Nat
def tw12699291266893115462:=Nat
def tw500596732732859731:=Nat
def tw801388137281691609:=Nat
def tw10305337918583218010:=Nat
def tw908610532615141054:=Nat
def tw17178435415038892520:=Nat
def tw2225572863182471396:=Nat
def tw4427694271722754969:=Nat
def tw2121642359256793276:=Nat
def tw6613960151549708250:=Nat
def tw3488172624266361072:=Nat
def tw5632147786287628521:=Nat
def tw17661593987538691919:=Nat
def tw1605057857596624175:=Nat
def tw14707758800174473265:=Nat
def tw7178669297380551283:=Nat
def tw2866760017403759281:=Nat
def tw14215904347877672997:=Nat
def tw14041862037131737980:=Nat
def tw8548391854021869875:=Nat
def tw4732227096662975055:=Nat
def tw1060133804278607934:=Nat
def tw3690826231226591642:=Nat
def tw4051310914997635976:=Nat
def tw6255846544421466572:=Nat
def tw17793642844852461991:=Nat
def tw16313154229009211437:=Nat
def tw14969526524260044192:=Nat
def tw8680261274718580283:=Nat
def tw11429051016981517504:=Nat
def tw3887410546796368552:=Nat
def tw2565605907095399209:=Nat
def tw3586959711485465250:=Nat
def tw13303269926112173493:=Nat
def tw17048501735972821546:=Nat
def tw16892223011505248630:=Nat
def tw5540641524543168923:=Nat
def tw5544872344251583849:=Nat
def tw10786648968310070808:=Nat
def tw16316071223669766709:=Nat
def tw5580736675736119999:=Nat
def tw17196174740198423781:=Nat
def tw5537371115201802566:=Nat
def tw14250920840103744707:=Nat
def tw13164704978343007455:=Nat
def tw6833768129318478243:=Nat
def tw12580930638806133521:=Nat
def tw642520535310485836:=Nat
def tw5842373800369039950:=Nat
def tw17479741994768744105:=Nat
def tw10290040911037844055:=Nat
def tw5159869084886487469:=Nat
def tw13604050172383443351:=Nat
def tw4845457201099852498:=Nat
def tw12617851712891585692:=Nat
def tw4132573711638694003:=Nat
def tw4285820631200082387:=Nat
def tw9215532736327247540:=Nat
def tw84452786311230119:=Nat
def tw7843512127449169491:=Nat
def tw19370890725252120:=Nat
def tw17783504771113843633:=Nat
def tw4285907884683883660:=Nat
def tw5816998825477841336:=Nat
def tw225055493804697151:=Nat
def tw4266901494676787989:=Nat
def tw9513386878526516631:=Nat
def tw1586477638813794839:=Nat
def tw1514614808248960682:=Nat
def tw6040836233847773951:=Nat
def tw3157059808362080478:=Nat
def tw6020309488071836014:=Nat
def tw5204916575178756188:=Nat
def tw9522233168617847892:=Nat
def tw2075388172018446672:=Nat
def tw9963856535973721078:=Nat
def tw2958668899166509954:=Nat
def tw9019594813500997813:=Nat
def tw6319723393823397053:=Nat
def tw13361669144512039218:=Nat
def tw12371250538885305212:=Nat
def tw16419376156791703414:=Nat
def tw8799538429119570916:=Nat
def tw10498724282002207773:=Nat
def tw1130798174468755743:=Nat
def tw17833932315087488967:=Nat
def tw1576613912737421079:=Nat
def tw2314394332936471720:=Nat
def tw10582234474712651274:=Nat
def tw8358189677064918906:=Nat
def tw16767844651655114918:=Nat
def tw7645089178330272039:=Nat
def tw16041321573175182308:=Nat
def tw13875336730641564246:=Nat
def tw5859251237286173603:=Nat
def tw715650568416334961:=Nat
def tw15532600030084209151:=Nat
def tw14222193624971140134:=Nat
def tw14450792465168491141:=Nat
def tw4015832928138048472:=Nat
def tw11653078156922362092:=Nat
def tw6046458085490528382:=Nat
def tw8621726804542264851:=Nat
def tw8882914326212689319:=Nat
def tw2579496787336838903:=Nat
def tw6421045652794623723:=Nat
def tw17505483733009263197:=Nat
def tw13397349582821691213:=Nat
def tw6603535581373712688:=Nat
def tw16764362154291754554:=Nat
def tw2314749261979691567:=Nat
def tw6397606274833990962:=Nat
def tw10707445852298081976:=Nat
def tw15276181848304246458:=Nat
def tw7288805240936508098:=Nat
def tw11471519609964524622:=Nat
def tw13183926806205574747:=Nat
def tw5921005386935387321:=Nat
def tw10029330280192354299:=Nat
def tw6614875320982437810:=Nat
def tw4368371509011085429:=Nat
def tw12248231932546708974:=Nat
def tw5362226401735223816:=Nat
def tw12962527133287292553:=Nat
def tw6290584127253804621:=Nat
def tw15950253110922960419:=Nat
def tw16436974256873238800:=Nat
def tw4420095274162475816:=Nat
def tw18237766912927252346:=Nat
def tw8715000536711927996:=Nat
def tw8525383334177182142:=Nat
def tw18434329274327888801:=Nat
def tw3776946484547675233:=Nat
def tw7745346522956553013:=Nat
def tw2334492314829966175:=Nat
def tw12902178960295212286:=Nat
def tw222554236347188528:=Nat
def tw12999338997728207176:=Nat
def tw1650269579099524976:=Nat
def tw13141502920907955242:=Nat
def tw7890014260834952382:=Nat
def tw9404671531469611395:=Nat
def tw11705979641528716492:=Nat
def tw5461773519975174971:=Nat
def tw13157153409344964101:=Nat
def tw8556242207711732473:=Nat
def tw10172264383942153174:=Nat
def tw9713657005419240764:=Nat
def tw4142383348243378491:=Nat
def tw10544898723995180442:=Nat
def tw12095341719660173016:=Nat
def tw16893090854499340369:=Nat
def tw7841066014084715703:=Nat
def tw2660265899877091840:=Nat
def tw5291508475685082901:=Nat
def tw18299609412252152928:=Nat
def tw15149797477637885488:=Nat
def tw10251986119011340116:=Nat
def tw9147409263915973906:=Nat
def tw5164777776138924878:=Nat
def tw659421982994236077:=Nat
def tw12190391442171062089:=Nat
def tw12317715703733403041:=Nat
def tw11804601164240930720:=Nat
def tw2971567552727264928:=Nat
def tw9573087255129284032:=Nat
def tw18149861940227383508:=Nat
def tw6776006933871628772:=Nat
def tw12602147192054347682:=Nat
def tw3128622251634643214:=Nat
def tw6351084382708857840:=Nat
def tw7936440234097394562:=Nat
def tw11878886142490220918:=Nat
def tw10587569910649433477:=Nat
def tw14343459246506861435:=Nat
def tw3863532698919436132:=Nat
def tw4100567967547272991:=Nat
def tw7437677121109174524:=Nat
def tw14972756756607303643:=Nat
def tw15537804446507295455:=Nat
def tw13380188384164704464:=Nat
def tw2011439638491452533:=Nat
def tw3587344581040319703:=Nat
def tw1596148551055640645:=Nat
def tw8763577183706369074:=Nat
def tw8228009931010804435:=Nat
def tw6088404138608492174:=Nat
def tw14535941598350884414:=Nat
def tw14528550067380385107:=Nat
def tw13079457209527218591:=Nat
def tw17279158925742934292:=Nat
def tw14131020782647759567:=Nat
def tw5714170800669264457:=Nat
def tw5971635942380737756:=Nat
def tw3626461863616119410:=Nat
def tw18039724624409736597:=Nat
def tw3456936151050473263:=Nat
def tw18223653695514138486:=Nat
def tw9642634053688317292:=Nat
def tw15439406020396274748:=Nat
def tw4494662882248951486:=Nat
def tw14596576703420624358:=Nat
def tw10086873741471001252:=Nat
def tw9442627872674397169:=Nat
def tw17486455679131021396:=Nat
def tw5910850598053595925:=Nat
def tw6084428890991268776:=Nat
def tw2358044000715371278:=Nat
def tw15212607366750158850:=Nat
def tw17662997724306133176:=Nat
def tw1790022091949241360:=Nat
def tw3278053731114345437:=Nat
def tw11927100721151887597:=Nat
def tw13922510117511698439:=Nat
def tw17563548239491582151:=Nat
def tw5311066243232612861:=Nat
def tw7494251289420995572:=Nat
def tw4515330340531289957:=Nat
def tw4003763986493642308:=Nat
def tw13599580759709378159:=Nat
def tw3868268786709301452:=Nat
def tw13681487558209554336:=Nat
def tw6748965124117755396:=Nat
def tw16835286369049647127:=Nat
def tw17665642605331530487:=Nat
def tw15074280599753208158:=Nat
def tw18345310837211494996:=Nat
def tw10105216345789403831:=Nat
def tw14901153722729981727:=Nat
def tw3512151614470397322:=Nat
def tw16160149729013166259:=Nat
def tw14711122337587630657:=Nat
def tw11901106752914518713:=Nat
def tw3167274202570071305:=Nat
def tw2975121770261800295:=Nat
def tw11735676016401526250:=Nat
def tw7968486124645660062:=Nat
def tw12262141410689522305:=Nat
def tw6398684518308321771:=Nat
def tw3278452063842773968:=Nat
def tw5067789791527712075:=Nat
def tw4358986121448398640:=Nat
def tw11101447160186687330:=Nat
def tw15098786121388492107:=Nat
def tw810741518851899728:=Nat
def tw15239702003389852288:=Nat
def tw12974097638884912210:=Nat
def tw16765555718890045539:=Nat
def tw7583498637122399634:=Nat
def tw7540115861269818151:=Nat
def tw17886395222329597280:=Nat
def tw11291338090101805957:=Nat
def tw7968713665447386954:=Nat
def tw16898971716697830529:=Nat
def tw8989138654511851823:=Nat
def tw6530050288769686983:=Nat
def tw10291701312258308277:=Nat
def tw14236773717729524946:=Nat
def tw15107117636588126862:=Nat
def tw16867748376967585369:=Nat
def tw18310458639001090779:=Nat
def tw13513244523349868987:=Nat
def tw9947352927944119130:=Nat
def tw9924944815072422725:=Nat
def tw1841331266151365286:=Nat
def tw10707757049924655839:=Nat
def tw10748996297888331506:=Nat
def tw6230338297546493272:=Nat
def tw9318334702445851378:=Nat
def tw16446992340359433473:=Nat
def tw16616334367290585949:=Nat
def tw11592898650691159662:=Nat
def tw16865133574421475202:=Nat
def tw11493513022084930908:=Nat
def tw7677897438888149611:=Nat
def tw10487757993513240632:=Nat
def tw1396990852032389733:=Nat
def tw5729108406676960372:=Nat
def tw6841646558430140104:=Nat
def tw13307827678466918037:=Nat
def tw12051175920884648443:=Nat
def tw15093360378065288708:=Nat
def tw9701461789052389087:=Nat
def tw832802575244687557:=Nat
def tw2287512201618227195:=Nat
def tw4255027154579488288:=Nat
def tw3452112621908840118:=Nat
def tw1299952559339729996:=Nat
def tw10283034801633564873:=Nat
def tw9981215599976259719:=Nat
def tw2489991645954705126:=Nat
def tw1518518451760765846:=Nat
def tw9668624610491662684:=Nat
def tw2477052837719036486:=Nat
def tw1865386527615336679:=Nat
def tw2975254274681422948:=Nat
def tw3361767930543152144:=Nat
def tw11130245835386754640:=Nat
def tw6866381305532749374:=Nat
def tw15683388715053445526:=Nat
def tw693653428591335788:=Nat
def tw12501791433774676405:=Nat
def tw1124676328168206607:=Nat
def tw930903628167497597:=Nat
def tw2987447926796622430:=Nat
def tw15945806270994478056:=Nat
def tw9995504435037738435:=Nat
def tw9938069066250005041:=Nat
def tw458962900275133372:=Nat
def tw17934342871644690877:=Nat
def tw17963158640208892416:=Nat
def tw9718040147103687091:=Nat
def tw1328106248929040375:=Nat
def tw804790977897489842:=Nat
def tw10971583372938139381:=Nat
def tw5397467334678276289:=Nat
def tw7423754655975971964:=Nat
def tw5496335211030731062:=Nat
def tw14697893743223212067:=Nat
def tw13873834681687729158:=Nat
def tw6644732352021861526:=Nat
def tw15637285033777255179:=Nat
def tw14936880947846656592:=Nat
def tw2106582766496348458:=Nat
def tw4106606772679376396:=Nat
def tw8615331172661876969:=Nat
def tw8752624364737761703:=Nat
def tw7110100886393132029:=Nat
def tw10456365579995489830:=Nat
def tw11693442236405247121:=Nat
def tw18293133523182370771:=Nat
def tw7918043397792857847:=Nat
def tw4207403516288416267:=Nat
def tw4388096595180629608:=Nat
def tw431460456157858253:=Nat
def tw14401743037341528976:=Nat
def tw7020666507055170111:=Nat
def tw805058302987509289:=Nat
def tw9402710012202761490:=Nat
def tw12848933320708686433:=Nat
def tw16060367784823322297:=Nat
def tw15038166308415758079:=Nat
def tw4796816230979727408:=Nat
def tw536283026365852269:=Nat
def tw5268832523037730436:=Nat
def tw739831976542029152:=Nat
def tw12113475914360869740:=Nat
def tw17964438467934444741:=Nat
def tw11678964845316147309:=Nat
def tw12643204764323204934:=Nat
def tw3951472749014665182:=Nat
def tw7986695347786072858:=Nat
def tw10903101255604092131:=Nat
def tw15867623553963926949:=Nat
def tw2974732579237171625:=Nat
def tw4548894498935575686:=Nat
def tw8644018568660283303:=Nat
def tw16276486718509847809:=Nat
def tw11544862750482472608:=Nat
def tw10298822882152234829:=Nat
def tw14467989978584880143:=Nat
def tw12305577098420779908:=Nat
def tw4360681210321723767:=Nat
def tw13933773743587353753:=Nat
def tw9920950596230595039:=Nat
def tw17693304767230724966:=Nat
def tw955816448254476991:=Nat
def tw4273053404804192614:=Nat
def tw17669797404850566108:=Nat
def tw16806575039121295062:=Nat
def tw5243808506557286193:=Nat
def tw2750113907538926305:=Nat
def tw8433550788032739132:=Nat
def tw13808132883118100963:=Nat
def tw8751859723246063333:=Nat
def tw11526004188787537519:=Nat
def tw18223486395757739576:=Nat
def tw10784410538942214990:=Nat
def tw11516171496422000896:=Nat
def tw12939348179859451881:=Nat
def tw9655137805352822169:=Nat
def tw8314192411406698756:=Nat
def tw3648368032619438183:=Nat
def tw15581318506538227732:=Nat
def tw12369592347194690620:=Nat
def tw1147464651539467122:=Nat
def tw8496757678987991450:=Nat
def tw5863372090552590507:=Nat
def tw15826320232550438201:=Nat
def tw10348639296550721931:=Nat
def tw8596829664954768791:=Nat
def tw5012742279090832512:=Nat
def tw3372322450988326136:=Nat
def tw15716276689481546355:=Nat
def tw1174985361570656915:=Nat
def tw14685322027594143626:=Nat
def tw11540832516273334811:=Nat
def tw11924901351836548139:=Nat
def tw15630321364945734169:=Nat
def tw1867520045537255269:=Nat
def tw2347934246777785662:=Nat
def tw10094601837459135406:=Nat
def tw16674786624047206039:=Nat
def tw13790118997982364551:=Nat
def tw12017394787464749183:=Nat
def tw5730531037562280217:=Nat
def tw14873666361639798456:=Nat
def tw13355575675943049468:=Nat
def tw16681615303243658307:=Nat
def tw12223695032488863344:=Nat
def tw16365758711009045861:=Nat
def tw14314527403228308013:=Nat
def tw10579796607039783534:=Nat
def tw14382279057903684249:=Nat
def tw225398452649952824:=Nat
def tw16435428733235319628:=Nat
def tw17308520628259429430:=Nat
def tw13993590828045103592:=Nat
def tw15780114990080480397:=Nat
def tw15371796120712872899:=Nat
def tw12618054682915012349:=Nat
def tw8369151607722546327:=Nat
def tw15150664585502625518:=Nat
def tw10226548197752388017:=Nat
def tw10896840350337052265:=Nat
def tw6974795578561572298:=Nat
def tw17111826893931350454:=Nat
def tw3684074296668743027:=Nat
def tw2407205638417172387:=Nat
def tw14511627930313484808:=Nat
def tw16012234089558868264:=Nat
def tw17579565746581276711:=Nat
def tw5420518355414962697:=Nat
def tw10486451952058466059:=Nat
def tw6478944688052691726:=Nat
def tw2505016124872095440:=Nat
def tw14463252926270927831:=Nat
def tw2622043016301408282:=Nat
def tw17956027089043075504:=Nat
def tw79094776779141498:=Nat
def tw17031019972660713620:=Nat
def tw7931459578411778221:=Nat
def tw5395011509575737116:=Nat
def tw9870414490896145081:=Nat
def tw7336655016531658806:=Nat
def tw13705561526905685386:=Nat
def tw4785109789291977946:=Nat
def tw36713696543406192:=Nat
def tw4541082057673323174:=Nat
def tw14887164354677286190:=Nat
def tw6027377318637963076:=Nat
def tw10778960552220118610:=Nat
def tw14226643446659677728:=Nat
def tw14717716119354467737:=Nat
def tw8548393630845025914:=Nat
def tw18430466856633505313:=Nat
def tw3606246926568009934:=Nat
def tw15442149380745831236:=Nat
def tw13262881284865220165:=Nat
def tw10564643071856221043:=Nat
def tw5882623430023791112:=Nat
def tw11601590195667598568:=Nat
def tw12757978077636854575:=Nat
def tw4337472192120715071:=Nat
def tw14509859167438225804:=Nat
def tw4965852606674217571:=Nat
def tw75492585400172986:=Nat
def tw6700769805358100529:=Nat
def tw15949039130073805992:=Nat
def tw16066702615945341001:=Nat
def tw3104392020532347437:=Nat
def tw5787544142588985718:=Nat
def tw1325495448629736977:=Nat
def tw16995059440460525357:=Nat
def tw12242385598262893194:=Nat
def tw4397051887821220306:=Nat
def tw15785293322201296139:=Nat
def tw14603023406479788198:=Nat
def tw14583588439243759717:=Nat
def tw3418523644719877832:=Nat
def tw12389627080721557686:=Nat
def tw12872226862085850978:=Nat
def tw4927666166102644894:=Nat
def tw6535094102885952941:=Nat
def tw12826456798255499701:=Nat
def tw9601979395659801781:=Nat
def tw17122257144761537534:=Nat
def tw4863140115895409146:=Nat
def tw14636874671693092440:=Nat
def tw18377857265069858235:=Nat
def tw2208027754883131441:=Nat
def tw4091212869190471871:=Nat
def tw16896101963895627461:=Nat
def tw10925538951673866355:=Nat
def tw9133435981541037499:=Nat
def tw16814357910027798619:=Nat
def tw16708696862382728135:=Nat
def tw10174272771999830612:=Nat
def tw14363992266079814448:=Nat
def tw13760136114338452204:=Nat
def tw9931243142353156213:=Nat
def tw976441000704997801:=Nat
def tw14880192371257295480:=Nat
def tw574467620464244182:=Nat
def tw5764942062134653241:=Nat
def tw8650877399765724382:=Nat
def tw3382204432058841882:=Nat
def tw17955131168772057604:=Nat
def tw5117730397816340413:=Nat
def tw627408874297054501:=Nat
def tw14282812896547662596:=Nat
def tw4015963219366117354:=Nat
def tw10624724646297363576:=Nat
def tw6206505309669774599:=Nat
def tw13900684349254782199:=Nat
def tw18126577450167314648:=Nat
def tw15116389362665522460:=Nat
def tw13395331471059342054:=Nat
def tw16197256309232274608:=Nat
def tw16799624162444900902:=Nat
def tw9137247850137490945:=Nat
def tw784070295081797422:=Nat
def tw13028532924157385919:=Nat
def tw462068989628876480:=Nat
def tw5023432834611466241:=Nat
def tw6109016846078867029:=Nat
def tw11148398526416488460:=Nat
def tw14432622577844131601:=Nat
def tw8591041739641909317:=Nat
def tw5848689543918924595:=Nat
def tw8351102073605584412:=Nat
def tw5791599536301810584:=Nat
def tw14244509972506252495:=Nat
def tw6751830878462858964:=Nat
def tw18191388224591566615:=Nat
def tw3652580320204160232:=Nat
def tw16172888328346062399:=Nat
def tw1108887839562508230:=Nat
def tw5514674962913845082:=Nat
def tw17006697651263193977:=Nat
def tw18004769883089446928:=Nat
def tw17678108623104520690:=Nat
def tw9319920378801656739:=Nat
def tw1190860932351011041:=Nat
def tw18275338552849712046:=Nat
def tw7372210721574020288:=Nat
def tw2821245280143288782:=Nat
def tw5176448847288534142:=Nat
def tw6912534646936011810:=Nat
def tw7554923529272591613:=Nat
def tw4654013880952311393:=Nat
def tw12896026122238026404:=Nat
def tw10253810537584727051:=Nat
def tw18018945378333125956:=Nat
def tw11629998726436413448:=Nat
def tw16436745970335876372:=Nat
def tw10257864228260374377:=Nat
def tw13765683904898900078:=Nat
def tw11019384862457220004:=Nat
def tw8973662478627205203:=Nat
def tw8210823986074349564:=Nat
def tw18383540062232069604:=Nat
def tw13361250513724305799:=Nat
def tw8149998601375644105:=Nat
def tw18055824525502906942:=Nat
def tw1102792171305361241:=Nat
def tw11277364977218030919:=Nat
def tw13692936075016513616:=Nat
def tw14162972672401987335:=Nat
def tw7098731786286794770:=Nat
def tw17087364871692225502:=Nat
def tw9533679737342247497:=Nat
def tw15645095808879039067:=Nat
def tw12531181575428175643:=Nat
def tw14953719404415401164:=Nat
def tw3666481358481305060:=Nat
def tw3605763767928402020:=Nat
def tw9749513401599190352:=Nat
def tw5631006667475437438:=Nat
def tw6630017648530180795:=Nat
def tw15263799150604627503:=Nat
def tw13479017751358429447:=Nat
def tw17035336149802207827:=Nat
def tw4613323231791183029:=Nat
def tw18107326169119869017:=Nat
def tw5365612962553491034:=Nat
def tw3515332990809187351:=Nat
def tw2783245607345639288:=Nat
def tw2469641882797384197:=Nat
def tw1775869347691081018:=Nat
def tw15238582046895472791:=Nat
def tw13735948996846676669:=Nat
def tw1216105901089319304:=Nat
def tw1677612295654330085:=Nat
def tw11150909650237972990:=Nat
def tw12186326843756193143:=Nat
def tw11271521280553255301:=Nat
def tw281795929315542074:=Nat
def tw9995843714453300468:=Nat
def tw5744160678957802956:=Nat
def tw39248501457155536:=Nat
def tw1400183515163328142:=Nat
def tw10327646298135927688:=Nat
def tw1724531396000631973:=Nat
def tw8203276344446531501:=Nat
def tw16557480653909768392:=Nat
def tw3316178616676932402:=Nat
def tw17910265284048074558:=Nat
def tw13001465077052910232:=Nat
def tw4557221603794058749:=Nat
def tw12429505374053986082:=Nat
def tw12493073848038202562:=Nat
def tw6205892954109756819:=Nat
def tw12984629263780490491:=Nat
def tw11485707303619965941:=Nat
def tw15231671702771998436:=Nat
def tw14768511805470901552:=Nat
def tw17688873374757134925:=Nat
def tw10203707257333648579:=Nat
def tw11500035867386565814:=Nat
def tw9016264384668599987:=Nat
def tw6891818705739718483:=Nat
def tw17232010691898956299:=Nat
def tw15143586828124991951:=Nat
def tw17527849599021252915:=Nat
def tw14221746138640853028:=Nat
def tw3224877113261959455:=Nat
def tw6169278041819141981:=Nat
def tw7584492185298664348:=Nat
def tw14651533483187721541:=Nat
def tw524011490572743115:=Nat
def tw3166910965928360553:=Nat
def tw2878183239130803856:=Nat
def tw5733526370265881904:=Nat
def tw12371902780816836095:=Nat
end PySem.W.Fast
open PySem PySem.W PyProof.Rows
set_option maxRecDepth 100000 in
set_option maxHeartbeats 0 in
theorem PySem.Challenge.cw_nearnames_k43_look_round_holds : PySem.Challenge.rw_nearnames_k43_look_round.Holds := by
 w_on; o_law; k_head; (case hw=>w_witness2)
 k_fill
 refine NN.walk (l:=PySem.Challenge.rw_nearnames_k43_look_round) rfl rfl (fun w h Y=>PySem.W.km_in_of Y) (fun w h Y=>PySem.W.km_tabs_of Y) ?F
 case F =>
  intro w mg fa h KX G hmg
  refine' NN.all_mk KX G hmg ?aC0 ?pg0 ?hd0 ?po0 ?sa0 ?mk0 ?kc0 ?na0_0 ?na0_1 ?a0 ?i0 ?F0 ?a1 ?i1 ?F1 ?a2 ?i2 ?F2 ?a3 ?i3 ?F3 ?a4 ?i4 ?F4 ?aC1 ?pg1 ?hd1 ?po1 ?sa1 ?mk1 ?kc1 ?na1_0 ?na1_1 ?na1_2 ?na1_3 ?a5 ?i5 ?F5 ?a6 ?i6 ?F6 ?a7 ?i7 ?F7 ?a8 ?i8 ?l8 ?ld8 ?e8 ?k8 ?a9 ?i9 ?F9 ?a10 ?i10 ?F10 ?a11 ?i11 ?F11 ?aC2 ?pg2 ?hd2 ?po2 ?sa2 ?mk2 ?kc2 ?na2_0 ?na2_1 ?na2_2 ?na2_3 ?a12 ?i12 ?F12 ?a13 ?i13 ?F13 ?a14 ?i14 ?F14 ?a15 ?i15 ?F15 ?a16 ?i16 ?F16 ?a17 ?i17 ?F17 ?a18 ?i18 ?F18 ?a19 ?i19 ?F19 ?a20 ?i20 ?F20 ?a21 ?i21 ?F21 ?a22 ?i22 ?F22 ?a23 ?i23 ?l23 ?ld23 ?e23 ?k23 ?a24 ?i24 ?F24 ?a25 ?i25 ?F25 ?a26 ?i26 ?F26 ?a27 ?i27 ?F27 ?a28 ?i28 ?F28 ?a29 ?i29 ?F29 ?a30 ?i30 ?l30 ?e30 ?k30 ?t30 ?r30 ?h30 ?n30 ?m30 ?a31 ?i31 ?F31 ?a32 ?i32 ?F32 ?a33 ?i33 ?F33 ?a34 ?i34 ?F34 ?a35 ?i35 ?F35 ?a36 ?i36 ?F36 ?a37 ?i37 ?l37 ?e37 ?k37 ?t37 ?r37 ?h37 ?n37 ?m37 ?aE0 ?xE0 ?aE1 ?xE1 ?aE2 ?xE2 ?aE3 ?xE3 ?aE4 ?xE4 ?aE5 ?xE5 ?aE6 ?xE6 ?aE7 ?xE7 ?fg5_ ?fg6_ ?fa_g1 ?fa_g2 ?fa_g3 ?fa_g4 ?fa_g7 ?fa_g8 ?fa_mr ?fa_m0 ?fa_m1 ?fa_m2 ?fa_m3 ?fa_m4 ?fa_m5 ?fa_m6 ?fa_mv ?fb_g1 ?fb_g2 ?fb_g3 ?fb_g4 ?fb_g7 ?fb_g8 ?fb_mr ?fb_m0 ?fb_m1 ?fb_m2 ?fb_m3 ?fb_m4 ?fb_m5 ?fb_m6 ?fb_mv ?a38 ?l38 ?e38 ?k38 ?t38 ?r38 ?h38 ?n38 ?m38 ?a39 ?l39 ?e39 ?k39 ?t39 ?r39 ?h39 ?n39 ?m39 ?a40 ?F40 ?a41 ?F41 ?a42 ?F42 ?a43 ?F43 ?a44 ?F44 ?a45 ?F45 ?a46 ?F46 ?a47 ?F47 ?a48 ?F48 ?a49 ?F49 ?a50 ?F50 ?a51 ?F51 ?a52 ?F52 ?a53 ?F53 ?a54 ?F54 ?a55 ?F55 ?a56 ?F56 ?a57 ?F57 ?a58 ?F58 ?a59 ?F59 ?a60 ?F60 ?a61 ?F61 ?a62 ?F62 ?a63 ?F63 ?a64 ?F64 ?a65 ?F65 ?a66 ?F66 ?a67 ?F67 ?a68 ?F68 ?a69 ?F69 ?a70 ?F70 ?a71 ?F71 ?a72 ?F72 ?a73 ?F73 ?a74 ?F74 ?a75 ?l75 ?e75 ?k75 ?al0 ?hne01 ?hne02 ?hne12 ?hne03 ?hne13 ?hne23 ?z0 ?z1 ?z2 ?z3 ?z4 ?z5 ?z6 ?z7 ?z8 ?z9 ?z10 ?z11 ?z12 ?z13 ?z14 ?z15 ?z16
  (case aC0 | pg0 | hd0 | po0 | sa0 | mk0 | kc0 | na0_0 | na0_1 | a0 | i0 | a1 | i1 | a2 | i2 | a3 | i3 | a4 | i4 | aC1 | pg1 | hd1 | po1 | sa1 | mk1 | kc1 | na1_0 | na1_1 | na1_2 | na1_3 | a5 | i5 | a6 | i6 | a7 | i7 | a8 | i8 | l8 | ld8 | e8 | k8 | a9 | i9 | a10 | i10 | a11 | i11 | aC2 | pg2 | hd2 | po2 | sa2 | mk2 | kc2 | na2_0 | na2_1 | na2_2 | na2_3 | a12 | i12 | a13 | i13 | a14 | i14 | a15 | i15 | a16 | i16 | a17 | i17 | a18 | i18 | a19 | i19 | a20 | i20 | a21 | i21 | a22 | i22 | a23 | i23 | l23 | ld23 | e23 | k23 | a24 | i24 | a25 | i25 | a26 | i26 | a27 | i27 | a28 | i28 | a29 | i29 | a30 | i30 | l30 | e30 | k30 | t30 | a31 | i31 | a32 | i32 | a33 | i33 | a34 | i34 | a35 | i35 | a36 | i36 | a37 | i37 | l37 | e37 | k37 | t37 | aE0 | aE1 | aE2 | aE3 | aE4 | aE5 | aE6 | aE7 | fg5_ | fg6_ | fa_g1 | fa_g2 | fa_g3 | fa_g4 | fa_g7 | fa_g8 | fb_g1 | fb_g2 | fb_g3 | fb_g4 | fb_g7 | fb_g8 | a38 | l38 | e38 | k38 | t38 | a39 | l39 | e39 | k39 | t39 | a40 | a41 | a42 | a43 | a44 | a45 | a46 | a47 | a48 | a49 | a50 | a51 | a52 | a53 | a54 | a55 | a56 | a57 | a58 | a59 | a60 | a61 | a62 | a63 | a64 | a65 | a66 | a67 | a68 | a69 | a70 | a71 | a72 | a73 | a74 | a75 | l75 | e75 | k75 | al0 | z0 | z1 | z2 | z3 | z4 | z5 | z6 | z7 | z8 | z9 | z10 | z11 | z12 | z13 | z14 | z15 | z16=>k_is)
  (case F0 | F1 | F2 | F3 | F4 | F5 | F6 | F7 | F9 | F10 | F11 | F12 | F13 | F14 | F15 | F16 | F17 | F18 | F19 | F20 | F21 | F22 | F24 | F25 | F26 | F27 | F28 | F29 | F31 | F32 | F33 | F34 | F35 | F36 | F40 | F41 | F42 | F43 | F44 | F45 | F46 | F47 | F48 | F49 | F50 | F51 | F52 | F53 | F54 | F55 | F56 | F57 | F58 | F59 | F60 | F61 | F62 | F63 | F64 | F65 | F66 | F67 | F68 | F69 | F70 | F71 | F72 | F73 | F74=>exact zkf (by k_is) (by k_is) (by k_is))
  (case r30 | r37 | r38 | r39=>exact rfl)
  (case h30 | n30 | h37 | n37 | fa_mr | fa_m0 | fa_m1 | fa_m2 | fa_m3 | fa_m4 | fa_m5 | fa_m6 | fa_mv | fb_mr | fb_m0 | fb_m1 | fb_m2 | fb_m3 | fb_m4 | fb_m5 | fb_m6 | fb_mv | h38 | n38 | h39 | n39=>kernel_rfl)
  (case m30 | m37 | m38 | m39 | hne01 | hne02 | hne12 | hne03 | hne13 | hne23=>decide)
  (case xE0 | xE1 | xE2 | xE3 | xE4 | xE5 | xE6 | xE7=>k_exc)
#print axioms PySem.Challenge.cw_nearnames_k43_look_round_holds
