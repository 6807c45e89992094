import PyProof.Rows.All
import Wide.All
import OpenK.AllK
import Wide.FinOn
import Lean
import PyProof.EqAt
import PyProof.EqKinds
import PyProof.TupleCall
import PySem.Challenge.RW_knotless_k32_any_order_of_arrivals
open List renaming getElem?_eq_getElem -> aa, length_map -> ah, getElem?_eq_some_iff -> ai, getElem?_map -> ak, range -> au, getD_eq_getElem?_getD -> av, length_append -> aB, map_append -> aJ, getElem_mem -> aK, mem_map -> aN, mem_singleton -> aP, mem_of_getElem? -> aQ, length_cons -> aS, size_toArray -> aW, mem_append -> aY, length_range -> aZ, map_cons -> bg, mem_cons_of_mem -> bh, mem_cons -> br, getElem?_append_left -> bB, getElem?_append_right -> bD, mem_range -> bE, mem_cons_self -> bI, mem_filter -> bM, mem_append_right -> bN, mem_map_of_mem -> bP, append_nil -> bQ, mem_append_left -> bV, length_filter_le -> bW, length_take -> bZ, map_map -> cC, filter_cons_of_pos -> cD, filter_cons_of_neg -> cE, filterMap_cons -> cR, length_set -> cW, take_succ_eq_append_getElem -> dj, nodup_cons -> dB, map_congr_left -> dF, lookup_cons -> eK, filter_cons -> fC, nodup_append -> fR, getElem?_range -> fT, range_succ -> gk, length_eq_zero_iff -> gM, getElem?_eq_none -> iG, getElem?_of_mem -> i9, append_assoc -> jc, take_length -> jP, nodup_nil -> ki, filter_append -> kZ, foldl_cons -> lD, lookup -> oY, filter_sublist -> oZ, getElem?_take_of_lt -> p6, mem_filterMap -> qJ, find?_cons -> qK, pairwise_map -> tN, getElem?_inj -> tO, foldl_append -> tP, flatMap_cons -> tQ, set_append_right -> uO, map_nil -> uP, filterMap_append -> uQ, any_eq_true -> vG
open PySem.W renaming Frag -> af, findIn -> aG, nsIn -> bG, mg_none_of -> cy, mg_of -> cO, kia_one -> dw, keepIn -> dH, fnOf -> dU, emptyDict -> fQ, codeIn -> iU, instObj -> jb, hasDictIn -> tL, plainGet -> vF
open Nat renaming le_refl -> az, le_trans -> aO, zero_le -> aV, ne_of_lt -> bu, lt_of_lt_of_le -> bH, lt_of_le_of_lt -> cz, sub_self -> dX, le_succ -> eS, le_of_lt -> gR, add_le_add_left -> gV, lt_irrefl -> jJ, add_le_add_right -> m5, le_add_right -> oV
open Bool renaming false_ne_true -> aD, and_eq_true -> cu, eq_iff_iff -> jf, or_eq_true -> lE, not_eq_true' -> tR
open Option.some renaming inj -> aL
open Option renaming some_ne_none -> aT
open PySem.F renaming plainAttrs_list -> bq, type_list_append -> bx, slot_list_append -> bz
open Int renaming emod_nonneg -> bR, emod_lt_of_pos -> bY, toNat_natCast -> dP, zero_add -> eU
open Ne renaming symm -> bT
open Sum renaming inl -> cV
open Array renaming length_toList -> fU, getD_eq_getD_getElem? -> lF, getElem?_eq_some_iff -> mW, getElem?_toList -> uR
open True renaming intro -> ja
open ForInStep renaming yield -> jd
open False renaming elim -> je
open List.cons renaming inj -> mT
open Sum.inl renaming inj -> oW
open PySem renaming mem_of_lookup -> oX
open List.Nodup renaming sublist -> qL
open PyProof.Rows renaming slot_tuple_getitem -> tM
set_option Elab.async false
set_option linter.all false
set_option maxRecDepth 100000
namespace L2
open PySem PySem.Spec PyProof.Rows
abbrev Key:=Sum Int Str
noncomputable def Fx:Key->Value->Bool
 | .inl k,v=>Value.isInt k v
 | .inr x,v=>Value.isStrOf x v
noncomputable def ad3(w:World):Key->Int
 | .inl k=>hashInt k
 | .inr x=>hashStr w x
theorem f9:∀ {k:Key} {v:Value},Fx k v=true->(∃ i t,k=cV i/\v=Value.int i t)∨(∃ x t,k=Sum.inr x/\v=Value.str x t)
 | .inl i,v,h=>by
  obtain⟨t,e⟩:=Value.isInt_shape (k:=i) (v:=v) h
  exact .inl ⟨i,t,rfl,e⟩
 | .inr x,v,h=>by
  obtain⟨t,e⟩:=Value.isStrOf_shape (x:=x) (v:=v) h
  exact .inr ⟨x,t,rfl,e⟩
theorem Qy(i:Int)(t:Tok):Fx (.inl i) (.int i t)=true:=by simp[Fx,Value.isInt]
theorem Qz(x:Str)(t:Tok):Fx (.inr x) (.str x t)=true:=by simp[Fx,Value.isStrOf]
theorem Ym(a b:Int):decide ((cV a:Key)=cV b)=(a == b):=by
 by_cases e:a=b
 ·subst e; simp
 ·have h:¬ (cV a:Key)=cV b:=λq=>e (oW q)
  rw[decide_eq_false h]
  exact (beq_eq_false_iff_ne.mpr e).symm
theorem Yn(a b:Str):decide ((Sum.inr a:Key)=Sum.inr b)=decide (a=b):=by
 by_cases e:a=b
 ·subst e; simp
 ·have h:¬ (Sum.inr a:Key)=Sum.inr b:=λq=>e (Sum.inr.inj q)
  rw[decide_eq_false h,decide_eq_false e]
theorem Yo(a:Int)(b:Str):decide ((cV a:Key)=Sum.inr b)=false:=decide_eq_false (λq=>nomatch q)
theorem Yp(a:Str)(b:Int):decide ((Sum.inr a:Key)=cV b)=false:=decide_eq_false (λq=>nomatch q)
noncomputable def dJ(prog:Program)(w:World):PySem.KeyKind prog w Key where
 is:=Fx
 hash:=ad3 w
 inj:=λv a b ha hb=>by
  rcases f9 ha with ⟨i,t,rfl,rfl⟩ | ⟨x,t,rfl,rfl⟩
  ·rcases f9 hb with ⟨j,u,rfl,e⟩ | ⟨y,u,rfl,e⟩
   ·injection e with e1 _; rw[e1]
   ·exact nomatch e
  ·rcases f9 hb with ⟨j,u,rfl,e⟩ | ⟨y,u,rfl,e⟩
   ·exact nomatch e
   ·injection e with e1 _; rw[e1]
 byValue:=λk v h=>by
  rcases f9 h with ⟨i,t,rfl,rfl⟩ | ⟨x,t,rfl,rfl⟩ <;> rfl
 pyHash:=λhv h=>by
  rcases f9 hv with ⟨i,t,rfl,rfl⟩ | ⟨x,t,rfl,rfl⟩
  ·exact wpAny_pyHash_int h
  ·exact wpAny_pyHash_str h
 eqBool:=λhu hv h=>by
  rcases f9 hu with ⟨i,t,rfl,rfl⟩ | ⟨x,t,rfl,rfl⟩
  ·rcases f9 hv with ⟨j,u,rfl,rfl⟩ | ⟨y,u,rfl,rfl⟩
   ·rw[Ym] at h; exact wpAny_eqBool_int h
   ·rw[Yo] at h; exact SeqAt.EqAt.int_str i t y u _ _ _ _ h
  ·rcases f9 hv with ⟨j,u,rfl,rfl⟩ | ⟨y,u,rfl,rfl⟩
   ·rw[Yp] at h; exact SeqAt.EqAt.str_int x t j u _ _ _ _ h
   ·rw[Yn] at h; exact wpAny_eqBool_str h
 «strs»:=λk x t v h=>by
  rcases f9 h with ⟨i,u,rfl,e⟩ | ⟨y,u,rfl,e⟩
  ·exact nomatch e
  ·injection e with e1 _
   subst e1
   cases v <;> rfl
theorem Lm(prog:Program)(w:World)(i:Int)(t:Tok):(dJ prog w).is (.inl i) (.int i t)=true:=Qy i t
theorem Ln(prog:Program)(w:World)(x:Str)(t:Tok):(dJ prog w).is (.inr x) (.str x t)=true:=Qz x t
inductive V where
 | fh | bl (b:Bool) | int (i:Int) | str (x:Str) | OU (b:Array UInt8) | Yq (b:UInt64) | ref (a:Addr) | ty (n:String)
 deriving DecidableEq
def RelV:V->Value->Prop
 | .fh,u=>u=Value.none
 | .bl b,u=>u=Value.bool b
 | .int i,u=>∃ t,u=Value.int i t
 | .str x,u=>∃ t,u=Value.str x t
 | .OU b,u=>∃ t,u=Value.bytes b t
 | .Yq b,u=>∃ t,u=Value.float b t
 | .ref a,u=>u=Value.ref a
 | .ty n,u=>u=Value.type n
abbrev b6:List V->List Value->Prop:=Paired RelV
theorem b6.length{xs:List V}{us:List Value}(r:b6 xs us):xs.length=us.length:=Paired.length r
theorem b6.get:∀ {xs:List V} {us:List Value} {i:Nat} {x:V},b6 xs us->xs[i]?=some x->∃ u,us[i]?=some u/\RelV x u
 | _,_,_,_,.nil,e=>by simp at e
 | _,_,0,_,.cons r _,e=>by simp at e; subst e; exact⟨_,rfl,r⟩
 | _,_,i + 1,x,.cons _ t,e=>by
  obtain⟨u,h1,h2⟩:=b6.get (i:=i) (x:=x) t (by simpa using e)
  exact⟨u,by simpa using h1,h2⟩
theorem b6.set{x:V}{u:Value}(r:RelV x u):∀ {xs:List V} {us:List Value} (i:Nat),b6 xs us->b6 (xs.set i x) (us.set i u)
 | _,_,_,.nil=>.nil
 | _,_,0,.cons _ t=>.cons r t
 | _,_,i + 1,.cons q t=>.cons q (b6.set r i t)
theorem b6.append:∀ {xs ys:List V} {us ws:List Value},b6 xs us->b6 ys ws->b6 (xs++ys) (us++ws)
 | _,_,_,_,.nil,s=>s
 | _,_,_,_,.cons r t,s=>.cons r (b6.append t s)
theorem b6.take:∀ {xs:List V} {us:List Value} (n:Nat),b6 xs us->b6 (xs.take n) (us.take n)
 | _,_,0,_=>.nil
 | _,_,_ + 1,.nil=>.nil
 | _,_,n + 1,.cons r t=>.cons r (b6.take n t)
theorem b6.drop:∀ {xs:List V} {us:List Value} (n:Nat),b6 xs us->b6 (xs.drop n) (us.drop n)
 | _,_,0,r=>r
 | _,_,_ + 1,.nil=>.nil
 | _,_,n + 1,.cons _ t=>b6.drop n t
def xQ:Option V->Option Value->Prop
 | some v,some u=>RelV v u
 | none,none=>True
 | _,_=>False
def KV{κ:Type}:List (κ × V)->List (κ × Value)->Prop:=Paired λ(p:κ × V) (q:κ × Value)=>p.1=q.1/\RelV p.2 q.2
noncomputable def kV:Key->V
 | .inl i=>.int i
 | .inr x=>.str x
inductive HO where
 | lst (xs:List V)
 | tup (xs:List V)
 | dK (kvs:List (Key × V)) | dT (kvs:List (List Key × V))
 | set (S:Int->Bool) (n:Nat)
 | ins (C dx:Addr) (fs:List (Str × V))
 | own (x:Addr)
 | xd (fs:List (Str × V))
 | met (f x:Addr)
 | R9 (lo hi:Int)
 | Lo (o:Obj) (u:HO)
 | W1 (ps:Array Value)
 | ext (φ:Heap->Prop)
abbrev Hp:=Addr->Option HO
noncomputable def upd(H:Hp)(a:Addr)(o:HO):Hp:=λb=>if b=a then some o else H b
theorem ay{H:Hp}{a:Addr}{o:HO}:upd H a o a=some o:=by unfold upd; rw[if_pos rfl]
theorem aI{H:Hp}{a b:Addr}{o:HO}(h:b≠a):upd H a o b=H b:=by unfold upd; rw[if_neg h]
theorem JV{H:Hp}{a:Addr}{o u:HO}:upd (upd H a o) a u=upd H a u:=by
 funext b; unfold upd; split <;> rfl
theorem xu{H:Hp}{a b:Addr}{o u:HO}(h:H a=some o)(h':H b=some u)(d:o≠u):a≠b:=by
 intro e; subst e; rw[h] at h'; exact d (aL h')
theorem aR{H:Hp}{a b:Addr}{o:HO}(h:H a=some o)(h':H b=none):a≠b:=by
 intro e; subst e; rw[h] at h'; cases h'
section
variable(P:Program)(w:World)
def gD(H:Hp)(h:Heap)(a:Addr):HO->Prop
 | .lst xs=>xs.length<=sizeLine/\∃ (its:List Value) (n:Nat),b6 xs its/\h.get? a=some { cls:=.type "list",data:=.seq its.toArray n }
 | .tup xs=>xs.length<=sizeLine/\∃ its:List Value,b6 xs its/\IsTup h a its.toArray
 | .dK kvs=>kvs.length<=sizeLine/\(a == sysModules)=false/\∃ vs,KV kvs vs/\h.DictOf (dJ P w) a vs
 | .dT kvs=>kvs.length<=sizeLine/\(a == sysModules)=false/\∃ xs:List (List Key × Addr × Value),
  Paired (λ(p:List Key × V) (q:List Key × Addr × Value)=>p.1=q.1/\H q.2.1=some (.tup (p.1.map kV))/\RelV p.2 q.2.2) kvs xs /\
  ∃ o es ep,h.get? a=some o/\o.ExactDict/\o.data = .dict es ep/\es.toList=xs.map (entryOfKey (tupleKind (dJ P w)))/\(xs.map (·.1)).Nodup
 | .set S n=>h.SetOf (intKind P w) a S n
 | .ins C dx fs=>H dx=some (.own a)/\fs.length<=1000/\dx≠a/\h.get? a=some (jb C dx) /\
  ∃ mA,h.Ns1 dx mA/\(∀ f,xQ (fs.lookup f) (mA f))/\PySem.Within mA (fs.map (·.1))
 | .own _=>∃ o,h.get? a=some o
 | .xd fs=>∃ mA,h.Ns1 a mA/\∀ f,xQ (fs.lookup f) (mA f)
 | .R9 lo hi=>∃ t u v,h.get? a=some { cls:=.type "range",data:=.fields #[.int lo t,.int hi u,.int 1 v] }
 | .Lo o u=>h.get? a=some o/\gD H h a u
 | .W1 ps=>h.get? a=some { cls:=.none,data:=.fields ps }
 | .met f x=>h.get? a=some (PySem.W.methodObj (.ref f) (.ref x))
 | .ext φ=>φ h/\(∃ o,h.get? a=some o)/\∀ h1 h2:Heap,φ h1->(∀ o,h1.get? a=some o->h2.get? a=some o)->φ h2
def xZ(H:Hp)(h:Heap):Prop:=∀ a o,H a=some o->gD P w H h a o
end
section
variable{P:Program}{w:World}{H H':Hp}{h h':Heap}{a:Addr}{o:HO}
theorem gD.lt(x:gD P w H h a o):a < h.objs.size:=by
 cases o with
 | lst xs=>obtain⟨_,_,_,_,e⟩:=x; exact Heap.lt_size e
 | tup xs=>obtain⟨_,_,_,p⟩:=x; exact p.lt
 | dK kvs=>obtain⟨_,_,_,_,o,_,_,e,_⟩:=x; exact Heap.lt_size e
 | dT kvs=>obtain⟨_,_,_,_,o,_,_,e,_⟩:=x; exact Heap.lt_size e
 | set S n=>obtain⟨o,_,_,_,e,_⟩:=x; exact Heap.lt_size e
 | ins C dx fs=>obtain⟨_,_,_,e,_⟩:=x; exact Heap.lt_size e
 | own y=>obtain⟨_,e⟩:=x; exact Heap.lt_size e
 | xd fs=>obtain⟨_,⟨_,_,_,e,_⟩,_⟩:=x; exact Heap.lt_size e
 | R9 lo hi=>obtain⟨_,_,_,e⟩:=x; exact Heap.lt_size e
 | Lo ob u=>obtain⟨e,_⟩:=x; exact Heap.lt_size e
 | W1 ps=>exact Heap.lt_size (show h.get? a=some _ from x)
 | met f y=>exact Heap.lt_size (show h.get? a=some _ from x)
 | ext φ=>obtain⟨_,⟨_,e⟩,_⟩:=x; exact Heap.lt_size e
theorem Paired.Yr{α β:Type}{F G:α->β->Prop}:∀ {l₁:List α} {l₂:List β},Paired F l₁ l₂->(∀ a b,F a b->G a b)->Paired G l₁ l₂
 | _,_,.nil,_=>.nil
 | _,_,.cons r t,f=>.cons (f _ _ r) (Paired.Yr t f)
theorem gD.stay(x:gD P w H h a o)(k:∀ b u,(b=a∨H b=some (.own a))->h.get? b=some u->h'.get? b=some u)
 (ho:∀ b,H b=some (.own a)->H' b=some (.own a)) (ht:∀ b xs,H b=some (.tup xs)->H' b=some (.tup xs)):gD P w H' h' a o:=by
 induction o with
 | lst xs=>obtain⟨z,its,n,r,e⟩:=x; exact⟨z,its,n,r,k _ _ (.inl rfl) e⟩
 | tup xs=>obtain⟨z,its,r,ob,e,c⟩:=x; exact⟨z,its,r,ob,k _ _ (.inl rfl) e,c⟩
 | dK kvs=>obtain⟨z,y,vs,r,ob,es,ep,e,c⟩:=x; exact⟨z,y,vs,r,ob,es,ep,k _ _ (.inl rfl) e,c⟩
 | dT kvs =>
  obtain⟨z,y,xs,r,ob,es,ep,e,c⟩:=x
  exact⟨z,y,xs,Paired.Yr r λp q z=>⟨z.1,ht _ _ z.2.1,z.2.2⟩,ob,es,ep,k _ _ (.inl rfl) e,c⟩
 | set S n=>obtain⟨ob,es,ep,t,e,c⟩:=x; exact⟨ob,es,ep,t,k _ _ (.inl rfl) e,c⟩
 | ins C dx fs =>
  obtain⟨d,z,ne,e,mA,⟨od,es,ep,e2,c⟩,r⟩:=x
  exact⟨ho _ d,z,ne,k _ _ (.inl rfl) e,mA,⟨od,es,ep,k _ _ (.inr d) e2,c⟩,r⟩
 | own y=>obtain⟨ob,e⟩:=x; exact⟨ob,k _ _ (.inl rfl) e⟩
 | xd fs=>obtain⟨mA,⟨od,es,ep,e,c⟩,r⟩:=x; exact⟨mA,⟨od,es,ep,k _ _ (.inl rfl) e,c⟩,r⟩
 | R9 lo hi=>obtain⟨t,u,v,e⟩:=x; exact⟨t,u,v,k _ _ (.inl rfl) e⟩
 | Lo ob u ih=>obtain⟨e,q⟩:=x; exact⟨k _ _ (.inl rfl) e,ih q⟩
 | W1 ps =>
  have e:h.get? a=some { cls:=.none,data:=.fields ps }:=x
  show h'.get? a=some { cls:=.none,data:=.fields ps }
  exact k a _ (.inl rfl) e
 | met f y =>
  have e:h.get? a=some (PySem.W.methodObj (.ref f) (.ref y)):=x
  show h'.get? a=some (PySem.W.methodObj (.ref f) (.ref y))
  exact k a _ (.inl rfl) e
 | ext φ=>obtain⟨p,⟨o,e⟩,st⟩:=x; exact⟨st _ _ p λo q=>k _ _ (.inl rfl) q,⟨o,k _ _ (.inl rfl) e⟩,st⟩
theorem xZ.lt(x:xZ P w H h)(e:H a=some o):a < h.objs.size:=(x a o e).lt
theorem xZ.fresh(x:xZ P w H h)(e:h.objs.size<=a):H a=none:=by
 cases q:H a with
 | none=>rfl
 | some u=>exact absurd (bH (x.lt q) e) (jJ _)
theorem xZ.kept(x:xZ P w H h)(k:∀ b u,h.get? b=some u->h'.get? b=some u):xZ P w H h':=λa o e =>
 (x a o e).stay (λb u _ q=>k b u q) (λ_ q=>q) λ_ _ q=>q
theorem xZ.laid(x:xZ P w H h)(k:∀ b u,h.get? b=some u->h'.get? b=some u)(hp:h.objs.size<=a)(new:gD P w (upd H a o) h' a o):xZ P w (upd H a o) h':=λb u e=>by
 have hn:=x.fresh hp
 by_cases hb:b=a
 ·subst hb; rw[ay] at e; cases e; exact new
 ·rw[aI hb] at e
  exact (x b u e).stay (λc v _ q=>k c v q) (λc q=>by rw[aI (aR q hn)]; exact q) λc xs q=>by rw[aI (aR q hn)]; exact q
end
def Rd(H:Hp)(a:Addr)(u:HO):Prop:=H a=some u∨∃ o,H a=some (.Lo o u)
theorem Rd.ok{P:Program}{w:World}{H:Hp}{h:Heap}{a:Addr}{u:HO}(r:Rd H a u)(x:xZ P w H h):gD P w H h a u:=by
 rcases r with r | ⟨o,r⟩
 ·exact x a u r
 ·obtain⟨_,q⟩:=x a _ r
  exact q
def Mut:Option HO->Prop
 | some (.lst _)=>True
 | some (.dK _)=>True
 | some (.dT _)=>True
 | some (.set _ _)=>True
 | some (.ins _ _ _)=>True
 | some (.ext _)=>True
 | _=>False
section
variable{P:Program}{w:World}{H:Hp}{h h':Heap}{x e:Addr}{o':HO}
theorem xZ.write(ok:xZ P w H h)(mu:Mut (H x))(he:e=x∨H e=some (.own x))(k:∀ b u,b≠e->h.get? b=some u->h'.get? b=some u)(heo:∃ u,h'.get? e=some u)
 (new:gD P w (upd H x o') h' x o'):xZ P w (upd H x o') h':=λb u q=>by
 have aaT:∀ c y,H c=some (.own y)->c≠x:=λc y r z=>by subst z; rw[r] at mu; exact mu
 have ad4:∀ c xs,H c=some (.tup xs)->c≠x:=λc xs r z=>by subst z; rw[r] at mu; exact mu
 by_cases hb:b=x
 ·subst hb; rw[ay] at q; cases q; exact new
 ·rw[aI hb] at q
  by_cases Ys:b=e
  ·have q':H b=some (.own x):=by
    rcases he with z | z
    ·exact absurd (Ys.trans z) hb
    ·rw[Ys]; exact z
   rw[q] at q'; cases q'
   obtain⟨v,hv⟩:=heo
   exact⟨v,by rw[Ys]; exact hv⟩
  ·refine (ok b u q).stay (λc v hc r=>k c v ?_ r) (λc r=>by rw[aI (aaT c b r)]; exact r) λc xs r=>by rw[aI (ad4 c xs r)]; exact r
   rcases hc with rfl | hc
   ·exact Ys
   ·rintro rfl
    rcases he with z | z
    ·exact aaT c b hc z
    ·rw[hc] at z; cases z; exact hb rfl
end
structure Un(fs ex:List Addr)(H H':Hp)(h h':Heap):Prop where
 keep:∀ b o,h.get? b=some o->H b=none->b ∉ fs->b ∉ ex->h'.get? b=some o
 slot:∀ b o,h.get? b=some o->H b=none->b∈fs->b ∉ ex->∃ sl,h'.get? b=some { o with slots:=sl }
 free:∀ b o,h.get? b=some o->H b=none->b ∉ ex->H' b=none
 there:∀ b o,h.get? b=some o->b ∉ ex->∃ o',h'.get? b=some o'
 tups:∀ b xs,H b=some (.tup xs)->H' b=some (.tup xs)
 BB:∀ b o u,H b=some (.Lo o u)->H' b=some (.Lo o u)
 CN:∀ b ps,H b=some (.W1 ps)->∃ more,H' b=some (.W1 (ps++more))
section
variable{fs fs' ex ex':List Addr}{H H1 H2:Hp}{h h1 h2 h':Heap}{a x e:Addr}{o:HO}
theorem Un.any(u:Un fs ex H H1 h h1){b:Addr}{ob:Obj}(q:h.get? b=some ob)(n:H b=none)(hx:b ∉ ex):∃ sl,h1.get? b=some { ob with slots:=sl }:=by
 by_cases hb:b∈fs
 ·exact u.slot b ob q n hb hx
 ·exact⟨ob.slots,u.keep b ob q n hb hx⟩
theorem Un.trans(a:Un fs ex H H1 h h1)(b:Un fs ex H1 H2 h1 h2):Un fs ex H H2 h h2 where
 keep:=λc ob q n hc hx=>b.keep c ob (a.keep c ob q n hc hx) (a.free c ob q n hx) hc hx
 slot:=λc ob q n hc hx=>by
  obtain⟨sl,e1⟩:=a.slot c ob q n hc hx
  obtain⟨sl',e2⟩:=b.slot c _ e1 (a.free c ob q n hx) hc hx
  exact⟨sl',e2⟩
 free:=λc ob q n hx=>by
  obtain⟨o',e1⟩:=a.there c ob q hx
  exact b.free c o' e1 (a.free c ob q n hx) hx
 there:=λc ob q hx=>by
  obtain⟨o',e1⟩:=a.there c ob q hx
  exact b.there c o' e1 hx
 tups:=λc xs q=>b.tups c xs (a.tups c xs q)
 BB:=λc ob xs q=>b.BB c ob xs (a.BB c ob xs q)
 CN:=λc ps q=>by
  obtain⟨m1,e1⟩:=a.CN c ps q
  obtain⟨m2,e2⟩:=b.CN c _ e1
  exact⟨m1++m2,by rw[e2,Array.append_assoc]⟩
theorem Un.kept(k:∀ b u,h.get? b=some u->h'.get? b=some u):Un fs ex H H h h' :=
 ⟨λb ob q _ _ _=>k b ob q,λb ob q _ _ _=>⟨ob.slots,k b ob q⟩,λ_ _ _ n _=>n,λb ob q _=>⟨ob,k b ob q⟩,λ_ _ q=>q,λ_ _ _ q=>q,λ_ ps q=>⟨#[],by rw[q]; simp⟩⟩
theorem Un.refl:Un fs ex H H h h:=Un.kept λ_ _ q=>q
theorem Un.laid(k:∀ b u,h.get? b=some u->h'.get? b=some u)(hp:h.objs.size<=a)(hn:H a=none):Un fs ex H (upd H a o) h h' where
 keep:=λb u q _ _ _=>k b u q
 slot:=λb u q _ _ _=>⟨u.slots,k b u q⟩
 free:=λb u q n _=>by rw[aI (bu (bH (Heap.lt_size q) hp))]; exact n
 there:=λb u q _=>⟨u,k b u q⟩
 tups:=λb xs q=>by rw[aI (aR q hn)]; exact q
 BB:=λb u xs q=>by rw[aI (aR q hn)]; exact q
 CN:=λb ps q=>⟨#[],by rw[aI (aR q hn),q]; simp⟩
theorem Un.write(mu:Mut (H x))(he:e=x∨H e=some (.own x))(k:∀ b u,b≠e->h.get? b=some u->h'.get? b=some u)(heo:∃ u,h'.get? e=some u):Un fs ex H (upd H x o) h h':=by
 have hx:∀ b,H b=none->b≠x:=λb n z=>by subst z; rw[n] at mu; exact mu
 have hb:∀ b,H b=none->b≠e:=λb n z=>by
  subst z
  rcases he with r | r
  ·exact hx b n r
  ·rw[n] at r; cases r
 have hm:∀ b u,H b=some u->¬ Mut (some u)->b≠x:=λb u q nm z=>by subst z; rw[q] at mu; exact nm mu
 refine⟨λb u q n _ _=>k b u (hb b n) q,λb u q n _ _=>⟨u.slots,k b u (hb b n) q⟩,λb u q n _=>by rw[aI (hx b n)]; exact n,λb u q _=>?_,
  λb xs q=>by rw[aI (hm b _ q λz=>z)]; exact q,λb u xs q=>by rw[aI (hm b _ q λz=>z)]; exact q,λb ps q=>⟨#[],by rw[aI (hm b _ q λz=>z),q]; simp⟩⟩
 by_cases Ys:b=e
 ·subst Ys; exact heo
 ·exact⟨u,k b u Ys q⟩
end
noncomputable def trk(h:Heap)(H:Hp):List Addr:=(au h.objs.size).filter λa=>(H a).isSome
noncomputable def JW(h:Heap)(H:Hp):Heap:=PySem.W.hideAll h (trk h H)
theorem QA(h:Heap)(H:Hp):(JW h H).objs.size=h.objs.size:=PySem.W.hideAll_size _ _
theorem Sa{h:Heap}{H:Hp}{b:Addr}{o:Obj}(e:h.get? b=some o)(n:H b=none):(JW h H).get? b=some o :=
 PySem.W.hideAll_get _ e λhm=>by
  have q:(H b).isSome=true:=(bM.mp hm).2
  rw[n] at q; simp at q
theorem Va{h:Heap}{H:Hp}{b:Addr}{o:Obj}(e:(JW h H).get? b=some o):h.get? b=some o/\H b=none:=by
 have e':h.get? b=some o:=PySem.W.of_hideAll (trk h H) e
 refine⟨e',?_⟩
 cases q:H b with
 | none=>rfl
 | some x =>
  have hm:b∈trk h H:=bM.mpr ⟨bE.mpr (Heap.lt_size e'),by simp[q]⟩
  have z:(JW h H).get? b=none:=PySem.W.hideAll_none (trk h H) hm
  rw[z] at e; cases e
noncomputable def BC(g h:Heap)(L:Addr):List (Addr × Obj):=(au h.objs.size).filterMap λa=>if a=L∨(g.get? a).isSome=true then none else (h.get? a).map λo=>(a,o)
theorem DX{g h:Heap}{L a:Addr}{o:Obj}(h1:a≠L)(h2:g.get? a=none)(h3:h.get? a=some o):(a,o)∈BC g h L :=
 qJ.mpr ⟨a,bE.mpr (Heap.lt_size h3),by simp[h1,h2,h3]⟩
theorem Fy{g h:Heap}{L:Addr}{p:Addr × Obj}(hp:p∈BC g h L):p.1≠L/\g.get? p.1=none/\h.get? p.1=some p.2:=by
 obtain⟨b,_,e⟩:=qJ.mp hp
 split at e
 ·cases e
 ·rename_i hn
  cases q:h.get? b with
  | none=>rw[q] at e; simp at e
  | some u =>
   rw[q] at e
   simp only[Option.map_some,Option.some.injEq] at e
   subst e
   refine⟨λz=>hn (.inl z),?_,q⟩
   show g.get? b=none
   cases r:g.get? b with
   | none=>rfl
   | some v=>exact (hn (.inr (by simp[r]))).elim
noncomputable def rest(g h:Heap)(L d:Addr):List (Addr × Obj):=(BC g h L).filter λp=>decide (p.1≠d)
theorem Sb{g h:Heap}{L:Addr}:News g L h (BC g h L):=λp hp=>let ⟨a,b,c⟩:=Fy hp; ⟨c,a,b⟩
structure Mod(K:af)(mg:Str->Option Value)(base:Heap):Prop where
 Yt:K.In base
 glob:base.Ns mainGlobals mg
 blt:∃ mb,base.Ns builtinsNs mb/\∀ x:Str,x≠"__name__" -> mb x=bootBuiltins x
 nolimit:base.NoLimit
structure Cx where
 prog:Program
 w:World
 K:af
 mg:Str->Option Value
 base:Heap
 A:Around
 N:List Str
 s₀:Shared
 H₀:Hp
 env:Env
 outer:List Env
 stack:List Env
 ex:List Addr
 fn:Str->Bool
 calm:Bool
 pn:List (Addr × Obj)
 xe:Value->Shared->Prop
noncomputable def frs(l:List Env):List Addr:=l.filterMap (·.frame)
noncomputable abbrev Cx.fs(X:Cx):List Addr:=frs X.outer
def Vis(sc:Scope)(x:Str):Prop:=sc.names.lookup x=some .local∨sc.names.lookup x=some .cell∨sc.names.lookup x=some .free
def Loc(sc:Scope)(x:Str):Prop:=sc.names.lookup x=some .local∨sc.names.lookup x=some .cell
def Look(env:Env)(h:Heap)(m:Str->Option Value)(x:Str)(u:Value):Prop :=
 (env.kindOf x=some .local/\m x=some u)∨((env.kindOf x=some .cell∨env.kindOf x=some .free)/\∃ c,env.cells.lookup x=some c/\h.IsCell c (some u))
structure Cx.Ok(X:Cx):Prop where
 mod:Mod X.K X.mg X.base
 kind:X.env.scope.kind = .function
 glob:X.env.globals=mainGlobals
 blt:X.env.builtins=builtinsNs
 above:X.s₀.heap.objs.size<=X.env.locals
 inj:∀ x y c,X.env.cells.lookup x=some c->X.env.cells.lookup y=some c->x=y
 has:∀ x,(X.env.kindOf x=some .cell∨X.env.kindOf x=some .free)->∃ c,X.env.cells.lookup x=some c
 cab:∀ x c,X.fn x=true->X.env.cells.lookup x=some c->X.s₀.heap.objs.size<=c
 hd:X.calm=true->X.A.handled=none
 frames:X.A.frames=some X.stack
 stk:X.stack=X.outer∨(X.stack=X.env :: X.outer/\X.env.frame=some X.env.locals)
 exf:∀ b∈X.ex,b≠X.env.locals/\∀ x c,X.env.cells.lookup x=some c->c≠b
 bs:∀ b o,X.base.get? b=some o->X.s₀.heap.get? b=some o/\X.H₀ b=none
 Sd:X.base.objs.size<=X.s₀.heap.objs.size
 QB:∀ b o,X.base.get? b=some o->b ∉ X.ex
 Se:∀ b∈X.ex,b ∉ X.fs
 BD:X.s₀.heap.FunFrames X.base X.outer
 W2:∀ b∈X.fs,X.H₀ b=none
structure Inv(X:Cx)(pins:List (Addr × Obj))(σ:List (Option V))(H:Hp)(s:Shared):Prop where
 ok:X.Ok
 os:s.os=X.s₀.os
 bare:AllBare s.gens
 base:Un X.fs X.ex X.H₀ H X.s₀.heap s.heap
 loc:∃ m,s.heap.Ns X.env.locals m/\∀ (i:Nat) (x:Str) (v:V),X.N[i]?=some x->σ[i]?=some (some v)->Vis X.env.scope x->∃ u,RelV v u/\Look X.env s.heap m x u
 cell:∀ x c,X.env.cells.lookup x=some c->∃ v,s.heap.IsCell c v
 free:H X.env.locals=none
 uS:∀ x c,X.env.cells.lookup x=some c->H c=none
 pin:∀ p∈X.pn++pins,s.heap.get? p.1=some p.2/\H p.1=none/\p.1≠X.env.locals/\p.1 ∉ X.fs/\∀ v,p.2.data≠.cell v
 hok:xZ X.prog X.w H s.heap
 len:σ.length=X.N.length
section
variable{X:Cx}{pins:List (Addr × Obj)}{σ:List (Option V)}{H H':Hp}{s:Shared}{h':Heap}
theorem Cx.Ok.ad7(ok:X.Ok){b:Addr}{o:Obj}(e:X.base.get? b=some o):b ∉ X.fs:=λhb=>by
 have:=(ok.BD.mem hb).1
 rw[e] at this; cases this
theorem Inv.bs(I:Inv X pins σ H s):∀ b o,X.base.get? b=some o->s.heap.get? b=some o/\H b=none:=λb o e =>
 ⟨I.base.keep b o (I.ok.bs b o e).1 (I.ok.bs b o e).2 (I.ok.ad7 e) (I.ok.QB b o e),I.base.free b o (I.ok.bs b o e).1 (I.ok.bs b o e).2 (I.ok.QB b o e)⟩
theorem Inv.bk(I:Inv X pins σ H s):∀ b o,X.base.get? b=some o->s.heap.get? b=some o:=λb o e=>(I.bs b o e).1
theorem Inv.mod(I:Inv X pins σ H s):Mod X.K X.mg X.base:=I.ok.mod
theorem Inv.AM(I:Inv X pins σ H s):X.K.In s.heap:=I.ok.mod.Yt.keeps I.bk
theorem Inv.fr(I:Inv X pins σ H s):∃ m,Fr X.base X.env.locals s.heap m :=
 let ⟨m,hn,_⟩:=I.loc
 ⟨m,hn,I.bk,aO I.ok.Sd I.ok.above⟩
theorem Inv.lt(I:Inv X pins σ H s):X.env.locals < s.heap.objs.size:=let ⟨_,hn,_⟩:=I.loc; hn.lt
theorem Inv.sz(I:Inv X pins σ H s):X.s₀.heap.objs.size<=s.heap.objs.size:=aO I.ok.above (gR I.lt)
theorem Inv.ad8(I:Inv X pins σ H s){a:Addr}(h:s.heap.objs.size<=a):a ∉ X.fs:=λhb=>by
 obtain⟨_,o,ho,_⟩:=I.ok.BD.mem hb
 exact absurd (bH (Heap.lt_size ho) (aO I.sz h)) (jJ _)
theorem Inv.Yu(I:Inv X pins σ H s):∀ x c,X.env.cells.lookup x=some c->c≠X.env.locals:=λx c e z=>by
 obtain⟨v,o,ho,hd⟩:=I.cell x c e
 obtain⟨m,⟨o',es,ep,ho',hd',_⟩,_⟩:=I.loc
 rw[z,ho'] at ho; cases ho; rw[hd'] at hd; cases hd
theorem Inv.BD(I:Inv X pins σ H s):s.heap.FunFrames X.base X.outer:=by
 have all:∀ (l:List Env),(∀ b∈frs l,b∈X.fs)->X.s₀.heap.FunFrames X.base l->s.heap.FunFrames X.base l:=by
  intro l
  induction l with
  | nil=>intro _ _; trivial
  | cons env r ih =>
   intro hs hl
   obtain⟨hk,⟨L,o,hf,hn,ho,hd⟩,hr⟩:=hl
   have hL:L∈X.fs:=hs L (by unfold frs; rw[cR,hf]; exact bI)
   obtain⟨sl,e⟩:=I.base.slot L o ho (I.ok.W2 L hL) hL λz=>I.ok.Se L z hL
   exact⟨hk,⟨L,_,hf,hn,e,hd⟩,ih (λb hb=>hs b (by unfold frs; rw[cR,hf]; exact bh _ hb)) hr⟩
 exact all X.outer (λ_ hb=>hb) I.ok.BD
theorem Inv.stack(I:Inv X pins σ H s):s.heap.FunFrames X.base X.stack:=by
 rcases I.ok.stk with e | ⟨e,hf⟩
 ·rw[e]; exact I.BD
 ·rw[e]
  obtain⟨m,hn,_⟩:=I.loc
  refine .cons (by rw[I.ok.kind]; decide) hf hn ?_ I.BD
  exact Heap.get?_none_of_le (aO I.ok.Sd I.ok.above)
theorem Inv.CO(I:Inv X pins σ H s):∀ b∈frs X.stack,b∈X.env.locals :: X.fs:=λb hb=>by
 rcases I.ok.stk with e | ⟨e,hf⟩
 ·rw[e] at hb; exact bh _ hb
 ·rw[e] at hb
  unfold frs at hb
  rw[cR,hf] at hb
  exact hb
theorem Inv.JX(I:Inv X pins σ H s):∀ b∈frs X.stack,H b=none:=λb hb=>by
 rcases br.mp (I.CO b hb) with e | hb
 ·rw[e]; exact I.free
 ·obtain⟨_,o,ho,_⟩:=I.ok.BD.mem hb
  exact I.base.free b o ho (I.ok.W2 b hb) λz=>I.ok.Se b z hb
theorem Inv.step{g':Array GenState}{t':Nat}{d':Drawn}{ch:List Addr}(I:Inv X pins σ H s)
 (hch:∀ b∈ch,(b∈X.ex∨X.s₀.heap.objs.size<=b)/\b≠X.env.locals/\(∀ x c,X.env.cells.lookup x=some c->c≠b)/\∀ p∈X.pn++pins,p.1≠b)
 (keep:∀ b o,b≠X.env.locals->b ∉ X.fs->b ∉ ch->s.heap.get? b=some o->H b=none->h'.get? b=some o)
 (slot:∀ b o,b≠X.env.locals->b∈X.fs->b ∉ ch->s.heap.get? b=some o->H b=none->∃ sl,h'.get? b=some { o with slots:=sl }) (free:∀ b o,b ∉ ch->s.heap.get? b=some o->H b=none->H' b=none)
 (there:∀ b o,b ∉ ch->s.heap.get? b=some o->∃ o',h'.get? b=some o')
 (tups:∀ b xs,H b=some (.tup xs)->H' b=some (.tup xs)) (BB:∀ b o u,H b=some (.Lo o u)->H' b=some (.Lo o u)) (CN:∀ b ps,H b=some (.W1 ps)->∃ more,H' b=some (.W1 (ps++more)))
 (ns:∀ m,s.heap.Ns X.env.locals m->h'.Ns X.env.locals m) (hok:xZ X.prog X.w H' h') (hg:AllBare g') :
 Inv X pins σ H' { s with heap:=h',gens:=g',drawn:=d',toks:=t' }:=by
 have Yv:∀ b o,X.s₀.heap.get? b=some o->b≠X.env.locals:=λb o e=>bu (bH (Heap.lt_size e) I.ok.above)
 have neC:∀ b o,X.s₀.heap.get? b=some o->b ∉ X.ex->b ∉ ch:=λb o e hx hb=>by
  rcases (hch b hb).1 with z | z
  ·exact hx z
  ·exact absurd (bH (Heap.lt_size e) z) (jJ _)
 have cellK:∀ x c,X.env.cells.lookup x=some c->∀ v,s.heap.IsCell c v->h'.IsCell c v:=λx c e v ⟨o,ho,hd⟩=>by
  have nch:c ∉ ch:=λz=>(hch c z).2.2.1 x c e rfl
  by_cases hc:c∈X.fs
  ·obtain⟨sl,q⟩:=slot c o (I.Yu x c e) hc nch ho (I.uS x c e)
   exact⟨_,q,hd⟩
  ·exact⟨o,keep c o (I.Yu x c e) hc nch ho (I.uS x c e),hd⟩
 refine⟨I.ok,I.os,hg,⟨λb o e n hb hx=>?_,λb o e n hb hx=>?_,λb o e n hx=>?_,λb o e hx=>?_,λb xs e=>tups b xs (I.base.tups b xs e),λb o xs e=>BB b o xs (I.base.BB b o xs e),λb ps e=>?_⟩,?_,λx c e=>?_,?_,λx c e=>?_,λp hp=>?_,hok,I.len⟩
 ·exact keep b o (Yv b o e) hb (neC b o e hx) (I.base.keep b o e n hb hx) (I.base.free b o e n hx)
 ·obtain⟨sl,e1⟩:=I.base.slot b o e n hb hx
  obtain⟨sl',e2⟩:=slot b _ (Yv b o e) hb (neC b o e hx) e1 (I.base.free b o e n hx)
  exact⟨sl',e2⟩
 ·obtain⟨o',e1⟩:=I.base.there b o e hx
  exact free b o' (neC b o e hx) e1 (I.base.free b o e n hx)
 ·obtain⟨o',e1⟩:=I.base.there b o e hx
  exact there b o' (neC b o e hx) e1
 ·obtain⟨m1,e1⟩:=I.base.CN b ps e
  obtain⟨m2,e2⟩:=CN b _ e1
  exact⟨m1++m2,by rw[e2,Array.append_assoc]⟩
 ·obtain⟨m,hn,hl⟩:=I.loc
  refine⟨m,ns m hn,λi x v e1 e2 e3=>?_⟩
  obtain⟨u,r,l⟩:=hl i x v e1 e2 e3
  refine⟨u,r,?_⟩
  rcases l with l | ⟨k,c,e,z⟩
  ·exact .inl l
  ·exact .inr ⟨k,c,e,cellK x c e _ z⟩
 ·obtain⟨v,z⟩:=I.cell x c e
  exact⟨v,cellK x c e v z⟩
 ·obtain⟨m,⟨o,_,_,ho,_⟩,_⟩:=I.loc
  exact free _ o (λz=>(hch _ z).2.1 rfl) ho I.free
 ·obtain⟨v,o,ho,hd⟩:=I.cell x c e
  exact free c o (λz=>(hch c z).2.2.1 x c e rfl) ho (I.uS x c e)
 ·obtain⟨e,n,ne,nf,d⟩:=I.pin p hp
  have nch:p.1 ∉ ch:=λz=>(hch p.1 z).2.2.2 p hp rfl
  exact⟨keep p.1 p.2 ne nf nch e n,free p.1 p.2 nch e n,ne,nf,d⟩
theorem Inv.un{t':Nat}(I:Inv X pins σ H s)(u:Un X.fs [] H H' s.heap h')(hok:xZ X.prog X.w H' h'):Inv X pins σ H' { s with heap:=h',toks:=t' }:=by
 obtain⟨m,⟨o,es,ep,ho,r⟩,_⟩:=id I.loc
 obtain⟨sl,hL⟩:=u.any ho I.free (by simp)
 exact I.step (g':=s.gens) (d':=s.drawn) (ch:=[]) (λ_ z=>nomatch z) (λb o _ hb _ e n=>u.keep b o e n hb (by simp)) (λb o _ hb _ e n=>u.slot b o e n hb (by simp)) (λb o _ e n=>u.free b o e n (by simp)) (λb o _ e=>u.there b o e (by simp)) u.tups u.BB u.CN (λm' hm=>by
  obtain⟨o',es',ep',ho',r'⟩:=hm
  rw[ho] at ho'; cases ho'
  exact⟨_,es',ep',hL,r'⟩) hok I.bare
theorem Inv.call{g':Array GenState}{t':Nat}{d':Drawn}{ch:List Addr}(I:Inv X pins σ H s)(u:Un (frs X.stack) ch H H' s.heap h')(hok:xZ X.prog X.w H' h')(hg:AllBare g')
 (hch:∀ b∈ch,(b∈X.ex∨X.s₀.heap.objs.size<=b)/\b≠X.env.locals/\(∀ x c,X.env.cells.lookup x=some c->c≠b)/\∀ p∈X.pn++pins,p.1≠b) :
 Inv X pins σ H' { s with heap:=h',gens:=g',drawn:=d',toks:=t' }:=by
 obtain⟨m,⟨o,es,ep,ho,r⟩,_⟩:=id I.loc
 obtain⟨sl,hL⟩:=u.any ho I.free λz=>(hch _ z).2.1 rfl
 exact I.step (ch:=ch) hch (λb o hL hb hc e n=>u.keep b o e n (λz=>(br.mp (I.CO b z)).elim hL hb) hc) (λb o _ _ hc e n=>u.any e n hc) (λb o hc e n=>u.free b o e n hc) (λb o hc e=>u.there b o e hc) u.tups u.BB u.CN (λm' hm=>by
  obtain⟨o',es',ep',ho',r'⟩:=hm
  rw[ho] at ho'; cases ho'
  exact⟨_,es',ep',hL,r'⟩) hok hg
theorem Inv.turned{t':Nat}{it:Addr}(I:Inv X pins σ H s)(k:∀ b o,b≠it->s.heap.get? b=some o->h'.get? b=some o)(hn:H it=none)(hL:it≠X.env.locals)
 (h1:it∈X.ex∨X.s₀.heap.objs.size<=it) (h2:∀ x c,X.env.cells.lookup x=some c->c≠it) (h3:∀ p∈X.pn++pins,p.1≠it):Inv X pins σ H { s with heap:=h',toks:=t' }:=by
 have nit:∀ b u,H b=some u->b≠it:=λb u e z=>by rw[z,hn] at e; cases e
 refine I.step (g':=s.gens) (d':=s.drawn) (ch:=[it]) (λb hb=>?_) (λb o _ _ hc e _=>k b o (λz=>hc (by simp[z])) e) (λb o _ _ hc e _=>⟨o.slots,k b o (λz=>hc (by simp[z])) e⟩) (λ_ _ _ _ n=>n)
  (λb o hc e=>⟨o,k b o (λz=>hc (by simp[z])) e⟩) (λ_ _ e=>e) (λ_ _ _ e=>e) (λb ps e=>⟨#[],by rw[e]; simp⟩) (λm hm=>?_) (λb u e=>?_) I.bare
 ·have e:b=it:=by simpa using hb
  subst e
  exact⟨h1,hL,h2,h3⟩
 ·obtain⟨o,es,ep,ho,r⟩:=hm
  exact⟨o,es,ep,k _ o (bT hL) ho,r⟩
 ·refine (I.hok b u e).stay (λc v hc q=>k c v ?_ q) (λ_ q=>q) λ_ _ q=>q
  rcases hc with z | z
  ·rw[z]; exact nit b u e
  ·exact nit c _ z
theorem Inv.tok(I:Inv X pins σ H s)(t:Nat):Inv X pins σ H { s with toks:=t }:=I.un (h':=s.heap) (t':=t) Un.refl I.hok
theorem Inv.kept{t':Nat}(I:Inv X pins σ H s)(k:∀ b u,s.heap.get? b=some u->h'.get? b=some u):Inv X pins σ H { s with heap:=h',toks:=t' }:=I.un (Un.kept k) (I.hok.kept k)
theorem Inv.laid{a:Addr}{o:HO}{t':Nat}(I:Inv X pins σ H s)(k:∀ b u,s.heap.get? b=some u->h'.get? b=some u)(hp:s.heap.objs.size<=a)(new:gD X.prog X.w (upd H a o) h' a o) :
 Inv X pins σ (upd H a o) { s with heap:=h',toks:=t' }:=I.un (Un.laid k hp (I.hok.fresh hp)) (I.hok.laid k hp new)
theorem Inv.write{x e:Addr}{o:HO}{t':Nat}(I:Inv X pins σ H s)(mu:Mut (H x))(he:e=x∨H e=some (.own x))(k:∀ b u,b≠e->s.heap.get? b=some u->h'.get? b=some u)(heo:∃ u,h'.get? e=some u)
 (new:gD X.prog X.w (upd H x o) h' x o):Inv X pins σ (upd H x o) { s with heap:=h',toks:=t' }:=I.un (Un.write mu he k heo) (I.hok.write mu he k heo new)
theorem Inv.OV{IM:List (Addr × Obj)}(I:Inv X pins σ H s)(h:∀ p∈IM,s.heap.get? p.1=some p.2/\H p.1=none/\p.1≠X.env.locals/\p.1 ∉ X.fs/\∀ v,p.2.data≠.cell v):Inv X IM σ H s :=
 ⟨I.ok,I.os,I.bare,I.base,I.loc,I.cell,I.free,I.uS,λp hp=>(aY.mp hp).elim (λz=>I.pin p (bV _ z)) (h p),I.hok,I.len⟩
theorem Lp{N:List Str}(hN:N.Nodup){i j:Nat}{x:Str}(a:N[i]?=some x)(b:N[j]?=some x):i=j:=by
 obtain⟨h1,e1⟩:=ai.mp a
 obtain⟨h2,e2⟩:=ai.mp b
 exact (List.getElem_inj hN).mp (e1.trans e2.symm)
theorem IP{M:Model}{A:Around}{E:Value->Shared->Prop}{i:Nat}{x:Str}{v:V}{u:Value}{Q:Unit->Shared->Prop}(I:Inv X pins σ H s)(hN:X.N.Nodup)(hi:X.N[i]?=some x)(hx:Loc X.env.scope x)(r:RelV v u)
 (h:∀ s',Inv X pins (σ.set i (some v)) H s'->(∃ a,Heap.SameBut a s.heap s'.heap/\(a=X.env.locals∨X.env.cells.lookup x=some a))->Q () s') (hf:X.fn x=true∨X.env.scope.names.lookup x=some .local:=by first | exact .inl rfl | exact .inr rfl | assumption):wpAny M A (storeName X.env x u) Q E s:=by
 obtain⟨m,hn,hl⟩:=id I.loc
 have hcls:(X.env.scope.kind == .class || (X.env.scope.kind == .module && X.env.locals != X.env.globals))=false:=by rw[I.ok.kind]; rfl
 have aaW:i < σ.length:=by rw[I.len]; exact (ai.mp hi).1
 have Yu:=I.Yu
 have tracked:∀ {a:Addr} {h':Heap},(∃ o,s.heap.get? a=some o/\H a=none)->Heap.SameBut a s.heap h'->xZ X.prog X.w H h':=λ{a h'} ha hs b ob e=>by
  obtain⟨_,_,hfree⟩:=ha
  refine (I.hok b ob e).stay (λc w' hc q=>(hs.2 c ?_).trans q) (λ_ q=>q) λ_ _ q=>q
  rintro rfl
  rcases hc with rfl | hc
  ·rw[hfree] at e; cases e
  ·rw[hfree] at hc; cases hc
 rcases hx with hk | hk
 ·refine wpAny_storeName_local hk hn (λh' hn' hs=>?_) hcls
  obtain⟨oL,_,_,hoL,_⟩:=id hn
  refine h _ ⟨I.ok,I.os,I.bare,⟨λb o e n hb hx=>?_,λb o e n hb hx=>?_,I.base.free,λb o e hx=>?_,I.base.tups,I.base.BB,I.base.CN⟩,⟨_,hn',λj y v' e1 e2 e3=>?_⟩,λy c e=>?_,I.free,I.uS,λp hp=>?_,tracked ⟨oL,hoL,I.free⟩ hs,by simpa using I.len⟩ ⟨_,hs,.inl rfl⟩
  ·exact (hs.2 b (bu (bH (Heap.lt_size e) I.ok.above))).trans (I.base.keep b o e n hb hx)
  ·obtain⟨sl,e1⟩:=I.base.slot b o e n hb hx
   exact⟨sl,(hs.2 b (bu (bH (Heap.lt_size e) I.ok.above))).trans e1⟩
  ·obtain⟨o',e1⟩:=I.base.there b o e hx
   exact⟨o',(hs.2 b (bu (bH (Heap.lt_size e) I.ok.above))).trans e1⟩
  ·by_cases hj:j=i
   ·subst hj
    rw[hi] at e1; cases e1
    rw[List.getElem?_set_self aaW] at e2
    cases e2
    exact⟨u,r,.inl ⟨hk,by simp⟩⟩
   ·rw[List.getElem?_set_ne (bT hj)] at e2
    obtain⟨u',r',q⟩:=hl j y v' e1 e2 e3
    refine⟨u',r',?_⟩
    rcases q with ⟨k,e⟩ | ⟨k,c,e,z⟩
    ·refine .inl ⟨k,?_⟩
     have:y≠x:=λe=>hj (Lp hN e1 (e ▸ hi))
     simp[this,e]
    ·exact .inr ⟨k,c,e,z.sameBut hs (Yu y c e)⟩
  ·obtain⟨w',z⟩:=I.cell y c e
   exact⟨w',z.sameBut hs (Yu y c e)⟩
  ·obtain⟨e,n,ne,nf,d⟩:=I.pin p hp
   exact⟨(hs.2 p.1 ne).trans e,n,ne,nf,d⟩
 ·have hfn:X.fn x=true:=by
   rcases hf with z | z
   ·exact z
   ·rw[z] at hk; cases hk
  obtain⟨c,hc⟩:=I.ok.has x (.inl hk)
  obtain⟨w',z⟩:=I.cell x c hc
  refine wpAny_storeName_cell I.ok.kind hk hc z (λh' hc' hs=>?_)
  obtain⟨oc,hoc,aeb⟩:=id z
  refine h { s with heap:=h' } ⟨I.ok,I.os,I.bare,⟨λb o e n hb hx=>?_,λb o e n hb hx=>?_,I.base.free,λb o e hx=>?_,I.base.tups,I.base.BB,I.base.CN⟩,⟨m,hn.sameBut hs (bT (Yu x c hc)),λj y v' e1 e2 e3=>?_⟩,λy c' e=>?_,I.free,I.uS,λp hp=>?_,tracked ⟨oc,hoc,I.uS x c hc⟩ hs,by simpa using I.len⟩ ⟨c,hs,.inr hc⟩
  ·exact (hs.2 b (bu (bH (Heap.lt_size e) (I.ok.cab x c hfn hc)))).trans (I.base.keep b o e n hb hx)
  ·obtain⟨sl,e1⟩:=I.base.slot b o e n hb hx
   exact⟨sl,(hs.2 b (bu (bH (Heap.lt_size e) (I.ok.cab x c hfn hc)))).trans e1⟩
  ·obtain⟨o',e1⟩:=I.base.there b o e hx
   exact⟨o',(hs.2 b (bu (bH (Heap.lt_size e) (I.ok.cab x c hfn hc)))).trans e1⟩
  ·by_cases hj:j=i
   ·subst hj
    rw[hi] at e1; cases e1
    rw[List.getElem?_set_self aaW] at e2
    cases e2
    exact⟨u,r,.inr ⟨.inl hk,c,hc,hc'⟩⟩
   ·rw[List.getElem?_set_ne (bT hj)] at e2
    obtain⟨u',r',q⟩:=hl j y v' e1 e2 e3
    refine⟨u',r',?_⟩
    rcases q with q | ⟨k,c',e,z'⟩
    ·exact .inl q
    ·refine .inr ⟨k,c',e,z'.sameBut hs ?_⟩
     rintro rfl
     exact hj (Lp hN e1 (I.ok.inj _ _ _ e hc ▸ hi))
  ·by_cases hcc:c'=c
   ·subst hcc; exact⟨_,hc'⟩
   ·obtain⟨w2,z2⟩:=I.cell y c' e
    exact⟨w2,z2.sameBut hs hcc⟩
  ·obtain⟨e,n,ne,nf,d⟩:=I.pin p hp
   refine⟨(hs.2 p.1 ?_).trans e,n,ne,nf,d⟩
   intro q
   rw[q,hoc] at e
   have q':oc=p.2:=aL e
   exact d w' (by rw[<- q']; exact aeb)
theorem BE{M:Model}{A:Around}{E:Value->Shared->Prop}{i:Nat}{x:Str}{v:V}{u:Value}{Q:Unit->Shared->Prop}(I:Inv X pins σ H s)(hN:X.N.Nodup)(hi:X.N[i]?=some x)(hx:Loc X.env.scope x)(r:RelV v u)
 (h:∀ s',Inv X pins (σ.set i (some v)) H s'->Q () s') (hf:X.fn x=true∨X.env.scope.names.lookup x=some .local:=by first | exact .inl rfl | exact .inr rfl | assumption):wpAny M A (storeName X.env x u) Q E s :=
 IP I hN hi hx r (λs' I' _=>h s' I') hf
theorem Inv.W7{s':Shared}{ch:List Addr}(I:Inv X pins σ H s)(ho:s'.os=s.os)(u:Un (frs X.stack) ch H H' s.heap s'.heap)(hok:xZ X.prog X.w H' s'.heap)(hg:AllBare s'.gens)
 (hch:∀ b∈ch,(b∈X.ex∨X.s₀.heap.objs.size<=b)/\b≠X.env.locals/\(∀ x c,X.env.cells.lookup x=some c->c≠b)/\∀ p∈X.pn++pins,p.1≠b):Inv X pins σ H' s':=by
 obtain⟨h',g',d',t',o'⟩:=s'
 have e:o'=s.os:=ho
 subst e
 exact I.call (g':=g') (t':=t') (d':=d') u hok hg hch
end
abbrev XK:=Value->Option Addr->Hp->Prop
abbrev St:=List (Option V)
abbrev VK:=V->Hp->Prop
abbrev TE:=St->Hp->VK->Prop
abbrev TT:=St->Hp->(Bool->Hp->Prop)->Prop
abbrev TA:=St->Hp->(List V->Hp->Prop)->Prop
structure Ends where
 nx:St->Hp->Prop
 rt:VK
 bk:St->Hp->Prop:=λ_ _=>False
 ct:St->Hp->Prop:=λ_ _=>False
abbrev TS:=Ends->St->Hp->Prop
def EP(X:Cx)(pins:List (Addr × Obj))(σ:St)(Q:VK)(u:Value)(s':Shared):Prop:=∃ v H',Inv X pins σ H' s'/\RelV v u/\Q v H'
def TP(X:Cx)(pins:List (Addr × Obj))(σ:St)(Q:Bool->Hp->Prop)(b:Bool)(s':Shared):Prop:=∃ H',Inv X pins σ H' s'/\Q b H'
def AP(X:Cx)(pins:List (Addr × Obj))(σ:St)(Q:List V->Hp->Prop)(us:List Value)(s':Shared):Prop:=∃ vs H',Inv X pins σ H' s'/\b6 vs us/\Q vs H'
def SP(X:Cx)(pins:List (Addr × Obj))(D:Ends)(f:Flow)(s':Shared):Prop :=
 match f with
 | .next=>∃ σ' H',Inv X pins σ' H' s'/\D.nx σ' H'
 | .brk=>∃ σ' H',Inv X pins σ' H' s'/\D.bk σ' H'
 | .cont=>∃ σ' H',Inv X pins σ' H' s'/\D.ct σ' H'
 | .ret u=>∃ v σ' H',Inv X pins σ' H' s'/\RelV v u/\D.rt v H'
def PE(X:Cx)(e:Expr)(t:TE):Prop :=
 ∀ (pins:List (Addr × Obj)) (s:Shared) (σ:St) (H:Hp) (Q:VK),Inv X pins σ H s->t σ H Q->wpAny (model X.prog X.w) X.A (eval e X.env) (EP X pins σ Q) X.xe s
def PT(X:Cx)(e:Expr)(t:TT):Prop :=
 ∀ (pins:List (Addr × Obj)) (s:Shared) (σ:St) (H:Hp) (Q:Bool->Hp->Prop),Inv X pins σ H s->t σ H Q->wpAny (model X.prog X.w) X.A (isTrue e X.env (eval e X.env)) (TP X pins σ Q) X.xe s
def PW(X:Cx)(e:Expr)(t:TT):Prop :=
 ∀ (whole:Sem Value) (pins:List (Addr × Obj)) (s:Shared) (σ:St) (H:Hp) (Q:Bool->Hp->Prop),Inv X pins σ H s->t σ H Q->wpAny (model X.prog X.w) X.A (isTrue e X.env whole) (TP X pins σ Q) X.xe s
theorem PW.pt{X:Cx}{e:Expr}{t:TT}(h:PW X e t):PT X e t:=h _
def PA(X:Cx)(es:List Expr)(t:TA):Prop :=
 ∀ (pos:Pos) (pins:List (Addr × Obj)) (s:Shared) (σ:St) (H:Hp) (Q:List V->Hp->Prop),Inv X pins σ H s->t σ H Q->wpAny (model X.prog X.w) X.A (spliced (backTo pos (starEach es X.env))) (AP X pins σ Q) X.xe s
def PS(X:Cx)(st:Stmt)(t:TS):Prop :=
 ∀ (pins:List (Addr × Obj)) (s:Shared) (σ:St) (H:Hp) (D:Ends),Inv X pins σ H s->t D σ H->wpAny (model X.prog X.w) X.A (exec st X.env) (SP X pins D) X.xe s
def iV(X:Cx)(st:List Stmt)(t:TS):Prop :=
 ∀ (pins:List (Addr × Obj)) (s:Shared) (σ:St) (H:Hp) (D:Ends),Inv X pins σ H s->t D σ H->wpAny (model X.prog X.w) X.A (execs st X.env) (SP X pins D) X.xe s
theorem fV{α:Type}{t:Sem α}{Q Q':α->Shared->Prop}{M:Model}{A:Around}{E:Value->Shared->Prop}{s:Shared}(h:wpAny M A t Q E s)(hQ:∀ a s,Q a s->Q' a s):wpAny M A t Q' E s:=wpAny_mono h hQ λ_ _ x=>x
section
variable{X:Cx}
def JY(i:Nat):TE:=λσ H Q=>∃ v,σ[i]?=some (some v)/\Q v H
def tC(v:V):TE:=λ_ H Q=>Q v H
theorem Yw{i:Nat}{x:Str}{pos:Pos}(hN:X.N[i]?=some x)(hv:Vis X.env.scope x)(hd:(x == ("__debug__" : Str))=false:=by decide)(hcd:(x == ("__classdict__" : Str))=false:=by decide):PE X (.Name x pos) (JY i):=by
 intro pins s σ H Q I h
 obtain⟨v,e,h⟩:=h
 obtain⟨m,hn,hl⟩:=I.loc
 obtain⟨u,r,l⟩:=hl i x v hN e hv
 have fin:EP X pins σ Q u s:=⟨v,H,I,r,h⟩
 rcases l with ⟨hk,hm⟩ | ⟨hk,c,hc,hcell⟩
 ·exact wpAny_Name (wpAny_loadName_local I.ok.kind hk hn hm fin) hd
 ·rcases hk with hk | hk
  ·exact wpAny_Name (wpAny_loadName_cell I.ok.kind hk hc hcell fin) hd
  ·exact wpAny_Name (wpAny_loadName_free I.ok.kind hk hc hcell fin hcd) hd
theorem aA{i j pos}:PE X (.Constant (.int i) j pos) (tC (.int i)):=λ_ _ _ H _ I h=>wpAny_Constant_int ⟨.int i,H,I.tok _,⟨_,rfl⟩,h⟩
theorem Lq{b j pos}:PE X (.Constant (.bool b) j pos) (tC (.bl b)):=λ_ _ _ H _ I h=>Constant_bool ⟨.bl b,H,I,rfl,h⟩
theorem gF{j pos}:PE X (.Constant .none j pos) (tC .fh):=λ_ _ _ H _ I h=>Constant_none ⟨.fh,H,I,rfl,h⟩
theorem fW{x j pos}:PE X (.Constant (.str x) j pos) (tC (.str x)):=λ_ _ _ H _ I h=>Calls.Constant_str ⟨.str x,H,I.tok _,⟨_,rfl⟩,h⟩
def Gl(X:Cx)(x:Str):Prop:=X.env.kindOf x=some .globalImplicit
theorem BF{E:Value->Shared->Prop}{pins:List (Addr × Obj)}{s:Shared}{σ:St}{H:Hp}{x:Str}{u:Value}{pos:Pos}{Q:Value->Shared->Prop}(I:Inv X pins σ H s)(hg:Gl X x)(hm:X.mg x=some u)(h:Q u s)
 (hd:(x == ("__debug__" : Str))=false:=by decide):wpAny (model X.prog X.w) X.A (eval (.Name x pos) X.env) Q E s :=
 Calls.Name_function_global I.ok.kind hg (Calls.loadGlobal_global (by rw[I.ok.glob]; exact I.mod.glob.keeps I.bk) hm h) hd
theorem Fz{E:Value->Shared->Prop}{pins:List (Addr × Obj)}{s:Shared}{σ:St}{H:Hp}{x:Str}{u:Value}{pos:Pos}{Q:Value->Shared->Prop}(I:Inv X pins σ H s)(hg:Gl X x)(hm:X.mg x=none)(hv:bootBuiltins x=some u)(h:Q u s)
 (hn:x≠"__name__" := by decide) (hd:(x == ("__debug__" : Str))=false:=by decide):wpAny (model X.prog X.w) X.A (eval (.Name x pos) X.env) Q E s:=by
 obtain⟨mb,h1,h2⟩:=I.mod.blt
 exact Calls.Name_function_global I.ok.kind hg (Calls.loadGlobal_builtin (by rw[I.ok.glob]; exact I.mod.glob.keeps I.bk) hm (by rw[I.ok.blt]; exact h1.keeps I.bk) ((h2 x hn).trans hv) h) hd
theorem lG{x:Str}{v:V}{u:Value}{pos:Pos}(hg:Gl X x)(hm:X.mg x=some u)(r:RelV v u)(hd:(x == ("__debug__" : Str))=false:=by decide):PE X (.Name x pos) (tC v) :=
 λ_ _ _ H _ I h=>BF I hg hm ⟨v,H,I,r,h⟩ hd
theorem BG{x:Str}{v:V}{u:Value}{pos:Pos}(hg:Gl X x)(hm:X.mg x=none)(hv:bootBuiltins x=some u)(r:RelV v u)(hn:x≠"__name__" := by decide)(hd:(x == ("__debug__" : Str))=false:=by decide):PE X (.Name x pos) (tC v) :=
 λ_ _ _ H _ I h=>Fz I hg hm hv ⟨v,H,I,r,h⟩ hn hd
variable{a b:Expr}{ta tb:TE}{pos:Pos}
def PC(X:Cx)(op:CmpOp)(a b:Expr)(t:TE):Prop :=
 ∀ (pins:List (Addr × Obj)) (s:Shared) (σ:St) (H:Hp) (Q:VK),Inv X pins σ H s->t σ H Q ->
  wpAny (model X.prog X.w) X.A (eval a X.env) (λv s₁=>wpAny (model X.prog X.w) X.A (eval b X.env) (λu s₂=>wpAny (model X.prog X.w) X.A (compareOp op v u) (EP X pins σ Q) X.xe s₂) X.xe s₁) X.xe s
def tB(t:TE):TT:=λσ H Q=>t σ H λx H1=>∃ c,x = .bl c/\Q c H1
theorem CP{op:CmpOp}{t:TE}(h:PC X op a b t)(h1:behindInMarks op b=false:=by first | exact aaX _ (by decide) (by decide) | rfl):PT X (.Compare a [op] [b] pos) (tB t):=by
 intro pins s σ H Q I hw
 refine wpAny_isTrue_Compare1 (fV (h pins s σ H _ I hw) λv s1 h1=>fV h1 λu s2 h2=>fV h2 λc s3 ⟨x,H1,I1,r1,q1⟩=>?_) h1
 obtain⟨d,rfl,q⟩:=q1
 cases r1
 exact wpAny_truthy_bool ⟨H1,I1,q⟩
theorem qM{e:Expr}{t:TE}(h:PE X e t)(he:∀ whole,isTrue e X.env whole=(do let v <- whole; standAt e.pos; holding [v] (truthy v)):=by intro _; rfl):PT X e (tB t):=by
 intro pins s σ H Q I hw
 refine isTrue_plain (fV (h pins s σ H _ I hw) λv s1 ⟨x,H1,I1,r1,q1⟩=>?_) (he _)
 obtain⟨d,rfl,q⟩:=q1
 cases r1
 exact wpAny_truthy_bool ⟨H1,I1,q⟩
variable{tA tB':TT}{rest:List Expr}
def aec(t u:TT):TT:=λσ H Q=>t σ H λc H1=>if c=true then u σ H1 Q else Q false H1
def tOr(t u:TT):TT:=λσ H Q=>t σ H λc H1=>if c=true then Q true H1 else u σ H1 Q
def aed(t:TT):TT:=λσ H Q=>t σ H λc H1=>Q (!c) H1
theorem zJ(ha:PT X a tA):PW X (.BoolOp .And [a] pos) tA:=by
 intro wh pins s σ H Q I h
 refine isTrue_and (fV (ha pins s σ H Q I h) λc s1 e=>?_)
 cases c with
 | true=>exact isTrue_and_nil e
 | false=>exact e
theorem vH(ha:PT X a tA):PW X (.BoolOp .Or [a] pos) tA:=by
 intro wh pins s σ H Q I h
 refine isTrue_or (fV (ha pins s σ H Q I h) λc s1 e=>?_)
 cases c with
 | false=>exact isTrue_or_nil e
 | true=>exact e
theorem AN(ha:PT X a tA)(hb:PW X (.BoolOp .And (b :: rest) pos) tB'):PW X (.BoolOp .And (a :: b :: rest) pos) (aec tA tB'):=by
 intro wh pins s σ H Q I h
 refine isTrue_and (fV (ha pins s σ H _ I h) λc s1 ⟨H1,I1,q1⟩=>?_)
 cases c with
 | true=>exact hb wh pins s1 σ H1 Q I1 q1
 | false=>exact⟨H1,I1,q1⟩
theorem uT(ha:PT X a tA)(hb:PW X (.BoolOp .Or (b :: rest) pos) tB'):PW X (.BoolOp .Or (a :: b :: rest) pos) (tOr tA tB'):=by
 intro wh pins s σ H Q I h
 refine isTrue_or (fV (ha pins s σ H _ I h) λc s1 ⟨H1,I1,q1⟩=>?_)
 cases c with
 | true=>exact⟨H1,I1,q1⟩
 | false=>exact hb wh pins s1 σ H1 Q I1 q1
theorem gW(ha:PT X a tA):PT X (.UnaryOp .Not a pos) (aed tA):=by
 intro pins s σ H Q I h
 exact isTrue_not (ha pins s σ H (λc H1=>Q (!c) H1) I h)
def W8(ta tb:TE):TE:=λσ H Q=>ta σ H λx H1=>∃ c,x = .bl c/\if c=true then tb σ H1 Q else Q (.bl false) H1
def aaY(ta:TE):TE:=λσ H Q=>ta σ H λx H1=>∃ c,x = .bl c/\Q (.bl (!c)) H1
theorem Nj{op}{t:TE}(h:PE X a t):PE X (.BoolOp op [a] pos) t:=λpins s σ H Q I hw=>BoolOp_one (h pins s σ H Q I hw)
theorem JZ(ha:PE X a ta)(hb:PE X (.BoolOp .And (b :: rest) pos) tb):PE X (.BoolOp .And (a :: b :: rest) pos) (W8 ta tb):=by
 intro pins s σ H Q I h
 refine BoolOp_and (fV (ha pins s σ H _ I h) λv s1 ⟨x,H1,I1,r1,q1⟩=>?_)
 obtain⟨c,rfl,q1⟩:=q1
 cases r1
 refine wpAny_truthy_bool ?_
 cases c with
 | true=>exact hb pins s1 σ H1 Q I1 q1
 | false=>exact⟨.bl false,H1,I1,rfl,q1⟩
theorem Yx(ha:PE X a ta):PE X (.UnaryOp .Not a pos) (aaY ta):=by
 intro pins s σ H Q I h
 refine UnaryOp_ (fV (ha pins s σ H _ I h) λv s1 ⟨x,H1,I1,r1,q1⟩=>?_)
 obtain⟨c,rfl,q1⟩:=q1
 cases r1
 exact not_of (wpAny_truthy_bool ⟨.bl (!c),H1,I1,rfl,q1⟩)
def tIf(t:TT)(ta tb:TE):TE:=λσ H Q=>t σ H λc H1=>if c=true then ta σ H1 Q else tb σ H1 Q
theorem x6{c:Expr}(hc:PT X c tA)(ha:PE X a ta)(hb:PE X b tb):PE X (.IfExp c a b pos) (tIf tA ta tb):=by
 intro pins s σ H Q I h
 refine wpAny_IfExp (fV (hc pins s σ H _ I h) λd s1 ⟨H1,I1,q1⟩=>?_)
 cases d with
 | true=>exact ha pins s1 σ H1 Q I1 q1
 | false=>exact hb pins s1 σ H1 Q I1 q1
end
def bL(K:af)(H:Hp)(a:Addr)(xs:List V):Prop :=
 Rd H a (.lst xs) ∨
  ∃ (o:Obj) (its:Array Value) (n:Nat),K.lookup a=some o/\o.cls = .type "list" /\ o.dict=none/\o.data = .seq its n/\its.size<=sizeLine/\b6 xs its.toList
def cN(K:af)(H:Hp)(a:Addr)(xs:List V):Prop :=
 Rd H a (.tup xs) ∨
  ∃ (o:Obj) (its:Array Value) (n:Nat),K.lookup a=some o/\o.cls = .type "tuple" /\ o.data = .seq its n/\its.size<=sizeLine/\b6 xs its.toList
noncomputable def aee:Value->Option V
 | .none=>some .fh
 | .bool b=>some (.bl b)
 | .int i _=>some (.int i)
 | .str x _=>some (.str x)
 | .bytes b _=>some (.OU b)
 | .float b _=>some (.Yq b)
 | .ref a=>some (.ref a)
 | .type n=>some (.ty n)
 | _=>none
theorem RelV.abs{x:V}{u:Value}(r:RelV x u):aee u=some x:=by
 cases x with
 | fh=>cases r; rfl
 | bl _=>cases r; rfl
 | int _=>obtain⟨t,rfl⟩:=r; rfl
 | str _=>obtain⟨t,rfl⟩:=r; rfl
 | OU _=>obtain⟨t,rfl⟩:=r; rfl
 | Yq _=>obtain⟨t,rfl⟩:=r; rfl
 | ref _=>cases r; rfl
 | ty _=>cases r; rfl
theorem RelV.inj{x y:V}{u:Value}(r:RelV x u)(q:RelV y u):x=y:=aL (r.abs.symm.trans q.abs)
theorem b6.inj:∀ {xs ys:List V} {us:List Value},b6 xs us->b6 ys us->xs=ys
 | _,_,_,.nil,.nil=>rfl
 | _,_,_,.cons r t,.cons r' t'=>by rw[r.inj r',b6.inj t t']
section
variable{X:Cx}{pins:List (Addr × Obj)}{σ:St}{H:Hp}{s:Shared}{a:Addr}{xs ys:List V}
theorem bL.of{K:af}(h:H a=some (.lst xs)):bL K H a xs:=.inl (.inl h)
theorem cN.of{K:af}(h:H a=some (.tup xs)):cN K H a xs:=.inl (.inl h)
theorem Inv.list(I:Inv X pins σ H s)(h:bL X.K H a xs):∃ its:List Value,b6 xs its/\PlainL s.heap a its.toArray/\xs.length<=sizeLine:=by
 rcases h with h | ⟨o,its,n,hk,hc,hd,hs,hz,r⟩
 ·obtain⟨z,its,n,r,e⟩:=h.ok I.hok
  exact⟨its,r,⟨_,n,e,rfl,rfl,rfl⟩,z⟩
 ·refine⟨its.toList,r,⟨o,n,I.AM a o hk,hc,hd,by simpa using hs⟩,?_⟩
  have e:=r.length
  simp only[fU] at e
  omega
theorem Inv.tuple(I:Inv X pins σ H s)(h:cN X.K H a xs):∃ its:List Value,b6 xs its/\IsTup s.heap a its.toArray/\xs.length<=sizeLine:=by
 rcases h with h | ⟨o,its,n,hk,hc,hs,hz,r⟩
 ·obtain⟨z,its,r,p⟩:=h.ok I.hok
  exact⟨its,r,p,z⟩
 ·refine⟨its.toList,r,⟨o,I.AM a o hk,hc,n,by simpa using hs⟩,?_⟩
  have e:=r.length
  simp only[fU] at e
  omega
theorem Inv.Lr(I:Inv X pins σ H s)(h:bL X.K H a xs)(h':bL X.K H a ys):xs=ys:=by
 obtain⟨its,r,⟨o,n,e,_,_,d⟩,_⟩:=I.list h
 obtain⟨its',r',⟨o',n',e',_,_,d'⟩,_⟩:=I.list h'
 rw[e] at e'; cases e'
 rw[d] at d'
 injection d' with d1 _
 have:its=its':=by simpa using congrArg Array.toList d1
 subst this
 exact r.inj r'
theorem Inv.QC(I:Inv X pins σ H s)(h:cN X.K H a xs)(h':cN X.K H a ys):xs=ys:=by
 obtain⟨its,r,⟨o,e,_,n,d⟩,_⟩:=I.tuple h
 obtain⟨its',r',⟨o',e',_,n',d'⟩,_⟩:=I.tuple h'
 rw[e] at e'; cases e'
 rw[d] at d'
 injection d' with d1 _
 have:its=its':=by simpa using congrArg Array.toList d1
 subst this
 exact r.inj r'
end
noncomputable abbrev Cx.HS(X:Cx)(E:Value->Shared->Prop):Cx:={ X with xe:=E }
noncomputable abbrev Cx.W9(X:Cx):Cx:=X.HS λ_ _=>False
theorem Cx.Ok.HS{X:Cx}(ok:X.Ok)(E:Value->Shared->Prop):(X.HS E).Ok :=
 ⟨ok.mod,ok.kind,ok.glob,ok.blt,ok.above,ok.inj,ok.has,ok.cab,ok.hd,ok.frames,ok.stk,ok.exf,ok.bs,ok.Sd,ok.QB,ok.Se,ok.BD,ok.W2⟩
theorem Cx.Ok.x8{X:Cx}{E:Value->Shared->Prop}(ok:(X.HS E).Ok):X.Ok :=
 ⟨ok.mod,ok.kind,ok.glob,ok.blt,ok.above,ok.inj,ok.has,ok.cab,ok.hd,ok.frames,ok.stk,ok.exf,ok.bs,ok.Sd,ok.QB,ok.Se,ok.BD,ok.W2⟩
section
variable{X:Cx}{pins:List (Addr × Obj)}{σ:St}{H:Hp}{s:Shared}{E:Value->Shared->Prop}
theorem Inv.HS(I:Inv X pins σ H s)(E:Value->Shared->Prop):Inv (X.HS E) pins σ H s:=⟨I.ok.HS E,I.os,I.bare,I.base,I.loc,I.cell,I.free,I.uS,I.pin,I.hok,I.len⟩
theorem Inv.x8(I:Inv (X.HS E) pins σ H s):Inv X pins σ H s:=⟨I.ok.x8,I.os,I.bare,I.base,I.loc,I.cell,I.free,I.uS,I.pin,I.hok,I.len⟩
theorem SP.x8{D:Ends}{f:Flow}{s':Shared}(h:SP (X.HS E) pins D f s'):SP X pins D f s':=by
 cases f with
 | next=>obtain⟨σ',H',I,q⟩:=h; exact⟨σ',H',I.x8,q⟩
 | brk=>obtain⟨σ',H',I,q⟩:=h; exact⟨σ',H',I.x8,q⟩
 | cont=>obtain⟨σ',H',I,q⟩:=h; exact⟨σ',H',I.x8,q⟩
 | ret u=>obtain⟨v,σ',H',I,r,q⟩:=h; exact⟨v,σ',H',I.x8,r,q⟩
theorem iV.W9{st:List Stmt}{t:TS}(h:iV X.W9 st t):iV X st t:=λpins s σ H D I hw =>
 wpAny_mono (h pins s σ H D (I.HS _) hw) (λ_ _ q=>q.x8) λ_ _ z=>je z
end
section
variable{X:Cx}{st:Stmt}{rest:List Stmt}{t u:TS}{e:Expr}{te:TE}{pos:Pos}
def aaZ:TS:=λD σ H=>D.nx σ H
def Sf(t u:TS):TS:=λD σ H=>t { D with nx:=u D } σ H
theorem aX:iV X [] aaZ:=λ_ _ σ H _ I h=>wpAny_execs_nil ⟨σ,H,I,h⟩
theorem ao(h1:PS X st t)(h2:iV X rest u):iV X (st :: rest) (Sf t u):=by
 intro pins s σ H D I h
 refine wpAny_execs_cons (fV (h1 pins s σ H { D with nx:=u D } I h) λf s1 q=>?_)
 cases f with
 | next =>
  obtain⟨σ',H',I',q⟩:=q
  exact h2 pins s1 σ' H' D I' q
 | ret v=>exact q
 | brk=>exact q
 | cont=>exact q
theorem bw(h1:PS X st t):iV X [st] t:=by
 intro pins s σ H D I h
 refine wpAny_execs_cons (fV (h1 pins s σ H D I h) λf s1 q=>?_)
 cases f with
 | next=>exact wpAny_execs_nil q
 | ret v=>exact q
 | brk=>exact q
 | cont=>exact q
theorem Inv.quiet{pins:List (Addr × Obj)}{σ:St}{H:Hp}{s:Shared}(I:Inv X pins σ H s):interactive X.env=false:=by simp[interactive,I.ok.kind]
def Xa(te:TE):TS:=λD σ H=>te σ H λ_ H1=>D.nx σ H1
theorem fD(he:PE X e te)(hs:swapsWith e none pos.line X.env=pure false:=by rfl):PS X (.Expr e pos) (Xa te):=by
 intro pins s σ H D I h
 exact wpAny_Expr_any (fV (he pins s σ H _ I h) λv s1 ⟨x,H1,I1,r1,q1⟩=>⟨σ,H1,I1,q1⟩) I.quiet hs
def Vb(te:TE):TS:=λD σ H=>te σ H D.rt
theorem Sg(he:PE X e te):PS X (.Return (some e) pos) (Vb te):=by
 intro pins s σ H D I h
 exact wpAny_Return_some (fV (he pins s σ H _ I h) λv s1 ⟨x,H1,I1,r1,q1⟩=>⟨x,σ,H1,I1,r1,q1⟩)
def Sh(c:TT)(t u:TS):TS:=λD σ H=>c σ H λb H1=>if b=true then t D σ H1 else u D σ H1
theorem bX{c:Expr}{a b:List Stmt}{tc:TT}(hc:PT X c tc)(ha:iV X a t)(hb:iV X b u):PS X (.If c a b pos) (Sh tc t u):=by
 intro pins s σ H D I h
 refine wpAny_If (fV (hc pins s σ H _ I h) λd s1 ⟨H1,I1,q1⟩=>?_)
 cases d with
 | true=>exact ha pins s1 σ H1 D I1 q1
 | false=>exact hb pins s1 σ H1 D I1 q1
def Yy:TS:=λ_ _ _=>False
theorem dm{sts:List Stmt}:iV X sts Yy:=λ_ _ _ _ _ _ h=>h.elim
end
abbrev TG:=V->St->Hp->(St->Hp->Prop)->Prop
abbrev Xb:=List V->St->Hp->(St->Hp->Prop)->Prop
def PG(X:Cx)(target:Expr)(t:TG):Prop :=
 ∀ (pins:List (Addr × Obj)) (s:Shared) (σ:St) (H:Hp) (v:V) (u:Value) (Q:St->Hp->Prop),Inv X pins σ H s->RelV v u->t v σ H Q ->
  wpAny (model X.prog X.w) X.A (assign target X.env u) (λ_ s'=>∃ σ' H',Inv X pins σ' H' s'/\Q σ' H') X.xe s
def mU(X:Cx)(ts:List Expr)(t:Xb):Prop :=
 ∀ (pins:List (Addr × Obj)) (s:Shared) (σ:St) (H:Hp) (vs:List V) (us:List Value) (Q:St->Hp->Prop),Inv X pins σ H s->b6 vs us->t vs σ H Q ->
  wpAny (model X.prog X.w) X.A (assignInOrder ((assignEach ts X.env).map (·.2)) us) (λ_ s'=>∃ σ' H',Inv X pins σ' H' s'/\Q σ' H') X.xe s
abbrev Yz:=V->V->V->Hp->(Hp->Prop)->Prop
def aa0(X:Cx)(t:Yz):Prop :=
 ∀ (pins:List (Addr × Obj)) (s:Shared) (σ:St) (H:Hp) (o i v:V) (ov iv u:Value) (Q:Hp->Prop),Inv X pins σ H s->RelV o ov->RelV i iv->RelV v u->t o i v H Q ->
  wpAny (model X.prog X.w) X.A (setItem ov iv u) (λ_ s'=>∃ H',Inv X pins σ H' s'/\Q H') X.xe s
section
variable{X:Cx}{pos:Pos}
def gX(i:Nat):TG:=λv σ H Q=>Q (σ.set i (some v)) H
theorem OW{i:Nat}{x:Str}(hN:X.N.Nodup)(hi:X.N[i]?=some x)(hx:Loc X.env.scope x)(hf:X.fn x=true∨X.env.scope.names.lookup x=some .local:=by first | exact .inl rfl | exact .inr rfl | assumption):PG X (.Name x pos) (gX i):=by
 intro pins s σ H v u Q I r h
 exact wpAny_assign_Name (BE I hN hi hx r (λs' I'=>⟨_,H,I',h⟩) hf)
def aef:Xb:=λvs σ H Q=>vs = []/\Q σ H
def aa1(t:TG)(u:Xb):Xb:=λvs σ H Q=>∃ v r,vs=v :: r/\t v σ H λσ' H'=>u r σ' H' Q
theorem E5:mU X [] aef:=by
 intro pins s σ H vs us Q I r h
 obtain⟨e,h⟩:=h
 subst e
 cases r
 exact assignInOrder_nil ⟨σ,H,I,h⟩
theorem om{e:Expr}{es:List Expr}{t:TG}{u:Xb}(h1:PG X e t)(h2:mU X es u)
 (hs:(assignEach (e :: es) X.env).map (·.2)=assign e X.env :: (assignEach es X.env).map (·.2):=by rfl):mU X (e :: es) (aa1 t u):=by
 intro pins s σ H vs us Q I r h
 obtain⟨v,vr,e1,h⟩:=h
 subst e1
 cases r with
 | cons r rr =>
  rw[hs]
  refine assignInOrder_cons (fV (h1 pins s σ H _ _ _ I r h) λ_ s1 ⟨σ1,H1,I1,q1⟩=>?_)
  exact h2 pins s1 σ1 H1 _ _ Q I1 rr q1
def aa2(K:af)(n:Nat)(t:Xb):TG:=λv σ H Q=>∃ a xs,v = .ref a/\cN K H a xs/\xs.length=n/\t xs σ H Q
theorem J0{es:List Expr}{k:Nat}{t:Xb}{n:Nat}(hc:X.calm=true)(h:mU X es t)
 (hn:(assignEach es X.env).length=n:=by rfl) (hst:(assignEach es X.env).findIdx? (·.1)=none:=by rfl):PG X (.Tuple es k pos) (aa2 X.K n t):=by
 intro pins s σ H v u Q I r hw
 obtain⟨a,xs,e1,hq,hl,hw⟩:=hw
 subst e1
 cases r
 obtain⟨its,rv,ht,hz⟩:=I.tuple hq
 refine assign_Tuple_tuple (I.ok.hd hc) ht (by simp[hn,<- hl,rv.length]) hst λh' hx=>?_
 have I1:Inv X pins σ H { s with heap:=h' }:=I.kept (t':=s.toks) λb o e=>hx b o (bu (Heap.lt_size e)) e
 exact h pins _ σ H xs _ Q I1 (by simpa using rv) hw
def aeg(to ti:TE)(t:Yz):TG:=λv σ H Q=>to σ H λo H1=>ti σ H1 λi H2=>t o i v H2 λH3=>Q σ H3
theorem YA{o i:Expr}{to ti:TE}{t:Yz}(ho:PE X o to)(hi:PE X i ti)(hs:aa0 X t)
 (ha:∀ v,assign (.Subscript o i pos) X.env v=(do
  let ov <- holding [v] (eval o X.env)
  let iv <- holding [v,ov] (eval i X.env)
  standAt pos
  holding [v,ov,iv] (setItem ov iv v)
  release [v,ov,iv] []):=by intro _; rfl):PG X (.Subscript o i pos) (aeg to ti t):=by
 intro pins s σ H v u Q I r h
 rw[ha]
 refine wpAny_bind (wpAny_holding (fV (ho pins s σ H _ I h) λov s1 ⟨x,H1,I1,r1,q1⟩=>?_))
 refine wpAny_bind (wpAny_holding (fV (hi pins s1 σ H1 _ I1 q1) λiv s2 ⟨y,H2,I2,r2,q2⟩=>?_))
 refine wpAny_bind (wpAny_standAt (wpAny_bind (wpAny_holding (fV (hs pins s2 σ H2 x y v ov iv u _ I2 r1 r2 r q2) λ_ s3 ⟨H3,I3,q3⟩=>?_))))
 exact wpAny_release ⟨σ,H3,I3,q3⟩
def Vc(te:TE)(g:TG):TS:=λD σ H=>te σ H λx H1=>g x σ H1 D.nx
theorem J1{tg e:Expr}{te:TE}{g:TG}(he:PE X e te)(hg:PG X tg g)(hs:swapsWithSole [tg] e pos.line X.env=pure false:=by rfl)(hw:swappedStores [tg] e X.env=pure none:=by rfl)
 (h1:(assignEach [tg] X.env).map (·.2) = [assign tg X.env]:=by rfl):PS X (.Assign [tg] e pos) (Vc te g):=by
 intro pins s σ H D I h
 refine wpAny_Assign_stores (fV (he pins s σ H _ I h) λv s1 ⟨x,H1,I1,r1,q1⟩=>?_) hs hw
 rw[h1]
 exact fV (hg pins s1 σ H1 x v _ I1 r1 q1) λ_ s2 q=>q
theorem YB{i:Nat}{x:Str}{e:Expr}{te:TE}{pos':Pos}(hN:X.N.Nodup)(hi:X.N[i]?=some x)(hx:Loc X.env.scope x)(he:PE X e te)(hs:swapsWith e (some (.Name x pos')) pos.line X.env=pure false:=by rfl)(hf:X.fn x=true∨X.env.scope.names.lookup x=some .local:=by first | exact .inl rfl | exact .inr rfl | assumption) :
 PS X (.Assign [.Name x pos'] e pos) (Vc te (gX i)):=by
 intro pins s σ H D I h
 refine wpAny_Assign_Name (fV (he pins s σ H _ I h) λv s1 ⟨y,H1,I1,r1,q1⟩=>?_) hs
 exact BE I1 hN hi hx r1 (λs2 I2=>⟨_,H1,I2,q1⟩) hf
def aeh(i j:Nat)(ta:TA):TS:=λD σ H=>ta σ H λvs H1=>∃ v w,vs = [v,w]/\D.nx ((σ.set i (some v)).set j (some w)) H1
theorem YC{i j:Nat}{x y:Str}{a b:Expr}{ta:TA}{px py pt:Pos}{kt k2 pt2}(hc:X.calm=true)(hN:X.N.Nodup)(hi:X.N[i]?=some x)(hj:X.N[j]?=some y)(hij:i≠j)
 (hx:X.env.scope.names.lookup x=some .local) (hy:X.env.scope.names.lookup y=some .local) (ha:PA X [a,b] ta)
 (hw:swappedStores [.Tuple [.Name x px,.Name y py] kt pt] (.Tuple [a,b] k2 pt2) X.env=pure (some [x,y]))
 (hs:swapsWithSole [.Tuple [.Name x px,.Name y py] kt pt] (.Tuple [a,b] k2 pt2) pos.line X.env=pure false:=by rfl) :
 PS X (.Assign [.Tuple [.Name x px,.Name y py] kt pt] (.Tuple [a,b] k2 pt2) pos) (aeh i j ta):=by
 intro pins s σ H D I h
 rw[exec_Assign_arm]
 refine wpAny_bind (wpAny_standAt ?_)
 rw[hs]
 refine wpAny_bind (wpAny_pure ?_)
 rw[if_neg (by decide)]
 refine wpAny_bind (Tuple_ (fV (ha _ pins s σ H _ I h) λus s1 ⟨vs,H1,I1,r1,q1⟩=>?_))
 obtain⟨v,w,e1,q1⟩:=q1
 subst e1
 obtain⟨u1,u2,rfl,rv,rw'⟩ : ∃ u1 u2,us = [u1,u2]/\RelV v u1/\RelV w u2:=by
  cases r1 with
  | cons p q =>
   cases q with
   | cons p' q' =>
    cases q'
    exact⟨_,_,rfl,p,p'⟩
 refine wpAny_newObj_type ?_ (by show 2<=sizeLine; decide)
 have I2:Inv X pins σ H1 { s1 with heap:=s1.heap.push { cls:=.type "tuple",data:=.seq [u1,u2].toArray } }:=I1.kept (t':=s1.toks) λb o e=>Heap.get?_push_of_some _ e
 rw[hw]
 refine wpAny_bind (wpAny_pure ?_)
 show wpAny (model X.prog X.w) X.A (do rule "assign.swapped-stores"; let items <- unpackItems (.ref s1.heap.objs.size) 2 none; assignInOrder [λv=>bindName X.env y v,λv=>bindName X.env x v] items.reverse; pure Flow.next) _ _ _
 refine wpAny_bind (wpAny_rule (wpAny_bind (unpackItems_tuple (items:=#[u1,u2]) (I.ok.hd hc) (IsTup.new s1.heap _) λh' hx'=>?_)))
 have I3:=I2.kept (h':=h') (t':=s1.toks) λb o e=>hx' b o (bu (Heap.lt_size e)) e
 show wpAny _ _ (assignInOrder [λv=>bindName X.env y v,λv=>bindName X.env x v] [u2,u1] >>= λ_=>pure Flow.next) _ _ _
 refine wpAny_bind (assignInOrder_cons (wpAny_bindName (BE I3 hN hj (.inl hy) rw' (λs2 I4=>?_) (.inr hy))))
 refine assignInOrder_cons (wpAny_bindName (BE I4 hN hi (.inl hx) rv (λs3 I5=>assignInOrder_nil (wpAny_pure ?_)) (.inr hx)))
 rw[List.set_comm _ _ (bT hij)] at I5
 exact⟨_,H1,I5,q1⟩
def Si(c:TT)(tb:TS):TS:=λD σ H=>∃ W:Nat->St->Hp->Prop,(∃ m,W m σ H)/\∀ m σ H,W m σ H ->
 c σ H λb H1=>if b=true then ∃ N:St->Hp->Prop,(∀ σ' H',N σ' H'->∃ m',m' < m/\W m' σ' H')/\tb { D with nx:=N,ct:=N,bk:=D.nx } σ H1 else D.nx σ H1
theorem Sj{c:Expr}{body:List Stmt}{tc:TT}{tb:TS}(hp:PassesOwn (model X.prog X.w) X.A X.env X.xe)(hc:PT X c tc)(hb:iV X body tb):PS X (.While c body [] pos) (Si tc tb):=by
 intro pins s σ H D I h
 obtain⟨W,⟨m0,w0⟩,turn⟩:=h
 refine wpAny_While (codeAny_whileLoop (λn s'=>∃ σ' H',Inv X pins σ' H' s'/\W n σ' H') ?_ m0 ⟨σ,H,I,w0⟩)
 rintro n s1 ⟨σ1,H1,I1,w1⟩
 refine wpAny_passesOwn hp (fV (hc pins s1 σ1 H1 _ I1 (turn n σ1 H1 w1)) λb s2 ⟨H2,I2,q2⟩=>?_)
 cases b with
 | true =>
  obtain⟨N,hN,q2⟩:=q2
  rw[if_pos rfl]
  refine wpAny_passesOwn hp (fV (hb pins s2 σ1 H2 _ I2 q2) λf s3 q3=>?_)
  cases f with
  | next =>
   obtain⟨σ3,H3,I3,n3⟩:=q3
   obtain⟨m',hm,w3⟩:=hN σ3 H3 n3
   exact⟨m',hm,σ3,H3,I3,w3⟩
  | cont =>
   obtain⟨σ3,H3,I3,n3⟩:=q3
   obtain⟨m',hm,w3⟩:=hN σ3 H3 n3
   exact⟨m',hm,σ3,H3,I3,w3⟩
  | brk=>exact q3
  | ret v=>exact q3
 | false =>
  rw[if_neg aD]
  exact wpAny_execs_nil ⟨σ1,H2,I2,q2⟩
end
structure It where
 go:Nat->Hp->Prop
 Lu:Nat->Hp->V->Hp->Prop
 stop:Nat->Hp->Prop
def BH(X:Cx)(pins:List (Addr × Obj))(H:Hp)(b:Addr):Prop :=
 H b=none/\b≠X.env.locals/\b ∉ X.fs/\(b∈X.ex∨X.s₀.heap.objs.size<=b)/\(∀ x c,X.env.cells.lookup x=some c->c≠b)/\∀ p∈X.pn++pins,p.1≠b
theorem Inv.Vd{X:Cx}{pins:List (Addr × Obj)}{σ:St}{H H':Hp}{s:Shared}{b:Addr}(I:Inv X pins σ H s)(hb:s.heap.objs.size<=b)(hn:H' b=none):BH X pins H' b:=by
 refine⟨hn,Nat.ne_of_gt (bH I.lt hb),I.ad8 hb,.inr (aO I.sz hb),λx c e z=>?_,λp hp z=>?_⟩
 ·obtain⟨v,q⟩:=I.cell x c e
  exact absurd (bH q.lt (by rw[z]; exact hb)) (jJ _)
 ·exact absurd (bH (Heap.lt_size (I.pin p hp).1) (by rw[z]; exact hb)) (jJ _)
structure Turn(P:Program)(w:World)(K:af)(tg:Expr)(J:It)(fp:List Addr)(it:Addr)(tn:Nat->Heap->Prop):Prop where
 mem:it∈fp
 obj:∀ i h,tn i h->∀ b∈fp,∃ o,h.get? b=some o/\∀ v,o.data≠.cell v
 keep:∀ i h h',tn i h->(∀ b∈fp,∀ o,h.get? b=some o->h'.get? b=some o)->tn i h'
 item:∀ (X:Cx),X.prog=P->X.w=w->X.K=K->X.calm=true->∀ (i:Nat) (pins:List (Addr × Obj)) (s:Shared) (σ:St) (H:Hp) (E:Value->Shared->Prop),Inv X pins σ H s->(∀ b∈fp,BH X pins H b)->tn i s.heap->J.go i H ->
  wpAny (model P w) X.A (pyNext (.ref it)) (λr s1=>∃ u,r=some u /\
   wpAny (model P w) X.A (letOwnedTupleGo tg (.ref it) u) (λ_ s2=>∃ x H',Inv X pins σ H' s2/\RelV x u/\J.Lu i H x H'/\tn (i + 1) s2.heap/\∀ b∈fp,H' b=none) E s1) E s
 done:∀ (X:Cx),X.prog=P->X.w=w->X.K=K->X.calm=true->∀ (i:Nat) (pins:List (Addr × Obj)) (s:Shared) (σ:St) (H:Hp) (E:Value->Shared->Prop),Inv X pins σ H s->(∀ b∈fp,BH X pins H b)->tn i s.heap->J.stop i H ->
  wpAny (model P w) X.A (pyNext (.ref it)) (λr s1=>r=none/\Inv X pins σ H s1) E s
 self:∀ (A:Around) (i:Nat) (s:Shared) (Q:Value->Shared->Prop) (E:Value->Shared->Prop),tn i s.heap->Q (.ref it) s->wpAny (model P w) A (pyIter (.ref it)) Q E s
abbrev TI:=St->Hp->(It->Hp->Prop)->Prop
def PIE(X:Cx)(pins:List (Addr × Obj))(σ:St)(tg:Expr)(R:It->Hp->Prop)(itv:Value)(s2:Shared):Prop :=
 ∃ (it:Addr) (fp:List Addr) (tn:Nat->Heap->Prop) (J:It) (H':Hp),itv = .ref it/\Inv X pins σ H' s2/\Turn X.prog X.w X.K tg J fp it tn/\tn 0 s2.heap/\(∀ b∈fp,BH X pins H' b)/\R J H'
def PI(X:Cx)(tg iter:Expr)(wi:TI):Prop :=
 ∀ (pins:List (Addr × Obj)) (s:Shared) (σ:St) (H:Hp) (R:It->Hp->Prop),Inv X pins σ H s->wi σ H R ->
  wpAny (model X.prog X.w) X.A (eval iter X.env) (λv s1=>wpAny (model X.prog X.w) X.A (pyIter v) (PIE X pins σ tg R) X.xe s1) X.xe s
theorem Sk{M:Model}{A:Around}{E:Value->Shared->Prop}{s:Shared}{tg:Expr}{it:Addr}{u:Value}{o:Obj}{n:String}{vs:Array Value}{Q:Unit->Shared->Prop}(ho:s.heap.get? it=some o)(hc:o.cls = .type n)(hd:o.data = .fields vs)
 (hn:["enumerate","zip","dict_itemiterator","dict_reverseitemiterator","odict_iterator","itertools.zip_longest","itertools.pairwise"].contains n=false) (hQ:Q () s):wpAny M A (letOwnedTupleGo tg (.ref it) u) Q E s:=by
 unfold letOwnedTupleGo
 cases tg <;> first
  | exact wpAny_pure hQ
  | (cases u <;> first
   | exact wpAny_pure hQ
   | (refine wpAny_bind (wpAny_load ho ?_)
      rw[hc,hd]
      show wpAny M A (if (["enumerate","zip","dict_itemiterator","dict_reverseitemiterator","odict_iterator","itertools.zip_longest","itertools.pairwise"].contains n && vs[0]? == some (rawInt _))=true then _ else _) Q E s
      rw[if_neg (by intro h; rw[hn,Bool.false_and] at h; cases h)]
      exact wpAny_pure hQ))
noncomputable def J2(K:af)(a:Addr):It :=
 ⟨λi H=>∃ xs x,bL K H a xs/\xs[i]?=some x,λi H x H'=>H'=H/\∀ xs,bL K H a xs->xs[i]?=some x,λi H=>∃ xs,bL K H a xs/\xs.length<=i⟩
noncomputable def Itt(K:af)(a:Addr):It :=
 ⟨λi H=>∃ xs x,cN K H a xs/\xs[i]?=some x,λi H x H'=>H'=H/\∀ xs,cN K H a xs->xs[i]?=some x,λi H=>∃ xs,cN K H a xs/\xs.length<=i⟩
noncomputable def Sl(lo:Int)(n:Nat):It:=⟨λi _=>i < n,λi H x H'=>H'=H/\x = .int (lo + i),λi _=>n<=i⟩
theorem QD{P:Program}{w:World}{K:af}{tg:Expr}(a it:Addr):Turn P w K tg (J2 K a) [it] it (λi h=>h.IsListIter it a i) where
 mem:=by simp
 obj:=λi h st b hb=>by
  have e:b=it:=by simpa using hb
  subst e
  obtain⟨o,e,c,d⟩:=st
  exact⟨o,e,λv z=>by rw[d] at z; cases z⟩
 keep:=λi h h' st k=>st.at λo e=>k it (by simp) o e
 item:=by
  intro X hP hw hK hc i pins s σ H E I hf st hg
  subst hP hw hK
  obtain⟨xs,x,hq,hx⟩:=hg
  obtain⟨its,rv,p,hz⟩:=I.list hq
  obtain⟨u,hu,ru⟩:=rv.get hx
  obtain⟨f0,f1,f2,f3,f4,f5⟩:=hf it (by simp)
  refine wpAny_pyNext_list_item st p.isList (x:=u) (by simpa using hu) λh' st' sb=>?_
  have I1:Inv X pins σ H { s with heap:=h' }:=I.turned (t':=s.toks) (λb o hb e=>(sb.2 b hb).trans e) f0 f1 f3 f4 f5
  obtain⟨o,e,c,d⟩:=id st'
  exact⟨u,rfl,Sk (s:={ s with heap:=h' }) e c d (by decide) ⟨x,H,I1,ru,⟨rfl,λys hy=>by rw[I.Lr hy hq]; exact hx⟩,st',λb hb=>(hf b hb).1⟩⟩
 done:=by
  intro X hP hw hK hc i pins s σ H E I hf st hg
  subst hP hw hK
  obtain⟨xs,hq,hx⟩:=hg
  obtain⟨its,rv,p,hz⟩:=I.list hq
  obtain⟨f0,f1,f2,f3,f4,f5⟩:=hf it (by simp)
  have hl:=rv.length
  exact wpAny_pyNext_list_end (I.ok.hd hc) st p.isList (by simp; omega) λh' eb=>⟨rfl,I.turned (t':=s.toks) (λb o hb e=>eb b o hb e) f0 f1 f3 f4 f5⟩
 self:=λ_ _ _ _ _ st h=>wpAny_pyIter_listiter st h
theorem Nk{P:Program}{w:World}{K:af}{tg:Expr}(a it:Addr):Turn P w K tg (Itt K a) [it] it (λi h=>h.IsTupleIter it a i) where
 mem:=by simp
 obj:=λi h st b hb=>by
  have e:b=it:=by simpa using hb
  subst e
  obtain⟨o,e,c,d⟩:=st
  exact⟨o,e,λv z=>by rw[d] at z; cases z⟩
 keep:=λi h h' st k=>st.at λo e=>k it (by simp) o e
 item:=by
  intro X hP hw hK hc i pins s σ H E I hf st hg
  subst hP hw hK
  obtain⟨xs,x,hq,hx⟩:=hg
  obtain⟨its,rv,p,hz⟩:=I.tuple hq
  obtain⟨u,hu,ru⟩:=rv.get hx
  obtain⟨f0,f1,f2,f3,f4,f5⟩:=hf it (by simp)
  refine wpAny_pyNext_tuple_item st (show s.heap.IsTuple a its.toArray from p) (x:=u) (by simpa using hu) λh' st' sb=>?_
  have I1:Inv X pins σ H { s with heap:=h' }:=I.turned (t':=s.toks) (λb o hb e=>(sb.2 b hb).trans e) f0 f1 f3 f4 f5
  obtain⟨o,e,c,d⟩:=id st'
  exact⟨u,rfl,Sk (s:={ s with heap:=h' }) e c d (by decide) ⟨x,H,I1,ru,⟨rfl,λys hy=>by rw[I.QC hy hq]; exact hx⟩,st',λb hb=>(hf b hb).1⟩⟩
 done:=by
  intro X hP hw hK hc i pins s σ H E I hf st hg
  subst hP hw hK
  obtain⟨xs,hq,hx⟩:=hg
  obtain⟨its,rv,p,hz⟩:=I.tuple hq
  obtain⟨f0,f1,f2,f3,f4,f5⟩:=hf it (by simp)
  have hl:=rv.length
  exact wpAny_pyNext_tuple_end (I.ok.hd hc) st (show s.heap.IsTuple a its.toArray from p) (by simp; omega) λh' eb=>⟨rfl,I.turned (t':=s.toks) (λb o hb e=>eb b o hb e) f0 f1 f3 f4 f5⟩
 self:=λ_ _ _ _ _ st h=>wpAny_pyIter_tupleiter st h
theorem Nl{P:Program}{w:World}{K:af}{tg:Expr}(it:Addr)(lo:Int)(n:Nat):Turn P w K tg (Sl lo n) [it] it (λi h=>IsRangeIter h it (lo + (i:Nat) * 1) ((n:Int) - (i:Nat)) 1) where
 mem:=by simp
 obj:=λi h st b hb=>by
  have e:b=it:=by simpa using hb
  subst e
  exact⟨_,st,λv z=>by
   have z':Data.fields _=Data.cell v:=z
   cases z'⟩
 keep:=λi h h' st k=>k it (by simp) _ st
 item:=by
  intro X hP hw hK hc i pins s σ H E I hf st hg
  subst hP hw hK
  obtain⟨f0,f1,f2,f3,f4,f5⟩:=hf it (by simp)
  have W:=Walks.range (prog:=X.prog) (w:=X.w) (I.ok.hd hc) it lo 1 n
  refine W.item i s _ _ hg st λv h' tk hv st' kk=>?_
  obtain⟨t,rfl⟩:=hv
  have I1:Inv X pins σ H { s with heap:=h',toks:=tk }:=I.turned (λb o hb e=>kk b o (by simpa using hb) e) f0 f1 f3 f4 f5
  refine⟨_,rfl,Sk (s:={ s with heap:=h',toks:=tk }) (n:="range_iterator") st' rfl rfl (by decide) ⟨.int (lo + i),H,I1,⟨t,?_⟩,⟨rfl,rfl⟩,st',λb hb=>(hf b hb).1⟩⟩
  rw[Int.mul_one]
 done:=by
  intro X hP hw hK hc i pins s σ H E I hf st hg
  subst hP hw hK
  obtain⟨f0,f1,f2,f3,f4,f5⟩:=hf it (by simp)
  exact wpAny_pyNext_range_end (I.ok.hd hc) st (by have:n<=i:=hg; omega) λh' eb=>⟨rfl,I.turned (t':=s.toks) (λb o hb e=>eb b o hb e) f0 f1 f3 f4 f5⟩
 self:=λ_ _ _ _ _ st h=>wpAny_pyIter_rangeiter st h
section
variable{X:Cx}{tg:Expr}
def aa3(K:af)(tl:TE):TI:=λσ H R=>tl σ H λx H1=>∃ a,x = .ref a/\(∃ xs,bL K H1 a xs)/\R (J2 K a) H1
def aej(K:af)(tl:TE):TI:=λσ H R=>tl σ H λx H1=>∃ a,x = .ref a/\(∃ xs,cN K H1 a xs)/\R (Itt K a) H1
theorem fE{l:Expr}{tl:TE}(hl:PE X l tl):PI X tg l (aa3 X.K tl):=by
 intro pins s σ H R I h
 refine fV (hl pins s σ H _ I h) λv s1 ⟨x,H1,I1,r1,q1⟩=>?_
 obtain⟨a,e,⟨xs,hq⟩,q⟩:=q1
 subst e
 cases r1
 obtain⟨its,rv,p,hz⟩:=I1.list hq
 refine wpAny_pyIter_list p.isList ?_
 refine⟨s1.heap.objs.size,[s1.heap.objs.size],_,_,H1,rfl,I1.kept (t':=s1.toks) λb o e=>Heap.get?_push_of_some _ e,QD a _,⟨_,Heap.get?_push_size _ rfl,rfl,rfl⟩,λb hb=>?_,q⟩
 have e:b=s1.heap.objs.size:=by simpa using hb
 subst e
 exact I1.Vd (az _) (I1.hok.fresh (az _))
theorem Nm{l:Expr}{tl:TE}(hl:PE X l tl):PI X tg l (aej X.K tl):=by
 intro pins s σ H R I h
 refine fV (hl pins s σ H _ I h) λv s1 ⟨x,H1,I1,r1,q1⟩=>?_
 obtain⟨a,e,⟨xs,hq⟩,q⟩:=q1
 subst e
 cases r1
 obtain⟨its,rv,p,hz⟩:=I1.tuple hq
 refine wpAny_pyIter_tuple (show s1.heap.IsTuple a its.toArray from p) ?_
 refine⟨s1.heap.objs.size,[s1.heap.objs.size],_,_,H1,rfl,I1.kept (t':=s1.toks) λb o e=>Heap.get?_push_of_some _ e,Nk a _,⟨_,Heap.get?_push_size _ rfl,rfl,rfl⟩,λb hb=>?_,q⟩
 have e:b=s1.heap.objs.size:=by simpa using hb
 subst e
 exact I1.Vd (az _) (I1.hok.fresh (az _))
theorem Sm{pins:List (Addr × Obj)}{σ:St}{H:Hp}{s:Shared}{R:It->Hp->Prop}{E:Value->Shared->Prop}{lo hi:Int}{t u v:Tok}{tk:Nat}(I:Inv X pins σ H s)(h1 : -(2 ^ 62)<=lo)(h2:lo < 2 ^ 62)(h3 : -(2 ^ 62)<=hi)(h4:hi < 2 ^ 62)
 (q:R (Sl lo (hi - lo).toNat) H):wpAny (model X.prog X.w) X.A (pyIter (.ref s.heap.objs.size)) (PIE X pins σ tg R) E { s with heap:=s.heap.push { cls:=.type "range",data:=.fields #[.int lo t,.int hi u,.int 1 v] },toks:=tk }:=by
 refine wpAny_pyIter_range (IsRange.new ..) (small_one h1 h2 h3 h4) ?_
 have I1:Inv X pins σ H { s with heap:=s.heap.push { cls:=.type "range",data:=.fields #[.int lo t,.int hi u,.int 1 v] },toks:=tk }:=I.kept λb o e=>Heap.get?_push_of_some _ e
 refine⟨(s.heap.push { cls:=.type "range",data:=.fields #[.int lo t,.int hi u,.int 1 v] }).objs.size,[(s.heap.push { cls:=.type "range",data:=.fields #[.int lo t,.int hi u,.int 1 v] }).objs.size],_,_,H,rfl,
  I1.kept (t':=tk) λb o e=>Heap.get?_push_of_some _ e,Nl _ lo (hi - lo).toNat,?_,λb hb=>?_,q⟩
 ·have e1:lo + ((0:Nat):Int) * 1=lo:=by simp
  have e2:(((hi - lo).toNat:Nat):Int) - ((0:Nat):Int)=Builtin.Range.rangeSize lo hi 1:=by rw[rangeSize_one]; split <;> omega
  show IsRangeIter _ _ (lo + ((0:Nat):Int) * 1) ((((hi - lo).toNat:Nat):Int) - ((0:Nat):Int)) 1
  rw[e1,e2]
  exact Heap.get?_push_size _ rfl
 ·have e:b=(s.heap.push { cls:=.type "range",data:=.fields #[.int lo t,.int hi u,.int 1 v] }).objs.size:=by simpa using hb
  subst e
  exact I1.Vd (az _) (I1.hok.fresh (az _))
def aa4(ta:TA):TI:=λσ H R=>ta σ H λvs H1=>∃ j:Int,vs = [.int j]/\-(2 ^ 62)<=j/\j < 2 ^ 62/\R (Sl 0 j.toNat) H1
theorem eu{a:Expr}{ta:TA}{p pos:Pos}(hg:Gl X "range")(hm:X.mg "range" = none)(ha:PA X [a] ta)(hs:starEach [a] X.env = [(false,eval a X.env)]:=by rfl):PI X tg (.Call (.Name "range" p) [a] [] pos) (aa4 ta):=by
 intro pins s σ H R I h
 refine Call_ (Fz I hg hm boot_range (PyProof.Rows.callWith_type1 (fV (ha pos pins s σ H _ I h) λus s1 ⟨vs,H1,I1,r1,q1⟩=>?_) hs rfl))
 obtain⟨j,e,q1,q2,q⟩:=q1
 subst e
 cases r1 with
 | cons r rr =>
  cases rr
  obtain⟨t,rfl⟩:=r
  exact call_range_1 (Sm I1 (by omega) (by omega) q1 q2 (by simpa using q))
def aa5(wi:TI)(g:TG)(tb:TS):TS:=λD σ H=>wi σ H λJ H1=>∃ W:Nat->Nat->St->Hp->Prop,(∃ m,W 0 m σ H1)/\∀ i m σ H,W i m σ H ->
 (J.stop i H/\D.nx σ H)∨(J.go i H/\∃ N:St->Hp->Prop,(∀ σ' H',N σ' H'->∃ m',m' < m/\W (i + 1) m' σ' H')/\∀ x H',J.Lu i H x H'->g x σ H' λσ2 H2=>tb { D with nx:=N,ct:=N,bk:=D.nx } σ2 H2)
noncomputable def FA(fp:List Addr)(h:Heap):List (Addr × Obj):=fp.filterMap λb=>(h.get? b).map λo=>(b,o)
theorem AO{fp:List Addr}{h:Heap}{b:Addr}{o:Obj}(hb:b∈fp)(e:h.get? b=some o):(b,o)∈FA fp h:=qJ.mpr ⟨b,hb,by rw[e]; rfl⟩
theorem QE{fp:List Addr}{h:Heap}{p:Addr × Obj}(hp:p∈FA fp h):p.1∈fp/\h.get? p.1=some p.2:=by
 obtain⟨b,hb,e⟩:=qJ.mp hp
 cases q:h.get? b with
 | none=>rw[q] at e; cases e
 | some o =>
  rw[q] at e
  have e':(b,o)=p:=aL e
  subst e'
  exact⟨hb,q⟩
theorem Inv.pinned{pins:List (Addr × Obj)}{σ:St}{H:Hp}{s:Shared}{fp:List Addr}(I:Inv X pins σ H s)(hf:∀ b∈fp,BH X pins H b)(ho:∀ b∈fp,∃ o,s.heap.get? b=some o/\∀ v,o.data≠.cell v):Inv X (pins++FA fp s.heap) σ H s :=
 I.OV λp hp=>(aY.mp hp).elim (λz=>I.pin p (bN _ z)) λz=>by
  obtain⟨hb,e⟩:=QE z
  obtain⟨f0,f1,f2,_⟩:=hf p.1 hb
  obtain⟨o,e',d⟩:=ho p.1 hb
  rw[e] at e'; cases e'
  exact⟨e,f0,f1,f2,d⟩
theorem Inv.BI{pins pl:List (Addr × Obj)}{σ:St}{H:Hp}{s:Shared}(I:Inv X (pins++pl) σ H s):Inv X pins σ H s:=I.OV λp hp=>I.pin p (bN _ (bV _ hp))
theorem YD{iter:Expr}{body:List Stmt}{wi:TI}{g:TG}{tb:TS}{pos:Pos}(hp:PassesOwn (model X.prog X.w) X.A X.env X.xe)(hc:X.calm=true)(hi:PI X tg iter wi)(hg:PG X tg g)(hb:iV X body tb)
 (hs:∀ x,foldedSetIterable iter X.env x=pure x:=by intro _; rfl):PS X (.For tg iter body [] pos) (aa5 wi g tb):=by
 intro pins s σ H D I h
 refine wpAny_For (fV (hi pins s σ H _ I h) λv s1 h1=>fV h1 λitv s2 h2=>?_) hs
 obtain⟨it,fp,tn,J,H2,e,I2,T,st2,f2,W,⟨m0,w0⟩,turn⟩:=h2
 subst e
 have stat:∀ {H':Hp},(∀ b∈fp,H' b=none)->∀ b∈fp,BH X pins H' b:=λhn b hb=>⟨hn b hb,(f2 b hb).2⟩
 refine codeAny_forLoop_any (λn s'=>∃ i σ' H',Inv X pins σ' H' s'/\tn i s'.heap/\(∀ b∈fp,H' b=none)/\W i n σ' H') ?_ m0 ⟨0,σ,H2,I2,st2,λb hb=>(f2 b hb).1,w0⟩
 rintro n s3 ⟨i,σ3,H3,I3,st3,fr3,w3⟩
 rcases turn i n σ3 H3 w3 with ⟨stop,qn⟩ | ⟨go,N,hN,step⟩
 ·refine wpAny_passesOwn hp (fV (T.done X rfl rfl rfl hc i pins s3 σ3 H3 X.xe I3 (stat fr3) st3 stop) λr s4 ⟨hr,I4⟩=>?_)
  subst hr
  exact wpAny_execs_nil ⟨σ3,H3,I4,qn⟩
 ·refine wpAny_passesOwn hp (fV (T.item X rfl rfl rfl hc i pins s3 σ3 H3 X.xe I3 (stat fr3) st3 go) λr s4 ⟨u,hr,h4⟩=>?_)
  subst hr
  refine wpAny_passesOwn hp (fV h4 λ_ s5 ⟨x,H5,I5,r5,y5,IQ,fr5⟩=>?_)
  have I5':=I5.pinned (stat fr5) (T.obj _ _ IQ)
  refine wpAny_passesOwn hp (fV (hg _ s5 σ3 H5 x u _ I5' r5 (step x H5 y5)) λ_ s6 ⟨σ6,H6,I6,q6⟩=>?_)
  refine wpAny_passesOwn hp (fV (hb _ s6 σ6 H6 _ I6 q6) λf s7 q7=>?_)
  have again:∀ {Sn:St} {H7:Hp},Inv X (pins++FA fp s5.heap) Sn H7 s7->N Sn H7->∃ m,m < n/\∃ i σ' H',Inv X pins σ' H' s7/\tn i s7.heap/\(∀ b∈fp,H' b=none)/\W i m σ' H':=λ{Sn H7} I7 n7=>by
   obtain⟨m',hm,w7⟩:=hN Sn H7 n7
   refine⟨m',hm,i + 1,Sn,H7,I7.BI,T.keep _ _ _ IQ λb hb o e=>(I7.pin (b,o) (bN _ (bN _ (AO hb e)))).1,λb hb=>?_,w7⟩
   obtain⟨o,e,d⟩:=T.obj _ _ IQ b hb
   exact (I7.pin (b,o) (bN _ (bN _ (AO hb e)))).2.1
  cases f with
  | next=>obtain⟨Sn,H7,I7,n7⟩:=q7; exact again I7 n7
  | cont=>obtain⟨Sn,H7,I7,n7⟩:=q7; exact again I7 n7
  | brk=>obtain⟨Sn,H7,I7,q7⟩:=q7; exact⟨Sn,H7,I7.BI,q7⟩
  | ret v=>obtain⟨x7,Sn,H7,I7,r7,q7⟩:=q7; exact⟨x7,Sn,H7,I7.BI,r7,q7⟩
end
theorem qN{K:af}{a:Addr}{xs:List V}{g:TG}{tb:TS}{D:Ends}{σ:St}{H:Hp}(Pv:Nat->St->Hp->Prop)(h0:Pv 0 σ H)(hl:∀ i σ H,i<=xs.length->Pv i σ H->bL K H a xs)
 (hs:∀ i x σ H,xs[i]?=some x->Pv i σ H->g x σ H λσ2 H2=>tb { D with nx:=Pv (i + 1),ct:=Pv (i + 1),bk:=D.nx } σ2 H2) (hd:∀ σ H,Pv xs.length σ H->D.nx σ H) :
 ∃ W:Nat->Nat->St->Hp->Prop,(∃ m,W 0 m σ H)/\∀ i m σ H,W i m σ H ->
  ((J2 K a).stop i H/\D.nx σ H)∨((J2 K a).go i H/\∃ N:St->Hp->Prop,(∀ σ' H',N σ' H'->∃ m',m' < m/\W (i + 1) m' σ' H')/\∀ x H',(J2 K a).Lu i H x H'->g x σ H' λσ2 H2=>tb { D with nx:=N,ct:=N,bk:=D.nx } σ2 H2):=by
 refine⟨λi m σ H=>m=xs.length - i/\i<=xs.length/\Pv i σ H,⟨xs.length,by simp,aV _,h0⟩,?_⟩
 rintro i m σ H ⟨rfl,hi,p⟩
 have q:=hl i σ H hi p
 by_cases hlt:i < xs.length
 ·refine .inr ⟨⟨xs,xs[i],q,by simp[hlt]⟩,Pv (i + 1),λσ' H' p'=>⟨xs.length - (i + 1),by omega,rfl,hlt,p'⟩,λx H' y=>?_⟩
  obtain⟨e,y⟩:=y
  subst e
  exact hs i x σ _ (y xs q) p
 ·have e:i=xs.length:=by omega
  subst e
  exact .inl ⟨⟨xs,q,az _⟩,hd σ H p⟩
theorem uU{lo:Int}{n:Nat}{g:TG}{tb:TS}{D:Ends}{σ:St}{H:Hp}(Pv:Nat->St->Hp->Prop)(h0:Pv 0 σ H)
 (hs:∀ i σ H,i < n->Pv i σ H->g (.int (lo + i)) σ H λσ2 H2=>tb { D with nx:=Pv (i + 1),ct:=Pv (i + 1),bk:=D.nx } σ2 H2) (hd:∀ σ H,Pv n σ H->D.nx σ H) :
 ∃ W:Nat->Nat->St->Hp->Prop,(∃ m,W 0 m σ H)/\∀ i m σ H,W i m σ H ->
  ((Sl lo n).stop i H/\D.nx σ H)∨((Sl lo n).go i H/\∃ N:St->Hp->Prop,(∀ σ' H',N σ' H'->∃ m',m' < m/\W (i + 1) m' σ' H')/\∀ x H',(Sl lo n).Lu i H x H'->g x σ H' λσ2 H2=>tb { D with nx:=N,ct:=N,bk:=D.nx } σ2 H2):=by
 refine⟨λi m σ H=>m=n - i/\i<=n/\Pv i σ H,⟨n,by simp,aV _,h0⟩,?_⟩
 rintro i m σ H ⟨rfl,hi,p⟩
 by_cases hlt:i < n
 ·refine .inr ⟨hlt,Pv (i + 1),λσ' H' p'=>⟨n - (i + 1),by omega,rfl,hlt,p'⟩,λx H' y=>?_⟩
  obtain⟨e,y⟩:=y
  subst e y
  exact hs i σ _ hlt p
 ·have e:i=n:=by omega
  subst e
  exact .inl ⟨az _,hd σ H p⟩
theorem So{c:TT}{tb:TS}{D:Ends}{σ:St}{H:Hp}(Pv:St->Hp->Prop)(μ:St->Hp->Nat)(h0:Pv σ H)
 (hs:∀ σ H,Pv σ H->c σ H λb H1=>if b=true then tb { D with nx:=λσ' H'=>Pv σ' H'/\μ σ' H' < μ σ H,ct:=λσ' H'=>Pv σ' H'/\μ σ' H' < μ σ H,bk:=D.nx } σ H1 else D.nx σ H1)
 (mono:∀ σ H Q Q',(∀ b H1,Q b H1->Q' b H1)->c σ H Q->c σ H Q'):Si c tb D σ H:=by
 refine⟨λm σ H=>m=μ σ H/\Pv σ H,⟨_,rfl,h0⟩,?_⟩
 rintro m σ H ⟨rfl,p⟩
 refine mono σ H _ _ (λb H1 q=>?_) (hs σ H p)
 cases b with
 | true=>exact⟨_,λσ' H' ⟨p',l⟩=>⟨_,l,rfl,p'⟩,q⟩
 | false=>exact q
abbrev R2:=V->V->Hp->VK->Prop
def xY(X:Cx)(f:Value->Value->Sem Value)(r:R2):Prop :=
 ∀ (pins:List (Addr × Obj)) (s:Shared) (σ:St) (H:Hp) (x y:V) (v u:Value) (Q:VK),Inv X pins σ H s->RelV x v->RelV y u->r x y H Q ->
  wpAny (model X.prog X.w) X.A (f v u) (EP X pins σ Q) X.xe s
def UnR(X:Cx)(f:Value->Sem Value)(r:V->Hp->VK->Prop):Prop :=
 ∀ (pins:List (Addr × Obj)) (s:Shared) (σ:St) (H:Hp) (x:V) (v:Value) (Q:VK),Inv X pins σ H s->RelV x v->r x H Q ->
  wpAny (model X.prog X.w) X.A (f v) (EP X pins σ Q) X.xe s
def mX(X:Cx)(f:Value)(r:List V->Hp->VK->Prop):Prop :=
 ∀ (pins:List (Addr × Obj)) (s:Shared) (σ:St) (H:Hp) (xs:List V) (us:List Value) (Q:VK),Inv X pins σ H s->b6 xs us->r xs H Q ->
  wpAny (model X.prog X.w) X.A (call f us) (EP X pins σ Q) X.xe s
def ael(X:Cx)(r:V->Hp->(Bool->Hp->Prop)->Prop):Prop :=
 ∀ (pins:List (Addr × Obj)) (s:Shared) (σ:St) (H:Hp) (x:V) (v:Value) (Q:Bool->Hp->Prop),Inv X pins σ H s->RelV x v->r x H Q ->
  wpAny (model X.prog X.w) X.A (truthy v) (TP X pins σ Q) X.xe s
def Sq(r:R2)(ta tb:TE):TE:=λσ H Q=>ta σ H λx H1=>tb σ H1 λy H2=>r x y H2 Q
def tUn(r:V->Hp->VK->Prop)(ta:TE):TE:=λσ H Q=>ta σ H λx H1=>r x H1 Q
def rI(C:Int->Int->Prop)(g:Int->Int->V):R2:=λx y H Q=>∃ i j,x = .int i/\y = .int j/\C i j/\Q (g i j) H
def Ss(g:Int->Int->V):R2:=λx y H Q=>∃ i j,x = .int i/\y = .int j/\Q (g i j) H
def rU(g:Int->V):V->Hp->VK->Prop:=λx H Q=>∃ i,x = .int i/\Q (g i) H
section
variable{X:Cx}{a b c:Expr}{ta tb tc:TE}{pos:Pos}
theorem YE(ha:PE X a ta)(hb:PE X b tb){pins:List (Addr × Obj)}{s:Shared}{σ:St}{H:Hp}{R:V->V->Hp->Prop}(I:Inv X pins σ H s)
 (h:ta σ H λx H1=>tb σ H1 λy H2=>R x y H2) {Q:Value->Shared->Prop} {f:Value->Value->Sem Value}
 (hf:∀ v u s2 x y H2,Inv X pins σ H2 s2->RelV x v->RelV y u->R x y H2->wpAny (model X.prog X.w) X.A (f v u) Q X.xe s2) :
 wpAny (model X.prog X.w) X.A (eval a X.env) (λv s₁=>wpAny (model X.prog X.w) X.A (eval b X.env) (λu s₂=>wpAny (model X.prog X.w) X.A (f v u) Q X.xe s₂) X.xe s₁) X.xe s:=by
 refine fV (ha pins s σ H _ I h) λv s1 ⟨x,H1,I1,r1,q1⟩=>?_
 refine fV (hb pins s1 σ H1 _ I1 q1) λu s2 ⟨y,H2,I2,r2,q2⟩=>?_
 exact hf v u s2 x y H2 I2 r1 r2 q2
theorem bf{op:Operator}{r:R2}(ho:xY X (binaryOp op) r)(ha:PE X a ta)(hb:PE X b tb):PE X (.BinOp a op b pos) (Sq r ta tb):=by
 intro pins s σ H Q I h
 exact wpAny_BinOp (YE ha hb I h λv u s2 x y H2 I2 rx ry q=>ho pins s2 σ H2 x y v u Q I2 rx ry q)
theorem aa7{op:UnaryOp}{r:V->Hp->VK->Prop}(ho:UnR X (unaryOp op) r)(ha:PE X a ta):PE X (.UnaryOp op a pos) (tUn r ta):=by
 intro pins s σ H Q I h
 exact UnaryOp_ (fV (ha pins s σ H _ I h) λv s1 ⟨x,H1,I1,r1,q1⟩=>ho pins s1 σ H1 x v Q I1 r1 q1)
theorem opI{f:Value->Value->Sem Value}{C:Int->Int->Prop}{g:Int->Int->Int}
 (rule:∀ (i j:Int) (t u:Tok) (s:Shared) (Q:Value->Shared->Prop) (E:Value->Shared->Prop),C i j->Q (.int (g i j) s.toks) { s with toks:=s.toks + 1 }->wpAny (model X.prog X.w) X.A (f (.int i t) (.int j u)) Q E s) :
 xY X f (rI C λi j=>.int (g i j)):=by
 intro pins s σ H x y v u Q I rx ry h
 obtain⟨i,j,rfl,rfl,hc,q⟩:=h
 obtain⟨t,rfl⟩:=rx
 obtain⟨t',rfl⟩:=ry
 exact rule i j t t' s _ _ hc ⟨.int (g i j),H,I.tok _,⟨_,rfl⟩,q⟩
theorem Ve{f:Value->Value->Sem Value}{g:Int->Int->Int}
 (rule:∀ (i j:Int) (t u:Tok) (s:Shared) (Q:Value->Shared->Prop) (E:Value->Shared->Prop),Q (.int (g i j) s.toks) { s with toks:=s.toks + 1 }->wpAny (model X.prog X.w) X.A (f (.int i t) (.int j u)) Q E s) :
 xY X f (Ss λi j=>.int (g i j)):=by
 intro pins s σ H x y v u Q I rx ry h
 obtain⟨i,j,rfl,rfl,q⟩:=h
 obtain⟨t,rfl⟩:=rx
 obtain⟨t',rfl⟩:=ry
 exact rule i j t t' s _ _ ⟨.int (g i j),H,I.tok _,⟨_,rfl⟩,q⟩
theorem Vf{f:Value->Value->Sem Value}{g:Int->Int->Bool}
 (rule:∀ (i j:Int) (t u:Tok) (s:Shared) (Q:Value->Shared->Prop) (E:Value->Shared->Prop),Q (.bool (g i j)) s->wpAny (model X.prog X.w) X.A (f (.int i t) (.int j u)) Q E s) :
 xY X f (Ss λi j=>.bl (g i j)):=by
 intro pins s σ H x y v u Q I rx ry h
 obtain⟨i,j,rfl,rfl,q⟩:=h
 obtain⟨t,rfl⟩:=rx
 obtain⟨t',rfl⟩:=ry
 exact rule i j t t' s _ _ ⟨.bl (g i j),H,I,rfl,q⟩
def aem(i j:Int):Prop:=0 < j/\j < 1073741824
def aa9(i j:Int):Prop:=0<=j/\j<=1000000/\i.natAbs < 2 ^ 64
def YF(i j:Int):Prop:=(-(2 ^ 64) < i/\i < 2 ^ 64)∨(-(2 ^ 64) < j/\j < 2 ^ 64)
theorem YF.ok{i j:Int}(h:YF i j):IntMulOk i j:=by
 rcases h with ⟨h1,h2⟩ | ⟨h1,h2⟩
 ·exact .of_left (intBits_le_64 h1 h2)
 ·exact .of_right (intBits_le_64 h1 h2)
theorem eZ:xY X (binaryOp .Add) (Ss λi j=>.int (i + j)):=Ve λ_ _ _ _ _ _ _ q=>add_int q
theorem CQ:xY X (binaryOp .Sub) (Ss λi j=>.int (i - j)):=Ve λ_ _ _ _ _ _ _ q=>sub_int q
theorem J3:xY X (binaryOp .Mult) (rI YF λi j=>.int (i * j)):=opI λ_ _ _ _ _ _ _ hc q=>mul_int q hc.ok
theorem dZ:xY X (binaryOp .FloorDiv) (rI aem λi j=>.int (i / j)):=opI λi j _ _ _ _ _ hc q=>by
 have h1:(0:Int) < j:=hc.1
 have h2:j < 1073741824:=hc.2
 exact floordiv_int (by omega) (by rw[Int.fdiv_eq_ediv_of_nonneg i (by omega)]; exact q) (.inl (PyProof.noPylong_small (by omega)))
theorem c7:xY X (binaryOp .Mod) (rI (λ_ j=>0 < j) λi j=>.int (i % j)):=opI λi j _ _ _ _ _ hc q=>by
 have h1:(0:Int) < j:=hc
 exact mod_int' (by omega) (by rw[Int.fmod_eq_emod_of_nonneg i (by omega)]; exact q)
theorem Su:xY X (binaryOp .Pow) (rI aa9 λi j=>.int (i ^ j.toNat)):=opI λ_ _ _ _ _ _ _ hc q=>pow_int_small hc.1 hc.2.1 hc.2.2 q
theorem YG:xY X (binaryOp .LShift) (rI aa9 λi j=>.int (i * 2 ^ j.toNat)):=opI λ_ _ _ _ _ _ _ hc q=>lshift_int_small hc.1 hc.2.1 hc.2.2 q
theorem YH:xY X (binaryOp .BitAnd) (Ss λi j=>.int (Builtin.bitAnd i j)):=Ve λ_ _ _ _ _ _ _ q=>and_int q
theorem aba:xY X (binaryOp .BitOr) (Ss λi j=>.int (Builtin.bitOr i j)):=Ve λ_ _ _ _ _ _ _ q=>or_int q
theorem unI{f:Value->Sem Value}{g:Int->Int}
 (rule:∀ (i:Int) (t:Tok) (s:Shared) (Q:Value->Shared->Prop) (E:Value->Shared->Prop),Q (.int (g i) s.toks) { s with toks:=s.toks + 1 }->wpAny (model X.prog X.w) X.A (f (.int i t)) Q E s) :
 UnR X f (rU λi=>.int (g i)):=by
 intro pins s σ H x v Q I rx h
 obtain⟨i,rfl,q⟩:=h
 obtain⟨t,rfl⟩:=rx
 exact rule i t s _ _ ⟨.int (g i),H,I.tok _,⟨_,rfl⟩,q⟩
theorem YI:UnR X (unaryOp .USub) (rU λi=>.int (-i)):=unI λ_ _ _ _ _ q=>neg_int q
end
noncomputable def Vg:V->V->Bool
 | .fh,.fh=>true | .fh,.int _=>true | .int _,.fh=>true | .fh,.bl _=>true | .bl _,.fh=>true | .fh,.str _=>true | .str _,.fh=>true
 | .int _,.int _=>true | .bl _,.bl _=>true | .str _,.str _=>true | .OU _,.OU _=>true
 | .int _,.str _=>true | .str _,.int _=>true | .bl _,.str _=>true | .str _,.bl _=>true
 | _,_=>false
def rEq:R2:=λx y H Q=>Vg x y=true/\Q (.bl (decide (x=y))) H
def rNe:R2:=λx y H Q=>Vg x y=true/\Q (.bl (!decide (x=y))) H
theorem OX{i j:Int}:decide (V.int i=V.int j)=(i == j):=by
 rw[jf]
 simp
theorem Sv{i j:Bool}:decide (V.bl i=V.bl j)=(i == j):=by
 rw[jf]
 simp
theorem OY{i j:Str}:decide (V.str i=V.str j)=(i == j):=by
 rw[jf]
 simp
theorem OZ{i j:Array UInt8}:decide (V.OU i=V.OU j)=(i.toList == j.toList):=by
 rw[jf]
 cases i
 cases j
 simp
section
variable{X:Cx}{a b c:Expr}{ta tb tc:TE}{pos:Pos}
theorem dG{pins:List (Addr × Obj)}{σ:St}{H:Hp}{s:Shared}{Q:VK}{k k':Bool}(I:Inv X pins σ H s)(q:Q (.bl k) H)(e:k=k'):EP X pins σ Q (.bool k') s:=by
 subst e
 exact⟨.bl k,H,I,rfl,q⟩
theorem lH:xY X (compareOp .Eq) rEq:=by
 intro pins s σ H x y v u Q I rx ry h
 obtain⟨hs,q⟩:=h
 cases x with
 | fh =>
  cases rx
  cases y with
  | fh=>cases ry; exact PySem.EqNone.eq_none_none (dG I q (by simp))
  | bl j=>cases ry; exact PySem.EqNone.eq_none_bool (dG I q (by simp))
  | int j=>obtain⟨t',rfl⟩:=ry; exact PySem.EqNone.eq_none_int (dG I q (by simp))
  | str j=>obtain⟨t',rfl⟩:=ry; exact PySem.EqNone.eq_none_str (dG I q (by simp))
  | _=>exact absurd (show false=true from hs) aD
 | bl i =>
  cases rx
  cases y with
  | fh=>cases ry; exact PySem.EqNone.eq_bool_none (dG I q (by simp))
  | bl j=>cases ry; exact eq_bool (dG I q Sv)
  | str j=>obtain⟨t',rfl⟩:=ry; exact PySem.EqMixed.eq_bool_str (dG I q (by simp))
  | _=>exact absurd (show false=true from hs) aD
 | int i =>
  obtain⟨t,rfl⟩:=rx
  cases y with
  | fh=>cases ry; exact PySem.EqNone.eq_int_none (dG I q (by simp))
  | int j=>obtain⟨t',rfl⟩:=ry; exact eq_int (dG I q OX)
  | str j=>obtain⟨t',rfl⟩:=ry; exact PySem.EqMixed.eq_int_str (dG I q (by simp))
  | _=>exact absurd (show false=true from hs) aD
 | str i =>
  obtain⟨t,rfl⟩:=rx
  cases y with
  | fh=>cases ry; exact PySem.EqNone.eq_str_none (dG I q (by simp))
  | bl j=>cases ry; exact PySem.EqMixed.eq_str_bool (dG I q (by simp))
  | int j=>obtain⟨t',rfl⟩:=ry; exact PySem.EqMixed.eq_str_int (dG I q (by simp))
  | str j=>obtain⟨t',rfl⟩:=ry; exact eq_str (dG I q OY)
  | _=>exact absurd (show false=true from hs) aD
 | OU i =>
  obtain⟨t,rfl⟩:=rx
  cases y with
  | OU j=>obtain⟨t',rfl⟩:=ry; exact PySem.W.eq_bytes (dG I q OZ)
  | _=>exact absurd (show false=true from hs) aD
 | _=>cases y <;> exact absurd (show false=true from hs) aD
theorem qO:xY X (compareOp .NotEq) rNe:=by
 intro pins s σ H x y v u Q I rx ry h
 obtain⟨hs,q⟩:=h
 cases x with
 | fh =>
  cases rx
  cases y with
  | fh=>cases ry; exact PySem.EqNone.ne_none_none (dG I q (by simp))
  | bl j=>cases ry; exact PySem.EqNone.ne_none_bool (dG I q (by simp))
  | int j=>obtain⟨t',rfl⟩:=ry; exact PySem.EqNone.ne_none_int (dG I q (by simp))
  | str j=>obtain⟨t',rfl⟩:=ry; exact PySem.EqNone.ne_none_str (dG I q (by simp))
  | _=>exact absurd (show false=true from hs) aD
 | bl i =>
  cases rx
  cases y with
  | fh=>cases ry; exact PySem.EqNone.ne_bool_none (dG I q (by simp))
  | bl j=>cases ry; exact ne_bool (dG I q (congrArg not Sv))
  | str j=>obtain⟨t',rfl⟩:=ry; exact PySem.EqMixed.ne_bool_str (dG I q (by simp))
  | _=>exact absurd (show false=true from hs) aD
 | int i =>
  obtain⟨t,rfl⟩:=rx
  cases y with
  | fh=>cases ry; exact PySem.EqNone.ne_int_none (dG I q (by simp))
  | int j=>obtain⟨t',rfl⟩:=ry; exact ne_int (dG I q (congrArg not OX))
  | str j=>obtain⟨t',rfl⟩:=ry; exact PySem.EqMixed.ne_int_str (dG I q (by simp))
  | _=>exact absurd (show false=true from hs) aD
 | str i =>
  obtain⟨t,rfl⟩:=rx
  cases y with
  | fh=>cases ry; exact PySem.EqNone.ne_str_none (dG I q (by simp))
  | bl j=>cases ry; exact PySem.EqMixed.ne_str_bool (dG I q (by simp))
  | int j=>obtain⟨t',rfl⟩:=ry; exact PySem.EqMixed.ne_str_int (dG I q (by simp))
  | str j=>obtain⟨t',rfl⟩:=ry; exact ne_str (dG I q (congrArg not OY))
  | _=>exact absurd (show false=true from hs) aD
 | OU i =>
  obtain⟨t,rfl⟩:=rx
  cases y with
  | OU j=>obtain⟨t',rfl⟩:=ry; exact PySem.W.ne_bytes (dG I q (congrArg not OZ))
  | _=>exact absurd (show false=true from hs) aD
 | _=>cases y <;> exact absurd (show false=true from hs) aD
theorem p7:xY X (compareOp .Lt) (Ss λi j=>.bl (decide (i < j))):=Vf λ_ _ _ _ _ _ _ q=>lt_int q
theorem p8:xY X (compareOp .LtE) (Ss λi j=>.bl (decide (i<=j))):=Vf λ_ _ _ _ _ _ _ q=>le_int q
theorem Lv:xY X (compareOp .Gt) (Ss λi j=>.bl (decide (j < i))):=Vf λ_ _ _ _ _ _ _ q=>gt_int q
theorem Xc:xY X (compareOp .GtE) (Ss λi j=>.bl (decide (j<=i))):=Vf λ_ _ _ _ _ _ _ q=>ge_int q
theorem Np:xY X (compareOp .Is) (λx y H Q=>y = .fh/\Q (.bl (decide (x = .fh))) H):=by
 intro pins s σ H x y v u Q I rx ry h
 obtain⟨rfl,q⟩:=h
 cases ry
 refine is_none_gen (dG I q ?_)
 cases x <;> first
  | (cases rx; rfl)
  | (obtain⟨t,rfl⟩:=rx; rfl)
theorem E6:xY X (compareOp .IsNot) (λx y H Q=>y = .fh/\Q (.bl (!decide (x = .fh))) H):=by
 intro pins s σ H x y v u Q I rx ry h
 obtain⟨rfl,q⟩:=h
 cases ry
 refine isnot_none_gen (dG I q ?_)
 cases x <;> first
  | (cases rx; rfl)
  | (obtain⟨t,rfl⟩:=rx; rfl)
theorem Sw(b:Expr){op:CmpOp}(h:op≠.In:=by decide)(h2:op≠.NotIn:=by decide):behindInMarks op b=false:=by
 have e1:(op == CmpOp.In)=false:=by cases op <;> first | rfl | exact absurd rfl h
 have e2:(op == CmpOp.NotIn)=false:=by cases op <;> first | rfl | exact absurd rfl h2
 cases b <;> simp[behindInMarks,e1,e2]
theorem O0{op:CmpOp}{r:R2}(ho:xY X (compareOp op) r)(ha:PE X a ta)(hb:PE X b tb)(hm:behindInMarks op b=false):PE X (.Compare a [op] [b] pos) (Sq r ta tb):=by
 intro pins s σ H Q I h
 exact wpAny_Compare1 (YE ha hb I h λv u s2 x y H2 I2 rx ry q=>ho pins s2 σ H2 x y v u Q I2 rx ry q) hm
def Sx(t:TE):TT:=λσ H Q=>t σ H λx H'=>∃ k,x = .bl k/\Q k H'
theorem fX{op:CmpOp}{r:R2}(ho:xY X (compareOp op) r)(ha:PE X a ta)(hb:PE X b tb)(hm:behindInMarks op b=false):PT X (.Compare a [op] [b] pos) (Sx (Sq r ta tb)):=by
 intro pins s σ H Q I h
 refine wpAny_isTrue_Compare1 (fV (ha pins s σ H _ I h) λv s1 ⟨x,H1,I1,r1,q1⟩=>fV (hb pins s1 σ H1 _ I1 q1) λu s2 ⟨y,H2,I2,r2,q2⟩ =>
  fV (ho pins s2 σ H2 x y v u _ I2 r1 r2 q2) λc s3 ⟨z,H3,I3,r3,k,e,q3⟩=>?_) hm
 subst e
 cases r3
 exact wpAny_truthy_bool ⟨H3,I3,q3⟩
def Nq(r r':R2)(ta tb tc:TE):TE:=λσ H Q=>ta σ H λx H1=>tb σ H1 λy H2=>r x y H2 λz H3=>∃ k,z = .bl k /\
 (if k=true then tc σ H3 λw' H4=>r' y w' H4 Q else Q (.bl false) H3)
theorem Lw{op op':CmpOp}{r r':R2}(ho:xY X (compareOp op) r)(ho':xY X (compareOp op') r')(ha:PE X a ta)(hb:PE X b tb)(hc:PE X c tc)
 (hm:lastMarks [op,op'] [b,c]=false:=by with_unfolding_all rfl):PE X (.Compare a [op,op'] [b,c] pos) (Nq r r' ta tb tc):=by
 intro pins s σ H Q I h
 refine Compare_chain (fV (ha pins s σ H _ I h) λv s1 ⟨x,H1,I1,r1,q1⟩=>chain_link (fV (hb pins s1 σ H1 _ I1 q1) λu s2 ⟨y,H2,I2,r2,q2⟩ =>
  fV (ho pins s2 σ H2 x y v u _ I2 r1 r2 q2) λd s3 ⟨z,H3,I3,r3,k,e,q3⟩=>?_)) hm
 subst e
 cases r3
 refine wpAny_truthy_bool ?_
 cases k with
 | false=>exact ite_ff ⟨.bl false,H3,I3,rfl,q3⟩
 | true=>exact ite_tt (chain_last (fV (hc pins s3 σ H3 _ I3 q3) λw' s4 ⟨z',H4,I4,r4,q4⟩=>ho' pins s4 σ H4 y z' u w' Q I4 r2 r4 q4))
theorem jg{op op':CmpOp}{r r':R2}(ho:xY X (compareOp op) r)(ho':xY X (compareOp op') r')(ha:PE X a ta)(hb:PE X b tb)(hc:PE X c tc)
 (hm:lastMarks [op,op'] [b,c]=false:=by with_unfolding_all rfl):PT X (.Compare a [op,op'] [b,c] pos) (Sx (Nq r r' ta tb tc)):=by
 intro pins s σ H Q I h
 refine isTrue_chain (fV (ha pins s σ H _ I h) λv s1 ⟨x,H1,I1,r1,q1⟩=>test_link (fV (hb pins s1 σ H1 _ I1 q1) λu s2 ⟨y,H2,I2,r2,q2⟩ =>
  fV (ho pins s2 σ H2 x y v u _ I2 r1 r2 q2) λd s3 ⟨z,H3,I3,r3,k,e,q3⟩=>?_)) hm
 subst e
 cases r3
 refine wpAny_truthy_bool ?_
 cases k with
 | false =>
  obtain⟨k',e',q'⟩:=q3
  cases e'
  exact ite_ff ⟨H3,I3,q'⟩
 | true =>
  refine ite_tt (test_last (fV (hc pins s3 σ H3 _ I3 q3) λw' s4 ⟨z',H4,I4,r4,q4⟩=>fV (ho' pins s4 σ H4 y z' u w' _ I4 r2 r4 q4) λd' s5 ⟨z2,H5,I5,r5,k2,e2,q5⟩=>?_))
  subst e2
  cases r5
  exact wpAny_truthy_bool ⟨H5,I5,q5⟩
def YJ(K:af)(x:V)(H:Hp)(k:Bool):Prop :=
 match x with
 | .fh=>k=false
 | .bl b=>k=b
 | .int i=>k=(i != 0)
 | .str y=>y.length<=sizeLine/\k=((y.length:Int) != 0)
 | .OU y=>y.size<=sizeLine/\k=((y.size:Int) != 0)
 | .ref p=>(∃ xs,bL K H p xs/\k = !xs.isEmpty)∨(∃ xs,cN K H p xs/\k = !xs.isEmpty)∨∃ kvs,H p=some (.dK kvs)/\k = !kvs.isEmpty
 | _=>False
theorem Nr{κ:Type}{kvs:List (κ × V)}{vs:List (κ × Value)}(r:KV kvs vs):(!vs.isEmpty) = !kvs.isEmpty:=by
 cases r <;> rfl
theorem FD{xs:List V}{its:List Value}(r:b6 xs its):(!its.toArray.isEmpty) = !xs.isEmpty:=by
 cases r <;> simp
theorem FE:(sizeLine:Nat) < 2 ^ 63:=by rw[sizeLine_eq]; decide
theorem YK:ael X (λx H Q=>∃ k,YJ X.K x H k/\Q k H):=by
 intro pins s σ H x v Q I rx h
 obtain⟨k,e,q⟩:=h
 have hl:=FE
 have hs:sizeLine=16777216:=sizeLine_eq
 cases x with
 | fh =>
  cases rx
  have e':k=false:=e
  subst e'
  exact truthy_none ⟨H,I,q⟩
 | bl b =>
  cases rx
  have e':k=b:=e
  subst e'
  exact wpAny_truthy_bool ⟨H,I,q⟩
 | int i =>
  obtain⟨t,rfl⟩:=rx
  have e':k=(i != 0):=e
  subst e'
  exact PySem.P.truthy_int ⟨H,I,q⟩
 | str y =>
  obtain⟨t,rfl⟩:=rx
  obtain⟨hy,e'⟩ : y.length<=sizeLine/\k=((y.length:Int) != 0):=e
  subst e'
  exact PySem.P.truthy_str (by omega) ⟨H,I.tok _,q⟩
 | OU y =>
  obtain⟨t,rfl⟩:=rx
  obtain⟨hy,e'⟩ : y.size<=sizeLine/\k=((y.size:Int) != 0):=e
  subst e'
  exact PySem.W.truthy_bytes (by omega) ⟨H,I.tok _,q⟩
 | ref p =>
  cases rx
  have e':(∃ xs,bL X.K H p xs/\k = !xs.isEmpty)∨(∃ xs,cN X.K H p xs/\k = !xs.isEmpty)∨∃ kvs,H p=some (.dK kvs)/\k = !kvs.isEmpty:=e
  rcases e' with ⟨xs,hx,e'⟩ | ⟨xs,hx,e'⟩ | ⟨kvs,hx,e'⟩
  ·subst e'
   obtain⟨its,r,pl,hz⟩:=I.list hx
   have hlen:=r.length
   exact wpAny_truthy_list pl.isList (by simp only[aW]; omega) ⟨H,I.tok _,by rw[FD r]; exact q⟩
  ·subst e'
   obtain⟨its,r,pl,hz⟩:=I.tuple hx
   have hlen:=r.length
   exact truthy_tuple pl (by simp only[aW]; omega) ⟨H,I.tok _,by rw[FD r]; exact q⟩
  ·subst e'
   obtain⟨hz,hS,vs,r,m⟩ : kvs.length<=sizeLine/\(p == sysModules)=false/\∃ vs,KV kvs vs/\s.heap.DictOf (dJ X.prog X.w) p vs:=I.hok p _ hx
   have hlen:kvs.length=vs.length:=Paired.length r
   exact wpAny_truthy_dict hS m (by omega) ⟨H,I.tok _,by rw[Nr r]; exact q⟩
 | _=>exact (show False from e).elim
theorem Sy(ha:PE X a ta)(he:∀ whole,isTrue a X.env whole=(do let v <- whole; standAt a.pos; holding [v] (truthy v))) :
 PT X a (λσ H Q=>ta σ H λx H'=>∃ k,YJ X.K x H' k/\Q k H'):=by
 intro pins s σ H Q I h
 exact isTrue_plain (fV (ha pins s σ H _ I h) λv s1 ⟨x,H1,I1,r1,q1⟩=>YK pins s1 σ H1 x v Q I1 r1 q1) (he _)
theorem vals1{x:V}{us:List Value}(r:b6 [x] us):∃ u,us = [u]/\RelV x u:=by
 cases r with
 | cons r1 r2=>cases r2; exact⟨_,rfl,r1⟩
theorem IS:mX X (.type "int") (λxs H Q=>(∃ i,xs = [.int i]/\Q (.int i) H)∨∃ k,xs = [.bl k]/\Q (.int (if k then 1 else 0)) H):=by
 intro pins s σ H xs us Q I r h
 rcases h with ⟨i,rfl,q⟩ | ⟨k,rfl,q⟩
 ·obtain⟨u,rfl,t,rfl⟩:=vals1 r
  exact call_int_int ⟨.int i,H,I,⟨_,rfl⟩,q⟩
 ·obtain⟨u,rfl,r1⟩:=vals1 r
  cases r1
  exact call_int_bool ⟨.int (if k then 1 else 0),H,I.tok _,⟨_,rfl⟩,q⟩
end
structure Nt(h:Heap)(x dx C:Addr)(mA:Str->Option Value):Prop where
 obj:h.get? x=some (jb C dx)
 ns:h.Ns1 dx mA
 ne:dx≠x
theorem IT{h:Heap}{dx:Addr}{mA:Str->Option Value}(n:h.Ns1 dx mA):∃ od,h.get? dx=some od/\∀ name,PySem.W.lookIn name od=some (mA name):=by
 obtain⟨o,es,ep,ho,hd,hk,_,hm⟩:=n
 refine⟨o,ho,λname=>?_⟩
 have e:=hm name
 unfold nsFind findBy at e
 rw[<- Array.find?_toList] at e
 unfold PySem.W.lookIn
 rw[hd]
 dsimp only
 split
 ·rename_i y q
  rw[q] at e
  exact congrArg some e
 ·rename_i q
  rw[q] at e
  have a:es.toList.any (·.refKey)=false:=by
   rw[List.any_eq_false]
   intro y hy
   obtain⟨z,t,hkey⟩:=hk y (Array.mem_toList_iff.mp hy)
   simp[DictEntry.refKey,hkey]
  have a':¬ es.toList.any (·.refKey)=true:=by rw[a]; exact aD
  rw[if_neg a']
  exact congrArg some e
theorem Nt.look{h:Heap}{x dx C:Addr}{mA:Str->Option Value}(I:Nt h x dx C mA):∃ od,PySem.W.InstAt h x (jb C dx) C (some od)/\∀ name,PySem.W.lookIn name od=some (mA name) :=
 let ⟨od,ho,hl⟩:=IT I.ns
 ⟨od,⟨I.obj,rfl,rfl,ho⟩,hl⟩
section
variable{prog:Program}{w:World}{A:Around}{E:Value->Shared->Prop}{s:Shared}{K:af}{x dx C f:Addr}{mA:Str->Option Value}{name:Str}{v:Value}
theorem get_map{expr:Bool}{Q:Value->Shared->Prop}(X:K.In s.heap)(I:Nt s.heap x dx C mA)(hg:vF K C name=true)(hh:tL K C=true)
 (ha:aG K (.ref C) name=some none) (hv:mA name=some v) (hv':PySem.W.handedIn v=true) (h:Q v { s with toks:=s.toks + 1 }) :
 wpAny (model prog w) A (getAttr (.ref x) name expr) Q E s:=by
 obtain⟨od,J,hl⟩:=I.look
 exact PySem.W.get_value X J (PySem.W.plainGet_of hg).1 (PySem.W.findObj_own hh ha rfl (by rw[hl,hv])) hv' h
theorem Sz{pl:Sem Bool}{Q:Value × List Value->Shared->Prop}(X:K.In s.heap)(I:Nt s.heap x dx C mA)(hg:vF K C name=true)
 (hf:aG K (.ref C) name=some (some (.ref f))) (ht:PySem.W.isFn K (.ref f)=true) (hv:mA name=none) (h:Q (.ref f,[.ref x]) s) :
 wpAny (model prog w) A (getMethod (.ref x) name pl) Q E s:=by
 obtain⟨od,J,hl⟩:=I.look
 exact PySem.W.method_fn X J (PySem.W.plainGet_of hg).1 (PySem.W.plainGet_of hg).2 hf (beq_iff_eq.mp ht) (by show (PySem.W.lookIn name od).map (·.isSome)=some false; rw[hl,hv]; rfl) h
theorem Vh{ns:List Str}{Q:Unit->Shared->Prop}(X:K.In s.heap)(I:Nt s.heap x dx C mA)
 (hs:aG K (.ref C) "__setattr__" = some (some (.builtin "object.__setattr__"))) (hp:PySem.W.plainOver K C=true) (ht:PySem.W.takerIn K C name=some none) (hh:tL K C=true)
 (hw:PySem.Within mA ns) (hsz:ns.length<=sizeLine)
 (h:∀ h',Nt h' x dx C (λy=>if y=name then some v else mA y)->Heap.SameBut dx s.heap h'->Q () { s with heap:=h',toks:=s.toks + 2 }) :
 wpAny (model prog w) A (setAttr (.ref x) name v) Q E s:=by
 obtain⟨od,J,hl⟩:=I.look
 refine PySem.W.set_plain X J hs (PySem.W.osa_open (s:={ s with toks:=s.toks + 1 }) (r:=none) X J hp ht λb=>?_)
 obtain⟨cd,hc,hd'⟩:=PySem.W.any_some hh
 have hx:s.heap.get? x=some ⟨.ref C,some dx,.plain,#[]⟩:=I.obj
 refine wpAny_bind (wpAny_pure (wpAny_bind (wpAny_bind (wpAny_loadPart hx (wpAny_bind (PySem.W.Looks.here (s:={ s with toks:=s.toks + 1 }) (PySem.W.looks_clsIn X hc) ?_))))))
 rw[hd']
 refine wpAny_pure (a:=some dx) (wpAny_bind (wpAny_pure (wpAny_bind ?_)))
 refine wpAny_nsSet1 (s:={ s with toks:=s.toks + 1 }) I.ns λh' hn2 hs2=>?_
 obtain⟨oD,esD,epD,hoD,hdD,hcD⟩:=hn2.count (PySem.Within.cons name v hw)
 refine wpAny_bind (wpAny_lookBehind hoD (by rw[hdD]; exact pastItsLine_dict (aO hcD (by rw[aS]; omega))) ?_)
 exact wpAny_pure (h _ ⟨(hs2.2 _ (bT I.ne)).trans I.obj,hn2,I.ne⟩ hs2)
theorem SA{R:Result->Shared->Prop}{vs:List Value}{kw:List (Str × Value)}(X:K.In s.heap)(hm:PySem.W.makesIn K C=true)
 (hi:aG K (.ref C) "__init__" = some (some (.ref f))) (hf:PySem.W.typeIn K (.ref f)=some (.type "function"))
 (h:codeAny (model prog w) (A.under (.builtin "type.__call__" ⟨.ref C :: vs,kw⟩)) (.call (.ref f) ⟨.ref (s.heap.objs.size + 1) :: vs,kw⟩) (PySem.W.InitBack (s.heap.objs.size + 1) R)
  { s with heap:=(s.heap.push fQ).push (jb C s.heap.objs.size) }) :
 codeAny (model prog w) A (.call (.ref C) ⟨vs,kw⟩) R s:=by
 obtain⟨hh,g,d,t,os⟩:=s
 exact PySem.W.make_core (PySem.W.makes_of X hm) (PySem.W.looks_findIn X hi) (λself=>PySem.W.bind_fn X self hf) (.inl rfl) h
end
noncomputable def xR(f:Str)(v:V):List (Str × V)->List (Str × V)
 | []=>[(f,v)]
 | (g,x) :: r=>if g=f then (g,v) :: r else (g,x) :: xR f v r
theorem DY(f g:Str)(v:V):∀ fs:List (Str × V),(xR f v fs).lookup g=if g=f then some v else fs.lookup g
 | []=>by
  show oY g [(f,v)]=_
  by_cases h:g=f
  ·have hb:(g == f)=true:=beq_iff_eq.mpr h
   simp only[oY,hb,if_pos h]
  ·have hb:(g == f)=false:=beq_eq_false_iff_ne.mpr h
   simp only[oY,hb,if_neg h]
 | (k,x) :: r=>by
  have ih:=DY f g v r
  rw[show xR f v ((k,x) :: r)=(if k=f then (k,v) :: r else (k,x) :: xR f v r) from rfl]
  by_cases hk:k=f
  ·rw[if_pos hk]
   by_cases h:g=k
   ·have hb:(g == k)=true:=beq_iff_eq.mpr h
    simp only[oY,hb,if_pos (h.trans hk)]
   ·have hb:(g == k)=false:=beq_eq_false_iff_ne.mpr h
    simp only[oY,hb,if_neg (λe:g=f=>h (e.trans hk.symm))]
  ·rw[if_neg hk]
   by_cases h:g=k
   ·have hb:(g == k)=true:=beq_iff_eq.mpr h
    simp only[oY,hb,if_neg (λe:g=f=>hk (h.symm.trans e))]
   ·have hb:(g == k)=false:=beq_eq_false_iff_ne.mpr h
    simp only[oY,hb]
    exact ih
theorem CS(f:Str)(v:V):∀ fs:List (Str × V),f∈(xR f v fs).map (·.1)/\∀ g,g∈fs.map (·.1)->g∈(xR f v fs).map (·.1)
 | []=>⟨by simp[xR],λg h=>by simp at h⟩
 | (k,x) :: r=>by
  obtain⟨i1,i2⟩:=CS f v r
  rw[show xR f v ((k,x) :: r)=(if k=f then (k,v) :: r else (k,x) :: xR f v r) from rfl]
  by_cases hk:k=f
  ·rw[if_pos hk]
   subst hk
   exact⟨by simp,λg h=>by simpa using h⟩
  ·rw[if_neg hk]
   refine⟨?_,λg h=>?_⟩
   ·rw[bg]
    exact bh _ i1
   ·rw[bg] at h ⊢
    rcases br.mp h with e | e
    ·exact br.mpr (.inl e)
    ·exact bh _ (i2 g e)
theorem DZ(f:Str)(v:V):∀ fs:List (Str × V),(xR f v fs).length<=fs.length + 1
 | []=>by simp[xR]
 | (k,x) :: r=>by
  have ih:=DZ f v r
  rw[show xR f v ((k,x) :: r)=(if k=f then (k,v) :: r else (k,x) :: xR f v r) from rfl]
  by_cases hk:k=f
  ·rw[if_pos hk,aS,aS]; omega
  ·rw[if_neg hk,aS,aS]; omega
theorem xQ.some_of{v:V}{o:Option Value}(r:xQ (some v) o):∃ u,o=some u/\RelV v u:=by
 cases o with
 | none=>exact (show False from r).elim
 | some u=>exact⟨u,rfl,r⟩
theorem xQ.none_of{o:Option Value}(r:xQ none o):o=none:=by
 cases o with
 | none=>rfl
 | some u=>exact (show False from r).elim
theorem QF{v:V}{u:Value}(r:RelV v u):PySem.W.handedIn u=true:=by
 cases v with
 | fh=>cases (show u=Value.none from r); rfl
 | bl b=>cases (show u=Value.bool b from r); rfl
 | int i=>obtain⟨t,e⟩:=(show ∃ t,u=Value.int i t from r); cases e; rfl
 | str x=>obtain⟨t,e⟩:=(show ∃ t,u=Value.str x t from r); cases e; rfl
 | OU b=>obtain⟨t,e⟩:=(show ∃ t,u=Value.bytes b t from r); cases e; rfl
 | Yq b=>obtain⟨t,e⟩:=(show ∃ t,u=Value.float b t from r); cases e; rfl
 | ref a=>cases (show u=Value.ref a from r); rfl
 | ty n=>cases (show u=Value.type n from r); rfl
section
variable{P:Program}{w:World}{H H':Hp}{h h':Heap}{a C dx:Addr}{fs fs':List (Str × V)}
theorem E7(hok:xZ P w H h)(e:H a=some (.ins C dx fs)):∃ mA,Nt h a dx C mA/\(∀ f,xQ (fs.lookup f) (mA f))/\PySem.Within mA (fs.map (·.1))/\fs.length<=1000/\H dx=some (.own a):=by
 obtain⟨d,z,ne,ob,mA,n,r,q⟩:=(show gD P w H h a (.ins C dx fs) from hok a _ e)
 exact⟨mA,⟨ob,n,ne⟩,r,q,z,d⟩
end
structure HN(K:af)(C:Addr):Prop where
 pg:vF K C Str.empty=true
 hd:tL K C=true
 po:PySem.W.plainOver K C=true
 sa:aG K (.ref C) "__setattr__" = some (some (.builtin "object.__setattr__"))
theorem HN.get{K:af}{C:Addr}(c:HN K C)(f:Str):vF K C f=true:=c.pg
def cX(K:af)(C:Addr)(f:Str):Prop:=aG K (.ref C) f=some none
theorem cX.abb{K:af}{C:Addr}{f:Str}(n:cX K C f):PySem.W.takerIn K C f=some none:=by
 unfold PySem.W.takerIn
 rw[show aG K (.ref C) f=some none from n]
 rfl
structure J4(K:af)(C:Addr)(m:Str)(f:Addr):Prop where
 at_:aG K (.ref C) m=some (some (.ref f))
 fn:PySem.W.isFn K (.ref f)=true
 kp:dH K (.ref f)=true
section
variable{X:Cx}{pins:List (Addr × Obj)}{σ:St}{H:Hp}{s:Shared}{a C dx:Addr}{fs:List (Str × V)}{f:Str}{v:V}{A:Around}{E:Value->Shared->Prop}
theorem Nu{b:Bool}{Q:Value->Shared->Prop}(I:Inv X pins σ H s)(e:H a=some (.ins C dx fs))(c:HN X.K C)(n:cX X.K C f)(l:fs.lookup f=some v)
 (h:∀ u s',Inv X pins σ H s'->RelV v u->Q u s'):wpAny (model X.prog X.w) A (getAttr (.ref a) f b) Q E s:=by
 obtain⟨mA,O,r,_,_,_⟩:=E7 I.hok e
 obtain⟨u,hu,ru⟩:=xQ.some_of (v:=v) (o:=mA f) (by rw[<- l]; exact r f)
 exact get_map I.AM O (c.get f) c.hd n hu (QF ru) (h u _ (I.tok _) ru)
theorem FF{m:Str}{g:Addr}{pl:Sem Bool}{Q:Value × List Value->Shared->Prop}(I:Inv X pins σ H s)(e:H a=some (.ins C dx fs))(c:HN X.K C)(k:J4 X.K C m g)(l:fs.lookup m=none)
 (h:Q (.ref g,[.ref a]) s):wpAny (model X.prog X.w) A (getMethod (.ref a) m pl) Q E s:=by
 obtain⟨mA,O,r,_,_,_⟩:=E7 I.hok e
 have hn:mA m=none:=xQ.none_of (by rw[<- l]; exact r m)
 exact Sz I.AM O (c.get m) k.at_ k.fn hn h
theorem Nv{y:V}{u:Value}{Q:Unit->Shared->Prop}(I:Inv X pins σ H s)(e:H a=some (.ins C dx fs))(c:HN X.K C)(n:cX X.K C f)(hl:fs.length < 1000)(ry:RelV y u)
 (h:∀ s',Inv X pins σ (upd H a (.ins C dx (xR f y fs))) s'->Q () s'):wpAny (model X.prog X.w) A (setAttr (.ref a) f u) Q E s:=by
 obtain⟨mA,O,r,wi,_,ho⟩:=E7 I.hok e
 have hz:(fs.map (·.1)).length<=sizeLine:=by rw[ah,sizeLine_eq]; omega
 refine Vh I.AM O c.sa c.po n.abb c.hd wi hz λh' O' sb=>h _ ?_
 have hd:∃ o,h'.get? dx=some o:=let ⟨o,_,_,e',_⟩:=O'.ns; ⟨o,e'⟩
 refine I.write (x:=a) (e:=dx) (by rw[e]; exact ja) (.inr ho) (λb q hb z=>(sb.2 b hb).trans z) hd ?_
 refine⟨by rw[aI O.ne]; exact ho,?_,O.ne,O'.obj,_,O'.ns,λg=>?_,λg hg=>?_⟩
 ·have:=DZ f y fs; omega
 ·show xQ ((xR f y fs).lookup g) (if g=f then some u else mA g)
  rw[DY]
  by_cases q:g=f
  ·rw[if_pos q,if_pos q]; exact ry
  ·rw[if_neg q,if_neg q]; exact r g
 ·by_cases q:g=f
  ·rw[q]; exact (CS f y fs).1
  ·refine (CS f y fs).2 g (wi g λz=>hg ?_)
   show (if g=f then some u else mA g)=none
   rw[if_neg q]; exact z
theorem Inv.made(I:Inv X pins σ H s):Inv X pins σ (upd (upd H s.heap.objs.size (.own (s.heap.objs.size + 1))) (s.heap.objs.size + 1) (.ins C s.heap.objs.size []))
 { s with heap:=(s.heap.push fQ).push (jb C s.heap.objs.size) }:=by
 have e1:(s.heap.push fQ).get? s.heap.objs.size=some fQ:=Heap.get?_push_size s.heap rfl
 have e2:((s.heap.push fQ).push (jb C s.heap.objs.size)).get? (s.heap.objs.size + 1)=some (jb C s.heap.objs.size):=by
  have:=Heap.get?_push_size (s.heap.push fQ) (o:=jb C s.heap.objs.size) rfl
  rwa [Heap.size_push] at this
 have e3:(s.heap.push fQ).Ns s.heap.objs.size (λ_=>none):=⟨fQ,#[],_,e1,rfl,(λe he=>absurd he (by simp)),λ_=>rfl⟩
 have I1:=I.laid (a:=s.heap.objs.size) (o:=.own (s.heap.objs.size + 1)) (h':=s.heap.push fQ) (t':=s.toks) (λb u q=>Heap.get?_push_of_some _ q) (az _) ⟨_,e1⟩
 refine I1.laid (a:=s.heap.objs.size + 1) (o:=.ins C s.heap.objs.size []) (t':=s.toks) (λb u q=>Heap.get?_push_of_some _ q) (Nat.le_of_eq (Heap.size_push _ _)) ?_
 have ne:s.heap.objs.size≠s.heap.objs.size + 1:=bu (Nat.lt_succ_self _)
 refine⟨by rw[aI ne,ay],aV _,ne,e2,λ_=>none,(Heap.Ns1.of_empty e3).at λo q=>Heap.get?_push_of_some _ q,λ_=>ja,λy hy=>absurd rfl hy⟩
theorem Vi{prog:Program}{w:World}{env:Env}{e:Expr}{f:Str}{pos:Pos}{s:Shared}{Q:Value->Shared->Prop}(hb:attributeBase e f env (eval e env)=eval e env)
 (h:wpAny (model prog w) A (eval e env) (λo s₁=>wpAny (model prog w) A (getAttr o f true) Q E s₁) E s):wpAny (model prog w) A (eval (.Attribute e f pos) env) Q E s :=
 Attribute_any_ h (by rw[arm_eval_Attribute,hb])
end
def FG(K:af)(ta:TE)(f:Str):TE:=λσ H Q=>ta σ H λx H1=>∃ a C dx fs v,x = .ref a/\H1 a=some (.ins C dx fs)/\HN K C/\cX K C f/\fs.lookup f=some v/\Q v H1
def aen(K:af)(ta tv:TE)(f:Str):TS:=λD σ H=>tv σ H λy H1=>ta σ H1 λx H2=>∃ a C dx fs,x = .ref a/\H2 a=some (.ins C dx fs)/\HN K C/\cX K C f/\fs.length < 1000 /\
 D.nx σ (upd H2 a (.ins C dx (xR f y fs)))
section
variable{X:Cx}{o e value:Expr}{f:Str}{pos pos' tpos:Pos}{ta tv:TE}
theorem be(he:PE X e ta)(hb:attributeBase e f X.env (eval e X.env)=eval e X.env):PE X (.Attribute e f pos) (FG X.K ta f):=by
 intro pins s σ H Q I h
 refine Vi hb (fV (he pins s σ H _ I h) λu s1 ⟨x,H1,I1,rx,a,C,dx,fs,v,ex,ea,c,n,l,q⟩=>?_)
 subst ex
 obtain rfl:u=Value.ref a:=rx
 exact Nu I1 ea c n l λu' s2 I2 ru=>⟨v,H1,I2,ru,q⟩
theorem fJ(ha:PE X o ta)(hv:PE X value tv)(hs:swapsWith value (some (.Attribute o f pos')) pos.line X.env=pure false):PS X (.Assign [.Attribute o f pos'] value pos) (aen X.K ta tv f):=by
 intro pins s σ H D I h
 refine plainObj_wpAny_Assign_Attribute (fV (hv pins s σ H _ I h) λu s1 ⟨y,H1,I1,ry,q⟩=>fV (ha pins s1 σ H1 _ I1 q) λov s2 ⟨x,H2,I2,rx,a,C,dx,fs,ex,ea,c,n,l,q2⟩=>?_) hs
 subst ex
 obtain rfl:ov=Value.ref a:=rx
 exact Nv I2 ea c n l ry λs3 I3=>⟨σ,_,I3,q2⟩
end
section
variable{X:Cx}{pins:List (Addr × Obj)}{σ:St}{H:Hp}{s:Shared}{A:Around}{E:Value->Shared->Prop}{Q:Value->Shared->Prop}{c:Value}{b:Bool}
inductive CU(K:af)(H:Hp):V->Value->Prop where
 | fh:CU K H .fh (.type "NoneType")
 | bl (x:Bool):CU K H (.bl x) (.type "bool")
 | int (i:Int):CU K H (.int i) (.type "int")
 | str (x:Str):CU K H (.str x) (.type "str")
 | Yq (x:UInt64):CU K H (.Yq x) (.type "float")
 | lst {a:Addr} {xs:List V} (e:H a=some (.lst xs)):CU K H (.ref a) (.type "list")
 | Lo {a:Addr} {o:Obj} {xs:List V} (e:H a=some (.Lo o (.lst xs))):CU K H (.ref a) (.type "list")
 | tup {a:Addr} {xs:List V} (e:H a=some (.tup xs)):CU K H (.ref a) (.type "tuple")
 | dK {a:Addr} {kvs:List (Key × V)} (e:H a=some (.dK kvs)):CU K H (.ref a) (.type "dict")
 | dT {a:Addr} {kvs:List (List Key × V)} (e:H a=some (.dT kvs)):CU K H (.ref a) (.type "dict")
 | ins {a C dx:Addr} {fs:List (Str × V)} (e:H a=some (.ins C dx fs)) (cl:HN K C) (ha:aG K (.ref C) "__class__" = some (some (.builtin "object.__class__")))
  (hn:PySem.W.specialIn K (.builtin "object.__class__") "__get__" = some (some (.builtin "getset_descriptor.__get__"))) (htk:PySem.W.takesIn K (.builtin "object.__class__")=some true)
  (hm:PySem.W.mroIn K C (.type "object")=some true):CU K H (.ref a) (.ref C)
theorem QG{x:V}{u t:Value}(I:Inv X pins σ H s)(rx:RelV x u)(ty:CU X.K H x t)(e:PySem.W.kitOne X.K t c=some b)(h:∀ tk,Q (.bool b) { s with toks:=tk }) :
 wpAny (model X.prog X.w) A (call (.builtin "isinstance") [u,c]) Q E s:=by
 cases ty with
 | fh=>cases (show u=Value.none from rx); exact dw PySem.W.kitx_none I.AM ja e (λz=>nomatch z) h
 | bl y=>cases (show u=Value.bool y from rx); exact dw PySem.W.kitx_bool I.AM ja e (λz=>nomatch z) h
 | int i=>obtain⟨t,q⟩:=(show ∃ t,u=Value.int i t from rx); cases q; exact dw PySem.W.kitx_int I.AM ja e (λz=>nomatch z) h
 | str y=>obtain⟨t,q⟩:=(show ∃ t,u=Value.str y t from rx); cases q; exact dw PySem.W.kitx_str I.AM ja e (λz=>nomatch z) h
 | Yq y=>obtain⟨t,q⟩:=(show ∃ t,u=Value.float y t from rx); cases q; exact dw PySem.W.kitx_float I.AM ja e (λz=>nomatch z) h
 | @lst a xs ea =>
  cases (show u=Value.ref a from rx)
  obtain⟨_,_,n,_,h1⟩:=(show gD X.prog X.w H s.heap a (.lst xs) from I.hok a _ ea)
  exact dw PySem.W.kitx_list I.AM ⟨_,h1,rfl⟩ e (λz=>nomatch z) h
 | @Lo a ob xs ea =>
  cases (show u=Value.ref a from rx)
  obtain⟨_,_,_,n,_,h1⟩:=(show gD X.prog X.w H s.heap a (.Lo ob (.lst xs)) from I.hok a _ ea)
  exact dw PySem.W.kitx_list I.AM ⟨_,h1,rfl⟩ e (λz=>nomatch z) h
 | @tup a xs ea =>
  cases (show u=Value.ref a from rx)
  obtain⟨_,_,_,p⟩:=(show gD X.prog X.w H s.heap a (.tup xs) from I.hok a _ ea)
  obtain⟨o,h1,h2,_⟩:=p
  exact dw PySem.W.kitx_tuple I.AM ⟨o,h1,h2⟩ e (λz=>nomatch z) h
 | @dK a kvs ea =>
  cases (show u=Value.ref a from rx)
  obtain⟨_,_,vs,_,p⟩:=(show gD X.prog X.w H s.heap a (.dK kvs) from I.hok a _ ea)
  obtain⟨o,es,ep,h1,h2,_⟩:=p
  exact dw PySem.W.kitx_dict I.AM ⟨o,h1,h2.1⟩ e (λz=>nomatch z) h
 | @dT a kvs ea =>
  cases (show u=Value.ref a from rx)
  obtain⟨_,_,xs,_,o,es,ep,h1,h2,_⟩:=(show gD X.prog X.w H s.heap a (.dT kvs) from I.hok a _ ea)
  exact dw PySem.W.kitx_dict I.AM ⟨o,h1,h2.1⟩ e (λz=>nomatch z) h
 | @ins a C dx fs ea cl ha hn htk hm =>
  cases (show u=Value.ref a from rx)
  obtain⟨mA,O,_⟩:=E7 I.hok ea
  obtain⟨od,J,_⟩:=O.look
  exact dw (PySem.W.kitx_own (cl.get _) cl.hd ha hn htk hm) I.AM J e (λz=>nomatch z) h
end
structure jh(k:Nat)(A:Around):Prop where
 hd:A.handled=none
 dp:A.depth + 3 * k + 5 < recursionLimit
 un:A.units + 16 * k + 200 < cLine
theorem jh.mono{j k:Nat}{A:Around}(r:jh k A)(h:j<=k):jh j A:=⟨r.hd,by have:=r.dp; omega,by have:=r.un; omega⟩
theorem jh.deeper{k:Nat}{A:Around}(r:jh (k + 1) A)(env:Env):jh k (A.deeper env) :=
 ⟨r.hd,by have:=r.dp; show A.depth + 1 + 3 * k + 5 < _; omega,by have:=r.un; show A.units + 3 + 16 * k + 200 < _; omega⟩
theorem Ny{A:Around}{C:Addr}{us:List Value}{kw:List (Str × Value)}:(A.under (.builtin "type.__call__" ⟨.ref C :: us,kw⟩)).depth=A.depth + 1:=by
 first | rfl | simp[Around.under,Code.weight,Code.isCreation,Code.isGuard,Code.isCaller,Code.frames,Code.isFrame,guardIds]
theorem Nz{A:Around}{C:Addr}{us:List Value}{kw:List (Str × Value)}:(A.under (.builtin "type.__call__" ⟨.ref C :: us,kw⟩)).units=A.units + 1:=by
 first | rfl | simp[Around.under,Code.cUnits,Code.frames,Code.isFrame]
theorem jh.make{k:Nat}{A:Around}(r:jh (k + 1) A)(C:Addr)(us:List Value)(kw:List (Str × Value)):jh k (A.under (.builtin "type.__call__" ⟨.ref C :: us,kw⟩)) :=
 ⟨r.hd,by have:=r.dp; rw[Ny]; omega,by have:=r.un; rw[Nz]; omega⟩
theorem jh.depth{k:Nat}{A:Around}(r:jh k A):A.depth < recursionLimit:=by have:=r.dp; omega
theorem jh.units{k:Nat}{A:Around}(r:jh k A):A.units + 64 < cLine:=by have:=r.un; omega
def CV:TA:=λ_ H Q=>Q [] H
def iX(ta:TE)(tr:TA):TA:=λσ H Q=>ta σ H λx H1=>tr σ H1 λxs H2=>Q (x :: xs) H2
section
variable{X:Cx}{e:Expr}{es:List Expr}{te:TE}{t:TA}{pos:Pos}
theorem gY:PA X [] CV:=λ_ _ _ _ H Q I h=>Calls.spliced_nil ⟨[],H,I,.nil,h⟩
theorem Vj(ha:PE X e te)(hr:PA X es t)(hs:starEach (e :: es) X.env=(false,eval e X.env) :: starEach es X.env:=by rfl):PA X (e :: es) (iX te t):=by
 intro pos pins s σ H Q I h
 rw[hs]
 show wpAny _ _ (spliced ((false,eval e X.env) :: backTo pos (starEach es X.env))) _ _ s
 refine Calls.spliced_cons (fV (ha pins s σ H _ I h) λu s1 ⟨x,H1,I1,r1,q1⟩=>?_)
 exact fV (hr pos pins s1 σ H1 _ I1 q1) λus s2 ⟨xs,H2,I2,r2,q2⟩=>⟨x :: xs,H2,I2,.cons r1 r2,q2⟩
def aeo(t:TA):TE:=λσ H Q=>t σ H λxs H1=>xs.length<=sizeLine/\∀ p,H1 p=none->Q (.ref p) (upd H1 p (.tup xs))
def aep(t:TA):TE:=λσ H Q=>t σ H λxs H1=>xs.length<=sizeLine/\∀ p,H1 p=none->Q (.ref p) (upd H1 p (.lst xs))
theorem fK{x1}(h:PA X es t):PE X (.Tuple es x1 pos) (aeo t):=by
 intro pins s σ H Q I hq
 refine wpAny_Tuple_spliced (fV (h pos pins s σ H _ I hq) λus s1 ⟨xs,H1,I1,r,z,q⟩=>⟨by rw[<- r.length]; exact z,?_⟩)
 have hf:H1 s1.heap.objs.size=none:=I1.hok.fresh (az _)
 refine⟨.ref s1.heap.objs.size,upd H1 s1.heap.objs.size (.tup xs),I1.laid (t':=s1.toks) (λb u e=>Heap.get?_push_of_some _ e) (az _) ?_,rfl,q _ hf⟩
 exact⟨z,us,r,⟨_,Heap.get?_push_size _ rfl,rfl,_,rfl⟩⟩
theorem ji(h:PA X es t):PE X (.List es pos) (aep t):=by
 intro pins s σ H Q I hq
 refine wpAny_List_spliced (fV (h pos pins s σ H _ I hq) λus s1 ⟨xs,H1,I1,r,z,q⟩=>⟨by rw[<- r.length]; exact z,?_⟩)
 have hf:H1 s1.heap.objs.size=none:=I1.hok.fresh (az _)
 refine⟨.ref s1.heap.objs.size,upd H1 s1.heap.objs.size (.lst xs),I1.laid (t':=s1.toks) (λb u e=>Heap.get?_push_of_some _ e) (az _) ?_,rfl,q _ hf⟩
 exact⟨z,us,0,r,Heap.get?_push_size _ rfl⟩
end
abbrev Sp:=List V->Hp->VK->XK->Prop
abbrev QH:=List Env->Hp->Shared->XK->Value->Shared->Prop
structure NB(P:Program)(w:World)(K:af)(mg:Str->Option Value)(base:Heap)(A:Around)(outer:List Env)(s:Shared)(H:Hp):Prop where
 frames:A.frames=some outer
 mod:Mod K mg base
 bs:∀ b o,base.get? b=some o->s.heap.get? b=some o/\H b=none
 Sd:base.objs.size<=s.heap.objs.size
 BD:s.heap.FunFrames base outer
 W2:∀ b∈frs outer,H b=none
 hok:xZ P w H s.heap
 bare:AllBare s.gens
def CE(outer:List Env)(P:Program)(w:World)(H:Hp)(s:Shared)(Q:VK)(u:Value)(s':Shared):Prop :=
 ∃ v H',s'.os=s.os/\AllBare s'.gens/\Un (frs outer) [] H H' s.heap s'.heap/\xZ P w H' s'.heap/\RelV v u/\Q v H'
def CR(CX:QH)(outer:List Env)(P:Program)(w:World)(H:Hp)(s:Shared)(Q:VK)(E:XK)(r:Result)(s':Shared):Prop :=
 match r with
 | .ok (.ret u)=>CE outer P w H s Q u s'
 | .ok _=>False
 | .error e=>CX outer H s E e s'
structure cj(P:Program)(w:World)(K:af)(mg:Str->Option Value)(base:Heap)(CX:QH)(k:Nat)(f:Addr)(fd:FuncData)(ps:List Str)(sp:Sp):Prop where
 len:∀ vs H Q E,sp vs H Q E->vs.length=ps.length
 run:∀ (A:Around) (outer:List Env) (s:Shared) (H:Hp) (args:Args) (us:List Value) (vs:List V) (Q:VK) (E:XK),jh k A->NB P w K mg base A outer s H->BindsTo s fd args (ps.zip us)->b6 vs us->sp vs H Q E ->
  codeAny (model P w) A (.call (.ref f) args) (CR CX outer P w H s Q E) s
theorem NB.make{P:Program}{w:World}{K:af}{mg:Str->Option Value}{base:Heap}{A:Around}{outer:List Env}{s:Shared}{H:Hp}(e:NB P w K mg base A outer s H)(C:Addr)(us:List Value)(kw:List (Str × Value)) :
 NB P w K mg base (A.under (.builtin "type.__call__" ⟨.ref C :: us,kw⟩)) outer s H:=⟨by first | exact e.frames | (simpa [Around.under,Code.envs,Code.isFrame,pushEnvs] using e.frames),e.mod,e.bs,e.Sd,e.BD,e.W2,e.hok,e.bare⟩
section
variable{X:Cx}{pins:List (Addr × Obj)}{σ:St}{H:Hp}{s s':Shared}
theorem Inv.abc(I:Inv X pins σ H s):NB X.prog X.w X.K X.mg X.base X.A X.stack s H :=
 ⟨I.ok.frames,I.ok.mod,I.bs,aO I.ok.Sd I.sz,I.stack,I.JX,I.hok,I.bare⟩
theorem Inv.after{Q:VK}{u:Value}(I:Inv X pins σ H s)(h:CE X.stack X.prog X.w H s Q u s'):EP X pins σ Q u s':=by
 obtain⟨v,H',os,bare,un,hok,r,q⟩:=h
 obtain⟨hh,g,d,t,os'⟩:=s'
 obtain rfl:os'=s.os:=os
 exact⟨v,H',I.call (h':=hh) (g':=g) (d':=d) (t':=t) (ch:=[]) un hok bare (λb z=>absurd z (by simp)),r,q⟩
end
def Xd(sp:Sp)(CK:List V)(E:XK)(t:TA):TE:=λσ H Q=>t σ H λvs H1=>sp (vs++CK) H1 Q E
def D0(C:Addr)(m:Str)(sp:Sp)(CK:List V)(E:XK)(ta:TE)(t:TA):TE:=λσ H Q=>ta σ H λx H1=>∃ a dx fs,x = .ref a/\H1 a=some (.ins C dx fs)/\fs.lookup m=none /\
 t σ H1 λvs H2=>sp (x :: (vs++CK)) H2 Q E
def SD(C:Addr)(sp:Sp)(CK:List V)(E:XK)(t:TA):TE:=λσ H Q=>t σ H λvs H1=>∀ x dx,H1 x=none->H1 dx=none->dx≠x ->
 sp (.ref x :: (vs++CK)) (upd (upd H1 dx (.own x)) x (.ins C dx [])) (λv H2=>v = .fh/\Q (.ref x) H2) E
def Binds(K:af)(fd:FuncData)(ps:List Str)(ds:List Value):Prop :=
 ∀ (s:Shared) (us:List Value),K.In s.heap->(us++ds).length=ps.length->BindsTo s fd ⟨us,[]⟩ (ps.zip (us++ds))
theorem Binds.all{K:af}{fd:FuncData}{ps:List Str}(h:∀ us:List Value,us.length=ps.length->bindArgs fd ⟨us,[]⟩=pure (ps.zip us)):Binds K fd ps []:=λs us _ hl=>by
 rw[bQ] at hl ⊢
 exact .of_eq (h us hl)
def qP(CX:QH)(X:Cx)(E:XK):Prop:=∀ (pins:List (Addr × Obj)) (σ:St) (H:Hp) (s:Shared) (e:Value) (s':Shared),Inv X pins σ H s->CX X.stack H s E e s'->X.xe e s'
section
variable{X:Cx}{CX:QH}{k:Nat}{f C:Addr}{fd:FuncData}{ps:List Str}{sp:Sp}{CK:List V}{ds:List Value}{E:XK}{x m:Str}{p pos apos:Pos}{e o:Expr}{es:List Expr}{ta:TE}{t:TA}
theorem J5{pins:List (Addr × Obj)}{σ:St}{H:Hp}{s:Shared}{Q:VK}{us:List Value}{vs:List V}(F:cj X.prog X.w X.K X.mg X.base CX k f fd ps sp)(hr:jh k X.A)(hb:Binds X.K fd ps ds)(hd:b6 CK ds)(hx:qP CX X E)
 (I:Inv X pins σ H s) (r:b6 vs us) (h:sp (vs++CK) H Q E):wpAny (model X.prog X.w) X.A (call (.ref f) us) (EP X pins σ Q) X.xe s:=by
 have r2:b6 (vs++CK) (us++ds):=r.append hd
 have hl:(us++ds).length=ps.length:=by rw[<- r2.length]; exact F.len _ _ _ _ h
 refine wpAny_call (codeAny_mono (F.run X.A X.stack s H ⟨us,[]⟩ (us++ds) (vs++CK) Q E hr I.abc (hb s us I.AM hl) r2 h) λr s' hq=>?_)
 cases r with
 | error e=>exact hx pins σ H s e s' I hq
 | ok fl =>
  cases fl with
  | ret u=>exact I.after hq
  | next=>exact je hq
  | brk=>exact je hq
  | cont=>exact je hq
theorem BJ(F:cj X.prog X.w X.K X.mg X.base CX k f fd ps sp)(hr:jh k X.A)(hg:Gl X x)(hm:X.mg x=some (.ref f))(hk:dH X.K (.ref f)=true)(hb:Binds X.K fd ps ds)(hd:b6 CK ds)(hx:qP CX X E)
 (ha:PA X (e :: es) t) (hdb:(x == ("__debug__" : Str))=false:=by decide) (he:starEach (e :: es) X.env=(false,eval e X.env) :: starEach es X.env:=by rfl) (hpl:(backTo pos (starEach es X.env)).any (·.1)=false:=by rfl) :
 PE X (.Call (.Name x p) (e :: es) [] pos) (Xd sp CK E t):=by
 intro pins s σ H Q I h
 refine wpAny_Call_Name_kw (BF I hg hm ?_ hdb)
 refine PySem.W.callWith_K (h₀:=X.base) I.ok.mod.Yt hk (fV (ha pos pins s σ H _ I h) λus s1 ⟨vs,H1,I1,r,q⟩=>⟨I1.AM,?_⟩) he hpl
 exact J5 F hr hb hd hx I1 r q
theorem vI{pl:Sem Bool}(he:PE X o ta)(c:HN X.K C)(hm:J4 X.K C m f)(F:cj X.prog X.w X.K X.mg X.base CX k f fd ps sp)(hr:jh k X.A)(hb:Binds X.K fd ps ds)(hd:b6 CK ds)(hx:qP CX X E)(ha:PA X (e :: es) t)
 (hst:starEach (e :: es) X.env=(false,eval e X.env) :: starEach es X.env:=by rfl) (hpl:(backTo pos (starEach es X.env)).any (·.1)=false:=by rfl)
 (ht:eval (.Call (.Attribute o m apos) (e :: es) [] pos) X.env=(do
  let ov <- eval o X.env
  standAt apos.atName
  let (f,first) <- holding [ov] (getMethod ov m pl)
  callWith pos f first (backTo pos (starEach (e :: es) X.env)) (backToKw pos (keywordEach [] X.env))):=by rfl) :
 PE X (.Call (.Attribute o m apos) (e :: es) [] pos) (D0 C m sp CK E ta t):=by
 intro pins s σ H Q I h
 refine PySem.W.methodCall_KW (pl:=pl) (fV (he pins s σ H _ I h) λu s1 ⟨x,H1,I1,rx,a,dx,fs,ex,ea,l,q⟩=>?_) ht
 subst ex
 obtain rfl:u=Value.ref a:=rx
 refine FF I1 ea c hm l ?_
 refine PySem.W.callWith_K (first:=[.ref a]) (h₀:=X.base) I.ok.mod.Yt hm.kp (fV (ha pos pins s1 σ H1 _ I1 q) λus s2 ⟨vs,H2,I2,r,q2⟩=>⟨I2.AM,?_⟩) hst hpl
 exact J5 (us:=.ref a :: us) (vs:=.ref a :: vs) F hr hb hd hx I2 (.cons rfl r) q2
theorem jQ{pl:Sem Bool}(he:PE X o ta)(c:HN X.K C)(hm:J4 X.K C m f)(F:cj X.prog X.w X.K X.mg X.base CX k f fd ps sp)(hr:jh k X.A)(hb:Binds X.K fd ps ds)(hd:b6 CK ds)(hx:qP CX X E)
 (ht:eval (.Call (.Attribute o m apos) [] [] pos) X.env=(do
  let ov <- eval o X.env
  standAt apos.atName
  let (f,first) <- holding [ov] (getMethod ov m pl)
  callWith pos f first (backTo pos (starEach [] X.env)) (backToKw pos (keywordEach [] X.env))):=by rfl) :
 PE X (.Call (.Attribute o m apos) [] [] pos) (D0 C m sp CK E ta CV):=by
 intro pins s σ H Q I h
 refine PySem.W.methodCall_KW (pl:=pl) (fV (he pins s σ H _ I h) λu s1 ⟨x,H1,I1,rx,a,dx,fs,ex,ea,l,q⟩=>?_) ht
 subst ex
 obtain rfl:u=Value.ref a:=rx
 refine FF I1 ea c hm l ?_
 exact PySem.W.callWith_K0 (first:=[.ref a]) I1.AM hm.kp (J5 (us:=[.ref a]) (vs:=[.ref a]) F hr hb hd hx I1 (.cons rfl .nil) q)
structure Mk(K:af)(C f:Addr):Prop where
 makes:PySem.W.makesIn K C=true
 init:aG K (.ref C) "__init__" = some (some (.ref f))
 fn:PySem.W.isFn K (.ref f)=true
 kp:dH K (.ref C)=true
theorem Lx{pins:List (Addr × Obj)}{σ:St}{H:Hp}{s:Shared}{Q:VK}{us:List Value}{vs:List V}(M:Mk X.K C f)(F:cj X.prog X.w X.K X.mg X.base CX k f fd ps sp)(hr:jh (k + 1) X.A)(hb:Binds X.K fd ps ds)(hd:b6 CK ds)
 (hx:qP CX X E) (I:Inv X pins σ H s) (r:b6 vs us)
 (h:∀ x dx,H x=none->H dx=none->dx≠x->sp (.ref x :: (vs++CK)) (upd (upd H dx (.own x)) x (.ins C dx [])) (λv H2=>v = .fh/\Q (.ref x) H2) E) :
 wpAny (model X.prog X.w) X.A (call (.ref C) us) (EP X pins σ Q) X.xe s:=by
 have hq:=h (s.heap.objs.size + 1) s.heap.objs.size (I.hok.fresh (eS _)) (I.hok.fresh (az _)) (bu (Nat.lt_succ_self _))
 have I2:=Inv.made (C:=C) I
 have r2:b6 (V.ref (s.heap.objs.size + 1) :: (vs++CK)) (Value.ref (s.heap.objs.size + 1) :: (us++ds)):=.cons rfl (r.append hd)
 have hl:(Value.ref (s.heap.objs.size + 1) :: us++ds).length=ps.length:=by
  have e:=r2.length
  rw[F.len _ _ _ _ hq] at e
  exact e.symm
 refine wpAny_call (SA (f:=f) I.AM M.makes M.init (beq_iff_eq.mp M.fn) (codeAny_mono (F.run _ X.stack _ _ ⟨Value.ref (s.heap.objs.size + 1) :: us,[]⟩ (Value.ref (s.heap.objs.size + 1) :: (us++ds)) _ _ E (hr.make C us [])
  (I2.abc.make C us []) (hb _ (Value.ref (s.heap.objs.size + 1) :: us) I2.AM hl) r2 hq) λr s' hq'=>?_))
 cases r with
 | error e=>exact hx pins σ _ _ e s' I2 hq'
 | ok fl =>
  cases fl with
  | ret u =>
   obtain⟨v,H',I3,rv,ev,q3⟩:=I2.after hq'
   subst ev
   exact⟨rv,⟨V.ref (s.heap.objs.size + 1),H',I3,rfl,q3⟩⟩
  | next=>exact je hq'
  | brk=>exact je hq'
  | cont=>exact je hq'
theorem O6(M:Mk X.K C f)(F:cj X.prog X.w X.K X.mg X.base CX k f fd ps sp)(hr:jh (k + 1) X.A)(hg:Gl X x)(hm:X.mg x=some (.ref C))(hb:Binds X.K fd ps ds)(hd:b6 CK ds)(hx:qP CX X E)
 (ha:PA X (e :: es) t) (hdb:(x == ("__debug__" : Str))=false:=by decide) (he:starEach (e :: es) X.env=(false,eval e X.env) :: starEach es X.env:=by rfl) (hpl:(backTo pos (starEach es X.env)).any (·.1)=false:=by rfl) :
 PE X (.Call (.Name x p) (e :: es) [] pos) (SD C sp CK E t):=by
 intro pins s σ H Q I h
 refine wpAny_Call_Name_kw (BF I hg hm ?_ hdb)
 refine PySem.W.callWith_K (h₀:=X.base) I.ok.mod.Yt M.kp (fV (ha pos pins s σ H _ I h) λus s1 ⟨vs,H1,I1,r,q⟩=>⟨I1.AM,?_⟩) he hpl
 exact Lx M F hr hb hd hx I1 r q
theorem SE(M:Mk X.K C f)(F:cj X.prog X.w X.K X.mg X.base CX k f fd ps sp)(hr:jh (k + 1) X.A)(hg:Gl X x)(hm:X.mg x=some (.ref C))(hb:Binds X.K fd ps ds)(hd:b6 CK ds)(hx:qP CX X E)
 (hdb:(x == ("__debug__" : Str))=false:=by decide):PE X (.Call (.Name x p) [] [] pos) (SD C sp CK E CV):=by
 intro pins s σ H Q I h
 refine wpAny_Call_Name_kw (BF I hg hm ?_ hdb)
 exact PySem.W.callWith_K0 I.AM M.kp (Lx (us:=[]) M F hr hb hd hx I .nil h)
end
structure aM(N P:List Str)(sc:Scope):Prop where
 kind:sc.kind = .function
 co:sc.isCoroutine=false
 gen:sc.isGenerator=false
 nd:N.Nodup
 pre:N.take P.length=P
 par:∀ x∈P,sc.names.lookup x=some .local∨sc.names.lookup x=some .cell
 YL:∀ y∈sc.names,y.2≠.free
theorem IU{kindOf:Str->Option NameKind}{x:Str}:∀ {binds:List (Str × Value)} {m:Str->Option Value},(∀ v,(x,v) ∉ binds)->bindL kindOf binds m x=m x
 | [],_,_=>rfl
 | (n,v) :: r,m,h=>by
  unfold bindL
  rw[IU λw hw=>h w (bh _ hw)]
  split
  ·have:x≠n:=by rintro rfl; exact h v bI
   simp[this]
  ·rfl
theorem IV{kindOf:Str->Option NameKind}{x:Str}:∀ {binds:List (Str × Value)} {m:Str->Option Value},(∀ v,(x,v) ∉ binds)->bindC kindOf binds m x=m x
 | [],_,_=>rfl
 | (n,v) :: r,m,h=>by
  unfold bindC
  rw[IV λw hw=>h w (bh _ hw)]
  split
  ·rfl
  ·have:x≠n:=by rintro rfl; exact h v bI
   simp[this]
theorem IW{kindOf:Str->Option NameKind}{x:Str}{v:Value}:∀ {P:List Str} {vs:List Value} {i:Nat} {m:Str->Option Value},P.Nodup->P[i]?=some x->vs[i]?=some v->kindOf x=some .local ->
 bindL kindOf (P.zip vs) m x=some v
 | [],_,_,_,_,h,_,_=>by simp at h
 | _ :: _,[],_,_,_,_,h,_=>by simp at h
 | p :: P,w :: vs,0,m,nd,h1,h2,hk=>by
  simp at h1 h2; subst h1; subst h2
  show bindL kindOf ((p,w) :: P.zip vs) m p=_
  unfold bindL
  rw[IU λv hv=>(dB.mp nd).1 (List.of_mem_zip hv).1,if_pos hk]
  simp
 | p :: P,w :: vs,i + 1,m,nd,h1,h2,hk=>by
  show bindL kindOf ((p,w) :: P.zip vs) m x=_
  unfold bindL
  exact IW (i:=i) (dB.mp nd).2 (by simpa using h1) (by simpa using h2) hk
theorem IX{kindOf:Str->Option NameKind}{x:Str}{v:Value}:∀ {P:List Str} {vs:List Value} {i:Nat} {m:Str->Option Value},P.Nodup->P[i]?=some x->vs[i]?=some v->kindOf x≠some .local ->
 bindC kindOf (P.zip vs) m x=some v
 | [],_,_,_,_,h,_,_=>by simp at h
 | _ :: _,[],_,_,_,_,h,_=>by simp at h
 | p :: P,w :: vs,0,m,nd,h1,h2,hk=>by
  simp at h1 h2; subst h1; subst h2
  show bindC kindOf ((p,w) :: P.zip vs) m p=_
  unfold bindC
  rw[IV λv hv=>(dB.mp nd).1 (List.of_mem_zip hv).1,if_neg hk]
  simp
 | p :: P,w :: vs,i + 1,m,nd,h1,h2,hk=>by
  show bindC kindOf ((p,w) :: P.zip vs) m x=_
  unfold bindC
  exact IX (i:=i) (dB.mp nd).2 (by simpa using h1) (by simpa using h2) hk
noncomputable def start(N:List Str)(vs:List V):St:=vs.map some++List.replicate (N.length - vs.length) none
noncomputable def m6(CX:QH)(P:Program)(w:World)(K:af)(mg:Str->Option Value)(base:Heap)(N:List Str)(qual:Str)(scope:Scope)(f:Addr)(cd:Value)(A:Around)(outer:List Env)(s:Shared)(H:Hp)(E:XK):Cx where
 prog:=P
 w:=w
 K:=K
 mg:=mg
 base:=base
 A:=A.deeper (envOfC qual scope s.heap.objs.size f cd)
 N:=N
 s₀:=s
 H₀:=H
 env:=envOfC qual scope s.heap.objs.size f cd
 outer:=outer
 stack:=envOfC qual scope s.heap.objs.size f cd :: outer
 ex:=[]
 calm:=true
 fn:=λ_=>true
 pn:=[]
 xe:=λe s'=>wpAny (model P w) (A.deeper (envOfC qual scope s.heap.objs.size f cd)) (leaving (envOfC qual scope s.heap.objs.size f cd) e) (λ_ s''=>CX outer H s E e s'') (λe' s''=>CX outer H s E e' s'') s'
theorem Ly{sc:Scope}{n:Nat}{x:Str}(h:sc.names.lookup x=some .cell):∃ c,(cellsFrom n sc.names []).lookup x=some c:=by
 have q:=PySem.W.cellsFrom_some sc.names n [] (.inl h)
 exact Option.isSome_iff_exists.mp q
theorem QI{CX:QH}{P:Program}{w:World}{K:af}{mg:Str->Option Value}{base:Heap}{N ps:List Str}{qual:Str}{scope:Scope}{f:Addr}{cd:Value}{A:Around}{outer:List Env}{s s1:Shared}{H:Hp}{E:XK}{us:List Value}{vs:List V}
 (S:aM N ps scope) (hd:A.handled=none) (e0:NB P w K mg base A outer s H) (hl:vs.length=ps.length) (r:b6 vs us)
 (x:InCallC s s.heap.objs.size (bindL (envOfC qual scope s.heap.objs.size f cd).kindOf (ps.zip us) λ_=>none) (cellsFrom (s.heap.objs.size + 1) scope.names []) (bindC (envOfC qual scope s.heap.objs.size f cd).kindOf (ps.zip us) λ_=>none) s1) :
 Inv (m6 CX P w K mg base N qual scope f cd A outer s H E) [] (start N vs) H s1:=by
 have hpl:ps.length<=N.length:=by have:=congrArg List.length S.pre; rw[bZ] at this; omega
 obtain⟨h1,tk,rfl,hk⟩:=x.done
 have noA:∀ b:Addr,b ∉ (m6 CX P w K mg base N qual scope f cd A outer s H E).ex:=λb z=>absurd (show b∈([]:List Addr) from z) (by simp)
 refine⟨⟨e0.mod,S.kind,rfl,rfl,az _,λy z c h1 h2=>?_,λy hy=>?_,λy c _ h=>?_,λ_=>hd,Around.frames_deeper e0.frames,.inr ⟨rfl,rfl⟩,λb z=>absurd z (noA b),e0.bs,e0.Sd,λb _ _=>noA b,λb z=>absurd z (noA b),e0.BD,e0.W2⟩,
  rfl,e0.bare,Un.kept hk,⟨_,x.toInCall.ns,λi y v h1 h2 h3=>?_⟩,λy c h=>⟨_,x.cell y c h⟩,e0.hok.fresh (az _),λy c h=>?_,λp hp=>absurd (show p∈([]:List (Addr × Obj)) from hp) (by simp),e0.hok.kept hk,?_⟩
 ·exact name_of_addr x.apart (oX h1) (oX h2)
 ·have hy:scope.names.lookup y=some .cell∨scope.names.lookup y=some .free:=hy
  rcases hy with hy | hy
  ·exact Ly hy
  ·exact absurd rfl (S.YL _ (oX hy))
 ·exact gR (x.above y c (oX h))
 ·have hi:i < vs.length:=by
   unfold start at h2
   by_cases hi:i < vs.length
   ·exact hi
   ·rw[bD (by simpa using hi)] at h2
    rw[List.getElem?_replicate] at h2
    split at h2 <;> cases h2
  have ha:vs[i]?=some v:=by
   unfold start at h2
   rw[bB (by simpa using hi),ak] at h2
   cases e:vs[i]? with
   | none=>rw[e] at h2; cases h2
   | some a=>rw[e] at h2; cases h2; rfl
  obtain⟨u,hu,rv⟩:=r.get ha
  have hp:ps[i]?=some y:=by
   rw[<- S.pre,p6 (by omega)]; exact h1
  have ndP:ps.Nodup:=by rw[<- S.pre]; exact S.nd.sublist (List.take_sublist _ _)
  refine⟨u,rv,?_⟩
  rcases S.par y (aQ hp) with k | k
  ·exact .inl ⟨k,IW ndP hp hu k⟩
  ·obtain⟨c,e⟩:=Ly (n:=s.heap.objs.size + 1) k
   refine .inr ⟨.inl k,c,e,?_⟩
   have q:=x.cell y c e
   rw[IX ndP hp hu (by show scope.names.lookup y≠_; rw[k]; decide)] at q
   exact q
 ·exact e0.hok.fresh (gR (x.above y c (oX h)))
 ·unfold start
  show _=N.length
  rw[aB,ah,List.length_replicate]
  omega
theorem SG{CX:QH}{P:Program}{w:World}{K:af}{mg:Str->Option Value}{base:Heap}{k:Nat}{f:Addr}{name qual:Str}{params:Arguments}{body:List Stmt}{scope:Scope}{dV kV doc pm cdv ct oc:Value}{an od:Option Addr}
 {osl:Array (Option Value)} {N ps:List Str} {sp:Sp} (lk:K.lookup f=some ⟨oc,od,.func (dU name qual params body scope dV kV doc pm an cdv ct),osl⟩) (hcd:iU K cdv qual=true) (S:aM N ps scope)
 (len:∀ vs H Q E,sp vs H Q E->vs.length=ps.length)
 (hbody:∀ (A:Around) (outer:List Env) (s:Shared) (H:Hp) (vs:List V) (Q:VK) (E:XK),jh k (A.deeper (envOfC qual scope s.heap.objs.size f cdv))->sp vs H Q E ->
  ∃ t,iV (m6 CX P w K mg base N qual scope f cdv A outer s H E) body t/\t { nx:=λ_ H'=>Q .fh H',rt:=Q } (start N vs) H) :
 cj P w K mg base CX (k + 1) f (dU name qual params body scope dV kV doc pm an cdv ct) ps sp:=by
 refine⟨len,λA outer s H args us vs Q E hr e0 hb r RU=>?_⟩
 have hl:=len _ _ _ _ RU
 have KX:K.In s.heap:=e0.mod.Yt.keeps λb o e=>(e0.bs b o e).1
 have lim:s.heap.NoLimit:=e0.mod.nolimit.keeps λb o e=>(e0.bs b o e).1
 have hkind:∀ y∈ps.zip us,scope.names.lookup y.1=some .local∨(scope.names.lookup y.1=some .cell/\((cellsFrom (s.heap.objs.size + 1) scope.names []).lookup y.1).isSome=true):=λ⟨n,v⟩ hy=>by
  rcases S.par n (List.of_mem_zip hy).1 with q | q
  ·exact .inl q
  ·exact .inr ⟨q,PySem.W.cellsFrom_some _ _ _ (.inl q)⟩
 refine codeAny_call_function hr.depth (KX _ _ lk) rfl S.co S.gen rfl (PySem.W.codeRec_of KX hcd) (hb _ _ _ _ ?_)
 refine wpAny_newFunctionEnv_cells S.kind hkind λenv he s1 x=>?_
 subst he
 refine⟨lim.keeps x.toInCall.keep,codeAny_func ?_⟩
 obtain⟨t,ht,hq⟩:=hbody A outer s H vs Q E (hr.deeper _) RU
 have I:Inv (m6 CX P w K mg base N qual scope f cdv A outer s H E) [] (start N vs) H s1:=QI S hr.hd e0 hl r x
 refine wpAny_mono (ht [] s1 (start N vs) H _ I hq) (λfl s' hs=>?_) λe s' hs=>hs
 have fin:∀ {σ':St} {H':Hp} {v:V} {u:Value},Inv (m6 CX P w K mg base N qual scope f cdv A outer s H E) [] σ' H' s'->RelV v u->Q v H'->CE outer P w H s Q u s' :=
  λ{σ' H' v u} J rv q=>⟨v,H',J.os,J.bare,J.base,J.hok,rv,q⟩
 cases fl with
 | ret u =>
  obtain⟨v,σ',H',J,rv,q⟩:=hs
  exact fin J rv q
 | next =>
  obtain⟨σ',H',J,q⟩:=hs
  exact fin (v:=V.fh) (u:=Value.none) J rfl q
 | brk =>
  obtain⟨_,_,_,q⟩:=hs
  exact je q
 | cont =>
  obtain⟨_,_,_,q⟩:=hs
  exact je q
section
variable{X:Cx}{x:Str}{p pos:Pos}{e:Expr}{es:List Expr}{t:TA}{id T:String}{r:List V->Hp->VK->Prop}
def tCB(r:List V->Hp->VK->Prop)(t:TA):TE:=λσ H Q=>t σ H λvs H1=>r vs H1 Q
theorem Lz(hc:mX X (.builtin id) r)(hg:Gl X x)(hm:X.mg x=none)(hv:bootBuiltins x=some (.builtin id))(ha:PA X (e :: es) t)(hn:x≠"__name__" := by decide)(hdb:(x == ("__debug__" : Str))=false:=by decide)
 (he:starEach (e :: es) X.env=(false,eval e X.env) :: starEach es X.env:=by rfl) (hpl:(backTo pos (starEach es X.env)).any (·.1)=false:=by rfl):PE X (.Call (.Name x p) (e :: es) [] pos) (tCB r t):=by
 intro pins s σ H Q I h
 refine wpAny_Call_Name_kw (Fz I hg hm hv ?_ hn hdb)
 exact PyProof.Rows.callWith_builtin1 (fV (ha pos pins s σ H _ I h) λus s1 ⟨vs,H1,I1,r1,q1⟩=>hc pins s1 σ H1 vs us Q I1 r1 q1) he hpl
theorem gj(hc:mX X (.type T) r)(hg:Gl X x)(hm:X.mg x=none)(hv:bootBuiltins x=some (.type T))(ha:PA X (e :: es) t)(hn:x≠"__name__" := by decide)(hdb:(x == ("__debug__" : Str))=false:=by decide)
 (he:starEach (e :: es) X.env=(false,eval e X.env) :: starEach es X.env:=by rfl) (hpl:(backTo pos (starEach es X.env)).any (·.1)=false:=by rfl):PE X (.Call (.Name x p) (e :: es) [] pos) (tCB r t):=by
 intro pins s σ H Q I h
 refine wpAny_Call_Name_kw (Fz I hg hm hv ?_ hn hdb)
 exact PyProof.Rows.callWith_type1 (fV (ha pos pins s σ H _ I h) λus s1 ⟨vs,H1,I1,r1,q1⟩=>hc pins s1 σ H1 vs us Q I1 r1 q1) he hpl
end
end L2
namespace HT
open PySem PyProof.Rows
theorem LA(A:Around)(s:Shared)(a:Int)(t:Tok)(c:Int)(u:Tok):∃ e,SeqAt.EqAt A s (.int a t) (.int c u) e/\(e=true↔a=c) :=
 ⟨(a == c),SeqAt.EqAt.int_int a t c u,by simp⟩
theorem SH(A:Around)(s:Shared)(a:Int)(t:Tok)(c:Int)(u:Tok)(prog:Program)(w:World)(E:Value->Shared->Prop)(Q:Value->Shared->Prop)(h:Q (.bool (decide (a < c))) s) :
 wpAny (model prog w) A (richCompare .Lt (.int a t) (.int c u)) Q E s :=
 (PyProof.Rows.lt_int h:wpAny (model prog w) A (compareOp .Lt (.int a t) (.int c u)) Q E s)
section
open PySem.SeqAt
open PySem.AutoSeq1 (wpAny_loadPart')
open PySem.MeetsSeq PySem.MeetsSeq2 PySem.MeetsSeq3
end
section
variable{prog:Program}{w:World}{A:Around}{E:Value->Shared->Prop}{s:Shared}
noncomputable def jH(n d:Nat):Option Int->Nat
 | none=>d
 | some v=>if v < 0 then (v + (n:Int)).toNat else min v.toNat n
theorem BK(n d k:Nat):jH n d (some (k:Int))=min k n:=by
 show (if (k:Int) < 0 then ((k:Int) + (n:Int)).toNat else min (k:Int).toNat n)=min k n
 rw[if_neg (by omega),dP]
theorem YM(n d:Nat)(hd:d<=n)(o:Option Int):jH n d o<=n:=by
 cases o with
 | none=>exact hd
 | some v =>
  show (if v < 0 then (v + (n:Int)).toNat else min v.toNat n)<=n
  by_cases hv:v < 0
  ·rw[if_pos hv]; omega
  ·rw[if_neg hv]; exact Nat.min_le_right _ _
theorem O7(v:Int)(n d:Nat):(if v < 0 then max (v + (n:Int)) 0 else min v (n:Int))=((jH n d (some v):Nat):Int):=by
 show (if v < 0 then max (v + (n:Int)) 0 else min v (n:Int))=(((if v < 0 then (v + (n:Int)).toNat else min v.toNat n):Nat):Int)
 by_cases hv:v < 0
 ·simp only[if_pos hv]; omega
 ·simp only[if_neg hv]; omega
theorem ND(lo hi:Option Int)(n:Nat):Builtin.Slice.sliceAdjust lo hi 1 (n:Int)=(((jH n 0 lo:Nat):Int),((jH n n hi:Nat):Int)):=by
 have h1:¬ ((1:Int) < 0):=by omega
 unfold Builtin.Slice.sliceAdjust
 simp only[h1,if_false]
 refine Prod.ext ?_ ?_
 ·cases lo with
  | none=>rfl
  | some v=>exact O7 v n 0
 ·cases hi with
  | none=>rfl
  | some v=>exact O7 v n n
theorem NF(i j:Nat):Builtin.Slice.slicePlaces (i:Int) (j:Int) 1=j - i:=by
 unfold Builtin.Slice.slicePlaces
 have h1:(1:Int) > 0:=by omega
 simp only[h1,if_true,Int.ediv_one]
 split <;> omega
theorem FH{v:Value}{o:Option Int}{Q:Option Int->Shared->Prop}(p:IsPart v o)(h:Q o s):wpAny (model prog w) A (Builtin.Slice.slicePartIndex v) Q E s:=by
 cases p with
 | none=>exact slicePart_none h
 | int i t=>exact slicePart_int h
theorem CY{sl:Addr}{vl vu:Value}{lo hi:Option Int}{n:Nat}{Q:Int × Int × Nat->Shared->Prop}(hs:s.heap.IsSliceOf sl vl vu .none)(pl:IsPart vl lo)(pu:IsPart vu hi)
 (h:Q (((jH n 0 lo:Nat):Int),1,jH n n hi - jH n 0 lo) s):wpAny (model prog w) A (Builtin.Slice.sliceApplied (.ref sl) (pure (n:Int))) Q E s:=by
 obtain⟨os,hos,hcs,hds⟩:=id hs
 unfold Builtin.Slice.sliceApplied Builtin.Slice.sliceFields
 refine wpAny_bind (wpAny_bind (wpAny_field hos hds (x:=vl) rfl (wpAny_bind (wpAny_field hos hds (x:=vu) rfl (wpAny_bind (wpAny_field hos hds (x:=.none) rfl (wpAny_pure ?_)))))))
 refine wpAny_bind (slicePart_none ?_)
 show wpAny _ _ (if ((1:Int) == 0)=true then _ else _) _ _ s
 rw[if_neg (by decide)]
 refine wpAny_bind (FH pl (wpAny_bind (FH pu (wpAny_bind (wpAny_pure ?_)))))
 show wpAny _ _ (match Builtin.Slice.sliceAdjust lo hi 1 (n:Int) with | (lo,hi)=>pure (lo,(1:Int),Builtin.Slice.slicePlaces lo hi 1)) _ _ s
 rw[ND lo hi n]
 show wpAny _ _ (pure (((jH n 0 lo:Nat):Int),(1:Int),Builtin.Slice.slicePlaces ((jH n 0 lo:Nat):Int) ((jH n n hi:Nat):Int) 1)) _ _ s
 rw[NF]
 exact wpAny_pure h
theorem SI(xs:Array Value)(i k:Nat):((au k).filterMap λ(m:Nat)=>xs[((i:Int) + (m:Int) * 1).toNat]?).toArray=((xs.toList.drop i).take k).toArray:=by
 have e:(λ(m:Nat)=>xs[((i:Int) + (m:Int) * 1).toNat]?)=λm=>xs[i + m]?:=by
  funext m
  have:((i:Int) + (m:Int) * 1).toNat=i + m:=by omega
  rw[this]
 rw[e]
 have:=pick_run xs i k
 rw[List.filterMap_map] at this
 have e2:((λx=>xs[x]?) ∘ λx=>i + x)=λm=>xs[i + m]?:=rfl
 rw[e2] at this
 rw[this]
theorem BL{t sl:Addr}{items:Array Value}{vl vu:Value}{lo hi:Option Int}{Q:Value->Shared->Prop}(ht:IsTup s.heap t items)(hs:s.heap.IsSliceOf sl vl vu .none)(pl:IsPart vl lo)(pu:IsPart vu hi)
 (hw:¬ (jH items.size 0 lo=0/\jH items.size items.size hi=items.size))
 (h:Q (.ref s.heap.objs.size) { s with heap:=s.heap.push { cls:=.type "tuple",data:=.seq ((items.toList.drop (jH items.size 0 lo)).take (jH items.size items.size hi - jH items.size 0 lo)).toArray } })
 (hsz:items.size<=sizeLine):wpAny (model prog w) A (getItem (.ref t) (.ref sl)) Q E s:=by
 have O9:sizeOk (.seq ((items.toList.drop (jH items.size 0 lo)).take (jH items.size items.size hi - jH items.size 0 lo)).toArray):=by
  show ((items.toList.drop (jH items.size 0 lo)).take (jH items.size items.size hi - jH items.size 0 lo)).toArray.size<=sizeLine
  rw[aW,bZ,List.length_drop,fU]
  omega
 have hj:jH items.size items.size hi<=items.size:=YM _ _ (az _) hi
 obtain⟨os,hos,hcs,hds⟩:=id hs
 have hTs:s.TypeIs (.ref sl) "slice" := ⟨os,hos,hcs⟩
 unfold getItem
 try with_reducible refine wpAny_holding ?_
 first | refine wpAny_bind (wpAny_pure ?_) | skip
 refine wpAny_bind (wpAny_sequenceKey ht.typeIs (by decide) ?_)
 refine wpAny_bind (wpAny_callSpecial?_slot (name:=Str.ofString "__getitem__") ht.typeIs tM
  (wpAny_call_entry tM ht.typeIs entry_tuple_getitem ?_ (args_tuple_getitem _ _)))
 show wpAny _ _ (Builtin.Tuple.tupleItemsOf (.ref t) >>= _) _ _ s
 refine wpAny_bind (tupleItemsOf_ ht ?_)
 refine wpAny_bind (wpAny_typeOf hTs ?_)
 rw[if_pos (by decide)]
 refine wpAny_bind (CY hs pl pu ?_)
 have hno:¬ ((((jH items.size 0 lo:Nat):Int) == 0 && (1:Int) == 1 && (jH items.size items.size hi - jH items.size 0 lo) == items.size)=true):=by
  intro q
  rw[cu,cu] at q
  have q1:((jH items.size 0 lo:Nat):Int)=0:=eq_of_beq q.1.1
  have q2:jH items.size items.size hi - jH items.size 0 lo=items.size:=eq_of_beq q.2
  exact hw ⟨by omega,by omega⟩
 show wpAny _ _ (if (((jH items.size 0 lo:Nat):Int) == 0 && (1:Int) == 1 && (jH items.size items.size hi - jH items.size 0 lo) == items.size)=true then _ else _) _ _ s
 rw[if_neg hno,SI]
 first
  | exact wpAny_bind (m:=Builtin.Tuple.tupleExact _) (wpAny_newObj_type (wpAny_pure ⟨_,rfl,wpAny_pure h⟩) O9)
  | exact wpAny_bind (m:=Builtin.Tuple.tupleExact _) (wpAny_newObj_type (wpAny_bind (wpAny_pure (wpAny_pure ⟨_,rfl,wpAny_pure h⟩))) O9)
  | exact wpAny_bind (wpAny_bind (m:=Builtin.Tuple.tupleExact _) (wpAny_newObj_type (wpAny_pure (wpAny_pure ⟨_,rfl,wpAny_pure h⟩)) O9))
  | exact wpAny_bind (wpAny_bind (m:=Builtin.Tuple.tupleExact _) (wpAny_newObj_type (wpAny_pure ⟨_,rfl,wpAny_pure h⟩) O9))
end
end HT
namespace L2
open PySem PySem.Spec PyProof.Rows
abbrev TO:=St->Hp->(Option Int->Hp->Prop)->Prop
def PO(X:Cx)(e:Option Expr)(t:TO):Prop :=
 ∀ (pins:List (Addr × Obj)) (s:Shared) (σ:St) (H:Hp) (Q:Option Int->Hp->Prop),Inv X pins σ H s->t σ H Q ->
  wpAny (model X.prog X.w) X.A (evalPart e X.env) (λu s'=>∃ o H',Inv X pins σ H' s'/\IsPart u o/\Q o H') X.xe s
def Vk:TO:=λ_ H Q=>Q none H
def abe(t:TE):TO:=λσ H Q=>t σ H λx H1=>∃ i,x = .int i/\Q (some i) H1
theorem intsAre_of{ns:List Int}:∀ {us:List Value},b6 (ns.map V.int) us->IntsAre us ns:=by
 induction ns with
 | nil=>intro us r; rw[uP] at r; cases r; exact .nil
 | cons n ns ih =>
  intro us r
  rw[bg] at r
  cases r with
  | cons r1 r2 =>
   obtain⟨t,e⟩:=r1
   subst e
   exact .cons n t (ih r2)
section
variable{X:Cx}{e:Expr}{te:TE}{lo hi:Option Expr}{tl th:TO}{pos p2:Pos}
theorem vJ:PO X none Vk:=by
 intro pins s σ H Q I h
 rw[evalPart_none]
 exact wpAny_pure ⟨none,H,I,.none,h⟩
theorem nM(h:PE X e te):PO X (some e) (abe te):=by
 intro pins s σ H Q I hw
 rw[evalPart_some]
 refine fV (h pins s σ H _ I hw) λu s1 ⟨x,H1,I1,r1,q1⟩=>?_
 obtain⟨i,rfl,q⟩:=q1
 obtain⟨t,rfl⟩:=r1
 exact⟨some i,H1,I1,.int i t,q⟩
def SlR(X:Cx)(r:V->Option Int->Option Int->Hp->VK->Prop):Prop :=
 ∀ (pins:List (Addr × Obj)) (s:Shared) (σ:St) (H:Hp) (x:V) (v vl vu:Value) (lo hi:Option Int) (sl:Addr) (Q:VK),Inv X pins σ H s->RelV x v->s.heap.IsSliceOf sl vl vu .none->IsPart vl lo->IsPart vu hi->r x lo hi H Q ->
  ∃ T id,typeLookup (.type T) "__getitem__" = pure (some (.builtin id))/\s.TypeIs v T/\wpAny (model X.prog X.w) X.A (getItem v (.ref sl)) (EP X pins σ Q) X.xe s
def tSl(r:V->Option Int->Option Int->Hp->VK->Prop)(te:TE)(tl th:TO):TE:=λσ H Q=>te σ H λx H1=>tl σ H1 λl H2=>th σ H2 λu H3=>r x l u H3 Q
theorem oq{r:V->Option Int->Option Int->Hp->VK->Prop}(hr:SlR X r)(he:PE X e te)(hl:PO X lo tl)(hu:PO X hi th):PE X (.Subscript e (.Slice lo hi none p2) pos) (tSl r te tl th):=by
 intro pins s σ H Q I h
 refine Subscript_ (fV (he pins s σ H _ I h) λv s1 ⟨x,H1,I1,r1,q1⟩=>?_)
 refine wpAny_Slice (fV (hl pins s1 σ H1 _ I1 q1) λvl s2 ⟨l,H2,I2,pl,q2⟩=>fV (hu pins s2 σ H2 _ I2 q2) λvu s3 ⟨u,H3,I3,pu,q3⟩=>?_)
 rw[evalPart_none]
 refine wpAny_pure ?_
 have I4:Inv X pins σ H3 { s3 with heap:=s3.heap.push { cls:=.type "slice",data:=.fields #[vl,vu,.none] } }:=I3.kept (t':=s3.toks) λb ob q=>Heap.get?_push_of_some _ q
 obtain⟨T,id,hT,ht,hg⟩:=hr pins { s3 with heap:=s3.heap.push { cls:=.type "slice",data:=.fields #[vl,vu,.none] } } σ H3 x v vl vu l u s3.heap.objs.size Q I4 r1 (Heap.IsSliceOf.new ..) pl pu q3
 show wpAny (model X.prog X.w) X.A (subscriptTail e (.Slice lo hi none p2) v (.ref s3.heap.objs.size)) (EP X pins σ Q) X.xe { s3 with heap:=s3.heap.push { cls:=.type "slice",data:=.fields #[vl,vu,.none] } }
 exact tail_any (ops:=[.ref s3.heap.objs.size,v]) ht hT hg (by with_unfolding_all rfl)
noncomputable def x9(xs:List V)(lo hi:Option Int):List V:=(xs.drop (HT.jH xs.length 0 lo)).take (HT.jH xs.length xs.length hi - HT.jH xs.length 0 lo)
theorem D3(xs:List V)(lo hi:Option Int):(x9 xs lo hi).length<=xs.length:=by
 unfold x9
 rw[bZ,List.length_drop]
 omega
def abf(K:af):V->Option Int->Option Int->Hp->VK->Prop:=λx lo hi H Q=>∃ a xs,x = .ref a/\cN K H a xs /\
 ¬ (HT.jH xs.length 0 lo=0/\HT.jH xs.length xs.length hi=xs.length)/\∀ p,H p=none->Q (.ref p) (upd H p (.tup (x9 xs lo hi)))
theorem CZ:SlR X (abf X.K):=by
 intro pins s σ H x v vl vu lo hi sl Q I rx hs pl pu h
 obtain⟨a,xs,rfl,hx,hw,q⟩:=h
 cases rx
 obtain⟨its,r,ht,hz⟩:=I.tuple hx
 have hlen:its.toArray.size=xs.length:=by rw[aW]; exact r.length.symm
 refine⟨"tuple",_,tM.lookup,ht.typeIs,?_⟩
 refine HT.BL ht hs pl pu (by rw[hlen]; exact hw) ?_ (by rw[hlen]; exact hz)
 rw[hlen]
 refine⟨.ref s.heap.objs.size,_,I.laid (t':=s.toks) (o:=.tup (x9 xs lo hi)) (λb ob q=>Heap.get?_push_of_some _ q) (az _) ?_,rfl,q _ (I.hok.fresh (az _))⟩
 exact⟨aO (D3 xs lo hi) hz,_,(r.drop (HT.jH xs.length 0 lo)).take (HT.jH xs.length xs.length hi - HT.jH xs.length 0 lo),IsTup.new _ _⟩
end
noncomputable def Vl(n:Nat)(i:Int):Option Nat:=if 0<=i then (if i < n then some i.toNat else none) else if -(n:Int)<=i then some (i + n).toNat else none
noncomputable def ED{α:Type}(xs:List α)(i:Int):Option α:=(Vl xs.length i).bind λj=>xs[j]?
theorem J6{n:Nat}{i:Int}{j:Nat}(h:Vl n i=some j):seqIndex? i n=some j/\j < n/\-(n:Int)<=i/\i < n:=by
 unfold Vl at h
 by_cases h0:0<=i
 ·rw[if_pos h0] at h
  by_cases h1:i < n
  ·rw[if_pos h1] at h
   have e:i.toNat=j:=aL h
   exact⟨by rw[seqIndex_of h0 h1,e],by omega,by omega,h1⟩
  ·rw[if_neg h1] at h; cases h
 ·rw[if_neg h0] at h
  by_cases h1 : -(n:Int)<=i
  ·rw[if_pos h1] at h
   have e:(i + n).toNat=j:=aL h
   exact⟨by rw[seqIndex_neg (by omega) h1,e],by omega,h1,by omega⟩
  ·rw[if_neg h1] at h; cases h
theorem Pa{α:Type}{xs:List α}{i:Int}{v:α}(h:ED xs i=some v):∃ j,seqIndex? i xs.length=some j/\xs[j]?=some v/\j < xs.length/\-(xs.length:Int)<=i/\i < xs.length:=by
 unfold ED at h
 cases e:Vl xs.length i with
 | none=>rw[e] at h; cases h
 | some j =>
  rw[e] at h
  obtain⟨h1,h2,h3,h4⟩:=J6 e
  exact⟨j,h1,h,h2,h3,h4⟩
theorem dM{α:Type}{xs:List α}{j:Nat}{v:α}(h:xs[j]?=some v):ED xs (j:Int)=some v:=by
 have hj:j < xs.length:=(ai.mp h).1
 have e:Vl xs.length (j:Int)=some j:=by
  unfold Vl
  rw[if_pos (by omega),if_pos (by omega)]; simp
 unfold ED; rw[e]; exact h
def BN(b:Expr):Prop:=∀ o i,subscripted b false o i=operate [o,i] (getItem o i)
def IxR(X:Cx)(r:R2):Prop :=
 ∀ (value slice:Expr) (pins:List (Addr × Obj)) (s:Shared) (σ:St) (H:Hp) (x y:V) (v u:Value) (Q:VK),Inv X pins σ H s->RelV x v->RelV y u->r x y H Q ->
  subscripted slice false v u=operate [v,u] (getItem v u)->wpAny (model X.prog X.w) X.A (subscriptTail value slice v u) (EP X pins σ Q) X.xe s
def MtR(X:Cx)(id:String)(r:V->List V->Hp->VK->Prop):Prop :=
 ∀ (pins:List (Addr × Obj)) (s:Shared) (σ:St) (H:Hp) (x:V) (xs:List V) (v:Value) (us:List Value) (Q:VK),Inv X pins σ H s->RelV x v->b6 xs us->r x xs H Q ->
  wpAny (model X.prog X.w) X.A (call (.builtin id) (v :: us)) (EP X pins σ Q) X.xe s
section
variable{X:Cx}{a b:Expr}{ta tb:TE}{pos:Pos}
theorem Pb{r:R2}(hr:IxR X r)(ha:PE X a ta)(hb:PE X b tb)(hs:BN b):PE X (.Subscript a b pos) (Sq r ta tb):=by
 intro pins s σ H Q I h
 exact Subscript_ (YE ha hb I h λv u s2 x y H2 I2 rx ry q=>hr a b pins s2 σ H2 x y v u Q I2 rx ry q (hs _ _))
def QJ(K:af):R2:=λx y H Q=>∃ p xs i v,x = .ref p/\y = .int i/\bL K H p xs/\ED xs i=some v/\Q v H
def SJ(K:af):R2:=λx y H Q=>∃ p xs i v,x = .ref p/\y = .int i/\cN K H p xs/\ED xs i=some v/\Q v H
theorem Pc:IxR X (QJ X.K):=by
 intro value slice pins s σ H x y v u Q I rx ry h hs
 obtain⟨p,xs,i,z,rfl,rfl,hq,he,q⟩:=h
 cases rx
 obtain⟨t,rfl⟩:=ry
 obtain⟨its,r,pl,hz⟩:=I.list hq
 obtain⟨j,h1,h2,h3,h4,h5⟩:=Pa he
 obtain⟨w,ew,rw'⟩:=r.get h2
 have hl:=r.length
 have hn:=FE
 have fin:EP X pins σ Q w s:=⟨z,H,I,rw',q⟩
 by_cases h0:0<=i
 ·have hj:i.toNat=j:=by
   rw[seqIndex_of h0 h5] at h1
   exact aL h1
  exact item_listR pl.isList h0 (by omega) (by rw[hj]; simpa using ew) fin hs
 ·have hj:(i + (its.toArray.size:Int)).toNat=j:=by
   rw[seqIndex_neg (by omega) h4] at h1
   rw[aW,<- hl]
   exact aL h1
  exact subscriptTail_builtinR (x:=w) pl.isList.typeIs slot_list_getitem.lookup
   (wpAny_getItem_list_neg (Q:=λr s'=>r=w/\EP X pins σ Q r s') pl.isList (by omega) (by rw[aW] <;> omega) (by omega) (by rw[hj]; simpa using ew) ⟨rfl,fin⟩) hs
theorem SK:IxR X (SJ X.K):=by
 intro value slice pins s σ H x y v u Q I rx ry h hs
 obtain⟨p,xs,i,z,rfl,rfl,hq,he,q⟩:=h
 cases rx
 obtain⟨t,rfl⟩:=ry
 obtain⟨its,r,pl,hz⟩:=I.tuple hq
 obtain⟨j,h1,h2,h3,h4,h5⟩:=Pa he
 obtain⟨w,ew,rw'⟩:=r.get h2
 have hl:=r.length
 have hn:=FE
 have fin:EP X pins σ Q w s:=⟨z,H,I,rw',q⟩
 exact subscriptTail_builtinR (x:=w) pl.typeIs slot_tuple_getitem.lookup
  (getItem_tuple (j:=j) (Q:=λr s'=>r=w/\EP X pins σ Q r s') pl (by omega) (by omega) (by rw[aW,<- hl]; exact h1) (by simpa using ew) ⟨rfl,fin⟩) hs
theorem NH(its:List Value)(n j:Nat)(u:Value):Obj.mapSeq (·.setIfInBounds j u) { cls:=.type "list",data:=.seq its.toArray n } = { cls:=.type "list",data:=.seq (its.set j u).toArray n }:=by
 simp[Obj.mapSeq]
theorem Inv.lst{pins:List (Addr × Obj)}{σ:St}{H:Hp}{s:Shared}{p:Addr}{xs:List V}(I:Inv X pins σ H s)(h:H p=some (.lst xs)) :
 ∃ (its:List Value) (n:Nat),b6 xs its/\s.heap.get? p=some { cls:=.type "list",data:=.seq its.toArray n }/\xs.length<=sizeLine:=by
 obtain⟨z,its,n,r,e⟩:=I.hok p _ h
 exact⟨its,n,r,e,z⟩
theorem Inv.YN{pins:List (Addr × Obj)}{σ:St}{H:Hp}{s:Shared}{p:Addr}{xs ys:List V}{its its':List Value}{n n':Nat}{f:Obj->Obj}(I:Inv X pins σ H s)(h:H p=some (.lst xs))
 (ho:s.heap.get? p=some { cls:=.type "list",data:=.seq its.toArray n }) (hf:f { cls:=.type "list",data:=.seq its.toArray n } = { cls:=.type "list",data:=.seq its'.toArray n' }) (r:b6 ys its') (hz:ys.length<=sizeLine) (t:Nat) :
 Inv X pins σ (upd H p (.lst ys)) { s with heap:=s.heap.update p f,toks:=t }:=by
 have e:(s.heap.update p f).get? p=some { cls:=.type "list",data:=.seq its'.toArray n' }:=by
  rw[Heap.get?_update_self f ho (by rw[hf] <;> rfl),hf]
 refine I.write (x:=p) (e:=p) (by rw[h]; trivial) (.inl rfl) (λb u hb q=>(Heap.get?_update_other _ _ (bT hb)).trans q) ⟨_,e⟩ ?_
 exact⟨hz,its',n',r,e⟩
def abh:V->V->V->Hp->(Hp->Prop)->Prop:=λo i v H Q=>∃ p xs k j,o = .ref p/\i = .int k/\H p=some (.lst xs)/\Vl xs.length k=some j/\Q (upd H p (.lst (xs.set j v)))
theorem set_list:aa0 X abh:=by
 intro pins s σ H o i v ov iv u Q I ro ri rv h
 obtain⟨p,xs,k,j,rfl,rfl,hp,hj,q⟩:=h
 cases ro
 obtain⟨t,rfl⟩:=ri
 obtain⟨its,n,r,ho,hz⟩:=I.lst hp
 obtain⟨h1,h2,h3,h4⟩:=J6 hj
 have hl:=r.length
 have hn:=FE
 have I':Inv X pins σ (upd H p (.lst (xs.set j v))) { s with heap:=s.heap.update p (Obj.mapSeq (·.setIfInBounds j u)) } :=
  I.YN hp ho (NH its n j u) (r.set rv j) (by rw[cW]; exact hz) s.toks
 by_cases h0:0<=k
 ·have hk:k.toNat=j:=by
   rw[seqIndex_of h0 h4] at h1
   exact aL h1
  exact PySem.W.ki_setAt ho h0 (by omega) (by rw[aW,<- hl]; exact h4) (by rw[hk]; exact⟨_,I',q⟩)
 ·have hk:(k + (its.toArray.size:Int)).toNat=j:=by
   rw[seqIndex_neg (by omega) h3] at h1
   rw[aW,<- hl]
   exact aL h1
  exact PySem.W.ki_setBack ho (by omega) (by rw[aW,<- hl]; exact h3) (by omega) (by rw[hk]; exact⟨_,I',q⟩)
theorem J7(lo hi:Option Int)(n:Nat):(sliceBounds lo hi none n).1=((HT.jH n 0 lo:Nat):Int)/\(sliceBounds lo hi none n).2.1=((HT.jH n n hi:Nat):Int)/\(sliceBounds lo hi none n).2.2=1:=by
 refine⟨?_,?_,rfl⟩
 ·cases lo with
  | none=>simp[sliceBounds,HT.jH]
  | some i =>
   simp only[sliceBounds,HT.jH,Option.getD_none,show (1:Int) > 0 by decide,if_true]
   by_cases h:i < 0
   ·simp only[h,if_true] <;> omega
   ·simp only[h,if_false] <;> omega
 ·cases hi with
  | none=>simp[sliceBounds,HT.jH]
  | some i =>
   simp only[sliceBounds,HT.jH,Option.getD_none,show (1:Int) > 0 by decide,if_true]
   by_cases h:i < 0
   ·simp only[h,if_true] <;> omega
   ·simp only[h,if_false] <;> omega
theorem HU(its:List Value)(lo hi:Option Int):slicePick its.toArray lo hi none=((its.drop (HT.jH its.length 0 lo)).take (HT.jH its.length its.length hi - HT.jH its.length 0 lo)).toArray:=by
 obtain⟨h1,h2,h3⟩:=J7 lo hi its.toArray.size
 unfold slicePick
 rw[h1,h2,h3]
 simp only[sliceRange_one,pick_run,aW] <;> rfl
def aeq(K:af):V->Option Int->Option Int->Hp->VK->Prop:=λx lo hi H Q=>∃ a xs,x = .ref a/\bL K H a xs/\∀ p,H p=none->Q (.ref p) (upd H p (.lst (x9 xs lo hi)))
theorem Pd:SlR X (aeq X.K):=by
 intro pins s σ H x v vl vu lo hi sl Q I rx hs pl pu h
 obtain⟨a,xs,rfl,hx,q⟩:=h
 cases rx
 obtain⟨its,r,ht,hz⟩:=I.list hx
 have hlen:=r.length
 refine⟨"list",_,slot_list_getitem.lookup,ht.isList.typeIs,?_⟩
 refine wpAny_getItem_list_slice ht.isList hs pl pu .none (by simp) ?_ (by rw[aW] <;> omega)
 rw[HU,<- hlen]
 refine⟨.ref s.heap.objs.size,_,I.laid (t':=s.toks) (o:=.lst (x9 xs lo hi)) (λb ob q=>Heap.get?_push_of_some _ q) (az _) ?_,rfl,q _ (I.hok.fresh (az _))⟩
 exact⟨aO (D3 xs lo hi) hz,_,0,(r.drop (HT.jH xs.length 0 lo)).take (HT.jH xs.length xs.length hi - HT.jH xs.length 0 lo),Heap.get?_push_size _ rfl⟩
noncomputable def ya:V->Bool
 | .fh=>true
 | .bl _=>true
 | .int _=>true
 | .str _=>true
 | _=>false
noncomputable def QK:V->V->Bool
 | .fh,.fh=>true
 | .bl a,.bl b=>a == b
 | .bl a,.int b=>(if a then 1 else 0) == b
 | .int a,.bl b=>a == (if b then 1 else 0)
 | .int a,.int b=>a == b
 | .str a,.str b=>a == b
 | _,_=>false
theorem YO{A:Around}{s:Shared}{y x:V}{u v:Value}(ry:RelV y u)(rx:RelV x v)(fy:ya y=true)(fx:ya x=true):SeqAt.EqAt A s u v (QK y x):=by
 cases y with
 | fh =>
  cases ry
  cases x with
  | fh=>cases rx; exact SeqAt.EqAt.same _
  | bl b=>cases rx; exact SeqAt.EqAt.none_bool b
  | int b=>obtain⟨t,rfl⟩:=rx; exact SeqAt.EqAt.none_int b t
  | str b=>obtain⟨t,rfl⟩:=rx; exact SeqAt.EqAt.none_str b t
  | _=>exact absurd (show false=true from fx) aD
 | bl a =>
  cases ry
  cases x with
  | fh=>cases rx; exact SeqAt.EqAt.bool_none a
  | bl b=>cases rx; exact SeqAt.EqAt.bool_bool a b
  | int b=>obtain⟨t,rfl⟩:=rx; exact SeqAt.EqAt.bool_int a b t
  | str b=>obtain⟨t,rfl⟩:=rx; exact SeqAt.EqAt.bool_str a b t
  | _=>exact absurd (show false=true from fx) aD
 | int a =>
  obtain⟨t',rfl⟩:=ry
  cases x with
  | fh=>cases rx; exact SeqAt.EqAt.int_none a t'
  | bl b=>cases rx; exact SeqAt.EqAt.int_bool a t' b
  | int b=>obtain⟨t,rfl⟩:=rx; exact SeqAt.EqAt.int_int a t' b t
  | str b=>obtain⟨t,rfl⟩:=rx; exact SeqAt.EqAt.int_str a t' b t
  | _=>exact absurd (show false=true from fx) aD
 | str a =>
  obtain⟨t',rfl⟩:=ry
  cases x with
  | fh=>cases rx; exact SeqAt.EqAt.str_none a t'
  | bl b=>cases rx; exact SeqAt.EqAt.str_bool a t' b
  | int b=>obtain⟨t,rfl⟩:=rx; exact SeqAt.EqAt.str_int a t' b t
  | str b=>obtain⟨t,rfl⟩:=rx; exact SeqAt.EqAt.str_str a t' b t
  | _=>exact absurd (show false=true from fx) aD
 | _=>exact absurd (show false=true from fy) aD
noncomputable def NI(x:V)(u:Value):Bool:=match u with
 | .none=>QK .fh x
 | .bool b=>QK (.bl b) x
 | .int i _=>QK (.int i) x
 | .str z _=>QK (.str z) x
 | _=>false
theorem SM{x y:V}{u:Value}(r:RelV y u)(f:ya y=true):NI x u=QK y x:=by
 cases y with
 | fh=>cases r; rfl
 | bl b=>cases r; rfl
 | int i=>obtain⟨t,rfl⟩:=r; rfl
 | str z=>obtain⟨t,rfl⟩:=r; rfl
 | _=>exact absurd (show false=true from f) aD
theorem BO{x:V}:∀ {xs:List V} {us:List Value},b6 xs us->xs.all ya=true->us.any (NI x)=xs.any λy=>QK y x
 | _,_,.nil,_=>rfl
 | y :: xs,u :: us,.cons r t,f=>by
  rw[List.all_cons,cu] at f
  rw[List.any_cons,List.any_cons,SM r f.1,BO t f.2]
theorem yb{A:Around}{s:Shared}{x:V}{v:Value}(rx:RelV x v)(fx:ya x=true):∀ {xs:List V} {us:List Value},b6 xs us->xs.all ya=true->∀ u∈us,SeqAt.EqAt A s u v (NI x u)
 | _,_,.nil,_=>λu hu=>by cases hu
 | y :: xs,u :: us,.cons r t,f=>λu' hu=>by
  rw[List.all_cons,cu] at f
  rcases br.mp hu with rfl | hu
  ·rw[SM r f.1]; exact YO r rx f.1 fx
  ·exact yb rx fx t f.2 u' hu
noncomputable def D4(x:V)(xs:List V):Bool:=xs.any λy=>QK y x
def rIn(K:af)(neg:Bool):R2:=λx y H Q=>∃ p xs,y = .ref p/\(bL K H p xs∨cN K H p xs)/\ya x=true/\xs.all ya=true/\Q (.bl (if neg then !D4 x xs else D4 x xs)) H
theorem k6:xY X (compareOp .In) (rIn X.K false):=by
 intro pins s σ H x y v u Q I rx ry h
 obtain⟨p,xs,rfl,hq,fx,fs,q⟩:=h
 cases ry
 rcases hq with hq | hq
 ·obtain⟨its,r,pl,hz⟩:=I.list hq
  refine SeqAt.in_listAt (NI x) pl.isList (λw hw=>yb rx fx r fs w (by simpa using hw)) ⟨.bl _,H,I,rfl,?_⟩
  rw[show its.toArray.any (NI x)=its.any (NI x) by simp,BO r fs]
  exact q
 ·obtain⟨its,r,pl,hz⟩:=I.tuple hq
  refine SeqAt.in_tupleAt (NI x) pl (λw hw=>yb rx fx r fs w (by simpa using hw)) ⟨.bl _,H,I,rfl,?_⟩
  rw[show its.toArray.any (NI x)=its.any (NI x) by simp,BO r fs]
  exact q
theorem gH:xY X (compareOp .NotIn) (rIn X.K true):=by
 intro pins s σ H x y v u Q I rx ry h
 obtain⟨p,xs,rfl,hq,fx,fs,q⟩:=h
 cases ry
 rcases hq with hq | hq
 ·obtain⟨its,r,pl,hz⟩:=I.list hq
  refine SeqAt.notIn_listAt (NI x) pl.isList (λw hw=>yb rx fx r fs w (by simpa using hw)) ⟨.bl _,H,I,rfl,?_⟩
  rw[show its.toArray.any (NI x)=its.any (NI x) by simp,BO r fs]
  exact q
 ·obtain⟨its,r,pl,hz⟩:=I.tuple hq
  refine SeqAt.notIn_tupleAt (NI x) pl (λw hw=>yb rx fx r fs w (by simpa using hw)) ⟨.bl _,H,I,rfl,?_⟩
  rw[show its.toArray.any (NI x)=its.any (NI x) by simp,BO r fs]
  exact q
theorem J8:mX X (.builtin "len") (λxs H Q=>∃ p ys,xs = [.ref p]/\(bL X.K H p ys∨cN X.K H p ys)/\Q (.int ys.length) H):=by
 intro pins s σ H xs us Q I r h
 obtain⟨p,ys,rfl,hq,q⟩:=h
 obtain⟨u,rfl,rx⟩:=vals1 r
 cases rx
 have hn:=FE
 rcases hq with hq | hq
 ·obtain⟨its,r',pl,hz⟩:=I.list hq
  have hlen:=r'.length
  exact Calls.call_len_list pl.isList (by simp only[aW] <;> omega) ⟨.int ys.length,H,I.tok _,⟨s.toks + 1,by rw[aW,hlen]⟩,q⟩
 ·obtain⟨its,r',pl,hz⟩:=I.tuple hq
  have hlen:=r'.length
  exact len_tuple pl (by simp only[aW] <;> omega) ⟨.int ys.length,H,I.tok _,⟨s.toks + 1,by rw[aW,hlen]⟩,q⟩
theorem gI:mX X (.type "list") (λxs H Q=>∃ p ys,xs = [.ref p]/\(bL X.K H p ys∨cN X.K H p ys)/\∀ l,H l=none->Q (.ref l) (upd H l (.lst ys))):=by
 intro pins s σ H xs us Q I r h
 obtain⟨p,ys,rfl,hq,q⟩:=h
 obtain⟨u,rfl,rx⟩:=vals1 r
 cases rx
 have fin:∀ (its:List Value),b6 ys its->ys.length<=sizeLine->∀ (h':Heap) (c':Nat),(∀ b o',s.heap.get? b=some o'->h'.get? b=some o') ->
  h'.get? s.heap.objs.size=some { cls:=.type "list",dict:=none,data:=.seq its.toArray c',slots:=#[] }->EP X pins σ Q (.ref s.heap.objs.size) { s with heap:=h' }:=λits r' hz h' c' kp e =>
  ⟨.ref s.heap.objs.size,_,I.laid (t':=s.toks) kp (az _) (show gD X.prog X.w _ h' _ (.lst ys) from ⟨hz,its,c',r',e⟩),rfl,q _ (I.hok.fresh (az _))⟩
 rcases hq with hq | hq
 ·obtain⟨its,r',pl,hz⟩:=I.list hq
  have hlen:=r'.length
  obtain⟨o,ho,hc,n,hd⟩:=pl.isList
  exact call_list_seq p (.inl rfl) ho hc hd (λh' c' kp e=>fin its r' hz h' c' kp e) (by simp only[aW] <;> omega)
 ·obtain⟨its,r',pl,hz⟩:=I.tuple hq
  have hlen:=r'.length
  obtain⟨o,ho,hc,n,hd⟩:=pl
  exact call_list_seq p (.inr rfl) ho hc hd (λh' c' kp e=>fin its r' hz h' c' kp e) (by simp only[aW] <;> omega)
def tyV(K:af)(T:String)(x:V)(H:Hp):Prop:=match x with
 | .str _=>T = "str"
 | .int _=>T = "int"
 | .ref p=>(T = "list" /\ ∃ xs,bL K H p xs)∨(T = "tuple" /\ ∃ o,K.lookup p=some o/\o.cls = .type "tuple" /\ o.dict=none) ∨
  (T = "dict" /\ ((∃ kvs,H p=some (.dK kvs))∨∃ kvs,H p=some (.dT kvs)))∨(T = "set" /\ ∃ S n,H p=some (.set S n))
 | _=>False
theorem YQ{pins:List (Addr × Obj)}{σ:St}{H:Hp}{s:Shared}{T:String}{x:V}{v:Value}(I:Inv X pins σ H s)(r:RelV x v)(ty:tyV X.K T x H) :
 s.TypeIs v T/\∀ a,v = .ref a->∃ ob,s.heap.get? a=some ob/\ob.dict=none:=by
 cases x with
 | str z =>
  obtain⟨t,rfl⟩:=r
  cases (show T = "str" from ty)
  exact⟨typeIs_str s z t,λ_ e=>nomatch e⟩
 | int i =>
  obtain⟨t,rfl⟩:=r
  cases (show T = "int" from ty)
  exact⟨typeIs_int s i t,λ_ e=>nomatch e⟩
 | ref p =>
  cases r
  rcases ty with ⟨rfl,xs,hq⟩ | ⟨rfl,o,hk,hc,hd⟩ | ⟨rfl,hk⟩ | ⟨rfl,S,n,hk⟩
  ·obtain⟨its,_,pl,_⟩:=I.list hq
   refine⟨pl.isList.typeIs,λa e=>?_⟩
   cases e
   obtain⟨o,n,e,c,hd,_⟩:=pl
   exact⟨o,e,hd⟩
  ·refine⟨⟨o,I.AM p o hk,hc⟩,λa e=>?_⟩
   cases e
   exact⟨o,I.AM _ o hk,hd⟩
  ·have z:∃ o,s.heap.get? p=some o/\o.ExactDict:=by
    rcases hk with ⟨kvs,hk⟩ | ⟨kvs,hk⟩
    ·obtain⟨_,_,_,_,o,_,_,e,ex,_⟩:=I.hok p _ hk
     exact⟨o,e,ex⟩
    ·obtain⟨_,_,_,_,o,_,_,e,ex,_⟩:=I.hok p _ hk
     exact⟨o,e,ex⟩
   obtain⟨o,e,ex⟩:=z
   refine⟨⟨o,e,ex.1⟩,λa e2=>?_⟩
   cases e2
   exact⟨o,e,ex.2.1⟩
  ·obtain⟨o,_,_,_,e,ex,_⟩:=I.hok p _ hk
   refine⟨⟨o,e,ex.1⟩,λa e2=>?_⟩
   cases e2
   exact⟨o,e,ex.2.1⟩
 | _=>exact je ty
def tBM(K:af)(T:String)(r:V->List V->Hp->VK->Prop)(to:TE)(t:TA):TE:=λσ H Q=>to σ H λx H1=>tyV K T x H1/\t σ H1 λxs H2=>r x xs H2 Q
variable{o e:Expr}{es:List Expr}{to:TE}{t:TA}{name:Str}{apos cpos:Pos}{T id:String}{r:V->List V->Hp->VK->Prop}
theorem p9(pa:PlainAttrs T)(slot:Slot T name id)(hty:typeOf (.builtin id)=pure (.type "method_descriptor"))(hm:MtR X id r)(ho:PE X o to)(ha:PA X (e :: es) t)
 (hbase:attributeBase o name X.env (eval o X.env)=eval o X.env:=by rfl)
 (hfew:((backTo cpos (starEach (e :: es) X.env)).all (λx=>!x.1) && (backToKw cpos (keywordEach [] X.env)).all (λx=>x.1.isSome)
  && decide ((e :: es).length + ([]:List Keyword).length + (if ([]:List Keyword).isEmpty then 0 else 1) < 30))=true:=by rfl)
 (hline:(apos.endLine == cpos.line)=true:=by rfl) (hs:starEach (e :: es) X.env=(false,eval e X.env) :: starEach es X.env:=by rfl) (hplain:(backTo cpos (starEach es X.env)).any (·.1)=false:=by rfl) :
 PE X (.Call (.Attribute o name apos) (e :: es) [] cpos) (tBM X.K T r to t):=by
 intro pins s σ H Q I h
 refine wpAny_Call_method_late hbase hfew hline rfl (fV (ho pins s σ H _ I h) λv s1 ⟨x,H1,I1,r1,ty,q1⟩=>?_)
 obtain⟨h1,h2⟩:=YQ I1 r1 ty
 refine⟨T,id,pa,slot,hty,h1,h2,?_⟩
 have hA:=ha cpos pins s1 σ H1 _ I1 q1
 rw[hs] at hA ⊢
 refine Calls.callWith_builtin (by show (false || (backTo cpos (starEach es X.env)).any (·.1))=false; rw[hplain] <;> rfl) (Calls.evalArgs_plain ?_)
 exact fV hA λus s2 ⟨vs,H2,I2,r2,q2⟩=>hm pins s2 σ H2 x vs v us Q I2 r1 r2 q2
end
def MtM(X:Cx)(id:String)(r:V->List V->Hp->VK->Prop):Prop :=
 ∀ (pins:List (Addr × Obj)) (s:Shared) (σ:St) (H:Hp) (x:V) (xs:List V) (v:Value) (us:List Value) (Q:VK),Inv X pins σ H s->RelV x v->b6 xs us->r x xs H Q ->
  wpAny (model X.prog X.w) X.A (call (.builtin id) (v :: us)) (EP X pins σ Q) X.xe s
theorem b6.one:∀ {x:V} {us:List Value},b6 [x] us->∃ u,us = [u]/\RelV x u
 | _,_,.cons r .nil=>⟨_,rfl,r⟩
theorem b6.two:∀ {x y:V} {us:List Value},b6 [x,y] us->∃ u v,us = [u,v]/\RelV x u/\RelV y v
 | _,_,_,.cons r (.cons q .nil)=>⟨_,_,rfl,r,q⟩
theorem b6.eraseIdx:∀ {xs:List V} {us:List Value} (i:Nat),b6 xs us->b6 (xs.eraseIdx i) (us.eraseIdx i)
 | _,_,_,.nil=>.nil
 | _,_,0,.cons _ t=>t
 | _,_,i + 1,.cons r t=>.cons r (b6.eraseIdx i t)
theorem IY{α:Type}:∀ (l:List α) (i:Nat),(l.eraseIdx i).length<=l.length
 | [],_=>az _
 | _ :: _,0=>eS _
 | _ :: r,i + 1=>Nat.succ_le_succ (IY r i)
section
variable{X:Cx}{pins:List (Addr × Obj)}{σ:St}{H:Hp}{s:Shared}{l b:Addr}{xs ys zs:List V}
theorem Inv.abi{its its':List Value}{n:Nat}{f:Array Value->Array Value}{t':Nat}(I:Inv X pins σ H s)(hH:H l=some (.lst xs))
 (e:s.heap.get? l=some { cls:=.type "list",data:=.seq its.toArray n }) (hf:f its.toArray=its'.toArray) (hv:b6 ys its') (hz:ys.length<=sizeLine) :
 Inv X pins σ (upd H l (.lst ys)) { s with heap:=s.heap.update l (Obj.mapSeq f),toks:=t' }:=by
 have q:=PySem.IsL.update e f
 rw[hf] at q
 refine I.write (x:=l) (e:=l) (by rw[hH]; exact trivial) (.inl rfl) (λb' u hb hu=>(Heap.get?_update_other s.heap (Obj.mapSeq f) (bT hb)).trans hu) ⟨_,q⟩ ?_
 exact⟨hz,its',_,hv,q⟩
theorem Inv.abj(I:Inv X pins σ H s)(hH:H l=some (.lst xs)):xs.length<=sizeLine/\∃ (its:List Value) (n:Nat),b6 xs its/\xs.length=its.length/\s.heap.get? l=some { cls:=.type "list",data:=.seq its.toArray n }:=by
 obtain⟨z,its,n,r,e⟩:=I.hok l _ hH
 exact⟨z,its,n,r,r.length,e⟩
end
section
variable{X:Cx}
def Vm:V->List V->Hp->VK->Prop:=λx vs H Q=>∃ l xs y,x = .ref l/\vs = [y]/\H l=some (.lst xs)/\xs.length < sizeLine/\Q .fh (upd H l (.lst (xs++[y])))
theorem eB:MtM X "list.append" Vm:=by
 intro pins s σ H x vs v us Q I rx rv h
 obtain⟨l,xs,y,rfl,rfl,hH,hz,q⟩:=h
 cases rx
 obtain⟨u,rfl,ru⟩:=rv.one
 obtain⟨z,its,n,r,hl,e⟩:=I.abj hH
 refine call_meets F.slot_list_append ⟨_,e,rfl⟩ F.entry_list_append (F.args_list_append_2 _ _) (PySem.list_append l its.toArray n u (by rw[aW]; omega)) ⟨e,?_⟩
 refine⟨.fh,_,I.abi (its':=its++[u]) hH e (by simp) (r.append (.cons ru .nil)) ?_,rfl,q⟩
 rw[aB,List.length_singleton]
 omega
def YR:V->List V->Hp->VK->Prop:=λx vs H Q=>∃ l xs i k y,x = .ref l/\vs = [.int i]/\H l=some (.lst xs)/\-(2 ^ 63)<=i/\i < 2 ^ 63/\seqIndex? i xs.length=some k/\xs[k]?=some y/\Q y (upd H l (.lst (xs.eraseIdx k)))
theorem SN:MtM X "list.pop" YR:=by
 intro pins s σ H x vs v us Q I rx rv h
 obtain⟨l,xs,i,k,y,rfl,rfl,hH,h1,h2,hk,hy,q⟩:=h
 cases rx
 obtain⟨u,rfl,ru⟩:=rv.one
 obtain⟨t,rfl⟩:=ru
 obtain⟨z,its,n,r,hl,e⟩:=I.abj hH
 obtain⟨w,hw,rw'⟩:=r.get hy
 refine call_meets F.slot_list_pop ⟨_,e,rfl⟩ F.entry_list_pop (F.args_list_pop_2 _ _)
  (MeetsSeq.list_pop_at l its.toArray n i t k w (fitsIndex_both h1 h2) (by rw[aW,<- hl]; exact hk) (by rw[<- uR]; exact hw) (by rw[aW]; omega)) ⟨e,?_⟩
 refine⟨y,_,I.abi (its':=its.eraseIdx k) hH e ?_ (r.eraseIdx k) ?_,rw',q⟩
 ·show its.toArray.eraseIdxIfInBounds k=(its.eraseIdx k).toArray
  rw[List.eraseIdxIfInBounds_toArray]
 ·have:=IY xs k
  omega
end
section
variable{κ:Type}[DecidableEq κ]
noncomputable def tS(kvs:List (κ × V))(k:κ):Option V:=(kvs.find? λkv=>decide (kv.1=k)).map (·.2)
noncomputable def putK(kvs:List (κ × V))(k:κ)(v:V):List (κ × V) :=
 if (kvs.any λkv=>decide (kv.1=k))=true then kvs.map (λkv=>if kv.1=k then (kv.1,v) else kv) else kvs++[(k,v)]
theorem ou{p:κ × V}{r:List (κ × V)}{k:κ}(e:p.1=k):tS (p :: r) k=some p.2:=by simp[tS,qK,e]
theorem ow{p:κ × V}{r:List (κ × V)}{k:κ}(e:¬ p.1=k):tS (p :: r) k=tS r k:=by simp[tS,qK,e]
theorem FI(k:κ):∀ kvs:List (κ × V),(kvs.any λkv=>decide (kv.1=k))=(tS kvs k).isSome
 | []=>rfl
 | p :: r=>by
  rw[List.any_cons]
  by_cases e:p.1=k
  ·simp only[ou e,decide_eq_true e,Bool.true_or,Option.isSome_some]
  ·rw[ow e,decide_eq_false e,Bool.false_or]; exact FI k r
theorem yc(kvs:List (κ × V))(k:κ)(v:V):(putK kvs k v).length<=kvs.length + 1:=by
 unfold putK
 split
 ·rw[ah]; omega
 ·rw[aB,aS,List.length_nil]; omega
theorem LB{kvs:List (κ × V)}{k:κ}(v:V)(h:tS kvs k=none):putK kvs k v=kvs++[(k,v)]:=by
 unfold putK
 rw[FI,h]
 exact if_neg (by decide)
theorem xQ.uV{o:Option V}{u:Option Value}(r:xQ o u):o.isSome=u.isSome:=by
 cases o with
 | none=>cases u with
  | none=>rfl
  | some _=>exact (show False from r).elim
 | some _=>cases u with
  | none=>exact (show False from r).elim
  | some _=>rfl
theorem xQ.getD{o:Option V}{u:Option Value}{d:V}{d':Value}(r:xQ o u)(rd:RelV d d'):RelV (o.getD d) (u.getD d'):=by
 cases o with
 | none=>cases u with
  | none=>exact rd
  | some _=>exact (show False from r).elim
 | some _=>cases u with
  | none=>exact (show False from r).elim
  | some _=>exact r
theorem KV.val{kvs:List (κ × V)}{vs:List (κ × Value)}(r:KV kvs vs)(k:κ):xQ (tS kvs k) (valueAt vs k):=by
 unfold KV at r
 induction r with
 | nil=>exact ja
 | @cons p q ps qs h t ih =>
  obtain⟨h1,h2⟩:=h
  by_cases e:p.1=k
  ·have e':q.1=k:=h1.symm.trans e
   have b:valueAt (q :: qs) k=some q.2:=by simp[valueAt,qK,e']
   rw[ou e,b]; exact h2
  ·have e':¬ q.1=k:=λz=>e (h1.trans z)
   have b:valueAt (q :: qs) k=valueAt qs k:=by simp[valueAt,qK,e']
   rw[ow e,b]; exact ih
theorem KV.any{kvs:List (κ × V)}{vs:List (κ × Value)}(r:KV kvs vs)(k:κ):(kvs.any λkv=>decide (kv.1=k))=vs.any λkv=>decide (kv.1=k):=by
 unfold KV at r
 induction r with
 | nil=>rfl
 | cons h t ih=>rw[List.any_cons,List.any_cons,ih,h.1]
theorem KV.repl{kvs:List (κ × V)}{vs:List (κ × Value)}(r:KV kvs vs)(k:κ){y:V}{u:Value}(ry:RelV y u) :
 KV (kvs.map λkv=>if kv.1=k then (kv.1,y) else kv) (vs.map λkv=>if kv.1=k then (kv.1,u) else kv):=by
 unfold KV at r ⊢
 induction r with
 | nil=>exact .nil
 | @cons p q ps qs h t ih =>
  rw[bg,bg]
  refine .cons ?_ ih
  obtain⟨h1,h2⟩:=h
  by_cases e:p.1=k
  ·rw[if_pos e,if_pos (h1.symm.trans e)]; exact⟨h1,ry⟩
  ·rw[if_neg e,if_neg (λz=>e (h1.trans z))]; exact⟨h1,h2⟩
theorem KV.put{kvs:List (κ × V)}{vs:List (κ × Value)}(r:KV kvs vs)(k:κ){y:V}{u:Value}(ry:RelV y u):KV (putK kvs k y) (stored vs k u):=by
 unfold putK stored
 rw[r.any k]
 by_cases e:(vs.any λkv=>decide (kv.1=k))=true
 ·rw[if_pos e,if_pos e]; exact r.repl k ry
 ·rw[if_neg e,if_neg e]; exact Paired.snoc r ⟨rfl,ry⟩
theorem KV.keys{kvs:List (κ × V)}{vs:List (κ × Value)}(r:KV kvs vs):kvs.map (·.1)=vs.map (·.1):=by
 unfold KV at r
 induction r with
 | nil=>rfl
 | cons h t ih=>rw[bg,bg,ih,h.1]
theorem KV.length{kvs:List (κ × V)}{vs:List (κ × Value)}(r:KV kvs vs):kvs.length=vs.length:=Paired.length r
end
theorem FJ{P:Program}{w:World}{k:Key}{u:Value}(r:RelV (kV k) u):(dJ P w).is k u=true:=by
 cases k with
 | inl i=>obtain⟨t,e⟩:=(show ∃ t,u=Value.int i t from r); subst e; exact Lm P w i t
 | inr x=>obtain⟨t,e⟩:=(show ∃ t,u=Value.str x t from r); subst e; exact Ln P w x t
theorem IZ{P:Program}{w:World}:∀ {ks:List Key} {us:List Value},b6 (ks.map kV) us->ItemsAre (dJ P w) ks us
 | [],_,r=>by rw[uP] at r; cases r; exact .nil
 | k :: ks,_,r=>by
  rw[bg] at r
  cases r with
  | cons h t=>exact .cons (FJ h) (IZ t)
abbrev KT(H:Hp):List (List Key × V)->List (List Key × Addr × Value)->Prop:=Paired λp q=>p.1=q.1/\H q.2.1=some (.tup (p.1.map kV))/\RelV p.2 q.2.2
theorem KT.val{H:Hp}{kvs:List (List Key × V)}{xs:List (List Key × Addr × Value)}(r:KT H kvs xs)(k:List Key):xQ (tS kvs k) ((atKey xs k).map (·.2)):=by
 induction r with
 | nil=>exact ja
 | @cons p q ps qs h t ih =>
  obtain⟨h1,_,h2⟩:=h
  by_cases e:p.1=k
  ·have e':q.1=k:=h1.symm.trans e
   have b:atKey (q :: qs) k=some q.2:=by simp[atKey,qK,e']
   rw[ou e,b]; exact h2
  ·have e':¬ q.1=k:=λz=>e (h1.trans z)
   have b:atKey (q :: qs) k=atKey qs k:=by simp[atKey,qK,e']
   rw[ow e,b]; exact ih
theorem KT.repl{H:Hp}{kvs:List (List Key × V)}{xs:List (List Key × Addr × Value)}(r:KT H kvs xs)(k:List Key){y:V}{u:Value}(ry:RelV y u) :
 KT H (kvs.map λkv=>if kv.1=k then (kv.1,y) else kv) (xs.map (putAt k u)):=by
 induction r with
 | nil=>exact .nil
 | @cons p q ps qs h t ih =>
  rw[bg,bg]
  refine .cons ?_ ih
  obtain⟨h1,h2,h3⟩:=h
  unfold putAt
  by_cases e:p.1=k
  ·rw[if_pos e,if_pos (h1.symm.trans e)]; exact⟨h1,h2,ry⟩
  ·rw[if_neg e,if_neg (λz=>e (h1.trans z))]; exact⟨h1,h2,h3⟩
theorem KT.put{H:Hp}{kvs:List (List Key × V)}{xs:List (List Key × Addr × Value)}(r:KT H kvs xs)(k:List Key){b:Addr}{y:V}{u:Value}(hb:H b=some (.tup (k.map kV)))(ry:RelV y u) :
 KT H (putK kvs k y) (storedH xs k b u):=by
 have e:(kvs.any λkv=>decide (kv.1=k))=(atKey xs k).isSome:=by
  rw[FI,(r.val k).uV,Option.isSome_map]
 unfold putK storedH
 rw[e]
 by_cases q:(atKey xs k).isSome=true
 ·rw[if_pos q,if_pos q]; exact r.repl k ry
 ·rw[if_neg q,if_neg q]; exact Paired.snoc r ⟨rfl,hb,ry⟩
theorem KT.keeps{H H':Hp}{kvs:List (List Key × V)}{xs:List (List Key × Addr × Value)}(r:KT H kvs xs)(ht:∀ b ys,H b=some (.tup ys)->H' b=some (.tup ys)):KT H' kvs xs :=
 Paired.Yr r λ_ _ z=>⟨z.1,ht _ _ z.2.1,z.2.2⟩
section
variable{P:Program}{w:World}{H:Hp}{h:Heap}{a:Addr}
theorem Xe{u:HO}(ok:xZ P w H h)(e:Rd H a u):gD P w H h a u:=e.ok ok
theorem FL{kvs:List (Key × V)}(ok:xZ P w H h)(e:Rd H a (.dK kvs)):kvs.length<=sizeLine/\(a == sysModules)=false/\∃ vs,KV kvs vs/\h.DictOf (dJ P w) a vs :=
 show gD P w H h a (.dK kvs) from Xe ok e
theorem SO{kvs:List (Key × V)}(ok:xZ P w H h)(e:H a=some (.dK kvs)):kvs.length<=sizeLine/\(a == sysModules)=false/\∃ vs,KV kvs vs/\h.DictOf (dJ P w) a vs:=FL ok (.inl e)
theorem C0{ks:List Key}(ok:xZ P w H h)(e:H a=some (.tup (ks.map kV))):(tupleKind (dJ P w)).is h ks a:=by
 obtain⟨_,its,r,o,h1,h2,n,h3⟩:=(show gD P w H h a (.tup (ks.map kV)) from ok a _ e)
 exact⟨o,its.toArray,n,h1,h2,h3,by simpa using IZ r⟩
theorem FN{kvs:List (List Key × V)}(ok:xZ P w H h)(e:Rd H a (.dT kvs)):kvs.length<=sizeLine/\(a == sysModules)=false /\
 ∃ xs,KT H kvs xs/\h.DictOfH (tupleKind (dJ P w)) a xs:=by
 obtain⟨z,y,xs,r,o,es,ep,h1,h2,h3,h4,h5⟩:=(show gD P w H h a (.dT kvs) from Xe ok e)
 refine⟨z,y,xs,r,o,es,ep,h1,h2,h3,h4,λx hx=>?_,h5⟩
 have all:∀ {l:List (List Key × V)} {m:List (List Key × Addr × Value)},KT H l m->∀ x∈m,(tupleKind (dJ P w)).is h x.1 x.2.1:=by
  intro l m q
  induction q with
  | nil=>intro x hx; exact nomatch hx
  | @cons p q ps qs hq t ih =>
   intro x hx
   rcases br.mp hx with e | hx
   ·subst e
    exact C0 ok (by rw[<- hq.1]; exact hq.2.1)
   ·exact ih x hx
 exact all r x hx
theorem abk{kvs:List (List Key × V)}(ok:xZ P w H h)(e:H a=some (.dT kvs)):kvs.length<=sizeLine/\(a == sysModules)=false /\
 ∃ xs,KT H kvs xs/\h.DictOfH (tupleKind (dJ P w)) a xs:=FN ok (.inl e)
end
def tT(H:Hp)(a:Addr)(y:V)(r:Option V):Prop :=
 (∃ kvs k,Rd H a (.dK kvs)/\y=kV k/\r=tS kvs k)∨∃ kvs k b,Rd H a (.dT kvs)/\y = .ref b/\H b=some (.tup (k.map kV))/\r=tS kvs k
def HV(H:Hp)(a:Addr)(y v:V)(H':Hp):Prop :=
 (∃ kvs k,H a=some (.dK kvs)/\y=kV k/\kvs.length < sizeLine/\H'=upd H a (.dK (putK kvs k v))) ∨
 ∃ kvs k b,H a=some (.dT kvs)/\y = .ref b/\H b=some (.tup (k.map kV))/\kvs.length < sizeLine/\H'=upd H a (.dT (putK kvs k v))
theorem tT.k{H:Hp}{a:Addr}{kvs:List (Key × V)}{k:Key}(e:H a=some (.dK kvs)):tT H a (kV k) (tS kvs k):=.inl ⟨kvs,k,.inl e,rfl,rfl⟩
theorem tT.t{H:Hp}{a b:Addr}{kvs:List (List Key × V)}{k:List Key}(e:H a=some (.dT kvs))(eb:H b=some (.tup (k.map kV))):tT H a (.ref b) (tS kvs k):=.inr ⟨kvs,k,b,.inl e,rfl,eb,rfl⟩
theorem HV.k{H:Hp}{a:Addr}{kvs:List (Key × V)}{k:Key}{v:V}(e:H a=some (.dK kvs))(hl:kvs.length < sizeLine):HV H a (kV k) v (upd H a (.dK (putK kvs k v))):=.inl ⟨kvs,k,e,rfl,hl,rfl⟩
theorem HV.t{H:Hp}{a b:Addr}{kvs:List (List Key × V)}{k:List Key}{v:V}(e:H a=some (.dT kvs))(eb:H b=some (.tup (k.map kV)))(hl:kvs.length < sizeLine) :
 HV H a (.ref b) v (upd H a (.dT (putK kvs k v))):=.inr ⟨kvs,k,b,e,rfl,eb,hl,rfl⟩
section
variable{X:Cx}{pins:List (Addr × Obj)}{σ:St}{H:Hp}{s:Shared}{a:Addr}{y v:V}{u r:Value}{o:Option V}{A:Around}{E:Value->Shared->Prop}
theorem Inv.big(I:Inv X pins σ H s):sysModules < s.heap.objs.size:=by
 have h:mainGlobals < s.heap.objs.size:=(I.mod.glob.keeps I.bk).lt
 exact Nat.lt_trans (by decide) h
theorem QL{Q:Value->Shared->Prop}(hu:A.units + 1 < cLine)(I:Inv X pins σ H s)(g:tT H a y (some v))(ry:RelV y u)(h:∀ w' s',Inv X pins σ H s'->RelV v w'->Q w' s') :
 wpAny (model X.prog X.w) A (getItem (.ref a) u) Q E s:=by
 rcases g with ⟨kvs,k,e,ey,l⟩ | ⟨kvs,k,b,e,ey,eb,l⟩
 ·subst ey
  obtain⟨z,hd,vs,rel,dd⟩:=FL I.hok e
  obtain⟨w',hw,rw'⟩:=xQ.some_of (v:=v) (o:=valueAt vs k) (by rw[l]; exact rel.val k)
  exact wpAny_getItem_of (FJ ry) dd.mapOf hw (h w' _ (I.tok _) rw')
 ·subst ey
  cases (show u=Value.ref b from ry)
  obtain⟨z,hd,xs,rel,dd⟩:=FN I.hok e
  obtain⟨w',hw,rw'⟩:=xQ.some_of (v:=v) (o:=(atKey xs k).map (·.2)) (by rw[l]; exact rel.val k)
  obtain⟨p,hp,hp2⟩:=Option.map_eq_some_iff.mp hw
  refine wpAny_getItem_heap (tupleKind_room_in1 hu) (C0 I.hok eb) dd hp ?_
  rw[hp2]
  exact h w' _ (I.tok _) rw'
theorem aes{Q:Value->Shared->Prop}(hu:A.units + 1 < cLine)(I:Inv X pins σ H s)(g:tT H a y o)(ry:RelV y u)(h:∀ s',Inv X pins σ H s'->Q (.bool o.isSome) s') :
 wpAny (model X.prog X.w) A (compareOp .In u (.ref a)) Q E s:=by
 rcases g with ⟨kvs,k,e,ey,l⟩ | ⟨kvs,k,b,e,ey,eb,l⟩
 ·subst ey
  obtain⟨z,hd,vs,rel,dd⟩:=FL I.hok e
  refine wpAny_in_of (FJ ry) hd dd.mapOf ?_
  rw[<- (rel.val k).uV,<- l]
  exact h _ (I.tok _)
 ·subst ey
  cases (show u=Value.ref b from ry)
  obtain⟨z,hd,xs,rel,dd⟩:=FN I.hok e
  refine wpAny_in_heap (tupleKind_room_in1 hu) (C0 I.hok eb) hd dd ?_
  have q:=(rel.val k).uV
  rw[Option.isSome_map] at q
  rw[<- q,<- l]
  exact h _ (I.tok _)
theorem Vn{Q:Value->Shared->Prop}(hu:A.units + 1 < cLine)(I:Inv X pins σ H s)(g:tT H a y o)(ry:RelV y u)(h:∀ s',Inv X pins σ H s'->Q (.bool (!o.isSome)) s') :
 wpAny (model X.prog X.w) A (compareOp .NotIn u (.ref a)) Q E s:=by
 rcases g with ⟨kvs,k,e,ey,l⟩ | ⟨kvs,k,b,e,ey,eb,l⟩
 ·subst ey
  obtain⟨z,hd,vs,rel,dd⟩:=FL I.hok e
  refine wpAny_notIn_of (FJ ry) hd dd.mapOf ?_
  rw[<- (rel.val k).uV,<- l]
  exact h _ (I.tok _)
 ·subst ey
  cases (show u=Value.ref b from ry)
  obtain⟨z,hd,xs,rel,dd⟩:=FN I.hok e
  refine wpAny_notIn_heap (tupleKind_room_in1 hu) (C0 I.hok eb) hd dd ?_
  have q:=(rel.val k).uV
  rw[Option.isSome_map] at q
  rw[<- q,<- l]
  exact h _ (I.tok _)
theorem J9{h':Heap}{t':Nat}{ob:HO}(I:Inv X pins σ H s)(mu:Mut (H a))(hs:Heap.SameBut a s.heap h')(he:∃ q,h'.get? a=some q)(new:gD X.prog X.w (upd H a ob) h' a ob) :
 Inv X pins σ (upd H a ob) { s with heap:=h',toks:=t' } :=
 I.write (x:=a) (e:=a) mu (.inl rfl) (λb q hb z=>(hs.2 b hb).trans z) he new
theorem SQ{P:Program}{w:World}{H':Hp}{h':Heap}{kvs:List (Key × V)}{vs:List (Key × Value)}(z:kvs.length<=sizeLine)(hd:(a == sysModules)=false)(rel:KV kvs vs)(dd:h'.DictOf (dJ P w) a vs) :
 gD P w H' h' a (.dK kvs):=⟨z,hd,vs,rel,dd⟩
theorem QM{H':Hp}{Q:Unit->Shared->Prop}(hu:A.units + 1 < cLine)(I:Inv X pins σ H s)(g:HV H a y v H')(ry:RelV y u)(rv:RelV v r)(h:∀ s',Inv X pins σ H' s'->Q () s') :
 wpAny (model X.prog X.w) A (setItem (.ref a) u r) Q E s:=by
 rcases g with ⟨kvs,k,e,ey,l,eH⟩ | ⟨kvs,k,b,e,ey,eb,l,eH⟩
 ·subst ey eH
  obtain⟨z,hd,vs,rel,dd⟩:=SO I.hok e
  have hz:vs.length<=sizeLine:=by rw[<- rel.length]; exact z
  have hl:(putK kvs k v).length<=sizeLine:=by have:=yc kvs k v; omega
  refine wpAny_setItem_pairs (hsz:=hz) (FJ ry) dd λh' YS hs=>h _ ?_
  have he:∃ q,h'.get? a=some q:=let ⟨q,_,_,hq,_⟩:=YS; ⟨q,hq⟩
  exact J9 I (by rw[e]; exact ja) hs he (SQ hl hd (rel.put k rv) YS)
 ·subst ey eH
  cases (show u=Value.ref b from ry)
  obtain⟨z,hd,xs,rel,dd⟩:=abk I.hok e
  have hz:xs.length<=sizeLine:=by rw[<- Paired.length rel]; exact z
  have hl:(putK kvs k v).length<=sizeLine:=by have:=yc kvs k v; omega
  refine wpAny_setItem_heap (hsz:=hz) (tupleKind_room_in1 hu) (C0 I.hok eb) dd λh' YS hs=>h _ ?_
  obtain⟨q,es,ep,hq,h2,h3,h4,_,h5⟩:=YS
  refine J9 I (by rw[e]; exact ja) hs ⟨q,hq⟩ ⟨hl,hd,_,(rel.put k eb rv).keeps λc ys ec=>?_,q,es,ep,hq,h2,h3,h4,h5⟩
  rw[aI (xu ec e (λz=>nomatch z))]
  exact ec
end
def abl(i:Expr):Prop:=∀ ov iv,subscripted i false ov iv=operate [ov,iv] (getItem ov iv)
theorem Vo{prog:Program}{w:World}{A:Around}{E:Value->Shared->Prop}{s:Shared}{env:Env}{value slice:Expr}{pos:Pos}{T id:String}{Q:Value->Shared->Prop}
 (hl:typeLookup (.type T) "__getitem__" = pure (some (.builtin id))) (hs:abl slice)
 (h:wpAny (model prog w) A (eval value env) (λo s₁=>wpAny (model prog w) A (eval slice env) (λi s₂=>s₂.TypeIs o T/\wpAny (model prog w) A (getItem o i) Q E s₂) E s₁) E s) :
 wpAny (model prog w) A (eval (.Subscript value slice pos) env) Q E s:=by
 refine Subscript_ (wpAny_mono h (λo s₁ h₁=>wpAny_mono h₁ (λi s₂ h₂=>?_) λ_ _ x=>x) λ_ _ x=>x)
 obtain⟨hT,h₂⟩:=h₂
 unfold subscriptTail
 refine wpAny_bind ?_
 rw[getitemInPython_of_ne hT.not_modules]
 refine wpAny_bind (wpAny_specialOf hT hl ?_)
 have fin:wpAny (model prog w) A (subscripted slice false o i) (λr s₃=>wpAny (model prog w) A (letTemporaryGo value o r >>= λ_=>pure r) Q E s₃) E s₂:=by
  rw[hs o i]
  exact wpAny_operating (wpAny_mono h₂ (λr s₃ h₃=>wpAny_bind (wpAny_letTemporaryGo (wpAny_pure h₃))) λ_ _ x=>x)
 first
  | exact wpAny_pure (wpAny_bind fin)
  | exact wpAny_bind (wpAny_pure (wpAny_bind fin))
  | exact wpAny_bind fin
theorem LC{X:Cx}{pins:List (Addr × Obj)}{σ:St}{H:Hp}{s:Shared}{a:Addr}{y:V}{o:Option V}(I:Inv X pins σ H s)(g:tT H a y o):s.TypeIs (.ref a) "dict" := by
 rcases g with ⟨kvs,k,e,_,_⟩ | ⟨kvs,k,b,e,_,_,_⟩
 ·obtain⟨_,_,vs,_,dd⟩:=FL I.hok e
  exact dd.typeIs
 ·obtain⟨_,_,xs,_,dd⟩:=FN I.hok e
  exact dd.typeIs
def abm(td ty:TE):TE:=λσ H Q=>td σ H λx H1=>ty σ H1 λy H2=>∃ a v,x = .ref a/\tT H2 a y (some v)/\Q v H2
def aet(ty td:TE):TE:=λσ H Q=>ty σ H λy H1=>td σ H1 λx H2=>∃ a o,x = .ref a/\tT H2 a y o/\Q (.bl o.isSome) H2
def Vp(ty td:TE):TE:=λσ H Q=>ty σ H λy H1=>td σ H1 λx H2=>∃ a o,x = .ref a/\tT H2 a y o/\Q (.bl (!o.isSome)) H2
def abn(td ty tv:TE):TS:=λD σ H=>tv σ H λv H1=>td σ H1 λx H2=>ty σ H2 λy H3=>∃ a H4,x = .ref a/\HV H3 a y v H4/\D.nx σ H4
section
variable{X:Cx}{o i e value:Expr}{pos pos' tpos:Pos}{td ty tv:TE}
theorem Vq(hu:X.A.units + 1 < cLine)(ho:PE X o td)(hi:PE X i ty)(hs:abl i):PE X (.Subscript o i pos) (abm td ty):=by
 intro pins s σ H Q I h
 refine Vo PySem.F.slot_dict_getitem.lookup hs (fV (ho pins s σ H _ I h) λu s1 ⟨x,H1,I1,rx,q1⟩=>fV (hi pins s1 σ H1 _ I1 q1) λiv s2 ⟨y,H2,I2,ry,a,v,ex,g,q2⟩=>?_)
 subst ex
 obtain rfl:u=Value.ref a:=rx
 exact⟨LC I2 g,QL hu I2 g ry λw' s3 I3 rw'=>⟨v,H2,I3,rw',q2⟩⟩
theorem NJ(hu:X.A.units + 1 < cLine)(hi:PE X i ty)(ho:PE X o td):PC X .In i o (aet ty td):=by
 intro pins s σ H Q I h
 refine fV (hi pins s σ H _ I h) λiv s1 ⟨y,H1,I1,ry,q1⟩=>fV (ho pins s1 σ H1 _ I1 q1) λu s2 ⟨x,H2,I2,rx,a,ov,ex,g,q2⟩=>?_
 subst ex
 obtain rfl:u=Value.ref a:=rx
 exact aes hu I2 g ry λs3 I3=>⟨.bl ov.isSome,H2,I3,rfl,q2⟩
theorem C1(hu:X.A.units + 1 < cLine)(hi:PE X i ty)(ho:PE X o td):PC X .NotIn i o (Vp ty td):=by
 intro pins s σ H Q I h
 refine fV (hi pins s σ H _ I h) λiv s1 ⟨y,H1,I1,ry,q1⟩=>fV (ho pins s1 σ H1 _ I1 q1) λu s2 ⟨x,H2,I2,rx,a,ov,ex,g,q2⟩=>?_
 subst ex
 obtain rfl:u=Value.ref a:=rx
 exact Vn hu I2 g ry λs3 I3=>⟨.bl (!ov.isSome),H2,I3,rfl,q2⟩
theorem E8(hu:X.A.units + 1 < cLine)(ho:PE X o td)(hi:PE X i ty)(hv:PE X value tv)(hs:swapsWith value (some (.Subscript o i pos')) pos.line X.env=pure false) :
 PS X (.Assign [.Subscript o i pos'] value pos) (abn td ty tv):=by
 intro pins s σ H D I h
 refine wpAny_Assign_Subscript (fV (hv pins s σ H _ I h) λr s1 ⟨v,H1,I1,rv,q1⟩=>fV (ho pins s1 σ H1 _ I1 q1) λu s2 ⟨x,H2,I2,rx,q2⟩=>fV (hi pins s2 σ H2 _ I2 q2) λiv s3 ⟨y,H3,I3,ry,a,H4,ex,g,q3⟩=>?_) hs
 subst ex
 obtain rfl:u=Value.ref a:=rx
 exact QM hu I3 g ry rv λs4 I4=>⟨σ,H4,I4,q3⟩
end
theorem LD{P:Program}{w:World}{H:Hp}(h:Heap)(hb:sysModules < h.objs.size):gD P w H (h.push { cls:=.type "dict",data:=.dict #[] }) h.objs.size (.dK []) :=
 ⟨aV _,beq_eq_false_iff_ne.mpr (bT (bu hb)),[],.nil,Heap.DictOf.new h⟩
theorem SR{P:Program}{w:World}{H:Hp}(h:Heap)(hb:sysModules < h.objs.size):gD P w H (h.push { cls:=.type "dict",data:=.dict #[] }) h.objs.size (.dT []) :=
 ⟨aV _,beq_eq_false_iff_ne.mpr (bT (bu hb)),[],.nil,_,#[],0,Heap.get?_push_size _ rfl,⟨rfl,rfl,rfl⟩,rfl,rfl,ki⟩
def YT:TE:=λ_ H Q=>∀ p,H p=none->Q (.ref p) (upd H p (.dK []))
def YU:TE:=λ_ H Q=>∀ p,H p=none->Q (.ref p) (upd H p (.dT []))
section
variable{X:Cx}{pos:Pos}
theorem SS:PE X (.Dict [] [] pos) YT:=λpins s σ H Q I h =>
 wpAny_Dict_empty ⟨.ref s.heap.objs.size,_,I.laid (a:=s.heap.objs.size) (o:=.dK []) (t':=s.toks) (λ_ _ q=>Heap.get?_push_of_some _ q) (az _) (LD s.heap I.big),rfl,h _ (I.hok.fresh (az _))⟩
theorem FO:PE X (.Dict [] [] pos) YU:=λpins s σ H Q I h =>
 wpAny_Dict_empty ⟨.ref s.heap.objs.size,_,I.laid (a:=s.heap.objs.size) (o:=.dT []) (t':=s.toks) (λ_ _ q=>Heap.get?_push_of_some _ q) (az _) (SR s.heap I.big),rfl,h _ (I.hok.fresh (az _))⟩
end
def NK:List (TE × TE)->St->Hp->(List (V × V)->Hp->Prop)->Prop
 | [],_,H,Q=>Q [] H
 | (tk,tv) :: r,σ,H,Q=>tk σ H λx H1=>tv σ H1 λy H2=>NK r σ H2 λps H3=>Q ((x,y) :: ps) H3
abbrev VV:List (V × V)->List (Value × Value)->Prop:=Paired λp q=>RelV p.1 q.1/\RelV p.2 q.2
def PPs(X:Cx)(pos:Pos)(keys:List (Option Expr))(values:List Expr)(Vr:List (TE × TE)):Prop :=
 ∀ (pins:List (Addr × Obj)) (s:Shared) (σ:St) (H:Hp) (Q:List (V × V)->Hp->Prop),Inv X pins σ H s->NK Vr σ H Q ->
  wpAny (model X.prog X.w) X.A (evalPairs (pairTrees keys values X.env pos)) (λvs s'=>∃ ps H',Inv X pins σ H' s'/\VV ps vs/\Q ps H') X.xe s
theorem Vs{X:Cx}{pos:Pos}:PPs X pos [] [] []:=λpins s σ H Q I h=>pairTrees_nil_walk ⟨[],H,I,.nil,h⟩
theorem SV{X:Cx}{pos:Pos}{k v:Expr}{ks:List (Option Expr)}{vs:List Expr}{tk tv:TE}{Vr:List (TE × TE)}(hk:PE X k tk)(hv:PE X v tv)(hr:PPs X pos ks vs Vr) :
 PPs X pos (some k :: ks) (v :: vs) ((tk,tv) :: Vr):=λpins s σ H Q I h =>
 pairTrees_cons_walk (fV (hk pins s σ H _ I h) λu s1 ⟨x,H1,I1,rx,q1⟩=>fV (hv pins s1 σ H1 _ I1 q1) λw2 s2 ⟨y,H2,I2,ry,q2⟩ =>
  fV (hr pins s2 σ H2 _ I2 q2) λws s3 ⟨ps,H3,I3,rel,q3⟩=>⟨(x,y) :: ps,H3,I3,.cons ⟨rx,ry⟩ rel,q3⟩)
noncomputable def yd(kvs more:List (Key × V)):List (Key × V):=more.foldl (λacc kv=>putK acc kv.1 kv.2) kvs
theorem KV.merge:∀ {more:List (Key × V)} {rs:List (Key × Value)} {kvs:List (Key × V)} {vs:List (Key × Value)},KV more rs->KV kvs vs->KV (yd kvs more) (merged vs rs):=by
 intro more rs kvs vs r
 unfold KV at r
 induction r generalizing kvs vs with
 | nil=>intro q; exact q
 | @cons p q ps qs h t ih =>
  intro r0
  have e:KV (putK kvs p.1 p.2) (stored vs q.1 q.2):=by
   have:=r0.put p.1 h.2
   rw[<- h.1]; exact this
  exact ih e
theorem Ah:∀ (more kvs:List (Key × V)),(yd kvs more).length<=kvs.length + more.length
 | [],kvs=>by show kvs.length<=kvs.length + 0; omega
 | p :: r,kvs=>by
  have h1:=Ah r (putK kvs p.1 p.2)
  have h2:=yc kvs p.1 p.2
  show (yd (putK kvs p.1 p.2) r).length<=_
  rw[aS]; omega
theorem FP{P:Program}{w:World}:∀ {kvs:List (Key × V)} {ws:List (Value × Value)},VV (kvs.map λkv=>(kV kv.1,kv.2)) ws->∃ rs,Carries (dJ P w) ws rs/\KV kvs rs
 | [],_,r=>by rw[uP] at r; cases r; exact⟨[],ja,.nil⟩
 | p :: kvs,_,r=>by
  rw[bg] at r
  cases r with
  | @cons a b as bs h t =>
   obtain⟨rs,c,q⟩:=FP (P:=P) (w:=w) t
   obtain⟨b1,b2⟩:=b
   exact⟨(p.1,b2) :: rs,⟨FJ h.1,rfl,c⟩,.cons ⟨rfl,h.2⟩ q⟩
def abo(Vr:List (TE × TE)):TE:=λσ H Q=>∀ p,H p=none->NK Vr σ (upd H p (.dK [])) λps H2=>H2 p=some (.dK [])/\∃ kvs:List (Key × V),ps=kvs.map (λkv=>(kV kv.1,kv.2))/\kvs.length<=15/\Q (.ref p) (upd H2 p (.dK (yd [] kvs)))
theorem Vt{X:Cx}{pos:Pos}{keys:List (Option Expr)}{values:List Expr}{Vr:List (TE × TE)}(h:PPs X pos keys values Vr)(hall:keys.all (·.isSome)=true)(hl:keys.length=values.length)(h0:keys≠[])
 (h15:keys.length<=15):PE X (.Dict keys values pos) (abo Vr):=by
 intro pins s σ H Q I q
 have hn:=I.hok.fresh (az s.heap.objs.size)
 have I1:=I.laid (a:=s.heap.objs.size) (o:=.dK []) (h':=s.heap.push { cls:=.type "dict",data:=.dict #[] }) (t':=s.toks) (λ_ _ q=>Heap.get?_push_of_some _ q) (az _) (LD s.heap I.big)
 refine wpAny_Dict_walk (knd:=dJ X.prog X.w) hall hl h0 h15 (fV (h pins _ σ _ _ I1 (q _ hn)) λws s2 ⟨ps,H2,I2,rel,e,kvs,ep,lk,q2⟩=>?_)
 subst ep
 obtain⟨rs,c,rk⟩:=FP (P:=X.prog) (w:=X.w) rel
 obtain⟨z,hd,vs0,r0,dd⟩:=SO I2.hok e
 cases r0
 refine⟨rs,c,dd,λh' YS hs=>⟨.ref s.heap.objs.size,_,?_,rfl,q2⟩⟩
 have hz:(yd [] kvs).length<=sizeLine:=by
  have h1:=Ah kvs []
  rw[List.length_nil] at h1
  rw[sizeLine_eq]; omega
 have he:∃ q,h'.get? s.heap.objs.size=some q:=let ⟨q,_,_,hq,_⟩:=YS; ⟨q,hq⟩
 exact J9 I2 (by rw[e]; exact ja) hs he (SQ hz hd (rk.merge .nil) YS)
structure M1(X:Cx)(o:Expr)(m:Str)(apos:Pos)(e:Expr)(cpos:Pos):Prop where
 base:attributeBase o m X.env (eval o X.env)=eval o X.env
 few:((backTo cpos (starEach [e] X.env)).all (λx=>!x.1) && (backToKw cpos (keywordEach [] X.env)).all (λx=>x.1.isSome)
  && decide (([e]:List Expr).length + ([]:List Keyword).length + (if ([]:List Keyword).isEmpty then 0 else 1) < 30))=true
 line:(apos.endLine == cpos.line)=true
 trees:backTo cpos (starEach [e] X.env) = [(false,eval e X.env)]
def IsD(H:Hp)(a:Addr):Prop:=(∃ kvs,Rd H a (.dK kvs))∨∃ kvs,Rd H a (.dT kvs)
theorem YV{X:Cx}{pins:List (Addr × Obj)}{σ:St}{H:Hp}{s:Shared}{a:Addr}(I:Inv X pins σ H s)(d:IsD H a) :
 s.TypeIs (.ref a) "dict" /\ (∀ b,Value.ref a = .ref b->∃ ob,s.heap.get? b=some ob/\ob.dict=none)/\(a == sysModules)=false:=by
 rcases d with ⟨kvs,e⟩ | ⟨kvs,e⟩
 ·obtain⟨_,hd,vs,_,dd⟩:=FL I.hok e
  refine⟨dd.typeIs,λb q=>?_,hd⟩
  cases q
  obtain⟨ob,_,_,h1,h2,_⟩:=dd
  exact⟨ob,h1,h2.2.1⟩
 ·obtain⟨_,hd,xs,_,dd⟩:=FN I.hok e
  refine⟨dd.typeIs,λb q=>?_,hd⟩
  cases q
  obtain⟨ob,_,_,h1,h2,_⟩:=dd
  exact⟨ob,h1,h2.2.1⟩
section
variable{X:Cx}{pins:List (Addr × Obj)}{σ:St}{H:Hp}{s:Shared}{a:Addr}{y d:V}{u r:Value}{o:Option V}{A:Around}{E:Value->Shared->Prop}
theorem YW{Q:Value->Shared->Prop}(hu:A.units + 1 < cLine)(I:Inv X pins σ H s)(g:tT H a y o)(ry:RelV y u)(h:∀ w' s',Inv X pins σ H s'->RelV (o.getD .fh) w'->Q w' s') :
 wpAny (model X.prog X.w) A (call (.builtin "dict.get") [.ref a,u]) Q E s:=by
 rcases g with ⟨kvs,k,e,ey,l⟩ | ⟨kvs,k,b,e,ey,eb,l⟩
 ·subst ey
  obtain⟨z,hd,vs,rel,dd⟩:=FL I.hok e
  refine call_meetsIn PySem.F.slot_dict_get dd.typeIs PySem.F.entry_dict_get (PySem.F.args_dict_get_2 _ _) (meets_dict_get (dJ X.prog X.w) a (FJ ry) hd) ⟨_,dd.mapOf,h _ _ (I.tok _) ?_⟩
  rw[l]
  exact (rel.val k).getD rfl
 ·subst ey
  cases (show u=Value.ref b from ry)
  obtain⟨z,hd,xs,rel,dd⟩:=FN I.hok e
  refine call_meetsIn PySem.F.slot_dict_get dd.typeIs PySem.F.entry_dict_get (PySem.F.args_dict_get_2 _ _) (meetsH_dict_get (tupleKind (dJ X.prog X.w)) a b hd) ⟨tupleKind_room_in1 hu,k,xs,C0 I.hok eb,dd,h _ _ (I.tok _) ?_⟩
  rw[l]
  exact (rel.val k).getD rfl
end
def YX(td ty:TE):TE:=λσ H Q=>td σ H λx H1=>∃ a,x = .ref a/\IsD H1 a/\ty σ H1 λy H2=>∃ o,tT H2 a y o/\Q (o.getD .fh) H2
section
variable{X:Cx}{o e f:Expr}{apos cpos:Pos}{td ty tx:TE}
theorem SW(hu:X.A.units + 1 < cLine)(ho:PE X o td)(he:PE X e ty)(m:M1 X o "get" apos e cpos):PE X (.Call (.Attribute o "get" apos) [e] [] cpos) (YX td ty):=by
 intro pins s σ H Q I h
 refine wpAny_Call_method m.base m.few m.line PySem.F.plainAttrs_dict PySem.F.slot_dict_get PySem.F.type_dict_get (fV (ho pins s σ H _ I h) λu s1 ⟨x,H1,I1,rx,a,ex,d,q1⟩=>?_)
 subst ex
 obtain rfl:u=Value.ref a:=rx
 obtain⟨t1,t2,_⟩:=YV I1 d
 refine⟨t1,t2,?_⟩
 rw[m.trees]
 refine Calls.callWith_builtin rfl (Calls.evalArgs_plain (Calls.spliced_cons (fV (he pins s1 σ H1 _ I1 q1) λiv s2 ⟨y,H2,I2,ry,ov,g,q2⟩=>Calls.spliced_nil ?_)))
 exact YW hu I2 g ry λw' s3 I3 rw'=>⟨_,H2,I3,rw',q2⟩
end
end L2
namespace Att
open PySem PySem.W PySem.Calls PyProof.Rows
theorem EF{P:Params}{h:Heap}:∀ (ns:List Int) (vs:List Value),WellAll P h vs (ns.map WData.int)->IntsAre vs ns:=by
 intro ns
 induction ns with
 | nil =>
  intro vs w
  rw[uP] at w
  cases w
  exact .nil
 | cons n ns ih =>
  intro vs w
  rw[bg] at w
  cases w with
  | cons a b =>
   cases a
   exact .cons _ _ (ih _ b)
theorem QN{l:OpenLaw}{n:Nat}(hn:l.most=some n){P:Params}{h:Heap}{args:List WData}{vals:List Value}
 (hpre:l.row.toRowW.claim.pre args=true) (hwl:WellAll P h vals args) :
 ∃ a vs ns,vals = [Value.ref a]/\args = [WData.list (ns.map WData.int)]/\h.get? a=some { cls:=.type "list",data:=.seq vs.toArray }/\IntsAre vs ns/\ns.length<=n:=by
 have hsh:WShape.hasAll [] args [.list .int]=true:=(pre_splitW hpre).1
 have hc:l.pre.holds [] { args:=args }=true:=(pre_splitW hpre).2
 obtain⟨d,r,rfl,h1,h2⟩:=hasAllW_cons hsh
 obtain rfl:=hasAllW_nil h2
 obtain⟨xs,rfl,h3⟩:=hasW_list h1
 obtain⟨ns,rfl⟩:=items_int h3
 have hlen:ns.length<=n:=by
  unfold OpenLaw.pre at hc
  have h4:(WTm.not (.lt (.lit (.int (n:Int))) (.len (.arg 0)))).holds [] { args:=[.list (ns.map .int)] }=true:=by
   have h4:=(holds_andW hc).1
   rw[hn] at h4
   exact h4
  have h5:=condW_of h4 (w_not (w_lt w_lit (w_len_list (w_arg rfl))))
  rw[ah] at h5
  refine Nat.le_of_not_lt λq=>?_
  have q':(n:Int) < ((ns.length:Nat):Int):=by omega
  first
   | (rw[decide_eq_true q'] at h5; exact absurd h5 (by decide))
   | (simp at h5; omega)
 cases hwl with
 | cons w1 w2 =>
  cases w2
  cases w1 with
  | list ho hall=>exact⟨_,_,ns,rfl,rfl,ho,EF ns _ hall,hlen⟩
theorem QO(l:OpenLaw)(args:List WData):l.row.toRowW.claim.post args (.bool true) args=true :=
 postW_of (r:=l.row.toRowW) (X:=(true == true))
  (show WShape.has [] (.bool true) .bool=true by first | rfl | decide | simp[WShape.has,WShape.arms,WShape.armsAll])
  (show (WTm.eq .res (.lit (.bool true))).value [] { args:=args,res:=some (.bool true),after:=args }=some (.bool (true == true)) from w_eq_bool (w_res rfl) w_lit) rfl
theorem LF{l:OpenLaw}{n:Nat}{q:Program}{loose:List Str}{XP:(Str->Option Value)->Heap->Prop}{YP:World->Heap->Prop}{d:DefRec}
 (hn:l.most=some n) (hdf:d.params.defaults = [])
 (call:∀ (w:World) (s₀ s₁:Shared) (mg mb:Str->Option Value) (fa:Addr) (o:Obj) (pm cd doc:Value) (a:Addr) (vs:List Value) (ns:List Int),
  Ground q loose [] XP w s₀ mg mb s₁.heap->YP w s₁.heap ->
  s₁.heap.get? fa=some o->o.data = .func (docDef d.name d.params d.body d.scope pm cd doc)->s₁.heap.CodeRec cd d.name->mg d.name=some (.ref fa) ->
  s₁.heap.get? a=some { cls:=.type "list",data:=.seq vs.toArray }->IntsAre vs ns->ns.length<=n->s₁.gens = #[] ->
  codeAny (model l.prog w) callerA (.call (.ref fa) ⟨[.ref a],[]⟩) (λr s'=>r = .ok (.ret (.bool true))/\OldK s₁.heap s'.heap/\s'.os=s₁.os/\AllBare s'.gens) s₁) :
 WalkO q loose XP YP l.row.toRowW d [] (λf vs=>PySem.call f vs):=by
 intro w s₀ s₁ mg mb G Y fa o pm cd doc dV kV ho hd hcd hD hmg hg args vals as hpre hlay hrd hwl hlo
 obtain rfl:dV = .none:=Dflts.none hD hdf
 obtain rfl:kV = .none:=Dflts.noKw hD
 obtain⟨a,vs,ns,rfl,rfl,hobj,hints,hlen⟩:=QN hn hpre hwl
 refine enter_call (codeAny_mono (call w s₀ s₁ mg mb fa o pm cd doc a vs ns G Y ho (fd_plain hd) hcd hmg hobj hints hlen hg) λr s' hq=>?_)
 obtain⟨rfl,h2,h3,h4⟩:=hq
 exact⟨.inl ⟨.bool true,.bool true,[],rfl,λ_=>rfl,.bool true,QO l _,λ_=>⟨List.Pairwise.nil,λ_ hm=>(nomatch hm)⟩⟩,h2,h3,h4⟩
end Att
namespace L2
open PySem PySem.Spec PyProof.Rows
theorem I0:∀ {vs:List Value} {ns:List Int},IntsAre vs ns->b6 (ns.map V.int) vs
 | _,_,.nil=>.nil
 | _,_,.cons n t h=>.cons ⟨t,rfl⟩ (I0 h)
def YY(H:Hp):Prop:=∀ b,H b=none∨∃ o xs,H b=some (.Lo o (.lst xs))
theorem SX{P:Program}{w:World}{K:af}{mg mb:Str->Option Value}{CX:QH}{k:Nat}{fa a:Addr}{fd:FuncData}{x:Str}{sp:Sp}{s₁:Shared}{vs:List Value}{ns:List Int}
 (KX:K.In s₁.heap) (hns:s₁.heap.Ns mainGlobals mg) (hb:s₁.heap.Ns builtinsNs mb) (hbb:∀ x:Str,x≠"__name__" -> mb x=bootBuiltins x) (hlim:s₁.heap.NoLimit) (hg:s₁.gens = #[])
 (ha:s₁.heap.get? a=some { cls:=.type "list",data:=.seq vs.toArray }) (hi:IntsAre vs ns) (hl:ns.length<=sizeLine) (hr:jh k callerA)
 (F:∀ base:Heap,K.In base->base.Ns mainGlobals mg->cj P w K mg base CX k fa fd [x] sp) (hbind:∀ (s:Shared) (u:Value),BindsTo s fd ⟨[u],[]⟩ [(x,u)])
 (RU:∀ H:Hp,YY H->bL K H a (ns.map V.int)->sp [.ref a] H (λv _=>v = .bl true) λ_ _ _=>False)
 (hCX:∀ H e s',CX [] H s₁ (λ_ _ _=>False) e s'->False) :
 codeAny (model P w) callerA (.call (.ref fa) ⟨[.ref a],[]⟩) (λr s'=>r = .ok (.ret (.bool true))/\OldK s₁.heap s'.heap/\s'.os=s₁.os/\AllBare s'.gens) s₁:=by
 have rv:=I0 hi
 have aev:=hi.length
 have core:∀ H:Hp,YY H->bL K H a (ns.map V.int)->xZ P w H s₁.heap->(∀ b,H b≠none->b=a)->(H a≠none->K.lookup a=none) ->
  codeAny (model P w) callerA (.call (.ref fa) ⟨[.ref a],[]⟩) (λr s'=>r = .ok (.ret (.bool true))/\OldK s₁.heap s'.heap/\s'.os=s₁.os/\AllBare s'.gens) s₁:=by
  intro H hO hS hok hA hK
  have Pe:∀ {b:Addr} {o:Obj},s₁.heap.get? b=some o->H b=none->(JW s₁.heap H).get? b=some o:=λe n=>Sa e n
  have noA:∀ {b:Addr} {o:Obj} {es:Array DictEntry} {ep:Nat},s₁.heap.get? b=some o->o.data = .dict es ep->H b=none:=λ{b o es ep} e d=>by
   cases q:H b with
   | none=>rfl
   | some u =>
    have e':b=a:=hA b (by rw[q]; simp)
    subst e'
    rw[ha] at e; cases e
    have d':Data.seq vs.toArray _=Data.dict es ep:=d
    cases d'
  have nsK:∀ {b:Addr} {m:Str->Option Value},s₁.heap.Ns b m->(JW s₁.heap H).Ns b m:=λ{b m} ⟨o,es,ep,e,d,r⟩=>⟨o,es,ep,Pe e (noA e d),d,r⟩
  have hKb:K.In (JW s₁.heap H):=λb o e=>Pe (KX b o e) (by
   cases q:H b with
   | none=>rfl
   | some u =>
    have e':b=a:=hA b (by rw[q]; simp)
    subst e'
    rw[hK (by rw[q]; simp)] at e; cases e)
  have hM:Mod K mg (JW s₁.heap H):=⟨hKb,nsK hns,⟨mb,nsK hb,hbb⟩,let ⟨mc,h1,h2⟩:=hlim; ⟨mc,nsK h1,h2⟩⟩
  have e0:NB P w K mg (JW s₁.heap H) callerA [] s₁ H:=⟨rfl,hM,λb o e=>Va e,Nat.le_of_eq (QA _ _),trivial,λb hb=>absurd (show b∈([]:List Addr) from hb) (by simp),hok,.of_eq hg⟩
  refine codeAny_mono ((F _ hKb (nsK hns)).run callerA [] s₁ H ⟨[.ref a],[]⟩ [.ref a] [.ref a] _ _ hr e0 (hbind s₁ (.ref a)) (.cons rfl .nil) (RU H hO hS)) λr s' h=>?_
  cases r with
  | error e=>exact (hCX H e s' h).elim
  | ok fl =>
   cases fl with
   | next=>exact je h
   | brk=>exact je h
   | cont=>exact je h
   | ret u =>
    obtain⟨v,H',os,bare,un,aew,r',q⟩:=h
    have q':v = .bl true:=q
    subst q'
    obtain rfl:u=Value.bool true:=r'
    refine⟨rfl,OldK.of_keep λb o e=>?_,os,bare⟩
    cases q:H b with
    | none=>exact un.keep b o e q (by intro z; exact absurd (show b∈([]:List Addr) from z) (by simp)) (by simp)
    | some u =>
     rcases hO b with z | ⟨ob,xs,z⟩
     ·rw[q] at z; cases z
     ·have z2:=un.BB b ob _ z
      obtain⟨e1,_⟩:=hok b _ z
      obtain⟨e2,_⟩:=aew b _ z2
      rw[e] at e1; cases e1
      exact e2
 cases hk:K.lookup a with
 | some o =>
  have e:=KX a o hk
  rw[ha] at e
  cases e
  refine core (λ_=>none) (λ_=>.inl rfl) (.inr ⟨_,vs.toArray,_,hk,rfl,rfl,rfl,by rw[aW,aev]; exact hl,by simpa using rv⟩) (λb u z=>by have z':(none:Option HO)=some u:=z; cases z') (λb z=>absurd rfl z) λz=>absurd rfl z
 | none =>
  refine core (λb=>if b=a then some (.Lo { cls:=.type "list",data:=.seq vs.toArray } (.lst (ns.map V.int))) else none) (λb=>?_) (.inl (.inr ⟨{ cls:=.type "list",data:=.seq vs.toArray },if_pos rfl⟩)) (λb u z=>?_) (λb z=>?_) λ_=>hk
  ·by_cases hb:b=a
   ·exact .inr ⟨_,_,if_pos hb⟩
   ·exact .inl (if_neg hb)
  ·by_cases hb:b=a
   ·have z':=(if_pos hb).symm.trans z
    cases z'
    subst hb
    exact⟨ha,by rw[ah]; exact hl,vs,_,rv,ha⟩
   ·have z':=(if_neg hb).symm.trans z
    cases z'
  ·by_cases hb:b=a
   ·exact hb
   ·exact absurd (if_neg hb) z
theorem Vu{l:PySem.W.OpenLaw}{n k:Nat}{q:Program}{loose:List Str}{XP:(Str->Option Value)->Heap->Prop}{YP:World->Heap->Prop}{d:DefRec}{K:Params->af}{CX:World->QH}{sp:World->Sp}{x:Str}
 (hn:l.most=some n) (hn2:n<=sizeLine) (hdf:d.params.defaults = []) (hr:jh k callerA)
 (hY:∀ (w:World) (h:Heap),YP w h->(K w.params).In h)
 (F:∀ (w:World) (mg:Str->Option Value) (fa:Addr) (h:Heap),(K w.params).In h->h.Ns mainGlobals mg->mg d.name=some (.ref fa) ->
  ∃ fd:FuncData,(∀ (s:Shared) (u:Value),BindsTo s fd ⟨[u],[]⟩ [(x,u)]) /\
   ∀ base:Heap,(K w.params).In base->base.Ns mainGlobals mg->cj l.prog w (K w.params) mg base (CX w) k fa fd [x] (sp w))
 (RU:∀ (w:World) (H:Hp) (a:Addr) (ns:List Int),ns.length<=n->YY H->bL (K w.params) H a (ns.map V.int)->sp w [.ref a] H (λv _=>v = .bl true) λ_ _ _=>False)
 (hCX:∀ (w:World) (H:Hp) (s:Shared) (e:Value) (s':Shared),CX w [] H s (λ_ _ _=>False) e s'->False) :
 PySem.W.WalkO q loose XP YP l.row.toRowW d [] (λf vs=>PySem.call f vs):=by
 refine Att.LF hn hdf λw s₀ s₁ mg mb fa o pm cd doc a vs ns G Y ho hd hcd hmg hobj hints hlen hg=>?_
 have KX:=hY w _ Y
 obtain⟨fd,hb,hF⟩:=F w mg fa _ KX G.T.g hmg
 exact SX KX G.T.g G.T.b G.T.builtins G.T.nolimit hg hobj hints (aO hlen hn2) hr hF hb (λH hO hS=>RU w H a ns hlen hO hS) λH e s'=>hCX w H s₁ e s'
noncomputable def inClass(s:Stmt)(j:Nat):Stmt:=match s with
 | .ClassDef _ _ _ body _ _ _ _ _ _ _=>body.getD j (.Pass ⟨0,0,0,0⟩)
 | _=>.Pass ⟨0,0,0,0⟩
noncomputable def iY(s:Stmt):Arguments:=match s with
 | .FunctionDef _ a _ _ _ _ _ _ _ _=>a
 | _=>{ posonlyargs:=[],args:=[],vararg:=none,kwonlyargs:=[],kw_defaults:=[],kwarg:=none,defaults:=[] }
noncomputable def fF(s:Stmt):List Stmt:=match s with
 | .FunctionDef _ _ b _ _ _ _ _ _ _=>b
 | _=>[]
noncomputable def aC(s:Stmt):Scope:=match s with
 | .FunctionDef _ _ _ _ _ _ sc _ _ _=>sc
 | _=>{ kind:=.function,names:=[],isGenerator:=false,isCoroutine:=false }
abbrev ig:QH:=λ_ _ _ _ _ _=>False
abbrev E0:XK:=λ_ _ _=>False
theorem jR{X:Cx}:qP ig X E0:=λ_ _ _ _ _ _ _ h=>h.elim
structure Ng(K:af)(x qual:Str)(st:Stmt)(f:Addr)(fd:FuncData):Prop where
 ex:∃ (oc:Value) (od:Option Addr) (kV doc pm:Value) (an:Option Addr) (cdv ct:Value) (osl:Array (Option Value)),
  fd=dU x qual (iY st) (fF st) (aC st) .none kV doc pm an cdv ct/\K.lookup f=some ⟨oc,od,.func fd,osl⟩/\iU K cdv qual=true
 kp:dH K (.ref f)=true
section
variable{P:Program}{w:World}{K:af}{mg:Str->Option Value}{base:Heap}
theorem Ng.ok{x qual:Str}{st:Stmt}{f:Addr}{fd:FuncData}{N ps:List Str}{k:Nat}{sp:Sp}(F:Ng K x qual st f fd)(S:aM N ps (aC st))(len:∀ vs H Q E,sp vs H Q E->vs.length=ps.length)
 (hbody:∀ (cdv:Value) (A:Around) (outer:List Env) (s:Shared) (H:Hp) (vs:List V) (Q:VK) (E:XK),jh k (A.deeper (envOfC qual (aC st) s.heap.objs.size f cdv))->sp vs H Q E ->
  ∃ t,iV (m6 ig P w K mg base N qual (aC st) f cdv A outer s H E).W9 (fF st) t/\t { nx:=λ_ H'=>Q .fh H',rt:=Q } (start N vs) H):cj P w K mg base ig (k + 1) f fd ps sp:=by
 obtain⟨oc,od,kV,doc,pm,an,cdv,ct,osl,rfl,lk,hcd⟩:=F.ex
 refine SG lk hcd S len λA outer s H vs Q E hr RU=>?_
 obtain⟨t,h,q⟩:=hbody cdv A outer s H vs Q E hr RU
 exact⟨t,h.W9,q⟩
theorem Ng.binds{x qual:Str}{st:Stmt}{f:Addr}{fd:FuncData}{ps:List Str}(F:Ng K x qual st f fd)
 (h:∀ (kV doc pm:Value) (an:Option Addr) (cdv ct:Value) (us:List Value),us.length=ps.length->bindArgs (dU x qual (iY st) (fF st) (aC st) .none kV doc pm an cdv ct) ⟨us,[]⟩=pure (ps.zip us)):Binds K fd ps []:=by
 obtain⟨oc,od,kV,doc,pm,an,cdv,ct,osl,rfl,lk,hcd⟩:=F.ex
 exact .all (h kV doc pm an cdv ct)
theorem SY{x qual:Str}{st:Stmt}{f:Addr}{oc:Value}{od an:Option Addr}{osl:Array (Option Value)}{kV doc pm cdv ct:Value}(l:K.lookup f=some ⟨oc,od,.func (dU x qual (iY st) (fF st) (aC st) .none kV doc pm an cdv ct),osl⟩)
 (c:iU K cdv qual=true) (k:dH K (.ref f)=true):Ng K x qual st f (dU x qual (iY st) (fF st) (aC st) .none kV doc pm an cdv ct):=⟨⟨oc,od,kV,doc,pm,an,cdv,ct,osl,rfl,l,c⟩,k⟩
end
theorem uW{A:Around}{k:Nat}(hr:jh k A):A.units + 1 < cLine:=cz (gV (by decide:1<=64) _) hr.units
theorem b4{n:Nat}(h:n<=1000):n < sizeLine:=cz h (by decide)
section
variable{X:Cx}
theorem pv(i:Nat){x:Str}{pos:Pos}(hN:X.N[i]?=some x:=by rfl)(hv:Vis X.env.scope x:=by first | exact Or.inl rfl | exact Or.inr (Or.inl rfl) | exact Or.inr (Or.inr rfl))(hd:(x == ("__debug__" : Str))=false:=by decide)
 (hcd:(x == ("__classdict__" : Str))=false:=by decide):PE X (.Name x pos) (JY i):=Yw hN hv hd hcd
end
theorem cP{A B:Prop}(h:B):if false=true then A else B:=by
 rw[if_neg aD]
 exact h
theorem fL{A B:Prop}(h:A):if true=true then A else B:=by
 rw[if_pos rfl]
 exact h
theorem kH{c A B:Prop}[Decidable c](h1:c->A)(h2:¬ c->B):if c then A else B:=by
 by_cases h:c
 ·rw[if_pos h]
  exact h1 h
 ·rw[if_neg h]
  exact h2 h
def aE(H H':Hp):Prop:=∀ b o,H b=some o->H' b=some o
theorem aE.refl(H:Hp):aE H H:=λ_ _ h=>h
theorem aE.trans{H H1 H2:Hp}(a:aE H H1)(b:aE H1 H2):aE H H2:=λc o h=>b c o (a c o h)
theorem aE.free{H H':Hp}(e:aE H H'){l:Addr}(h:H' l=Option.none):H l=Option.none:=by
 cases q:H l with
 | none=>rfl
 | some o =>
  rw[e l o q] at h
  cases h
theorem aE.seq{K:af}{H H':Hp}{a:Addr}{xs:List V}(e:aE H H')(h:bL K H a xs):bL K H' a xs:=by
 rcases h with (h | ⟨o,h⟩) | h
 ·exact .inl (.inl (e _ _ h))
 ·exact .inl (.inr ⟨o,e _ _ h⟩)
 ·exact .inr h
theorem QS{env:Env}{x:Str}{c:Addr}(h:env.cells.lookup x=some c):cellOf env x=pure c:=by
 unfold cellOf
 rw[h]
noncomputable def lI(env:Env):List (Str × NameKind)->List (Str × Addr)->List (Str × Addr)
 | [],cs=>cs
 | (n,k) :: r,cs=>lI env r (if k == .free then (n,(env.cells.lookup n).getD 0) :: cs else cs)
theorem Ka{env:Env}:∀ (ns:List (Str × NameKind)) (cs:List (Str × Addr)),(∀ n,(n,NameKind.free)∈ns->∃ c,env.cells.lookup n=some c) ->
 (forIn (m:=Sem) ns cs λx r=>match x with
  | (name,kind)=>if (kind == NameKind.free)=true then do let c <- cellOf env name; pure (jd ((name,c) :: r)) else pure (jd r))=pure (lI env ns cs)
 | [],cs,_=>rfl
 | (n,k) :: r,cs,h=>by
  rw[List.forIn_cons]
  by_cases hk:(k == NameKind.free)=true
  ·have ek:k = .free:=by simpa using hk
   obtain⟨c,e⟩:=h n (by rw[ek]; exact bI)
   simp only[hk,if_true,QS e]
   have q:=Ka r ((n,c) :: cs) λm hm=>h m (bh _ hm)
   show (forIn (m:=Sem) r ((n,c) :: cs) _)=pure (lI env r (if (k == .free)=true then (n,(env.cells.lookup n).getD 0) :: cs else cs))
   rw[if_pos hk,e]
   exact q
  ·simp only[hk]
   have q:=Ka r cs λm hm=>h m (bh _ hm)
   show (forIn (m:=Sem) r cs _)=pure (lI env r (if (k == .free)=true then (n,(env.cells.lookup n).getD 0) :: cs else cs))
   rw[if_neg hk]
   exact q
theorem Ai{scope:Scope}{env:Env}(h:∀ n,(n,NameKind.free)∈scope.names->∃ c,env.cells.lookup n=some c):closureFor scope env=pure (lI env scope.names []):=by
 have e:=Ka scope.names [] h
 unfold closureFor
 show (forIn (m:=Sem) scope.names [] (λx r=>match x with
  | (name,kind)=>if (kind == NameKind.free)=true then do let c <- cellOf env name; pure (jd ((name,c) :: r)) else pure (jd r)) >>= λs=>pure s)=_
 rw[e]
 rfl
theorem kI{env:Env}{x:Str}{c:Addr}:∀ (ns:List (Str × NameKind)) (cs:List (Str × Addr)),(∀ n,(n,NameKind.free)∈ns->∃ c,env.cells.lookup n=some c)->(cs.lookup x=some c->env.cells.lookup x=some c) ->
 (lI env ns cs).lookup x=some c->env.cells.lookup x=some c
 | [],_,_,h0,h=>h0 h
 | (n,k) :: r,cs,hf,h0,h=>by
  unfold lI at h
  refine kI r _ (λm hm=>hf m (bh _ hm)) (λq=>?_) h
  by_cases hk:(k == NameKind.free)=true
  ·have ek:k = .free:=by simpa using hk
   subst ek
   obtain⟨d,e⟩:=hf n bI
   rw[if_pos hk,e,eK] at q
   by_cases hx:(x == n)=true
   ·have ex:x=n:=by simpa using hx
    rw[hx] at q
    subst ex
    rw[e]; exact q
   ·simp only[hx] at q
    exact h0 q
  ·rw[if_neg hk] at q
   exact h0 q
theorem AQ{env:Env}{x:Str}:∀ (ns:List (Str × NameKind)) (cs:List (Str × Addr)),((cs.lookup x).isSome=true∨(x,NameKind.free)∈ns)->((lI env ns cs).lookup x).isSome=true
 | [],_,h=>h.elim id λz=>absurd z (by simp)
 | (n,k) :: r,cs,h=>by
  unfold lI
  refine AQ r _ ?_
  rcases h with h | h
  ·refine .inl ?_
   split
   ·rw[eK]
    split
    ·rfl
    ·exact h
   ·exact h
  ·rcases br.mp h with e | h
   ·cases e
    refine .inl ?_
    rw[if_pos (show (NameKind.free == NameKind.free)=true from rfl),eK]
    simp
   ·exact .inr h
noncomputable def jj(cap:List (Option Nat))(σ:St):St:=cap.map λo=>o.bind λj=>(σ[j]?).join
noncomputable def kJ(X:Cx)(scope:Scope)(N':List Str)(fp:List Addr)(pins:List (Addr × Obj))(s₃:Shared)(aex:Hp):Cx where
 prog:=X.prog
 w:=X.w
 K:=X.K
 mg:=X.mg
 base:=X.base
 A:=X.A
 N:=N'
 s₀:=s₃
 H₀:=aex
 env:=compEnvC scope (lI X.env scope.names []) s₃.heap.objs.size X.env
 outer:=X.stack
 stack:=X.stack
 ex:=fp
 fn:=λ_=>false
 calm:=X.calm
 pn:=X.pn++pins
 xe:=λ_ _=>False
structure jk(X:Cx)(scope:Scope)(N':List Str)(cap:List (Option Nat)):Prop where
 kind:scope.kind = .function
 NN:∀ y∈scope.names,y.2≠.cell
 loc:∀ y∈scope.names,y.2 = .local->scope.names.lookup y.1=some .local
 fr:∀ y∈scope.names,y.2 = .free->X.env.kindOf y.1=some .cell
 frl:∀ y∈scope.names,y.2 = .free->scope.names.lookup y.1=some .free
 nd:N'.Nodup
 len:cap.length=N'.length
 cap:∀ (i j:Nat) (x:Str),cap[i]?=some (some j)->N'[i]?=some x->X.N[j]?=some x/\(x,NameKind.free)∈scope.names
section
variable{X:Cx}{scope:Scope}{N':List Str}{cap:List (Option Nat)}{fp:List Addr}{pins:List (Addr × Obj)}{s:Shared}{σ:St}{H:Hp}
theorem jk.clos(S:jk X scope N' cap)(ok:X.Ok):∀ n,(n,NameKind.free)∈scope.names->∃ c,X.env.cells.lookup n=some c:=λn hn=>ok.has n (.inl (S.fr _ hn rfl))
theorem vK{env:Env}{x:Str}:∀ {names:List (Str × NameKind)} {k:NameKind},
 (names.map λ(n,k)=>if (k == NameKind.free && env.scope.kind == .function && env.kindOf n == some .cell) then (n,NameKind.cell) else (n,k)).lookup x=some k->k = .cell∨k = .free->(∀ y∈names,y.2≠.cell)->(x,NameKind.free)∈names
 | [],_,h,_,_=>by simp at h
 | (n,q) :: r,k,h,hk,hc=>by
  have h':oY x ((if (q == NameKind.free && env.scope.kind == .function && env.kindOf n == some .cell)=true then (n,NameKind.cell) else (n,q)) :: (r.map λ(n,k)=>if (k == NameKind.free && env.scope.kind == .function && env.kindOf n == some .cell) then (n,NameKind.cell) else (n,k)))=some k:=h
  by_cases hx:(x == n)=true
  ·have ex:x=n:=by simpa using hx
   subst ex
   by_cases hq:(q == NameKind.free && env.scope.kind == .function && env.kindOf x == some .cell)=true
   ·have:q = .free:=by
     rw[cu,cu] at hq
     simpa using hq.1.1
    subst this
    exact bI
   ·rw[if_neg hq,eK,hx] at h'
    have e:q=k:=aL h'
    subst e
    rcases hk with hk | hk
    ·exact absurd hk (hc _ bI)
    ·rw[hk]; exact bI
  ·have hx':(x == n)=false:=by simpa using hx
   refine bh _ (vK (env:=env) (k:=k) ?_ hk λy hy=>hc y (bh _ hy))
   split at h'
   ·rw[eK,hx'] at h'; exact h'
   ·rw[eK,hx'] at h'; exact h'
theorem BP{env:Env}{x:Str}(hf:env.scope.kind = .function)(hx:env.kindOf x=some .cell):∀ {names:List (Str × NameKind)},names.lookup x=some .free ->
 (names.map λ(n,k)=>if (k == NameKind.free && env.scope.kind == .function && env.kindOf n == some .cell) then (n,NameKind.cell) else (n,k)).lookup x=some .cell
 | [],h=>by simp at h
 | (n,k) :: r,h=>by
  show oY x ((if (k == NameKind.free && env.scope.kind == .function && env.kindOf n == some .cell)=true then (n,NameKind.cell) else (n,k)) :: _)=_
  cases hxn:x == n with
  | true =>
   have e:x=n:=by simpa using hxn
   subst e
   simp only[eK,hxn] at h
   have ek:k = .free:=aL h
   subst ek
   rw[if_pos (by rw[hf,hx]; rfl),eK,hxn]
  | false =>
   simp only[eK,hxn] at h
   have ih:=BP hf hx h
   split
   ·rw[eK,hxn]; exact ih
   ·rw[eK,hxn]; exact ih
theorem jk.ok(S:jk X scope N' cap)(I:Inv X pins σ H s)(hf:∀ b∈fp,BH X pins H b)(hex:∀ b∈fp,∃ o,s.heap.get? b=some o):(kJ X scope N' fp pins s H).Ok where
 mod:=I.ok.mod
 kind:=S.kind
 glob:=I.ok.glob
 blt:=I.ok.blt
 above:=az _
 inj:=λx y c h1 h2=>I.ok.inj x y c (kI _ _ (S.clos I.ok) (λz=>by simp at z) h1) (kI _ _ (S.clos I.ok) (λz=>by simp at z) h2)
 has:=λx hx=>by
  have hm:(x,NameKind.free)∈scope.names:=by
   rcases hx with hx | hx
   ·exact vK (env:=X.env) hx (.inl rfl) S.NN
   ·exact vK (env:=X.env) hx (.inr rfl) S.NN
  exact Option.isSome_iff_exists.mp (AQ scope.names [] (.inr hm))
 cab:=λx c h=>by cases h
 hd:=I.ok.hd
 frames:=I.ok.frames
 stk:=.inl rfl
 exf:=λb hb=>by
  obtain⟨o,e⟩:=hex b hb
  refine⟨bu (Heap.lt_size e),λx c h=>(hf b hb).2.2.2.2.1 x c (kI _ _ (S.clos I.ok) (λz=>by simp at z) h)⟩
 bs:=I.bs
 Sd:=aO I.ok.Sd I.sz
 QB:=λb o e hb=>by
  rcases (hf b hb).2.2.2.1 with z | z
  ·exact I.ok.QB b o e z
  ·exact absurd (bH (Heap.lt_size e) (aO I.ok.Sd z)) (jJ _)
 Se:=λb hb hs=>by
  rcases br.mp (I.CO b hs) with z | z
  ·exact (hf b hb).2.1 z
  ·exact (hf b hb).2.2.1 z
 BD:=I.stack
 W2:=I.JX
theorem jk.look(S:jk X scope N' cap)(I:Inv X pins σ H s){h₁:Heap}{m:Str->Option Value}(cellK:∀ x c v,X.env.cells.lookup x=some c->s.heap.IsCell c v->h₁.IsCell c v)(i:Nat)(x:Str)(v:V)(h1:N'[i]?=some x)(h2:(jj cap σ)[i]?=some (some v)) :
 ∃ u,RelV v u/\Look (compEnvC scope (lI X.env scope.names []) s.heap.objs.size X.env) h₁ m x u:=by
 have Pf:∀ x c,(lI X.env scope.names []).lookup x=some c->X.env.cells.lookup x=some c:=λx c h=>kI _ _ (S.clos I.ok) (λz=>by simp at z) h
 have h2':((cap[i]?).map λo=>o.bind λj=>(σ[j]?).join)=some (some v):=by
  have:=h2
  unfold jj at this
  rw[ak] at this
  exact this
 cases ec:cap[i]? with
 | none=>rw[ec] at h2'; cases h2'
 | some o =>
  cases o with
  | none=>rw[ec] at h2'; cases h2'
  | some j =>
   rw[ec] at h2'
   obtain⟨hN,hfree⟩:=S.cap i j x ec h1
   have QT:(σ[j]?).join=some v:=aL h2'
   have hv:σ[j]?=some (some v):=by
    cases ej:σ[j]? with
    | none=>rw[ej] at QT; cases QT
    | some y =>
     cases y with
     | none=>rw[ej] at QT; cases QT
     | some z =>
      rw[ej] at QT
      have e:z=v:=aL QT
      rw[e]
   have hkind:=S.fr _ hfree rfl
   obtain⟨m0,hn0,Kc⟩:=I.loc
   obtain⟨u,r,l⟩:=Kc j x v hN hv (.inr (.inl hkind))
   refine⟨u,r,?_⟩
   rcases l with ⟨hk,_⟩ | ⟨hk,c,hc,hcell⟩
   ·have z:X.env.kindOf x=some .cell:=hkind
    rw[hk] at z; cases z
   ·obtain⟨c',hc'⟩:=Option.isSome_iff_exists.mp (AQ (env:=X.env) (x:=x) scope.names [] (.inr hfree))
    have ecc:c'=c:=by
     have:=Pf x c' hc'
     rw[hc] at this
     exact (aL this).symm
    subst ecc
    exact .inr ⟨.inl (BP I.ok.kind hkind (S.frl _ hfree rfl)),c',hc',cellK x c' _ hc hcell⟩
theorem jk.start(S:jk X scope N' cap)(I:Inv X pins σ H s)(hf:∀ b∈fp,BH X pins H b)(hex:∀ b∈fp,∃ o,s.heap.get? b=some o){h₁:Heap}{tk:Nat}{m:Str->Option Value}(hns:h₁.Ns s.heap.objs.size m)
 (kp:∀ b o,s.heap.get? b=some o->h₁.get? b=some o):Inv (kJ X scope N' fp pins s H) [] (jj cap σ) H { s with heap:=h₁,toks:=tk }:=by
 have Pf:∀ x c,(lI X.env scope.names []).lookup x=some c->X.env.cells.lookup x=some c:=λx c h=>kI _ _ (S.clos I.ok) (λz=>by simp at z) h
 have cellK:∀ {c:Addr} {v:Option Value},s.heap.IsCell c v->h₁.IsCell c v:=λ{c v} ⟨o,e,d⟩=>⟨o,kp c o e,d⟩
 refine⟨S.ok I hf hex,rfl,I.bare,Un.kept kp,⟨m,hns,λi x v h1 h2 h3=>S.look I (λ_ _ _ _ z=>cellK z) i x v h1 h2⟩,λx c h=>?_,I.hok.fresh (az _),λx c h=>I.uS x c (Pf x c h),λp hp=>?_,I.hok.kept kp,?_⟩
 ·obtain⟨v,z⟩:=I.cell x c (Pf x c h)
  exact⟨v,cellK z⟩
 ·have hp0:p∈(X.pn++pins)++[]:=hp
  have hp':p∈X.pn++pins:=by rw[bQ] at hp0; exact hp0
  obtain⟨e,n,ne,nf,d⟩:=I.pin p hp'
  refine⟨kp _ _ e,n,bu (Heap.lt_size e),λz=>?_,d⟩
  rcases br.mp (I.CO p.1 z) with q | q
  ·exact ne q
  ·exact nf q
 ·unfold jj
  rw[ah]
  exact S.len
theorem jk.again(S:jk X scope N' cap)(I:Inv X pins σ H s)(hf:∀ b∈fp,BH X pins H b){Xf:St}{H8:Hp}{s8:Shared}(I8:Inv (kJ X scope N' fp pins s H) [] Xf H8 s8):Inv (kJ X scope N' fp pins s H) [] (jj cap σ) H8 s8:=by
 obtain⟨m,hn,_⟩:=I8.loc
 refine⟨I8.ok,I8.os,I8.bare,I8.base,⟨m,hn,λi x v h1 h2 h3=>S.look I (λy c u hc hu=>?_) i x v h1 h2⟩,I8.cell,I8.free,I8.uS,I8.pin,I8.hok,?_⟩
 ·obtain⟨o,e,d⟩:=hu
  obtain⟨sl,q⟩:=I8.base.any e (I.uS y c hc) λhb=>(hf c hb).2.2.2.2.1 y c hc rfl
  exact⟨_,q,d⟩
 ·unfold jj
  rw[ah]
  exact S.len
theorem jk.back{H2 H':Hp}{s2 s3 s':Shared}{σ':St}{acc:Addr}{h'':Heap}(S:jk X scope N' cap)(I2:Inv X pins σ H2 s2)(hf:∀ b∈fp,BH X pins H2 b){o:HO}
 (e3:s3.heap.objs.size=s2.heap.objs.size + 1) (k3:∀ b u,s2.heap.get? b=some u->s3.heap.get? b=some u) (ha:acc=s2.heap.objs.size) (o3:s3.os=s2.os)
 (I':Inv (kJ X scope N' fp pins s3 (upd H2 acc o)) [] σ' H' s') (sb:Heap.SameBut s3.heap.objs.size s'.heap h''):Inv X pins σ H' { s' with heap:=h'' }:=by
 have u1:Un (frs X.stack) fp H2 (upd H2 acc o) s2.heap s3.heap:=Un.laid k3 (by rw[ha]; exact az _) (I2.hok.fresh (by rw[ha]; exact az _))
 have u2:Un (frs X.stack) fp H2 H' s2.heap s'.heap:=u1.trans I'.base
 have old:∀ b ob,s2.heap.get? b=some ob->b≠s3.heap.objs.size:=λb ob e=>by
  have:=Heap.lt_size e
  rw[e3]
  exact bu (Nat.lt_succ_of_lt this)
 have hC:H' s3.heap.objs.size=none:=I'.free
 have u3:Un (frs X.stack) fp H2 H' s2.heap h'' :=
  ⟨λb ob e n hb hx=>(sb.2 b (old b ob e)).trans (u2.keep b ob e n hb hx),λb ob e n hb hx=>by
   obtain⟨sl,q⟩:=u2.slot b ob e n hb hx
   exact⟨sl,(sb.2 b (old b ob e)).trans q⟩,u2.free,λb ob e hx=>by
   obtain⟨o',q⟩:=u2.there b ob e hx
   exact⟨o',(sb.2 b (old b ob e)).trans q⟩,u2.tups,u2.BB,u2.CN⟩
 have hok:xZ X.prog X.w H' h'':=λb ob e=>(I'.hok b ob e).stay (λc v hc q=>(sb.2 c (by
  rintro rfl
  rcases hc with z | z
  ·rw[<- z,hC] at e; cases e
  ·rw[hC] at z; cases z)).trans q) (λ_ q=>q) λ_ _ q=>q
 refine I2.W7 (s':={ s' with heap:=h'' }) (ch:=fp) (I'.os.trans o3) u3 hok I'.bare λb hb=>?_
 obtain⟨_,f1,_,f3,f4,f5⟩:=hf b hb
 exact⟨f3,f1,f4,f5⟩
def mV(X:Cx)(ifs:List Expr)(t:TT):Prop :=
 ∀ (pins:List (Addr × Obj)) (s:Shared) (σ:St) (H:Hp) (Q:Bool->Hp->Prop),Inv X pins σ H s->t σ H Q ->
  wpAny (model X.prog X.w) X.A (forIn ifs true λc r=>if r=true then do let ok <- isTrue c X.env (eval c X.env); pure (jd ok) else pure (jd r)) (TP X pins σ Q) X.xe s
def abq:TT:=λ_ H Q=>Q true H
theorem lJ:mV X [] abq:=λ_ _ _ H _ I h=>wpAny_tests_nil ⟨H,I,h⟩
theorem nN{c:Expr}{t:TT}(h:PT X c t):mV X [c] t:=λpins s σ H Q I hq=>wpAny_tests_one (h pins s σ H Q I hq)
def Xg(wi:TI)(cap:List (Option Nat))(g:TG)(tc:TT)(te:TE):TE:=λσ H Q=>wi σ H λJ H1=>∀ acc,H1 acc=none->∃ W:Nat->Nat->Hp->Prop,(∃ m,W 0 m (upd H1 acc (.lst [])))/\∀ i m H,W i m H ->
 (J.stop i H/\Q (.ref acc) H)∨(J.go i H/\∀ x H',J.Lu i H x H'->g x (jj cap σ) H' λσ2 H2=>tc σ2 H2 λb H3=>if b=true then te σ2 H3 λy H4=>∃ xs,H4 acc=some (.lst xs)/\xs.length < sizeLine /\
  ∃ m',m' < m/\W (i + 1) m' (upd H4 acc (.lst (xs++[y]))) else ∃ m',m' < m/\W (i + 1) m' H3)
theorem QU{elt target iter:PySem.Expr}{ifs:List PySem.Expr}{scope:Scope}{pos:Pos}{it acc:Value}{env:Env}{prog:Program}{w:World}{A:Around}{s:Shared}{R:Result->Shared->Prop}(I:Nat->Shared->Prop)
 (turn:∀ n s,I n s->wpAny (model prog w) A (pyNext it) (λr s₁=>match r with
  | none=>R (.ok .next) s₁
  | some v=>wpAny (model prog w) A (letOwnedTupleGo target it v) (λ_ s₀=>wpAny (model prog w) A (assign target env v) (λ_ s₂ =>
   wpAny (model prog w) A (forIn ifs true λc r=>if r=true then do let ok <- isTrue c env (eval c env); pure (jd ok) else pure (jd r)) (λok s₃=>if ok=true then wpAny (model prog w) A (eval elt env) (λx s₄ =>
    wpAny (model prog w) A (call (.builtin "list.append") [acc,x]) (λ_ s₅=>∃ m,m < n/\I m s₅) (λ_ _=>False) s₄) (λ_ _=>False) s₃
    else ∃ m,m < n/\I m s₃) (λ_ _=>False) s₂)
   (λ_ _=>False) s₀) (λ_ _=>False) s₁) (λ_ _=>False) s)
 (n:Nat) (h:I n s):codeAny (model prog w) A (.compLoop (.ListComp elt [⟨target,iter,ifs,0⟩] scope pos) 0 it acc env) R s:=by
 refine codeAny_loop rfl I (λn s hI=>?_) n h
 show wpAny _ A ((compTurn (.ListComp elt [⟨target,iter,ifs,0⟩] scope pos) 0 it acc env).onRaise (λx=>do noteFrame x env; theTreesLotGoes x)) _ _ s
 refine wpAny_noted ?_
 rw[compTurn_list]
 refine wpAny_bind (wpAny_standAt (wpAny_bind (wpAny_mono (turn n s hI) (λr s₁ h₁=>?_) λ_ _ z=>z.elim)))
 cases r with
 | none=>exact wpAny_pure h₁
 | some v =>
  refine wpAny_bind (wpAny_mono h₁ (λ_ s₀ h₀'=>?_) λ_ _ z=>z.elim)
  refine wpAny_bind (wpAny_mono h₀' (λ_ s₂ h₂=>?_) λ_ _ z=>z.elim)
  refine wpAny_bind (wpAny_mono h₂ (λokb s₃ h₃=>?_) λ_ _ z=>z.elim)
  cases okb with
  | false=>exact wpAny_pure ⟨rfl,h₃⟩
  | true=>exact wpAny_bind (wpAny_bind (wpAny_mono h₃ (λx s₄ h₄=>wpAny_bind (wpAny_mono h₄ (λ_ s₅ h₅=>wpAny_pure (wpAny_pure ⟨rfl,h₅⟩)) λ_ _ z=>z.elim)) λ_ _ z=>z.elim))
theorem FQ{elt tg iter:Expr}{ifs:List Expr}{pos:Pos}{g:TG}{tc:TT}{te:TE}{Q:VK}{s2:Shared}{H2:Hp}{it:Addr}{tn:Nat->Heap->Prop}{J:It}{E:Value->Shared->Prop}{RR:Value->Addr->Result->Shared->Prop}
 (S:jk X scope N' cap) (hc:X.calm=true) (hg:∀ fp pins s H,PG (kJ X scope N' fp pins s H) tg g) (hts:∀ fp pins s H,mV (kJ X scope N' fp pins s H) ifs tc) (he:∀ fp pins s H,PE (kJ X scope N' fp pins s H) elt te)
 (I2:Inv X pins σ H2 s2) (T:Turn X.prog X.w X.K tg J fp it tn) (st2:tn 0 s2.heap) (f2:∀ b∈fp,BH X pins H2 b)
 (h:∀ acc,H2 acc=none->∃ W:Nat->Nat->Hp->Prop,(∃ m,W 0 m (upd H2 acc (.lst [])))/\∀ i m H,W i m H ->
  (J.stop i H/\Q (.ref acc) H)∨(J.go i H/\∀ x H',J.Lu i H x H'->g x (jj cap σ) H' λσ2 H2=>tc σ2 H2 λb H3=>if b=true then te σ2 H3 λy H4=>∃ xs,H4 acc=some (.lst xs)/\xs.length < sizeLine /\
   ∃ m',m' < m/\W (i + 1) m' (upd H4 acc (.lst (xs++[y]))) else ∃ m',m' < m/\W (i + 1) m' H3))
 (hRR:∀ C s' H',(∃ m,s'.heap.Ns C m)->(∀ h'',Heap.SameBut C s'.heap h''->Inv X pins σ H' { s' with heap:=h'' })->Q (.ref s2.heap.objs.size) H'->H' C=none->s2.heap.objs.size < C ->
  RR (.ref s2.heap.objs.size) C (.ok .next) s') :
 wpAny (model X.prog X.w) X.A (newList []) (λacc s₃=>wpAny (model X.prog X.w) X.A (newFunctionEnv scope X.env.globals (lI X.env scope.names []) [] X.env.qual none .none (some X.env)) (λcenv s₄ =>
  codeAny (model X.prog X.w) X.A (.compStart (.ListComp elt [⟨tg,iter,ifs,0⟩] scope pos) 0 (.ref it) acc { cenv with scope:=relabel scope X.env }) (RR acc cenv.locals) s₄) E s₃) E s2:=by
 refine wpAny_newObj_type (wpAny_newFunctionEnv S.NN (by intro y hy; simp at hy) (λh₁ NO NP=>?_) S.kind)
 dsimp only at NO NP ⊢
 have hfr:H2 s2.heap.objs.size=none:=I2.hok.fresh (az _)
 generalize hH3:s2.heap.push { cls:=.type "list",dict:=none,data:=.seq ([]:List Value).toArray }=h3 at NO NP ⊢
 have e3:h3.objs.size=s2.heap.objs.size + 1:=by rw[<- hH3,Heap.size_push]
 have k3:∀ b u,s2.heap.get? b=some u->h3.get? b=some u:=λb u e=>by rw[<- hH3]; exact Heap.get?_push_of_some _ e
 have I3:Inv X pins σ (upd H2 s2.heap.objs.size (.lst [])) { s2 with heap:=h3,toks:=s2.toks }:=by
  refine I2.laid (t':=s2.toks) k3 (az _) ?_
  exact⟨aV _,[],0,.nil,by rw[<- hH3]; exact Heap.get?_push_size _ rfl⟩
 have f3:∀ b∈fp,BH X pins (upd H2 s2.heap.objs.size (.lst [])) b:=λb hb=>by
  obtain⟨o,e,_⟩:=T.obj _ _ st2 b hb
  exact⟨by rw[aI (bu (Heap.lt_size e))]; exact (f2 b hb).1,(f2 b hb).2⟩
 have ex3:∀ b∈fp,∃ o,h3.get? b=some o:=λb hb=>by
  obtain⟨o,e,_⟩:=T.obj _ _ st2 b hb
  exact⟨o,k3 b o e⟩
 have kp:∀ b o,h3.get? b=some o->h₁.get? b=some o:=λb o e=>NP.extBut b o (bu (Heap.lt_size e)) (Heap.get?_push_of_some _ e)
 have I4:=S.start (fp:=fp) (tk:=s2.toks + ([]:List (Str × Value)).length) I3 f3 ex3 NO kp
 have HW:tn 0 h₁:=T.keep _ _ _ st2 λb _ o e=>kp b o (k3 b o e)
 obtain⟨W,⟨m0,w0⟩,turn⟩:=h s2.heap.objs.size hfr
 let X':=kJ X scope N' fp pins { s2 with heap:=h3,toks:=s2.toks } (upd H2 s2.heap.objs.size (.lst []))
 have stat:∀ {IM:List (Addr × Obj)} {H':Hp},(∀ p∈IM,p.1 ∉ fp)->(∀ b∈fp,H' b=none)->∀ b∈fp,BH X' IM H' b:=λ{IM H'} hpn hn b hb=>by
  obtain⟨o,e⟩:=ex3 b hb
  refine⟨hn b hb,bu (Heap.lt_size e),λz=>?_,.inl hb,λx c hx=>(f3 b hb).2.2.2.2.1 x c (kI _ _ (S.clos I2.ok) (λz=>by simp at z) hx),λp hp=>?_⟩
  ·rcases br.mp (I2.CO b z) with q | q
   ·exact (f2 b hb).2.1 q
   ·exact (f2 b hb).2.2.1 q
  ·rcases aY.mp hp with q | q
   ·exact (f2 b hb).2.2.2.2.2 p q
   ·exact λz=>hpn p q (z ▸ hb)
 have loop:codeAny (model X.prog X.w) X.A (.compLoop (.ListComp elt [⟨tg,iter,ifs,0⟩] scope pos) 0 (.ref it) (.ref s2.heap.objs.size) X'.env) (RR (.ref s2.heap.objs.size) h3.objs.size) { s2 with heap:=h₁,toks:=s2.toks + ([]:List (Str × Value)).length }:=by
  refine QU (λn s'=>∃ i H',Inv X' [] (jj cap σ) H' s'/\tn i s'.heap/\(∀ b∈fp,H' b=none)/\W i n H') ?_ m0 ⟨0,_,I4,HW,λb hb=>(f3 b hb).1,w0⟩
  rintro n s5 ⟨i,H5,I5,IQ,fr5,w5⟩
  rcases turn i n H5 w5 with ⟨stop,qn⟩ | ⟨go,step⟩
  ·refine wpAny_mono (T.done X' rfl rfl rfl hc i [] s5 (jj cap σ) H5 (λ_ _=>False) I5 (stat (λ_ z=>absurd z (by simp)) fr5) IQ stop) (λr s6 ⟨hr,I6⟩=>?_) λ_ _ z=>z
   subst hr
   refine hRR _ s6 H5 ?_ (λh'' sb=>S.back I2 f2 (s3:={ s2 with heap:=h3,toks:=s2.toks }) e3 k3 rfl rfl I6 sb) qn I6.free (by rw[e3]; exact Nat.lt_succ_self _)
   obtain⟨m,hn,_⟩:=I6.loc
   exact⟨m,hn⟩
  ·refine wpAny_mono (T.item X' rfl rfl rfl hc i [] s5 (jj cap σ) H5 (λ_ _=>False) I5 (stat (λ_ z=>absurd z (by simp)) fr5) IQ go) (λr s6 ⟨u,hr,h6⟩=>?_) λ_ _ z=>z
   subst hr
   refine wpAny_mono h6 (λ_ s7 ⟨x,H7,I7,r7,y7,RV,fr7⟩=>?_) λ_ _ z=>z
   have I7':=I7.pinned (stat (λ_ z=>absurd z (by simp)) fr7) (T.obj _ _ RV)
   have again:∀ {Xf:St} {H8:Hp} {s8:Shared},Inv X' ([]++FA fp s7.heap) Xf H8 s8->(∃ m',m' < n/\W (i + 1) m' H8)->∃ m,m < n/\∃ i H',Inv X' [] (jj cap σ) H' s8/\tn i s8.heap/\(∀ b∈fp,H' b=none)/\W i m H':=λ{Xf H8 s8} I8 n8=>by
    obtain⟨m',hm,w8⟩:=n8
    have pn:∀ b∈fp,∃ o,s7.heap.get? b=some o/\s8.heap.get? b=some o/\H8 b=none:=λb hb=>by
     obtain⟨o,e,d⟩:=T.obj _ _ RV b hb
     have q:=I8.pin (b,o) (bN _ (bN _ (AO hb e)))
     exact⟨o,e,q.1,q.2.1⟩
    refine⟨m',hm,i + 1,H8,S.again I3 f3 I8.BI,T.keep _ _ _ RV λb hb o e=>?_,λb hb=>?_,w8⟩
    ·obtain⟨o',e',q,_⟩:=pn b hb
     rw[e] at e'; cases e'
     exact q
    ·obtain⟨_,_,_,q⟩:=pn b hb
     exact q
   refine wpAny_mono (hg fp pins _ _ _ s7 (jj cap σ) H7 x u _ I7' r7 (step x H7 y7)) (λ_ s8 ⟨Xf,H8,I8,q8⟩=>?_) λ_ _ z=>z
   refine wpAny_mono (hts fp pins _ _ _ s8 Xf H8 _ I8 q8) (λb s9 ⟨H9,I9,q9⟩=>?_) λ_ _ z=>z
   cases b with
   | false=>exact again I9 q9
   | true =>
    refine wpAny_mono (he fp pins _ _ _ s9 Xf H9 _ I9 q9) (λu FT ⟨y,E9,I10,r10,xs,hx,hl,q10⟩=>?_) λ_ _ z=>z
    refine wpAny_mono (eB (X:=X') _ FT Xf E9 (.ref s2.heap.objs.size) [y] (.ref s2.heap.objs.size) [u] (λ_ H'=>∃ m',m' < n/\W (i + 1) m' H') I10 rfl (.cons r10 .nil) ⟨_,xs,y,rfl,rfl,hx,hl,q10⟩) (λ_ S1 ⟨_,Pg,I11,_,q11⟩=>again I11 q11) λ_ _ z=>z
 exact codeAny_compStart_list loop (T.self _ 0 _ _ _ HW loop)
theorem gA{elt tg iter:Expr}{ifs:List Expr}{pos:Pos}{wi:TI}{g:TG}{tc:TT}{te:TE}(S:jk X scope N' cap)(hc:X.calm=true)(hi:PI X tg iter wi)(hg:∀ fp pins s H,PG (kJ X scope N' fp pins s H) tg g)
 (hts:∀ fp pins s H,mV (kJ X scope N' fp pins s H) ifs tc) (he:∀ fp pins s H,PE (kJ X scope N' fp pins s H) elt te) (hs:∀ x,foldedSetIterable iter X.env x=pure x:=by intro _; rfl) :
 PE X (.ListComp elt [⟨tg,iter,ifs,0⟩] scope pos) (Xg wi cap g tc te):=by
 intro pins s σ H Q I h
 rw[eval_ListComp]
 refine wpAny_comprehension_free (use:=none) rfl hs (Ai (S.clos I.ok)) S.kind S.loc (fV (hi pins s σ H _ I h) λv s1 h1=>fV h1 λitv s2 h2=>?_)
 obtain⟨it,fp,tn,J,H2,e,I2,T,st2,f2,hW⟩:=h2
 subst e
 refine FQ (RR:=λacc C=>compPost (model X.prog X.w) X.A X.xe none (EP X pins σ Q) acc C) S hc hg hts he I2 T st2 f2 hW ?_
 intro C s' H' ⟨m,hn⟩ hI hq _ _
 exact⟨m,hn,λh'' sb=>⟨.ref s2.heap.objs.size,H',hI h'' sb,rfl,hq⟩⟩
theorem AR{elt tg iter:Expr}{ifs:List Expr}{pos:Pos}{wi:TI}{g:TG}{tc:TT}{te:TE}{i:Nat}{x:Str}{pos' spos:Pos}(hN:X.N.Nodup)(hix:X.N[i]?=some x)(hx:Loc X.env.scope x)(S:jk X scope N' cap)(hc:X.calm=true)
 (hi:PI X tg iter wi) (hg:∀ fp pins s H,PG (kJ X scope N' fp pins s H) tg g)
 (hts:∀ fp pins s H,mV (kJ X scope N' fp pins s H) ifs tc) (he:∀ fp pins s H,PE (kJ X scope N' fp pins s H) elt te) (hs:∀ x,foldedSetIterable iter X.env x=pure x:=by intro _; rfl)
 (hsw:swapsWith (.ListComp elt [⟨tg,iter,ifs,0⟩] scope pos) (some (.Name x pos')) spos.line X.env=pure true:=by rfl) (hf:X.fn x=true∨X.env.scope.names.lookup x=some .local:=by first | exact .inl rfl | exact .inr rfl | assumption) :
 PS X (.Assign [.Name x pos'] (.ListComp elt [⟨tg,iter,ifs,0⟩] scope pos) spos) (Vc (Xg wi cap g tc te) (gX i)):=by
 intro pins s σ H D I h
 rw[exec_Assign_Name_used _ _ _ _ hsw]
 refine wpAny_bind (wpAny_standAt (wpAny_bind ?_))
 show wpAny _ X.A (do let _ <- comprehension (.ListComp elt [⟨tg,iter,ifs,0⟩] scope pos) scope X.env _ (newList []) false (eval iter X.env) (some (assign (.Name x pos') X.env))) _ _ s
 refine wpAny_bind (wpAny_mono (wpAny_comprehension_free (use:=some (assign (.Name x pos') X.env)) (Q:=λ_ s'=>SP X pins D .next s') rfl hs (Ai (S.clos I.ok)) S.kind S.loc
  (fV (hi pins s σ H _ I h) λv s1 h1=>fV h1 λitv s2 h2=>?_)) (λ_ s' hq=>wpAny_pure (wpAny_pure hq)) λ_ _ e=>e)
 obtain⟨it,fp,tn,J,H2,e,I2,T,st2,f2,hW⟩:=h2
 subst e
 refine FQ (RR:=λacc C=>compPost (model X.prog X.w) X.A X.xe (some (assign (.Name x pos') X.env)) (λ_ s'=>SP X pins D .next s') acc C) (Q:=λx H1=>gX i x σ H1 D.nx) S hc hg hts he I2 T st2 f2 hW ?_
 intro C s' H' ⟨m,hn⟩ hI hq hC hlt
 have I':Inv X pins σ H' s':=hI s'.heap (.refl ..)
 show wpAny _ _ (assign (.Name x pos') X.env (.ref s2.heap.objs.size)) _ _ s'
 refine wpAny_assign_Name (IP (v:=.ref s2.heap.objs.size) I' hN hix hx rfl (λs6 I6 ⟨a,sb,ha⟩=>?_) hf)
 have lC:∀ b,b < s2.heap.objs.size->b≠C:=λb hb=>bu (Nat.lt_trans hb hlt)
 have haC:a≠C:=by
  rcases ha with z | z
  ·rw[z]; exact lC _ I2.lt
  ·obtain⟨_,q⟩:=I2.cell x a z
   exact lC _ q.lt
 refine⟨m,hn.sameBut sb (bT haC),λh' sb'=>⟨_,H',I6.turned (t':=s6.toks) (λb o hb e=>(sb'.2 b hb).trans e) hC (bT (lC _ I2.lt)) (.inr (aO I2.sz (gR hlt))) (λy c hc'=>?_) (λp hp=>?_),hq⟩⟩
 ·obtain⟨_,q⟩:=I2.cell y c hc'
  exact lC _ q.lt
 ·exact lC _ (Heap.lt_size (I2.pin p hp).1)
end
section
variable{X:Cx}
noncomputable def Ite(K:af)(a:Addr):It :=
 ⟨λi H=>∃ xs x,bL K H a xs/\xs[i]?=some x,λi H x H'=>∃ p v,H p=none/\x = .ref p/\H'=upd H p (.tup [.int (i:Nat),v])/\∀ xs,bL K H a xs->xs[i]?=some v,λi H=>∃ xs,bL K H a xs/\xs.length<=i⟩
theorem QV{P:Program}{w:World}{K:af}{elts:List Expr}{x1}{pos:Pos}(a e it:Addr)(hne:e≠it) :
 Turn P w K (.Tuple elts x1 pos) (Ite K a) [e,it] e (λi h=>∃ old,IsEnum h e it (i:Nat) old/\h.IsListIter it a i) where
 mem:=by simp
 obj:=λi h ⟨old,st,li⟩ b hb=>by
  rcases br.mp hb with z | hb
  ·subst z
   exact⟨_,st,λv z=>by
    have z':Data.fields _=Data.cell v:=z
    cases z'⟩
  ·have z:b=it:=by simpa using hb
   subst z
   obtain⟨o,e,c,d⟩:=li
   exact⟨o,e,λv z=>by rw[d] at z; cases z⟩
 keep:=λi h h' ⟨old,st,li⟩ k=>⟨old,k e (by simp) _ st,li.at λo q=>k it (by simp) o q⟩
 item:=by
  intro X hP hw hK hc i pins s σ H E I hf ⟨old,st,li⟩ hg
  subst hP hw hK
  obtain⟨xs,x,hq,hx⟩:=hg
  obtain⟨its,rv,p,hz⟩:=I.list hq
  obtain⟨u,hu,ru⟩:=rv.get hx
  refine wpAny_pyNext_enum_item st li p.isList (x:=u) (by simpa using hu) hne λh' eo li' tu sz kp=>?_
  refine⟨_,rfl,wpAny_letOwnedTupleGo_enum eo λh2 e2 sb2=>?_⟩
  have hfr:H s.heap.objs.size=none:=I.hok.fresh (az _)
  have nE:∀ b o,H b=some o->b≠e:=λb o q z=>by rw[z,(hf e (by simp)).1] at q; cases q
  have nI:∀ b o,H b=some o->b≠it:=λb o q z=>by rw[z,(hf it (by simp)).1] at q; cases q
  have Pj:∀ b o,b≠e->b≠it->s.heap.get? b=some o->h2.get? b=some o:=λb o h1 h3 q=>(sb2.2 b h1).trans (kp b o h1 h3 q)
  have hes:e < s.heap.objs.size:=Heap.lt_size st
  have tu2:h2.get? s.heap.objs.size=some { cls:=.type "tuple",data:=.seq #[.int (i:Nat) s.toks,u] }:=(sb2.2 _ (Nat.ne_of_gt hes)).trans tu
  have li2:h2.IsListIter it a (i + 1):=li'.at λo q=>(sb2.2 it (bT hne)).trans q
  have QW:∀ b,b ∉ [e,it]->b≠e/\b≠it:=λb hb=>⟨λz=>hb (by simp[z]),λz=>hb (by simp[z])⟩
  have fre:∀ b∈[e,it],upd H s.heap.objs.size (.tup [.int (i:Nat),x]) b=none:=λb hb=>by
   obtain⟨o,q,_⟩ : ∃ o,s.heap.get? b=some o/\True:=by
    rcases br.mp hb with z | hb
    ·subst z; exact⟨_,st,trivial⟩
    ·have z:b=it:=by simpa using hb
     subst z
     obtain⟨o,q,_⟩:=li
     exact⟨o,q,trivial⟩
   rw[aI (bu (Heap.lt_size q))]
   exact (hf b hb).1
  have I1:Inv X pins σ (upd H s.heap.objs.size (.tup [.int (i:Nat),x])) { s with heap:=h2,toks:=s.toks + 1 }:=by
   refine I.step (g':=s.gens) (d':=s.drawn) (ch:=[e,it]) (λb hb=>?_) (λb o _ _ hc q _=>Pj b o (QW b hc).1 (QW b hc).2 q) (λb o _ _ hc q _=>⟨o.slots,Pj b o (QW b hc).1 (QW b hc).2 q⟩)
    (λb o _ q n=>by rw[aI (bu (Heap.lt_size q))]; exact n) (λb o hc q=>⟨o,Pj b o (QW b hc).1 (QW b hc).2 q⟩) (λb xs q=>by rw[aI (aR q hfr)]; exact q) (λb o u q=>by rw[aI (aR q hfr)]; exact q)
    (λb ps q=>⟨#[],by rw[aI (aR q hfr),q]; simp⟩) (λm hm=>?_) (λb o q=>?_) I.bare
   ·obtain⟨_,f1,_,f3,f4,f5⟩:=hf b hb
    exact⟨f3,f1,f4,f5⟩
   ·obtain⟨o,es,ep,ho,r⟩:=hm
    exact⟨o,es,ep,Pj _ o (bT (hf e (by simp)).2.1) (bT (hf it (by simp)).2.1) ho,r⟩
   ·by_cases hb:b=s.heap.objs.size
    ·subst hb
     rw[ay] at q
     cases q
     exact⟨by show 2<=sizeLine; decide,[.int (i:Nat) s.toks,u],.cons ⟨_,rfl⟩ (.cons ru .nil),⟨_,tu2,rfl,_,rfl⟩⟩
    ·rw[aI hb] at q
     refine (I.hok b o q).stay (λc v hc r=>Pj c v ?_ ?_ r) (λc r=>by rw[aI (aR r hfr)]; exact r) λc xs r=>by rw[aI (aR r hfr)]; exact r
     ·rcases hc with z | z
      ·rw[z]; exact nE b o q
      ·exact nE c _ z
     ·rcases hc with z | z
      ·rw[z]; exact nI b o q
      ·exact nI c _ z
  refine⟨.ref s.heap.objs.size,_,I1,rfl,⟨_,x,hfr,rfl,rfl,λys hy=>by rw[I.Lr hy hq]; exact hx⟩,⟨u,?_,li2⟩,fre⟩
  have e2':IsEnum h2 e it ((i:Int) + 1) u:=e2
  show IsEnum h2 e it (((i + 1:Nat):Int)) u
  rw[Int.natCast_add]
  exact e2'
 done:=by
  intro X hP hw hK hc i pins s σ H E I hf ⟨old,st,li⟩ hg
  subst hP hw hK
  obtain⟨xs,hq,hx⟩:=hg
  obtain⟨its,rv,p,hz⟩:=I.list hq
  obtain⟨f0,f1,f2,f3,f4,f5⟩:=hf it (by simp)
  have hl:=rv.length
  exact wpAny_pyNext_enum_end (I.ok.hd hc) st li p.isList (by simp; omega) λh' eb=>⟨rfl,I.turned (t':=s.toks) (λb o hb q=>eb b o hb q) f0 f1 f3 f4 f5⟩
 self:=λ_ _ _ _ _ ⟨_,st,_⟩ h=>wpAny_pyIter_enum st h
def abt(K:af)(ta:TA):TI:=λσ H R=>ta σ H λvs H1=>∃ a xs,vs = [.ref a]/\bL K H1 a xs/\R (Ite K a) H1
theorem Vv{l:Expr}{ta:TA}{p pos:Pos}{elts:List Expr}{x1}{tpos:Pos}(hg:Gl X "enumerate")(hm:X.mg "enumerate" = none)(ha:PA X [l] ta)(hs:starEach [l] X.env = [(false,eval l X.env)]:=by rfl) :
 PI X (.Tuple elts x1 tpos) (.Call (.Name "enumerate" p) [l] [] pos) (abt X.K ta):=by
 intro pins s σ H R I h
 refine Call_ (Fz I hg hm boot_enumerate (PyProof.Rows.callWith_type1 (fV (ha pos pins s σ H _ I h) λus s1 ⟨vs,H1,I1,r1,q1⟩=>?_) hs rfl))
 obtain⟨a,xs,e,hq,q⟩:=q1
 subst e
 cases r1 with
 | cons r rr =>
  cases rr
  cases r
  obtain⟨its,rv,pl,hz⟩:=I1.list hq
  refine call_enumerate_list pl.isList λh' en li sz kp=>wpAny_pyIter_enum en ?_
  have I2:Inv X pins σ H1 { s1 with heap:=h',toks:=s1.toks }:=I1.kept kp
  have fr:∀ b,s1.heap.objs.size<=b->BH X pins H1 b:=λb hb=>I1.Vd hb (I1.hok.fresh hb)
  refine⟨s1.heap.objs.size + 1,[s1.heap.objs.size + 1,s1.heap.objs.size],_,_,H1,rfl,I2,QV a _ _ (Nat.succ_ne_self _),⟨.none,en,li⟩,λb hb=>?_,q⟩
  rcases br.mp hb with z | hb
  ·subst z; exact fr _ (by omega)
  ·have z:b=s1.heap.objs.size:=by simpa using hb
   subst z; exact fr _ (by omega)
end
theorem aE.b5{K:af}{H H':Hp}{a:Addr}{xs:List V}(e:aE H H')(h:cN K H a xs):cN K H' a xs:=by
 rcases h with (h | ⟨o,h⟩) | h
 ·exact .inl (.inl (e _ _ h))
 ·exact .inl (.inr ⟨o,e _ _ h⟩)
 ·exact .inr h
theorem aE.new{H:Hp}{p:Addr}{o:HO}(h:H p=none):aE H (upd H p o):=λb u e=>by rw[aI (aR e h)]; exact e
theorem aE.out{H0 H:Hp}{p:Addr}{o:HO}(s:aE H0 H)(h:H0 p=none):aE H0 (upd H p o):=λb u e=>by rw[aI (aR e h)]; exact s b u e
mutual
def Rep(K:af)(H:Hp):PyData->V->Prop
 | .none,v=>v = .fh
 | .bool b,v=>v = .bl b
 | .int i,v=>v = .int i
 | .str x,v=>v = .str x
 | .list ds,v=>∃ a vs,v = .ref a/\bL K H a vs/\cQ K H ds vs
 | .tuple ds,v=>∃ a vs,v = .ref a/\cN K H a vs/\cQ K H ds vs
 | .dict _,_=>False
def cQ(K:af)(H:Hp):List PyData->List V->Prop
 | [],vs=>vs = []
 | d :: ds,vs=>∃ v r,vs=v :: r/\Rep K H d v/\cQ K H ds r
end
section
variable{K:af}{H H':Hp}
mutual
theorem Rep.mono(s:aE H H'):∀ {d:PyData} {v:V},Rep K H d v->Rep K H' d v
 | .none,_,h=>h
 | .bool _,_,h=>h
 | .int _,_,h=>h
 | .str _,_,h=>h
 | .list ds,_,⟨a,vs,e,q,r⟩=>⟨a,vs,e,s.seq q,cQ.mono s r⟩
 | .tuple ds,_,⟨a,vs,e,q,r⟩=>⟨a,vs,e,s.b5 q,cQ.mono s r⟩
 | .dict _,_,h=>h
theorem cQ.mono(s:aE H H'):∀ {ds:List PyData} {vs:List V},cQ K H ds vs->cQ K H' ds vs
 | [],_,h=>h
 | _ :: _,_,⟨v,r,e,q,t⟩=>⟨v,r,e,q.mono s,cQ.mono s t⟩
end
theorem cQ.length:∀ {ds:List PyData} {vs:List V},cQ K H ds vs->vs.length=ds.length
 | [],_,h=>by rw[h]; rfl
 | _ :: _,_,⟨v,r,e,_,t⟩=>by rw[e,aS,aS,cQ.length t]
theorem cQ.get:∀ {ds:List PyData} {vs:List V} {i:Nat} {d:PyData},cQ K H ds vs->ds[i]?=some d->∃ v,vs[i]?=some v/\Rep K H d v
 | [],_,_,_,_,e=>by simp at e
 | x :: ds,_,0,d,⟨v,r,e,q,t⟩,h=>by
  subst e
  have z:x=d:=by simpa using h
  subst z
  exact⟨v,rfl,q⟩
 | _ :: ds,_,i + 1,d,⟨v,r,e,q,t⟩,h=>by
  subst e
  obtain⟨y,h1,h2⟩:=cQ.get (i:=i) (d:=d) t (by simpa using h)
  exact⟨y,by simpa using h1,h2⟩
theorem jl:∀ ns:List Int,cQ K H (ns.map PyData.int) (ns.map V.int)
 | []=>rfl
 | n :: ns=>⟨.int n,_,rfl,rfl,jl ns⟩
theorem ye:∀ {ns:List Int} {vs:List V},cQ K H (ns.map PyData.int) vs->vs=ns.map V.int
 | [],_,h=>h
 | n :: ns,_,⟨v,r,e,q,t⟩=>by
  have q':v = .int n:=q
  rw[e,q',ye t]; rfl
theorem Rep.Pk{ns:List Int}{a:Addr}(h:cN K H a (ns.map V.int)):Rep K H (.tuple (ns.map .int)) (.ref a):=⟨a,_,rfl,h,jl ns⟩
theorem Rep.yf{ns:List Int}{v:V}(h:Rep K H (.tuple (ns.map .int)) v):∃ a,v = .ref a/\cN K H a (ns.map V.int):=by
 obtain⟨a,vs,e,q,r⟩:=h
 rw[ye r] at q
 exact⟨a,e,q⟩
end
section
variable{X:Cx}{pins:List (Addr × Obj)}{σ:St}{H:Hp}{s:Shared}
mutual
theorem Rep.reads(I:Inv X pins σ H s):∀ {d:PyData} {v:V} {u:Value},Rep X.K H d v->RelV v u->∃ as,Reads s.heap u d as
 | .none,_,_,h,r=>by cases h; cases r; exact⟨_,.none⟩
 | .bool b,_,_,h,r=>by cases h; cases r; exact⟨_,.bool b⟩
 | .int i,_,_,h,r=>by cases h; obtain⟨t,rfl⟩:=r; exact⟨_,.int i t⟩
 | .str x,_,_,h,r=>by cases h; obtain⟨t,rfl⟩:=r; exact⟨_,.str x t⟩
 | .list ds,_,_,⟨a,vs,e,q,t⟩,r=>by
  subst e
  cases r
  obtain⟨its,rv,⟨o,n,e1,e2,e3,e4⟩,_⟩:=I.list q
  obtain⟨as,ra⟩:=cQ.reads I t rv
  exact⟨_,.list e1 e2 e4 (by simpa using ra)⟩
 | .tuple ds,_,_,⟨a,vs,e,q,t⟩,r=>by
  subst e
  cases r
  obtain⟨its,rv,⟨o,e1,e2,n,e4⟩,_⟩:=I.tuple q
  obtain⟨as,ra⟩:=cQ.reads I t rv
  exact⟨_,.tuple e1 e2 e4 (by simpa using ra)⟩
 | .dict _,_,_,h,_=>h.elim
theorem cQ.reads(I:Inv X pins σ H s):∀ {ds:List PyData} {vs:List V} {us:List Value},cQ X.K H ds vs->b6 vs us->∃ as,ReadsAll s.heap us ds as
 | [],_,_,h,r=>by cases h; cases r; exact⟨_,.nil⟩
 | _ :: _,_,_,⟨v,w',e,q,t⟩,r=>by
  subst e
  cases r with
  | cons r1 r2 =>
   obtain⟨as,h1⟩:=q.reads I r1
   obtain⟨bs,h2⟩:=cQ.reads I t r2
   exact⟨_,.cons h1 h2⟩
end
end
section
variable{X:Cx}
def aeA(K:af)(u:Nat):R2:=λx y H Q=>∃ da db,Rep K H da x/\Rep K H db y/\da.canLay0=true/\db.canLay0=true/\u + min da.depth db.depth < cLine/\Q (.bl (PyData.eqv da db)) H
def aeB(K:af)(u:Nat):R2:=λx y H Q=>∃ da db,Rep K H da x/\Rep K H db y/\da.canLay0=true/\db.canLay0=true/\u + min da.depth db.depth < cLine/\Q (.bl (!PyData.eqv da db)) H
theorem AS:xY X (compareOp .Eq) (aeA X.K X.A.units):=by
 intro pins s σ H x y v u Q I rx ry ⟨da,db,ha,hb,ca,cb,hu,q⟩
 obtain⟨as,ra⟩:=ha.reads I rx
 obtain⟨bs,rb⟩:=hb.reads I ry
 exact SeqAt.compareEq_reads ra rb ca cb hu ⟨.bl _,H,I,rfl,q⟩
theorem NQ:xY X (compareOp .NotEq) (aeB X.K X.A.units):=by
 intro pins s σ H x y v u Q I rx ry ⟨da,db,ha,hb,ca,cb,hu,q⟩
 obtain⟨as,ra⟩:=ha.reads I rx
 obtain⟨bs,rb⟩:=hb.reads I ry
 exact SeqAt.compareNe_reads ra rb ca cb hu ⟨.bl _,H,I,rfl,q⟩
theorem FU:mX X (.builtin "isinstance") (λxs H Q=>∃ x n t b,xs = [x,.ty n]/\CU X.K H x t/\PySem.W.kitOne X.K t (.type n)=some b/\Q (.bl b) H):=by
 intro pins s σ H xs us Q I r ⟨x,n,t,b,e,ty,k,q⟩
 subst e
 obtain⟨u,w',e,ru,rw'⟩:=b6.two r
 subst e
 cases rw'
 exact QG I ru ty k λtk=>⟨.bl _,H,I.tok tk,rfl,q⟩
theorem QX(hc:X.calm=true):mX X (.type "set") (λxs H Q=>∃ (a:Addr) (ns:List Int),xs = [.ref a]/\bL X.K H a (ns.map V.int)/\ns.length + 1 < scanBound /\
 ∀ p,H p=none->Q (.ref p) (upd H p (.set (λk'=>(firstMet (λi=>ns.getD i 0) ns.length).any (· == k')) (firstMet (λi=>ns.getD i 0) ns.length).length))):=by
 intro pins s σ H xs us Q I r ⟨a,ns,e,hq,hb,q⟩
 subst e
 obtain⟨u,e,ru⟩:=b6.one r
 subst e
 cases ru
 obtain⟨its,rv,p,hz⟩:=I.list hq
 have hl:=rv.length
 rw[ah] at hl
 have esz:its.toArray.size=ns.length:=by simp[hl]
 refine call_set_list (I.ok.hd hc) p.isList (ns:=ns) (by simpa using intsAre_of rv) (by rw[esz]; exact hb) λh' tk so kp=>?_
 rw[esz] at so
 exact⟨.ref s.heap.objs.size,_,I.laid (o:=.set (λk'=>(firstMet (λi=>ns.getD i 0) ns.length).any (· == k')) (firstMet (λi=>ns.getD i 0) ns.length).length) (λb o e=>kp b o (Heap.lt_size e) e) (az _) so,rfl,q _ (I.hok.fresh (az _))⟩
theorem QY:mX X (.builtin "len") (λxs H Q=>∃ (a:Addr) (S:Int->Bool) (n:Nat),xs = [.ref a]/\H a=some (.set S n)/\Q (.int n) H):=by
 intro pins s σ H xs us Q I r ⟨a,S,n,e,hq,q⟩
 subst e
 obtain⟨u,e,ru⟩:=b6.one r
 subst e
 cases ru
 obtain⟨o,es,ep,t,e1,e2,e3,e4,e5,e6,e7,e8⟩:=(show s.heap.SetOf (intKind X.prog X.w) a S n from I.hok a _ hq)
 subst e8
 refine call_len_set e1 e2 e3 e7 ?_ ⟨.int _,H,I.tok _,⟨_,rfl⟩,q⟩
 have:es.size < 2 ^ 62:=bH e6 (by decide)
 omega
theorem QZ(hc:X.calm=true):mX X (.builtin "min") (λxs H Q=>∃ (a:Addr) (ns:List Int),xs = [.ref a]/\bL X.K H a (ns.map V.int)/\0 < ns.length/\∀ m,m∈ns->(∀ n∈ns,m<=n)->Q (.int m) H):=by
 intro pins s σ H xs us Q I r ⟨a,ns,e,hq,hne,q⟩
 subst e
 obtain⟨u,e,ru⟩:=b6.one r
 subst e
 cases ru
 obtain⟨its,rv,p,hz⟩:=I.list hq
 have hi:IntsAre its ns:=intsAre_of rv
 have hl:=p.isList
 obtain⟨xs,e⟩:=hi.allInts.items
 have hns:ns=xs.toList.map (·.1):=by
  rw[<- hi.numsOf,<- nums_intItems,<- e]
 have hsz:0 < xs.size:=by
  have h3:=hne; rw[hns,ah,fU] at h3; exact h3
 rw[e] at hl
 refine min_intList (I.ok.hd hc) hl hsz λv h' tk hv hk=>?_
 obtain⟨t,rfl⟩:=intItems_at hv
 obtain⟨h1,h2⟩:=argBest_lt (numAt xs) (xs.size - 1)
 refine⟨.int _,H,I.kept hk,⟨t,rfl⟩,q _ ?_ λa ha=>?_⟩
 ·rw[hns,numAt_eq]; exact getD_mem (by rw[ah,fU]; omega)
 ·rw[hns] at ha
  obtain⟨j,hj,rfl⟩:=mem_getD ha
  rw[ah,fU] at hj
  rw[<- numAt_eq]; exact h2 j (by omega)
end
noncomputable def Kd(scope Xh:Scope)(N0 N2:List Str)(cap:List (Option Nat)):Bool :=
 (scope.kind == .function) && (scope.names.all λy=>y.2 != .cell) && (scope.names.all λy=>y.2 != .local || scope.names.lookup y.1 == some .local) &&
 (scope.names.all λy=>y.2 != .free || Xh.names.lookup y.1 == some .cell) && (scope.names.all λy=>y.2 != .free || scope.names.lookup y.1 == some .free) && decide N2.Nodup && (cap.length == N2.length) &&
 ((au cap.length).all λi=>match cap[i]?,N2[i]? with
   | some (some j),some x=>N0[j]? == some x && scope.names.any (λy=>y.1 == x && y.2 == .free)
   | _,_=>true)
theorem Q0{X:Cx}{scope Xh:Scope}{N0 N2:List Str}{cap:List (Option Nat)}(hd:X.env.scope=Xh)(hN:X.N=N0)(h:Kd scope Xh N0 N2 cap=true):jk X scope N2 cap:=by
 unfold Kd at h
 simp only[cu] at h
 obtain⟨⟨⟨⟨⟨⟨⟨h1,h2⟩,h3⟩,h4⟩,h5⟩,h6⟩,h7⟩,h8⟩:=h
 rw[List.all_eq_true] at h2 h3 h4 h5 h8
 refine⟨by simpa using h1,λy hy e=>?_,λy hy e=>?_,λy hy e=>?_,λy hy e=>?_,of_decide_eq_true h6,by simpa using h7,λi j x e1 e2=>?_⟩
 ·have:=h2 y hy; rw[e] at this; exact absurd this (by decide)
 ·have:=h3 y hy; rw[e] at this; simpa using this
 ·have:=h4 y hy
  rw[e] at this
  show X.env.scope.names.lookup y.1=some .cell
  rw[hd]
  simpa using this
 ·have:=h5 y hy; rw[e] at this; simpa using this
 ·have hi:i < cap.length:=(ai.mp e1).1
  have q:=h8 i (bE.mpr hi)
  rw[e1,e2] at q
  simp only[cu] at q
  refine⟨by rw[hN]; simpa using q.1,?_⟩
  obtain⟨y,hy,z⟩:=vG.mp q.2
  simp only[cu] at z
  have e3:y.1=x:=by simpa using z.1
  have e4:y.2 = .free:=by simpa using z.2
  rw[<- e3,<- e4]
  exact hy
def CW(H1:Hp)(acc:Addr)(n:Nat)(P:Nat->List V->Hp->Prop):Nat->Nat->Hp->Prop :=
 λi m H=>m=n - i/\i<=n/\aE H1 H/\∃ ys,H acc=some (.lst ys)/\P i ys H
theorem gB{J:It}{n:Nat}{cap:List (Option Nat)}{g:TG}{tc:TT}{te:TE}{σ:St}{Qr:Hp->Prop}{H1:Hp}{acc:Addr}(P:Nat->List V->Hp->Prop)(hacc:H1 acc=none)
 (go:∀ i H,i < n->aE H1 H->J.go i H) (stop:∀ H,aE H1 H->J.stop n H) (h0:P 0 [] (upd H1 acc (.lst [])))
 (step:∀ i ys H,i < n->aE H1 H->H acc=some (.lst ys)->P i ys H->∀ x H',J.Lu i H x H'->g x (jj cap σ) H' λσ2 H2=>tc σ2 H2 λb H3=>if b=true then te σ2 H3 λy H4=>∃ xs,H4 acc=some (.lst xs)/\xs.length < sizeLine /\
  ∃ m',m' < n - i/\CW H1 acc n P (i + 1) m' (upd H4 acc (.lst (xs++[y]))) else ∃ m',m' < n - i/\CW H1 acc n P (i + 1) m' H3)
 (fin:∀ ys H,aE H1 H->H acc=some (.lst ys)->P n ys H->Qr H) :
 ∃ W:Nat->Nat->Hp->Prop,(∃ m,W 0 m (upd H1 acc (.lst [])))/\∀ i m H,W i m H ->
  (J.stop i H/\Qr H)∨(J.go i H/\∀ x H',J.Lu i H x H'->g x (jj cap σ) H' λσ2 H2=>tc σ2 H2 λb H3=>if b=true then te σ2 H3 λy H4=>∃ xs,H4 acc=some (.lst xs)/\xs.length < sizeLine /\
   ∃ m',m' < m/\W (i + 1) m' (upd H4 acc (.lst (xs++[y]))) else ∃ m',m' < m/\W (i + 1) m' H3):=by
 refine⟨CW H1 acc n P,⟨n,rfl,aV _,aE.new hacc,[],ay,h0⟩,?_⟩
 rintro i m H ⟨rfl,hi,s,ys,hy,p⟩
 by_cases hlt:i < n
 ·exact .inr ⟨go i H hlt s,step i ys H hlt s hy p⟩
 ·have e:i=n:=by omega
  subst e
  exact .inl ⟨stop H s,fin ys H s hy p⟩
theorem eV{H1 H4:Hp}{acc:Addr}{n i:Nat}{P:Nat->List V->Hp->Prop}{ys:List V}{y:V}(hacc:H1 acc=none)(hi:i < n)(s:aE H1 H4)(hy:H4 acc=some (.lst ys))(hl:ys.length < sizeLine)(p:P (i + 1) (ys++[y]) (upd H4 acc (.lst (ys++[y])))) :
 ∃ xs,H4 acc=some (.lst xs)/\xs.length < sizeLine/\∃ m',m' < n - i/\CW H1 acc n P (i + 1) m' (upd H4 acc (.lst (xs++[y]))) :=
 ⟨ys,hy,hl,n - (i + 1),by omega,rfl,hi,s.out hacc,_,ay,p⟩
theorem iP{H1 H3:Hp}{acc:Addr}{n i:Nat}{P:Nat->List V->Hp->Prop}{ys:List V}(hi:i < n)(s:aE H1 H3)(hy:H3 acc=some (.lst ys))(p:P (i + 1) ys H3):∃ m',m' < n - i/\CW H1 acc n P (i + 1) m' H3 :=
 ⟨n - (i + 1),by omega,rfl,hi,s,_,hy,p⟩
theorem yg{K:af}{a:Addr}{xs:List V}{H1:Hp}(h:bL K H1 a xs):∀ i H,i < xs.length->aE H1 H->(J2 K a).go i H:=λi H hi s=>⟨xs,xs[i],s.seq h,by simp[hi]⟩
theorem oz{K:af}{a:Addr}{xs:List V}{H1:Hp}(h:bL K H1 a xs):∀ H,aE H1 H->(J2 K a).stop xs.length H:=λH s=>⟨xs,s.seq h,az _⟩
theorem YZ{K:af}{a:Addr}{xs:List V}{H1:Hp}(h:bL K H1 a xs):∀ i H,i < xs.length->aE H1 H->(Ite K a).go i H:=λi H hi s=>⟨xs,xs[i],s.seq h,by simp[hi]⟩
theorem S2{K:af}{a:Addr}{xs:List V}{H1:Hp}(h:bL K H1 a xs):∀ H,aE H1 H->(Ite K a).stop xs.length H:=λH s=>⟨xs,s.seq h,az _⟩
theorem AU{lo:Int}{n:Nat}{H1:Hp}:∀ i H,i < n->aE H1 H->(Sl lo n).go i H:=λi H hi s=>hi
theorem qQ{lo:Int}{n:Nat}{H1:Hp}:∀ H,aE H1 H->(Sl lo n).stop n H:=λH s=>az n
noncomputable def hide(H:Hp)(l:Addr):Hp:=λb=>if b=l then none else H b
theorem Y3{α:Type}{xs:List α}{i:Int}{v:α}(h0:0<=i)(h:xs[i.toNat]?=some v):ED xs i=some v:=by
 obtain⟨k,rfl⟩:=Int.eq_ofNat_of_zero_le h0
 exact dM (by simpa using h)
theorem S3{ns:List Int}{i:Int}(h0:0<=i)(h:i < ns.length):ED (ns.map V.int) i=some (.int (ns.getD i.toNat 0)):=by
 have hk:i.toNat < ns.length:=by omega
 refine Y3 h0 ?_
 rw[ak,av,aa hk]
 rfl
section
variable{X:Cx}
theorem S4(K:af)(h:X.K=K):IxR X (QJ K):=by subst h; exact Pc
theorem Vw(K:af)(h:X.K=K):IxR X (SJ K):=by subst h; exact SK
theorem Vx(K:af)(h:X.K=K):SlR X (abf K):=by subst h; exact CZ
theorem vL(K:af)(h:X.K=K):xY X (compareOp .In) (rIn K false):=by subst h; exact k6
theorem Fb(K:af)(h:X.K=K){e:Expr}{f:Str}{pos:Pos}{ta:TE}(he:PE X e ta)(hb:attributeBase e f X.env (eval e X.env)=eval e X.env):PE X (.Attribute e f pos) (FG K ta f):=by subst h; exact be he hb
theorem Vy(K:af)(h:X.K=K){es:List Expr}{k:Nat}{pos:Pos}{t:Xb}{n:Nat}(hc:X.calm=true)(h':mU X es t)(hn:(assignEach es X.env).length=n:=by rfl)
 (hst:(assignEach es X.env).findIdx? (·.1)=none:=by rfl):PG X (.Tuple es k pos) (aa2 K n t):=by subst h; exact J0 hc h' hn hst
theorem Q3:mX X (.builtin "isinstance") (λxs H Q=>∃ (a:Addr) (ys:List V) (n:String) (b:Bool),xs = [.ref a,.ty n]/\cN X.K H a ys/\PySem.W.kitOne X.K (.type "tuple") (.type n)=some b/\Q (.bl b) H):=by
 intro pins s σ H xs us Q I r ⟨a,ys,n,b,e,hq,k,q⟩
 subst e
 obtain⟨u,w',e,ru,rw'⟩:=b6.two r
 subst e
 cases rw'
 cases ru
 obtain⟨its,rv,⟨o,h1,h2,_⟩,_⟩:=I.tuple hq
 exact dw PySem.W.kitx_tuple I.AM ⟨o,h1,h2⟩ k (λz=>nomatch z) λtk=>⟨.bl _,H,I.tok tk,rfl,q⟩
theorem Q4:mX X (.builtin "isinstance") (λxs H Q=>∃ (a:Addr) (ys:List V) (n:String) (b:Bool),xs = [.ref a,.ty n]/\bL X.K H a ys/\PySem.W.kitOne X.K (.type "list") (.type n)=some b/\Q (.bl b) H):=by
 intro pins s σ H xs us Q I r ⟨a,ys,n,b,e,hq,k,q⟩
 subst e
 obtain⟨u,w',e,ru,rw'⟩:=b6.two r
 subst e
 cases rw'
 cases ru
 obtain⟨its,rv,⟨o,n',h1,h2,_⟩,_⟩:=I.list hq
 exact dw PySem.W.kitx_list I.AM ⟨o,h1,h2⟩ k (λz=>nomatch z) λtk=>⟨.bl _,H,I.tok tk,rfl,q⟩
noncomputable def fY:Expr->Bool
 | .Starred _ _=>false
 | _=>true
theorem LG{e:Expr}{es:List Expr}{env:Env}(h:fY e=true):starEach (e :: es) env=(false,eval e env) :: starEach es env:=by
 cases e <;> first | rfl | (exact Bool.noConfusion h) | simp[starEach]
theorem sJ{e:Expr}{es:List Expr}{te:TE}{t:TA}(ha:PE X e te)(hr:PA X es t)(hs:fY e=true:=by rfl):PA X (e :: es) (iX te t):=Vj ha hr (LG hs)
end
theorem abu{P:Program}{w:World}{k:Key}{u:Value}(h:(dJ P w).is k u=true):RelV (kV k) u:=by
 rcases f9 (show Fx k u=true from h) with ⟨i,t,rfl,rfl⟩ | ⟨x,t,rfl,rfl⟩
 ·exact⟨t,rfl⟩
 ·exact⟨t,rfl⟩
section
variable{X:Cx}
theorem Vz{bs:List Bool}{us:List Value}(r:b6 (bs.map V.bl) us){i:Nat}{v:Value}(h:us[i]?=some v):v = .bool (bs.getD i true):=by
 have hl:=r.length
 rw[ah] at hl
 have hi:i < us.length:=(ai.mp h).1
 have e:(bs.map V.bl)[i]?=some (.bl (bs.getD i true)):=by
  rw[ak,aa (by omega),av,aa (by omega)]; rfl
 obtain⟨u,hu,ru⟩:=r.get e
 rw[h] at hu
 cases hu
 exact ru
theorem range_all(bs:List Bool):((au bs.length).all λi=>bs.getD i true)=bs.all id:=by
 rw[jf,List.all_eq_true,List.all_eq_true]
 constructor
 ·intro h x hx
  obtain⟨i,hi,e⟩:=List.getElem_of_mem hx
  have:=h i (bE.mpr hi)
  rw[av,aa hi,e] at this
  exact this
 ·intro h i hi
  have hi:=bE.mp hi
  have:=h bs[i] (aK hi)
  rw[av,aa hi]
  exact this
theorem LH(hc:X.calm=true):mX X (.builtin "all") (λxs H Q=>∃ (a:Addr) (bs:List Bool),xs = [.ref a]/\bL X.K H a (bs.map V.bl)/\Q (.bl (bs.all id)) H):=by
 intro pins s σ H xs us Q I r ⟨a,bs,e,hq,q⟩
 subst e
 obtain⟨u,e,ru⟩:=b6.one r
 subst e
 cases ru
 obtain⟨its,rv,p,hz⟩:=I.list hq
 have hl:=rv.length
 rw[ah] at hl
 refine call_all_walk (wpAny_pyIter_list p.isList ?_)
 have hlt:a < s.heap.objs.size:=by obtain⟨o,n,e,_⟩:=p; exact Heap.lt_size e
 refine⟨s.heap.objs.size,_,_,_,_,_,λi=>bs.getD i true,rfl,Walks.list (A:=X.A.in1) (show X.A.in1.handled=none from I.ok.hd hc) _ a (bu hlt) its.toArray,⟨⟨_,Heap.get?_push_size _ rfl,rfl,rfl⟩,p.isList.at λo e=>Heap.get?_push_of_some _ e⟩,?_,λh' tk hk=>?_⟩
 ·intro i v s Q E hP hQ
  have e:=Vz rv (show its[i]?=some v by simpa using hP)
  subst e
  exact wpAny_truthy_bool hQ
 ·have e:(au its.toArray.size).all (λi=>bs.getD i true)=bs.all id:=by
   rw[show its.toArray.size=bs.length by simp[hl]]
   exact range_all bs
  rw[e]
  exact⟨.bl _,H,I.kept (t':=tk) λb o e=>hk b o (by
   intro z
   have:b=s.heap.objs.size:=by simpa using z
   exact absurd (Heap.lt_size e) (by rw[this]; exact jJ _)) (Heap.get?_push_of_some _ e),rfl,q⟩
end
end L2
namespace Gr
abbrev Ps:=List (Int × Int)
def zK(ps:Ps)(k:Nat)(x y:Int):Prop:=ps[k]?=some (x,y)∨ps[k]?=some (y,x)
theorem qG{α:Type}[DecidableEq α]:∀ {xs B:List α},xs.Nodup->(∀ x∈xs,x∈B)->xs.length<=B.length
 | [],_,_,_=>aV _
 | x :: xs,B,hn,hs=>by
  have hx:=hs x bI
  have h2:∀ y∈xs,y∈B.erase x:=λy hy=>by
   have ne:y≠x:=λe=>(dB.mp hn).1 (e ▸ hy)
   exact (List.mem_erase_of_ne ne).mpr (hs y (bh _ hy))
  have h3:=qG (dB.mp hn).2 h2
  have h4:=List.length_erase_of_mem hx
  have h5:0 < B.length:=List.length_pos_of_mem hx
  rw[aS]; omega
theorem AV{α:Type}{xs:List α}{x:α}(h:xs.Nodup)(hx:x ∉ xs):(xs++[x]).Nodup:=by
 rw[fR]
 refine⟨h,by simp,λa ha b hb=>?_⟩
 have:b=x:=by simpa using hb
 rw[this]
 exact λe=>hx (e ▸ ha)
abbrev Es:=List (Int × Option (Nat × Int))
noncomputable abbrev keys(es:Es):List Int:=es.map (·.1)
noncomputable def ends(ps:Ps):List Int:=ps.flatMap λp=>[p.1,p.2]
end Gr
namespace L2
open PySem Gr
def S5(K:af)(ta:TE):TT:=λσ H Q=>ta σ H λx H'=>∃ k,YJ K x H' k/\Q k H'
theorem Q5{X:Cx}{a:Expr}{ta:TE}(ha:PE X a ta)(he:∀ whole,isTrue a X.env whole=(do let v <- whole; standAt a.pos; holding [v] (truthy v))):PT X a (S5 X.K ta):=Sy ha he
end L2
namespace L2
open PySem PySem.Spec PyProof.Rows
section
variable{X:Cx}
theorem LL:mX X (.type "range") (λxs H Q=>∃ j:Int,xs = [.int j]/\∀ p,H p=none->Q (.ref p) (upd H p (.R9 0 j))):=by
 intro pins s σ H xs us Q I r ⟨j,e,q⟩
 subst e
 obtain⟨u,e,ru⟩:=b6.one r
 subst e
 obtain⟨t,rfl⟩:=ru
 refine call_range_1 ⟨.ref s.heap.objs.size,_,I.laid (a:=s.heap.objs.size) (o:=.R9 0 j) (λb o e=>Heap.get?_push_of_some _ e) (az _) ?_,rfl,q _ (I.hok.fresh (az _))⟩
 exact⟨_,_,_,Heap.get?_push_size _ rfl⟩
theorem NR{acc:Array Value}{n:Nat}(hl:acc.size=n)(h:∀ (i:Nat) (v:Value),acc[i]?=some v->∃ t,v=Value.int (0 + (i:Int) * 1) t):b6 ((au n).map λk=>V.int (k:Nat)) acc.toList:=by
 have key:∀ (us:List Value) (m:Nat),(∀ (i:Nat) (v:Value),us[i]?=some v->∃ t,v=Value.int ((m + i:Nat):Int) t)->b6 ((List.range' m us.length).map λk=>V.int (k:Nat)) us:=by
  intro us
  induction us with
  | nil=>intro m _; exact .nil
  | cons u us ih =>
   intro m hh
   rw[aS,List.range'_succ,bg]
   refine .cons (hh 0 u rfl) (ih (m + 1) λi v e=>?_)
   obtain⟨t,q⟩:=hh (i + 1) v (by simpa using e)
   exact⟨t,by rw[q]; congr 1; omega⟩
 have:=key acc.toList 0 λi v e=>by
  obtain⟨t,q⟩:=h i v (by simpa using e)
  exact⟨t,by rw[q]; congr 1; omega⟩
 rw[fU,hl,<- List.range_eq_range'] at this
 exact this
theorem NT(hc:X.calm=true):mX X (.type "list") (λxs H Q=>∃ (p:Addr) (j:Nat),xs = [.ref p]/\H p=some (.R9 0 j)/\j<=1000/\∀ l,H l=none->Q (.ref l) (upd H l (.lst ((au j).map λk=>.int (k:Nat))))):=by
 intro pins s σ H xs us Q I r ⟨p,j,e,hp,hj,q⟩
 subst e
 obtain⟨u,e,ru⟩:=b6.one r
 subst e
 cases ru
 obtain⟨t,u,v,hr⟩:=(show gD X.prog X.w H s.heap p (.R9 0 j) from I.hok p _ hp)
 refine call_list_range (I.ok.hd hc) (n:=j) hr (small_one (by omega) (by omega) (by omega) (by omega)) (by rw[rangeSize_one]; split <;> omega) (by omega) λh' tk acc' c' hk hS hi=>?_
 obtain⟨hsz,hit⟩:=hi
 have hv:=NR hsz hit
 refine⟨.ref s.heap.objs.size,_,I.laid (a:=s.heap.objs.size) (o:=.lst ((au j).map λk=>.int (k:Nat))) hk (az _) ⟨?_,acc'.toList,c',hv,by simpa using hS⟩,rfl,q _ (I.hok.fresh (az _))⟩
 rw[ah,aZ]
 exact gR (b4 hj)
end
end L2
namespace Gr
end Gr
namespace L2
open PySem PySem.Spec PyProof.Rows
def VA(h:Heap)(e T:Addr)(cls fl:Value):Prop :=
 ∃ oe vs oT ts,h.get? e=some oe/\oe.cls=cls/\oe.dict=none/\oe.data = .fields vs/\vs[1]?=some (.ref T)/\T≠e/\h.get? T=some oT/\oT.data = .fields ts/\ts[3]?=some fl
structure Ja(F R:List Addr)(h h':Heap):Prop where
 keep:∀ b o,b ∉ F->b ∉ R->h.get? b=some o->h'.get? b=some o
 slot:∀ b o,b∈F->b ∉ R->h.get? b=some o->∃ sl,h'.get? b=some { o with slots:=sl }
theorem Ja.mono{F R R':List Addr}{h h':Heap}(t:Ja F R h h')(hs:∀ b∈R,b∈R'):Ja F R' h h' :=
 ⟨λb o h1 h2 e=>t.keep b o h1 (λz=>h2 (hs b z)) e,λb o h1 h2 e=>t.slot b o h1 (λz=>h2 (hs b z)) e⟩
theorem Ja.trans{F R:List Addr}{h h1 h2:Heap}(a:Ja F R h h1)(b:Ja F R h1 h2):Ja F R h h2 :=
 ⟨λc o q1 q2 e=>b.keep c o q1 q2 (a.keep c o q1 q2 e),λc o q1 q2 e=>by
  obtain⟨sl,e1⟩:=a.slot c o q1 q2 e
  obtain⟨sl2,e2⟩:=b.slot c _ q1 q2 e1
  exact⟨sl2,e2⟩⟩
theorem Ja.abv{F:List Addr}{h:Heap}{a:Addr}{g:Obj->Obj}:Ja F [a] h (h.update a g) :=
 ⟨λb o _ h2 e=>(Heap.get?_update_other _ _ (λz=>h2 (by simp[z]))).trans e,λb o _ h2 e=>⟨o.slots,(Heap.get?_update_other _ _ (λz=>h2 (by simp[z]))).trans e⟩⟩
theorem Q6{f:Array Value->Array Value}{o:Obj}:(Obj.mapFields f o).dict=o.dict:=by
 obtain⟨c,d,da,sl⟩:=o
 cases da <;> rfl
section
variable{M:Model}{A:Around}{E:Value->Shared->Prop}{s:Shared}{base:Heap}{env:Env}{outer:List Env}{L e:Addr}
theorem FW(hl:s.heap.FunFrames base (env :: outer)){oe:Obj}{vs:Array Value}(he:s.heap.get? e=some oe)(hd:oe.data = .fields vs):e ∉ frs (env :: outer):=λhm=>by
 obtain⟨_,o,ho,hnf⟩:=hl.mem hm
 rw[he] at ho
 cases ho
 exact hnf vs hd
theorem Jb{oe:Obj}{vs:Array Value}{head:Value}{b1:Bool}{Q:Unit->Shared->Prop}(hfr:A.frames=some (env :: outer))(hl:s.heap.FunFrames base (env :: outer))(hf:env.frame=some L)
 (he:s.heap.get? e=some oe) (hdc:oe.dict=none) (hd:oe.data = .fields vs) (hsz:1 < vs.size)
 (h:∀ h',VA h' e s.heap.objs.size oe.cls (rawInt L)->Ja (frs (env :: outer)) [e] s.heap h'->Q () { s with heap:=h' }) :
 wpAny M A (do let fv <- frameOf env; let pl <- entryPlaceOf L b1; let tb <- EntryCells.newEntry head fv .none (rawInt L) .none pl; setField (.ref e) 1 tb) Q E s:=by
 have hne:=FW hl he hd
 refine wpAny_bind (wpAny_frameOf_fun hfr hl hf λg1 so=>?_)
 obtain⟨so1,so2,so3⟩:=so
 refine wpAny_bind (wpAny_entryPlaceOf λpl okp=>?_)
 unfold EntryCells.newEntry newFields
 refine wpAny_bind (wpAny_newObj_type ?_ (okp.sizeOk5 _ _ _ _ _))
 have q1:g1.get? e=some oe:=(so2 e hne).trans he
 have nTe:g1.objs.size≠e:=Nat.ne_of_gt (Heap.lt_size q1)
 refine wpAny_setField (Heap.get?_push_of_some _ q1) hd hsz (h _ ?_ ?_)
 ·have hd':=Obj.data_mapFields hd (·.setIfInBounds 1 (Value.ref g1.objs.size))
  have qT:=(Heap.get?_update_other _ (Obj.mapFields (·.setIfInBounds 1 (Value.ref g1.objs.size))) (bT nTe)).trans (Heap.get?_push_size g1 (o:={ cls:=.type "traceback",dict:=none,data:=.fields ([head,.ref L,.none,rawInt L,.none]++(if pl.isEmpty then List.replicate 6 Value.none else pl)).toArray }) rfl)
  rw[<- so1]
  refine⟨_,_,_,_,Heap.get?_update_self _ (Heap.get?_push_of_some _ q1) (Obj.isFreed_of_fields hd'),Obj.cls_mapFields _ _,?_,hd',?_,nTe,qT,rfl,?_⟩
  ·rw[Q6]
   exact hdc
  ·simp[hsz]
  ·rcases okp with rfl | ⟨_,_,_,_,_,_,_,rfl⟩ <;> simp
 ·refine⟨λb o h1 h2 eb=>?_,λb o h1 h2 eb=>?_⟩
  ·rw[Heap.get?_update_other _ _ (λz=>h2 (by simp[z]))]
   exact Heap.get?_push_of_some _ ((so2 b h1).trans eb)
  ·obtain⟨sl,q⟩:=so3 b o eb
   refine⟨sl,?_⟩
   rw[Heap.get?_update_other _ _ (λz=>h2 (by simp[z]))]
   exact Heap.get?_push_of_some _ q
theorem NU{oe:Obj}{vs:Array Value}{Q:Unit->Shared->Prop}(hfr:A.frames=some (env :: outer))(hl:s.heap.FunFrames base (env :: outer))(hf:env.frame=some L)
 (he:s.heap.get? e=some oe) (hdc:oe.dict=none) (hd:oe.data = .fields vs) (h1:vs[1]?=some .none)
 (h:∀ h',VA h' e s.heap.objs.size oe.cls (rawInt L)->Ja (frs (env :: outer)) [e] s.heap h'->Q () { s with heap:=h' }):wpAny M A (noteFrame (.ref e) env) Q E s:=by
 unfold noteFrame
 simp only[hf]
 refine wpAny_bind (wpAny_field he hd h1 ?_)
 rw[if_neg (by decide)]
 exact Jb hfr hl hf he hdc hd (mW.mp h1).1 h
theorem Q7{T:Addr}{cls:Value}{Q:Unit->Shared->Prop}(hfr:A.frames=some (env :: outer))(hl:s.heap.FunFrames base (env :: outer))(hf:env.frame=some L)(fl:VA s.heap e T cls .none)
 (h:∀ h',VA h' e s.heap.objs.size cls (rawInt L)->Ja (frs (env :: outer)) [e,T] s.heap h'->Q () { s with heap:=h' }):wpAny M A (noteFrame (.ref e) env) Q E s:=by
 obtain⟨oe,vs,oT,ts,he,hc,hdc,hd,h1,nT,hT,Y4,h3⟩:=fl
 subst hc
 unfold noteFrame
 simp only[hf]
 refine wpAny_bind (wpAny_field he hd h1 ?_)
 rw[if_pos (by simp)]
 refine wpAny_bind (wpAny_field hT Y4 h3 ?_)
 rw[if_neg (by simp[rawInt])]
 refine wpAny_bind (wpAny_setField hT Y4 (mW.mp h3).1 ?_)
 have nTf:=FW (e:=T) hl hT Y4
 have hsz:(s.heap.update T (Obj.mapFields (·.setIfInBounds 3 Value.none))).objs.size=s.heap.objs.size:=Heap.size_after_update ..
 have other:∀ b,b≠T->(s.heap.update T (Obj.mapFields (·.setIfInBounds 3 Value.none))).get? b=s.heap.get? b:=λb hb=>Heap.get?_update_other _ _ (bT hb)
 refine Jb (s:={ s with heap:=s.heap.update T (Obj.mapFields (·.setIfInBounds 3 Value.none)) }) (base:=base) hfr (hl.of_keeps λb o hb hnf=>⟨o,(other b λz=>?_).trans hb,rfl⟩) hf ((other e (bT nT)).trans he) hdc hd (mW.mp h1).1 λh' f' t'=>?_
 ·rw[z,hT] at hb
  cases hb
  exact hnf ts Y4
 ·have f2:VA h' e s.heap.objs.size oe.cls (rawInt L):=hsz ▸ f'
  exact h h' f2 ((Ja.abv.mono (by simp)).trans (t'.mono (by simp)))
theorem D5{T:Addr}{cls fl:Value}{Q:Unit->Shared->Prop}(f:VA s.heap e T cls fl)(h:∀ h',VA h' e T cls .none->(∀ F,Ja F [T] s.heap h')->h'.objs.size=s.heap.objs.size->Q () { s with heap:=h' }) :
 wpAny M A (setFlight (.ref e) none) Q E s:=by
 obtain⟨oe,vs,oT,ts,he,hc,hdc,hd,h1,nT,hT,Y4,h3⟩:=f
 have hs3:3 < ts.size:=(mW.mp h3).1
 unfold setFlight
 refine wpAny_bind (wpAny_field he hd h1 ?_)
 rw[if_pos (by simp)]
 refine wpAny_setField hT Y4 hs3 (h _ ?_ (λF=>Ja.abv) (Heap.size_after_update ..))
 have abw:=Obj.data_mapFields Y4 (·.setIfInBounds 3 ((none:Option Addr).elim Value.none λf=>rawInt f))
 exact⟨oe,vs,_,_,(Heap.get?_update_other _ _ nT).trans he,hc,hdc,hd,h1,nT,Heap.get?_update_self _ hT (Obj.isFreed_of_fields abw),abw,by simp[hs3]⟩
end
theorem gD.there{P:Program}{w:World}{H:Hp}{h:Heap}{a:Addr}:∀ {o:HO},gD P w H h a o->∃ ob,h.get? a=some ob
 | .lst _,⟨_,_,_,_,e⟩=>⟨_,e⟩
 | .tup _,⟨_,_,_,o,e,_⟩=>⟨o,e⟩
 | .dK _,⟨_,_,_,_,o,_,_,e,_⟩=>⟨o,e⟩
 | .dT _,⟨_,_,_,_,o,_,_,e,_⟩=>⟨o,e⟩
 | .set _ _,⟨o,_,_,_,e,_⟩=>⟨o,e⟩
 | .ins _ _ _,⟨_,_,_,e,_⟩=>⟨_,e⟩
 | .own _,e=>e
 | .xd _,⟨_,n,_⟩=>let ⟨o,e,_⟩:=IT n; ⟨o,e⟩
 | .met _ _,e=>⟨_,e⟩
 | .R9 _ _,⟨_,_,_,e⟩=>⟨_,e⟩
 | .Lo o _,⟨e,_⟩=>⟨o,e⟩
 | .W1 _,e=>⟨_,e⟩
 | .ext _,⟨_,e,_⟩=>e
theorem xZ.trn{P:Program}{w:World}{H:Hp}{h h':Heap}{F R:List Addr}(ok:xZ P w H h)(t:Ja F R h h')(hF:∀ b∈F,H b=none)(hR:∀ b∈R,H b=none):xZ P w H h':=λa o e =>
 (ok a o e).stay (λb u hb q=>t.keep b u (λz=>by
  have:=hF b z
  rcases hb with rfl | hb
  ·rw[e] at this; cases this
  ·rw[hb] at this; cases this) (λz=>by
  have:=hR b z
  rcases hb with rfl | hb
  ·rw[e] at this; cases this
  ·rw[hb] at this; cases this) q) (λ_ q=>q) λ_ _ q=>q
def Rec(X:Cx)(pins:List (Addr × Obj))(H:Hp)(b:Addr):Prop :=
 H b=none/\b≠X.env.locals/\b ∉ X.fs/\X.s₀.heap.get? b=none/\(∀ x c,X.env.cells.lookup x=some c->c≠b)/\∀ p∈X.pn++pins,p.1≠b
section
variable{X:Cx}{pins:List (Addr × Obj)}{σ:St}{H H':Hp}{s:Shared}{h':Heap}
theorem Inv.VB(I:Inv X pins σ H s)(hex:X.ex = []){b:Addr}(hn:H' b=none)(hb:s.heap.get? b=none):Rec X pins H' b:=by
 refine⟨hn,λz=>?_,λz=>?_,?_,λx c e z=>?_,λp hp z=>?_⟩
 ·obtain⟨m,⟨o,_,_,ho,_⟩,_⟩:=I.loc
  rw[<- z,hb] at ho; cases ho
 ·obtain⟨_,o,ho,_⟩:=I.BD.mem z
  rw[hb] at ho; cases ho
 ·cases q:X.s₀.heap.get? b with
  | none=>rfl
  | some o =>
   obtain⟨o',e⟩:=I.base.there b o q (by rw[hex]; simp)
   rw[hb] at e; cases e
 ·obtain⟨v,o,ho,_⟩:=I.cell x c e
  rw[z,hb] at ho; cases ho
 ·have:=(I.pin p hp).1
  rw[z,hb] at this; cases this
theorem Inv.LM(I:Inv X pins σ H s)(hex:X.ex = []):Rec X pins H s.heap.objs.size:=by
 refine I.VB hex (I.hok.fresh (az _)) ?_
 cases q:s.heap.get? s.heap.objs.size with
 | none=>rfl
 | some o=>exact absurd (Heap.lt_size q) (jJ _)
theorem Inv.trn{R:List Addr}{t':Nat}(I:Inv X pins σ H s)(hR:∀ b∈R,Rec X pins H b)(t:Ja (frs X.stack) R s.heap h'):Inv X pins σ H { s with heap:=h',toks:=t' }:=by
 have hFn:∀ b∈frs X.stack,H b=none:=λb hb=>I.JX b hb
 have any:∀ b o,b ∉ R->s.heap.get? b=some o->∃ sl,h'.get? b=some { o with slots:=sl }:=λb o hr e=>by
  by_cases hb:b∈frs X.stack
  ·exact t.slot b o hb hr e
  ·exact⟨o.slots,t.keep b o hb hr e⟩
 have Xi:∀ b o,b≠X.env.locals->b ∉ X.fs->b ∉ R->s.heap.get? b=some o->h'.get? b=some o:=λb o hL hb hr e =>
  t.keep b o (λz=>(br.mp (I.CO b z)).elim hL hb) hr e
 have Yv:∀ b o,X.s₀.heap.get? b=some o->b≠X.env.locals:=λb o e=>bu (bH (Heap.lt_size e) I.ok.above)
 have neR:∀ b o,X.s₀.heap.get? b=some o->b ∉ R:=λb o e z=>by rw[(hR b z).2.2.2.1] at e; cases e
 have cellK:∀ x c,X.env.cells.lookup x=some c->∀ v,s.heap.IsCell c v->h'.IsCell c v:=λx c e v ⟨o,ho,hd⟩=>by
  obtain⟨sl,q⟩:=any c o (λz=>(hR c z).2.2.2.2.1 x c e rfl) ho
  exact⟨_,q,hd⟩
 refine⟨I.ok,I.os,I.bare,⟨λb o e n hb hx=>?_,λb o e n hb hx=>?_,I.base.free,λb o e hx=>?_,I.base.tups,I.base.BB,I.base.CN⟩,?_,λx c e=>?_,I.free,I.uS,λp hp=>?_,I.hok.trn t hFn (λb hb=>(hR b hb).1),I.len⟩
 ·exact Xi b o (Yv b o e) hb (neR b o e) (I.base.keep b o e n hb hx)
 ·obtain⟨sl,e1⟩:=I.base.slot b o e n hb hx
  obtain⟨sl',e2⟩:=any b _ (neR b o e) e1
  exact⟨sl',e2⟩
 ·obtain⟨o',e1⟩:=I.base.there b o e hx
  obtain⟨sl,e2⟩:=any b _ (neR b o e) e1
  exact⟨_,e2⟩
 ·obtain⟨m,⟨o,es,ep,ho,r⟩,hl⟩:=I.loc
  obtain⟨sl,q⟩:=any _ o (λz=>(hR _ z).2.1 rfl) ho
  refine⟨m,⟨_,es,ep,q,r⟩,λi x v e1 e2 e3=>?_⟩
  obtain⟨u,ru,l⟩:=hl i x v e1 e2 e3
  refine⟨u,ru,?_⟩
  rcases l with l | ⟨k,c,e,z⟩
  ·exact .inl l
  ·exact .inr ⟨k,c,e,cellK x c e _ z⟩
 ·obtain⟨v,z⟩:=I.cell x c e
  exact⟨v,cellK x c e v z⟩
 ·obtain⟨e,n,ne,nf,d⟩:=I.pin p hp
  exact⟨Xi p.1 p.2 ne nf (λz=>(hR p.1 z).2.2.2.2.2 p hp rfl) e,n,ne,nf,d⟩
end
def XP(X:Cx)(pins:List (Addr × Obj))(σ:St)(E:XK)(e:Value)(s':Shared):Prop :=
 ∃ ea T cls H',e = .ref ea/\Inv X pins σ H' s'/\VA s'.heap ea T cls .none/\Rec X pins H' ea/\Rec X pins H' T/\E cls none H'
def D6(P:Program)(w:World):QH:=λouter H s E e s' =>
 ∃ ea T cls H',e = .ref ea/\s'.os=s.os/\AllBare s'.gens/\Un (frs outer) [] H H' s.heap s'.heap/\xZ P w H' s'.heap/\VA s'.heap ea T cls .none/\s.heap.get? ea=none/\s.heap.get? T=none/\H' ea=none/\H' T=none/\E cls none H'
theorem aby{X:Cx}{pins:List (Addr × Obj)}{σ:St}{H:Hp}{s s':Shared}{E:XK}{e:Value}(I:Inv X pins σ H s)(hex:X.ex = [])(h:D6 X.prog X.w X.stack H s E e s'):XP X pins σ E e s':=by
 obtain⟨ea,T,cls,H',he,os,bare,un,hok,fl,n1,n2,h1,h2,q⟩:=h
 exact⟨ea,T,cls,H',he,I.W7 (ch:=[]) os un hok bare (λb z=>absurd z (by simp)),fl,I.VB hex h1 n1,I.VB hex h2 n2,q⟩
theorem S6{X:Cx}{pins:List (Addr × Obj)}{σ:St}{H:Hp}{s:Shared}{R:List Addr}{h':Heap}(I:Inv X pins σ H s)(hex:X.ex = [])(hR:∀ b∈R,Rec X pins H b)(t:Ja (frs X.stack) R s.heap h'):Un X.fs [] X.H₀ H X.s₀.heap h':=by
 have:=(I.trn (t':=s.toks) hR t).base
 rw[hex] at this
 exact this
section
variable{P:Program}{w:World}{K:af}{mg:Str->Option Value}{base:Heap}{N:List Str}{qual:Str}{scope:Scope}{f:Addr}{cd:Value}{A:Around}{outer:List Env}{s0:Shared}{H0:Hp}{E:XK}
theorem abz{pins:List (Addr × Obj)}{σ:St}{e:Value}{s:Shared}(h:XP (m6 (D6 P w) P w K mg base N qual scope f cd A outer s0 H0 E) pins σ E e s):(m6 (D6 P w) P w K mg base N qual scope f cd A outer s0 H0 E).xe e s:=by
 obtain⟨ea,T,cls,H',rfl,I,fl,r1,r2,q⟩:=h
 show wpAny _ _ (leaving _ (.ref ea)) _ _ s
 unfold leaving
 refine wpAny_bind (Q7 (base:=base) I.ok.frames I.stack rfl fl λh1 f1 t1=>?_)
 refine D5 f1 λh2 f2 t2 sz=>?_
 have rn:=I.LM rfl
 have hR:∀ b∈[ea,T,s.heap.objs.size],Rec (m6 (D6 P w) P w K mg base N qual scope f cd A outer s0 H0 E) pins H' b:=by
  intro b hb
  simp only[br,List.not_mem_nil,or_false] at hb
  rcases hb with z | z | z
  ·rw[z]; exact r1
  ·rw[z]; exact r2
  ·rw[z]; exact rn
 have t12:Ja (frs (m6 (D6 P w) P w K mg base N qual scope f cd A outer s0 H0 E).stack) [ea,T,s.heap.objs.size] s.heap h2:=(t1.mono (by simp)).trans ((t2 _).mono (by simp))
 have J:=I.trn (t':=s.toks) hR t12
 exact⟨ea,_,cls,H',rfl,I.os,I.bare,S6 I rfl hR t12,J.hok,f2,r1.2.2.2.1,rn.2.2.2.1,r1.1,rn.1,q⟩
theorem Xj:qP (D6 P w) (m6 (D6 P w) P w K mg base N qual scope f cd A outer s0 H0 E) E:=λpins σ H s e s' I h=>abz (aby I rfl h)
theorem Ng.okX{x qual:Str}{st:Stmt}{f:Addr}{fd:FuncData}{N ps:List Str}{k:Nat}{sp:Sp}(F:Ng K x qual st f fd)(S:aM N ps (aC st))(len:∀ vs H Q E,sp vs H Q E->vs.length=ps.length)
 (hbody:∀ (cdv:Value) (A:Around) (outer:List Env) (s:Shared) (H:Hp) (vs:List V) (Q:VK) (E:XK),jh k (A.deeper (envOfC qual (aC st) s.heap.objs.size f cdv))->sp vs H Q E ->
  ∃ t,iV (m6 (D6 P w) P w K mg base N qual (aC st) f cdv A outer s H E) (fF st) t/\t { nx:=λ_ H'=>Q .fh H',rt:=Q } (start N vs) H):cj P w K mg base (D6 P w) (k + 1) f fd ps sp:=by
 obtain⟨oc,od,kV,doc,pm,an,cdv,ct,osl,rfl,lk,hcd⟩:=F.ex
 exact SG lk hcd S len λA outer s H vs Q E hr RU=>hbody cdv A outer s H vs Q E hr RU
end
theorem S8{P:Program}{w:World}{X:Cx}:qP (D6 P w) X E0:=λ_ _ _ _ _ _ _ h=>by
 obtain⟨_,_,_,_,_,_,_,_,_,_,_,_,_,_,q⟩:=h
 exact q.elim
abbrev abB:List Value:=[.type "ValueError",.type "Exception",.type "BaseException",.type "object"]
structure S9(K:af)(C:Addr):Prop where
 ex:PySem.W.excIn K C abB "ValueError.__new__" = true
 ga:aG K (.ref C) "__getattribute__" = some (some (.builtin "BaseException.__getattribute__"))
 gb:aG K (.ref C) "__getattr__" = some none
 hd:tL K C=true
 ca:aG K (.ref C) "__class__" = some (some (.builtin "object.__class__"))
 cg:PySem.W.specialIn K (.builtin "object.__class__") "__get__" = some (some (.builtin "getset_descriptor.__get__"))
 ct:PySem.W.takesIn K (.builtin "object.__class__")=some true
 mo:PySem.W.mroIn K C (.type "object")=some true
 mb:PySem.W.mroIn K C (.type "BaseException")=some true
theorem VC{K:af}{h:Heap}{C:Addr}{bmB:List Value}{nw:String}(X:K.In h)(q:PySem.W.excIn K C bmB nw=true) :
 ∃ bm N nm qn bs hc sn su ab col dd k0 k1 k2 k3 k5 mN,h.get? C=some (excClassObj nm qn C N bs bm hc sn su ab col dd k0 k1 k2 k3 k5 nw)/\h.Ns N mN/\mN "__init__" = none/\OwnTail h bmB bm/\bm.contains (.type "BaseException")=bmB.contains (.type "BaseException"):=by
 unfold PySem.W.excIn at q
 split at q
 ·rename_i dd cd sl ho
  obtain⟨nm,bs,mro,ns,qn,hc,sn,su,ab,col,del⟩:=cd
  obtain⟨sl⟩:=sl
  split at q
  ·rename_i D bm k0 k1 k2 k3 n k5 hm hs
   simp only[cu,beq_iff_eq,tR] at q
   obtain⟨⟨⟨⟨⟨e1,e2⟩,e3⟩,e4⟩,e5⟩,e6⟩:=q
   dsimp only at hm hs e3 e5 e6
   subst e1 e2 hm hs e3
   have T:=PySem.W.tail_of_in X e4
   exact⟨bm,ns,nm,qn,bs,hc,sn,su,ab,col,dd,k0,k1,k2,k3,k5,h.nsMap ns,X _ _ ho,.of_isNs (PySem.W.isNs_of_in X e5),PySem.W.nsMap_none_of_in X e5 e6,T,T.hasType rfl⟩
  ·cases q
 ·cases q
section
variable{P:Program}{w:World}{K:af}{mg:Str->Option Value}{base:Heap}{N:List Str}{qual:Str}{scope:Scope}{f:Addr}{cd:Value}{A:Around}{outer:List Env}{s0:Shared}{H0:Hp}{E:XK}
theorem raised{pins:List (Addr × Obj)}{σ:St}{H:Hp}{s:Shared}{h':Heap}{e C:Addr}{vs:List Value}(I:Inv (m6 (D6 P w) P w K mg base N qual scope f cd A outer s0 H0 E) pins σ H s)(hm:Heap.MadeExcOf s.heap h' e (.ref C) vs)
 (q:E (.ref C) none H):(m6 (D6 P w) P w K mg base N qual scope f cd A outer s0 H0 E).xe (.ref e) { s with heap:=h' }:=by
 have hHe:H e=none:=by
  cases z:H e with
  | none=>rfl
  | some o =>
   obtain⟨ob,eo⟩:=(I.hok e o z).there
   rw[hm.new] at eo; cases eo
 have r1:=I.VB rfl hHe hm.new
 have I1:Inv (m6 (D6 P w) P w K mg base N qual scope f cd A outer s0 H0 E) pins σ H { s with heap:=h' }:=I.kept (t':=s.toks) hm.keeps
 obtain⟨t,he,_,_⟩:=hm.there
 show wpAny _ _ (leaving _ (.ref e)) _ _ _
 unfold leaving
 refine wpAny_bind (NU (base:=base) I1.ok.frames I1.stack rfl he rfl rfl rfl λh1 f1 t1=>?_)
 refine D5 f1 λh2 f2 t2 sz=>?_
 have rn:=I1.LM rfl
 have hR:∀ b∈[e,h'.objs.size],Rec (m6 (D6 P w) P w K mg base N qual scope f cd A outer s0 H0 E) pins H b:=by
  intro b hb
  simp only[br,List.not_mem_nil,or_false] at hb
  rcases hb with z | z
  ·rw[z]; exact r1
  ·rw[z]; exact rn
 have t12:Ja (frs (m6 (D6 P w) P w K mg base N qual scope f cd A outer s0 H0 E).stack) [e,h'.objs.size] h' h2:=(t1.mono (by simp)).trans ((t2 _).mono (by simp))
 have J:=I1.trn (t':=s.toks) hR t12
 exact⟨e,_,.ref C,H,rfl,I.os,I.bare,S6 I1 rfl hR t12,J.hok,f2,r1.2.2.2.1,rn.2.2.2.1,r1.1,rn.1,q⟩
theorem LN{x:Str}{C:Addr}{a:Expr}{np cpos pos:Pos}{te:TE}(hg:Gl (m6 (D6 P w) P w K mg base N qual scope f cd A outer s0 H0 E) x)(hm:mg x=some (.ref C))(hx:S9 K C)(hh:A.handled=none)
 (ha:PE (m6 (D6 P w) P w K mg base N qual scope f cd A outer s0 H0 E) a te) (hdb:(x == ("__debug__" : Str))=false:=by decide)
 (tr:backTo cpos (starEach [a] (m6 (D6 P w) P w K mg base N qual scope f cd A outer s0 H0 E).env) = [(false,eval a (m6 (D6 P w) P w K mg base N qual scope f cd A outer s0 H0 E).env)]:=by rfl) :
 PS (m6 (D6 P w) P w K mg base N qual scope f cd A outer s0 H0 E) (.Raise (some (.Call (.Name x np) [a] [] cpos)) none pos) (λ_ σ H=>te σ H λ_ H1=>E (.ref C) none H1):=by
 intro pins s σ H D I h
 obtain⟨bm,Nn,nm,qn,bs,hc,sn,su,ab,col,dd,k0,k1,k2,k3,k5,mN,hC,hN,hni,T,hb⟩:=VC I.ok.mod.Yt hx.ex
 refine wpAny_Raise_call_subT (C:=C) (nm:=nm) (q:=qn) (N:=Nn) (bs:=bs) (bm:=bm) (hdct:=hc) (sn:=sn) (sub:=su) (ab:=ab) (col:=col) (dd:=dd) (k0:=k0) (k1:=k1) (k2:=k2) (k3:=k3) (k5:=k5) PySem.F.excBase_ValueError (by rw[hb]; decide) hh (by rw[tr]; rfl) hni (BF I hg hm ⟨rfl,?_⟩ hdb)
 rw[tr]
 refine Calls.evalArgs_plain (Calls.spliced_cons (fV (ha pins s σ H _ I h) λv s1 ⟨y,H1,I1,ry,q1⟩=>Calls.spliced_nil ?_))
 exact⟨rfl,by show 1<=sizeLine; decide,I1.bk _ _ hC,hN.keeps I1.bk,T.keeps I1.bk,λh' e hmd=>raised I1 hmd q1⟩
end
end L2
namespace RM
structure Row where
 hd:Int
 co:Int
 ho:Int
 by_:Int
deriving DecidableEq
theorem Row.ext'{r s:Row}(h1:r.hd=s.hd)(h2:r.co=s.co)(h3:r.ho=s.ho)(h4:r.by_=s.by_):r=s:=by
 cases r; cases s; simp_all
def lt(r s:Row):Prop:=r.hd < s.hd∨(r.hd=s.hd/\(r.co < s.co∨(r.co=s.co/\(r.ho < s.ho∨(r.ho=s.ho/\r.by_ < s.by_)))))
instance (r s:Row):Decidable (lt r s):=by unfold lt; infer_instance
def le(r s:Row):Prop:=¬ lt s r
instance (r s:Row):Decidable (le r s):=by unfold le; infer_instance
theorem le_refl(r:Row):le r r:=by unfold le lt; omega
theorem Y5{a b c:Int}{N1 N2 N3:Prop}(h:¬ N1->¬ N2->¬ N3)(h1:¬ (b < a∨(b=a/\N1)))(h2:¬ (c < b∨(c=b/\N2))):¬ (c < a∨(c=a/\N3)):=by
 have n1:a<=b:=Int.not_lt.mp λy=>h1 (.inl y)
 have n2:b<=c:=Int.not_lt.mp λy=>h2 (.inl y)
 intro z
 rcases z with z | ⟨z,n⟩
 ·exact Int.not_lt.mpr (Int.le_trans n1 n2) z
 ·subst z
  have e:=Int.le_antisymm n1 n2
  subst e
  exact h (λy=>h1 (.inr ⟨rfl,y⟩)) (λy=>h2 (.inr ⟨rfl,y⟩)) n
theorem le_trans{r s t:Row}(h1:le r s)(h2:le s t):le r t :=
 Y5 (Y5 (Y5 λa b=>Int.not_lt.mpr (Int.le_trans (Int.not_lt.mp a) (Int.not_lt.mp b)))) h1 h2
theorem Xk{r s:Row}(h:lt r s):le r s:=by unfold le lt at *; omega
structure Net where
 n:Nat
 nm:Nat->Int
 a:Nat->Nat
 b:Nat->Nat
 c:Nat->Int
 live:List Nat
 inj:∀ i j,i < n->j < n->nm i=nm j->i=j
 ab:∀ k∈live,a k < n/\b k < n/\a k≠b k
 c1:∀ k∈live,1<=c k
section
variable(N:Net)
def Fc(k h g:Nat):Prop:=k∈N.live/\((N.a k=h/\N.b k=g)∨(N.b k=h/\N.a k=g))
noncomputable def own(h:Nat):Row:=⟨N.nm h,0,0,-1⟩
noncomputable def over(k:Nat)(r:Row):Row:=⟨r.hd,r.co + N.c k,r.ho + 1,k⟩
end
variable{N:Net}
theorem Fc.symm{k h g:Nat}(e:Fc N k h g):Fc N k g h:=⟨e.1,e.2.elim (λz=>.inr ⟨z.2,z.1⟩) λz=>.inl ⟨z.2,z.1⟩⟩
theorem Fc.lt{k h g:Nat}(e:Fc N k h g):h < N.n/\g < N.n/\h≠g:=by
 obtain⟨hk,e⟩:=e
 obtain⟨h1,h2,h3⟩:=N.ab k hk
 rcases e with ⟨rfl,rfl⟩ | ⟨rfl,rfl⟩
 ·exact⟨h1,h2,h3⟩
 ·exact⟨h2,h1,bT h3⟩
theorem Fc.cost{k h g:Nat}(e:Fc N k h g):1<=N.c k:=N.c1 k e.1
structure Tc(cut:Int)(R:Nat->Row)(h:Nat)(d:Row):Prop where
 one:d=own N h∨∃ k g,Fc N k h g/\(R g).ho + 1 < cut/\d=over N k (R g)
 own:le d (RM.own N h)
 all:∀ k g,Fc N k h g->(R g).ho + 1 < cut->le d (over N k (R g))
def Sane(N:Net)(R:Nat->Row):Prop:=∀ h,h < N.n->0<=(R h).ho/\(R h).ho < N.n
noncomputable def upd(R:Nat->Row)(h:Nat)(d:Row):Nat->Row:=λx=>if x=h then d else R x
structure m7(N:Net)(R:Nat->Row)(k h g:Nat):Prop where
 zK:Fc N k h g
 cut:(R g).ho + 1 < N.n
 eq:R h=over N k (R g)
theorem Fc.VD{k h g g':Nat}(a:Fc N k h g)(a':Fc N k h g'):g=g':=by
 obtain⟨hk,e⟩:=a
 obtain⟨_,e'⟩:=a'
 have:=(N.ab k hk).2.2
 omega
section
variable{R:Nat->Row}{k h g:Nat}
theorem m7.ho(t:m7 N R k h g):(R h).ho=(R g).ho + 1:=by rw[t.eq]; rfl
theorem m7.by(t:m7 N R k h g):(R h).by_=k:=by rw[t.eq]; rfl
theorem m7.uniq{k' g':Nat}(t:m7 N R k h g)(u:m7 N R k' h g'):k=k'/\g=g':=by
 have h1:=t.by
 have h2:=u.by
 have e:k=k':=by omega
 subst e
 exact⟨rfl,t.zK.VD u.zK⟩
theorem m7.one{h' g':Nat}(t:m7 N R k h g)(u:m7 N R k h' g'):h=h'/\g=g':=by
 obtain⟨hk,e⟩:=t.zK
 obtain⟨_,e'⟩:=u.zK
 have h1:=t.ho
 have h2:=u.ho
 have e3:h=h'∨(h=g'/\g=h'):=by
  rcases e with ⟨rfl,rfl⟩ | ⟨rfl,rfl⟩ <;> rcases e' with ⟨rfl,rfl⟩ | ⟨rfl,rfl⟩ <;> simp
 rcases e3 with e3 | ⟨e3,e4⟩
 ·subst e3
  exact⟨rfl,t.zK.VD u.zK⟩
 ·subst e3 e4
  omega
end
end RM
namespace RM
variable{N:Net}
end RM
namespace L2
open PySem PySem.Spec PyProof.Rows
inductive LP:List Value->List Value->Bool->Prop
 | nil:LP [] [] false
 | ne {a c:Int} {t u:Tok} {vs ws:List Value} (h:a≠c):LP (.int a t :: vs) (.int c u :: ws) (decide (a < c))
 | eq {a:Int} {t u:Tok} {vs ws:List Value} {r:Bool} (h:LP vs ws r):LP (.int a t :: vs) (.int a u :: ws) r
section
open PySem.SeqAt
open PySem.AutoSeq1 (wpAny_loadPart')
open PySem.MeetsSeq PySem.MeetsSeq2 PySem.MeetsSeq3
theorem NV(l b:Addr)(items items2:Array Value)(n n2:Nat)(dd dd2:Option Addr)(sl sl2:Array (Option Value))(r:Bool)(hi:LP items.toList items2.toList r)(hsz:items.size=items2.size) :
 Meets (Builtin.«tuple.__lt__» ⟨[.ref l,.ref b],[]⟩)
  (λ_ R s=>s.heap.get? l=some { cls:=.type "tuple",dict:=dd,data:=.seq items n,slots:=sl }/\s.heap.get? b=some { cls:=.type "tuple",dict:=dd2,data:=.seq items2 n2,slots:=sl2 } /\
   R (.ok (.ret (.bool r))) s) :=
 .of_wp λprog w A R s h=>by
  obtain⟨hp,g,d,tk,os⟩:=s; obtain⟨hl,hb,h⟩:=h
  have f2:=AutoSeq1.sub_tuple_tuple
  wp_walk using wpAny_loadPart' hl,wpAny_loadPart' hb,wpAny_forIn_list _ (λrest b s'=>b.1=none/\s' = ⟨hp,g,d,tk,os⟩/\∃ (vs ws:List Value),rest=vs.zip ws/\LP vs ws r) _
  case turn =>
   rintro⟨y,x⟩ rest b s' ⟨hb',rfl,vs,ws,hz,hx⟩
   cases hx with
   | nil=>rw[List.zip_nil_left] at hz; cases hz
   | @ne a c t u vs ws hne =>
    rw[List.zip_cons_cons] at hz
    injection hz with hyx hrest
    injection hyx with hy hx
    subst hy hx
    obtain⟨e,he,hiff⟩:=HT.LA A.in1 ⟨hp,g,d,tk,os⟩ a t c u
    refine wpAny_bind (he prog w _ _ ?_)
    cases e with
    | true=>exact absurd (hiff.mp rfl) hne
    | false =>
     have hri:=HT.SH A.in1 ⟨hp,g,d,tk,os⟩ a t c u prog w
     wp_walk using hri
     exact⟨_,rfl,by simpa using h⟩
   | @eq a t u vs ws r' hx' =>
    rw[List.zip_cons_cons] at hz
    injection hz with hyx hrest
    injection hyx with hy hx
    subst hy hx
    obtain⟨e,he,hiff⟩:=HT.LA A.in1 ⟨hp,g,d,tk,os⟩ a t a u
    refine wpAny_bind (he prog w _ _ ?_)
    cases e with
    | true =>
     wp_walk
     exact⟨rfl,rfl,_,_,hrest,hx'⟩
    | false=>exact absurd (hiff.mpr rfl) aD
  case fin =>
   rintro⟨b1,b2⟩ s' ⟨hb',rfl,vs,ws,hz,hx⟩
   simp only at hb'
   subst hb'
   cases hx with
   | nil =>
    have hv:decide (items.size < items2.size)=false:=decide_eq_false (by omega)
    rw[<- hv] at h
    wp_walk
    exact⟨_,rfl,by simpa [Builtin.Tuple.tupleCompareSizes] using h⟩
   | ne=>rw[List.zip_cons_cons] at hz; cases hz
   | eq=>rw[List.zip_cons_cons] at hz; cases hz
  case h =>
   exact⟨rfl,rfl,items.toList,items2.toList,rfl,hi⟩
end
theorem VE{prog:Program}{w:World}{A:Around}{E:Value->Shared->Prop}{s:Shared}{l b:Addr}{items items2:Array Value}{r:Bool}{Q:Value->Shared->Prop}(hl:IsTup s.heap l items)(hb:IsTup s.heap b items2)(hi:LP items.toList items2.toList r)(hsz:items.size=items2.size)
 (hu:A.units < cLine) (h:Q (.bool r) s):wpAny (model prog w) A (compareOp .Lt (.ref l) (.ref b)) Q E s:=by
 obtain⟨⟨cls,dd,data,sl⟩,ho,hc,n,hd⟩:=id hl
 obtain⟨⟨aiU,dd2,data2,sl2⟩,ho2,hc2,n2,hd2⟩:=id hb
 simp only at hc hd hc2 hd2
 subst hc hd hc2 hd2
 exact richCompare_meets_room (op:=.Lt) ⟨_,ho,rfl⟩ ⟨_,ho2,rfl⟩ PySem.F.slot_tuple_lt PySem.F.entry_tuple_lt (PySem.F.args_tuple_lt_2 _ _) (NV l b items items2 n n2 dd dd2 sl sl2 r hi hsz)
  ⟨ho,ho2,show Value.bool r≠Value.notImplemented/\Q (.bool r) s from ⟨(λx=>nomatch x),h⟩⟩ hu
inductive FY:List V->List V->Bool->Prop
 | nil:FY [] [] false
 | ne {a c:Int} {vs ws:List V} (h:a≠c):FY (.int a :: vs) (.int c :: ws) (decide (a < c))
 | eq {a:Int} {vs ws:List V} {r:Bool} (h:FY vs ws r):FY (.int a :: vs) (.int a :: ws) r
theorem FY.vals{vs ws:List V}{r:Bool}(h:FY vs ws r):∀ {us us':List Value},b6 vs us->b6 ws us'->LP us us' r:=by
 induction h with
 | nil=>intro us us' r1 r2; cases r1; cases r2; exact .nil
 | ne h =>
  intro us us' r1 r2
  cases r1 with
  | cons q1 _ =>
   cases r2 with
   | cons q2 _ =>
    obtain⟨t,rfl⟩:=q1
    obtain⟨u,rfl⟩:=q2
    exact .ne h
 | eq _ ih =>
  intro us us' r1 r2
  cases r1 with
  | cons q1 t1 =>
   cases r2 with
   | cons q2 t2 =>
    obtain⟨t,rfl⟩:=q1
    obtain⟨u,rfl⟩:=q2
    exact .eq (ih t1 t2)
section
variable{X:Cx}
def aeD(K:af):R2:=λx y H Q=>∃ a b xs ys r,x = .ref a/\y = .ref b/\cN K H a xs/\cN K H b ys/\xs.length=ys.length/\FY xs ys r/\Q (.bl r) H
theorem Y6(hu:X.A.units < cLine):xY X (compareOp .Lt) (aeD X.K):=by
 intro pins s σ H x y v u Q I rx ry h
 obtain⟨a,b,xs,ys,r,rfl,rfl,ha,hb,hl,hx,q⟩:=h
 cases rx
 cases ry
 obtain⟨its,r1,p1,_⟩:=I.tuple ha
 obtain⟨its2,r2,p2,_⟩:=I.tuple hb
 exact VE p1 p2 (hx.vals r1 r2) (by rw[aW,aW,<- r1.length,<- r2.length]; exact hl) hu ⟨.bl r,H,I,rfl,q⟩
end
end L2
namespace RM
open PySem L2
noncomputable def k7(b:Int):V:=if b < 0 then .fh else .int b
noncomputable abbrev cU(r:Row):List V:=[.int r.hd,.int r.co,.int r.ho,k7 r.by_]
theorem bC{b:Int}(h:b < 0):k7 b = .fh:=if_pos h
theorem bA{b:Int}(h:0<=b):k7 b = .int b:=if_neg (by omega)
end RM
namespace L2
open PySem PySem.Spec PyProof.Rows
end L2
namespace L2
open PySem PySem.Spec PyProof.Rows RM
end L2
namespace L2
open PySem PySem.Spec PyProof.Rows
section
variable{X:Cx}
def aeE(K:af):R2:=λx y H Q=>∃ da db,Rep K H da x/\Rep K H db y/\da.canLay0=true/\db.canLay0=true/\da.depth<=64/\Q (.bl (PyData.eqv da db)) H
theorem VF(K:af)(hK:X.K=K)(hu:X.A.units + 64 < cLine):xY X (compareOp .Eq) (aeE K):=by
 subst hK
 intro pins s σ H x y v u Q I rx ry ⟨da,db,ha,hb,ca,cb,hd,q⟩
 exact AS pins s σ H x y v u Q I rx ry ⟨da,db,ha,hb,ca,cb,cz (gV (aO (Nat.min_le_left _ _) hd) _) hu,q⟩
end
end L2
namespace RM
open PySem L2
noncomputable def RW(b:Int):PyData:=if b < 0 then .none else .int b
noncomputable def C2(r:Row):PyData:=.tuple [.int r.hd,.int r.co,.int r.ho,RW r.by_]
theorem VG{K:af}{H:Hp}(b:Int):Rep K H (RW b) (k7 b):=by
 unfold RW k7
 by_cases h:b < 0
 ·rw[if_pos h,if_pos h]; rfl
 ·rw[if_neg h,if_neg h]; rfl
theorem yh{K:af}{H:Hp}{p:Addr}{r:Row}(h:cN K H p (cU r)):Rep K H (C2 r) (.ref p) :=
 ⟨p,_,rfl,h,_,_,rfl,rfl,_,_,rfl,rfl,_,_,rfl,rfl,_,_,rfl,VG _,rfl⟩
theorem yi(r:Row):(C2 r).canLay0=true:=by
 show (true && (true && (true && ((RW r.by_).canLay0 && true))))=true
 unfold RW
 split <;> rfl
theorem Jc(r:Row):(C2 r).depth=1:=by
 show max 0 (max 0 (max 0 (max (RW r.by_).depth 0))) + 1=1
 unfold RW
 split <;> rfl
theorem LQ{r s:Row}(hr : -1<=r.by_)(hs : -1<=s.by_):PyData.eqv (C2 r) (C2 s)=decide (r=s):=by
 have e:PyData.eqv (C2 r) (C2 s)=((r.hd == s.hd) && ((r.co == s.co) && ((r.ho == s.ho) && (PyData.eqv (RW r.by_) (RW s.by_) && true)))):=rfl
 rw[e]
 have eb:PyData.eqv (RW r.by_) (RW s.by_)=decide (r.by_=s.by_):=by
  unfold RW
  by_cases h1:r.by_ < 0 <;> by_cases h2:s.by_ < 0
  ·rw[if_pos h1,if_pos h2]
   exact (decide_eq_true (by omega)).symm
  ·rw[if_pos h1,if_neg h2]
   exact (decide_eq_false (by omega)).symm
  ·rw[if_neg h1,if_pos h2]
   exact (decide_eq_false (by omega)).symm
  ·rw[if_neg h1,if_neg h2]
   show (r.by_ == s.by_)=_
   by_cases h3:r.by_=s.by_
   ·rw[decide_eq_true h3,h3]; exact beq_self_eq_true _
   ·rw[decide_eq_false h3]; exact beq_eq_false_iff_ne.mpr h3
 rw[eb]
 by_cases h:r=s
 ·subst h
  simp
 ·rw[decide_eq_false h]
  have:¬ (r.hd=s.hd/\r.co=s.co/\r.ho=s.ho/\r.by_=s.by_):=λz=>h (Row.ext' z.1 z.2.1 z.2.2.1 z.2.2.2)
  simp only[Bool.and_true]
  by_cases h1:r.hd=s.hd
  ·by_cases h2:r.co=s.co
   ·by_cases h3:r.ho=s.ho
    ·have h4:¬ r.by_=s.by_:=λz=>this ⟨h1,h2,h3,z⟩
     simp[h4]
    ·simp[h3]
   ·simp[h2]
  ·simp[h1]
end RM
namespace L2
open PySem PySem.Spec PyProof.Rows
end L2
namespace RM
open PySem L2
theorem VH{r s:Row}(h:r.hd=s.hd->r.co=s.co->r.ho=s.ho->¬ lt r s):FY [.int r.hd,.int r.co,.int r.ho] [.int s.hd,.int s.co,.int s.ho] (decide (lt r s)):=by
 obtain⟨r1,r2,r3,r4⟩:=r
 obtain⟨s1,s2,s3,s4⟩:=s
 dsimp only at h
 have fin:∀ {b b':Bool} {vs ws},FY vs ws b->b=b'->FY vs ws b':=λh e=>e ▸ h
 by_cases h1:r1=s1
 ·subst h1
  by_cases h2:r2=s2
  ·subst h2
   by_cases h3:r3=s3
   ·subst h3
    exact fin (.eq (.eq (.eq .nil))) (decide_eq_false (h rfl rfl rfl)).symm
   ·exact fin (.eq (.eq (.ne h3))) (by unfold lt; simp[h3])
  ·exact fin (.eq (.ne h2)) (by unfold lt; simp[h2])
 ·exact fin (.ne h1) (by unfold lt; simp[h1])
end RM
namespace L2
open PySem PySem.Spec PyProof.Rows
end L2
set_option maxHeartbeats 4000000
namespace TW
open PySem L2 PyProof.Rows
open RM (cU k7 bC bA)
seal L2.PE L2.PA L2.PT L2.PW L2.PS L2.iV L2.PG L2.mU L2.PI L2.mV
structure Td(n:Int)(a b c d e:Int):Prop where
 a0:0<=a
 a1:a < n
 b0:0<=b
 b1:b < n
 ab:a≠b
 c1:1<=c
 d1:1<=d
 d4:d<=4
 e1:1<=e
 e7:e<=7
noncomputable abbrev abD(a b c d e:Int):List V:=[.int a,.int b,.int c,.int d,.int e]
structure R5 where
 a:Int
 b:Int
 c:Int
 d:Int
 e:Int
noncomputable abbrev R5.vs(r:R5):List V:=abD r.a r.b r.c r.d r.e
noncomputable abbrev R5.ns(r:R5):List Int:=[r.a,r.b,r.c,r.d,r.e]
noncomputable def R5.D(r:R5):PyData:=.tuple (r.ns.map .int)
abbrev R5.Ok(n:Int)(r:R5):Prop:=Td n r.a r.b r.c r.d r.e
def FZ(K:af)(H:Hp)(l:Addr)(rs:List R5):Prop:=Rep K H (.list (rs.map R5.D)) (.ref l)
section
variable{K:af}{H H':Hp}{l:Addr}{rs:List R5}
theorem FZ.mono(s:aE H H')(h:FZ K H l rs):FZ K H' l rs:=Rep.mono s h
theorem FZ.at(h:FZ K H l rs):∃ vs,bL K H l vs/\vs.length=rs.length/\∀ (i:Nat) r,rs[i]?=some r->∃ p,vs[i]?=some (.ref p)/\cN K H p r.vs:=by
 obtain⟨a,vs,e,q,r⟩:=h
 cases e
 refine⟨vs,q,by rw[r.length,ah],λi x hx=>?_⟩
 obtain⟨v,h1,h2⟩:=r.get (i:=i) (d:=x.D) (by rw[ak,hx]; rfl)
 obtain⟨p,e,h3⟩:=Rep.yf (ns:=x.ns) h2
 subst e
 exact⟨p,h1,h3⟩
end
theorem F0:∀ (ns:List Int),ns.Nodup->(firstMet (λi=>ns.getD i 0) ns.length).length=ns.length:=by
 intro ns hn
 have e:(au ns.length).map (λi=>ns.getD i 0)=ns:=by
  apply List.ext_getElem
  ·simp
  ·intro i h1 h2
   simp at h1
   simp[av,h1]
 have key:∀ (xs acc:List Int),(acc++xs).Nodup->xs.foldl step_dedup acc=acc++xs:=by
  intro xs
  induction xs with
  | nil=>intro acc _; simp
  | cons x xs ih =>
   intro acc h
   have hx:x ∉ acc:=λhm=>by
    rw[fR] at h
    exact h.2.2 x hm x (by simp) rfl
   have e1:step_dedup acc x=acc++[x]:=by
    unfold step_dedup
    simp[hx]
   rw[lD,e1,ih _ (by simpa using h)]
   simp
 unfold firstMet
 rw[e,key ns [] (by simpa using hn)]
 simp
theorem dc{f:Str}{v:V}:∀ {fs:List (Str × V)} {names:List Str},fs.map (·.1)=names->names.contains f=false->xR f v fs=fs++[(f,v)]
 | [],_,_,_=>rfl
 | (g,u) :: r,_,e,h=>by
  subst e
  rw[bg,List.contains_cons,Bool.or_eq_false_iff] at h
  have hn:¬ g=f:=λz=>by
   have:=h.1
   rw[z] at this
   simp at this
  show (if g=f then (g,v) :: r else (g,u) :: xR f v r)=_
  rw[if_neg hn,dc rfl h.2]
  rfl
theorem zL{K:af}{H H':Hp}{p C dx:Addr}{fs:List (Str × V)}{a:Addr}{xs:List V}(k:∀ b o,H b=some o->b≠p->H' b=some o)(hp:H p=some (.ins C dx fs))(h:bL K H a xs):bL K H' a xs:=by
 rcases h with (h | ⟨o,h⟩) | h
 ·exact .inl (.inl (k _ _ h (xu h hp (by intro z; cases z))))
 ·exact .inl (.inr ⟨o,k _ _ h (xu h hp (by intro z; cases z))⟩)
 ·exact .inr h
theorem VI{K:af}{H H':Hp}{p C dx:Addr}{fs:List (Str × V)}{a:Addr}{xs:List V}(k:∀ b o,H b=some o->b≠p->H' b=some o)(hp:H p=some (.ins C dx fs))(h:cN K H a xs):cN K H' a xs:=by
 rcases h with (h | ⟨o,h⟩) | h
 ·exact .inl (.inl (k _ _ h (xu h hp (by intro z; cases z))))
 ·exact .inl (.inr ⟨o,k _ _ h (xu h hp (by intro z; cases z))⟩)
 ·exact .inr h
mutual
theorem VJ{K:af}{H H':Hp}{p C dx:Addr}{fs:List (Str × V)}(k:∀ b o,H b=some o->b≠p->H' b=some o)(hp:H p=some (.ins C dx fs)):∀ {d:PyData} {v:V},Rep K H d v->Rep K H' d v
 | .none,_,h=>h
 | .bool _,_,h=>h
 | .int _,_,h=>h
 | .str _,_,h=>h
 | .list ds,_,⟨a,vs,e,q,r⟩=>⟨a,vs,e,zL k hp q,jm k hp r⟩
 | .tuple ds,_,⟨a,vs,e,q,r⟩=>⟨a,vs,e,VI k hp q,jm k hp r⟩
 | .dict _,_,h=>h
theorem jm{K:af}{H H':Hp}{p C dx:Addr}{fs:List (Str × V)}(k:∀ b o,H b=some o->b≠p->H' b=some o)(hp:H p=some (.ins C dx fs)):∀ {ds:List PyData} {vs:List V},cQ K H ds vs->cQ K H' ds vs
 | [],_,h=>h
 | _ :: _,_,⟨v,r,e,q,t⟩=>⟨v,r,e,VJ k hp q,jm k hp t⟩
end
noncomputable abbrev aeF(ln lr:Addr)(n m:Nat):List (Str × V):=[("house_names",.ref ln),("rope_tuples",.ref lr),("size",.int n),("many",.int m)]
structure cY(K:af)(C:Addr)(H:Hp)(p ln lr:Addr)(ns:List Int)(rs:List R5):Prop where
 ob:∃ dx,H p=some (.ins C dx (aeF ln lr ns.length rs.length))
 nl:H ln=some (.lst (ns.map V.int))
 rl:∃ vs,H lr=some (.lst vs)/\cQ K H (rs.map R5.D) vs
section
variable{K:af}{C:Addr}{H H':Hp}{p ln lr:Addr}{ns:List Int}{rs:List R5}
theorem cY.mono(s:aE H H')(h:cY K C H p ln lr ns rs):cY K C H' p ln lr ns rs:=by
 obtain⟨⟨dx,h1⟩,h2,vs,h3,h4⟩:=h
 exact⟨⟨dx,s _ _ h1⟩,s _ _ h2,vs,s _ _ h3,h4.mono s⟩
end
theorem Ke(a x:Int):QK (.int a) (.int x)=decide (x=a):=by
 show (a == x)=decide (x=a)
 by_cases e:x=a
 ·rw[decide_eq_true e,e]; exact beq_self_eq_true a
 ·rw[decide_eq_false e]; exact beq_eq_false_iff_ne.mpr (bT e)
theorem qR(x:Int)(xs:List Int):D4 (.int x) (xs.map V.int)=decide (x∈xs):=by
 unfold D4
 induction xs with
 | nil=>simp
 | cons y ys ih =>
  rw[bg,List.any_cons,ih,Ke]
  by_cases h1:x=y
  ·subst h1; simp
  ·by_cases h2:x∈ys
   ·simp[h1,h2]
   ·simp[h1,h2]
theorem qH(xs:List Int):(xs.map V.int).all ya=true:=by
 rw[List.all_eq_true]
 intro v hv
 obtain⟨x,_,rfl⟩:=aN.mp hv
 rfl
noncomputable def above(xs:List Int)(x:Int):Nat:=(xs.filter λy=>decide (x<=y)).length
theorem Te{xs:List Int}{x:Int}(h:x∈xs):above xs (x + 1) < above xs x:=by
 unfold above
 induction xs with
 | nil=>cases h
 | cons y ys ih =>
  have mono:(ys.filter λy=>decide (x + 1<=y)).length<=(ys.filter λy=>decide (x<=y)).length:=by
   clear ih h
   induction ys with
   | nil=>simp
   | cons z zs ih2 =>
    simp only[fC]
    by_cases h1:x + 1<=z
    ·rw[if_pos (by simpa using h1),if_pos (by simp; omega)]; simp; exact ih2
    ·rw[if_neg (by simpa using h1)]
     split
     ·simp; omega
     ·exact ih2
  simp only[fC]
  by_cases hy:x=y
  ·subst hy
   rw[if_neg (by simp; omega),if_pos (by simp)]
   simp; omega
  ·have h2:x∈ys:=by
    rcases br.mp h with e | e
    ·exact absurd e hy
    ·exact e
   have:=ih h2
   by_cases h1:x + 1<=y
   ·rw[if_pos (by simpa using h1),if_pos (by simp; omega)]; simp; exact this
   ·rw[if_neg (by simpa using h1),if_neg (by simp; omega)]; exact this
theorem VL{n x y:Int}(hn:2<=n):0<=x % n/\x % n < n/\0<=(x % n + 1 + y % (n - 1)) % n/\(x % n + 1 + y % (n - 1)) % n < n/\x % n≠(x % n + 1 + y % (n - 1)) % n:=by
 have h1:=bR x (show n≠0 by omega)
 have h2:=bY x (show 0 < n by omega)
 have h3:=bR y (show n - 1≠0 by omega)
 have h4:=bY y (show 0 < n - 1 by omega)
 have h5:=bR (x % n + 1 + y % (n - 1)) (show n≠0 by omega)
 have h6:=bY (x % n + 1 + y % (n - 1)) (show 0 < n by omega)
 refine⟨h1,h2,h5,h6,?_⟩
 generalize x % n=a at *
 generalize y % (n - 1)=b at *
 by_cases hlt:a + 1 + b < n
 ·rw[Int.emod_eq_of_lt (by omega) hlt]; omega
 ·rw[<- Int.sub_emod_right,Int.emod_eq_of_lt (by omega) (by omega)]; omega
theorem Y7{c:TT}{t u r:TS}{D:Ends}{σ:L2.St}{H:Hp}(J:L2.St->Hp->Prop)(hn:∀ σ H,J σ H->r D σ H)(h:(∀ σ H,J σ H->r D σ H)->Sh c t u { D with nx:=r D } σ H):Sf (Sh c t u) r D σ H:=h hn
theorem NX{K:af}{a:Addr}{xs:List V}{H1:Hp}(h:cN K H1 a xs):∀ i H,i < xs.length->aE H1 H->(Itt K a).go i H:=λi H hi s=>⟨xs,xs[i],s.b5 h,by simp[hi]⟩
theorem F7{K:af}{a:Addr}{xs:List V}{H1:Hp}(h:cN K H1 a xs):∀ H,aE H1 H->(Itt K a).stop xs.length H:=λH s=>⟨xs,s.b5 h,az _⟩
structure C3(n m:Nat)(r:RM.Row):Prop where
 hd:0<=r.hd
 co:0<=r.co
 ho:0<=r.ho/\r.ho < n
 by_:r.by_ = -1∨(0<=r.by_/\r.by_ < m)
noncomputable abbrev bO(ks:List Nat):List V:=ks.map λk=>V.int (k:Nat)
theorem ir(ks:List Nat)(k:Nat):bO (ks++[k])=bO ks++[V.int (k:Nat)]:=by
 unfold bO
 rw[aJ]
 rfl
theorem VM{K:af}{H:Hp}{q a:Addr}{xs ys:List V}{o:HO}(hq:H q=some (.lst xs))(h:cN K H a ys):cN K (upd H q o) a ys:=by
 rcases h with (h | ⟨ob,h⟩) | h
 ·exact .inl (.inl (by rw[aI (xu h hq (by intro z; cases z))]; exact h))
 ·exact .inl (.inr ⟨ob,by rw[aI (xu h hq (by intro z; cases z))]; exact h⟩)
 ·exact .inr h
noncomputable def aU(ns:List Int)(rs:List R5)(live:List Nat)(nd:ns.Nodup)(ok:∀ r∈rs,r.Ok ns.length)(hl:∀ k∈live,k < rs.length):RM.Net where
 n:=ns.length
 nm i:=ns.getD i 0
 a k:=((rs[k]?).map λr=>r.a.toNat).getD 0
 b k:=((rs[k]?).map λr=>r.b.toNat).getD 0
 c k:=((rs[k]?).map λr=>r.c).getD 0
 live:=live
 inj i j hi hj e:=by
  have e1:ns.getD i 0=ns[i]:=by simp[av,hi]
  have e2:ns.getD j 0=ns[j]:=by simp[av,hj]
  have e:ns[i]=ns[j]:=by rw[<- e1,<- e2]; exact e
  exact (tO hi nd).mp (by rw[aa hi,aa hj,e])
 ab k hk:=by
  have h:=hl k hk
  have o:=ok _ (aK h)
  simp only[aa h,Option.map_some,Option.getD_some]
  have h1:=o.a0; have h2:=o.a1; have h3:=o.b0; have h4:=o.b1; have h5:=o.ab
  exact⟨by omega,by omega,by omega⟩
 c1 k hk:=by
  have h:=hl k hk
  have o:=ok _ (aK h)
  simp only[aa h,Option.map_some,Option.getD_some]
  exact o.c1
def vM(K:af)(H:Hp)(l:Addr)(n:Nat)(R:Nat->RM.Row):Prop:=∃ ps:List Addr,bL K H l (ps.map V.ref)/\ps.length=n/\∀ (i:Nat) p,ps[i]?=some p->cN K H p (cU (R i))
theorem vM.mono{K:af}{H H':Hp}{l:Addr}{n:Nat}{R:Nat->RM.Row}(s:aE H H')(h:vM K H l n R):vM K H' l n R:=by
 obtain⟨ps,h1,h2,h3⟩:=h
 exact⟨ps,s.seq h1,h2,λi p e=>s.b5 (h3 i p e)⟩
theorem jS:∀ ns:List Int,PyData.canLayAll0 (ns.map .int)=true
 | []=>rfl
 | n :: ns=>by
  show (PyData.canLay0 (.int n) && PyData.canLayAll0 (ns.map .int))=true
  rw[jS ns]; rfl
theorem qI:∀ ns:List Int,PyData.depthAll (ns.map .int)=0
 | []=>rfl
 | n :: ns=>by
  show max (PyData.depth (.int n)) (PyData.depthAll (ns.map .int))=0
  rw[qI ns]; rfl
theorem Ga(xs:List V)(i:Nat):x9 xs (some (i:Int)) none=xs.drop i:=by
 unfold x9
 rw[HT.BK]
 show (xs.drop (min i xs.length)).take (xs.length - min i xs.length)=_
 by_cases h:i<=xs.length
 ·rw[Nat.min_eq_left h,List.take_of_length_le (by rw[List.length_drop]; exact az _)]
 ·rw[Nat.min_eq_right (by omega),List.drop_of_length_le (az _),List.drop_of_length_le (by omega)]
  simp
section
variable{ns:List Int}{rs:List R5}{live:List Nat}{nd:ns.Nodup}{ok:∀ r∈rs,r.Ok ns.length}{hl:∀ k∈live,k < rs.length}
def vN(n m:Nat)(R:Nat->RM.Row):Prop:=∀ i,i < n->C3 n m (R i)
theorem vN.Y8{m:Nat}{R:Nat->RM.Row}(h:vN ns.length m R):RM.Sane (aU ns rs live nd ok hl) R:=λi hi=>(h i hi).ho
theorem VN{R:Nat->RM.Row}{h:Nat}{d:RM.Row}(hR:vN ns.length rs.length R)(hh:h < ns.length)(h0:∀ x∈ns,0<=x)(i:RM.Tc (N:=aU ns rs live nd ok hl) ns.length R h d):C3 ns.length rs.length d:=by
 rcases i.one with e | ⟨k,g,a,c,e⟩
 ·rw[e]
  have en:(aU ns rs live nd ok hl).nm h=ns[h]:=by show ns.getD h 0=_; simp[av,hh]
  refine⟨?_,Int.le_refl _,⟨Int.le_refl _,?_⟩,.inl rfl⟩
  ·show 0<=(aU ns rs live nd ok hl).nm h
   rw[en]
   exact h0 _ (aK hh)
  ·show (0:Int) < ns.length
   omega
 ·have f:=hR g a.lt.2.1
  have c1:=a.cost
  have hk:k < rs.length:=hl k a.1
  rw[e]
  refine⟨f.hd,?_,⟨?_,c⟩,.inr ⟨?_,?_⟩⟩
  ·show 0<=(R g).co + (aU ns rs live nd ok hl).c k
   have:=f.co
   omega
  ·show 0<=(R g).ho + 1
   have:=f.ho.1
   omega
  ·show (0:Int)<=(k:Nat); omega
  ·show ((k:Nat):Int) < (rs.length:Nat); omega
end
theorem C3.by1{n m:Nat}{r:RM.Row}(h:C3 n m r) : -1<=r.by_:=by have:=h.by_; omega
noncomputable def isAt(rs:List R5)(h:Int)(i:Nat):Bool:=match rs[i]? with | some r=>decide (h=r.a) || decide (h=r.b) | none=>false
noncomputable def RX(rs:List R5)(h:Int)(n:Nat):List Nat:=(au n).filter (isAt rs h)
theorem LR(rs:List R5)(h:Int)(n:Nat):RX rs h (n + 1)=RX rs h n++(if isAt rs h n then [n] else []):=by
 unfold RX
 rw[gk,kZ]
 congr 1
 by_cases h':isAt rs h n=true
 ·rw[if_pos h']; simp[h']
 ·rw[if_neg h']; simp[h']
theorem VO(rs:List R5)(h:Int)(n:Nat):(RX rs h n).length<=n:=by
 have:=bW (isAt rs h) (au n)
 rw[aZ] at this
 exact this
theorem Y9(x a b:Int):D4 (V.int x) [V.int a,V.int b]=(decide (x=a) || decide (x=b)):=by
 show (QK (.int a) (.int x) || (QK (.int b) (.int x) || false))=_
 rw[Ke,Ke,Bool.or_false]
theorem jn(ks:List Nat):bO ks=(ks.map λk:Nat=>(k:Int)).map V.int:=by
 unfold bO
 rw[cC]
 rfl
theorem gm(x:Nat)(xs:List Nat):D4 (.int (x:Nat)) (bO xs)=decide (x∈xs):=by
 rw[jn,qR]
 by_cases h:x∈xs
 ·rw[decide_eq_true h]
  exact decide_eq_true (aN.mpr ⟨x,h,rfl⟩)
 ·rw[decide_eq_false h]
  refine decide_eq_false λz=>h ?_
  obtain⟨y,hy,e⟩:=aN.mp z
  have:y=x:=by omega
  exact this ▸ hy
theorem eF(xs:List Nat):(bO xs).all ya=true:=by rw[jn]; exact qH _
theorem Tf(rs:List R5)(h:Int)(n:Nat):(RX rs h n).Pairwise (· < ·):=List.Pairwise.filter _ List.pairwise_lt_range
theorem VP{ks:List Nat}(h:ks.Pairwise (· < ·)){j:Nat}(hj:j < ks.length){k:Nat}(hk:k∈ks.take j):k < ks[j]:=by
 obtain⟨i,hi,e⟩:=List.getElem_of_mem hk
 rw[bZ] at hi
 rw[List.getElem_take] at e
 rw[<- e]
 exact List.pairwise_iff_getElem.mp h i j (by omega) hj (by omega)
theorem zM{rs:List R5}{h:Int}{n k:Nat}:k∈RX rs h n↔k < n/\isAt rs h k=true:=by
 unfold RX
 rw[bM,bE]
section
variable{ns:List Int}{rs:List R5}{live:List Nat}{nd:ns.Nodup}{ok:∀ r∈rs,r.Ok ns.length}{hl:∀ k∈live,k < rs.length}
noncomputable def fz(r:R5)(h:Nat):Nat:=(if (h:Int)=r.a then r.b else r.a).toNat
theorem sM{k h g:Nat}(hk:k∈live):RM.Fc (aU ns rs live nd ok hl) k h g↔isAt rs (h:Int) k=true/\g=fz (rs[k]'(hl k hk)) h:=by
 have hlt:=hl k hk
 have o:=ok _ (aK hlt)
 have e1:rs[k]?=some rs[k]:=aa hlt
 have ea:(aU ns rs live nd ok hl).a k=rs[k].a.toNat:=by show ((rs[k]?).map λr=>r.a.toNat).getD 0=_; rw[e1]; rfl
 have eb:(aU ns rs live nd ok hl).b k=rs[k].b.toNat:=by show ((rs[k]?).map λr=>r.b.toNat).getD 0=_; rw[e1]; rfl
 unfold RM.Fc isAt fz
 rw[ea,eb,e1]
 dsimp only
 generalize rs[k]=r at o
 have h1:=o.a0; have h2:=o.b0; have h3:=o.ab
 constructor
 ·rintro⟨_,⟨q1,q2⟩ | ⟨q1,q2⟩⟩
  ·have z:(h:Int)=r.a:=by omega
   rw[if_pos z]
   exact⟨by simp[z],q2.symm⟩
  ·have z:(h:Int)=r.b:=by omega
   rw[if_neg (by omega)]
   exact⟨by simp[z],q2.symm⟩
 ·rintro⟨q1,q2⟩
  refine⟨hk,?_⟩
  have q1:(h:Int)=r.a∨(h:Int)=r.b:=by simpa using q1
  by_cases z:(h:Int)=r.a
  ·rw[if_pos z] at q2
   exact .inl ⟨by omega,q2.symm⟩
  ·rw[if_neg z] at q2
   exact .inr ⟨by omega,q2.symm⟩
end
theorem Tg(ns:List Int)(a b:Nat):∃ cs:List Int,x9 (ns.map V.int) (some (a:Int)) (some (b:Int))=cs.map V.int/\cs.length<=b - a:=by
 refine⟨(ns.drop (HT.jH ns.length 0 (some (a:Int)))).take (HT.jH ns.length ns.length (some (b:Int)) - HT.jH ns.length 0 (some (a:Int))),?_,?_⟩
 ·unfold x9
  rw[ah,List.map_take,List.map_drop]
 ·rw[HT.BK,HT.BK,bZ,List.length_drop]
  omega
theorem Fd{α:Type}{xs:List α}{x y:α}{j:Nat}(h:(xs++[x])[j]?=some y):xs[j]?=some y∨(j=xs.length/\y=x):=by
 by_cases hj:j < xs.length
 ·rw[bB hj] at h
  exact .inl h
 ·have:=(ai.mp h).1
  rw[aB] at this
  have e:j=xs.length:=by have:j < xs.length + 1:=this; omega
  subst e
  rw[bD (az _),dX] at h
  cases h
  exact .inr ⟨rfl,rfl⟩
theorem Po{n i:Nat}(h:i < n):Vl n (i:Int)=some i:=by
 unfold Vl
 rw[if_pos (by omega),if_pos (by omega)]
 simp
section
variable{ns:List Int}{rs:List R5}{live:List Nat}{nd:ns.Nodup}{ok:∀ r∈rs,r.Ok ns.length}{hl:∀ k∈live,k < rs.length}
theorem abE{k:Nat}(h:k < rs.length):(aU ns rs live nd ok hl).c k=rs[k].c:=by
 show ((rs[k]?).map λr=>r.c).getD 0=_
 rw[aa h]; rfl
end
end TW
namespace TW
open PySem L2 PyProof.Rows
theorem bF{a b:TS}{D:Ends}{σ:L2.St}{H:Hp}(h:∀ N:L2.St->Hp->Prop,(∀ σ' H',b D σ' H'->N σ' H')->a { D with nx:=N } σ H):Sf a b D σ H:=h _ λ_ _ x=>x
theorem iu{K:af}{H:Hp}{Q:VK}{p:Addr}{xs:List V}{i:Int}{v:V}(h:bL K H p xs)(e:ED xs i=some v)(k:Q v H):QJ K (.ref p) (.int i) H Q:=⟨p,xs,i,v,rfl,rfl,h,e,k⟩
theorem VQ{K:af}{σ:L2.St}{H:Hp}{Q:VK}{p:Addr}{xs:List V}{i:Int}{v:V}(h:bL K H p xs)(e:ED xs i=some v)(k:Q v H):tC (.int i) σ H λy H2=>QJ K (.ref p) y H2 Q:=⟨p,xs,i,v,rfl,rfl,h,e,k⟩
theorem c8{K:af}{σ:L2.St}{H:Hp}{Q:VK}{p:Addr}{xs:List V}{i:Int}{v:V}(h:cN K H p xs)(e:ED xs i=some v)(k:Q v H):tC (.int i) σ H λy H2=>SJ K (.ref p) y H2 Q:=⟨p,xs,i,v,rfl,rfl,h,e,k⟩
theorem vO{c:TT}{t u r:TS}{D:Ends}{σ:L2.St}{H:Hp}(J:L2.St->Hp->Prop)(hn:∀ σ H,J σ H->r D σ H)(h:∀ N:L2.St->Hp->Prop,(∀ σ H,J σ H->N σ H)->Sh c t u { D with nx:=N } σ H):Sf (Sh c t u) r D σ H:=h _ hn
theorem qS{lo:Int}{n:Nat}{g:TG}{tb:TS}{D:Ends}{σ:L2.St}{H:Hp}(Pv:Nat->L2.St->Hp->Prop)(h0:Pv 0 σ H)
 (hs:∀ i σ H (N:L2.St->Hp->Prop),(∀ σ' H',Pv (i + 1) σ' H'->N σ' H')->i < n->Pv i σ H->g (.int (lo + i)) σ H λσ2 H2=>tb { D with nx:=N,ct:=N,bk:=D.nx } σ2 H2) (hd:∀ σ H,Pv n σ H->D.nx σ H) :
 ∃ W:Nat->Nat->L2.St->Hp->Prop,(∃ m,W 0 m σ H)/\∀ i m σ H,W i m σ H ->
  ((Sl lo n).stop i H/\D.nx σ H)∨((Sl lo n).go i H/\∃ N:L2.St->Hp->Prop,(∀ σ' H',N σ' H'->∃ m',m' < m/\W (i + 1) m' σ' H')/\∀ x H',(Sl lo n).Lu i H x H'->g x σ H' λσ2 H2=>tb { D with nx:=N,ct:=N,bk:=D.nx } σ2 H2) :=
 uU Pv h0 (λi σ H hi p=>hs i σ H _ (λ_ _ x=>x) hi p) hd
theorem zN{K:af}{a:Addr}{xs:List V}{g:TG}{tb:TS}{D:Ends}{σ:L2.St}{H:Hp}(Pv:Nat->L2.St->Hp->Prop)(h0:Pv 0 σ H)(hl:∀ i σ H,i<=xs.length->Pv i σ H->bL K H a xs)
 (hs:∀ i x σ H (N:L2.St->Hp->Prop),(∀ σ' H',Pv (i + 1) σ' H'->N σ' H')->xs[i]?=some x->Pv i σ H->g x σ H λσ2 H2=>tb { D with nx:=N,ct:=N,bk:=D.nx } σ2 H2) (hd:∀ σ H,Pv xs.length σ H->D.nx σ H) :
 ∃ W:Nat->Nat->L2.St->Hp->Prop,(∃ m,W 0 m σ H)/\∀ i m σ H,W i m σ H ->
  ((J2 K a).stop i H/\D.nx σ H)∨((J2 K a).go i H/\∃ N:L2.St->Hp->Prop,(∀ σ' H',N σ' H'->∃ m',m' < m/\W (i + 1) m' σ' H')/\∀ x H',(J2 K a).Lu i H x H'->g x σ H' λσ2 H2=>tb { D with nx:=N,ct:=N,bk:=D.nx } σ2 H2) :=
 qN Pv h0 hl (λi x σ H hi p=>hs i x σ H _ (λ_ _ x=>x) hi p) hd
end TW
namespace TW
open PySem L2 PyProof.Rows
open RM (cU k7 bC bA)
seal L2.PE L2.PA L2.PT L2.PW L2.PS L2.iV L2.PG L2.mU L2.PI L2.mV
section
open Classical
noncomputable def yj(N:RM.Net)(R:Nat->RM.Row)(h:Nat):Option (Nat × Nat) :=
 if e:∃ p:Nat × Nat,RM.m7 N R p.1 h p.2 then some (choose e) else none
end
theorem sN{N:RM.Net}{R:Nat->RM.Row}{h k g:Nat}:yj N R h=some (k,g)↔RM.m7 N R k h g:=by
 unfold yj
 constructor
 ·intro e
  split at e
  ·rename_i q
   have:=Classical.choose_spec q
   rw[aL e] at this
   exact this
  ·cases e
 ·intro t
  have q:∃ p:Nat × Nat,RM.m7 N R p.1 h p.2:=⟨(k,g),t⟩
  rw[dif_pos q]
  have u:=Classical.choose_spec q
  obtain⟨e1,e2⟩:=u.uniq t
  exact congrArg some (Prod.ext e1 e2)
theorem LU{N:RM.Net}{R:Nat->RM.Row}{h:Nat}(q:∀ k g,¬ RM.m7 N R k h g):yj N R h=none:=by
 cases e:yj N R h with
 | none=>rfl
 | some p=>exact absurd (sN.mp e) (q p.1 p.2)
def tU(K:af)(H:Hp)(v:V):Option (Nat × Nat)->Prop
 | none=>v = .fh
 | some p=>∃ t,v = .ref t/\cN K H t [.int (p.1:Nat),.int (p.2:Nat)]
theorem tU.mono{K:af}{H H':Hp}{v:V}{o:Option (Nat × Nat)}(s:aE H H')(h:tU K H v o):tU K H' v o:=by
 cases o with
 | none=>exact h
 | some p =>
  obtain⟨t,e,q⟩:=h
  exact⟨t,e,s.b5 q⟩
theorem tU.lst{K:af}{H:Hp}{v:V}{o:Option (Nat × Nat)}{l:Addr}{xs:List V}{ob:HO}(hl:H l=some (.lst xs))(h:tU K H v o):tU K (upd H l ob) v o:=by
 cases o with
 | none=>exact h
 | some p =>
  obtain⟨t,e,q⟩:=h
  exact⟨t,e,VM hl q⟩
def Za(K:af)(H:Hp)(l:Addr)(n:Nat)(u:Nat->Option (Nat × Nat)):Prop:=∃ vs:List V,H l=some (.lst vs)/\vs.length=n/\∀ (i:Nat) v,vs[i]?=some v->tU K H v (u i)
section
variable{ns:List Int}{rs:List R5}{live:List Nat}{nd:ns.Nodup}{ok:∀ r∈rs,r.Ok ns.length}{hl:∀ k∈live,k < rs.length}
theorem Th{R:Nat->RM.Row}{k h:Nat}(hk:k∈live):(∃ g,RM.m7 (aU ns rs live nd ok hl) R k h g)↔isAt rs (h:Int) k=true/\(R (fz (rs[k]'(hl k hk)) h)).ho + 1 < ns.length/\R h=RM.over (aU ns rs live nd ok hl) k (R (fz (rs[k]'(hl k hk)) h)):=by
 constructor
 ·rintro⟨g,t⟩
  obtain⟨q1,q2⟩:=(sM hk).mp t.zK
  subst q2
  exact⟨q1,t.cut,t.eq⟩
 ·rintro⟨q1,q2,q3⟩
  exact⟨_,(sM hk).mpr ⟨q1,rfl⟩,q2,q3⟩
theorem Zb{R:Nat->RM.Row}{k h g:Nat}(t:RM.m7 (aU ns rs live nd ok hl) R k h g):g=fz (rs[k]'(hl k t.zK.1)) h:=((sM t.zK.1).mp t.zK).2
theorem NY{k h:Nat}(hk:k < rs.length)(ok:∀ r∈rs,r.Ok ns.length):fz rs[k] h < ns.length:=by
 have o:=ok _ (aK hk)
 have h1:=o.a0; have h2:=o.a1; have h3:=o.b0; have h4:=o.b1
 unfold fz
 split <;> omega
theorem Pp{k h:Nat}(hk:k < rs.length)(ok:∀ r∈rs,r.Ok ns.length):(if (h:Int)=rs[k].a then rs[k].b else rs[k].a)=((fz rs[k] h:Nat):Int):=by
 have o:=ok _ (aK hk)
 have h1:=o.a0; have h2:=o.b0
 unfold fz
 split <;> omega
end
theorem aeH{x y z i:Int}(lo hi:Int)(hx:lo<=x/\x<=hi)(hy:lo<=y/\y<=hi)(hz:lo<=z/\z<=hi)(h0:0<=i)(h3:i < 3):∃ w,(lo<=w/\w<=hi)/\ED [V.int x,V.int y,V.int z] i=some (.int w):=by
 have:i=0∨i=1∨i=2:=by omega
 rcases this with rfl | rfl | rfl
 ·exact⟨x,hx,rfl⟩
 ·exact⟨y,hy,rfl⟩
 ·exact⟨z,hz,rfl⟩
theorem VR(xs:List Nat):D4 .fh (bO xs)=false:=by
 unfold D4
 rw[Bool.eq_false_iff]
 intro h
 obtain⟨x,hx,e⟩:=vG.mp h
 obtain⟨y,_,rfl⟩:=aN.mp hx
 cases e
end TW
namespace L2
open PySem PySem.Spec PyProof.Rows
theorem BQ{us:List Value}{ns:List Int}(h:IntsAre us ns):b6 (ns.map V.int) us:=by
 induction h with
 | nil=>exact .nil
 | cons n t _ ih=>exact .cons ⟨t,rfl⟩ ih
section
variable{X:Cx}
def VS(K:af):List V->Hp->VK->Prop:=λxs H Q=>∃ (a:Addr) (ns:List Int),xs = [.ref a]/\bL K H a (ns.map V.int)/\ns.length < 64/\∀ l (ns':List Int),H l=none->ns'.Perm ns->ns'.Pairwise (·<=·)->Q (.ref l) (upd H l (.lst (ns'.map V.int)))
theorem yk:mX X (.builtin "sorted") (VS X.K):=by
 intro pins s σ H xs us Q I r ⟨a,ns,e,hq,h64,q⟩
 subst e
 obtain⟨u,e,ru⟩:=b6.one r
 subst e
 cases ru
 obtain⟨its,rv,p,hz⟩:=I.list hq
 have hi:IntsAre its ns:=intsAre_of rv
 have hlen:=IntsAre.length hi
 refine sorted_ints (vs:=its) p.isList hi (by omega) λout ns' a1 a2 a3=>?_
 obtain⟨e,he⟩:=sortedAll_at s.heap its out
 refine⟨.ref (s.heap.objs.size + 1),_,I.laid (a:=s.heap.objs.size + 1) (o:=.lst (ns'.map V.int)) (t':=s.toks) (λb o e=>sortedAll_old e) (eS _) ⟨?_,out.toList,e,BQ a1,?_⟩,rfl,q _ ns' (I.hok.fresh (eS _)) a2 a3⟩
 ·rw[ah,a2.length_eq]
  exact gR (b4 (by omega))
 ·rw[he]
end
end L2
namespace TW
open PySem L2 PyProof.Rows
open RM (cU k7 bC bA)
seal L2.PE L2.PA L2.PT L2.PW L2.PS L2.iV L2.PG L2.mU L2.PI L2.mV
theorem Jd:∀ {xs ys:List Nat},xs.Pairwise (· < ·)->ys.Pairwise (· < ·)->(∀ k,k∈xs↔k∈ys)->xs=ys
 | [],[],_,_,_=>rfl
 | [],y :: ys,_,_,h=>absurd ((h y).mpr bI) (by simp)
 | x :: xs,[],_,_,h=>absurd ((h x).mp bI) (by simp)
 | x :: xs,y :: ys,hx,hy,h=>by
  have hx1:=List.pairwise_cons.mp hx
  have hy1:=List.pairwise_cons.mp hy
  have e:x=y:=by
   rcases br.mp ((h x).mp bI) with z | z
   ·exact z
   ·rcases br.mp ((h y).mpr bI) with w | w
    ·exact w.symm
    ·have:=hy1.1 x z
     have:=hx1.1 y w
     omega
  subst e
  rw[Jd hx1.2 hy1.2 λk=>?_]
  constructor
  ·intro z
   rcases br.mp ((h k).mp (bh _ z)) with w | w
   ·have:=hx1.1 k z; omega
   ·exact w
  ·intro z
   rcases br.mp ((h k).mpr (bh _ z)) with w | w
   ·have:=hy1.1 k z; omega
   ·exact w
theorem m7.lt{N:RM.Net}{R:Nat->RM.Row}{k h g:Nat}(t:RM.m7 N R k h g):h < N.n/\g < N.n:=⟨t.zK.lt.1,t.zK.lt.2.1⟩
def ie(N:RM.Net)(R:Nat->RM.Row)(os:List Nat):Prop:=os.Pairwise (· < ·)/\∀ k,k∈os↔∃ h g,RM.m7 N R k h g
theorem ie.uniq{N:RM.Net}{R:Nat->RM.Row}{xs ys:List Nat}(a:ie N R xs)(b:ie N R ys):xs=ys:=Jd a.1 b.1 λk=>(a.2 k).trans (b.2 k).symm
theorem LV{ks:List Nat}{ms:List Int}(p:ms.Perm (ks.map λk:Nat=>(k:Int)))(pw:ms.Pairwise (·<=·))(nd:ks.Nodup):∃ os:List Nat,ms.map V.int=bO os/\os.Pairwise (· < ·)/\(∀ k,k∈os↔k∈ks)/\os.length=ks.length:=by
 have nn:∀ m∈ms,∃ k:Nat,m=(k:Int)/\k∈ks:=λm hm=>by
  obtain⟨k,hk,e⟩:=aN.mp (p.mem_iff.mp hm)
  exact⟨k,e.symm,hk⟩
 have e1:(ms.map Int.toNat).map (λk:Nat=>(k:Int))=ms:=by
  rw[cC]
  conv=>rhs; rw[<- List.map_id ms]
  apply dF
  intro m hm
  obtain⟨k,e,_⟩:=nn m hm
  rw[e]
  rfl
 have ndm:ms.Nodup:=by
  refine p.nodup_iff.mpr ?_
  unfold List.Nodup
  rw[tN]
  exact nd.imp λh e=>h (by omega)
 refine⟨ms.map Int.toNat,?_,?_,λk=>?_,by rw[ah,p.length_eq,ah]⟩
 ·rw[jn,e1]
 ·rw[tN]
  have both:=List.pairwise_and_iff.mpr ⟨pw,ndm⟩
  refine List.Pairwise.imp_of_mem (λ{a b} ha hb h=>?_) both
  obtain⟨x,ex,_⟩:=nn a ha
  obtain⟨y,ey,_⟩:=nn b hb
  have h1:=h.1
  have h2:=h.2
  omega
 ·constructor
  ·intro hk
   obtain⟨m,hm,e⟩:=aN.mp hk
   obtain⟨y,ey,hy⟩:=nn m hm
   rw[ey] at e
   have:y=k:=by rw[<- e]; rfl
   exact this ▸ hy
  ·intro hk
   have:((k:Nat):Int)∈ms:=p.mem_iff.mpr (aN.mpr ⟨k,hk,rfl⟩)
   exact aN.mpr ⟨_,this,rfl⟩
end TW
namespace TW
open PySem L2 PyProof.Rows Gr
open RM (cU k7 bC bA)
section
variable{ns:List Int}{rs:List R5}{live:List Nat}{nd:ns.Nodup}{ok:∀ r∈rs,r.Ok ns.length}{hl:∀ k∈live,k < rs.length}
theorem Ti{R:Nat->RM.Row}{os:List Nat}(O:ie (aU ns rs live nd ok hl) R os):∀ k∈os,k < rs.length:=λk hk=>by
 obtain⟨h,g,t⟩:=(O.2 k).mp hk
 exact hl k t.zK.1
end
end TW
namespace L2
open PySem PySem.Calls PySem.Spec PyProof.Rows PyProof.V PySem.W
end L2
namespace Gr
end Gr
namespace TW
open PySem L2 PyProof.Rows Gr
end TW
namespace L2
open PySem PySem.Calls PySem.Spec PyProof.Rows PyProof.V PySem.W
end L2
namespace TW
open PySem L2 PyProof.Rows Gr
end TW
namespace TW
open PySem L2 PyProof.Rows
noncomputable def stand(b:List Bool):List Nat:=(au b.length).filter λk=>b.getD k false
structure Pq(C:Addr)(H:Hp)(p tp lu:Addr)(ws:List (List Nat)):Prop where
 ob:∃ dx,H p=some (.ins C dx [("town",.ref tp),("upright",.ref lu)])
 up:∃ ls:List Addr,H lu=some (.lst (ls.map V.ref))/\ls.length=ws.length/\∀ (i:Nat) l w,ls[i]?=some l->ws[i]?=some w->H l=some (.lst (bO w))
section
variable{C:Addr}{H H':Hp}{p tp lu:Addr}{ws:List (List Nat)}
theorem cY.but{K:af}{C C' dx:Addr}{fs:List (Str × V)}{tp ln lr:Addr}{ns:List Int}{rs:List R5}(h:cY K C H tp ln lr ns rs)(k:∀ b o,H b=some o->b≠p->H' b=some o)(hp:H p=some (.ins C' dx fs))(ne:tp≠p):cY K C H' tp ln lr ns rs:=by
 obtain⟨⟨d,h1⟩,h2,vs,h3,h4⟩:=h
 exact⟨⟨d,k _ _ h1 ne⟩,k _ _ h2 (xu h2 hp (by intro z; cases z)),vs,k _ _ h3 (xu h3 hp (by intro z; cases z)),jm k hp h4⟩
end
end TW
namespace L2
open PySem PySem.Spec PyProof.Rows
section
variable{X:Cx}
theorem Q8(K:af)(hK:X.K=K){a:Expr}{ta:TE}(ha:PE X a ta)(he:∀ whole,isTrue a X.env whole=(do let v <- whole; standAt a.pos; holding [v] (truthy v))):PT X a (S5 K ta):=by
 subst hK
 exact Q5 ha he
end
end L2
namespace TW
open PySem L2 PyProof.Rows
noncomputable def Pr(e:Int)(g:Nat):Bool:=decide (e / 2 ^ g % 2=1)
theorem Tj{e z:Int}{g:Nat}(h1:1<=e)(h7:e<=7)(hz:([1,2,4]:List Int)[g]?=some z):(!decide (Builtin.bitAnd e z=0))=Pr e g:=by
 have hg:g=0∨g=1∨g=2:=by
  have:=(ai.mp hz).1
  simp at this
  omega
 have he:e=1∨e=2∨e=3∨e=4∨e=5∨e=6∨e=7:=by omega
 rcases hg with rfl | rfl | rfl <;> cases hz <;> rcases he with rfl | rfl | rfl | rfl | rfl | rfl | rfl <;> decide +kernel
theorem aeJ{g:Nat}(h:g < 3):∃ z,([1,2,4]:List Int)[g]?=some z:=⟨_,aa (by simpa using h)⟩
noncomputable def isLive(rs:List R5)(ws:List (List Nat))(g i:Nat):Bool:=match rs[i]?,ws[i]? with | some r,some w=>(!w.isEmpty) && Pr r.e g | _,_=>false
noncomputable def yl(rs:List R5)(ws:List (List Nat))(g n:Nat):List Nat:=(au n).filter (isLive rs ws g)
theorem ym(rs:List R5)(ws:List (List Nat))(g n:Nat):yl rs ws g (n + 1)=yl rs ws g n++(if isLive rs ws g n=true then [n] else []):=by
 unfold yl
 rw[gk,kZ]
 congr 1
 by_cases h:isLive rs ws g n=true
 ·rw[if_pos h,fC,if_pos h]; rfl
 ·rw[if_neg h,fC,if_neg h]; rfl
theorem NZ(rs:List R5)(ws:List (List Nat))(g n:Nat):(yl rs ws g n).length<=n:=by
 have:=bW (isLive rs ws g) (au n)
 rw[aZ] at this
 exact this
end TW
namespace L2
open PySem PySem.Spec PyProof.Rows
structure Xl(K:af)(C:Addr)(m:Str)(f:Addr):Prop where
 hg:PySem.W.specialIn K (.ref C) "__getattribute__" = some (some (.builtin "type.__getattribute__"))
 hr:PySem.W.readsIn K C (.type "type")=true
 md:PySem.W.findCls K (.ref C) (.type "type") m=some (.val (.ref f))
 kp:dH K (.ref f)=true
section
variable{X:Cx}
theorem C4{e:Expr}{t u:TE}(h1:PE X e t)(h2:PE X e u):PE X e (λσ H Q=>t σ H Q∨u σ H Q):=λpins s σ H Q I h=>h.elim (h1 pins s σ H Q I) (h2 pins s σ H Q I)
end
def abF(C:Addr)(sp:Sp)(CK:List V)(E:XK)(ta:TE)(t:TA):TE:=λσ H Q=>ta σ H λx H1=>x = .ref C/\t σ H1 λvs H2=>sp (vs++CK) H2 Q E
section
variable{X:Cx}{CX:QH}{k:Nat}{f C:Addr}{fd:FuncData}{ps:List Str}{sp:Sp}{CK:List V}{ds:List Value}{E:XK}{x m:Str}{p pos apos:Pos}{e o:Expr}{es:List Expr}{ta:TE}{t:TA}
theorem Oa{pl:Sem Bool}(he:PE X o ta)(c:Xl X.K C m f)
 (F:cj X.prog X.w X.K X.mg X.base CX k f fd ps sp) (hr:jh k X.A) (hb:Binds X.K fd ps ds) (hd:b6 CK ds) (hx:qP CX X E) (ha:PA X (e :: es) t)
 (hst:starEach (e :: es) X.env=(false,eval e X.env) :: starEach es X.env:=by rfl) (hpl:(backTo pos (starEach es X.env)).any (·.1)=false:=by rfl)
 (ht:eval (.Call (.Attribute o m apos) (e :: es) [] pos) X.env=(do
  let ov <- eval o X.env
  standAt apos.atName
  let (f,first) <- holding [ov] (getMethod ov m pl)
  callWith pos f first (backTo pos (starEach (e :: es) X.env)) (backToKw pos (keywordEach [] X.env))):=by rfl) :
 PE X (.Call (.Attribute o m apos) (e :: es) [] pos) (abF C sp CK E ta t):=by
 intro pins s σ H Q I h
 refine PySem.W.methodCall_KW (pl:=pl) (fV (he pins s σ H _ I h) λu s1 ⟨x,H1,I1,rx,ex,q⟩=>?_) ht
 subst ex
 obtain rfl:u=Value.ref C:=rx
 refine PySem.W.method_cls I1.AM c.hg (PySem.W.cls_value I1.AM c.hr c.md rfl ?_)
 have I2:=I1.tok (s1.toks + 1)
 refine PySem.W.callWith_K (first:=[]) (h₀:=X.base) I.ok.mod.Yt c.kp (fV (ha pos pins _ σ H1 _ I2 q) λus s2 ⟨vs,H2,I3,r,q2⟩=>⟨I3.AM,?_⟩) hst hpl
 exact J5 (us:=us) (vs:=vs) F hr hb hd hx I3 r q2
end
end L2
namespace TW
open PySem L2 PyProof.Rows
theorem Je{b:Bool}{A B:Prop}(e:b=false)(h:B):if b=true then A else B:=by subst e; exact cP h
theorem abG{b:Bool}{A B:Prop}(e:b=true)(h:A):if b=true then A else B:=by subst e; exact fL h
inductive D7(cL c1 cA:Addr)(H:Hp)(a:Addr)(s to:Int):Int->Prop
 | bare (dx:Addr) (h:H a=some (.ins cL dx [("sender",.int s)])):D7 cL c1 cA H a s to 0
 | one (dx:Addr) (h:H a=some (.ins c1 dx [("sender",.int s),("to",.int to)])):D7 cL c1 cA H a s to 1
 | all (dx:Addr) (h:H a=some (.ins cA dx [("sender",.int s)])):D7 cL c1 cA H a s to 2
section
variable{cL c1 cA:Addr}{H H':Hp}{a lh q:Addr}{s to k:Int}{xs:List V}
theorem D7.mono(h:D7 cL c1 cA H a s to k)(e:aE H H'):D7 cL c1 cA H' a s to k:=by
 cases h with
 | bare dx h=>exact .bare dx (e _ _ h)
 | one dx h=>exact .one dx (e _ _ h)
 | all dx h=>exact .all dx (e _ _ h)
end
end TW
namespace L2
open PySem PySem.W PyProof.Rows
section
variable{n:Nat}{r:Nat->Int}{cmp:Nat->Nat->(Bool->Shared->Prop)->Shared->Prop}{s:Shared}
def Pm(n:Nat)(p:Array Nat):Prop:=p.Perm (List.toArray (au n))
theorem Pm.size{p:Array Nat}(h:Pm n p):p.size=n:=by
 have:=h.size_eq
 simpa using this
theorem Pm.lt{p:Array Nat}(h:Pm n p){k:Nat}(hk:k < n):p.getD k 0 < n:=by
 have hs:=h.size
 have e:p.getD k 0=p[k]'(by omega):=by simp[Array.getD,hs,hk]
 rw[e]
 have:p[k]'(by omega)∈p:=Array.getElem_mem _
 have:=(h.mem_iff).mp this
 simpa using this
noncomputable def kv(r:Nat->Int)(p:Array Nat)(k:Nat):Int:=r (p.getD k 0)
def BR(r:Nat->Int)(p:Array Nat)(m:Nat):Prop:=∀ i j,i < j->j < m->kv r p i<=kv r p j
def Gb(r:Nat->Int)(p:Array Nat)(m:Nat):Prop:=∀ i j,i < j->j < m->kv r p j<=kv r p i
def Q9(r:Nat->Int)(p:Array Nat)(a b:Nat):Prop:=∀ i j,a<=i->i < b->a<=j->j < b->kv r p i=kv r p j
theorem BR.next{p:Array Nat}{m:Nat}(h:BR r p m)(h1:1<=m)(hm:kv r p (m - 1)<=kv r p m):BR r p (m + 1):=λi j hij hj=>by
 by_cases e:j=m
 ·subst e
  by_cases e2:i=j - 1
  ·rw[e2]; exact hm
  ·exact Int.le_trans (h i (j - 1) (by omega) (by omega)) hm
 ·exact h i j hij (by omega)
theorem Gb.next{p:Array Nat}{m:Nat}(h:Gb r p m)(h1:1<=m)(hm:kv r p m<=kv r p (m - 1)):Gb r p (m + 1):=λi j hij hj=>by
 by_cases e:j=m
 ·subst e
  by_cases e2:i=j - 1
  ·rw[e2]; exact hm
  ·exact Int.le_trans hm (h i (j - 1) (by omega) (by omega))
 ·exact h i j hij (by omega)
theorem Zc{p:Array Nat}{m:Nat}:Q9 r p (m + 1 - (0 + 1)) (m + 1):=λi j a b c d=>by
 have:i=j:=by omega
 rw[this]
theorem Zd{p:Array Nat}:BR r p 1:=λi j a b=>by omega
theorem Gc{p:Array Nat}{a b k:Nat}(hb:b<=p.size)(hab:a<=b):kv r (kas_rev p a b) k=if a<=k/\k < b then kv r p (a + b - 1 - k) else kv r p k:=by
 unfold kv
 have e:(kas_rev p a b)[k]?=if a<=k/\k < b then p[a + b - 1 - k]? else p[k]?:=by
  unfold kas_rev
  rw[getElem?_mirror hb ((b - a) / 2) (by omega) k]
  by_cases h:a<=k/\k < b
  ·rw[if_pos h]
   by_cases h2:a<=k/\k < a + (b - a) / 2∨b - (b - a) / 2<=k/\k < b
   ·rw[if_pos h2]
   ·rw[if_neg h2]
    congr 1
    omega
  ·rw[if_neg h,if_neg (by omega)]
 have g:∀ (q:Array Nat) (i:Nat),q.getD i 0=(q[i]?).getD 0:=λq i=>by simp[lF]
 rw[g,e]
 by_cases h:a<=k/\k < b
 ·rw[if_pos h,if_pos h,g]
 ·rw[if_neg h,if_neg h,g]
theorem Pm.rev{p:Array Nat}(h:Pm n p)(a b:Nat):Pm n (kas_rev p a b):=(mirror_perm _ _ _ _).trans h
theorem Ra{p:Array Nat}{m:Nat}(hm:m<=p.size)(h:Gb r p m):BR r (kas_rev p 0 m) m:=λi j hij hj=>by
 rw[Gc hm (aV _),Gc hm (aV _),if_pos ⟨aV _,by omega⟩,if_pos ⟨aV _,hj⟩]
 exact h _ _ (by omega) (by omega)
theorem C5{p:Array Nat}{a m:Nat}(hm:m<=p.size)(ham:a<=m)(h:Gb r p m)(he:Q9 r p a m):Gb r (kas_rev p a m) m/\∀ k,m<=k->kv r (kas_rev p a m) k=kv r p k:=by
 have same:∀ k,kv r (kas_rev p a m) k=kv r p k:=λk=>by
  rw[Gc hm ham]
  by_cases h:a<=k/\k < m
  ·rw[if_pos h]
   exact he _ _ (by omega) (by omega) h.1 h.2
  ·rw[if_neg h]
 exact⟨λi j hij hj=>by rw[same,same]; exact h i j hij hj,λk _=>same k⟩
variable(hc:∀ i j C,i < n->j < n->C (decide (r i < r j)) s->cmp i j C s)
include hc
theorem Ob{p:Array Nat}(hp:Pm n p):∀ (f m:Nat) {Q:Nat->Shared->Prop},1<=m->m + f=n->BR r p m ->
 (∀ m',m<=m'->m'<=n->BR r p m'->(m' < n->kv r p m' < kv r p (m' - 1))->Q m' s)->(kas_asc p f m).kasWp cmp Q s
 | 0,m,Q,h1,hf,hu,k=>k m (az _) (by omega) hu (λz=>by omega)
 | f + 1,m,Q,h1,hf,hu,k=>by
  refine hc _ _ _ (hp.lt (by omega)) (hp.lt (by omega)) ?_
  by_cases hd:kv r p m < kv r p (m - 1)
  ·rw[show decide (r (p.getD m 0) < r (p.getD (m - 1) 0))=true from decide_eq_true hd]
   exact k m (az _) (by omega) hu λ_=>hd
  ·rw[show decide (r (p.getD m 0) < r (p.getD (m - 1) 0))=false from decide_eq_false hd]
   exact Ob hp f (m + 1) (by omega) (by omega) (hu.next h1 (by omega)) λm' a b c d=>k m' (by omega) b c d
theorem Fe:∀ (f:Nat) (p:Array Nat) (m q:Nat) {Q:Array Nat × Nat × Nat->Shared->Prop},Pm n p->1<=m->m + f=n->q + 1<=m->Gb r p m->Q9 r p (m - (q + 1)) m ->
 (∀ p' m' q',Pm n p'->1<=m'->m'<=n->q' + 1<=m'->Gb r p' m'->Q9 r p' (m' - (q' + 1)) m'->Q (p',m',q') s)->(kas_desc f p m q).kasWp cmp Q s
 | 0,p,m,q,Q,hp,h1,hf,hq,hd,he,k=>k p m q hp h1 (by omega) hq hd he
 | f + 1,p,m,q,Q,hp,h1,hf,hq,hd,he,k=>by
  have hz:=hp.size
  refine hc _ _ _ (hp.lt (by omega)) (hp.lt (by omega)) ?_
  by_cases c1:kv r p m < kv r p (m - 1)
  ·rw[show decide (r (p.getD m 0) < r (p.getD (m - 1) 0))=true from decide_eq_true c1]
   show ((if true=true then (if q > 0 then kas_desc f (kas_rev p (m - (q + 1)) m) (m + 1) 0 else kas_desc f p (m + 1) 0) else _):KasT _).kasWp cmp Q s
   rw[if_pos rfl]
   have last:∀ {p':Array Nat},Q9 r p' (m + 1 - (0 + 1)) (m + 1):=λi j a b c d=>by
    have:i=j:=by omega
    rw[this]
   by_cases VT:q > 0
   ·rw[if_pos VT]
    obtain⟨d1,d2⟩:=C5 (by omega) (Nat.sub_le _ _) hd he
    refine Fe f _ (m + 1) 0 (hp.rev _ _) (by omega) (by omega) (by omega) (d1.next h1 ?_) last k
    rw[d2 m (az _)]
    have:kv r (kas_rev p (m - (q + 1)) m) (m - 1)=kv r p (m - 1):=by
     rw[Gc (by omega) (Nat.sub_le _ _)]
     split
     ·exact he _ _ (by omega) (by omega) (by omega) (by omega)
     ·rfl
    omega
   ·rw[if_neg VT]
    exact Fe f p (m + 1) 0 hp (by omega) (by omega) (by omega) (hd.next h1 (by omega)) last k
  ·rw[show decide (r (p.getD m 0) < r (p.getD (m - 1) 0))=false from decide_eq_false c1]
   refine hc _ _ _ (hp.lt (by omega)) (hp.lt (by omega)) ?_
   by_cases c2:kv r p (m - 1) < kv r p m
   ·rw[show decide (r (p.getD (m - 1) 0) < r (p.getD m 0))=true from decide_eq_true c2]
    exact k p m q hp h1 (by omega) hq hd he
   ·rw[show decide (r (p.getD (m - 1) 0) < r (p.getD m 0))=false from decide_eq_false c2]
    have e1:kv r p m=kv r p (m - 1):=by omega
    refine Fe f p (m + 1) (q + 1) hp (by omega) (by omega) (by omega) (hd.next h1 (by omega)) (λi j a b c d=>?_) k
    have at_:∀ x,m + 1 - (q + 1 + 1)<=x->x < m + 1->kv r p x=kv r p (m - 1):=λx a b=>by
     by_cases ex:x=m
     ·rw[ex]; exact e1
     ·exact he x (m - 1) (by omega) (by omega) (by omega) (by omega)
    rw[at_ i a b,at_ j c d]
theorem LW{m:Nat}{p:Array Nat}{Q:Nat × Array Nat->Shared->Prop}(hp:Pm n p)(h1:1<=m)(hm:m<=n)(hd:Gb r p m)(k:∀ m' p',Pm n p'->1<=m'->m'<=n->BR r p' m'->Q (m',p') s):(kas_tail3 m n p).kasWp cmp Q s:=by
 unfold kas_tail3
 rw[KasT.kasWp_bind]
 exact Ob hc (hp.rev 0 m) (n - m) m h1 (by omega) (Ra (by have:=hp.size; omega) hd) λm' a b c _=>k m' _ (hp.rev 0 m) (by omega) b c
theorem D8{m:Nat}{p:Array Nat}{Q:Nat × Array Nat->Shared->Prop}(hp:Pm n p)(h1:1<=m)(hm:m < n)(hd:Gb r p (m + 1))(k:∀ m' p',Pm n p'->1<=m'->m'<=n->BR r p' m'->Q (m',p') s):(kas_descPart m n p).kasWp cmp Q s:=by
 unfold kas_descPart
 rw[KasT.kasWp_bind]
 refine Fe hc (n - (m + 1)) p (m + 1) 0 hp (by omega) (by omega) (by omega) hd Zc λp' m' q' a1 a2 a3 a4 a5 a6=>?_
 dsimp only
 by_cases hq:q' > 0
 ·rw[if_pos hq]
  exact LW hc (a1.rev _ _) a2 a3 (C5 (by have:=a1.size; omega) (Nat.sub_le _ _) a5 a6).1 k
 ·rw[if_neg hq]
  exact LW hc a1 a2 a3 a5 k
theorem Tn{p:Array Nat}{Q:Nat × Array Nat->Shared->Prop}(hp:Pm n p)(h1:1<=n)(k:∀ m' p',Pm n p'->1<=m'->m'<=n->BR r p' m'->Q (m',p') s):(kas_count n p).kasWp cmp Q s:=by
 unfold kas_count
 rw[KasT.kasWp_bind]
 refine Ob hc hp (n - 1) 1 (az _) (by omega) Zd λm a b hu hx=>?_
 by_cases e:m=n
 ·rw[if_pos (by simp[e])]
  exact k m p hp a b hu
 ·rw[if_neg (by simp[e])]
  have hx:=hx (by omega)
  by_cases hm:m > 1
  ·rw[if_pos hm]
   refine hc _ _ _ (hp.lt (by omega)) (hp.lt (by omega)) ?_
   by_cases c1:kv r p 0 < kv r p (m - 1)
   ·rw[show decide (r (p.getD 0 0) < r (p.getD (m - 1) 0))=true from decide_eq_true c1]
    exact k m p hp a b hu
   ·rw[show decide (r (p.getD 0 0) < r (p.getD (m - 1) 0))=false from decide_eq_false c1]
    have he:Q9 r p 0 m:=by
     have at_:∀ x,x < m->kv r p x=kv r p 0:=λx hxm=>by
      by_cases x0:x=0
      ·rw[x0]
      ·have g1:=hu 0 x (by omega) hxm
       by_cases x1:x=m - 1
       ·rw[x1] at g1 ⊢; omega
       ·have:=hu x (m - 1) (by omega) (by omega)
        omega
     exact λi j _ b1 _ b2=>by rw[at_ i b1,at_ j b2]
    have hd:Gb r p m:=λi j hij hj=>by rw[he i j (aV _) (by omega) (aV _) hj]; exact Int.le_refl _
    obtain⟨d1,d2⟩:=C5 (by have:=hp.size; omega) (aV _) hd he
    refine D8 hc (hp.rev 0 m) (by omega) (by omega) (d1.next (by omega) ?_) k
    rw[d2 m (az _),Gc (by have:=hp.size; omega) (aV _),if_pos ⟨aV _,by omega⟩]
    have:=he (0 + m - 1 - (m - 1)) (m - 1) (aV _) (by omega) (aV _) (by omega)
    omega
  ·rw[if_neg hm]
   have em:m=1:=by omega
   subst em
   refine D8 hc hp (az _) (by omega) (λi j hij hj=>?_) k
   have:i=0/\j=1:=by omega
   rw[this.1,this.2]
   exact Int.le_of_lt hx
theorem Gd{p:Array Nat}{kk:Nat}(hp:Pm n p)(hk:kk < n)(hu:BR r p kk):∀ (f l u:Nat) {Q:Nat->Shared->Prop},l<=u->u<=kk->u - l<=f->(∀ i,i < l->kv r p i<=kv r p kk)->(∀ i,u<=i->i < kk->kv r p kk < kv r p i) ->
 (∀ l',l'<=kk->(∀ i,i < l'->kv r p i<=kv r p kk)->(∀ i,l'<=i->i < kk->kv r p kk < kv r p i)->Q l' s)->(kas_place p kk f l u).kasWp cmp Q s
 | 0,l,u,Q,To,huk,hf,a,b,k=>k l (by omega) a (λi h=>b i (by omega))
 | f + 1,l,u,Q,To,huk,hf,a,b,k=>by
  show ((if l ≥ u then KasT.ret l else _):KasT Nat).kasWp cmp Q s
  by_cases h:l ≥ u
  ·rw[if_pos h]
   exact k l (by omega) a (λi h=>b i (by omega))
  ·rw[if_neg h]
   refine hc _ _ _ (hp.lt hk) (hp.lt (by omega)) ?_
   by_cases c:kv r p kk < kv r p ((l + u) / 2)
   ·rw[show decide (r (p.getD kk 0) < r (p.getD ((l + u) / 2) 0))=true from decide_eq_true c]
    refine Gd hp hk hu f l ((l + u) / 2) (by omega) (by omega) (by omega) a (λi h1 h2=>?_) k
    by_cases e:i=(l + u) / 2
    ·rw[e]; exact c
    ·exact Int.lt_of_lt_of_le c (hu _ i (by omega) h2)
   ·rw[show decide (r (p.getD kk 0) < r (p.getD ((l + u) / 2) 0))=false from decide_eq_false c]
    refine Gd hp hk hu f ((l + u) / 2 + 1) u (by omega) huk (by omega) (λi h1=>?_) b k
    by_cases e:i=(l + u) / 2
    ·rw[e]; omega
    ·have:=hu i ((l + u) / 2) (by omega) (by omega)
     omega
omit hc in
theorem Tp{p:Array Nat}{src d k:Nat}(hs:src < p.size)(hd:d<=src):kv r (bubble p src d) k=if k=src - d then kv r p src else if src - d < k/\k<=src then kv r p (k - 1) else kv r p k:=by
 unfold kv
 have g:∀ (q:Array Nat) (i:Nat),q.getD i 0=(q[i]?).getD 0:=λq i=>by simp[lF]
 rw[g,getElem?_bubble hs d hd k]
 by_cases h:k=src - d
 ·rw[if_pos h,if_pos h,g]
 ·rw[if_neg h,if_neg h]
  by_cases h2:src - d < k/\k<=src
  ·rw[if_pos h2,if_pos h2,g]
  ·rw[if_neg h2,if_neg h2,g]
theorem Tq:∀ (f:Nat) (p:Array Nat) (m:Nat) {Q:Array Nat->Shared->Prop},Pm n p->m + f=n->BR r p m->(∀ p',Pm n p'->BR r p' n->Q p' s)->(kas_bin f p m).kasWp cmp Q s
 | 0,p,m,Q,hp,hf,hu,k=>k p hp (by rw[<- hf]; exact hu)
 | f + 1,p,m,Q,hp,hf,hu,k=>by
  show ((kas_place p m m 0 m).bind λl=>kas_bin f (bubble p m (m - l)) (m + 1)).kasWp cmp Q s
  rw[KasT.kasWp_bind]
  refine Gd hc hp (by omega) hu m 0 m (aV _) (az _) (by omega) (λi h=>by omega) (λi h1 h2=>by omega) λl hl a b=>?_
  have hz:=hp.size
  refine Tq f _ (m + 1) ((bubble_perm _ _ _).trans hp) (by omega) (λi j hij hj=>?_) k
  have el:m - (m - l)=l:=by omega
  rw[Tp (by omega) (Nat.sub_le _ _),Tp (by omega) (Nat.sub_le _ _),el]
  by_cases hi:i=l
  ·rw[if_pos hi,if_neg (by omega),if_pos (by omega)]
   exact Int.le_of_lt (b (j - 1) (by omega) (by omega))
  ·rw[if_neg hi]
   by_cases hi2:l < i/\i<=m
   ·rw[if_pos hi2,if_neg (by omega),if_pos (by omega)]
    exact hu (i - 1) (j - 1) (by omega) (by omega)
   ·rw[if_neg hi2]
    by_cases hjl:j=l
    ·rw[if_pos hjl]; exact a i (by omega)
    ·rw[if_neg hjl]
     by_cases hj2:l < j/\j<=m
     ·rw[if_pos hj2]
      by_cases ej:i=j - 1
      ·rw[ej]; exact Int.le_refl _
      ·exact hu i (j - 1) (by omega) (by omega)
     ·rw[if_neg hj2]
      exact hu i j hij (by omega)
theorem VU{Q:Array Nat->Shared->Prop}(h1:1<=n)(k:∀ p,Pm n p->BR r p n->Q p s):(kas_sort n).kasWp cmp Q s:=by
 unfold kas_sort
 rw[KasT.kasWp_bind]
 refine Tn hc (Array.Perm.refl _) h1 λm p hp a b hu=>?_
 dsimp only
 by_cases h:m < n
 ·rw[if_pos h]
  have em:max m 1=m:=by omega
  rw[em]
  exact Tq hc (n - m) p m hp (by omega) hu k
 ·rw[if_neg h]
  have:m=n:=by omega
  subst this
  exact k p hp hu
end
end L2
namespace L2
open PySem PySem.W PySem.Spec PyProof.Rows
abbrev T3:=Int × Int × Int
theorem filter_le{α:Type}{p q:α->Bool}:∀ {l:List α},(∀ z,p z=true->q z=true)->(l.filter p).length<=(l.filter q).length
 | [],_=>az _
 | a :: l,h=>by
  have ih:=filter_le (l:=l) h
  rw[fC,fC]
  by_cases hp:p a=true
  ·rw[if_pos hp,if_pos (h a hp),aS,aS]; omega
  ·rw[if_neg hp]
   split
   ·rw[aS]; omega
   ·exact ih
theorem filter_lt{α:Type}{p q:α->Bool}{x:α}:∀ {l:List α},(∀ z,p z=true->q z=true)->x∈l->p x=false->q x=true->(l.filter p).length < (l.filter q).length
 | a :: l,h,hx,h1,h2=>by
  rw[fC,fC]
  rcases br.mp hx with rfl | hx
  ·rw[if_neg (by rw[h1]; exact aD),if_pos h2,aS]
   have:=filter_le (l:=l) h
   omega
  ·have ih:=filter_lt h hx h1 h2
   by_cases hp:p a=true
   ·rw[if_pos hp,if_pos (h a hp),aS,aS]; omega
   ·rw[if_neg hp]
    split
    ·rw[aS]; omega
    ·exact ih
section
variable{prog:Program}{w:World}{A:Around}{s:Shared}{E:Value->Shared->Prop}
theorem Tr{d:Addr}{v:Value}{c:Nat}{P:PySem.Fin->Shared->Prop}(hd:s.heap.get? d=some (seqObj "list" [v].toArray c))(k:P (.done (.ret .none)) { s with heap:=sortedHeap s.heap d [v] #[v] }) :
 wpAny (model prog w) A (Builtin.«list.sort» ⟨[.ref d],[]⟩) P E s:=by
 have hlt:d < s.heap.objs.size:=Heap.lt_size hd
 rw[list_sort_plain]
 refine wpAny_bind (listItems_at hd rfl (wpAny_bind (listUpdate_at hd rfl ?_)))
 have h1:∃ c1,(s.heap.update d (Obj.mapSeq λ_=>#[])).get? d=some (seqObj "list" #[] c1):=⟨_,get?_update_seq hd (λ_=>#[])⟩
 obtain⟨c1,h1⟩:=h1
 refine wpAny_bind (seqEpoch_at h1 rfl (wpAny_bind (wpAny_newTuple (wpAny_bind (wpAny_newList (wpAny_holding ?_))))))
 have hsz:(s.heap.update d (Obj.mapSeq λ_=>#[])).objs.size=s.heap.objs.size:=Heap.size_update _ _ _
 have h6:(((s.heap.update d (Obj.mapSeq λ_=>#[])).push (seqObj "tuple" [v].toArray 0)).push (seqObj "list" #[] 0)).get? d=some (seqObj "list" #[] c1) :=
  Heap.get?_push_of_some _ (Heap.get?_push_of_some _ h1)
 show wpAny (model prog w) A _ P E { s with heap:=((s.heap.update d (Obj.mapSeq λ_=>#[])).push (seqObj "tuple" [v].toArray 0)).push (seqObj "list" #[] 0) }
 have ht:[v].toArray.size < 2:=by simp
 have hv:(arrOf (SortSt.mk' general' (#[v].zip #[v]) #[] 7 none)).map (·.2) = #[v]:=by
  show (#[v].zip #[v]).map (·.2) = #[v]
  simp
 dsimp only
 rw[if_pos ht,if_pos ht]
 refine wpAny_bind (wpAny_pure ?_)
 rw[StateT.run_pure]
 refine wpAny_bind (wpAny_pure (wpAny_bind (seqEpoch_at h6 rfl (wpAny_bind (listUpdate_at h6 rfl ?_ (hsz2:=?_))))))
 ·simp only[bne_self_eq_false,Bool.false_eq_true,if_false]
  refine wpAny_pure ?_
  rw[hv]
  exact k
 ·show ((arrOf (SortSt.mk' general' (#[v].zip #[v]) #[] 7 none)).map (·.2)).size<=sizeLine + 1
  rw[hv]
  show 1<=sizeLine + 1
  exact Nat.le_add_left _ _
theorem Oc{l:Addr}{v:Value}{Q:Value->Shared->Prop}(hl:s.heap.IsList l [v].toArray)(k:Q (.ref (s.heap.objs.size + 1)) { s with heap:=sortedAll s.heap [v] #[v] }):wpAny (model prog w) A (call (.builtin "sorted") [.ref l]) Q E s:=by
 refine Calls.call_function_entry kind_sorted plain_sorted entry_sorted (args_sorted1 _) ?_
 unfold Builtin.«sorted»
 refine wpAny_bind (m:=checkCount "sorted" 1 1 _) (wpAny_pure (wpAny_bind (collect_list hl (wpAny_bind (wpAny_newList ?_)))))
 have hz:((s.heap.push (seqObj "list" #[] 0)).update s.heap.objs.size (Obj.mapSeq (·++[v].toArray))).objs.size=s.heap.objs.size + 1:=(Heap.size_update _ _ _).trans (size_push' _ _)
 have ho:(((s.heap.push (seqObj "list" #[] 0)).update s.heap.objs.size (Obj.mapSeq (·++[v].toArray))).push (seqObj "list" [v].toArray 0)).get? (s.heap.objs.size + 1)=some (seqObj "list" [v].toArray 0):=hz ▸ Heap.get?_push_size _ rfl
 show wpAny _ _ _ _ _ { s with heap:=((s.heap.push (seqObj "list" #[] 0)).update s.heap.objs.size (Obj.mapSeq (·++[v].toArray))).push (seqObj "list" [v].toArray 0) }
 rw[hz]
 exact wpAny_bind (wpAny_holding (wpAny_call_entry slot_list_sort ⟨_,ho,rfl⟩ entry_list_sort (Tr ho ⟨_,rfl,wpAny_pure ⟨_,rfl,k⟩⟩) (args_list_sort _)))
end
section
variable{X:Cx}
theorem Pu:∀ {qs:List Addr} {its:List Value},b6 (qs.map V.ref) its->its=qs.map Value.ref
 | [],_,r=>by cases r; rfl
 | q :: qs,_,r=>by
  cases r with
  | cons h t =>
   have h:_=Value.ref q:=h
   rw[h,Pu t]
   rfl
theorem Jf:∀ qs:List Addr,b6 (qs.map V.ref) (qs.map Value.ref)
 | []=>.nil
 | q :: qs=>.cons rfl (Jf qs)
theorem map_getD{α:Type}(d:α):∀ l:List α,(au l.length).map (λi=>l.getD i d)=l:=λl=>by
 apply List.ext_getElem
 ·simp
 ·intro i h1 h2
  simp at h1
  simp[h1]
end
end L2
namespace L2
end L2
namespace TW
open PySem L2 PyProof.Rows
noncomputable def k8(t:T3):List Key × V:=([.inl t.1,.inl t.2.1],.int t.2.2)
noncomputable abbrev keyOf(h c:Int):List Key:=[.inl h,.inl c]
def fG(ts:List T3):Prop:=(ts.map λt=>(t.1,t.2.1)).Nodup
noncomputable def tV(ts:List T3)(h c:Int):Option Int:=(ts.find? λt=>decide (t.1=h/\t.2.1=c)).map λt=>t.2.2
noncomputable def put3(ts:List T3)(h c r:Int):List T3:=(ts.filter λt=>!decide (t.1=h/\t.2.1=c))++[(h,c,r)]
theorem Rb{ts:List T3}(n:fG ts){h c r:Int}:tV ts h c=some r↔(h,c,r)∈ts:=by
 unfold tV
 constructor
 ·intro e
  cases f:ts.find? λt=>decide (t.1=h/\t.2.1=c) with
  | none=>rw[f] at e; cases e
  | some t =>
   rw[f] at e
   cases e
   have h1:=List.find?_some f
   have h2:=List.mem_of_find?_eq_some f
   have h1:t.1=h/\t.2.1=c:=by simpa using h1
   obtain⟨t1,t2,t3⟩:=t
   obtain⟨rfl,rfl⟩:=h1
   exact h2
 ·intro e
  cases f:ts.find? λt=>decide (t.1=h/\t.2.1=c) with
  | none =>
   have:=List.find?_eq_none.mp f _ e
   simp at this
  | some t =>
   have h1:=List.find?_some f
   have h2:=List.mem_of_find?_eq_some f
   have h1:t.1=h/\t.2.1=c:=by simpa using h1
   obtain⟨i,hi⟩:=i9 e
   obtain⟨j,hj⟩:=i9 h2
   have ei:(ts.map λt=>(t.1,t.2.1))[i]?=some (h,c):=by rw[ak,hi]; rfl
   have ej:(ts.map λt=>(t.1,t.2.1))[j]?=some (h,c):=by rw[ak,hj,<- h1.1,<- h1.2]; rfl
   have:i=j:=(tO (ai.mp ei).1 n).mp (ei.trans ej.symm)
   subst this
   rw[hi] at hj
   cases hj
   rfl
theorem Tt{ts:List T3}(n:fG ts){h c r:Int}:fG (put3 ts h c r):=by
 unfold fG put3
 rw[aJ,fR]
 refine⟨?_,by simp,λx hx y hy=>?_⟩
 ·exact qL ((oZ).map _) n
 ·obtain⟨t,ht,rfl⟩:=aN.mp hx
  have h2:=(bM.mp ht).2
  have e:y=(h,c):=by simpa using hy
  rw[e]
  intro z
  have z1:t.1=h/\t.2.1=c:=⟨(Prod.mk.inj z).1,(Prod.mk.inj z).2⟩
  simp[z1] at h2
theorem m8(t:T3)(h c:Int):(k8 t).1=keyOf h c↔t.1=h/\t.2.1=c:=by
 unfold k8 keyOf
 constructor
 ·intro e
  have e1:=(mT e).1
  have e2:=(mT (mT e).2).1
  exact⟨oW e1,oW e2⟩
 ·rintro⟨rfl,rfl⟩
  rfl
theorem Ge:∀ (ts:List T3) (h c:Int),tS (ts.map k8) (keyOf h c)=(tV ts h c).map V.int
 | [],h,c=>rfl
 | t :: ts,h,c=>by
  rw[bg]
  by_cases e:t.1=h/\t.2.1=c
  ·rw[ou ((m8 t h c).mpr e)]
   unfold tV
   rw[List.find?_cons_of_pos (by simp[e])]
   rfl
  ·rw[ow (λz=>e ((m8 t h c).mp z)),Ge ts h c]
   unfold tV
   rw[List.find?_cons_of_neg (by rw[decide_eq_false e]; exact aD)]
noncomputable def BS(h c r:Int)(t:T3):T3:=if t.1=h/\t.2.1=c then (h,c,r) else t
theorem Tu(h c r:Int)(t:T3):((BS h c r t).1,(BS h c r t).2.1)=(t.1,t.2.1):=by
 unfold BS
 split
 ·rename_i e
  show (h,c)=(t.1,t.2.1)
  rw[e.1,e.2]
 ·rfl
theorem Jg{h c r:Int}:∀ {ts:List T3},fG ts->(∃ t∈ts,t.1=h/\t.2.1=c)->(ts.map (BS h c r)).Perm (put3 ts h c r)
 | [],_,⟨_,h,_⟩=>by cases h
 | t :: ts,n,hx=>by
  have n':fG ts:=(dB.mp n).2
  have nt:=(dB.mp n).1
  unfold put3
  by_cases e:t.1=h/\t.2.1=c
  ·have no:∀ u∈ts,¬ (u.1=h/\u.2.1=c):=λu hu z=>nt (aN.mpr ⟨u,hu,Prod.ext (z.1.trans e.1.symm) (z.2.trans e.2.symm)⟩)
   have e1:ts.map (BS h c r)=ts:=by
    refine (dF λu hu=>?_).trans (List.map_id ts)
    unfold BS
    rw[if_neg (no u hu)]
    rfl
   have e2:ts.filter (λu=>!decide (u.1=h/\u.2.1=c))=ts:=List.filter_eq_self.mpr λu hu=>by rw[decide_eq_false (no u hu)]; rfl
   rw[bg,e1,fC,if_neg (by simp[e]),e2]
   have e3:BS h c r t=(h,c,r):=by unfold BS; rw[if_pos e]
   rw[e3]
   exact (List.perm_append_comm (l₁:=[(h,c,r)]) (l₂:=ts))
  ·have e3:BS h c r t=t:=by unfold BS; rw[if_neg e]
   rw[bg,e3,fC,if_pos (by rw[decide_eq_false e]; rfl)]
   refine List.Perm.cons t (Jg n' ?_)
   obtain⟨u,hu,z⟩:=hx
   rcases br.mp hu with rfl | hu
   ·exact absurd z e
   ·exact⟨u,hu,z⟩
theorem Jh{xs ys:List T3}(hp:xs.Perm ys)(h c r:Int):(put3 xs h c r).Perm (put3 ys h c r):=(hp.filter _).append_right _
theorem Od{ts ks:List T3}{h c r:Int}(hp:ts.Perm ks)(n:fG ts):∃ ts',putK (ts.map k8) (keyOf h c) (V.int r)=ts'.map k8/\ts'.Perm (put3 ks h c r)/\fG ts':=by
 unfold putK
 by_cases a:((ts.map k8).any λkv=>decide (kv.1=keyOf h c))=true
 ·rw[if_pos a]
  refine⟨ts.map (BS h c r),?_,?_,?_⟩
  ·rw[cC,cC]
   refine dF λt _=>?_
   show (if (k8 t).1=keyOf h c then ((k8 t).1,V.int r) else k8 t)=k8 (BS h c r t)
   unfold BS
   by_cases e:t.1=h/\t.2.1=c
   ·rw[if_pos ((m8 t h c).mpr e),if_pos e,(m8 t h c).mpr e]
    rfl
   ·rw[if_neg (λz=>e ((m8 t h c).mp z)),if_neg e]
  ·refine (Jg n ?_).trans (Jh hp h c r)
   obtain⟨kv,h1,h2⟩:=vG.mp a
   obtain⟨t,ht,rfl⟩:=aN.mp h1
   exact⟨t,ht,(m8 t h c).mp (of_decide_eq_true h2)⟩
  ·unfold fG
   rw[cC]
   have:((λt:T3=>(t.1,t.2.1)) ∘ BS h c r)=λt:T3=>(t.1,t.2.1):=funext λt=>Tu h c r t
   rw[this]
   exact n
 ·rw[if_neg a]
  have no:∀ t∈ts,¬ (t.1=h/\t.2.1=c):=λt ht z=>a (vG.mpr ⟨k8 t,aN.mpr ⟨t,ht,rfl⟩,decide_eq_true ((m8 t h c).mpr z)⟩)
  have e:put3 ts h c r=ts++[(h,c,r)]:=by
   unfold put3
   rw[List.filter_eq_self.mpr λu hu=>by rw[decide_eq_false (no u hu)]; rfl]
  refine⟨ts++[(h,c,r)],by rw[aJ]; rfl,e ▸ Jh hp h c r,e ▸ Tt n⟩
structure qU(C:Addr)(H:Hp)(p d:Addr)(ts:List T3):Prop where
 ob:∃ dx,H p=some (.ins C dx [("kept",.ref d)])
 di:H d=some (.dT (ts.map k8))
theorem qU.mono{C:Addr}{H H':Hp}{p d:Addr}{ts:List T3}(s:aE H H')(h:qU C H p d ts):qU C H' p d ts:=by
 obtain⟨⟨dx,h1⟩,h2⟩:=h
 exact⟨⟨dx,s _ _ h1⟩,s _ _ h2⟩
def Aj(u:HO):Prop:=∀ xs,u≠.tup xs/\∀ o,u≠.Lo o (.tup xs)
theorem pq{ys:List V}:Aj (.lst ys):=λxs=>⟨λe=>(by cases e),λo e=>(by cases e)⟩
theorem abI{kvs:List (List Key × V)}:Aj (.dT kvs):=λxs=>⟨λe=>(by cases e),λo e=>(by cases e)⟩
theorem lK{C dx:Addr}{fs:List (Str × V)}:Aj (.ins C dx fs):=λxs=>⟨λe=>(by cases e),λo e=>(by cases e)⟩
theorem cN.past{K:af}{H H':Hp}{z a:Addr}{u:HO}{xs:List V}(hz:H z=some u)(nt:Aj u)(keep:∀ b v,H b=some v->b≠z->H' b=some v)(h:cN K H a xs):cN K H' a xs:=by
 rcases h with (h | ⟨o,h⟩) | h
 ·exact .inl (.inl (keep _ _ h λe=>by subst e; rw[hz] at h; exact (nt xs).1 (aL h)))
 ·exact .inl (.inr ⟨o,keep _ _ h λe=>by subst e; rw[hz] at h; exact (nt xs).2 o (aL h)⟩)
 ·exact .inr h
theorem cZ{H:Hp}{z:Addr}{o:HO}:∀ b v,H b=some v->b≠z->(upd H z o) b=some v:=λb v e nb=>by rw[aI nb]; exact e
theorem Oe{H:Hp}{a b:Addr}{u v:HO}(ha:H a=some u)(hb:H b=some v)(n:u≠v):a≠b:=λe=>by
 subst e
 rw[ha] at hb
 exact n (aL hb)
end TW
namespace L2
open PySem PySem.W PySem.Spec PyProof.Rows
end L2
namespace TW
open PySem L2 PyProof.Rows
theorem LX{J:It}{n:Nat}{cap:List (Option Nat)}{g:TG}{tc:TT}{te:TE}{σ:L2.St}{Qr:Hp->Prop}{H1:Hp}{acc:Addr}(it:Nat->V)(f:Nat->Option V)(hacc:H1 acc=none)
 (go:∀ i H,i < n->aE H1 H->J.go i H) (stop:∀ H,aE H1 H->J.stop n H) (Lu:∀ i H x H',i < n->aE H1 H->J.Lu i H x H'->H'=H/\x=it i) (hn:n<=1000)
 (step:∀ (i:Nat) (H:Hp) (R:V->Hp->Prop) (S:Hp->Prop),i < n->aE H1 H->(∀ y H',aE H H'->f i=some y->R y H')->(∀ H',aE H H'->f i=none->S H') ->
  g (it i) (jj cap σ) H λσ2 H2=>tc σ2 H2 λb H3=>if b=true then te σ2 H3 R else S H3)
 (fin:∀ H,aE H1 H->H acc=some (.lst ((au n).filterMap f))->Qr H) :
 ∃ W:Nat->Nat->Hp->Prop,(∃ m,W 0 m (upd H1 acc (.lst [])))/\∀ i m H,W i m H ->
  (J.stop i H/\Qr H)∨(J.go i H/\∀ x H',J.Lu i H x H'->g x (jj cap σ) H' λσ2 H2=>tc σ2 H2 λb H3=>if b=true then te σ2 H3 λy H4=>∃ xs,H4 acc=some (.lst xs)/\xs.length < sizeLine /\
   ∃ m',m' < m/\W (i + 1) m' (upd H4 acc (.lst (xs++[y]))) else ∃ m',m' < m/\W (i + 1) m' H3):=by
 have hlen:∀ i,((au i).filterMap f).length<=i:=λi=>by
  have:=List.length_filterMap_le f (au i)
  rwa [aZ] at this
 refine gB (n:=n) (λi ys _=>ys=(au i).filterMap f) hacc go stop rfl ?_ ?_
 ·rintro i ys H hi s hy rfl x H' hx
  obtain⟨rfl,rfl⟩:=Lu i H x H' hi s hx
  have e:(au (i + 1)).filterMap f=(au i).filterMap f++(f i).toList:=by
   rw[gk,uQ]
   cases h:f i <;> simp[h]
  refine step i H' _ _ hi s (λy H4 s4 hf=>?_) (λH3 s3 hf=>?_)
  ·refine eV hacc hi (s.trans s4) (s4 _ _ hy) (b4 (aO (hlen i) (aO (gR hi) hn))) ?_
   show _=(au (i + 1)).filterMap f
   rw[e,hf]
   rfl
  ·refine iP hi (s.trans s3) (s3 _ _ hy) ?_
   show _=(au (i + 1)).filterMap f
   rw[e,hf]
   simp
 ·rintro ys H s hy rfl
  exact fin H s hy
theorem qj{α β:Type}:∀ (xs:List α) (F:α->Option β),(au xs.length).filterMap (λi=>xs[i]?.bind F)=xs.filterMap F
 | [],F=>rfl
 | x :: xs,F=>by
  have e:((λi:Nat=>(x :: xs)[i]?.bind F) ∘ Nat.succ)=λi=>xs[i]?.bind F:=funext λi=>by simp
  rw[aS,List.range_succ_eq_map,cR,List.filterMap_map,e,qj xs F,cR]
  rfl
theorem Rc{K:af}{l acc:Addr}{xs:List Int}{cap:List (Option Nat)}{g:TG}{tc:TT}{te:TE}{σ:L2.St}{Qr:Hp->Prop}{H1:Hp}(F:Int->Option V)(hacc:H1 acc=none)(hl:bL K H1 l (xs.map V.int))(hn:xs.length<=1000)
 (step:∀ (x:Int) (H:Hp) (R:V->Hp->Prop) (S:Hp->Prop),x∈xs->aE H1 H->(∀ y H',aE H H'->F x=some y->R y H')->(∀ H',aE H H'->F x=none->S H') ->
  g (.int x) (jj cap σ) H λσ2 H2=>tc σ2 H2 λb H3=>if b=true then te σ2 H3 R else S H3)
 (fin:∀ H,aE H1 H->H acc=some (.lst (xs.filterMap F))->Qr H) :
 ∃ W:Nat->Nat->Hp->Prop,(∃ m,W 0 m (upd H1 acc (.lst [])))/\∀ i m H,W i m H ->
  ((J2 K l).stop i H/\Qr H)∨((J2 K l).go i H/\∀ x H',(J2 K l).Lu i H x H'->g x (jj cap σ) H' λσ2 H2=>tc σ2 H2 λb H3=>if b=true then te σ2 H3 λy H4=>∃ xs,H4 acc=some (.lst xs)/\xs.length < sizeLine /\
    ∃ m',m' < m/\W (i + 1) m' (upd H4 acc (.lst (xs++[y]))) else ∃ m',m' < m/\W (i + 1) m' H3):=by
 have hL:(xs.map V.int).length=xs.length:=ah _
 refine LX (n:=xs.length) (λi=>(xs.map V.int).getD i .fh) (λi=>xs[i]?.bind F) hacc (λi H hi s=>yg hl i H (by rw[hL]; exact hi) s) (λH s=>by have:=oz hl H s; rwa [hL] at this) (λi H x H' hi s hx=>?_) hn (λi H R S hi s h1 h2=>?_) (λH s hy=>fin H s (by rw[<- qj]; exact hy))
 ·obtain⟨rfl,hx⟩:=hx
  have hx:=hx _ (s.seq hl)
  exact⟨rfl,by rw[av,hx]; rfl⟩
 ·have e:(xs.map V.int).getD i .fh=V.int xs[i]:=by rw[av,ak,aa hi]; rfl
  have e2:xs[i]?=some xs[i]:=aa hi
  rw[e]
  refine step _ H R S (aK hi) s (λy H' s' hf=>h1 y H' s' ?_) (λH' s' hf=>h2 H' s' ?_)
  ·show xs[i]?.bind F=_
   rw[e2]
   exact hf
  ·show xs[i]?.bind F=_
   rw[e2]
   exact hf
theorem Rf(xs:List Int)(f:Int->Bool):xs.filterMap (λx=>if f x=true then some (V.int x) else none)=(xs.filter f).map V.int:=by
 induction xs with
 | nil=>rfl
 | cons x xs ih =>
  by_cases h:f x=true
  ·rw[cD h,bg,<- ih,cR]; simp only[h,if_true]
  ·rw[cE h,<- ih,cR]; simp only[h]; rfl
theorem qV{K:af}{l acc:Addr}{xs:List Int}{cap:List (Option Nat)}{g:TG}{tc:TT}{te:TE}{σ:L2.St}{Qr:Hp->Prop}{H1:Hp}(f:Int->Bool)(hacc:H1 acc=none)(hl:bL K H1 l (xs.map V.int))(hn:xs.length<=1000)
 (step:∀ (x:Int) (H:Hp) (R:V->Hp->Prop) (S:Hp->Prop),x∈xs->aE H1 H->(∀ H',aE H H'->f x=true->R (.int x) H')->(∀ H',aE H H'->f x=false->S H') ->
  g (.int x) (jj cap σ) H λσ2 H2=>tc σ2 H2 λb H3=>if b=true then te σ2 H3 R else S H3)
 (fin:∀ H,aE H1 H->H acc=some (.lst ((xs.filter f).map V.int))->Qr H) :
 ∃ W:Nat->Nat->Hp->Prop,(∃ m,W 0 m (upd H1 acc (.lst [])))/\∀ i m H,W i m H ->
  ((J2 K l).stop i H/\Qr H)∨((J2 K l).go i H/\∀ x H',(J2 K l).Lu i H x H'->g x (jj cap σ) H' λσ2 H2=>tc σ2 H2 λb H3=>if b=true then te σ2 H3 λy H4=>∃ xs,H4 acc=some (.lst xs)/\xs.length < sizeLine /\
    ∃ m',m' < m/\W (i + 1) m' (upd H4 acc (.lst (xs++[y]))) else ∃ m',m' < m/\W (i + 1) m' H3):=by
 refine Rc (λx=>if f x=true then some (V.int x) else none) hacc hl hn (λx H R S hx s h1 h2=>step x H R S hx s (λH' s' hf=>h1 _ H' s' (if_pos hf)) (λH' s' hf=>h2 H' s' (if_neg (by rw[hf]; exact aD)))) (λH s hy=>fin H s (by rw[<- Rf]; exact hy))
def Xm(u:HO):Prop:=∀ xs,u≠.lst xs/\∀ o,u≠.Lo o (.lst xs)
theorem Tv{C dx:Addr}{fs:List (Str × V)}:Xm (.ins C dx fs):=λxs=>⟨λe=>(by cases e),λo e=>(by cases e)⟩
theorem bL.past{K:af}{H H':Hp}{z a:Addr}{u:HO}{xs:List V}(hz:H z=some u)(nt:Xm u)(keep:∀ b v,H b=some v->b≠z->H' b=some v)(h:bL K H a xs):bL K H' a xs:=by
 rcases h with (h | ⟨o,h⟩) | h
 ·exact .inl (.inl (keep _ _ h λe=>by subst e; rw[hz] at h; exact (nt xs).1 (aL h)))
 ·exact .inl (.inr ⟨o,keep _ _ h λe=>by subst e; rw[hz] at h; exact (nt xs).2 o (aL h)⟩)
 ·exact .inr h
noncomputable def qW(c:Option Int):V:=(c.map V.int).getD .fh
theorem BU(i:Int)(c:Option Int):Vg (.int i) (qW c)=true:=by cases c <;> rfl
theorem Tw(c:Option Int):ya (qW c)=true:=by cases c <;> rfl
theorem Gf(xs:List Int):D4 .fh (xs.map V.int)=false:=by
 unfold D4
 rw[List.any_map,List.any_eq_false]
 intro x _
 show ¬ (QK (.int x) .fh)=true
 simp[QK]
noncomputable def jT(c:Option Int)(r:Int):Bool:=!decide (V.int r=qW c)
noncomputable def RY(ts:List T3)(so:Option Int)(lM:Int)(ck:Option Int)(os hs:List Int):List Int :=
 match so with
 | none=>os.filter (jT ck)
 | some to=>if to∈hs then [] else match tV ts lM to with
  | some r=>if r∈os then [r].filter (jT ck) else os.filter (jT ck)
  | none=>os.filter (jT ck)
noncomputable def C6(s to k c:Int):Bool:=if k=1 then decide (V.int c=V.int to) else if k=2 then !decide (V.int c=V.int s) else false
noncomputable def nO(to k:Int):Option Int:=if k=1 then some to else none
theorem made{H:Hp}{x dx C:Addr}{fs:List (Str × V)}(hx:H x=none)(hdx:H dx=none)(hne:dx≠x):aE H (upd (upd (upd H dx (.own x)) x (.ins C dx [])) x (.ins C dx fs)):=by
 rw[JV]
 exact (aE.new hdx).trans (aE.new (by rw[aI (bT hne)]; exact hx))
theorem neT{b:Bool}(h:¬ b=true):b=false:=by
 cases b
 ·rfl
 ·exact absurd rfl h
end TW
namespace TX
open PySem PySem.StrLaws PySem.Builtin PySem.Builtin.Str
noncomputable abbrev cs(x:Str):List Nat:=x.cps.toList
end TX
namespace TX
open PySem PySem.StrLaws PySem.Builtin PySem.Builtin.Str PySem.NumText
end TX
namespace TX
open PySem PySem.StrLaws PySem.Builtin PySem.Builtin.Str
end TX
namespace L2
open PySem PySem.W PySem.Spec PyProof.Rows
theorem Gg{α β:Type}{f g:α->Option β}:∀ {l:List α},(∀ x∈l,f x=g x)->l.filterMap f=l.filterMap g
 | [],_=>rfl
 | x :: l,h=>by
  rw[cR,cR,h x (bI ..),Gg λy hy=>h y (bh _ hy)]
theorem Rg{α:Type}(xs:List α):((au xs.length).map (λk=>xs.length - 1 - k)).filterMap (λi=>xs.toArray[i]?)=xs.reverse:=by
 have h1:(au xs.length).map (λk=>xs.length - 1 - k)=(au xs.length).reverse:=by
  refine List.ext_getElem (by simp) λi h1 h2=>?_
  simp at h1 h2
  simp[List.getElem_reverse]
 rw[h1,List.filterMap_reverse]
 congr 1
 refine List.ext_getElem? λi=>?_
 have h2:(au xs.length).filterMap (λi=>xs.toArray[i]?)=xs:=by
  have:=TW.qj xs (λx=>some x)
  rw[List.filterMap_some] at this
  refine Eq.trans (Gg λi hi=>?_) this
  rw[List.getElem?_toArray]
  cases xs[i]? <;> rfl
 rw[h2]
theorem Gh(its:List Value):slicePick its.toArray none none (some (-1))=its.reverse.toArray:=by
 unfold slicePick
 congr 1
 have e:sliceBounds none none (some (-1)) its.toArray.size=((its.length:Int) - 1,-1,-1):=by
  simp[sliceBounds]
 rw[e,<- Rg its]
 congr 1
 unfold sliceRange
 by_cases h:its.length=0
 ·simp[h]
 ·have h1:((its.length:Int) - 1) > -1:=by omega
  have e2:((its.length:Int) - 1 - -1 - -1 - 1) / (- -1)=(its.length:Int):=by
   have:((its.length:Int) - 1 - -1 - -1 - 1)=(its.length:Int):=by omega
   rw[this]
   show (its.length:Int) / 1=_
   exact Int.ediv_one _
  simp only[show ¬ ((-1:Int) > 0) by decide,if_false,h1,if_true,e2,dP]
  refine dF λk hk=>?_
  have:=bE.mp hk
  omega
section
variable{X:Cx}
def Ze(K:af)(te:TE)(ts:TO):TE:=λσ H Q=>te σ H λx H1=>ts σ H1 λo H2=>∃ a xs,x = .ref a/\o=some (-1)/\bL K H2 a xs/\∀ p,H2 p=none->Q (.ref p) (upd H2 p (.lst xs.reverse))
theorem Rh{xs:List V}{us:List Value}(h:b6 xs us):b6 xs.reverse us.reverse:=by
 induction h with
 | nil=>exact .nil
 | cons r t ih =>
  rw[List.reverse_cons,List.reverse_cons]
  exact ih.append (.cons r .nil)
theorem LY{e st:Expr}{te:TE}{ts:TO}{p2 pos:Pos}(he:PE X e te)(hs:PO X (some st) ts):PE X (.Subscript e (.Slice none none (some st) p2) pos) (Ze X.K te ts):=by
 intro pins s σ H Q I h
 refine Subscript_ (fV (he pins s σ H _ I h) λv s1 ⟨x,H1,I1,r1,q1⟩=>?_)
 refine wpAny_Slice ?_
 rw[evalPart_none]
 refine wpAny_pure ?_
 refine wpAny_pure ?_
 refine fV (hs pins s1 σ H1 _ I1 q1) λvs s2 ⟨o,H2,I2,po,a,xs,e1,e2,hq,q⟩=>?_
 subst e1 e2
 cases r1
 have I4:Inv X pins σ H2 { s2 with heap:=s2.heap.push { cls:=.type "slice",data:=.fields #[.none,.none,vs] } }:=I2.kept (t':=s2.toks) λb ob q=>Heap.get?_push_of_some _ q
 obtain⟨its,r,ht,hz⟩:=I4.list hq
 have hlen:=r.length
 show wpAny (model X.prog X.w) X.A (subscriptTail e (.Slice none none (some st) p2) (.ref a) (.ref s2.heap.objs.size)) (EP X pins σ Q) X.xe { s2 with heap:=s2.heap.push { cls:=.type "slice",data:=.fields #[.none,.none,vs] } }
 refine tail_any (ops:=[.ref a,.ref s2.heap.objs.size]) ht.isList.typeIs slot_list_getitem.lookup ?_ (by with_unfolding_all rfl)
 refine wpAny_getItem_list_slice ht.isList (Heap.IsSliceOf.new ..) .none .none po (by simp) ?_ (by rw[aW] <;> omega)
 rw[Gh]
 refine⟨.ref _,_,I4.laid (t':=s2.toks) (o:=.lst xs.reverse) (λb ob q=>Heap.get?_push_of_some _ q) (az _) ?_,rfl,q _ (I4.hok.fresh (az _))⟩
 exact⟨by rw[List.length_reverse]; exact hz,its.reverse,0,Rh r,Heap.get?_push_size _ rfl⟩
end
end L2
namespace TW
open PySem L2 PyProof.Rows
theorem Pw{K:af}{l acc:Addr}{xs:List V}{cap:List (Option Nat)}{g:TG}{tc:TT}{te:TE}{σ:L2.St}{Qr:Hp->Prop}{H1:Hp}(f:Nat->Option V)(hacc:H1 acc=none)(hl:bL K H1 l xs)(hn:xs.length<=1000)
 (step:∀ (i:Nat) (x:V) (H:Hp) (R:V->Hp->Prop) (S:Hp->Prop),xs[i]?=some x->aE H1 H->(∀ y H',aE H H'->f i=some y->R y H')->(∀ H',aE H H'->f i=none->S H') ->
  g x (jj cap σ) H λσ2 H2=>tc σ2 H2 λb H3=>if b=true then te σ2 H3 R else S H3)
 (fin:∀ H,aE H1 H->H acc=some (.lst ((au xs.length).filterMap f))->Qr H) :
 ∃ W:Nat->Nat->Hp->Prop,(∃ m,W 0 m (upd H1 acc (.lst [])))/\∀ i m H,W i m H ->
  ((J2 K l).stop i H/\Qr H)∨((J2 K l).go i H/\∀ x H',(J2 K l).Lu i H x H'->g x (jj cap σ) H' λσ2 H2=>tc σ2 H2 λb H3=>if b=true then te σ2 H3 λy H4=>∃ xs,H4 acc=some (.lst xs)/\xs.length < sizeLine /\
    ∃ m',m' < m/\W (i + 1) m' (upd H4 acc (.lst (xs++[y]))) else ∃ m',m' < m/\W (i + 1) m' H3):=by
 refine LX (n:=xs.length) (λi=>xs.getD i .fh) f hacc (yg hl) (oz hl) (λi H x H' hi s hx=>?_) hn (λi H R S hi s h1 h2=>?_) fin
 ·obtain⟨rfl,hx⟩:=hx
  have hx:=hx _ (s.seq hl)
  exact⟨rfl,by rw[av,hx]; rfl⟩
 ·have e:xs.getD i .fh=xs[i]:=by rw[av,aa hi]; rfl
  rw[e]
  exact step i _ H R S (aa hi) s h1 h2
theorem Gi{α β:Type}(xs:List α)(h:α->β):(au xs.length).filterMap (λi=>xs[i]?.map h)=xs.map h:=by
 have e:∀ l:List α,l.filterMap (λx=>some (h x))=l.map h:=λl=>by
  induction l with
  | nil=>rfl
  | cons a l ih=>rw[cR,ih]; rfl
 rw[<- e,<- qj xs (λx=>some (h x))]
 refine Gg λi _=>?_
 cases xs[i]? <;> rfl
inductive Role where
 | eY | d7 | iw | mY (i:Nat) | yo | rows (g:Nat) | lN | book (g:Nat) | eW (g:Nat)
 | aH | groups | lO | handed (c:Nat) | cK | bU (i:Nat) | letter (i:Nat) | done (i:Nat) | aF (i:Nat) | kK
 deriving DecidableEq
structure vP(H:Hp)(loc:Role->Addr)(ob:Role->Option HO):Prop where
 get:∀ r o,ob r=some o->H (loc r)=some o
 inj:∀ r q,ob r≠none->ob q≠none->loc r=loc q->r=q
noncomputable def iW(ob:Role->Option HO)(r:Role)(o:HO):Role->Option HO:=λq=>if q=r then some o else ob q
noncomputable def xS(loc:Role->Addr)(r:Role)(a:Addr):Role->Addr:=λq=>if q=r then a else loc q
theorem dQ{ob:Role->Option HO}{r:Role}{o:HO}:iW ob r o r=some o:=if_pos rfl
theorem dh{ob:Role->Option HO}{r q:Role}{o:HO}(h:q≠r):iW ob r o q=ob q:=if_neg h
theorem iQ{loc:Role->Addr}{r:Role}{a:Addr}:xS loc r a r=a:=if_pos rfl
theorem iZ{loc:Role->Addr}{r q:Role}{a:Addr}(h:q≠r):xS loc r a q=loc q:=if_neg h
def Fp(loc:Role->Addr)(ob:Role->Option HO)(b:Addr):Prop:=∃ r,ob r≠none/\loc r=b
section
variable{H H':Hp}{loc:Role->Addr}{ob:Role->Option HO}
theorem vP.mono(h:vP H loc ob)(s:aE H H'):vP H' loc ob:=⟨λr o e=>s _ _ (h.get r o e),h.inj⟩
theorem vP.keep(h:vP H loc ob)(k:∀ b o,H b=some o->Fp loc ob b->H' b=some o):vP H' loc ob :=
 ⟨λr o e=>k _ _ (h.get r o e) ⟨r,by rw[e]; exact aT o,rfl⟩,h.inj⟩
theorem vP.set(h:vP H loc ob){r:Role}(hr:ob r≠none)(o:HO):vP (upd H (loc r) o) loc (iW ob r o):=by
 have hs:∀ q,iW ob r o q≠none->ob q≠none:=λq hq=>by
  by_cases e:q=r
  ·rw[e]; exact hr
  ·rw[dh e] at hq; exact hq
 refine⟨λq u e=>?_,λq q' h1 h2 e=>h.inj q q' (hs q h1) (hs q' h2) e⟩
 by_cases z:q=r
 ·subst z
  rw[dQ] at e
  cases e
  exact ay
 ·rw[dh z] at e
  rw[aI (λw=>z (h.inj q r (by rw[e]; exact aT u) hr w))]
  exact h.get q u e
theorem vP.new(h:vP H loc ob){p:Addr}(hp:H p=none)(r:Role)(o:HO):vP (upd H p o) (xS loc r p) (iW ob r o):=by
 have ne:∀ q,q≠r->ob q≠none->loc q≠p:=λq hq hob e=>by
  cases ho:ob q with
  | none=>exact hob ho
  | some u =>
   have:=h.get q u ho
   rw[e,hp] at this
   cases this
 refine⟨λq u e=>?_,λq q' h1 h2 e=>?_⟩
 ·by_cases z:q=r
  ·subst z
   rw[dQ] at e
   cases e
   rw[iQ]
   exact ay
  ·rw[dh z] at e
   rw[iZ z,aI (ne q z (by rw[e]; exact aT u))]
   exact h.get q u e
 ·by_cases z:q=r
  ·by_cases z':q'=r
   ·rw[z,z']
   ·rw[z,iQ,iZ z'] at e
    rw[dh z'] at h2
    exact absurd e.symm (ne q' z' h2)
  ·by_cases z':q'=r
   ·rw[z',iQ,iZ z] at e
    rw[dh z] at h1
    exact absurd e (ne q z h1)
   ·rw[iZ z,iZ z'] at e
    rw[dh z] at h1
    rw[dh z'] at h2
    exact h.inj q q' h1 h2 e
theorem vP.Xn(h:vP H loc ob){p:Addr}{r:Role}{o:HO}{b:Addr}(hb:Fp (xS loc r p) (iW ob r o) b):Fp loc ob b∨b=p:=by
 obtain⟨q,h1,h2⟩:=hb
 by_cases z:q=r
 ·rw[z,iQ] at h2
  exact .inr h2.symm
 ·rw[dh z] at h1
  rw[iZ z] at h2
  exact .inl ⟨q,h1,h2⟩
theorem Ji{r:Role}(hr:ob r≠none){o:HO}{b:Addr}:Fp loc (iW ob r o) b↔Fp loc ob b:=by
 constructor
 ·rintro⟨q,h1,h2⟩
  refine⟨q,?_,h2⟩
  by_cases z:q=r
  ·rw[z]; exact hr
  ·rw[dh z] at h1; exact h1
 ·rintro⟨q,h1,h2⟩
  refine⟨q,?_,h2⟩
  by_cases z:q=r
  ·rw[z,dQ]; exact aT o
  ·rw[dh z]; exact h1
end
inductive cF where
 | post (h:Nat) | oA (h r:Nat) | hand (h c:Nat) | send (h r w:Nat) | twice (h r:Nat) | Ri (h r:Nat)
noncomputable def cF.vs:cF->List V
 | .post h=>[.str "post",.int h]
 | .oA h r=>[.str "come",.int h,.int r]
 | .hand h c=>[.str "hand",.int h,.int c]
 | .send h r w=>[.str "send",.int h,.int r,.int w]
 | .twice h r=>[.str "twice",.int h,.int r]
 | .Ri h r=>[.str "lost",.int h,.int r]
structure LS where
 s:Nat
 to:Nat
 kd:Int
 grp:Nat
 old:Bool
 done:List Nat
 aF:List cF
structure Cp where
 l:Nat
 r:Nat
 w:Nat
 h:Nat
noncomputable def Cp.vs(c:Cp):List V:=[.int c.l,.int c.r,.int c.w,.int c.h]
structure NS where
 ws:List (List Nat)
 R:Nat->Nat->RM.Row
 ts:Nat->List T3
 aH:List Nat
 groups:List Nat
 had:List (List Nat)
 ls:List LS
 cps:List Cp
structure TQ where
 rq:Nat->List Addr
 dq:Nat->List Addr
 cq:List Addr
structure NC where
 eY:Addr
 str:Addr
 book:Addr
 post:Addr
 aiX:Addr
 let1:Addr
 abJ:Addr
noncomputable def qk(c:NC)(dx:Addr)(l:LS):HO:=if l.kd=1 then .ins c.let1 dx [("sender",.int l.s),("to",.int l.to)] else .ins c.abJ dx [("sender",.int l.s)]
noncomputable def desc(c:NC)(dx:Role->Addr)(tp:Addr)(loc:Role->Addr)(q:TQ)(s:NS):Role->Option HO
 | .eY=>some (.ins c.eY (dx .eY) [("town",.ref tp),("strands",.ref (loc .d7)),("rows_by_group",.ref (loc .yo)),("books",.ref (loc .lN)),("homes",.ref (loc .aH)),("groups",.ref (loc .groups)),("handed",.ref (loc .lO)),("letters",.ref (loc .cK)),("copies",.ref (loc .kK))])
 | .d7=>some (.ins c.str (dx .d7) [("town",.ref tp),("upright",.ref (loc .iw))])
 | .iw=>some (.lst ((au s.ws.length).map λi=>.ref (loc (.mY i))))
 | .mY i=>s.ws[i]?.map λw=>.lst (bO w)
 | .yo=>some (.lst ((au 3).map λg=>.ref (loc (.rows g))))
 | .rows g=>if g < 3 then some (.lst ((q.rq g).map V.ref)) else none
 | .lN=>some (.lst ((au 3).map λg=>.ref (loc (.book g))))
 | .book g=>if g < 3 then some (.ins c.book (dx (.book g)) [("kept",.ref (loc (.eW g)))]) else none
 | .eW g=>if g < 3 then some (.dT ((s.ts g).map k8)) else none
 | .aH=>some (.lst (bO s.aH))
 | .groups=>some (.lst (bO s.groups))
 | .lO=>some (.lst ((au s.had.length).map λi=>.ref (loc (.handed i))))
 | .handed i=>s.had[i]?.map λw=>.lst (bO w)
 | .cK=>some (.lst ((au s.ls.length).map λi=>.ref (loc (.bU i))))
 | .bU i=>s.ls[i]?.map λl=>.ins c.post (dx (.bU i)) [("letter",.ref (loc (.letter i))),("group",.int l.grp),("old",.bl l.old),("done_at",.ref (loc (.done i))),("deeds",.ref (loc (.aF i)))]
 | .letter i=>s.ls[i]?.map λl=>qk c (dx (.letter i)) l
 | .done i=>s.ls[i]?.map λl=>.dK (l.done.map λh:Nat=>(cV (h:Int),.bl true))
 | .aF i=>s.ls[i]?.map λl=>.lst ((q.dq i).map V.ref)
 | .kK=>some (.lst (q.cq.map V.ref))
mutual
noncomputable def LZ:PyData->Bool
 | .none=>true
 | .bool _=>true
 | .int _=>true
 | .str _=>true
 | .list _=>false
 | .tuple ds=>C7 ds
 | .dict _=>true
noncomputable def C7:List PyData->Bool
 | []=>true
 | d :: ds=>LZ d && C7 ds
end
structure cS(K:af)(H:Hp)(qs:List Addr)(xs:List (List V)):Prop where
 len:qs.length=xs.length
 at':∀ (i:Nat) q x,qs[i]?=some q->xs[i]?=some x->cN K H q x
theorem cS.mono{K:af}{H H':Hp}{qs:List Addr}{xs:List (List V)}(h:cS K H qs xs)(k:∀ b x,cN K H b x->cN K H' b x):cS K H' qs xs:=⟨h.len,λi q x a b=>k _ _ (h.at' i q x a b)⟩
noncomputable def gp(n:Nat)(R:Nat->RM.Row):List (List V):=(au n).map λi=>RM.cU (R i)
structure ql(K:af)(H:Hp)(n:Nat)(q:TQ)(s:NS):Prop where
 rows:∀ g,g < 3->cS K H (q.rq g) (gp n (s.R g))
 aF:∀ i l,s.ls[i]?=some l->cS K H (q.dq i) (l.aF.map cF.vs)
 cps:cS K H q.cq (s.cps.map Cp.vs)
theorem ql.mono{K:af}{H H':Hp}{n:Nat}{q:TQ}{s:NS}(h:ql K H n q s)(k:∀ b x,cN K H b x->cN K H' b x):ql K H' n q s :=
 ⟨λg hg=>(h.rows g hg).mono k,λi l e=>(h.aF i l e).mono k,h.cps.mono k⟩
def d8(K:af)(c:NC)(H:Hp)(F:Addr->Prop)(p tp:Addr)(n:Nat)(s:NS):Prop :=
 ∃ loc dx q,loc .eY=p/\vP H loc (desc c dx tp loc q s)/\(∀ b,F b↔Fp loc (desc c dx tp loc q s) b)/\ql K H n q s
structure Step(H:Hp)(F:Addr->Prop)(H':Hp)(F':Addr->Prop):Prop where
 kp:∀ b o,H b=some o->¬ F b->H' b=some o
 fr:∀ b,F' b->F b∨H b=none
theorem Of{c:NC}{dx:Role->Addr}{tp:Addr}{loc:Role->Addr}{q:TQ}{s:NS}{r:Role}{o:HO}(h:desc c dx tp loc q s r=some o):Aj o:=by
 have key:∀ {α:Type} {f:α->HO} {x:Option α},(∀ a,Aj (f a))->x.map f=some o->Aj o:=λ{α f x} hf e=>by
  cases x with
  | none=>cases e
  | some a=>cases e; exact hf a
 have ins:∀ {C d:Addr} {fs:List (Str × V)},Aj (.ins C d fs):=lK
 cases r <;> simp only[desc] at h
 all_goals first
  | (cases h; exact lK)
  | (cases h; exact pq)
  | exact key (λ_=>pq) h
  | exact key (λ_=>lK) h
  | (split at h
     ·cases h; first | exact pq | exact lK | exact abI
     ·cases h)
  | (refine key (λl=>?_) h; unfold qk; split <;> exact lK)
  | (refine key (λl=>?_) h; exact λxs=>⟨λe=>(by cases e),λo e=>(by cases e)⟩)
section
variable{K:af}{c:NC}{CT:Addr}{H H':Hp}{F F':Addr->Prop}{p tp ln lr:Addr}{n:Nat}{s s':NS}{ns:List Int}{rs:List R5}
theorem d8.mono(h:d8 K c H F p tp n s)(e:aE H H'):d8 K c H' F p tp n s:=by
 obtain⟨loc,dx,q,h1,h2,h3,h4⟩:=h
 exact⟨loc,dx,q,h1,h2.mono e,h3,h4.mono λb x=>e.b5⟩
theorem d8.Px(h:d8 K c H F p tp n s){b:Addr}{o:HO}(hb:F b)(e:H b=some o):Aj o:=by
 obtain⟨loc,dx,q,h1,h2,h3,h4⟩:=h
 obtain⟨r,hr,rfl⟩:=(h3 b).mp hb
 cases ho:desc c dx tp loc q s r with
 | none=>exact absurd ho hr
 | some u =>
  have:=h2.get r u ho
  rw[e] at this
  cases this
  exact Of ho
theorem d8.there(h:d8 K c H F p tp n s){b:Addr}(hb:F b):∃ o,H b=some o:=by
 obtain⟨loc,dx,q,h1,h2,h3,h4⟩:=h
 obtain⟨r,hr,rfl⟩:=(h3 b).mp hb
 cases ho:desc c dx tp loc q s r with
 | none=>exact absurd ho hr
 | some u=>exact⟨u,h2.get r u ho⟩
theorem d8.tup(h:d8 K c H F p tp n s)(kp:∀ b o,H b=some o->¬ F b->H' b=some o){b:Addr}{x:List V}(e:cN K H b x):cN K H' b x:=by
 rcases e with (e | ⟨o,e⟩) | e
 ·exact .inl (.inl (kp _ _ e λz=>(h.Px z e x).1 rfl))
 ·exact .inl (.inr ⟨o,kp _ _ e λz=>(h.Px z e x).2 o rfl⟩)
 ·exact .inr e
theorem d8.keep(h:d8 K c H F p tp n s)(kp:∀ b o,H b=some o->F b->H' b=some o)(kt:∀ b x,cN K H b x->cN K H' b x):d8 K c H' F p tp n s:=by
 obtain⟨loc,dx,q,h1,h2,h3,h4⟩:=h
 exact⟨loc,dx,q,h1,h2.keep λb o e z=>kp b o e ((h3 b).mpr z),h3,h4.mono kt⟩
end
mutual
theorem Rep.tups{K:af}{H H':Hp}(kt:∀ b x,cN K H b x->cN K H' b x):∀ {d:PyData} {v:V},LZ d=true->Rep K H d v->Rep K H' d v
 | .none,_,_,h=>h
 | .bool _,_,_,h=>h
 | .int _,_,_,h=>h
 | .str _,_,_,h=>h
 | .list _,_,f,_=>by simp[LZ] at f
 | .tuple ds,_,f,⟨a,vs,e,q,r⟩=>⟨a,vs,e,kt _ _ q,cQ.tups kt f r⟩
 | .dict _,_,_,h=>h
theorem cQ.tups{K:af}{H H':Hp}(kt:∀ b x,cN K H b x->cN K H' b x):∀ {ds:List PyData} {vs:List V},C7 ds=true->cQ K H ds vs->cQ K H' ds vs
 | [],_,_,h=>h
 | d :: ds,_,f,⟨v,r,e,q,t⟩=>by
  have f:(LZ d && C7 ds)=true:=f
  rw[cu] at f
  exact⟨v,r,e,Rep.tups kt f.1 q,cQ.tups kt f.2 t⟩
end
theorem Gj:∀ rs:List R5,C7 (rs.map R5.D)=true
 | []=>rfl
 | r :: rs=>by
  show (LZ r.D && C7 (rs.map R5.D))=true
  rw[Gj rs]
  rfl
section
variable{K:af}{c:NC}{CT:Addr}{H H':Hp}{F F':Addr->Prop}{p tp ln lr:Addr}{n:Nat}{s s':NS}{ns:List Int}{rs:List R5}
theorem cY.keep(h:cY K CT H tp ln lr ns rs)(k1:∀ b o,H b=some o->b=tp∨b=ln∨b=lr->H' b=some o)(kt:∀ b x,cN K H b x->cN K H' b x):cY K CT H' tp ln lr ns rs:=by
 obtain⟨⟨dx,h1⟩,h2,vs,h3,h4⟩:=h
 exact⟨⟨dx,k1 _ _ h1 (.inl rfl)⟩,k1 _ _ h2 (.inr (.inl rfl)),vs,k1 _ _ h3 (.inr (.inr rfl)),cQ.tups kt (Gj rs) h4⟩
structure NW(K:af)(c:NC)(CT:Addr)(H:Hp)(F:Addr->Prop)(p tp ln lr:Addr)(ns:List Int)(rs:List R5)(s:NS):Prop where
 eY:d8 K c H F p tp ns.length s
 AW:cY K CT H tp ln lr ns rs
 o1:¬ F tp
 o2:¬ F ln
 o3:¬ F lr
theorem NW.mono(h:NW K c CT H F p tp ln lr ns rs s)(e:aE H H'):NW K c CT H' F p tp ln lr ns rs s:=⟨h.eY.mono e,h.AW.mono e,h.o1,h.o2,h.o3⟩
theorem NW.done(h:NW K c CT H F p tp ln lr ns rs s)(st:Step H F H' F')(hn:d8 K c H' F' p tp ns.length s'):NW K c CT H' F' p tp ln lr ns rs s':=by
 have kt:∀ b x,cN K H b x->cN K H' b x:=λb x=>h.eY.tup st.kp
 obtain⟨⟨dx,h1⟩,h2,vs,h3,h4⟩:=id h.AW
 have nf:∀ b o,H b=some o->¬ F b->¬ F' b:=λb o e nb z=>by
  rcases st.fr b z with w | w
  ·exact nb w
  ·rw[e] at w; cases w
 refine⟨hn,h.AW.keep (λb o e q=>st.kp b o e ?_) kt,nf _ _ h1 h.o1,nf _ _ h2 h.o2,nf _ _ h3 h.o3⟩
 rcases q with rfl | rfl | rfl
 ·exact h.o1
 ·exact h.o2
 ·exact h.o3
theorem Step.refl'(e:aE H H'):Step H F H' F:=⟨λb o q _=>e _ _ q,λb z=>.inl z⟩
theorem Step.trans{H'':Hp}{F'':Addr->Prop}(a:Step H F H' F')(b:Step H' F' H'' F''):Step H F H'' F'':=by
 refine⟨λx o e nf=>b.kp x o (a.kp x o e nf) λz=>?_,λx z=>?_⟩
 ·rcases a.fr x z with w | w
  ·exact nf w
  ·rw[e] at w; cases w
 ·rcases b.fr x z with w | w
  ·exact a.fr x w
  ·by_cases q:F x
   ·exact .inl q
   ·refine .inr ?_
    cases hx:H x with
    | none=>rfl
    | some o =>
     have:=a.kp x o hx q
     rw[this] at w
     cases w
end
theorem vP.join{H:Hp}{l1 l2:Role->Addr}{o1 o2:Role->Option HO}(a:vP H l1 o1)(b:vP H l2 o2)(ap:∀ r q,o1 r≠none->o2 q≠none->l1 r≠l2 q) :
 vP H (λr=>if (o2 r).isSome=true then l2 r else l1 r) (λr=>if (o2 r).isSome=true then o2 r else o1 r):=by
 have ne:∀ {r},(o2 r).isSome=true->o2 r≠none:=λ{r} h e=>by rw[e] at h; cases h
 refine⟨λr o e=>?_,λr q h1 h2 e=>?_⟩
 ·by_cases z:(o2 r).isSome=true
  ·rw[if_pos z] at e ⊢
   exact b.get r o e
  ·rw[if_neg z] at e ⊢
   exact a.get r o e
 ·by_cases z:(o2 r).isSome=true
  ·by_cases z':(o2 q).isSome=true
   ·simp only[z,z',if_true] at h1 h2 e
    exact b.inj r q h1 h2 e
   ·simp only[z,z',if_true,if_false] at h1 h2 e
    exact absurd e.symm (ap q r (by simpa using h2) (ne z))
  ·by_cases z':(o2 q).isSome=true
   ·simp only[z,z',if_true,if_false] at h1 h2 e
    exact absurd e (ap r q (by simpa using h1) (ne z'))
   ·simp only[z,z',if_false] at h1 h2 e
    exact a.inj r q (by simpa using h1) (by simpa using h2) e
structure EH(H0 H:Hp)(p:Addr)(loc:Role->Addr)(ob:Role->Option HO):Prop where
 own:vP H loc ob
 np:loc .eY=p
 hn:ob .eY≠none
 kp:∀ b o,H0 b=some o->b≠p->H b=some o
 fr:∀ b,Fp loc ob b->b=p∨H0 b=none
section
variable{H0 H H':Hp}{p:Addr}{loc:Role->Addr}{ob:Role->Option HO}
theorem EH.free(h:EH H0 H p loc ob){a:Addr}(ha:H a=none):H0 a=none:=by
 cases e:H0 a with
 | none=>rfl
 | some o =>
  by_cases z:a=p
  ·exfalso
   cases ho:ob .eY with
   | none=>exact h.hn ho
   | some u =>
    have:=h.own.get .eY u ho
    rw[h.np,<- z,ha] at this
    cases this
  ·have:=h.kp a o e z
   rw[ha] at this
   cases this
theorem EH.new(h:EH H0 H p loc ob){a:Addr}(ha:H a=none){r:Role}(hr:r≠.eY)(o:HO):EH H0 (upd H a o) p (xS loc r a) (iW ob r o):=by
 refine⟨h.own.new ha r o,by rw[iZ (bT hr)]; exact h.np,by rw[dh (bT hr)]; exact h.hn,λb u e n=>?_,λb hb=>?_⟩
 ·have:=h.kp b u e n
  rw[aI (aR this ha)]
  exact this
 ·rcases h.own.Xn hb with z | rfl
  ·exact h.fr b z
  ·exact .inr (h.free ha)
theorem EH.put(h:EH H0 H p loc ob)(o:HO):EH H0 (upd H p o) p loc (iW ob .eY o):=by
 have e:=h.own.set (r:=.eY) h.hn o
 rw[h.np] at e
 refine⟨e,h.np,by rw[dQ]; exact aT o,λb u q n=>?_,λb hb=>h.fr b ((Ji h.hn).mp hb)⟩
 rw[aI n]
 exact h.kp b u q n
theorem vP.add{H H':Hp}{loc:Role->Addr}{ob:Role->Option HO}(h:vP H loc ob)(s:aE H H'){a:Addr}(ha:H a=none){o:HO}(e:H' a=some o)(r:Role):vP H' (xS loc r a) (iW ob r o):=by
 have h1:=h.new ha r o
 refine⟨λq u eq=>?_,h1.inj⟩
 by_cases z:q=r
 ·subst z
  rw[dQ] at eq
  cases eq
  rw[iQ]
  exact e
 ·rw[dh z] at eq
  rw[iZ z]
  exact s _ _ (h.get q u eq)
theorem EH.add(h:EH H0 H p loc ob)(s:aE H H'){a:Addr}(ha:H a=none){o:HO}(e:H' a=some o){r:Role}(hr:r≠.eY):EH H0 H' p (xS loc r a) (iW ob r o):=by
 have h1:=h.new ha hr o
 exact⟨h.own.add s ha e r,h1.np,h1.hn,λb u q n=>s _ _ (h.kp b u q n),h1.fr⟩
theorem EH.Zf(h:EH H0 H p loc ob){r:Role}(hr:ob r≠none)(nr:r≠.eY)(o:HO):EH H0 (upd H (loc r) o) p loc (iW ob r o):=by
 refine⟨h.own.set hr o,h.np,by rw[dh (bT nr)]; exact h.hn,λb u e n=>?_,λb hb=>h.fr b ((Ji hr).mp hb)⟩
 have nl:b≠loc r:=λz=>by
  rcases h.fr (loc r) ⟨r,hr,rfl⟩ with w | w
  ·exact n (z.trans w)
  ·rw[z,w] at e; cases e
 rw[aI nl]
 exact h.kp b u e n
theorem EH.ext{loc':Role->Addr}{RZ:Role->Option HO}(h:EH H0 H p loc ob)(h1:∀ r,ob r=RZ r)(h2:∀ r,ob r≠none->loc r=loc' r):EH H0 H p loc' RZ:=by
 have e:ob=RZ:=funext h1
 subst e
 refine⟨⟨λr o e=>?_,λr q a b e=>h.own.inj r q a b ?_⟩,?_,h.hn,h.kp,λb hb=>?_⟩
 ·rw[<- h2 r (by rw[e]; exact aT o)]
  exact h.own.get r o e
 ·rw[h2 r a,h2 q b]
  exact e
 ·rw[<- h2 .eY h.hn]
  exact h.np
 ·obtain⟨r,a,e⟩:=hb
  exact h.fr b ⟨r,a,(h2 r a).trans e⟩
theorem EH.join{l2:Role->Addr}{o2:Role->Option HO}(h:EH H0 H p loc ob)(b:vP H' l2 o2)(n2:o2 .eY=none)(fresh:∀ r,o2 r≠none->H (l2 r)=none)(s:aE H H') :
 EH H0 H' p (λr=>if (o2 r).isSome=true then l2 r else loc r) (λr=>if (o2 r).isSome=true then o2 r else ob r):=by
 refine⟨(h.own.mono s).join b λr q h1 h2 e=>?_,?_,?_,λb o e n=>s _ _ (h.kp b o e n),λx hx=>?_⟩
 ·cases ho:ob r with
  | none=>exact h1 ho
  | some u =>
   have:=h.own.get r u ho
   rw[e,fresh q h2] at this
   cases this
 ·show (if (o2 .eY).isSome=true then _ else _)=p
  rw[n2]
  exact h.np
 ·show (if (o2 .eY).isSome=true then _ else _)≠none
  rw[n2]
  exact h.hn
 ·obtain⟨r,h1,h2⟩:=hx
  by_cases z:(o2 r).isSome=true
  ·simp only[z,if_true] at h1 h2
   rw[<- h2]
   exact .inr (h.free (fresh r h1))
  ·simp only[z,if_false] at h1 h2
   exact h.fr x ⟨r,by simpa using h1,by simpa using h2⟩
end
noncomputable def xU(ns:List Int)(i:Nat):RM.Row:=⟨ns.getD i 0,0,0,-1⟩
noncomputable def S0(ns:List Int)(rs:List R5)(cl:List (Nat × Nat)):NS where
 ws:=rs.map λr=>au r.d.toNat
 R:=λ_=>xU ns
 ts:=λ_=>[]
 aH:=cl.map (·.1)
 groups:=cl.map (·.2)
 had:=cl.map λ_=>[]
 ls:=[]
 cps:=[]
noncomputable def Rj(C dx tp lu:Addr)(ls:List Addr)(ws:List (List Nat)):Role->Option HO
 | .d7=>some (.ins C dx [("town",.ref tp),("upright",.ref lu)])
 | .iw=>some (.lst (ls.map V.ref))
 | .mY i=>ws[i]?.map λw=>.lst (bO w)
 | _=>none
noncomputable def VW(sp lu:Addr)(ls:List Addr):Role->Addr
 | .d7=>sp
 | .iw=>lu
 | .mY i=>ls.getD i 0
 | _=>0
theorem Zg{H:Hp}{C sp dx tp lu:Addr}{ls:List Addr}{ws:List (List Nat)}(h1:H sp=some (.ins C dx [("town",.ref tp),("upright",.ref lu)]))(h2:H lu=some (.lst (ls.map V.ref)))(hl:ls.length=ws.length)
 (h3:∀ (i:Nat) l w,ls[i]?=some l->ws[i]?=some w->H l=some (.lst (bO w))) (nd:ls.Nodup) (nu:lu ∉ ls):vP H (VW sp lu ls) (Rj C dx tp lu ls ws):=by
 have at':∀ {i:Nat},Rj C dx tp lu ls ws (.mY i)≠none->∃ (hi:i < ls.length),VW sp lu ls (.mY i)=ls[i]:=λ{i} h=>by
  have hi:i < ls.length:=by
   rw[hl]
   by_cases z:i < ws.length
   ·exact z
   ·exact absurd (show (ws[i]?.map λw=>HO.lst (bO w))=none by rw[iG (by omega)]; rfl) h
  refine⟨hi,?_⟩
  show ls.getD i 0=ls[i]
  rw[av,aa hi]
  rfl
 have wl:∀ {i:Nat} (hi:i < ls.length),∃ w,H ls[i]=some (.lst (bO w)):=λ{i} hi=>⟨ws[i]'(hl ▸ hi),h3 i _ _ (aa hi) (aa (hl ▸ hi))⟩
 have d1:sp≠lu:=Oe h1 h2 (λe=>by cases e)
 have d2:∀ {i:Nat} (hi:i < ls.length),sp≠ls[i]:=λ{i} hi=>by
  obtain⟨w,hw⟩:=wl hi
  exact Oe h1 hw (λe=>by cases e)
 have d3:∀ {i:Nat} (hi:i < ls.length),lu≠ls[i]:=λ{i} hi e=>nu (e ▸ aK hi)
 refine⟨λr o e=>?_,λr q e1 e2 e=>?_⟩
 ·cases r <;> first | (cases e; done) | skip
  case d7=>cases e; exact h1
  case iw=>cases e; exact h2
  case mY i =>
   obtain⟨hi,el⟩:=at' (i:=i) (by rw[e]; exact aT o)
   have hw:=aa (hl ▸ hi:i < ws.length)
   have e:(ws[i]?.map λw=>HO.lst (bO w))=some o:=e
   rw[hw] at e
   cases e
   rw[el]
   exact h3 i _ _ (aa hi) hw
 ·cases r <;> first | exact absurd rfl e1 | skip
  all_goals cases q <;> first | exact absurd rfl e2 | rfl | skip
  case d7.iw=>exact absurd e d1
  case d7.mY i =>
   obtain⟨hi,el⟩:=at' e2
   exact absurd (e.trans el) (d2 hi)
  case iw.d7=>exact absurd e.symm d1
  case iw.mY i =>
   obtain⟨hi,el⟩:=at' e2
   exact absurd (e.trans el) (d3 hi)
  case mY.d7 i =>
   obtain⟨hi,el⟩:=at' e1
   exact absurd (e.symm.trans el) (d2 hi)
  case mY.iw i =>
   obtain⟨hi,el⟩:=at' e1
   exact absurd (e.symm.trans el) (d3 hi)
  case mY.mY i j =>
   obtain⟨hi,el⟩:=at' e1
   obtain⟨hj,el'⟩:=at' e2
   rw[el,el'] at e
   have q:ls[i]?=ls[j]?:=by rw[aa hi,aa hj,e]
   have:=(tO hi nd).mp q
   rw[this]
structure gO(ns:List Int)(rs:List R5):Prop where
 nd:ns.Nodup
 ok:∀ r∈rs,r.Ok ns.length
 n1:1<=ns.length
 n10:ns.length<=10
 m20:rs.length<=20
 pos:∀ x∈ns,0<=x
structure AX(ns:List Int)(rs:List R5)(s:NS):Prop where
 wl:s.ws.length=rs.length
 w4:∀ w∈s.ws,w.length<=4
 fit:∀ g,g < 3->vN ns.length rs.length (s.R g)
noncomputable abbrev Py(rs:List R5)(ws:List (List Nat))(g:Nat):List Nat:=yl rs ws g rs.length
theorem yp{rs:List R5}{ws:List (List Nat)}{g:Nat}:∀ k∈Py rs ws g,k < rs.length:=λk hk=>bE.mp (bM.mp hk).1
noncomputable def xV(ns:List Int)(rs:List R5)(o:gO ns rs)(ws:List (List Nat))(g:Nat):RM.Net:=aU ns rs (Py rs ws g) o.nd o.ok yp
section
variable{K:af}{c:NC}{CT:Addr}{H H':Hp}{loc dx:Role->Addr}{q:TQ}{p tp ln lr:Addr}{n:Nat}{s:NS}{ns:List Int}{rs:List R5}
theorem vP.strAt(O:vP H loc (desc c dx tp loc q s)):Pq c.str H (loc .d7) tp (loc .iw) s.ws:=by
 refine⟨⟨dx .d7,O.get .d7 _ rfl⟩,(au s.ws.length).map λi=>loc (.mY i),?_,by rw[ah,aZ],λi l w e1 e2=>?_⟩
 ·have:=O.get .iw _ rfl
  rw[this,cC]
  rfl
 ·have hi:=(ai.mp e2).1
  rw[ak,fT hi] at e1
  cases e1
  exact O.get (.mY i) _ (by show (s.ws[i]?.map _)=_; rw[e2]; rfl)
theorem vP.Og(O:vP H loc (desc c dx tp loc q s)){g:Nat}(hg:g < 3):qU c.book H (loc (.book g)) (loc (.eW g)) (s.ts g) :=
 ⟨⟨dx (.book g),O.get (.book g) _ (if_pos hg)⟩,O.get (.eW g) _ (if_pos hg)⟩
theorem qX{f:Nat->V}{m g:Nat}(h:g < m):ED ((au m).map f) (g:Int)=some (f g):=dM (by rw[ak,fT h]; rfl)
theorem cS.Oh{l:Addr}{qs:List Addr}{R:Nat->RM.Row}(h:cS K H qs (gp n R))(hl:bL K H l (qs.map V.ref)):vM K H l n R:=by
 have e:qs.length=n:=by rw[h.len]; simp[gp]
 refine⟨qs,hl,e,λi p hp=>h.at' i p _ hp ?_⟩
 have hi:=(ai.mp hp).1
 unfold gp
 rw[ak,fT (by omega)]
 rfl
theorem qY{xs:List Nat}{i:Nat}(h:i < xs.length):ED (bO xs) (i:Int)=some (.int (xs[i]:Nat)):=dM (by rw[ak,aa h]; rfl)
end
noncomputable def gq{α:Type}(f:Nat->α)(i:Nat)(v:α):Nat->α:=λg=>if g=i then v else f g
theorem cH{α:Type}{f:Nat->α}{i:Nat}{v:α}:gq f i v i=v:=if_pos rfl
theorem eT{α:Type}{f:Nat->α}{i g:Nat}{v:α}(h:g≠i):gq f i v g=f g:=if_neg h
theorem vP.ext{H:Hp}{loc loc':Role->Addr}{ob RZ:Role->Option HO}(h:vP H loc ob)(h1:∀ r,ob r=RZ r)(h2:∀ r,ob r≠none->loc r=loc' r):vP H loc' RZ/\∀ b,Fp loc ob b↔Fp loc' RZ b:=by
 have e:ob=RZ:=funext h1
 subst e
 refine⟨⟨λr o e=>?_,λr q a b e=>h.inj r q a b ?_⟩,λb=>⟨λ⟨r,a,e⟩=>⟨r,a,(h2 r a).symm.trans e⟩,λ⟨r,a,e⟩=>⟨r,a,(h2 r a).trans e⟩⟩⟩
 ·rw[<- h2 r (by rw[e]; exact aT o)]
  exact h.get r o e
 ·rw[h2 r a,h2 q b]
  exact e
section
variable{K:af}{c:NC}{H H':Hp}{F:Addr->Prop}{loc dx:Role->Addr}{q:TQ}{p tp:Addr}{n g:Nat}{s:NS}
theorem Oi(hp:loc .eY=p)(O:vP H loc (desc c dx tp loc q s))(hF:∀ b,F b↔Fp loc (desc c dx tp loc q s) b)(hT:ql K H n q s)(hg:g < 3){d' Tz:Addr}(hd:H d'=none)
 (h1:H' (loc (.book g))=some (.ins c.book Tz [("kept",.ref d')])) (h2:H' d'=some (.dT [])) (kp:∀ b o,H b=some o->b≠loc (.book g)->H' b=some o) :
 ∃ F',d8 K c H' F' p tp n { s with ts:=gq s.ts g [] }/\Step H F H' F':=by
 have nb:desc c dx tp loc q s (.book g)≠none:=by
  show (if g < 3 then some _ else none)≠none
  rw[if_pos hg]
  exact aT _
 have Xo:F (loc (.book g)):=(hF _).mpr ⟨.book g,nb,rfl⟩
 have kF:∀ b o,H b=some o->¬ F b->H' b=some o:=λb o e z=>kp b o e λw=>z (w ▸ Xo)
 have N0:d8 K c H F p tp n s:=⟨loc,dx,q,hp,O,hF,hT⟩
 have O1:=O.set nb (.ins c.book Tz [("kept",.ref d')])
 have ndb:d'≠loc (.book g):=λz=>by
  have:=N0.there Xo
  obtain⟨o,e⟩:=this
  rw[z,e] at hd
  cases hd
 have hd1:(upd H (loc (.book g)) (.ins c.book Tz [("kept",.ref d')])) d'=none:=by rw[aI ndb]; exact hd
 have O2:=O1.new hd1 (.eW g) (.dT [])
 have O3:vP H' (xS loc (.eW g) d') (iW (iW (desc c dx tp loc q s) (.book g) (.ins c.book Tz [("kept",.ref d')])) (.eW g) (.dT [])):=by
  refine O2.keep λb o e _=>?_
  by_cases z:b=d'
  ·rw[z,ay] at e
   cases e
   rw[z]
   exact h2
  ·rw[aI z] at e
   by_cases z2:b=loc (.book g)
   ·rw[z2,ay] at e
    cases e
    rw[z2]
    exact h1
   ·rw[aI z2] at e
    exact kp b o e z2
 obtain⟨O4,F4⟩:=O3.ext (RZ:=desc c (λr=>if r = .book g then Tz else dx r) tp (xS loc (.eW g) d') q { s with ts:=gq s.ts g [] }) (loc':=xS loc (.eW g) d') (λr=>by
  cases r <;> first | rfl | skip
  ·rename_i k
   show iW (desc c dx tp loc q s) (.book g) _ (.book k)=(if k < 3 then some (HO.ins c.book (if Role.book k = .book g then Tz else dx (.book k)) [("kept",.ref (xS loc (.eW g) d' (.eW k)))]) else none)
   by_cases z:k=g
   ·subst z
    rw[dQ,if_pos hg,if_pos rfl,iQ]
   ·have z':Role.book k≠.book g:=λe=>z (by cases e; rfl)
    have z'':Role.eW k≠.eW g:=λe=>z (by cases e; rfl)
    rw[dh z',if_neg z',iZ z'']
    rfl
  ·rename_i k
   show iW (iW (desc c dx tp loc q s) (.book g) _) (.eW g) _ (.eW k)=(if k < 3 then some (HO.dT ((gq s.ts g [] k).map k8)) else none)
   by_cases z:k=g
   ·subst z
    rw[dQ,if_pos hg,cH]
    rfl
   ·have z'':Role.eW k≠.eW g:=λe=>z (by cases e; rfl)
    rw[dh z'',eT z]
    rfl) (λr _=>rfl)
 refine⟨Fp _ _,⟨_,_,q,?_,O4,λb=>Iff.rfl,⟨λk hk=>(hT.rows k hk).mono λb x=>N0.tup kF,λi l e=>(hT.aF i l e).mono λb x=>N0.tup kF,hT.cps.mono λb x=>N0.tup kF⟩⟩,kF,λb hb=>?_⟩
 ·rw[iZ (λz=>by cases z)]
  exact hp
 ·rcases O1.Xn ((F4 b).mpr hb) with z | rfl
  ·exact .inl ((hF b).mpr ((Ji nb).mp z))
  ·exact .inr hd
theorem VX(hp:loc .eY=p)(O:vP H loc (desc c dx tp loc q s))(hF:∀ b,F b↔Fp loc (desc c dx tp loc q s) b)(hT:ql K H n q s)(hg:g < 3){x:Nat}(hx:x < n){a:Addr}{d:RM.Row}(ha:cN K H a (RM.cU d)) :
 ∃ F',d8 K c (upd H (loc (.rows g)) (.lst (((q.rq g).map V.ref).set x (.ref a)))) F' p tp n { s with R:=gq s.R g (RM.upd (s.R g) x d) }/\Step H F (upd H (loc (.rows g)) (.lst (((q.rq g).map V.ref).set x (.ref a)))) F':=by
 have nb:desc c dx tp loc q s (.rows g)≠none:=by
  show (if g < 3 then some _ else none)≠none
  rw[if_pos hg]
  exact aT _
 have Xo:F (loc (.rows g)):=(hF _).mpr ⟨.rows g,nb,rfl⟩
 have kF:∀ b o,H b=some o->¬ F b->(upd H (loc (.rows g)) (.lst (((q.rq g).map V.ref).set x (.ref a)))) b=some o:=λb o e z=>by
  have nw:b≠loc (.rows g):=λw=>z (w ▸ Xo)
  rw[aI nw]
  exact e
 have N0:d8 K c H F p tp n s:=⟨loc,dx,q,hp,O,hF,hT⟩
 have kt:∀ {b x},cN K H b x->_:=λ{b x} e=>N0.tup kF (b:=b) (x:=x) e
 have O1:=O.set nb (.lst (((q.rq g).map V.ref).set x (.ref a)))
 obtain⟨O4,F4⟩:=O1.ext (RZ:=desc c dx tp loc { q with rq:=gq q.rq g ((q.rq g).set x a) } { s with R:=gq s.R g (RM.upd (s.R g) x d) }) (loc':=loc) (λr=>by
  cases r <;> first | rfl | skip
  rename_i k
  show iW (desc c dx tp loc q s) (.rows g) _ (.rows k)=(if k < 3 then some (HO.lst ((gq q.rq g ((q.rq g).set x a) k).map V.ref)) else none)
  by_cases z:k=g
  ·subst z
   rw[dQ,if_pos hg,cH,List.map_set]
  ·rw[dh (λe=>z (by cases e; rfl)),eT z]
   rfl) (λr _=>rfl)
 refine⟨Fp _ _,⟨loc,dx,_,hp,O4,λb=>Iff.rfl,⟨λk hk=>?_,λi l e=>(hT.aF i l e).mono λb x=>kt,hT.cps.mono λb x=>kt⟩⟩,kF,λb hb=>.inl ((hF b).mpr ((Ji nb).mp ((F4 b).mpr hb)))⟩
 show cS K _ (gq q.rq g ((q.rq g).set x a) k) (gp n (gq s.R g (RM.upd (s.R g) x d) k))
 by_cases z:k=g
 ·subst z
  rw[cH,cH]
  have h0:=hT.rows k hk
  have hl:(q.rq k).length=n:=by rw[h0.len]; simp[gp]
  refine⟨by rw[cW,hl]; simp[gp],λi b v e1 e2=>?_⟩
  have hi:=(ai.mp e1).1
  rw[cW,hl] at hi
  unfold gp at e2
  rw[ak,fT hi] at e2
  cases e2
  rw[List.getElem?_set] at e1
  by_cases w:x=i
  ·subst w
   rw[if_pos rfl,if_pos (by rw[hl]; exact hi)] at e1
   cases e1
   have:RM.upd (s.R k) x d x=d:=by unfold RM.upd; rw[if_pos rfl]
   show cN K _ a (RM.cU (RM.upd (s.R k) x d x))
   rw[this]
   exact kt ha
  ·rw[if_neg w] at e1
   have:RM.upd (s.R k) x d i=s.R k i:=by unfold RM.upd; rw[if_neg (bT w)]
   show cN K _ b (RM.cU (RM.upd (s.R k) x d i))
   rw[this]
   exact kt (h0.at' i b _ e1 (by unfold gp; rw[ak,fT hi]; rfl))
 ·rw[eT z,eT z]
  exact (hT.rows k hk).mono λb x=>kt
end
end TW
namespace TW
open PySem L2 PyProof.Rows
open Classical in
noncomputable def Off(H:Hp)(F:Addr->Prop):Hp:=λb=>if F b then none else H b
section
variable{K:af}{c:NC}{CT:Addr}{H H':Hp}{F F' F1 F2 G:Addr->Prop}{p tp ln lr:Addr}{n:Nat}{s:NS}{ns:List Int}{rs:List R5}
theorem qZ{b:Addr}{o:HO}(h:Off H F b=some o):¬ F b/\H b=some o:=by
 unfold Off at h
 by_cases z:F b
 ·rw[if_pos z] at h; cases h
 ·rw[if_neg z] at h; exact⟨z,h⟩
theorem vQ{b:Addr}{o:HO}(z:¬ F b)(h:H b=some o):Off H F b=some o:=by
 unfold Off
 rw[if_neg z]
 exact h
theorem eX:aE (Off H F) H:=λb o e=>(qZ e).2
theorem gZ(st:Step H F H' F'):aE (Off H F) (Off H' F'):=λb o e=>by
 obtain⟨h1,h2⟩:=qZ e
 refine vQ (λz=>?_) (st.kp b o h2 h1)
 rcases st.fr b z with w | w
 ·exact h1 w
 ·rw[h2] at w; cases w
theorem c5(e:aE H H'):aE (Off H F) (Off H' F):=gZ (Step.refl' e)
theorem VY{z:Addr}{o:HO}(nz:¬ F z):Off (upd H z o) F=upd (Off H F) z o:=by
 funext b
 by_cases e:b=z
 ·subst e
  rw[ay]
  exact vQ nz ay
 ·rw[aI e]
  unfold Off
  rw[aI e]
theorem d8.aeL(h:d8 K c H F p tp n s){b:Addr}{x:List V}(e:cN K H b x):cN K (Off H F) b x:=by
 rcases e with (e | ⟨o,e⟩) | e
 ·exact .inl (.inl (vQ (λz=>(h.Px z e x).1 rfl) e))
 ·exact .inl (.inr ⟨o,vQ (λz=>(h.Px z e x).2 o rfl) e⟩)
 ·exact .inr e
theorem cY.nw(hT:cY K CT (Off H G) tp ln lr ns rs)(N:d8 K c H F p tp ns.length s)(sub:∀ b,F b->G b):NW K c CT H F p tp ln lr ns rs s:=by
 obtain⟨⟨dx,h1⟩,h2,vs,h3,h4⟩:=id hT
 exact⟨N,hT.mono eX,λz=>(qZ h1).1 (sub _ z),λz=>(qZ h2).1 (sub _ z),λz=>(qZ h3).1 (sub _ z)⟩
end
def HX(K:af)(H:Hp)(l:Addr)(rs:List R5):Prop:=∃ qs:List Addr,H l=some (.lst (qs.map V.ref))/\cS K H qs (rs.map R5.vs)
theorem HX.keep{K:af}{H H':Hp}{l:Addr}{rs:List R5}(h:HX K H l rs)(k:∀ o,H l=some o->H' l=some o)(kt:∀ b x,cN K H b x->cN K H' b x):HX K H' l rs:=by
 obtain⟨qs,h1,h2⟩:=h
 exact⟨qs,k _ h1,h2.mono kt⟩
theorem HX.Xp{K:af}{H:Hp}{l:Addr}:∀ {rs:List R5} {qs:List Addr},cS K H qs (rs.map R5.vs)->cQ K H (rs.map R5.D) (qs.map V.ref)
 | [],[],_=>rfl
 | [],_ :: _,h=>by cases h.len
 | _ :: _,[],h=>by cases h.len
 | r :: rs,q :: qs,h=>⟨.ref q,qs.map V.ref,rfl,Rep.Pk (ns:=r.ns) (h.at' 0 q _ rfl rfl),HX.Xp (l:=l) ⟨Nat.succ.inj h.len,λi p x a b=>h.at' (i + 1) p x a b⟩⟩
theorem TF{H H0 H':Hp}{F:Addr->Prop}{p:Addr}(t:aE H H0)(np:H p=none)(kp:∀ b o,H0 b=some o->b≠p->H' b=some o)(fr:∀ b,F b->b=p∨H0 b=none):aE H (Off H' F):=λb o e=>vQ (λz=>by
 rcases fr b z with rfl | w
 ·rw[e] at np; cases np
 ·rw[t _ _ e] at w; cases w) (kp b o (t b o e) (aR e np))
end TW
namespace L2
open PySem PySem.Spec PyProof.Rows
structure Kf(K:af)(x qual:Str)(st:Stmt)(f:Addr)(fd:FuncData)(dv:Value):Prop where
 ex:∃ (oc:Value) (od:Option Addr) (T:Addr) (o:Obj) (n:Nat) (kV doc pm:Value) (an:Option Addr) (cdv ct:Value) (osl:Array (Option Value)),
  fd=dU x qual (iY st) (fF st) (aC st) (.ref T) kV doc pm an cdv ct/\K.lookup f=some ⟨oc,od,.func fd,osl⟩/\iU K cdv qual=true/\K.lookup T=some o/\o.data = .seq #[dv] n
 kp:dH K (.ref f)=true
section
variable{P:Program}{w:World}{K:af}{mg:Str->Option Value}{base:Heap}
theorem Kf.ok{x qual:Str}{st:Stmt}{f:Addr}{fd:FuncData}{dv:Value}{N ps:List Str}{k:Nat}{sp:Sp}(F:Kf K x qual st f fd dv)(S:aM N ps (aC st))(len:∀ vs H Q E,sp vs H Q E->vs.length=ps.length)
 (hbody:∀ (cdv:Value) (A:Around) (outer:List Env) (s:Shared) (H:Hp) (vs:List V) (Q:VK) (E:XK),jh k (A.deeper (envOfC qual (aC st) s.heap.objs.size f cdv))->sp vs H Q E ->
  ∃ t,iV (m6 ig P w K mg base N qual (aC st) f cdv A outer s H E).W9 (fF st) t/\t { nx:=λ_ H'=>Q .fh H',rt:=Q } (start N vs) H):cj P w K mg base ig (k + 1) f fd ps sp:=by
 obtain⟨oc,od,T,o,n,kV,doc,pm,an,cdv,ct,osl,rfl,lk,hcd,_⟩:=F.ex
 refine SG lk hcd S len λA outer s H vs Q E hr RU=>?_
 obtain⟨t,h,q⟩:=hbody cdv A outer s H vs Q E hr RU
 exact⟨t,h.W9,q⟩
theorem Kf.binds{x qual:Str}{st:Stmt}{f:Addr}{fd:FuncData}{dv:Value}{ps:List Str}{ds:List Value}{m:Nat}(F:Kf K x qual st f fd dv)(hm:m + ds.length=ps.length)
 (h:∀ (T:Addr) (kV doc pm:Value) (an:Option Addr) (cdv ct:Value) (us:List Value),us.length=m ->
  ∃ k,bindArgs (dU x qual (iY st) (fF st) (aC st) (.ref T) kV doc pm an cdv ct) ⟨us,[]⟩=seqItems? (.ref T) >>= k/\k (some #[dv])=pure (ps.zip (us++ds))):Binds K fd ps ds:=by
 obtain⟨oc,od,T,o,n,kV,doc,pm,an,cdv,ct,osl,rfl,lk,hcd,lt,ho⟩:=F.ex
 intro s us hK hl
 obtain⟨k,h1,h2⟩:=h T kV doc pm an cdv ct us (by rw[aB] at hl; omega)
 exact PySem.W.binds_K hK rfl lt ho h1 h2
theorem Pz{x qual:Str}{st:Stmt}{f T:Addr}{o:Obj}{n:Nat}{dv:Value}{oc:Value}{od an:Option Addr}{osl:Array (Option Value)}{kV doc pm cdv ct:Value}(l:K.lookup f=some ⟨oc,od,.func (dU x qual (iY st) (fF st) (aC st) (.ref T) kV doc pm an cdv ct),osl⟩)
 (c:iU K cdv qual=true) (k:dH K (.ref f)=true) (lt:K.lookup T=some o) (ho:o.data = .seq #[dv] n):Kf K x qual st f (dU x qual (iY st) (fF st) (aC st) (.ref T) kV doc pm an cdv ct) dv:=⟨⟨oc,od,T,o,n,kV,doc,pm,an,cdv,ct,osl,rfl,l,c,lt,ho⟩,k⟩
end
end L2
namespace TW
open PySem L2 PyProof.Rows
structure lP(K:af)(c:NC)(H:Hp)(F:Addr->Prop)(loc dx:Role->Addr)(q:TQ)(p tp:Addr)(n:Nat)(s:NS):Prop where
 hp:loc .eY=p
 own:vP H loc (desc c dx tp loc q s)
 fp:∀ b,F b↔Fp loc (desc c dx tp loc q s) b
 tup:ql K H n q s
section
variable{K:af}{c:NC}{H H':Hp}{F:Addr->Prop}{loc dx:Role->Addr}{q:TQ}{p tp:Addr}{n:Nat}{s:NS}
theorem lP.eY(h:lP K c H F loc dx q p tp n s):d8 K c H F p tp n s:=⟨loc,dx,q,h.hp,h.own,h.fp,h.tup⟩
theorem lP.mono(h:lP K c H F loc dx q p tp n s)(e:aE H H'):lP K c H' F loc dx q p tp n s:=⟨h.hp,h.own.mono e,h.fp,h.tup.mono λb x=>e.b5⟩
theorem zO(X:lP K c H F loc dx q p tp n s){r:Role}(hr:desc c dx tp loc q s r≠none){o:HO}{q':TQ}{s':NS}
 (he:∀ x,iW (desc c dx tp loc q s) r o x=desc c dx tp loc q' s' x) (hT':(∀ b x,cN K H b x->cN K (upd H (loc r) o) b x)->ql K (upd H (loc r) o) n q' s') :
 lP K c (upd H (loc r) o) F loc dx q' p tp n s'/\Step H F (upd H (loc r) o) F:=by
 obtain⟨hp,O,hF,hT⟩:=X
 have Xo:F (loc r):=(hF _).mpr ⟨r,hr,rfl⟩
 have N0:d8 K c H F p tp n s:=⟨loc,dx,q,hp,O,hF,hT⟩
 have kF:∀ b u,H b=some u->¬ F b->(upd H (loc r) o) b=some u:=λb u e z=>cZ b u e λw=>z (w ▸ Xo)
 obtain⟨O4,F4⟩:=(O.set hr o).ext (RZ:=desc c dx tp loc q' s') (loc':=loc) he (λx _=>rfl)
 exact⟨⟨hp,O4,λb=>(hF b).trans ((Ji hr).symm.trans (F4 b)),hT' λb x=>N0.tup kF⟩,kF,λb z=>.inl z⟩
theorem fZ{ls:List LS}{i k:Nat}{l':LS}(hi:i < ls.length):(ls.set i l')[k]?=if k=i then some l' else ls[k]?:=by
 rw[List.getElem?_set]
 by_cases z:i=k
 ·subst z
  rw[if_pos rfl,if_pos hi,if_pos rfl]
 ·rw[if_neg z,if_neg (bT z)]
noncomputable def lQ(c:NC)(dx:Role->Addr)(loc:Role->Addr)(i:Nat)(l:LS):HO:=.ins c.post (dx (.bU i)) [("letter",.ref (loc (.letter i))),("group",.int l.grp),("old",.bl l.old),("done_at",.ref (loc (.done i))),("deeds",.ref (loc (.aF i)))]
theorem VZ(X:lP K c H F loc dx q p tp n s){i:Nat}{l:LS}(hl:s.ls[i]?=some l) :
 lP K c (upd H (loc (.bU i)) (lQ c dx loc i { l with old:=true })) F loc dx q p tp n { s with ls:=s.ls.set i { l with old:=true } }/\Step H F (upd H (loc (.bU i)) (lQ c dx loc i { l with old:=true })) F:=by
 have hi:=(ai.mp hl).1
 refine zO X (r:=.bU i) (q':=q) (by show (s.ls[i]?.map _)≠none; rw[hl]; exact aT _) (λx=>?_) (λkt=>⟨λg hg=>(X.tup.rows g hg).mono kt,λk l' e=>?_,X.tup.cps.mono kt⟩)
 ·cases x <;> first | rfl | skip
  ·show some _=some (HO.lst ((au (s.ls.set i _).length).map _))
   rw[cW]
  all_goals rename_i k
  ·show iW (desc c dx tp loc q s) (.bU i) _ (.bU k)=((s.ls.set i _)[k]?.map λl=>lQ c dx loc k l)
   rw[fZ hi]
   by_cases z:k=i
   ·subst z
    rw[dQ,if_pos rfl]
    rfl
   ·rw[dh (λe=>z (by cases e; rfl)),if_neg z]
    rfl
  ·show (s.ls[k]?.map λl=>qk c (dx (.letter k)) l)=((s.ls.set i _)[k]?.map λl=>qk c (dx (.letter k)) l)
   rw[fZ hi]
   by_cases z:k=i
   ·subst z
    rw[if_pos rfl,hl]
    rfl
   ·rw[if_neg z]
  ·show (s.ls[k]?.map λl=>HO.dK (l.done.map λh:Nat=>(cV (h:Int),.bl true)))=((s.ls.set i _)[k]?.map λl=>HO.dK (l.done.map λh:Nat=>(cV (h:Int),.bl true)))
   rw[fZ hi]
   by_cases z:k=i
   ·subst z
    rw[if_pos rfl,hl]
    rfl
   ·rw[if_neg z]
  ·show (s.ls[k]?.map λ_=>HO.lst ((q.dq k).map V.ref))=((s.ls.set i _)[k]?.map λ_=>HO.lst ((q.dq k).map V.ref))
   rw[fZ hi]
   by_cases z:k=i
   ·subst z
    rw[if_pos rfl,hl]
    rfl
   ·rw[if_neg z]
 ·have e:(s.ls.set i _)[k]?=some l':=e
  rw[fZ hi] at e
  by_cases z:k=i
  ·subst z
   rw[if_pos rfl] at e
   cases e
   exact (X.tup.aF k l hl).mono kt
  ·rw[if_neg z] at e
   exact (X.tup.aF k l' e).mono kt
theorem TH(X:lP K c H F loc dx q p tp n s){i:Nat}{l:LS}(hl:s.ls[i]?=some l)(ds:List Nat) :
 lP K c (upd H (loc (.done i)) (.dK (ds.map λh:Nat=>(cV (h:Int),.bl true)))) F loc dx q p tp n { s with ls:=s.ls.set i { l with done:=ds } }/\Step H F (upd H (loc (.done i)) (.dK (ds.map λh:Nat=>(cV (h:Int),.bl true)))) F:=by
 have hi:=(ai.mp hl).1
 refine zO X (r:=.done i) (q':=q) (by show (s.ls[i]?.map _)≠none; rw[hl]; exact aT _) (λx=>?_) (λkt=>⟨λg hg=>(X.tup.rows g hg).mono kt,λk l' e=>?_,X.tup.cps.mono kt⟩)
 ·cases x <;> first | rfl | skip
  ·show some _=some (HO.lst ((au (s.ls.set i _).length).map _))
   rw[cW]
  all_goals rename_i k
  ·show (s.ls[k]?.map λl=>lQ c dx loc k l)=((s.ls.set i _)[k]?.map λl=>lQ c dx loc k l)
   rw[fZ hi]
   by_cases z:k=i
   ·subst z
    rw[if_pos rfl,hl]
    rfl
   ·rw[if_neg z]
  ·show (s.ls[k]?.map λl=>qk c (dx (.letter k)) l)=((s.ls.set i _)[k]?.map λl=>qk c (dx (.letter k)) l)
   rw[fZ hi]
   by_cases z:k=i
   ·subst z
    rw[if_pos rfl,hl]
    rfl
   ·rw[if_neg z]
  ·show iW (desc c dx tp loc q s) (.done i) _ (.done k)=((s.ls.set i _)[k]?.map λl=>HO.dK (l.done.map λh:Nat=>(cV (h:Int),.bl true)))
   rw[fZ hi]
   by_cases z:k=i
   ·subst z
    rw[dQ,if_pos rfl]
    rfl
   ·rw[dh (λe=>z (by cases e; rfl)),if_neg z]
    rfl
  ·show (s.ls[k]?.map λ_=>HO.lst ((q.dq k).map V.ref))=((s.ls.set i _)[k]?.map λ_=>HO.lst ((q.dq k).map V.ref))
   rw[fZ hi]
   by_cases z:k=i
   ·subst z
    rw[if_pos rfl,hl]
    rfl
   ·rw[if_neg z]
 ·have e:(s.ls.set i _)[k]?=some l':=e
  rw[fZ hi] at e
  by_cases z:k=i
  ·subst z
   rw[if_pos rfl] at e
   cases e
   exact (X.tup.aF k l hl).mono kt
  ·rw[if_neg z] at e
   exact (X.tup.aF k l' e).mono kt
theorem BV(X:lP K c H F loc dx q p tp n s){i:Nat}{l:LS}(hl:s.ls[i]?=some l){a:Addr}{d:cF}(ha:cN K H a d.vs) :
 lP K c (upd H (loc (.aF i)) (.lst ((q.dq i).map V.ref++[.ref a]))) F loc dx { q with dq:=gq q.dq i (q.dq i++[a]) } p tp n { s with ls:=s.ls.set i { l with aF:=l.aF++[d] } }/\Step H F (upd H (loc (.aF i)) (.lst ((q.dq i).map V.ref++[.ref a]))) F:=by
 have hi:=(ai.mp hl).1
 refine zO X (r:=.aF i) (q':={ q with dq:=gq q.dq i (q.dq i++[a]) }) (by show (s.ls[i]?.map _)≠none; rw[hl]; exact aT _) (λx=>?_) (λkt=>⟨λg hg=>(X.tup.rows g hg).mono kt,λk l' e=>?_,X.tup.cps.mono kt⟩)
 ·cases x <;> first | rfl | skip
  ·show some _=some (HO.lst ((au (s.ls.set i _).length).map _))
   rw[cW]
  all_goals rename_i k
  ·show (s.ls[k]?.map λl=>lQ c dx loc k l)=((s.ls.set i _)[k]?.map λl=>lQ c dx loc k l)
   rw[fZ hi]
   by_cases z:k=i
   ·subst z
    rw[if_pos rfl,hl]
    rfl
   ·rw[if_neg z]
  ·show (s.ls[k]?.map λl=>qk c (dx (.letter k)) l)=((s.ls.set i _)[k]?.map λl=>qk c (dx (.letter k)) l)
   rw[fZ hi]
   by_cases z:k=i
   ·subst z
    rw[if_pos rfl,hl]
    rfl
   ·rw[if_neg z]
  ·show (s.ls[k]?.map λl=>HO.dK (l.done.map λh:Nat=>(cV (h:Int),.bl true)))=((s.ls.set i _)[k]?.map λl=>HO.dK (l.done.map λh:Nat=>(cV (h:Int),.bl true)))
   rw[fZ hi]
   by_cases z:k=i
   ·subst z
    rw[if_pos rfl,hl]
    rfl
   ·rw[if_neg z]
  ·show iW (desc c dx tp loc q s) (.aF i) _ (.aF k)=((s.ls.set i _)[k]?.map λ_=>HO.lst ((gq q.dq i (q.dq i++[a]) k).map V.ref))
   rw[fZ hi]
   by_cases z:k=i
   ·subst z
    rw[dQ,if_pos rfl,cH,aJ]
    rfl
   ·rw[dh (λe=>z (by cases e; rfl)),if_neg z,eT z]
    rfl
 ·show cS K _ (gq q.dq i (q.dq i++[a]) k) _
  have e:(s.ls.set i _)[k]?=some l':=e
  rw[fZ hi] at e
  by_cases z:k=i
  ·subst z
   rw[if_pos rfl] at e
   cases e
   rw[cH]
   show cS K _ _ ((l.aF++[d]).map cF.vs)
   rw[aJ]
   have h0:=(X.tup.aF k l hl).mono kt
   refine⟨by rw[aB,aB,h0.len]; rfl,λj b x e1 e2=>?_⟩
   rcases Fd e1 with e1 | ⟨rfl,rfl⟩
   ·have hj:=(ai.mp e1).1
    rw[bB (by rw[<- h0.len]; exact hj)] at e2
    exact h0.at' j b x e1 e2
   ·rw[h0.len,bD (az _)] at e2
    rw[dX] at e2
    cases e2
    exact kt _ _ ha
  ·rw[if_neg z] at e
   rw[eT z]
   exact (X.tup.aF k l' e).mono kt
theorem PB(X:lP K c H F loc dx q p tp n s){qs:List Addr}{cps:List Cp}(hq:cS K H qs (cps.map Cp.vs)) :
 lP K c (upd H (loc .kK) (.lst (qs.map V.ref))) F loc dx { q with cq:=qs } p tp n { s with cps:=cps }/\Step H F (upd H (loc .kK) (.lst (qs.map V.ref))) F :=
 zO X (r:=.kK) (q':={ q with cq:=qs }) (aT _) (λx=>by cases x <;> rfl) (λkt=>⟨λg hg=>(X.tup.rows g hg).mono kt,λk l e=>(X.tup.aF k l e).mono kt,hq.mono kt⟩)
theorem TJ(X:lP K c H F loc dx q p tp n s){i:Nat}(hi:i < s.had.length)(hd:List Nat) :
 lP K c (upd H (loc (.handed i)) (.lst (bO hd))) F loc dx q p tp n { s with had:=s.had.set i hd }/\Step H F (upd H (loc (.handed i)) (.lst (bO hd))) F:=by
 refine zO X (r:=.handed i) (q':=q) (by show (s.had[i]?.map _)≠none; rw[aa hi]; exact aT _) (λx=>?_) (λkt=>⟨λg hg=>(X.tup.rows g hg).mono kt,λk l e=>(X.tup.aF k l e).mono kt,X.tup.cps.mono kt⟩)
 cases x <;> first | rfl | skip
 ·show some _=some (HO.lst ((au (s.had.set i _).length).map _))
  rw[cW]
 ·rename_i k
  show iW (desc c dx tp loc q s) (.handed i) _ (.handed k)=((s.had.set i hd)[k]?.map λw=>HO.lst (bO w))
  rw[List.getElem?_set]
  by_cases z:k=i
  ·subst z
   rw[dQ,if_pos rfl,if_pos hi]
   rfl
  ·rw[dh (λe=>z (by cases e; rfl)),if_neg (bT z)]
   rfl
end
theorem Gk{α:Type}{xs:List α}{i:Nat}{x:α}(h:xs[i]?=some x):xs.set i x=xs:=by
 obtain⟨hi,rfl⟩:=ai.mp h
 exact List.set_getElem_self hi
noncomputable def xW(c:NC)(CL Kg la da ea:Addr)(n:Nat)(l:LS):Role->Option HO
 | .bU i=>if i=n then some (.ins c.post CL [("letter",.ref la),("group",.int l.grp),("old",.bl l.old),("done_at",.ref da),("deeds",.ref ea)]) else none
 | .letter i=>if i=n then some (qk c Kg l) else none
 | .done i=>if i=n then some (.dK (l.done.map λh:Nat=>(cV (h:Int),.bl true))) else none
 | .aF i=>if i=n then some (.lst []) else none
 | _=>none
noncomputable def newL(pa la da ea:Addr):Role->Addr
 | .bU _=>pa
 | .letter _=>la
 | .done _=>da
 | .aF _=>ea
 | _=>0
section
variable{K:af}{c:NC}{H H':Hp}{F:Addr->Prop}{loc dx:Role->Addr}{q:TQ}{p tp:Addr}{n:Nat}{s:NS}
theorem Zh{CL Kg pa la da ea:Addr}{l:LS}(h1:H pa=some (.ins c.post CL [("letter",.ref la),("group",.int l.grp),("old",.bl l.old),("done_at",.ref da),("deeds",.ref ea)]))(h2:H la=some (qk c Kg l))(h3:H da=some (.dK (l.done.map λh:Nat=>(cV (h:Int),.bl true))))(h4:H ea=some (.lst []))
 (d1:pa≠la) (d2:pa≠da) (d3:pa≠ea) (d4:la≠da) (d5:la≠ea) (d6:da≠ea):vP H (newL pa la da ea) (xW c CL Kg la da ea n l):=by
 have one:∀ {i:Nat} {o:HO} {o':HO},(if i=n then some o else none)=some o'->o=o'/\i=n:=λ{i o o'} e=>by
  by_cases z:i=n
  ·rw[if_pos z] at e; cases e; exact⟨rfl,z⟩
  ·rw[if_neg z] at e; cases e
 have abK:∀ {i:Nat} {o:HO},(if i=n then some o else none)≠none->i=n:=λ{i o} e=>by
  by_cases z:i=n
  ·exact z
  ·rw[if_neg z] at e; exact absurd rfl e
 refine⟨λr o e=>?_,λr q' a b e=>?_⟩
 ·cases r <;> first | (cases e; done) | skip
  ·rw[<- (one e).1]; exact h1
  ·rw[<- (one e).1]; exact h2
  ·rw[<- (one e).1]; exact h3
  ·rw[<- (one e).1]; exact h4
 ·cases r <;> first | exact absurd rfl a | skip
  all_goals cases q' <;> first | exact absurd rfl b | skip
  all_goals first
   | (rw[abK a,abK b]; done)
   | exact absurd e d1
   | exact absurd e.symm d1
   | exact absurd e d2
   | exact absurd e.symm d2
   | exact absurd e d3
   | exact absurd e.symm d3
   | exact absurd e d4
   | exact absurd e.symm d4
   | exact absurd e d5
   | exact absurd e.symm d5
   | exact absurd e d6
   | exact absurd e.symm d6
theorem TL(hp:loc .eY=p)(O:vP H loc (desc c dx tp loc q s))(hF:∀ b,F b↔Fp loc (desc c dx tp loc q s) b)(hT:ql K H n q s){CL Kg pa la da ea:Addr}{l:LS}(hd:l.aF = [])
 (h1:H pa=some (.ins c.post CL [("letter",.ref la),("group",.int l.grp),("old",.bl l.old),("done_at",.ref da),("deeds",.ref ea)])) (h2:H la=some (qk c Kg l)) (h3:H da=some (.dK (l.done.map λh:Nat=>(cV (h:Int),.bl true)))) (h4:H ea=some (.lst []))
 (d1:pa≠la) (d2:pa≠da) (d3:pa≠ea) (d4:la≠da) (d5:la≠ea) (d6:da≠ea) (n1:¬ F pa) (n2:¬ F la) (n3:¬ F da) (n4:¬ F ea) :
 ∃ F',d8 K c (upd H (loc .cK) (.lst (((au s.ls.length).map λi=>.ref (loc (.bU i)))++[.ref pa]))) F' p tp n { s with ls:=s.ls++[l] } /\
  (∀ b o,H b=some o->¬ F b->(upd H (loc .cK) (.lst (((au s.ls.length).map λi=>.ref (loc (.bU i)))++[.ref pa]))) b=some o)/\∀ b,F' b->F b∨b=pa∨b=la∨b=da∨b=ea:=by
 have aeM:=Zh (n:=s.ls.length) (c:=c) h1 h2 h3 h4 d1 d2 d3 d4 d5 d6
 have N0:d8 K c H F p tp n s:=⟨loc,dx,q,hp,O,hF,hT⟩
 have nb:desc c dx tp loc q s .cK≠none:=aT _
 have Xo:F (loc .cK):=(hF _).mpr ⟨.cK,nb,rfl⟩
 have out:∀ r,xW c CL Kg la da ea s.ls.length l r≠none->¬ F (newL pa la da ea r):=λr h=>by
  cases r <;> first | exact absurd rfl h | assumption
 have kF:∀ b o,H b=some o->¬ F b->(upd H (loc .cK) (.lst (((au s.ls.length).map λi=>.ref (loc (.bU i)))++[.ref pa]))) b=some o:=λb u e z=>cZ b u e λw=>z (w ▸ Xo)
 have kt:∀ b x,cN K H b x->cN K _ b x:=λb x=>N0.tup kF
 have J:=O.join aeM λr q' a b e=>out q' b (e ▸ (hF _).mpr ⟨r,a,rfl⟩)
 have S:=J.set (r:=.cK) nb (.lst (((au s.ls.length).map λi=>V.ref (loc (.bU i)))++[.ref pa]))
 have at':∀ {k:Nat},k≠s.ls.length->(s.ls++[l])[k]?=s.ls[k]?:=λ{k} z=>by
  by_cases w:k < s.ls.length
  ·exact bB w
  ·rw[iG (by rw[aB]; show s.ls.length + 1<=k; omega),iG (by omega)]
 have atn:(s.ls++[l])[s.ls.length]?=some l:=by rw[bD (az _),dX]; rfl
 obtain⟨O4,F4⟩:=S.ext (RZ:=desc c (λr=>if r = .bU s.ls.length then CL else if r = .letter s.ls.length then Kg else dx r) tp (λr=>if (xW c CL Kg la da ea s.ls.length l r).isSome=true then newL pa la da ea r else loc r) { q with dq:=gq q.dq s.ls.length [] } { s with ls:=s.ls++[l] })
  (loc':=λr=>if (xW c CL Kg la da ea s.ls.length l r).isSome=true then newL pa la da ea r else loc r) (λr=>by
   cases r <;> first | rfl | skip
   ·
    show some _=some (HO.lst ((au (s.ls++[l]).length).map _))
    rw[aB]
    show _=some (HO.lst ((au (s.ls.length + 1)).map _))
    rw[gk,aJ]
    congr 2
    congr 1
    ·refine dF λi hi=>?_
     have z:i≠s.ls.length:=by have:=bE.mp hi; omega
     simp[xW,z]
    ·simp[xW,newL]
   all_goals rename_i k
   all_goals by_cases z:k=s.ls.length
   all_goals first | subst z | skip
   all_goals rw[dh (λe=>by cases e)]
   ·simp[xW,newL,desc,atn]
   ·have:=at' z
    simp[xW,newL,desc,z,this]
   ·simp[xW,newL,desc,atn]
   ·have:=at' z
    simp[xW,newL,desc,z,this]
   ·simp[xW,newL,desc,atn]
   ·have:=at' z
    simp[xW,newL,desc,z,this]
   ·simp[xW,newL,desc,atn,cH]
   ·have:=at' z
    simp[xW,newL,desc,z,this,eT z]) (λr _=>rfl)
 refine⟨Fp _ _,⟨λr=>if (xW c CL Kg la da ea s.ls.length l r).isSome=true then newL pa la da ea r else loc r,_,_,hp,O4,λb=>Iff.rfl,⟨λg hg=>(hT.rows g hg).mono kt,λk l' e=>?_,hT.cps.mono kt⟩⟩,kF,λb hb=>?_⟩
 ·have e:(s.ls++[l])[k]?=some l':=e
  show cS K _ (gq q.dq s.ls.length [] k) _
  by_cases z:k=s.ls.length
  ·subst z
   rw[atn] at e
   cases e
   rw[cH,hd]
   exact⟨rfl,λi b x e=>by cases e⟩
  ·rw[at' z] at e
   rw[eT z]
   exact (hT.aF k l' e).mono kt
 ·obtain⟨r,a,e⟩:=(Ji (ob:=λr=>if (xW c CL Kg la da ea s.ls.length l r).isSome=true then xW c CL Kg la da ea s.ls.length l r else desc c dx tp loc q s r) (r:=.cK) nb).mp ((F4 b).mpr hb)
  by_cases z:(xW c CL Kg la da ea s.ls.length l r).isSome=true
  ·simp only[z,if_true] at e
   subst e
   right
   cases r <;> first | (cases z; done) | skip
   ·exact .inl rfl
   ·exact .inr (.inl rfl)
   ·exact .inr (.inr (.inl rfl))
   ·exact .inr (.inr (.inr rfl))
  ·simp only[z,if_false] at a e
   exact .inl ((hF b).mpr ⟨r,by simpa using a,by simpa using e⟩)
end
theorem V0(a b x y:Int):PyData.eqv (.tuple (([a,b]:List Int).map .int)) (.tuple (([x,y]:List Int).map .int))=decide (a=x/\b=y):=by
 show (PyData.eqv (.int a) (.int x) && (PyData.eqv (.int b) (.int y) && true))=_
 show ((a == x) && ((b == y) && true))=_
 rw[Bool.and_true,jf]
 simp
noncomputable def nP(s:NS)(i:Nat)(d:cF):NS:=match s.ls[i]? with | some l=>{ s with ls:=s.ls.set i { l with aF:=l.aF++[d] } } | none=>s
theorem fj{s:NS}{i:Nat}{d:cF}{l:LS}(h:s.ls[i]?=some l):nP s i d = { s with ls:=s.ls.set i { l with aF:=l.aF++[d] } }:=by
 unfold nP
 rw[h]
theorem cS.snoc{K:af}{H:Hp}{qs:List Addr}{xs:List (List V)}{a:Addr}{x:List V}(h:cS K H qs xs)(ha:cN K H a x):cS K H (qs++[a]) (xs++[x]):=by
 refine⟨by rw[aB,aB,h.len]; rfl,λj b y e1 e2=>?_⟩
 rcases Fd e1 with e1 | ⟨rfl,rfl⟩
 ·have hj:=(ai.mp e1).1
  rw[bB (by rw[<- h.len]; exact hj)] at e2
  exact h.at' j b y e1 e2
 ·rw[h.len,bD (az _),dX] at e2
  cases e2
  exact ha
end TW
namespace RM
variable{N:Net}{S:Nat->Row}
end RM
namespace Gr
end Gr
namespace L2
open PySem PySem.Spec PyProof.Rows
section
variable{X:Cx}{pos:Pos}
theorem sS(i:Nat){x:Str}{e:Expr}{te:TE}{pos':Pos}{ps:List Str}{sc:Scope}(S:aM X.N ps sc)(he:PE X e te)(hi:X.N[i]?=some x:=by rfl)(hx:Loc X.env.scope x:=by first | exact Or.inl rfl | exact Or.inr rfl)(hs:swapsWith e (some (.Name x pos')) pos.line X.env=pure false:=by rfl)(hf:X.fn x=true∨X.env.scope.names.lookup x=some .local:=by first | exact .inl rfl | exact .inr rfl | assumption) :
 PS X (.Assign [.Name x pos'] e pos) (Vc te (gX i)):=YB S.nd hi hx he hs hf
theorem gS(i:Nat){x:Str}(hN:X.N.Nodup)(hi:X.N[i]?=some x:=by rfl)(hx:Loc X.env.scope x:=by first | exact Or.inl rfl | exact Or.inr rfl)(hf:X.fn x=true∨X.env.scope.names.lookup x=some .local:=by first | exact .inl rfl | exact .inr rfl | assumption):PG X (.Name x pos) (gX i):=OW hN hi hx hf
theorem gT(i:Nat){x:Str}{ps:List Str}{sc:Scope}(S:aM X.N ps sc)(hi:X.N[i]?=some x:=by rfl)(hx:Loc X.env.scope x:=by first | exact Or.inl rfl | exact Or.inr rfl)(hf:X.fn x=true∨X.env.scope.names.lookup x=some .local:=by first | exact .inl rfl | exact .inr rfl | assumption):PG X (.Name x pos) (gX i):=OW S.nd hi hx hf
theorem oR{e:Expr}{te:TE}(he:PE X e te):iV X [.Return (some e) pos] (Vb te):=bw (Sg he)
theorem oB{b j pos'}:iV X [.Return (some (.Constant (.bool b) j pos')) pos] (Vb (tC (.bl b))):=bw (Sg Lq)
theorem oE{e:Expr}{te:TE}(he:PE X e te)(hs:swapsWith e none pos.line X.env=pure false:=by rfl):iV X [.Expr e pos] (Xa te):=bw (fD he hs)
theorem gC{e1:Expr}{t1:TE}(h1:PE X e1 t1)(s1:fY e1=true:=by rfl):PA X [e1] (iX t1 CV):=(sJ h1 gY s1)
theorem mZ{e1 e2:Expr}{t1 t2:TE}(h1:PE X e1 t1)(h2:PE X e2 t2)(s1:fY e1=true:=by rfl)(s2:fY e2=true:=by rfl):PA X [e1,e2] (iX t1 (iX t2 CV)):=(sJ h1 (sJ h2 gY s2) s1)
theorem Kh{e1 e2 e3:Expr}{t1 t2 t3:TE}(h1:PE X e1 t1)(h2:PE X e2 t2)(h3:PE X e3 t3)(s1:fY e1=true:=by rfl)(s2:fY e2=true:=by rfl)(s3:fY e3=true:=by rfl):PA X [e1,e2,e3] (iX t1 (iX t2 (iX t3 CV))):=(sJ h1 (sJ h2 (sJ h3 gY s3) s2) s1)
theorem Zi{e1 e2 e3 e4:Expr}{t1 t2 t3 t4:TE}(h1:PE X e1 t1)(h2:PE X e2 t2)(h3:PE X e3 t3)(h4:PE X e4 t4)(s1:fY e1=true:=by rfl)(s2:fY e2=true:=by rfl)(s3:fY e3=true:=by rfl)(s4:fY e4=true:=by rfl):PA X [e1,e2,e3,e4] (iX t1 (iX t2 (iX t3 (iX t4 CV)))):=(sJ h1 (sJ h2 (sJ h3 (sJ h4 gY s4) s3) s2) s1)
theorem aN5{e1 e2 e3 e4 e5:Expr}{t1 t2 t3 t4 t5:TE}(h1:PE X e1 t1)(h2:PE X e2 t2)(h3:PE X e3 t3)(h4:PE X e4 t4)(h5:PE X e5 t5)(s1:fY e1=true:=by rfl)(s2:fY e2=true:=by rfl)(s3:fY e3=true:=by rfl)(s4:fY e4=true:=by rfl)(s5:fY e5=true:=by rfl):PA X [e1,e2,e3,e4,e5] (iX t1 (iX t2 (iX t3 (iX t4 (iX t5 CV))))):=(sJ h1 (sJ h2 (sJ h3 (sJ h4 (sJ h5 gY s5) s4) s3) s2) s1)
theorem aN6{e1 e2 e3 e4 e5 e6:Expr}{t1 t2 t3 t4 t5 t6:TE}(h1:PE X e1 t1)(h2:PE X e2 t2)(h3:PE X e3 t3)(h4:PE X e4 t4)(h5:PE X e5 t5)(h6:PE X e6 t6)(s1:fY e1=true:=by rfl)(s2:fY e2=true:=by rfl)(s3:fY e3=true:=by rfl)(s4:fY e4=true:=by rfl)(s5:fY e5=true:=by rfl)(s6:fY e6=true:=by rfl):PA X [e1,e2,e3,e4,e5,e6] (iX t1 (iX t2 (iX t3 (iX t4 (iX t5 (iX t6 CV)))))):=(sJ h1 (sJ h2 (sJ h3 (sJ h4 (sJ h5 (sJ h6 gY s6) s5) s4) s3) s2) s1)
theorem kO{N ps:List Str}{Xh scope:Scope}(S:aM N ps Xh)(N2:List Str)(cap:List (Option Nat))(hd:X.env.scope=Xh:=by rfl)(hN:X.N=N:=by rfl)(h:Kd scope Xh N N2 cap=true:=by decide +kernel):jk X scope N2 cap:=Q0 hd hN h
end
section
variable{X:Cx}{a b tg iter:Expr}{ta tb:TE}{pos:Pos}{op:CmpOp}{r:R2}{body:List Stmt}{wi:TI}{g:TG}{ts:TS}
theorem xL(ha:PE X a ta)(hb:PE X b tb)(hs:BN b:=by exact λ_ _=>rfl):PE X (.Subscript a b pos) (Sq (QJ X.K) ta tb):=Pb Pc ha hb hs
theorem xT(ha:PE X a ta)(hb:PE X b tb)(hs:BN b:=by exact λ_ _=>rfl):PE X (.Subscript a b pos) (Sq (SJ X.K) ta tb):=Pb SK ha hb hs
theorem yL(K:af)(ha:PE X a ta)(hb:PE X b tb)(hK:X.K=K:=by rfl)(hs:BN b:=by exact λ_ _=>rfl):PE X (.Subscript a b pos) (Sq (QJ K) ta tb):=Pb (S4 K hK) ha hb hs
theorem yT(K:af)(ha:PE X a ta)(hb:PE X b tb)(hK:X.K=K:=by rfl)(hs:BN b:=by exact λ_ _=>rfl):PE X (.Subscript a b pos) (Sq (SJ K) ta tb):=Pb (Vw K hK) ha hb hs
theorem qE(ho:xY X (compareOp op) r)(ha:PE X a ta)(hb:PE X b tb)(h1:op≠.In:=by decide)(h2:op≠.NotIn:=by decide):PE X (.Compare a [op] [b] pos) (Sq r ta tb):=O0 ho ha hb (Sw b h1 h2)
theorem qT(ho:xY X (compareOp op) r)(ha:PE X a ta)(hb:PE X b tb)(h1:op≠.In:=by decide)(h2:op≠.NotIn:=by decide):PT X (.Compare a [op] [b] pos) (Sx (Sq r ta tb)):=fX ho ha hb (Sw b h1 h2)
theorem fS(hi:PI X tg iter wi)(hg:PG X tg g)(hb:iV X body ts)(hp:PassesOwn (model X.prog X.w) X.A X.env X.xe:=by exact PassesOwn.never)(hc:X.calm=true:=by rfl)(hs:∀ x,foldedSetIterable iter X.env x=pure x:=by intro _; rfl):PS X (.For tg iter body [] pos) (aa5 wi g ts):=YD hp hc hi hg hb hs
end
section
variable{X:Cx}{x:Str}{p pos:Pos}{e:Expr}{es:List Expr}{te:TE}{t:TA}{id:String}{r:List V->Hp->VK->Prop}
theorem cB(hc:mX X (.builtin id) r)(hm:X.mg x=none)(hv:bootBuiltins x=some (.builtin id))(ha:PA X (e :: es) t)(hg:Gl X x:=by rfl)(hn:x≠"__name__" := by decide)(hdb:(x == ("__debug__" : Str))=false:=by decide)
 (he:starEach (e :: es) X.env=(false,eval e X.env) :: starEach es X.env:=by rfl) (hpl:(backTo pos (starEach es X.env)).any (·.1)=false:=by rfl):PE X (.Call (.Name x p) (e :: es) [] pos) (tCB r t):=Lz hc hg hm hv ha hn hdb he hpl
theorem lS(hm:X.mg "len" = none)(ha:PE X e te)(hg:Gl X "len" := by rfl)(hns:fY e=true:=by rfl)(he:starEach [e] X.env=(false,eval e X.env) :: starEach [] X.env:=by rfl)(hpl:(backTo pos (starEach [] X.env)).any (·.1)=false:=by rfl) :
 PE X (.Call (.Name "len" p) [e] [] pos) (tCB (λxs H Q=>∃ p ys,xs = [.ref p]/\(bL X.K H p ys∨cN X.K H p ys)/\Q (.int ys.length) H) (iX te CV)):=Lz J8 hg hm PySem.boot_len (sJ ha gY hns) (by decide) (by decide) he hpl
end
theorem jA{N P:List Str}{sc:Scope}(h1:sc.kind = .function:=by rfl)(h2:sc.isCoroutine=false:=by rfl)(h3:sc.isGenerator=false:=by rfl)(h4:N.Nodup:=by decide +kernel)(h5:N.take P.length=P:=by rfl)(h6:∀ x∈P,sc.names.lookup x=some .local∨sc.names.lookup x=some .cell:=by decide +kernel)(h7:∀ y∈sc.names,y.2≠.free:=by decide +kernel):aM N P sc:=⟨h1,h2,h3,h4,h5,h6,h7⟩
structure lR(K:af)(mg:Str->Option Value)(x key:Str)(st:Stmt)(f:Addr)(d:FuncData)(ps:List Str):Prop where
 F:Ng K x key st f d
 B:Binds K d ps []
 g:mg x=some (.ref f)
structure jB(K:af)(C:Addr)(x key:Str)(st:Stmt)(f:Addr)(d:FuncData)(ps:List Str):Prop where
 F:Ng K x key st f d
 B:Binds K d ps []
 m:J4 K C x f
structure L0(K:af)(C:Addr)(key:Str)(st:Stmt)(f:Addr)(d:FuncData)(ps:List Str):Prop where
 F:Ng K "__init__" key st f d
 B:Binds K d ps []
 M:Mk K C f
def EG(K:af)(mg:Str->Option Value)(x key:Str)(st:Stmt)(f:Addr):Prop:=∃ d,Ng K x key st f d/\mg x=some (.ref f)
def EM(K:af)(C:Addr)(x key:Str)(st:Stmt)(f:Addr):Prop:=∃ d,Ng K x key st f d/\J4 K C x f
structure EC(K:af)(C:Addr):Prop where
 c:HN K C
 Xq:PySem.W.makesIn K C=true
 kc:dH K (.ref C)=true
section
variable{K:af}{h:Heap}{mg:Str->Option Value}{x key:Str}{st:Stmt}{C f:Addr}{oc:Value}{od an:Option Addr}{osl:Array (Option Value)}{kV doc pm cdv ct:Value}
theorem exG(X:K.In h)(G:h.Ns mainGlobals mg)(a:bG K mainGlobals x=some (some (.ref f)))(l:K.lookup f=some ⟨oc,od,.func (dU x key (iY st) (fF st) (aC st) .none kV doc pm an cdv ct),osl⟩)(c:iU K cdv key=true)(k:dH K (.ref f)=true):EG K mg x key st f:=⟨_,SY l c k,cO X G a⟩
theorem Zj(a:aG K (.ref C) x=some (some (.ref f)))(i:PySem.W.isFn K (.ref f)=true)(l:K.lookup f=some ⟨oc,od,.func (dU x key (iY st) (fF st) (aC st) .none kV doc pm an cdv ct),osl⟩)(c:iU K cdv key=true)(k:dH K (.ref f)=true):EM K C x key st f:=⟨_,SY l c k,⟨a,i,k⟩⟩
theorem Xr(h1:vF K C Str.empty=true)(h2:tL K C=true)(h3:PySem.W.plainOver K C=true)(h4:aG K (.ref C) "__setattr__" = some (some (.builtin "object.__setattr__")))(h5:PySem.W.makesIn K C=true)(h6:dH K (.ref C)=true):EC K C:=⟨⟨h1,h2,h3,h4⟩,h5,h6⟩
end
section
variable{X:Cx}{k k':Nat}{f C:Addr}{fd:FuncData}{ps:List Str}{sp:Sp}{x m key:Str}{st:Stmt}{p pos apos:Pos}{e o:Expr}{es:List Expr}{ta:TE}{t:TA}
theorem cG(F:cj X.prog X.w X.K X.mg X.base ig k f fd ps sp)(hr:jh k' X.A)(c:lR X.K X.mg x key st f fd ps)(ha:PA X (e :: es) t)(hle:k<=k':=by decide)(hg:Gl X x:=by rfl)
 (hdb:(x == ("__debug__" : Str))=false:=by decide) (he:starEach (e :: es) X.env=(false,eval e X.env) :: starEach es X.env:=by rfl) (hpl:(backTo pos (starEach es X.env)).any (·.1)=false:=by rfl) :
 PE X (.Call (.Name x p) (e :: es) [] pos) (Xd sp [] E0 t):=BJ F (hr.mono hle) hg c.g c.F.kp c.B .nil jR ha hdb he hpl
theorem cM{pl:Sem Bool}(ho:PE X o ta)(c:HN X.K C)(u:jB X.K C m key st f fd ps)(F:cj X.prog X.w X.K X.mg X.base ig k f fd ps sp)(hr:jh k' X.A)(ha:PA X (e :: es) t)(hle:k<=k':=by decide)
 (hst:starEach (e :: es) X.env=(false,eval e X.env) :: starEach es X.env:=by rfl) (hpl:(backTo pos (starEach es X.env)).any (·.1)=false:=by rfl)
 (ht:eval (.Call (.Attribute o m apos) (e :: es) [] pos) X.env=(do
  let ov <- eval o X.env
  standAt apos.atName
  let (f,first) <- holding [ov] (getMethod ov m pl)
  callWith pos f first (backTo pos (starEach (e :: es) X.env)) (backToKw pos (keywordEach [] X.env))):=by rfl) :
 PE X (.Call (.Attribute o m apos) (e :: es) [] pos) (D0 C m sp [] E0 ta t):=vI ho c u.m F (hr.mono hle) u.B .nil jR ha hst hpl ht
theorem cI(u:L0 X.K C key st f fd ps)(F:cj X.prog X.w X.K X.mg X.base ig k f fd ps sp)(hr:jh k' X.A)(hm:X.mg x=some (.ref C))(ha:PA X (e :: es) t)(hle:k + 1<=k':=by decide)(hg:Gl X x:=by rfl)
 (hdb:(x == ("__debug__" : Str))=false:=by decide) (he:starEach (e :: es) X.env=(false,eval e X.env) :: starEach es X.env:=by rfl) (hpl:(backTo pos (starEach es X.env)).any (·.1)=false:=by rfl) :
 PE X (.Call (.Name x p) (e :: es) [] pos) (SD C sp [] E0 t):=O6 u.M F (hr.mono hle) hg hm u.B .nil jR ha hdb he hpl
end
section
variable{P:Program}{w:World}{K:af}{mg:Str->Option Value}{base:Heap}
theorem Ng.jK{x qual:Str}{st:Stmt}{f:Addr}{fd:FuncData}{N ps:List Str}{k:Nat}{sp:Sp}(F:Ng K x qual st f fd)(S:aM N ps (aC st))
 (hb:∀ {cdv:Value} {A:Around} {outer:List Env} {s:Shared} {vs:List V} (H:Hp) (Q:VK) (E:XK),jh k (A.deeper (envOfC qual (aC st) s.heap.objs.size f cdv))->sp vs H Q E ->
  ∃ t,iV (m6 ig P w K mg base N qual (aC st) f cdv A outer s H E).W9 (fF st) t/\t { nx:=λ_ H'=>Q .fh H',rt:=Q } (start N vs) H) (len:∀ vs H Q E,sp vs H Q E->vs.length=ps.length:=by intro _ _ _ _ h; cases h; subst_vars; rfl):cj P w K mg base ig (k + 1) f fd ps sp:=F.ok S len λ_ _ _ _ H _ Q E hr h=>hb H Q E hr h
theorem Ng.V1{x qual:Str}{st:Stmt}{f:Addr}{fd:FuncData}{N ps:List Str}{k:Nat}{sp:Sp}(F:Ng K x qual st f fd)(S:aM N ps (aC st))
 (hb:∀ {cdv:Value} {A:Around} {outer:List Env} {s:Shared} {vs:List V} (H:Hp) (Q:VK) (E:XK),jh k (A.deeper (envOfC qual (aC st) s.heap.objs.size f cdv))->sp vs H Q E ->
  ∃ t,iV (m6 (D6 P w) P w K mg base N qual (aC st) f cdv A outer s H E) (fF st) t/\t { nx:=λ_ H'=>Q .fh H',rt:=Q } (start N vs) H) (len:∀ vs H Q E,sp vs H Q E->vs.length=ps.length:=by intro _ _ _ _ h; cases h; subst_vars; rfl):cj P w K mg base (D6 P w) (k + 1) f fd ps sp:=F.okX S len λ_ _ _ _ H _ Q E hr h=>hb H Q E hr h
theorem Kf.jK{x qual:Str}{st:Stmt}{f:Addr}{fd:FuncData}{dv:Value}{N ps:List Str}{k:Nat}{sp:Sp}(F:Kf K x qual st f fd dv)(S:aM N ps (aC st))
 (hb:∀ {cdv:Value} {A:Around} {outer:List Env} {s:Shared} {vs:List V} (H:Hp) (Q:VK) (E:XK),jh k (A.deeper (envOfC qual (aC st) s.heap.objs.size f cdv))->sp vs H Q E ->
  ∃ t,iV (m6 ig P w K mg base N qual (aC st) f cdv A outer s H E).W9 (fF st) t/\t { nx:=λ_ H'=>Q .fh H',rt:=Q } (start N vs) H) (len:∀ vs H Q E,sp vs H Q E->vs.length=ps.length:=by intro _ _ _ _ h; cases h; subst_vars; rfl):cj P w K mg base ig (k + 1) f fd ps sp:=F.ok S len λ_ _ _ _ H _ Q E hr h=>hb H Q E hr h
end
end L2
namespace L2
open PySem PySem.W PySem.Spec PyProof.Rows
section
variable{prog:Program}{w:World}{A:Around}{E:Value->Shared->Prop}{s:Shared}
theorem Kl{a:Addr}{vs:List (Key × Value)}{ep:Nat}{R:Result->Shared->Prop}(hh:A.handled=none)(lo:(a == sysModules)=false)(hm:s.heap.DictAt (dJ prog w) a vs ep)(hz:vs.length<=sizeLine)
 (fin:∀ h' tk acc c,(∀ b o,s.heap.get? b=some o->h'.get? b=some o)->h'.get? s.heap.objs.size=some { cls:=.type "list",dict:=none,data:=.seq acc c,slots:=#[] }->ItemsOf (λi v=>∃ k x,vs[i]?=some (k,x)/\(dJ prog w).is k v=true) acc vs.length->R (.ok (.ret (.ref s.heap.objs.size))) { s with heap:=h',toks:=tk }):codeAny (model prog w) A (.builtin "proto.collect" ⟨[.ref a],[]⟩) R s:=by
 refine codeAny_builtin F.entry_proto_collect ?_
 rw[Around.under_plainId F.plain_proto_collect _]
 refine wpAny_bind (m:=newList []) (wpAny_newObj_type (wpAny_pure ⟨plainId_quiet F.plain_list_iadd _,codeAny_builtin F.entry_list_iadd ?_⟩))
 rw[Around.under_plainId F.plain_list_iadd _]
 have ha:a < s.heap.objs.size:=hm.lt_size
 have q1:(s.heap.push { cls:=.type "list",data:=.seq ([]:List Value).toArray }).DictAt (dJ prog w) a vs ep:=hm.push _
 have hS1:(s.heap.push { cls:=.type "list",data:=.seq ([]:List Value).toArray }).get? s.heap.objs.size=some { cls:=.type "list",data:=.seq ([]:List Value).toArray }:=Heap.get?_push_size _ rfl
 have k1:∀ b o,s.heap.get? b=some o->(s.heap.push { cls:=.type "list",data:=.seq ([]:List Value).toArray }).get? b=some o:=λb o e=>Heap.get?_push_of_some _ e
 generalize s.heap.push { cls:=.type "list",data:=.seq ([]:List Value).toArray }=h1 at q1 hS1 k1 ⊢
 exact kdl_extend (s:={ s with heap:=h1 }) (kdl_dict (ep:=ep) lo) hh q1 s.heap.objs.size (Nat.ne_of_gt ha) (Nat.ne_of_gt ha) (.ref s.heap.objs.size) _ hS1 (λh' tk acc c kp hS hacc=>fin h' tk acc c (λb o e=>kp b o (bu (Heap.lt_size e)) (k1 b o e)) hS hacc) hz
theorem Km{a:Addr}{vs:List (Key × Value)}{ep:Nat}{Q:List Value->Shared->Prop}(hh:A.handled=none)(lo:(a == sysModules)=false)(hm:s.heap.DictAt (dJ prog w) a vs ep)(hz:vs.length<=sizeLine)
 (fin:∀ us h' tk,us.length=vs.length->(∀ (i:Nat) (u:Value),us[i]?=some u->∃ k x,vs[i]?=some (k,x)/\(dJ prog w).is k u=true)->(∀ b o,s.heap.get? b=some o->h'.get? b=some o)->s.heap.objs.size < h'.objs.size->Q us { s with heap:=h',toks:=tk }):wpAny (model prog w) A (collect (.ref a)) Q E s:=by
 unfold collect
 refine wpAny_bind (wpAny_runValue (Kl hh lo hm hz λh' tk acc c kp hS hacc=>?_))
 refine wpAny_bind (wpAny_load (s:={ s with heap:=h',toks:=tk }) hS (wpAny_pure (fin acc.toList h' tk ?_ (λi u e=>?_) kp (Heap.lt_size hS))))
 ·rw[fU]; exact hacc.1
 ·rw[uR] at e; exact hacc.2 i u e
theorem Jj:∀ {us:List Value} {ks:List Int},us.length=ks.length->(∀ (i:Nat) (u:Value),us[i]?=some u->∃ k,ks[i]?=some k/\∃ t,u=Value.int k t)->IntsAre us ks
 | [],[],_,_=>.nil
 | [],_ :: _,h,_=>by cases h
 | _ :: _,[],h,_=>by cases h
 | u :: us,k :: ks,h,q=>by
  obtain⟨k',e1,t,e2⟩:=q 0 u rfl
  cases e1
  subst e2
  exact .cons k t (Jj (Nat.succ.inj h) λi u e=>q (i + 1) u e)
theorem L1{a:Addr}{vs:List (Key × Value)}{ks:List Int}{ep:Nat}{Q:Value->Shared->Prop}(hh:A.handled=none)(lo:(a == sysModules)=false)(hm:s.heap.DictAt (dJ prog w) a vs ep)(h64:vs.length < 64)(hk:vs.map (·.1)=ks.map cV)
 (fin:∀ l out ns h' tk,IntsAre out.toList ns->ns.Perm ks->ns.Pairwise (·<=·)->s.heap.objs.size<=l->(∀ b o,s.heap.get? b=some o->h'.get? b=some o)->(∃ e,h'.get? l=some (seqObj "list" out e))->Q (.ref l) { s with heap:=h',toks:=tk }):wpAny (model prog w) A (call (.builtin "sorted") [.ref a]) Q E s:=by
 refine Calls.call_function_entry kind_sorted plain_sorted entry_sorted (args_sorted1 _) ?_
 unfold Builtin.«sorted»
 refine wpAny_bind (m:=checkCount "sorted" 1 1 _) (wpAny_pure ?_)
 refine wpAny_bind (Km (by simp[hh]) lo hm (aO (gR h64) (by decide)) λus h1 tk1 hlen hat kp lt1=>?_)
 have Nh:ks.length=vs.length:=by
  have:=congrArg List.length hk
  rw[ah,ah] at this
  exact this.symm
 have hi1:IntsAre us ks:=Jj (by omega) λi u e=>by
  obtain⟨k,x,e1,e2⟩:=hat i u e
  have e3:(vs.map (·.1))[i]?=some k:=by rw[ak,e1]; rfl
  rw[hk,ak] at e3
  cases e4:ks[i]? with
  | none=>rw[e4] at e3; cases e3
  | some k' =>
   rw[e4] at e3
   cases e3
   obtain⟨t,et⟩:=abu (P:=prog) (w:=w) e2
   exact⟨k',rfl,t,et⟩
 have hl:us.length < 64:=by omega
 refine wpAny_bind (wpAny_newList ?_ (aO (gR hl) (by decide)))
 have ho:(h1.push (seqObj "list" us.toArray 0)).get? h1.objs.size=some (seqObj "list" us.toArray 0):=Heap.get?_push_size _ rfl
 refine wpAny_bind (wpAny_holding (wpAny_call_entry slot_list_sort (s:={ s with heap:=h1.push (seqObj "list" us.toArray 0),toks:=tk1 }) ⟨_,ho,rfl⟩ entry_list_sort (list_sort_tree ho hi1 hl λout ns a1 a2 a3=>⟨_,rfl,?_⟩) (args_list_sort _)))
 obtain⟨e,he⟩:=sortedHeap_at (vs:=us) (out:=out) ho
 refine wpAny_pure ⟨_,rfl,fin h1.objs.size out ns _ tk1 a1 a2 a3 (gR lt1) (λb o z=>?_) ⟨e,he⟩⟩
 have zb:=kp _ _ z
 have lt:=Heap.lt_size zb
 rw[sortedHeap_old (bu lt) (by rw[size_push']; exact Nat.lt_succ_of_lt lt)]
 exact Heap.get?_push_of_some _ zb
end
section
variable{X:Cx}
def TM:List V->Hp->VK->Prop:=λxs H Q=>∃ (a:Addr) (kvs:List (Key × V)) (ks:List Int),xs = [.ref a]/\H a=some (.dK kvs)/\kvs.map (·.1)=ks.map cV/\ks.length < 64/\∀ l (ns:List Int),H l=none->ns.Perm ks->ns.Pairwise (·<=·)->Q (.ref l) (upd H l (.lst (ns.map V.int)))
theorem Kn(hc:X.calm=true):mX X (.builtin "sorted") TM:=by
 intro pins s σ H xs us Q I r ⟨a,kvs,ks,e,hq,hk,h64,q⟩
 subst e
 obtain⟨u,e,ru⟩:=b6.one r
 subst e
 cases ru
 obtain⟨z,hd,vs,rel,dd⟩:=SO I.hok hq
 obtain⟨ep,dd⟩:=dd.dictAt
 have Nh:kvs.length=ks.length:=by
  have:=congrArg List.length hk
  rw[ah,ah] at this
  exact this
 refine L1 (I.ok.hd hc) hd dd (by rw[<- rel.length]; omega) (ks:=ks) (by rw[<- rel.keys]; exact hk) λl out ns h' tk a1 a2 a3 hle kp hil=>?_
 obtain⟨el,hel⟩:=hil
 refine⟨.ref l,_,I.laid (a:=l) (o:=.lst (ns.map V.int)) (t':=tk) kp hle ⟨?_,out.toList,el,BQ a1,?_⟩,rfl,q l ns (I.hok.fresh hle) a2 a3⟩
 ·rw[ah,a2.length_eq]
  exact gR (b4 (by omega))
 ·rw[hel]
end
abbrev T2:=Int × Int
noncomputable def C8(x y:T2):Bool:=decide (x.1 < y.1) || (decide (x.1=y.1) && decide (x.2 < y.2))
theorem zP{x y:T2}:C8 x y=true↔x.1 < y.1∨(x.1=y.1/\x.2 < y.2):=by
 unfold C8
 simp[lE,cu]
theorem Rk{x y z:T2}(a:C8 x y=true)(b:C8 y z=true):C8 x z=true:=by
 rw[zP] at *
 omega
theorem V2(x:T2):C8 x x=false:=by
 rw[Bool.eq_false_iff]
 intro z
 rw[zP] at z
 omega
theorem le2{x y z:T2}(a:C8 x y=false)(b:C8 z y=true):C8 z x=true:=by
 have a':¬ C8 x y=true:=by rw[a]; exact aD
 rw[zP] at *
 omega
noncomputable def Jk(ts:List T2)(x:T2):Int:=((ts.filter λz=>C8 z x).length:Nat)
theorem L3{ts:List T2}{x y:T2}(hx:x∈ts):decide (Jk ts x < Jk ts y)=C8 x y:=by
 unfold Jk
 cases e:C8 x y with
 | true =>
  refine decide_eq_true ?_
  have:=filter_lt (l:=ts) (p:=λz=>C8 z x) (q:=λz=>C8 z y) (x:=x) (λz hz=>Rk hz e) hx (V2 x) e
  omega
 | false =>
  refine decide_eq_false ?_
  have:=filter_le (l:=ts) (p:=λz=>C8 z y) (q:=λz=>C8 z x) (λz hz=>le2 e hz)
  omega
noncomputable abbrev t2V(x:T2):List V:=[.int x.1,.int x.2]
def Duo(h:Heap)(v:Value)(x:T2):Prop:=∃ (q:Addr) (o:Obj) (n:Nat) (t1 t2:Tok),v = .ref q/\h.get? q=some o/\o.cls = .type "tuple" /\ o.data = .seq #[.int x.1 t1,.int x.2 t2] n
section
variable{prog:Program}{w:World}{A:Around}{s:Shared}
theorem Zk{E:Value->Shared->Prop}{u v:Value}{x y:T2}{C:Bool->Shared->Prop}(hu:Duo s.heap u x)(hv:Duo s.heap v y)(k:C (C8 x y) s):wpAny (model prog w) A (keyLt' (tuples' true) u v) C E s:=by
 obtain⟨p,o,n,t1,t2,rfl,h1,c1,d1⟩:=hu
 obtain⟨q,o',n',u1,u2,rfl,h2,c2,d2⟩:=hv
 refine kat_lt h1 d1 h2 d2 ?_
 refine kat_cons (wpAny_eqBool_int (kat_go (λe0=>kat_yes ?_) λe0=>kat_no (oneLt_int ?_)))
 case refine_2 =>
  have n0:¬ x.1=y.1:=by simpa using e0
  have e:C8 x y=decide (x.1 < y.1):=by unfold C8; rw[decide_eq_false n0]; simp
  rw[<- e]; exact k
 have e0:x.1=y.1:=by simpa using e0
 refine kat_cons (wpAny_eqBool_int (kat_go (λe2=>kat_yes (kat_nil ?_)) λe2=>kat_no (kat_one _ _ (lt_int ?_))))
 ·have e2:x.2=y.2:=by simpa using e2
  have e:C8 x y=false:=by
   rw[Bool.eq_false_iff]
   intro z
   rw[zP] at z
   omega
  rw[e] at k; exact k
 ·have e:C8 x y=decide (x.2 < y.2):=by rw[jf,zP,decide_eq_true_eq]; omega
  rw[<- e]; exact k
theorem Gm{h:Heap}:∀ {vs:List Value} {ts:List T2},vs.length=ts.length->(∀ (i:Nat) v x,vs[i]?=some v->ts[i]?=some x->Duo h v x)->∃ fs,KatTups h vs fs/\fs.length=vs.length/\∀ f∈fs,∃ i t,f=Value.int i t
 | [],[],_,_=>⟨[],trivial,rfl,λ_ hf=>absurd hf (by simp)⟩
 | v :: vs,x :: ts,hl,h=>by
  obtain⟨fs,a,b,c⟩:=Gm (vs:=vs) (ts:=ts) (by simpa using hl) λi v x e1 e2=>h (i + 1) v x (by simpa using e1) (by simpa using e2)
  obtain⟨q,o,n,t1,t2,rfl,h1,c1,d1⟩:=h 0 v x rfl rfl
  refine⟨.int x.1 t1 :: fs,KatTups.cons h1 c1 d1 rfl a,by simp[b],λf hf=>?_⟩
  rcases br.mp hf with rfl | hf
  ·exact⟨_,_,rfl⟩
  ·exact c f hf
end
def fM(K:af)(H:Hp)(qs:List Addr)(ts:List T2):Prop:=qs.length=ts.length/\∀ (i:Nat) q t,qs[i]?=some q->ts[i]?=some t->cN K H q (t2V t)
def Ff(ts:List T2):Prop:=∀ (i j:Nat) (x y:T2),i < j->ts[i]?=some x->ts[j]?=some y->C8 y x=false
section
variable{X:Cx}
def TN(K:af):List V->Hp->VK->Prop:=λxs H Q=>∃ (a:Addr) (qs:List Addr) (ts:List T2),xs = [.ref a]/\bL K H a (qs.map V.ref)/\fM K H qs ts/\ts.length < 64 /\
 ∀ l (HP:List Addr) (ts':List T2),H l=none->ts'.Perm ts->Ff ts'->fM K H HP ts'->Q (.ref l) (upd H l (.lst (HP.map V.ref)))
theorem BW:mX X (.builtin "sorted") (TN X.K):=by
 intro pins s σ H xs us Q I r ⟨a,qs,ts,e,hq,ht,h64,q⟩
 subst e
 obtain⟨u,e,ru⟩:=b6.one r
 subst e
 cases ru
 obtain⟨its,rv,p,hz⟩:=I.list hq
 have aeN:=Pu rv
 subst aeN
 have hlen:=ht.1
 by_cases h0:ts.length=0
 ·have e1:qs = []:=gM.mp (by omega)
  subst e1
  have e2:ts = []:=gM.mp h0
  subst e2
  refine yk pins s σ H [V.ref a] [Value.ref a] Q I (.cons rfl .nil) ⟨a,[],rfl,hq,by decide,λl ns' hl hp _=>?_⟩
  have:ns' = []:=List.Perm.eq_nil hp
  subst this
  exact q l [] [] hl (List.Perm.refl _) (λi j x y _ h=>by simp at h) ⟨rfl,λi q t h=>by simp at h⟩
 by_cases h1:ts.length=1
 ·obtain⟨q0,e1⟩ : ∃ q0,qs = [q0]:=List.length_eq_one_iff.mp (by omega)
  subst e1
  refine Oc (v:=.ref q0) p.isList ?_
  obtain⟨e,he⟩:=sortedAll_at s.heap [.ref q0] #[.ref q0]
  refine⟨.ref (s.heap.objs.size + 1),_,I.laid (a:=s.heap.objs.size + 1) (o:=.lst [.ref q0]) (t':=s.toks) (λb o e=>sortedAll_old e) (eS _) ⟨?_,[.ref q0],e,.cons rfl .nil,he⟩,rfl,q _ [q0] ts (I.hok.fresh (eS _)) (List.Perm.refl _) (λi j x y hij h1' h2'=>?_) ht⟩
  ·show 1<=sizeLine
   decide
  ·have:=(ai.mp h2').1
   omega
 have h2:2<=ts.length:=by omega
 obtain⟨m,F⟩:=I.fr
 have aeO:∀ (i:Nat) v x,(qs.map Value.ref)[i]?=some v->ts[i]?=some x->Duo s.heap v x:=λi v x e1 e2=>by
  rw[ak] at e1
  cases e3:qs[i]? with
  | none=>rw[e3] at e1; cases e1
  | some q0 =>
   rw[e3] at e1
   cases e1
   obtain⟨jt,rj,tp,_⟩:=I.tuple (ht.2 i q0 x e3 e2)
   obtain⟨o,ho,hc,n,hd⟩:=tp
   cases rj with
   | cons x1 r1=>cases r1 with
    | cons x2 r2 =>
     cases r2
     obtain⟨t1,rfl⟩:=x1
     obtain⟨t2,rfl⟩:=x2
     exact⟨q0,o,n,t1,t2,rfl,ho,hc,hd⟩
 have Xs:∀ {h':Heap} {m':Str->Option Value},Fr X.base X.env.locals h' m'->(∀ p∈BC X.base s.heap X.env.locals,h'.get? p.1=some p.2)->∀ b o,b≠X.env.locals->s.heap.get? b=some o->h'.get? b=some o:=λ{h' m'} F' N' b o hb e=>by
  cases g:X.base.get? b with
  | some u =>
   have:=I.bk b u g
   rw[e] at this
   cases this
   exact F'.keep b _ g
  | none=>exact N' (b,o) (DX hb g e)
 have aeP:∀ {h':Heap},(∀ b o,b≠X.env.locals->s.heap.get? b=some o->h'.get? b=some o)->∀ (i:Nat) v x,(qs.map Value.ref)[i]?=some v->ts[i]?=some x->Duo h' v x:=λ{h'} kp i v x e1 e2=>by
  obtain⟨q0,o,n,t1,t2,rfl,ho,hc,hd⟩:=aeO i v x e1 e2
  refine⟨q0,o,n,t1,t2,rfl,kp q0 o (λz=>?_) ho,hc,hd⟩
  obtain⟨m0,⟨oL,es,ep,hoL,hdL,_⟩,_⟩:=I.loc
  rw[z,hoL] at ho
  cases ho
  rw[hdL] at hd
  cases hd
 refine kat_sorted (vs:=qs.map Value.ref) F (Sb (g:=X.base) (h:=s.heap) (L:=X.env.locals)) p.isList (by rw[ah]; omega) (by rw[ah]; omega) λD e1 h' F' N' hD=>?_
 have kp':=Xs F' λp hp=>(N' p (.tail _ hp)).1
 have Zl:=aeP kp'
 obtain⟨fs,kt,fl,fi⟩:=Gm (h:=h') (vs:=qs.map Value.ref) (ts:=ts) (by rw[ah]; exact hlen) Zl
 refine kat_kind (s:={ s with heap:=h' }) (T:=.type "int") kt (by rw[fl,ah]; omega) (λf hf=>?_) rfl ?_
 ·obtain⟨i,t,rfl⟩:=fi f hf
  exact Looks.of_pure rfl
 have aeQ:(Value.type "int" != Value.type "tuple")=true:=by decide
 rw[aeQ]
 have hn:(qs.map Value.ref).length=ts.length:=by rw[ah]; exact hlen
 have at_:∀ i,i < ts.length->(qs.map Value.ref)[i]?=some ((qs.map Value.ref).getD i Value.none)/\ts[i]?=some (ts.getD i (0,0)):=λi hi=>by
  constructor
  ·rw[av,aa (by omega)]; rfl
  ·rw[av,aa hi]; rfl
 refine VU (n:=(qs.map Value.ref).length) (r:=λi=>Jk ts (ts.getD i (0,0))) (λi j C hi hj k=>?_) (by omega) λpp hp hu=>?_
 ·rw[hn] at hi hj
  unfold kas_ask
  refine Zk (x:=ts.getD i (0,0)) (y:=ts.getD j (0,0)) (Zl i _ _ (at_ i hi).1 (at_ i hi).2) (Zl j _ _ (at_ j hj).1 (at_ j hj).2) ?_
  rw[<- L3 (ts:=ts) (aQ (at_ i hi).2)]
  exact k
 have hDn:s.heap.get? D=none:=by
  cases g:s.heap.get? D with
  | none=>rfl
  | some o =>
   have hx:=N' (D,seqObj "list" #[] e1) (.head _)
   have:=hD (D,o) (DX hx.2.1 hx.2.2 g)
   exact absurd this (jJ _)
 have hHD:H D=none:=by
  cases g:H D with
  | none=>rfl
  | some o =>
   obtain⟨ob,hob⟩:=(I.hok D o g).there
   rw[hDn] at hob
   cases hob
 have hpl:pp.toList.Perm (au ts.length):=by
  have:=hp.toList
  rw[hn] at this
  simpa using this
 refine KasFin.intro F' N' (UpdF.head λp hp=>bu (hD p hp)) λh2' c F2 N2=>?_
 have Pj:=Xs F2 λp hp=>(N2 p (.tail _ hp)).1
 have hgD:=(N2 _ (.head _)).1
 have aeR:(pp.toList.map λi=>(qs.map Value.ref).getD i Value.none)=(pp.toList.map λi=>qs.getD i 0).map Value.ref:=by
  rw[cC]
  refine dF λi hi=>?_
  have hil:i < qs.length:=by
   have:=(hpl.mem_iff).mp hi
   rw[bE] at this
   omega
  show (qs.map Value.ref).getD i Value.none=Value.ref (qs.getD i 0)
  rw[av,av,ak,aa hil]
  rfl
 rw[aeR] at hgD
 have abO:pp.toList.length=ts.length:=by rw[hpl.length_eq,aZ]
 have neD:∀ b o,s.heap.get? b=some o->b≠D:=λb o e z=>by rw[z,hDn] at e; cases e
 have neH:∀ b o,H b=some o->b≠D:=λb o e=>aR e hHD
 have Yv:∀ b o,H b=some o->b≠X.env.locals:=λb o e=>aR e I.free
 refine⟨.ref D,upd H D (.lst ((pp.toList.map λi=>qs.getD i 0).map V.ref)),?_,rfl,q D (pp.toList.map λi=>qs.getD i 0) (pp.toList.map λi=>ts.getD i (0,0)) hHD ?_ ?_ ?_⟩
 ·show Inv X pins σ _ { s with heap:=h2',gens:=s.gens,drawn:=s.drawn,toks:=s.toks }
  refine I.step (s:=s) (t':=s.toks) (g':=s.gens) (d':=s.drawn) (h':=h2') (ch:=[]) (λ_ z=>nomatch z) (λb o hb _ _ e _=>Pj b o hb e) (λb o hb _ _ e _=>⟨o.slots,Pj b o hb e⟩) (λb o _ e n=>by rw[aI (neD b o e)]; exact n) (λb o _ e=>?_)
   (λb xs e=>by rw[aI (neH b _ e)]; exact e) (λb o u e=>by rw[aI (neH b _ e)]; exact e) (λb ps e=>⟨#[],by rw[aI (neH b _ e),e]; simp⟩) (λm' hm'=>?_) (λb o e=>?_) I.bare
  ·by_cases hb:b=X.env.locals
   ·obtain⟨o',_,_,ho',_⟩:=F2.ns
    exact⟨o',by rw[hb]; exact ho'⟩
   ·exact⟨o,Pj b o hb e⟩
  ·have em:m'=m:=by
    obtain⟨o1,es1,ep1,g1,d1,k1,f1⟩:=hm'
    obtain⟨o2,es2,ep2,g2,d2,k2,f2⟩:=F.ns
    rw[g1] at g2
    cases g2
    rw[d1] at d2
    cases d2
    funext x
    rw[<- f1 x,<- f2 x]
   rw[em]
   exact F2.ns
  ·by_cases hb:b=D
   ·subst hb
    rw[ay] at e
    cases e
    refine⟨?_,(pp.toList.map λi=>qs.getD i 0).map Value.ref,c,Jf _,hgD⟩
    rw[ah,ah,abO]
    exact gR (b4 (by omega))
   ·rw[aI hb] at e
    refine (I.hok b o e).stay (λc u hc r=>?_) (λc r=>by rw[aI (neH c _ r)]; exact r) λc xs r=>by rw[aI (neH c _ r)]; exact r
    rcases hc with z | z
    ·rw[z] at r ⊢
     exact Pj b u (Yv b o e) r
    ·exact Pj c u (Yv c _ z) r
 ·have:=hpl.map λi=>ts.getD i (0,0)
  rw[map_getD] at this
  exact this
 ·intro i j x y hij e1 e2
  rw[ak] at e1 e2
  cases g1:pp.toList[i]? with
  | none=>rw[g1] at e1; cases e1
  | some a1 =>
   cases g2:pp.toList[j]? with
   | none=>rw[g2] at e2; cases e2
   | some a2 =>
    rw[g1] at e1
    rw[g2] at e2
    cases e1
    cases e2
    have hj:=(ai.mp g2).1
    have z:=hu i j hij (by omega)
    have z:Jk ts (ts.getD (pp.getD i 0) (0,0))<=Jk ts (ts.getD (pp.getD j 0) (0,0)):=z
    show C8 (ts.getD a2 (0,0)) (ts.getD a1 (0,0))=false
    have k1:pp.getD i 0=a1:=by rw[lF,<- uR,g1]; rfl
    have k2:pp.getD j 0=a2:=by rw[lF,<- uR,g2]; rfl
    rw[k1,k2] at z
    have m2:a2 < ts.length:=by
     have:=(hpl.mem_iff).mp (aQ g2)
     rwa [bE] at this
    rw[<- L3 (ts:=ts) (aQ (at_ a2 m2).2)]
    exact decide_eq_false (by omega)
 ·refine⟨by rw[ah,ah],λi q0 t0 e1 e2=>?_⟩
  rw[ak] at e1 e2
  cases g1:pp.toList[i]? with
  | none=>rw[g1] at e1; cases e1
  | some a1 =>
   rw[g1] at e1 e2
   cases e1
   cases e2
   have m1:a1 < ts.length:=by
    have:=(hpl.mem_iff).mp (aQ g1)
    rwa [bE] at this
   refine ht.2 a1 _ _ ?_ (at_ a1 m1).2
   show qs[a1]?=some (qs.getD a1 0)
   rw[av,aa (by omega)]
   rfl
end
end L2
namespace fP
open PySem L2
noncomputable def top (i:Nat):Stmt:=PySem.Challenge.pw_knotless_k32_any_order_of_arrivals.main.body.getD i (.Pass ⟨0,0,0,0⟩)
noncomputable abbrev tW:Stmt:=(inClass (top 2) 0)
noncomputable abbrev vR:Stmt:=(inClass (top 2) 1)
noncomputable abbrev vS:Stmt:=(inClass (top 2) 2)
noncomputable abbrev tX:Stmt:=(inClass (top 2) 4)
noncomputable abbrev C9:Stmt:=(top 4)
noncomputable abbrev AY:Stmt:=(top 5)
noncomputable abbrev pA:Stmt:=(inClass (top 17) 0)
noncomputable abbrev rm:Stmt:=(inClass (top 17) 1)
noncomputable abbrev rz:Stmt:=(inClass (top 17) 2)
noncomputable abbrev pB:Stmt:=(inClass (top 17) 3)
noncomputable abbrev rA:Stmt:=(inClass (top 18) 0)
noncomputable abbrev tY:Stmt:=(inClass (top 18) 1)
noncomputable abbrev tZ:Stmt:=(inClass (top 18) 2)
noncomputable abbrev rB:Stmt:=(inClass (top 18) 3)
noncomputable abbrev t9:Stmt:=(inClass (top 19) 0)
noncomputable abbrev Dc:Stmt:=(top 21)
noncomputable abbrev Ko:Stmt:=(top 22)
noncomputable abbrev TR:Stmt:=(top 23)
noncomputable abbrev TU:Stmt:=(top 25)
noncomputable abbrev Kp:Stmt:=(top 26)
noncomputable abbrev Dd:Stmt:=(top 28)
noncomputable abbrev Kq:Stmt:=(top 29)
noncomputable abbrev ua:Stmt:=(inClass (top 36) 0)
noncomputable abbrev yq:Stmt:=(inClass (top 36) 1)
noncomputable abbrev yr:Stmt:=(inClass (top 36) 2)
noncomputable abbrev pC:Stmt:=(inClass (top 36) 3)
noncomputable abbrev rC:Stmt:=(inClass (top 36) 4)
noncomputable abbrev yt:Stmt:=(inClass (top 36) 5)
noncomputable abbrev uc:Stmt:=(top 37)
noncomputable abbrev ud:Stmt:=(top 38)
noncomputable abbrev vU:Stmt:=(top 39)
noncomputable abbrev yu:Stmt:=(top 40)
noncomputable abbrev m9:Stmt:=(inClass (top 42) 0)
noncomputable abbrev kL:Stmt:=(inClass (top 42) 3)
noncomputable abbrev kM:Stmt:=(inClass (top 42) 4)
noncomputable abbrev rD:Stmt:=(inClass (top 42) 5)
noncomputable abbrev AZ:Stmt:=(top 43)
noncomputable abbrev ue:Stmt:=(top 44)
noncomputable abbrev pD:Stmt:=(inClass (top 47) 0)
noncomputable abbrev vV:Stmt:=(inClass (top 48) 0)
noncomputable abbrev A0:Stmt:=(inClass (top 48) 1)
noncomputable abbrev A1:Stmt:=(inClass (top 48) 2)
noncomputable abbrev yv:Stmt:=(inClass (top 48) 3)
noncomputable abbrev vW:Stmt:=(inClass (top 48) 6)
noncomputable abbrev A2:Stmt:=(inClass (top 48) 7)
noncomputable abbrev iy:Stmt:=(inClass (top 48) 13)
noncomputable abbrev vX:Stmt:=(inClass (top 48) 14)
noncomputable abbrev fk:Stmt:=(inClass (top 48) 15)
noncomputable abbrev yw:Stmt:=(inClass (top 48) 16)
noncomputable abbrev uf:Stmt:=(inClass (top 48) 17)
noncomputable abbrev pF:Stmt:=(inClass (top 48) 18)
noncomputable abbrev ng:Stmt:=(inClass (top 48) 19)
noncomputable abbrev A3:Stmt:=(inClass (top 48) 20)
noncomputable abbrev pG:Stmt:=(inClass (top 48) 22)
noncomputable abbrev lT:Stmt:=(inClass (top 48) 24)
noncomputable abbrev kN:Stmt:=(inClass (top 48) 25)
noncomputable abbrev ni:Stmt:=(inClass (top 48) 26)
noncomputable abbrev vY:Stmt:=(top 49)
noncomputable abbrev pH:Stmt:=(top 50)
noncomputable abbrev yx:Stmt:=(top 52)
noncomputable abbrev De:Stmt:=(top 53)
noncomputable abbrev Df:Stmt:=(top 54)
noncomputable abbrev Dg:Stmt:=(top 55)
noncomputable abbrev yy:Stmt:=(top 56)
noncomputable abbrev A4:Stmt:=(top 57)
noncomputable abbrev rE:Stmt:=(top 58)
noncomputable abbrev Kr:Stmt:=(top 59)
noncomputable abbrev A5:Stmt:=(top 60)
noncomputable abbrev Dh:Stmt:=(top 61)
noncomputable abbrev TV:Stmt:=(top 62)
theorem Gn:aM ["self"] ["self"] (aC tW):=jA
theorem HY:aM ["self","house","caller","rope"] ["self","house","caller","rope"] (aC vR):=jA
theorem HZ:aM ["self","house","caller"] ["self","house","caller"] (aC vS):=jA
theorem Gp:aM ["self"] ["self"] (aC tX):=jA
theorem A6:aM ["book","letter","house","came","open_here","here","handed"] ["book","letter","house","came","open_here","here"] (aC C9):=jA
theorem Ia:(["caller","letter"]:List Str).Nodup:=by decide +kernel
theorem sO:aM ["book","sought","house","came","open_here","here","noted","leading"] ["book","sought","house","came","open_here","here"] (aC AY):=jA
theorem Gq:(["rope","came"]:List Str).Nodup:=by decide +kernel
theorem Di:aM ["self","sender"] ["self","sender"] (aC pA):=jA
theorem EI:aM ["self","caller"] ["self","caller"] (aC rm):=jA
theorem EJ:aM ["self"] ["self"] (aC rz):=jA
theorem Dj:aM ["self"] ["self"] (aC pB):=jA
theorem EK:aM ["self","sender","to"] ["self","sender","to"] (aC rA):=jA
theorem Gs:aM ["self","caller"] ["self","caller"] (aC tY):=jA
theorem Gu:aM ["self"] ["self"] (aC tZ):=jA
theorem EL:aM ["self"] ["self"] (aC rB):=jA
theorem Gv:aM ["self","caller"] ["self","caller"] (aC t9):=jA
theorem Oj:aM ["town","house"] ["town","house"] (aC Dc):=jA
theorem L4:aM ["town","row","rope","hops"] ["town","row","rope"] (aC Ko):=jA
theorem Gw:aM ["town","live","rows","house","least","rope","made"] ["town","live","rows","house"] (aC TR):=jA
theorem TY:aM ["town","live","rows"] ["town","live","rows"] (aC TU):=jA
theorem Rl:(["house","live","rows","town"]:List Str).Nodup:=by decide +kernel
theorem L5:aM ["town","live","rows"] ["town","live","rows"] (aC Kp):=jA
theorem L6:(["up"]:List Str).Nodup:=by decide +kernel
theorem A7:aM ["town","live","rows","house","joined"] ["town","live","rows","house"] (aC Dd):=jA
theorem Ib:(["rope","joined"]:List Str).Nodup:=by decide +kernel
theorem Gx:aM ["town","live","rows","house","rope","other"] ["town","live","rows","house"] (aC Kq):=jA
theorem Gy:aM ["self","names","ropes"] ["self","names","ropes"] (aC ua):=jA
theorem Ks:aM ["self","house"] ["self","house"] (aC yq):=jA
theorem Ku:aM ["self","number"] ["self","number"] (aC yr):=jA
theorem uX:aM ["self","house"] ["self","house"] (aC pC):=jA
theorem qc:(["number","rope","house"]:List Str).Nodup:=by decide +kernel
theorem xw:aM ["self","rope","house","ends"] ["self","rope","house"] (aC rC):=jA
theorem Kv:aM ["self","rope","group"] ["self","rope","group"] (aC yt):=jA
theorem Gz:aM ["names"] ["names"] (aC uc):=jA
theorem yz:aM ["size","ropes","rope"] ["size","ropes"] (aC ud):=jA
theorem Ic:aM ["size","rope"] ["size","rope"] (aC vU):=jA
theorem Kw:aM ["size","one","other"] ["size","one","other"] (aC yu):=jA
theorem sP:aM ["self","town"] ["self","town"] (aC m9):=jA
theorem yC:(["rope","town"]:List Str).Nodup:=by decide +kernel
theorem Ac:aM ["self","rope"] ["self","rope"] (aC kL):=jA
theorem qd:aM ["self","rope","number","stand"] ["self","rope","number"] (aC kM):=jA
theorem xx:aM ["self","group"] ["self","group"] (aC rD):=jA
theorem A8:(["rope","group","self"]:List Str).Nodup:=by decide +kernel
theorem L7:aM ["town","rope"] ["town","rope"] (aC AZ):=jA
theorem GA:aM ["group"] ["group"] (aC ue):=jA
theorem Dk:aM ["self","letter","group"] ["self","letter","group"] (aC pD):=jA
theorem iR:aM ["self","town","callers"] ["self","town","callers"] (aC vV):=jA
theorem Dl:(["bit","town"]:List Str).Nodup:=by decide +kernel
theorem Dm:(["bit"]:List Str).Nodup:=by decide +kernel
theorem Dn:(["caller"]:List Str).Nodup:=by decide +kernel
theorem Dp:(["caller"]:List Str).Nodup:=by decide +kernel
theorem Dq:(["caller"]:List Str).Nodup:=by decide +kernel
theorem L8:aM ["self","group"] ["self","group"] (aC A0):=jA
theorem Ma:aM ["self","group"] ["self","group"] (aC A1):=jA
theorem Ky:aM ["self","group"] ["self","group"] (aC yv):=jA
theorem Ie:aM ["self","house","group"] ["self","house","group"] (aC vW):=jA
theorem yD:aM ["self","house","group","ahead","row"] ["self","house","group"] (aC A2):=jA
theorem sQ:aM ["self","sender","to","letter","number","house"] ["self","sender","to"] (aC iy):=jA
theorem Ig:aM ["self"] ["self"] (aC vX):=jA
theorem gu:aM ["self","at","landed","number","rope","house","posted","fate"] ["self","at"] (aC fk):=jA
theorem Kz:aM ["self","letter"] ["self","letter"] (aC yw):=jA
theorem GB:aM ["self","posted","rope","house"] ["self","posted","rope","house"] (aC uf):=jA
theorem dR:aM ["self","number","house","came","posted","group","open_here","here","found","caller","rope"] ["self","number","house","came"] (aC pF):=jA
theorem lU:aM ["self","house","group","there"] ["self","house","group"] (aC ng):=jA
theorem yE:(["caller","self","there"]:List Str).Nodup:=by decide +kernel
theorem yF:aM ["self","number","house","rope","posted","wire"] ["self","number","house","rope"] (aC A3):=jA
theorem uY:aM ["self","group","posted"] ["self","group"] (aC pG):=jA
theorem A9:aM ["self","house"] ["self","house"] (aC lT):=jA
theorem Ae:aM ["self","caller"] ["self","caller"] (aC kN):=jA
theorem BX:aM ["self","sender","to"] ["self","sender","to"] (aC ni):=jA
theorem Ak:aM ["town"] ["town"] (aC vY):=jA
theorem Dr:(["house","town"]:List Str).Nodup:=by decide +kernel
theorem uZ:aM ["town","callers","caller"] ["town","callers"] (aC pH):=jA
theorem KA:aM ["_law_script","_law_k"] ["_law_script","_law_k"] (aC yx):=jA
theorem Ol:aM ["_law_found"] ["_law_found"] (aC De):=jA
theorem kP:aM ["_law_script","_law_size","_law_names_here","_law_k","_law_cell","_law_name"] ["_law_script","_law_size"] (aC Df):=jA
theorem dg:aM ["_law_script","_law_size","_law_group","_law_ropes_here","_law_many","_law_k","_law_cell","_law_one","_law_other","_law_rest","_law_cost","_law_lets"] ["_law_script","_law_size","_law_group"] (aC Dg):=jA
theorem jC:aM ["_law_script","_law_size","_law_group","_law_callers_here","_law_most","_law_k","_law_cell","_law_place"] ["_law_script","_law_size","_law_group"] (aC yy):=jA
theorem yG:aM ["_law_net","_law_size","_law_group","_law_turn","_law_house"] ["_law_net","_law_size","_law_group"] (aC A4):=jA
theorem pI:aM ["_law_story","_law_row"] ["_law_story"] (aC rE):=jA
theorem Ba:(["_law_one"]:List Str).Nodup:=by decide +kernel
theorem vc:aM ["_law_ropes_here","_law_opened","_law_house","_law_led_here","_law_turn","_law_rope","_law_one","_law_other"] ["_law_ropes_here","_law_opened","_law_house"] (aC Kr):=jA
theorem k9:aM ["_law_ropes_here","_law_opened","_law_story","_law_came","_law_sent","_law_row","_law_house","_law_far"] ["_law_ropes_here","_law_opened","_law_story"] (aC A5):=jA
theorem fN:aM ["_law_ropes_here","_law_opened","_law_callers_here","_law_sender","_law_to","_law_story","_law_first","_law_group","_law_houses","_law_led_here","_law_hands","_law_ought","_law_caller"] ["_law_ropes_here","_law_opened","_law_callers_here","_law_sender","_law_to","_law_story"] (aC Dh):=jA
theorem Ih:(["_law_house","_law_led_here"]:List Str).Nodup:=by decide +kernel
theorem Ii:(["_law_row"]:List Str).Nodup:=by decide +kernel
theorem Ij:(["_law_pair","_law_led_here"]:List Str).Nodup:=by decide +kernel
theorem gP:aM ["_law_script","_law_size","_law_group","_law_ropes_here","_law_callers_here","_law_net","_law_opened","_law_letters","_law_cell","_law_flies","_law_sender","_law_mates","_law_to","_law_k","_law_number"] ["_law_script"] (aC TV):=jA
theorem Rm:(["_law_one","_law_net"]:List Str).Nodup:=by decide +kernel
theorem Rn:(["_law_caller","_law_callers_here","_law_sender"]:List Str).Nodup:=by decide +kernel
set_option genInjectivity false in
structure Ad where
 (jU lV lW jV vd rF dO jo gv fO jq jW jX jr jY ve BY Mb Mc vZ vf BZ jZ oF oG iH ju oH j0 j5 lX oJ g7 gw gx jv rG j6 iI lY rH rJ oK lZ rK l5 oM j7 iJ g8 rL iK gJ gy g9 l6 iL oN vg vh vj oO rM jw Ca rN vm Me:Addr)
 (nQ qm qu nR zQ wc kj l9 mh ko mj nS nU mq nV zR Fg PD PF Fi zS Fj nW sR sU kq mw sV nX nY qv sW jD iz iA mz we nZ kr qw wg wk sX qx wm qy sY n6 ku jE wo kB i0 iB jF qz kC sZ zT zU zV tw wu mC Fk wz zW Mf:FuncData)
 iC:Addr
 wA:FuncData
 fm:Addr
 n9:FuncData
 iS:Tok
 ia:Addr
 fH:Addr
 iD:Addr
 iM:Addr
 bK:Addr
 cT:Addr
 e9:Addr
 cJ:Addr
 Cb:Addr
 zX:Addr
 oh:Tok
 qA:Tok
 qB:Tok
 qC:Tok
 mD:Tok
 d9:Addr
structure Txt(K:af)(mg:Str->Option Value)(t:Ad):Prop where
 ug:L0 K t.e9 "Book.__init__" tW t.jU t.nQ ["self"]
 Cc:jB K t.e9 "learn" "Book.learn" vR t.lV t.qm ["self","house","caller","rope"]
 Cd:jB K t.e9 "known" "Book.known" vS t.lW t.qu ["self","house","caller"]
 uh:jB K t.e9 "forget" "Book.forget" tX t.jV t.nR ["self"]
 Jl:lR K mg "targets" "targets" C9 t.vd t.zQ ["book","letter","house","came","open_here","here"]
 GC:lR K mg "ropes_on" "ropes_on" AY t.rF t.wc ["book","sought","house","came","open_here","here"]
 pJ:L0 K t.ia "Letter.__init__" pA t.dO t.kj ["self","sender"]
 yH:jB K t.ia "meant" "Letter.meant" rm t.jo t.l9 ["self","caller"]
 mE:jB K t.ia "seeks" "Letter.seeks" rz t.gv t.mh ["self"]
 kD:jB K t.ia "number" "Letter.number" pB t.fO t.ko ["self"]
 yI:L0 K t.fH "ToOne.__init__" rA t.jq t.mj ["self","sender","to"]
 Al:jB K t.fH "meant" "ToOne.meant" tY t.jW t.nS ["self","caller"]
 um:jB K t.fH "seeks" "ToOne.seeks" tZ t.jX t.nU ["self"]
 rO:jB K t.fH "number" "ToOne.number" rB t.jr t.mq ["self"]
 Am:jB K t.iD "meant" "ToAll.meant" t9 t.jY t.nV ["self","caller"]
 Dt:lR K mg "own_row" "own_row" Dc t.ve t.zR ["town","house"]
 KC:lR K mg "offer" "offer" Ko t.BY t.Fg ["town","row","rope"]
 Xu:lR K mg "due" "due" TR t.Mb t.PD ["town","live","rows","house"]
 Xv:lR K mg "ups" "ups" TU t.Mc t.PF ["town","live","rows"]
 Ce:lR K mg "opens" "opens" Kp t.vZ t.Fi ["town","live","rows"]
 Jm:lR K mg "open_at" "open_at" Dd t.vf t.zS ["town","live","rows","house"]
 PJ:lR K mg "up_of" "up_of" Kq t.BZ t.Fj ["town","live","rows","house"]
 An:L0 K t.bK "Town.__init__" ua t.jZ t.nW ["self","names","ropes"]
 D9:jB K t.bK "name" "Town.name" yq t.oF t.sR ["self","house"]
 yJ:jB K t.bK "rope" "Town.rope" yr t.oG t.sU ["self","number"]
 kE:jB K t.bK "ropes_at" "Town.ropes_at" pC t.iH t.kq ["self","house"]
 mF:jB K t.bK "far_end" "Town.far_end" rC t.ju t.mw ["self","rope","house"]
 Ea:jB K t.bK "lets" "Town.lets" yt t.oH t.sV ["self","rope","group"]
 Ao:lR K mg "check_names" "check_names" uc t.j0 t.nX ["names"]
 Aq:lR K mg "check_ropes" "check_ropes" ud t.j5 t.nY ["size","ropes"]
 Cf:lR K mg "check_rope" "check_rope" vU t.lX t.qv ["size","rope"]
 Eb:lR K mg "joins_two" "joins_two" yu t.oJ t.sW ["size","one","other"]
 vn:L0 K t.cT "Strands.__init__" m9 t.g7 t.jD ["self","town"]
 kQ:jB K t.cT "standing" "Strands.standing" kL t.gw t.iz ["self","rope"]
 kR:jB K t.cT "wire_for" "Strands.wire_for" kM t.gx t.iA ["self","rope","number"]
 rP:jB K t.cT "live" "Strands.live" rD t.jv t.mz ["self","group"]
 GD:lR K mg "wires_of" "wires_of" AZ t.rG t.we ["town","rope"]
 gQ:lR K mg "check_group" "check_group" ue t.j6 t.nZ ["group"]
 xA:L0 K t.iM "Posted.__init__" pD t.iI t.kr ["self","letter","group"]
 Cg:L0 K t.cJ "Net.__init__" vV t.lY t.qw ["self","town","callers"]
 rQ:jB K t.cJ "rows" "Net.rows" A0 t.rH t.wg ["self","group"]
 wB:jB K t.cJ "live" "Net.live" A1 t.rJ t.wk ["self","group"]
 yK:jB K t.cJ "opens" "Net.opens" yv t.oK t.sX ["self","group"]
 Ci:jB K t.cJ "row_at" "Net.row_at" vW t.lZ t.qx ["self","house","group"]
 GF:jB K t.cJ "call" "Net.call" A2 t.rK t.wm ["self","house","group"]
 rR:Kf K "post" "Net.post" iy t.iC t.wA (.none)
 Zm:Binds K t.wA ["self","sender","to"] [.none]
 Om:Binds K t.wA ["self","sender","to"] []
 Oo:J4 K t.cJ "post" t.iC
 iE:jB K t.cJ "flying" "Net.flying" vX t.l5 t.qy ["self"]
 j8:Kf K "pass_on" "Net.pass_on" fk t.fm t.n9 (.int 0 t.iS)
 U4:Binds K t.n9 ["self","at"] [.int 0 t.iS]
 Ar:Binds K t.n9 ["self","at"] []
 As:J4 K t.cJ "pass_on" t.fm
 Ec:jB K t.cJ "story" "Net.story" yw t.oM t.sY ["self","letter"]
 Au:jB K t.cJ "fate_of" "Net.fate_of" uf t.j7 t.n6 ["self","posted","rope","house"]
 pK:jB K t.cJ "do_letter" "Net.do_letter" pF t.iJ t.ku ["self","number","house","came"]
 vo:jB K t.cJ "callers_at" "Net.callers_at" ng t.g8 t.jE ["self","house","group"]
 GG:jB K t.cJ "send" "Net.send" A3 t.rL t.wo ["self","number","house","rope"]
 xB:jB K t.cJ "take_news" "Net.take_news" pG t.iK t.kB ["self","group"]
 tD:jB K t.cJ "check_house" "Net.check_house" lT t.gJ t.i0 ["self","house"]
 kT:jB K t.cJ "check_caller" "Net.check_caller" kN t.gy t.iB ["self","caller"]
 vp:jB K t.cJ "check_pair" "Net.check_pair" ni t.g9 t.jF ["self","sender","to"]
 Cj:lR K mg "first_rows" "first_rows" vY t.l6 t.qz ["town"]
 xC:lR K mg "check_callers" "check_callers" pH t.iL t.kC ["town","callers"]
 fB:lR K mg "_law_cell_at" "_law_cell_at" yx t.oN t.sZ ["_law_script","_law_k"]
 Jo:lR K mg "_law_whole" "_law_whole" De t.vg t.zT ["_law_found"]
 Jp:lR K mg "_law_names" "_law_names" Df t.vh t.zU ["_law_script","_law_size"]
 Jq:lR K mg "_law_ropes" "_law_ropes" Dg t.vj t.zV ["_law_script","_law_size","_law_group"]
 Ed:lR K mg "_law_callers" "_law_callers" yy t.oO t.tw ["_law_script","_law_size","_law_group"]
 GH:lR K mg "_law_rounds" "_law_rounds" A4 t.rM t.wu ["_law_net","_law_size","_law_group"]
 yM:lR K mg "_law_story_kind" "_law_story_kind" rE t.jw t.mC ["_law_story"]
 PK:lR K mg "_law_led" "_law_led" Kr t.Ca t.Fk ["_law_ropes_here","_law_opened","_law_house"]
 GI:lR K mg "_law_walked" "_law_walked" A5 t.rN t.wz ["_law_ropes_here","_law_opened","_law_story"]
 Jr:lR K mg "_law_right" "_law_right" Dh t.vm t.zW ["_law_ropes_here","_law_opened","_law_callers_here","_law_sender","_law_to","_law_story"]
 TZ:lR K mg "law" "law" TV t.Me t.Mf ["_law_script"]
 GJ:HN K t.ia
 T4:mg "Letter" = some (.ref t.ia)
 R0:cX K t.ia "sender"
 Xw:cX K t.ia "to"
 oi:HN K t.fH
 V3:mg "ToOne" = some (.ref t.fH)
 rS:cX K t.fH "sender"
 wC:cX K t.fH "to"
 wD:HN K t.iD
 V4:mg "ToAll" = some (.ref t.iD)
 mG:cX K t.iD "sender"
 Zn:cX K t.iD "to"
 c6:HN K t.iM
 T5:mg "Posted" = some (.ref t.iM)
 gG:cX K t.iM "letter"
 jx:cX K t.iM "group"
 wF:cX K t.iM "old"
 nk:cX K t.iM "done_at"
 ic:cX K t.iM "deeds"
 fc:HN K t.bK
 Zo:mg "Town" = some (.ref t.bK)
 rT:cX K t.bK "house_names"
 gz:cX K t.bK "rope_tuples"
 ly:cX K t.bK "size"
 tE:cX K t.bK "many"
 iT:HN K t.cT
 Ro:mg "Strands" = some (.ref t.cT)
 mH:cX K t.cT "town"
 mJ:cX K t.cT "upright"
 Bb:HN K t.e9
 Zp:mg "Book" = some (.ref t.e9)
 tF:cX K t.e9 "kept"
 bS:HN K t.cJ
 abQ:mg "Net" = some (.ref t.cJ)
 nv:cX K t.cJ "town"
 uo:cX K t.cJ "strands"
 jL:cX K t.cJ "rows_by_group"
 tG:cX K t.cJ "books"
 oQ:cX K t.cJ "homes"
 mK:cX K t.cJ "groups"
 Ck:cX K t.cJ "handed"
 dY:cX K t.cJ "letters"
 mL:cX K t.cJ "copies"
 yN:mg "opens_opens" = some (.ref t.vZ)
 Ik:J4 K t.iD "seeks" t.gv
 GK:J4 K t.iD "number" t.fO
 V5:Mk K t.iD t.dO
 Du:Xl K t.ia "__init__" t.dO
 T6:mg "NoWire" = some (.ref t.Cb)
 T7:S9 K t.Cb
 Rp:mg "NoGroup" = some (.ref t.zX)
 Rq:S9 K t.zX
 Il:mg "MOST_HOUSES" = some (.int 10 t.oh)
 KD:mg "MOST_ROPES" = some (.int 20 t.qA)
 KE:mg "MOST_WIRES" = some (.int 4 t.qB)
 KG:mg "ALL_GROUPS" = some (.int 7 t.qC)
 GL:mg "MOST_CALLERS" = some (.int 20 t.mD)
 mO:mg "GROUP_BITS" = some (.ref t.d9)
 f6:∀ H,cN K H t.d9 [.int 1,.int 2,.int 4]
 gf:mg "len" = none
 mP:mg "isinstance" = none
 T8:mg "int" = none
 Zq:mg "bool" = none
 uq:mg "list" = none
 V6:mg "tuple" = none
 gK:mg "range" = none
 Mg:mg "enumerate" = none
 abR:mg "min" = none
 abS:mg "set" = none
 abT:mg "str" = none
 Xx:mg "all" = none
 yO:mg "sorted" = none
theorem PL{α:Type}{M:List α->Prop}(h:∀ x0,M [x0]):∀ us:List α,us.length=1->M us
 | [_],_=>h _
theorem Ef{α:Type}{M:List α->Prop}(h:∀ x0 x1,M [x0,x1]):∀ us:List α,us.length=2->M us
 | [_,_],_=>h _ _
theorem HQ{α:Type}{M:List α->Prop}(h:∀ x0 x1 x2,M [x0,x1,x2]):∀ us:List α,us.length=3->M us
 | [_,_,_],_=>h _ _ _
theorem Zr{α:Type}{M:List α->Prop}(h:∀ x0 x1 x2 x3,M [x0,x1,x2,x3]):∀ us:List α,us.length=4->M us
 | [_,_,_,_],_=>h _ _ _ _
theorem el6{α:Type}{M:List α->Prop}(h:∀ x0 x1 x2 x3 x4 x5,M [x0,x1,x2,x3,x4,x5]):∀ us:List α,us.length=6->M us
 | [_,_,_,_,_,_],_=>h _ _ _ _ _ _
theorem Zs{K:af}{h:Heap}{mg:Str->Option Value}(X:K.In h)(G:h.Ns mainGlobals mg){jU lV lW jV vd rF dO jo gv fO jq jW jX jr jY ve BY Mb Mc vZ vf BZ jZ oF oG iH ju oH j0 j5 lX oJ g7 gw gx jv rG j6 iI lY rH rJ oK lZ rK l5 oM j7 iJ g8 rL iK gJ gy g9 l6 iL oN vg vh vj oO rM jw Ca rN vm Me:Addr}
 {Mh Eg Eh Ei yP Ej:Value} {Mi Ek:Option Addr} {Mj:Array (Option Value)} {iC:Addr}
 {Bc:Addr} {KH:Option Addr} {Ml:Nat} {KI:Array (Option Value)}
 {GN yQ yR yS rV yU:Value} {GO yV:Option Addr} {GP:Array (Option Value)} {fm:Addr}
 {ur:Addr} {EN:Option Addr} {GQ:Nat} {EO:Array (Option Value)}
 {iS:Tok}
 {iN:Addr}
 {qD:Addr}
 {qF:Addr}
 {mQ:Addr}
 {ny:Addr}
 {jG:Addr}
 {yW:Addr}
 {gE:Addr}
 {GR:Addr}
 {Dv:Addr}
 {oh:Tok}
 {qA:Tok}
 {qB:Tok}
 {qC:Tok}
 {mD:Tok}
 {d9:Addr} {Im:Option Addr} {KJ:Nat} {Io Ip Iq:Tok} {Ir:Array (Option Value)}
 (Dw:bG K mainGlobals "Letter" = some (some (.ref iN)))
 (GS:bG K mainGlobals "ToOne" = some (some (.ref qD)))
 (GU:bG K mainGlobals "ToAll" = some (some (.ref qF)))
 (Dy:bG K mainGlobals "Posted" = some (some (.ref mQ)))
 (KL:bG K mainGlobals "Town" = some (some (.ref ny)))
 (Be:bG K mainGlobals "Strands" = some (some (.ref jG)))
 (KN:bG K mainGlobals "Book" = some (some (.ref yW)))
 (Oq:bG K mainGlobals "Net" = some (some (.ref gE)))
 (uu:EM K yW "__init__" "Book.__init__" tW jU)
 (wG:EM K yW "learn" "Book.learn" vR lV)
 (wH:EM K yW "known" "Book.known" vS lW)
 (uv:EM K yW "forget" "Book.forget" tX jV)
 (Dz:EG K mg "targets" "targets" C9 vd)
 (Bf:EG K mg "ropes_on" "ropes_on" AY rF)
 (pL:EM K iN "__init__" "Letter.__init__" pA dO)
 (rW:EM K iN "meant" "Letter.meant" rm jo)
 (rX:EM K iN "seeks" "Letter.seeks" rz gv)
 (pM:EM K iN "number" "Letter.number" pB fO)
 (rY:EM K qD "__init__" "ToOne.__init__" rA jq)
 (uw:EM K qD "meant" "ToOne.meant" tY jW)
 (ux:EM K qD "seeks" "ToOne.seeks" tZ jX)
 (rZ:EM K qD "number" "ToOne.number" rB jr)
 (uy:EM K qF "meant" "ToAll.meant" t9 jY)
 (DA:EG K mg "own_row" "own_row" Dc ve)
 (KO:EG K mg "offer" "offer" Ko BY)
 (T9:EG K mg "due" "due" TR Mb)
 (Ua:EG K mg "ups" "ups" TU Mc)
 (KP:EG K mg "opens" "opens" Kp vZ)
 (DB:EG K mg "open_at" "open_at" Dd vf)
 (KQ:EG K mg "up_of" "up_of" Kq BZ)
 (uz:EM K ny "__init__" "Town.__init__" ua jZ)
 (yX:EM K ny "name" "Town.name" yq oF)
 (yY:EM K ny "rope" "Town.rope" yr oG)
 (pN:EM K ny "ropes_at" "Town.ropes_at" pC iH)
 (r6:EM K ny "far_end" "Town.far_end" rC ju)
 (yZ:EM K ny "lets" "Town.lets" yt oH)
 (uA:EG K mg "check_names" "check_names" uc j0)
 (uB:EG K mg "check_ropes" "check_ropes" ud j5)
 (wI:EG K mg "check_rope" "check_rope" vU lX)
 (y9:EG K mg "joins_two" "joins_two" yu oJ)
 (nA:EM K jG "__init__" "Strands.__init__" m9 g7)
 (kU:EM K jG "standing" "Strands.standing" kL gw)
 (kW:EM K jG "wire_for" "Strands.wire_for" kM gx)
 (r8:EM K jG "live" "Strands.live" rD jv)
 (Bg:EG K mg "wires_of" "wires_of" AZ rG)
 (uC:EG K mg "check_group" "check_group" ue j6)
 (pO:EM K mQ "__init__" "Posted.__init__" pD iI)
 (wJ:EM K gE "__init__" "Net.__init__" vV lY)
 (Bj:EM K gE "rows" "Net.rows" A0 rH)
 (Bk:EM K gE "live" "Net.live" A1 rJ)
 (za:EM K gE "opens" "Net.opens" yv oK)
 (wK:EM K gE "row_at" "Net.row_at" vW lZ)
 (Bl:EM K gE "call" "Net.call" A2 rK)
 (Bm:aG K (.ref gE) "post" = some (some (.ref iC)))
 (Bo:PySem.W.isFn K (.ref iC)=true)
 (Bp:K.lookup iC=some ⟨Mh,Mi,.func (dU "post" "Net.post" (iY iy) (fF iy) (aC iy) (.ref Bc) Eg Eh Ei Ek yP Ej),Mj⟩)
 (Bq:iU K yP "Net.post" = true)
 (wL:dH K (.ref iC)=true)
 (zc:K.lookup Bc=some ⟨.type "tuple",KH,.seq #[.none] Ml,KI⟩)
 (wM:EM K gE "flying" "Net.flying" vX l5)
 (uD:aG K (.ref gE) "pass_on" = some (some (.ref fm)))
 (uE:PySem.W.isFn K (.ref fm)=true)
 (uF:K.lookup fm=some ⟨GN,GO,.func (dU "pass_on" "Net.pass_on" (iY fk) (fF fk) (aC fk) (.ref ur) yQ yR yS yV rV yU),GP⟩)
 (uG:iU K rV "Net.pass_on" = true)
 (oj:dH K (.ref fm)=true)
 (r9:K.lookup ur=some ⟨.type "tuple",EN,.seq #[.int 0 iS] GQ,EO⟩)
 (zd:EM K gE "story" "Net.story" yw oM)
 (uH:EM K gE "fate_of" "Net.fate_of" uf j7)
 (pP:EM K gE "do_letter" "Net.do_letter" pF iJ)
 (nB:EM K gE "callers_at" "Net.callers_at" ng g8)
 (Br:EM K gE "send" "Net.send" A3 rL)
 (pQ:EM K gE "take_news" "Net.take_news" pG iK)
 (mR:EM K gE "check_house" "Net.check_house" lT gJ)
 (kX:EM K gE "check_caller" "Net.check_caller" kN gy)
 (nC:EM K gE "check_pair" "Net.check_pair" ni g9)
 (wN:EG K mg "first_rows" "first_rows" vY l6)
 (pR:EG K mg "check_callers" "check_callers" pH iL)
 (ze:EG K mg "_law_cell_at" "_law_cell_at" yx oN)
 (DC:EG K mg "_law_whole" "_law_whole" De vg)
 (DE:EG K mg "_law_names" "_law_names" Df vh)
 (DF:EG K mg "_law_ropes" "_law_ropes" Dg vj)
 (zf:EG K mg "_law_callers" "_law_callers" yy oO)
 (Bs:EG K mg "_law_rounds" "_law_rounds" A4 rM)
 (se:EG K mg "_law_story_kind" "_law_story_kind" rE jw)
 (KR:EG K mg "_law_led" "_law_led" Kr Ca)
 (Bt:EG K mg "_law_walked" "_law_walked" A5 rN)
 (DG:EG K mg "_law_right" "_law_right" Dh vm)
 (Ub:EG K mg "law" "law" TV Me)
 (zg:EC K iN)
 (nD:aG K (.ref iN) "sender" = some none)
 (wO:aG K (.ref iN) "to" = some none)
 (Cm:EC K qD)
 (pS:aG K (.ref qD) "sender" = some none)
 (zh:aG K (.ref qD) "to" = some none)
 (Cn:EC K qF)
 (pT:aG K (.ref qF) "sender" = some none)
 (zj:aG K (.ref qF) "to" = some none)
 (zk:EC K mQ)
 (nG:aG K (.ref mQ) "letter" = some none)
 (pU:aG K (.ref mQ) "group" = some none)
 (uI:aG K (.ref mQ) "old" = some none)
 (mS:aG K (.ref mQ) "done_at" = some none)
 (pV:aG K (.ref mQ) "deeds" = some none)
 (GV:EC K ny)
 (jM:aG K (.ref ny) "house_names" = some none)
 (jN:aG K (.ref ny) "rope_tuples" = some none)
 (wQ:aG K (.ref ny) "size" = some none)
 (wR:aG K (.ref ny) "many" = some none)
 (vq:EC K jG)
 (pW:aG K (.ref jG) "town" = some none)
 (kY:aG K (.ref jG) "upright" = some none)
 (GW:EC K yW)
 (wU:aG K (.ref yW) "kept" = some none)
 (Mm:EC K gE)
 (zm:aG K (.ref gE) "town" = some none)
 (sf:aG K (.ref gE) "strands" = some none)
 (jy:aG K (.ref gE) "rows_by_group" = some none)
 (wV:aG K (.ref gE) "books" = some none)
 (wW:aG K (.ref gE) "homes" = some none)
 (uJ:aG K (.ref gE) "groups" = some none)
 (uK:aG K (.ref gE) "handed" = some none)
 (sj:aG K (.ref gE) "letters" = some none)
 (uL:aG K (.ref gE) "copies" = some none)
 (sq:bG K mainGlobals "opens_opens" = some (some (.ref vZ)))
 (sr:aG K (.ref qF) "seeks" = some (some (.ref gv)))
 (pX:aG K (.ref qF) "number" = some (some (.ref fO)))
 (GX:aG K (.ref qF) "__init__" = some (some (.ref dO)))
 (nH:PySem.W.specialIn K (.ref iN) "__getattribute__" = some (some (.builtin "type.__getattribute__")))
 (nJ:PySem.W.readsIn K iN (.type "type")=true)
 (nK:PySem.W.findCls K (.ref iN) (.type "type") "__init__" = some (.val (.ref dO)))
 (DH:bG K mainGlobals "NoWire" = some (some (.ref GR)))
 (DI:S9 K GR)
 (Bu:bG K mainGlobals "NoGroup" = some (some (.ref Dv)))
 (Bv:S9 K Dv)
 (uM:bG K mainGlobals "MOST_HOUSES" = some (some (.int 10 oh)))
 (wX:bG K mainGlobals "MOST_ROPES" = some (some (.int 20 qA)))
 (wY:bG K mainGlobals "MOST_WIRES" = some (some (.int 4 qB)))
 (wZ:bG K mainGlobals "ALL_GROUPS" = some (some (.int 7 qC)))
 (sy:bG K mainGlobals "MOST_CALLERS" = some (some (.int 20 mD)))
 (w6:bG K mainGlobals "GROUP_BITS" = some (some (.ref d9)))
 (w9:K.lookup d9=some ⟨.type "tuple",Im,.seq #[.int 1 Io,.int 2 Ip,.int 4 Iq] KJ,Ir⟩)
 (Uc:bG K mainGlobals "len" = some none)
 (xg:bG K mainGlobals "isinstance" = some none)
 (Ud:bG K mainGlobals "int" = some none)
 (Ot:bG K mainGlobals "bool" = some none)
 (Ou:bG K mainGlobals "list" = some none)
 (KS:bG K mainGlobals "tuple" = some none)
 (KU:bG K mainGlobals "range" = some none)
 (zo:bG K mainGlobals "enumerate" = some none)
 (Ue:bG K mainGlobals "min" = some none)
 (Ug:bG K mainGlobals "set" = some none)
 (Uh:bG K mainGlobals "str" = some none)
 (Ui:bG K mainGlobals "all" = some none)
 (GY:bG K mainGlobals "sorted" = some none):∃ t,Txt K mg t:=by
 obtain⟨nQ,Av,Aw⟩:=uu
 obtain⟨qm,Co,KW⟩:=wG
 obtain⟨qu,Cq,KY⟩:=wH
 obtain⟨nR,Ax,Iu⟩:=uv
 obtain⟨zQ,Js,Rr⟩:=Dz
 obtain⟨wc,GZ,Ov⟩:=Bf
 obtain⟨kj,xD,kG⟩:=pL
 obtain⟨l9,zp,G0⟩:=rW
 obtain⟨mh,zq,sA⟩:=rX
 obtain⟨ko,xE,pY⟩:=pM
 obtain⟨mj,zu,zv⟩:=rY
 obtain⟨nS,Ay,Iv⟩:=uw
 obtain⟨nU,Az,Iw⟩:=ux
 obtain⟨mq,zw,G1⟩:=rZ
 obtain⟨nV,AA,Iz⟩:=uy
 obtain⟨zR,Jt,Rt⟩:=DA
 obtain⟨Fg,PM,V7⟩:=KO
 obtain⟨PD,Xy,abU⟩:=T9
 obtain⟨PF,Xz,abV⟩:=Ua
 obtain⟨Fi,PN,V8⟩:=KP
 obtain⟨zS,Ju,Ru⟩:=DB
 obtain⟨Fj,PR,V9⟩:=KQ
 obtain⟨nW,AB,AD⟩:=uz
 obtain⟨sR,El,Mn⟩:=yX
 obtain⟨sU,Em,Mp⟩:=yY
 obtain⟨kq,xF,ER⟩:=pN
 obtain⟨mw,zx,G2⟩:=r6
 obtain⟨sV,Eo,Mq⟩:=yZ
 obtain⟨nX,AE,IA⟩:=uA
 obtain⟨nY,AF,IB⟩:=uB
 obtain⟨qv,Cr,KZ⟩:=wI
 obtain⟨sW,Ep,Mr⟩:=y9
 obtain⟨jD,vt,vv⟩:=nA
 obtain⟨iz,sC,Bw⟩:=kU
 obtain⟨iA,sD,Bx⟩:=kW
 obtain⟨mz,zy,G3⟩:=r8
 obtain⟨we,G4,Ow⟩:=Bg
 obtain⟨nZ,AG,IC⟩:=uC
 obtain⟨kr,xG,xH⟩:=pO
 obtain⟨qw,Cs,Ct⟩:=wJ
 obtain⟨wg,G5,Ox⟩:=Bj
 obtain⟨wk,G6,Oz⟩:=Bk
 obtain⟨sX,Er,Ms⟩:=za
 obtain⟨qx,Cu,K0⟩:=wK
 obtain⟨wm,G7,OA⟩:=Bl
 have rR:=Pz (st:=iy) Bp Bq wL zc rfl
 obtain⟨qy,Cv,K1⟩:=wM
 have j8:=Pz (st:=fk) uF uG oj r9 rfl
 obtain⟨sY,Et,Mt⟩:=zd
 obtain⟨n6,AH,ID⟩:=uH
 obtain⟨ku,xJ,ES⟩:=pP
 obtain⟨jE,vz,DJ⟩:=nB
 obtain⟨wo,G8,OB⟩:=Br
 obtain⟨kB,xK,ET⟩:=pQ
 obtain⟨i0,tH,Cw⟩:=mR
 obtain⟨iB,sE,By⟩:=kX
 obtain⟨jF,vA,DK⟩:=nC
 obtain⟨qz,Cy,K2⟩:=wN
 obtain⟨kC,xM,EU⟩:=pR
 obtain⟨sZ,Eu,Mu⟩:=ze
 obtain⟨zT,Jv,Rv⟩:=DC
 obtain⟨zU,Jw,Rx⟩:=DE
 obtain⟨zV,Jx,Ry⟩:=DF
 obtain⟨tw,Ew,Mv⟩:=zf
 obtain⟨wu,G9,OC⟩:=Bs
 obtain⟨mC,zz,Hf⟩:=se
 obtain⟨Fk,PU,Wa⟩:=KR
 obtain⟨wz,Hg,OD⟩:=Bt
 obtain⟨zW,Jy,Rz⟩:=DG
 obtain⟨Mf,XA,abW⟩:=Ub
 exact⟨⟨jU,lV,lW,jV,vd,rF,dO,jo,gv,fO,jq,jW,jX,jr,jY,ve,BY,Mb,Mc,vZ,vf,BZ,jZ,oF,oG,iH,ju,oH,j0,j5,lX,oJ,g7,gw,gx,jv,rG,j6,iI,lY,rH,rJ,oK,lZ,rK,l5,oM,j7,iJ,g8,rL,iK,gJ,gy,g9,l6,iL,oN,vg,vh,vj,oO,rM,jw,Ca,rN,vm,Me,nQ,qm,qu,nR,zQ,wc,kj,l9,mh,ko,mj,nS,nU,mq,nV,zR,Fg,PD,PF,Fi,zS,Fj,nW,sR,sU,kq,mw,sV,nX,nY,qv,sW,jD,iz,iA,mz,we,nZ,kr,qw,wg,wk,sX,qx,wm,qy,sY,n6,ku,jE,wo,kB,i0,iB,jF,qz,kC,sZ,zT,zU,zV,tw,wu,mC,Fk,wz,zW,Mf,iC,(dU "post" "Net.post" (iY iy) (fF iy) (aC iy) (.ref Bc) Eg Eh Ei Ek yP Ej),fm,(dU "pass_on" "Net.pass_on" (iY fk) (fF fk) (aC fk) (.ref ur) yQ yR yS yV rV yU),iS,iN,qD,qF,mQ,ny,jG,yW,gE,GR,Dv,oh,qA,qB,qC,mD,d9⟩,⟨⟨Av,Av.binds λ_ _ _ _ _ _=>PL λ_=>rfl,⟨GW.Xq,Aw.at_,Aw.fn,GW.kc⟩⟩,
  ⟨Co,Co.binds λ_ _ _ _ _ _=>Zr λ_ _ _ _=>rfl,KW⟩,
  ⟨Cq,Cq.binds λ_ _ _ _ _ _=>HQ λ_ _ _=>rfl,KY⟩,
  ⟨Ax,Ax.binds λ_ _ _ _ _ _=>PL λ_=>rfl,Iu⟩,
  ⟨Js,Js.binds λ_ _ _ _ _ _=>el6 λ_ _ _ _ _ _=>rfl,Rr⟩,
  ⟨GZ,GZ.binds λ_ _ _ _ _ _=>el6 λ_ _ _ _ _ _=>rfl,Ov⟩,
  ⟨xD,xD.binds λ_ _ _ _ _ _=>Ef λ_ _=>rfl,⟨zg.Xq,kG.at_,kG.fn,zg.kc⟩⟩,
  ⟨zp,zp.binds λ_ _ _ _ _ _=>Ef λ_ _=>rfl,G0⟩,
  ⟨zq,zq.binds λ_ _ _ _ _ _=>PL λ_=>rfl,sA⟩,
  ⟨xE,xE.binds λ_ _ _ _ _ _=>PL λ_=>rfl,pY⟩,
  ⟨zu,zu.binds λ_ _ _ _ _ _=>HQ λ_ _ _=>rfl,⟨Cm.Xq,zv.at_,zv.fn,Cm.kc⟩⟩,
  ⟨Ay,Ay.binds λ_ _ _ _ _ _=>Ef λ_ _=>rfl,Iv⟩,
  ⟨Az,Az.binds λ_ _ _ _ _ _=>PL λ_=>rfl,Iw⟩,
  ⟨zw,zw.binds λ_ _ _ _ _ _=>PL λ_=>rfl,G1⟩,
  ⟨AA,AA.binds λ_ _ _ _ _ _=>Ef λ_ _=>rfl,Iz⟩,
  ⟨Jt,Jt.binds λ_ _ _ _ _ _=>Ef λ_ _=>rfl,Rt⟩,
  ⟨PM,PM.binds λ_ _ _ _ _ _=>HQ λ_ _ _=>rfl,V7⟩,
  ⟨Xy,Xy.binds λ_ _ _ _ _ _=>Zr λ_ _ _ _=>rfl,abU⟩,
  ⟨Xz,Xz.binds λ_ _ _ _ _ _=>HQ λ_ _ _=>rfl,abV⟩,
  ⟨PN,PN.binds λ_ _ _ _ _ _=>HQ λ_ _ _=>rfl,V8⟩,
  ⟨Ju,Ju.binds λ_ _ _ _ _ _=>Zr λ_ _ _ _=>rfl,Ru⟩,
  ⟨PR,PR.binds λ_ _ _ _ _ _=>Zr λ_ _ _ _=>rfl,V9⟩,
  ⟨AB,AB.binds λ_ _ _ _ _ _=>HQ λ_ _ _=>rfl,⟨GV.Xq,AD.at_,AD.fn,GV.kc⟩⟩,
  ⟨El,El.binds λ_ _ _ _ _ _=>Ef λ_ _=>rfl,Mn⟩,
  ⟨Em,Em.binds λ_ _ _ _ _ _=>Ef λ_ _=>rfl,Mp⟩,
  ⟨xF,xF.binds λ_ _ _ _ _ _=>Ef λ_ _=>rfl,ER⟩,
  ⟨zx,zx.binds λ_ _ _ _ _ _=>HQ λ_ _ _=>rfl,G2⟩,
  ⟨Eo,Eo.binds λ_ _ _ _ _ _=>HQ λ_ _ _=>rfl,Mq⟩,
  ⟨AE,AE.binds λ_ _ _ _ _ _=>PL λ_=>rfl,IA⟩,
  ⟨AF,AF.binds λ_ _ _ _ _ _=>Ef λ_ _=>rfl,IB⟩,
  ⟨Cr,Cr.binds λ_ _ _ _ _ _=>Ef λ_ _=>rfl,KZ⟩,
  ⟨Ep,Ep.binds λ_ _ _ _ _ _=>HQ λ_ _ _=>rfl,Mr⟩,
  ⟨vt,vt.binds λ_ _ _ _ _ _=>Ef λ_ _=>rfl,⟨vq.Xq,vv.at_,vv.fn,vq.kc⟩⟩,
  ⟨sC,sC.binds λ_ _ _ _ _ _=>Ef λ_ _=>rfl,Bw⟩,
  ⟨sD,sD.binds λ_ _ _ _ _ _=>HQ λ_ _ _=>rfl,Bx⟩,
  ⟨zy,zy.binds λ_ _ _ _ _ _=>Ef λ_ _=>rfl,G3⟩,
  ⟨G4,G4.binds λ_ _ _ _ _ _=>Ef λ_ _=>rfl,Ow⟩,
  ⟨AG,AG.binds λ_ _ _ _ _ _=>PL λ_=>rfl,IC⟩,
  ⟨xG,xG.binds λ_ _ _ _ _ _=>HQ λ_ _ _=>rfl,⟨zk.Xq,xH.at_,xH.fn,zk.kc⟩⟩,
  ⟨Cs,Cs.binds λ_ _ _ _ _ _=>HQ λ_ _ _=>rfl,⟨Mm.Xq,Ct.at_,Ct.fn,Mm.kc⟩⟩,
  ⟨G5,G5.binds λ_ _ _ _ _ _=>Ef λ_ _=>rfl,Ox⟩,
  ⟨G6,G6.binds λ_ _ _ _ _ _=>Ef λ_ _=>rfl,Oz⟩,
  ⟨Er,Er.binds λ_ _ _ _ _ _=>Ef λ_ _=>rfl,Ms⟩,
  ⟨Cu,Cu.binds λ_ _ _ _ _ _=>HQ λ_ _ _=>rfl,K0⟩,
  ⟨G7,G7.binds λ_ _ _ _ _ _=>HQ λ_ _ _=>rfl,OA⟩,
  rR,
  (rR.binds (ps:=["self","sender","to"]) (ds:=[.none]) (m:=2) rfl λ_ _ _ _ _ _ _=>Ef λ_ _=>⟨_,rfl,rfl⟩),
  (rR.binds (ps:=["self","sender","to"]) (ds:=[]) (m:=3) rfl λ_ _ _ _ _ _ _=>HQ λ_ _ _=>⟨_,rfl,rfl⟩),
  ⟨Bm,Bo,wL⟩,
  ⟨Cv,Cv.binds λ_ _ _ _ _ _=>PL λ_=>rfl,K1⟩,
  j8,
  (j8.binds (ps:=["self","at"]) (ds:=[.int 0 iS]) (m:=1) rfl λ_ _ _ _ _ _ _=>PL λ_=>⟨_,rfl,rfl⟩),
  (j8.binds (ps:=["self","at"]) (ds:=[]) (m:=2) rfl λ_ _ _ _ _ _ _=>Ef λ_ _=>⟨_,rfl,rfl⟩),
  ⟨uD,uE,oj⟩,
  ⟨Et,Et.binds λ_ _ _ _ _ _=>Ef λ_ _=>rfl,Mt⟩,
  ⟨AH,AH.binds λ_ _ _ _ _ _=>Zr λ_ _ _ _=>rfl,ID⟩,
  ⟨xJ,xJ.binds λ_ _ _ _ _ _=>Zr λ_ _ _ _=>rfl,ES⟩,
  ⟨vz,vz.binds λ_ _ _ _ _ _=>HQ λ_ _ _=>rfl,DJ⟩,
  ⟨G8,G8.binds λ_ _ _ _ _ _=>Zr λ_ _ _ _=>rfl,OB⟩,
  ⟨xK,xK.binds λ_ _ _ _ _ _=>Ef λ_ _=>rfl,ET⟩,
  ⟨tH,tH.binds λ_ _ _ _ _ _=>Ef λ_ _=>rfl,Cw⟩,
  ⟨sE,sE.binds λ_ _ _ _ _ _=>Ef λ_ _=>rfl,By⟩,
  ⟨vA,vA.binds λ_ _ _ _ _ _=>HQ λ_ _ _=>rfl,DK⟩,
  ⟨Cy,Cy.binds λ_ _ _ _ _ _=>PL λ_=>rfl,K2⟩,
  ⟨xM,xM.binds λ_ _ _ _ _ _=>Ef λ_ _=>rfl,EU⟩,
  ⟨Eu,Eu.binds λ_ _ _ _ _ _=>Ef λ_ _=>rfl,Mu⟩,
  ⟨Jv,Jv.binds λ_ _ _ _ _ _=>PL λ_=>rfl,Rv⟩,
  ⟨Jw,Jw.binds λ_ _ _ _ _ _=>Ef λ_ _=>rfl,Rx⟩,
  ⟨Jx,Jx.binds λ_ _ _ _ _ _=>HQ λ_ _ _=>rfl,Ry⟩,
  ⟨Ew,Ew.binds λ_ _ _ _ _ _=>HQ λ_ _ _=>rfl,Mv⟩,
  ⟨G9,G9.binds λ_ _ _ _ _ _=>HQ λ_ _ _=>rfl,OC⟩,
  ⟨zz,zz.binds λ_ _ _ _ _ _=>PL λ_=>rfl,Hf⟩,
  ⟨PU,PU.binds λ_ _ _ _ _ _=>HQ λ_ _ _=>rfl,Wa⟩,
  ⟨Hg,Hg.binds λ_ _ _ _ _ _=>HQ λ_ _ _=>rfl,OD⟩,
  ⟨Jy,Jy.binds λ_ _ _ _ _ _=>el6 λ_ _ _ _ _ _=>rfl,Rz⟩,
  ⟨XA,XA.binds λ_ _ _ _ _ _=>PL λ_=>rfl,abW⟩,
  zg.c,
  (cO X G Dw),
  nD,
  wO,
  Cm.c,
  (cO X G GS),
  pS,
  zh,
  Cn.c,
  (cO X G GU),
  pT,
  zj,
  zk.c,
  (cO X G Dy),
  nG,
  pU,
  uI,
  mS,
  pV,
  GV.c,
  (cO X G KL),
  jM,
  jN,
  wQ,
  wR,
  vq.c,
  (cO X G Be),
  pW,
  kY,
  GW.c,
  (cO X G KN),
  wU,
  Mm.c,
  (cO X G Oq),
  zm,
  sf,
  jy,
  wV,
  wW,
  uJ,
  uK,
  sj,
  uL,
  (cO X G sq),
  ⟨sr,sA.fn,sA.kp⟩,
  ⟨pX,pY.fn,pY.kp⟩,
  ⟨Cn.Xq,GX,kG.fn,Cn.kc⟩,
  ⟨nH,nJ,nK,kG.kp⟩,
  (cO X G DH),
  DI,
  (cO X G Bu),
  Bv,
  (cO X G uM),
  (cO X G wX),
  (cO X G wY),
  (cO X G wZ),
  (cO X G sy),
  (cO X G w6),
  (λH=>.inr ⟨_,_,_,w9,rfl,rfl,(by show 3<=sizeLine; decide),(.cons ⟨_,rfl⟩ (.cons ⟨_,rfl⟩ (.cons ⟨_,rfl⟩ .nil)))⟩),
  (cy X G Uc),
  (cy X G xg),
  (cy X G Ud),
  (cy X G Ot),
  (cy X G Ou),
  (cy X G KS),
  (cy X G KU),
  (cy X G zo),
  (cy X G Ue),
  (cy X G Ug),
  (cy X G Uh),
  (cy X G Ui),
  (cy X G GY)⟩⟩
end fP
namespace fP
open PySem L2 TW PyProof.Rows
open RM (cU k7 bC bA)
seal L2.PE L2.PA L2.PT L2.PW L2.PS L2.iV L2.PG L2.mU L2.PI L2.mV
theorem bJ{CX:QH}{P:Program}{w:World}{K:af}{mg:Str->Option Value}{base:Heap}{N:List Str}{qual:Str}{scope:Scope}{f:Addr}{cd:Value}{A:Around}{outer:List Env}{s:Shared}{H:Hp}{E:XK}:(m6 CX P w K mg base N qual scope f cd A outer s H E).K=K:=rfl
section
variable{P:Program}{w:World}{K:af}{mg:Str->Option Value}{base:Heap}
inductive PV(vs:List V)(H:Hp)(Q:VK)(E:XK):Prop
 | mk (i:Int):vs = [.int i]->Q (.bl true) H->PV  vs H Q E
theorem OE{t:Ad}(T:Txt K mg t):cj P w K mg base ig 1 t.vg t.zT ["_law_found"]  PV:=by
 refine T.Jo.F.jK Ol λH Q E hr h=>?_
 ·obtain⟨i,rfl,k⟩:=h
  refine⟨_,(oR (JZ (cB FU T.mP boot_isinstance (mZ (pv 0) (BG rfl T.T8 boot_int (v:=.ty "int") rfl))) (Nj (Yx (cB FU T.mP boot_isinstance (mZ (pv 0) (BG rfl T.Zq boot_bool (v:=.ty "bool") rfl))))))),?_⟩
  try dsimp only[bJ]
  refine⟨_,rfl,_,_,_,_,rfl,.int _,rfl,_,rfl,fL ?_⟩
  refine⟨_,rfl,_,_,_,_,rfl,.int _,rfl,_,rfl,?_⟩
  exact k
inductive Uj(K:af)(vs:List V)(H:Hp)(Q:VK)(E:XK):Prop
 | mk (a:Addr) (ns:List Int) (k:Int):vs = [.ref a,.int k]->bL K H a (ns.map V.int)->0<=k->Q (.int (ns.getD k.toNat 0)) H->Uj K vs H Q E
theorem fq{t:Ad}(T:Txt K mg t):cj P w K mg base ig 1 t.oN t.sZ ["_law_script","_law_k"]  (Uj K):=by
 refine T.fB.F.jK KA λH Q E hr h=>?_
 ·obtain⟨a,ns,i,rfl,hS,h0,k⟩:=h
  refine⟨_,(ao (bX (qT p7 (pv 1) (lS T.gf (pv 0))) (oR (xL (pv 0) (pv 1))) aX) (oR aA)),?_⟩
  try dsimp only[bJ]
  refine⟨_,rfl,_,rfl,a,_,rfl,.inl hS,_,_,rfl,rfl,_,rfl,?_⟩
  refine kH (λc=>?_) (λc=>?_)
  ·have hi:i < ns.length:=by simpa using c
   refine⟨_,rfl,_,rfl,a,_,_,_,rfl,rfl,hS,S3 h0 hi,k⟩
  ·have hi:¬ i < ns.length:=by simpa using c
   have e:ns.getD i.toNat 0=0:=by
    rw[av,iG (by omega)]; rfl
   rw[e] at k
   exact k
inductive PX(vs:List V)(H:Hp)(Q:VK)(E:XK):Prop
 | mk (n a b:Int):vs = [.int n,.int a,.int b]->0<=a->a < n->0<=b->b < n->a≠b->Q (.bl true) H->PX  vs H Q E
theorem K3{t:Ad}(T:Txt K mg t):cj P w K mg base ig 1 t.oJ t.sW ["size","one","other"]  PX:=by
 refine T.Eb.F.jK Kw λH Q E hr h=>?_
 ·obtain⟨n,a,b,rfl,h1,h2,h3,h4,h5,k⟩:=h
  refine⟨_,(oR (JZ (Lw p8 p7 aA (pv 1) (pv 0)) (JZ (Lw p8 p7 aA (pv 2) (pv 0)) (Nj (qE qO (pv 1) (pv 2)))))),?_⟩
  try dsimp only[bJ]
  simp[Vb,W8,Nq,Ss,tC,JY,Sq,rNe,L2.start,Vg,h1,h2,h3,h4,h5,k]
  intros; omega
inductive Ex(K:af)(vs:List V)(H:Hp)(Q:VK)(E:XK):Prop
 | mk (n:Int) (p:Addr) (a b c d e:Int):vs = [.int n,.ref p]->cN K H p (abD a b c d e)->Td n a b c d e->Q .fh H->Ex K vs H Q E
theorem IE{t:Ad}(T:Txt K mg t):cj P w K mg base ig 2 t.lX t.qv ["size","rope"]  (Ex K):=by
 refine T.Cf.F.jK Ic λH Q E hr h=>?_
 ·obtain⟨n,p,a,b,c,d,e,rfl,hp,ok,k⟩:=h
  obtain⟨h1,h2,h3,h4,h5,h6,h7,h8,h9,h10⟩:=ok
  refine⟨_,(ao (bX (qT qO (lS T.gf (pv 1)) aA) dm aX) (ao (bX (gW (qM (cG (K3 T) hr T.Eb (Kh (pv 0) (xT (pv 1) aA) (xT (pv 1) aA))))) dm aX) (ao (bX (qT p7 (xT (pv 1) aA) aA) dm aX) (ao (bX (gW (jg p8 p8 aA (xT (pv 1) aA) (lG rfl T.KE (v:=.int 4) ⟨_,rfl⟩))) dm aX) (bw (bX (gW (jg p8 p8 aA (xT (pv 1) aA) (lG rfl T.KG (v:=.int 7) ⟨_,rfl⟩))) dm aX)))))),?_⟩
  try dsimp only[bJ]
  refine⟨_,rfl,p,_,rfl,.inr hp,rfl,_,rfl,cP ?_⟩
  refine⟨_,rfl,_,rfl,p,_,_,_,rfl,rfl,hp,rfl,_,rfl,p,_,_,_,rfl,rfl,hp,rfl,?_⟩
  refine⟨_,_,_,rfl,h1,h2,h3,h4,h5,_,rfl,cP ?_⟩
  refine⟨_,rfl,p,_,_,_,rfl,rfl,hp,rfl,_,_,rfl,rfl,_,rfl,?_⟩
  rw[decide_eq_false (show ¬ c < 1 by omega)]
  refine cP ?_
  refine⟨_,rfl,p,_,_,_,rfl,rfl,hp,rfl,_,_,rfl,rfl,_,rfl,?_⟩
  rw[decide_eq_true h7]
  refine fL ?_
  refine⟨_,_,rfl,rfl,_,rfl,?_⟩
  rw[decide_eq_true h8]
  refine cP ?_
  refine⟨_,rfl,p,_,_,_,rfl,rfl,hp,rfl,_,_,rfl,rfl,_,rfl,?_⟩
  rw[decide_eq_true h9]
  refine fL ?_
  refine⟨_,_,rfl,rfl,_,rfl,?_⟩
  rw[decide_eq_true h10]
  refine cP ?_
  exact k
inductive Cz(K:af)(vs:List V)(H:Hp)(Q:VK)(E:XK):Prop
 | mk (n:Int) (l:Addr) (rs:List R5):vs = [.int n,.ref l]->FZ K H l rs->rs.length<=20->(∀ r∈rs,r.Ok n)->Q .fh H->Cz K vs H Q E
theorem Hh{t:Ad}(T:Txt K mg t):cj P w K mg base ig 3 t.j5 t.nY ["size","ropes"]  (Cz K):=by
 refine T.Aq.F.jK yz λH Q E hr h=>?_
 ·obtain⟨n,l,rs,rfl,hR,hl,ok,k⟩:=h
  obtain⟨us,hL,el,hg⟩:=hR.at
  refine⟨_,(ao (bX (qT Lv (lS T.gf (pv 1)) (lG rfl T.KD (v:=.int 20) ⟨_,rfl⟩)) dm aX) (bw (fS (fE (pv 1)) (gT 2 yz) (oE (cG (IE T) hr T.Cf (mZ (pv 0) (pv 2))))))),?_⟩
  try dsimp only[bJ]
  refine⟨_,rfl,l,_,rfl,.inl hL,_,_,rfl,rfl,_,rfl,?_⟩
  rw[decide_eq_false (show ¬ (20:Int) < us.length by omega)]
  refine cP ?_
  refine⟨_,rfl,l,rfl,⟨_,hL⟩,qN (K:=K) (a:=l) (xs:=us) (λi σ H2=>H2=H/\∃ v,σ = [some (.int n),some (.ref l),v]) ⟨rfl,_,rfl⟩ (λi σ H2 _ ⟨e,_⟩=>by rw[e]; exact hL) ?_ ?_⟩
  ·rintro i y σ H2 hi ⟨rfl,v,rfl⟩
   have hil:i < us.length:=(ai.mp hi).1
   have RA:rs[i]?=some rs[i]:=by simp
   obtain⟨p,h1,h2⟩:=hg i _ RA
   rw[hi] at h1
   cases h1
   refine⟨_,rfl,_,rfl,n,p,_,_,_,_,_,rfl,h2,ok _ (aQ RA),rfl,_,rfl⟩
  ·rintro σ H2 ⟨rfl,v,rfl⟩
   exact k
inductive CA(K:af)(vs:List V)(H:Hp)(Q:VK)(E:XK):Prop
 | mk (l:Addr) (ns:List Int):vs = [.ref l]->bL K H l (ns.map V.int)->1<=ns.length->ns.length<=10->(∀ n∈ns,0<=n)->ns.Nodup->(∀ H',aE H H'->Q .fh H')->CA K vs H Q E
theorem Hi{t:Ad}(T:Txt K mg t):cj P w K mg base ig 1 t.j0 t.nX ["names"]  (CA K):=by
 refine T.Ao.F.jK Gz λH Q E hr h=>?_
 ·obtain⟨l,ns,rfl,hL,h1,h2,h3,h4,k⟩:=h
  refine⟨_,(ao (bX (gW (jg p8 p8 aA (lS T.gf (pv 0)) (lG rfl T.Il (v:=.int 10) ⟨_,rfl⟩))) dm aX) (ao (bX (qT p7 (cB (QZ rfl) T.abR boot_min (gC (pv 0))) aA) dm aX) (bw (bX (qT qO (cB QY T.gf PySem.boot_len (gC (gj (QX rfl) (by rfl) T.abS boot_set (gC (pv 0))))) (lS T.gf (pv 0))) dm aX)))),?_⟩
  try dsimp only[bJ]
  refine⟨_,rfl,l,_,rfl,.inl hL,_,_,rfl,rfl,_,rfl,?_⟩
  rw[decide_eq_true (show (1:Int)<=(ns.map V.int).length by rw[ah]; omega)]
  refine fL ?_
  refine⟨_,_,rfl,rfl,_,rfl,?_⟩
  rw[decide_eq_true (show ((ns.map V.int).length:Int)<=10 by rw[ah]; omega)]
  refine cP ?_
  refine⟨_,rfl,l,ns,rfl,hL,by omega,λm hm hle=>?_⟩
  refine⟨_,_,rfl,rfl,_,rfl,?_⟩
  rw[decide_eq_false (show ¬ m < 0 by have:=h3 m hm; omega)]
  refine cP ?_
  refine⟨_,rfl,l,ns,rfl,hL,bH (show ns.length + 1 < 100 by omega) (by decide),λp hp=>?_⟩
  have s1:=aE.new (o:=.set (λk'=>(firstMet (λi=>ns.getD i 0) ns.length).any (· == k')) (firstMet (λi=>ns.getD i 0) ns.length).length) hp
  refine⟨p,_,_,rfl,ay,_,rfl,l,_,rfl,.inl (s1.seq hL),rfl,_,rfl,?_⟩
  rw[F0 ns h4,ah]
  simp only[decide_true,Bool.not_true]
  refine cP ?_
  exact k _ (aE.new hp)
inductive Uk(K:af)(C:Addr)(vs:List V)(H:Hp)(Q:VK)(E:XK):Prop
 | mk (p dx l1 l2:Addr) (ns:List Int) (rs:List R5):vs = [.ref p,.ref l1,.ref l2]->H p=some (.ins C dx [])->bL K H l1 (ns.map V.int)->FZ K H l2 rs->1<=ns.length->ns.length<=10->(∀ n∈ns,0<=n)->ns.Nodup->rs.length<=20->(∀ r∈rs,r.Ok ns.length)->(∀ ln lr H',H ln=none->H lr=none->cY K C H' p ln lr ns rs->(∀ b o,H b=some o->b≠p->H' b=some o)->Q .fh H')->Uk K C vs H Q E
theorem Hj{t:Ad}(T:Txt K mg t):cj P w K mg base ig 4 t.jZ t.nW ["self","names","ropes"]  (Uk K t.bK):=by
 refine T.An.F.jK Gy λH Q E hr h=>?_
 ·obtain⟨p,dx,l1,l2,ns,rs,rfl,hp,hL,hR,h1,h2,h3,h4,h5,h6,k⟩:=h
  refine⟨_,(ao (fD (cG (Hi T) hr T.Ao (gC (pv 1)))) (ao (fD (cG (Hh T) hr T.Aq (mZ (lS T.gf (pv 1)) (pv 2)))) (ao (fJ (pv 0) (gj gI (by rfl) T.uq boot_list (gC (pv 1))) rfl) (ao (fJ (pv 0) (gj gI (by rfl) T.uq boot_list (gC (pv 2))) rfl) (ao (fJ (pv 0) (lS T.gf (pv 1)) rfl) (bw (fJ (pv 0) (lS T.gf (pv 2)) rfl))))))),?_⟩
  try dsimp only[bJ]
  refine⟨_,rfl,l1,ns,rfl,hL,h1,h2,h3,h4,λH1 s1=>?_⟩
  refine⟨_,rfl,l1,_,rfl,.inl (s1.seq hL),?_⟩
  refine⟨_,rfl,(ns.length:Int),l2,rs,by simp,hR.mono s1,h5,h6,?_⟩
  have hp1:=s1 _ _ hp
  have hR1:=hR.mono s1
  have hL1:=s1.seq hL
  obtain⟨_,us,e,hq,R1⟩:=id hR1
  cases e
  refine⟨_,rfl,l1,_,rfl,.inl hL1,λln hn=>?_⟩
  have npn:p≠ln:=aR hp1 hn
  have s2:=aE.new (o:=.lst (ns.map V.int)) hn
  refine⟨_,rfl,p,_,dx,[],rfl,s2 _ _ hp1,T.fc,T.rT,by decide,?_⟩
  rw[dc (names:=[]) rfl rfl]
  generalize eH2:upd (upd H1 ln (.lst (ns.map V.int))) p (.ins t.bK dx ([]++[(Str.ofString "house_names",V.ref ln)]))=H2
  have k2:∀ b o,H1 b=some o->b≠p->H2 b=some o:=λb o e nb=>by rw[<- eH2,aI nb]; exact s2 _ _ e
  have hp2:H2 p=some (.ins t.bK dx [(Str.ofString "house_names",V.ref ln)]):=by rw[<- eH2]; exact ay
  have hn2:H2 ln=some (.lst (ns.map V.int)):=by rw[<- eH2,aI (bT npn),ay]
  have fr2:∀ {b:Addr},H1 b=none->b≠p->b≠ln->H2 b=none:=λ{b} e n1 n2=>by rw[<- eH2,aI n1,aI n2]; exact e
  have hL2:bL K H2 l1 (ns.map V.int):=zL (λb o e nb=>k2 b o e nb) hp1 hL1
  have hq2:bL K H2 l2 us:=zL (λb o e nb=>k2 b o e nb) hp1 hq
  have aeU:cQ K H2 (rs.map R5.D) us:=jm (λb o e nb=>k2 b o e nb) hp1 R1
  refine⟨_,rfl,l2,_,rfl,.inl hq2,λlr hr2=>?_⟩
  have npr:p≠lr:=aR hp2 hr2
  have s3:=aE.new (o:=.lst us) hr2
  refine⟨_,rfl,p,_,dx,_,rfl,s3 _ _ hp2,T.fc,T.gz,(by show 1 < 1000; decide),?_⟩
  rw[dc (names:=["house_names"]) rfl (by decide +kernel)]
  generalize eH3:upd (upd H2 lr (.lst us)) p (.ins t.bK dx ([(Str.ofString "house_names",V.ref ln)]++[(Str.ofString "rope_tuples",V.ref lr)]))=H3
  have k3:∀ b o,H2 b=some o->b≠p->H3 b=some o:=λb o e nb=>by rw[<- eH3,aI nb]; exact s3 _ _ e
  have hp3:H3 p=some (.ins t.bK dx [(Str.ofString "house_names",V.ref ln),(Str.ofString "rope_tuples",V.ref lr)]):=by rw[<- eH3]; exact ay
  have hr3:H3 lr=some (.lst us):=by rw[<- eH3,aI (bT npr),ay]
  have hn3:=k3 _ _ hn2 (bT npn)
  have hL3:bL K H3 l1 (ns.map V.int):=zL k3 hp2 hL2
  have hq3:bL K H3 l2 us:=zL k3 hp2 hq2
  have aeW:cQ K H3 (rs.map R5.D) us:=jm k3 hp2 aeU
  refine⟨_,rfl,l1,_,rfl,.inl hL3,_,rfl,p,_,dx,_,rfl,hp3,T.fc,T.ly,(by show 2 < 1000; decide),?_⟩
  rw[dc (names:=["house_names","rope_tuples"]) rfl (by decide +kernel)]
  generalize eH4:upd H3 p (.ins t.bK dx ([(Str.ofString "house_names",V.ref ln),(Str.ofString "rope_tuples",V.ref lr)]++[(Str.ofString "size",V.int ((ns.map V.int).length:Nat))]))=H4
  have k4:∀ b o,H3 b=some o->b≠p->H4 b=some o:=λb o e nb=>by rw[<- eH4,aI nb]; exact e
  have U5:H4 p=some (.ins t.bK dx [(Str.ofString "house_names",V.ref ln),(Str.ofString "rope_tuples",V.ref lr),(Str.ofString "size",V.int ((ns.map V.int).length:Nat))]):=by rw[<- eH4]; exact ay
  have Zt:bL K H4 l2 us:=zL k4 hp3 hq3
  have aeX:cQ K H4 (rs.map R5.D) us:=jm k4 hp3 aeW
  refine⟨_,rfl,l2,_,rfl,.inl Zt,_,rfl,p,_,dx,_,rfl,U5,T.fc,T.tE,(by show 3 < 1000; decide),?_⟩
  rw[dc (names:=["house_names","rope_tuples","size"]) rfl (by decide +kernel)]
  have k5:∀ b o,H4 b=some o->b≠p->∀ u,(upd H4 p u) b=some o:=λb o e nb u=>by rw[aI nb]; exact e
  have XC:us.length=rs.length:=by rw[R1.length,ah]
  refine k ln lr _ (s1.free hn) ?_ ⟨⟨dx,?_⟩,?_,us,?_,jm (λb o e nb=>k5 b o e nb _) U5 aeX⟩ ?_
  ·cases q:H lr with
   | none=>rfl
   | some o =>
    have:=k2 lr o (s1 _ _ q) (λe=>npr e.symm)
    rw[hr2] at this; cases this
  ·rw[ay,XC,ah]
   rfl
  ·exact k5 _ _ (k4 _ _ hn3 (bT npn)) (bT npn) _
  ·exact k5 _ _ (k4 _ _ hr3 (bT npr)) (bT npr) _
  ·exact λb o e nb=>k5 _ _ (k4 _ _ (k3 _ _ (k2 _ _ (s1 _ _ e) nb) nb) nb) nb _
inductive Ul(K:af)(C:Addr)(vs:List V)(H:Hp)(Q:VK)(E:XK):Prop
 | mk (p ln lr:Addr) (ns:List Int) (rs:List R5) (i:Nat) (n:Int):vs = [.ref p,.int i]->cY K C H p ln lr ns rs->ns[i]?=some n->Q (.int n) H->Ul K C vs H Q E
theorem K4{t:Ad}(T:Txt K mg t):cj P w K mg base ig 1 t.oF t.sR ["self","house"]  (Ul K t.bK):=by
 refine T.D9.F.jK Ks λH Q E hr h=>?_
 ·obtain⟨p,ln,lr,ns,rs,i,n,rfl,hT,hi,k⟩:=h
  obtain⟨⟨dx,hp⟩,hn,us,hr',R1⟩:=id hT
  refine⟨_,(oR (xL (be (pv 0) rfl) (pv 1))),?_⟩
  try dsimp only[bJ]
  refine⟨_,rfl,p,_,dx,_,_,rfl,hp,T.fc,T.rT,rfl,_,rfl,ln,_,_,_,rfl,rfl,bL.of hn,dM (v:=V.int n) (by rw[ak,hi]; rfl),k⟩
inductive Um(K:af)(C:Addr)(vs:List V)(H:Hp)(Q:VK)(E:XK):Prop
 | mk (p ln lr:Addr) (ns:List Int) (rs:List R5) (i:Nat) (r:R5):vs = [.ref p,.int i]->cY K C H p ln lr ns rs->rs[i]?=some r->(∀ q,H q=some (.tup r.vs)∨cN K H q r.vs->Q (.ref q) H)->Um K C vs H Q E
theorem CB{t:Ad}(T:Txt K mg t):cj P w K mg base ig 1 t.oG t.sU ["self","number"]  (Um K t.bK):=by
 refine T.yJ.F.jK Ku λH Q E hr h=>?_
 ·obtain⟨p,ln,lr,ns,rs,i,r,rfl,hT,hi,k⟩:=h
  obtain⟨⟨dx,hp⟩,hn,us,hr',R1⟩:=id hT
  obtain⟨v,hv,hD⟩:=R1.get (i:=i) (d:=r.D) (by rw[ak,hi]; rfl)
  obtain⟨q,e,hq⟩:=Rep.yf (ns:=r.ns) hD
  subst e
  refine⟨_,(oR (xL (be (pv 0) rfl) (pv 1))),?_⟩
  try dsimp only[bJ]
  exact⟨_,rfl,p,_,dx,_,_,rfl,hp,T.fc,T.gz,rfl,_,rfl,lr,_,_,_,rfl,rfl,bL.of hr',dM hv,k q (.inr hq)⟩
inductive XD(K:af)(C:Addr)(vs:List V)(H:Hp)(Q:VK)(E:XK):Prop
 | mk (p ln lr:Addr) (ns:List Int) (rs:List R5) (i:Nat) (r:R5) (h:Int):vs = [.ref p,.int i,.int h]->cY K C H p ln lr ns rs->rs[i]?=some r->Q (.int (if h=r.a then r.b else r.a)) H->XD K C vs H Q E
theorem pZ{t:Ad}(T:Txt K mg t):cj P w K mg base ig 1 t.ju t.mw ["self","rope","house"]  (XD K t.bK):=by
 refine T.mF.F.jK xw λH Q E hr h=>?_
 ·obtain⟨p,ln,lr,ns,rs,i,r,x,rfl,hT,hi,k⟩:=h
  obtain⟨⟨dx,hp⟩,hn,us,hr',R1⟩:=id hT
  obtain⟨v,hv,hD⟩:=R1.get (i:=i) (d:=r.D) (by rw[ak,hi]; rfl)
  obtain⟨q,e,hq⟩:=Rep.yf (ns:=r.ns) hD
  subst e
  refine⟨_,(ao (sS 3 xw (xL (be (pv 0) rfl) (pv 1))) (oR (x6 (qT lH (pv 2) (xT (pv 3) aA)) (xT (pv 3) aA) (xT (pv 3) aA)))),?_⟩
  try dsimp only[bJ]
  refine⟨_,rfl,p,_,dx,_,_,rfl,hp,T.fc,T.gz,rfl,_,rfl,lr,_,_,_,rfl,rfl,bL.of hr',dM hv,?_⟩
  refine⟨_,rfl,_,rfl,q,_,_,_,rfl,rfl,hq,rfl,rfl,_,rfl,?_⟩
  refine kH (λc=>?_) (λc=>?_)
  ·have c':x=r.a:=by simpa using c
   rw[if_pos c'] at k
   exact⟨_,rfl,q,_,_,_,rfl,rfl,hq,rfl,k⟩
  ·have c':¬ x=r.a:=by simpa using c
   rw[if_neg c'] at k
   exact⟨_,rfl,q,_,_,_,rfl,rfl,hq,rfl,k⟩
inductive abY(K:af)(C:Addr)(vs:List V)(H:Hp)(Q:VK)(E:XK):Prop
 | mk (p ln lr:Addr) (ns:List Int) (rs:List R5) (h:Int):vs = [.ref p,.int h]->cY K C H p ln lr ns rs->rs.length<=20->(∀ l H',aE H H'->H l=none->H' l=some (.lst (bO (RX rs h rs.length)))->Q (.ref l) H')->abY K C vs H Q E
theorem nL{t:Ad}(T:Txt K mg t):cj P w K mg base ig 1 t.iH t.kq ["self","house"]  (abY K t.bK):=by
 refine T.kE.F.jK uX λH Q E hr h=>?_
 ·obtain⟨p,ln,lr,ns,rs,x,rfl,hT,AI,k⟩:=h
  obtain⟨⟨dx,hp⟩,hn,us,hr',R1⟩:=id hT
  have XC:us.length=rs.length:=by rw[R1.length,ah]
  refine⟨_,(oR (gA (kO uX ["number","rope","house"] [none,none,some 1]) rfl (Vv rfl T.Mg (gC (be (pv 0) rfl))) (λ_ _ _ _=>by exact (Vy K rfl (n:=2) rfl (om (gS 0 qc) (om (gS 1 qc) E5)))) (λ_ _ _ _=>by exact (nN (fX (vL K rfl) (pv 2) (fK (mZ (yT K (pv 1) aA) (yT K (pv 1) aA))) (by with_unfolding_all rfl)))) (λ_ _ _ _=>by exact (pv 0)))),?_⟩
  try dsimp only[bJ]
  refine⟨_,rfl,p,_,dx,_,_,rfl,hp,T.fc,T.gz,rfl,lr,us,rfl,bL.of hr',λacc hacc=>?_⟩
  refine gB (n:=us.length) (λi ys _=>ys=bO (RX rs x i)) hacc (YZ (bL.of hr')) (S2 (bL.of hr')) rfl ?_ ?_
  ·rintro i ys H2 hi s2 hy hP y H3 ⟨q,v,hq,rfl,rfl,hv⟩
   have hvi:=hv us (s2.seq (bL.of hr'))
   have RA:rs[i]?=some rs[i]:=by simp
   obtain⟨v',hv',hD⟩:=R1.get (i:=i) (d:=(rs[i]).D) (by rw[ak,RA]; rfl)
   rw[hvi] at hv'
   cases hv'
   obtain⟨b,e,hb⟩:=Rep.yf (ns:=(rs[i]).ns) hD
   subst e
   have hb3:=(s2.out (o:=.tup [.int (i:Nat),.ref b]) (s2.free hq)).b5 hb
   have nq:acc≠q:=aR hy hq
   refine⟨q,_,rfl,cN.of ay,rfl,_,_,rfl,_,_,rfl,rfl,?_⟩
   refine⟨_,rfl,_,rfl,b,_,_,_,rfl,rfl,hb3,rfl,_,rfl,b,_,_,_,rfl,rfl,hb3,rfl,(by show 2<=sizeLine; decide),λc hc=>?_⟩
   refine⟨c,_,rfl,.inr (cN.of ay),rfl,rfl,_,rfl,?_⟩
   have eb:D4 (V.int x) [V.int rs[i].a,V.int rs[i].b]=isAt rs x i:=by
    unfold isAt
    rw[RA]
    exact Y9 _ _ _
   have s3:=s2.out (o:=.tup [.int (i:Nat),.ref b]) (s2.free hq)
   have s4:=s3.out (o:=.tup [V.int rs[i].a,V.int rs[i].b]) (s3.free hc)
   have Uo:(upd (upd H2 q (HO.tup [V.int (i:Nat),V.ref b])) c (HO.tup [V.int rs[i].a,V.int rs[i].b])) acc=some (.lst ys):=by
    have e1:(upd H2 q (HO.tup [V.int (i:Nat),V.ref b])) acc=some (.lst ys):=by rw[aI nq]; exact hy
    rw[aI (aR e1 hc)]; exact e1
   dsimp only
   rw[if_neg aD,eb]
   have hl:ys.length < sizeLine:=by rw[hP,ah]; exact cz (aO (VO rs x i) (by omega)) (b4 (az _))
   refine kH (λc'=>?_) (λc'=>?_)
   ·exact⟨_,rfl,eV hacc hi s4 Uo hl (by rw[hP,LR,if_pos c',ir])⟩
   ·exact iP hi s4 Uo (by rw[hP,LR,if_neg c',bQ])
  ·intro ys H2 s2 hy hP
   rw[XC] at hP
   exact k acc H2 s2 hacc (by rw[hy,hP])
inductive Mw(K:af)(C:Addr)(vs:List V)(H:Hp)(Q:VK)(E:XK):Prop
 | mk (p ln lr:Addr) (ns:List Int) (rs:List R5) (i:Nat) (n:Int):vs = [.ref p,.int i]->cY K C H p ln lr ns rs->ns[i]?=some n->(∀ q H',aE H H'->cN K H' q (cU ⟨n,0,0,-1⟩)->Q (.ref q) H')->Mw K C vs H Q E
theorem Hl{t:Ad}(T:Txt K mg t):cj P w K mg base ig 2 t.ve t.zR ["town","house"]  (Mw K t.bK):=by
 refine T.Dt.F.jK Oj λH Q E hr h=>?_
 ·obtain⟨p,ln,lr,ns,rs,i,n,rfl,hT,hi,k⟩:=h
  obtain⟨⟨dx,hp⟩,_,_,_⟩:=id hT
  refine⟨_,(oR (fK (Zi (cM (pv 0) T.fc T.D9 (K4 T) hr (gC (pv 1))) aA aA gF))),?_⟩
  try dsimp only[bJ]
  refine⟨_,rfl,p,dx,_,rfl,hp,rfl,_,rfl,p,ln,lr,ns,rs,i,n,rfl,hT,hi,(by show 4<=sizeLine; decide),λq hq=>?_⟩
  exact k q _ (aE.new hq) (cN.of ay)
inductive PY(K:af)(C:Addr)(vs:List V)(H:Hp)(Q:VK)(E:XK):Prop
 | mk (p ln lr:Addr) (ns:List Int) (rs:List R5) (i:Nat) (x:R5) (a:Addr) (r:RM.Row):vs = [.ref p,.ref a,.int i]->cY K C H p ln lr ns rs->rs[i]?=some x->cN K H a (cU r)->(¬ r.ho + 1 < ns.length->∀ H',aE H H'->Q .fh H')->(r.ho + 1 < ns.length->∀ q H',aE H H'->cN K H' q (cU ⟨r.hd,r.co + x.c,r.ho + 1,i⟩)->Q (.ref q) H')->PY K C vs H Q E
theorem Mx{t:Ad}(T:Txt K mg t):cj P w K mg base ig 2 t.BY t.Fg ["town","row","rope"]  (PY K t.bK):=by
 refine T.KC.F.jK L4 λH Q E hr h=>?_
 ·obtain⟨p,ln,lr,ns,rs,i,x,a,r,rfl,hT,hi,ha,k1,k2⟩:=h
  obtain⟨⟨dx,hp⟩,_,_,_⟩:=id hT
  refine⟨_,(ao (sS 3 L4 (bf eZ (xT (pv 1) aA) aA)) (ao (bX (qT Xc (pv 3) (be (pv 0) rfl)) (oR gF) aX) (oR (fK (Zi (xT (pv 1) aA) (bf eZ (xT (pv 1) aA) (xT (cM (pv 0) T.fc T.yJ (CB T) hr (gC (pv 2))) aA)) (pv 3) (pv 2)))))),?_⟩
  try dsimp only[bJ]
  refine⟨_,rfl,a,_,_,_,rfl,rfl,ha,rfl,_,_,rfl,rfl,?_⟩
  refine⟨_,rfl,_,rfl,p,_,dx,_,_,rfl,hp,T.fc,T.ly,rfl,_,_,rfl,rfl,_,rfl,?_⟩
  refine kH (λe=>?_) (λe=>?_)
  ·have e':(ns.length:Int)<=r.ho + 1:=of_decide_eq_true e
   exact k1 (by omega) _ (aE.refl _)
  ·have e':¬ (ns.length:Int)<=r.ho + 1:=of_decide_eq_false (eq_false_of_ne_true e)
   refine⟨_,rfl,a,_,_,_,rfl,rfl,ha,rfl,_,rfl,a,_,_,_,rfl,rfl,ha,rfl,_,rfl,p,dx,_,rfl,hp,rfl,_,rfl,p,ln,lr,ns,rs,i,x,rfl,hT,hi,λq hq=>?_⟩
   have hq':cN K H q x.vs:=hq.elim (λz=>cN.of z) id
   refine⟨q,_,_,_,rfl,rfl,hq',rfl,_,_,rfl,rfl,_,rfl,_,rfl,(by show 4<=sizeLine; decide),λu hu=>?_⟩
   refine k2 (by omega) u _ (aE.new hu) (cN.of ?_)
   rw[ay]
   show some (HO.tup [.int r.hd,.int (r.co + x.c),.int (r.ho + 1),.int (i:Int)])=some (HO.tup [.int r.hd,.int (r.co + x.c),.int (r.ho + 1),k7 (i:Int)])
   rw[bA (by omega)]
inductive XE(K:af)(C:Addr)(vs:List V)(H:Hp)(Q:VK)(E:XK):Prop
 | mk (p ln lr c b:Addr) (ns:List Int) (rs:List R5) (live:List Nat) (nd:ns.Nodup) (ok:∀ r∈rs,r.Ok ns.length) (hl:∀ k∈live,k < rs.length) (R:Nat->RM.Row) (h:Nat):vs = [.ref p,.ref c,.ref b,.int h]->cY K C H p ln lr ns rs->bL K H c (bO live)->vM K H b ns.length R->h < ns.length->rs.length<=20->RM.Sane (aU ns rs live nd ok hl) R->(∀ q d H',aE H H'->cN K H' q (cU d)->RM.Tc (N:=aU ns rs live nd ok hl) ns.length R h d->Q (.ref q) H')->XE K C vs H Q E
theorem Zu{t:Ad}(T:Txt K mg t):cj P w K mg base ig 3 t.Mb t.PD ["town","live","rows","house"]  (XE K t.bK):=by
 refine T.Xu.F.jK Gw λH Q E hr h=>?_
 ·obtain⟨p,ln,lr,c,b,ns,rs,live,nd,ok,sL,R,x,rfl,hT,hC,hR,hx,AI,Y8,k⟩:=h
  obtain⟨⟨dx,hp⟩,_,_,_⟩:=id hT
  obtain⟨ps,hP,ePs,Wb⟩:=hR
  have enm:(aU ns rs live nd ok sL).nm x=ns[x]:=by show ns.getD x 0=_; simp[av,hx]
  refine⟨_,(ao (sS 4 Gw (cG (Hl T) hr T.Dt (mZ (pv 0) (pv 3)))) (ao (fS (fE (cM (pv 0) T.fc T.kE (nL T) hr (gC (pv 3)))) (gT 5 Gw) (bw (bX (fX k6 (pv 5) (pv 1) (by with_unfolding_all rfl)) (ao (sS 6 Gw (cG (Mx T) hr T.KC (Kh (pv 0) (xL (pv 2) (cM (pv 0) T.fc T.mF (pZ T) hr (mZ (pv 5) (pv 3)))) (pv 5)))) (bw (bX (PW.pt (AN (qT E6 (pv 6) gF) (zJ (qT (Y6 (Nat.lt_of_succ_lt (uW hr))) (oq CZ (pv 6) vJ (nM aA)) (oq CZ (pv 4) vJ (nM aA)))))) (bw (sS 4 Gw (pv 6))) aX))) aX))) (oR (pv 4)))),?_⟩
  try dsimp only[bJ]
  refine⟨_,rfl,_,rfl,p,ln,lr,ns,rs,x,ns[x],rfl,hT,aa hx,λp0 H0 s0 hp0=>?_⟩
  have hown:cN K H0 p0 (cU (RM.own (aU ns rs live nd ok sL) x)):=by unfold RM.own; rw[enm]; exact hp0
  refine⟨_,rfl,p,dx,_,rfl,s0 _ _ hp,rfl,_,rfl,p,ln,lr,ns,rs,x,rfl,hT.mono s0,AI,λl H1 s1 Kc hl1=>?_⟩
  have s01:=s0.trans s1
  refine⟨l,rfl,⟨_,bL.of hl1⟩,?_⟩
  generalize eal:RX rs (x:Int) rs.length=al at hl1
  refine qN (K:=K) (a:=l) (xs:=bO al) (λj σ H2=>aE H1 H2/\∃ (q:Addr) (d:RM.Row) (v5 v6:Option V),σ = [some (.ref p),some (.ref c),some (.ref b),some (.int x),some (.ref q),v5,v6]/\cN K H2 q (cU d) /\
   (d=RM.own (aU ns rs live nd ok sL) x∨∃ kk g,kk∈al.take j/\RM.Fc (aU ns rs live nd ok sL) kk x g/\(R g).ho + 1 < ns.length/\d=RM.over (aU ns rs live nd ok sL) kk (R g))/\RM.le d (RM.own (aU ns rs live nd ok sL) x) /\
   ∀ kk g,kk∈al.take j->RM.Fc (aU ns rs live nd ok sL) kk x g->(R g).ho + 1 < ns.length->RM.le d (RM.over (aU ns rs live nd ok sL) kk (R g)))
   ⟨aE.refl _,p0,RM.own (aU ns rs live nd ok sL) x,_,_,rfl,s1.b5 hown,.inl rfl,RM.le_refl _,λkk g he=>by simp at he⟩ (λj σ H2 _ z=>bL.of (z.1 _ _ hl1)) ?_ ?_
  ·rintro j y σ H2 hj ⟨s2,q,d,v5,v6,rfl,hq,d1,d2,d3⟩
   have hjl:j < al.length:=by
    have:=(ai.mp hj).1
    rw[ah] at this
    exact this
   rw[ak,aa hjl] at hj
   cases hj
   have et:al.take (j + 1)=al.take j++[al[j]]:=by rw[List.take_add_one,aa hjl]; rfl
   have hka:al[j]∈al:=aK hjl
   have XF:∀ k'∈al.take j,k' < al[j]:=λk' hk'=>VP (eal ▸ Tf rs (x:Int) rs.length) hjl hk'
   have wid:(d=RM.own (aU ns rs live nd ok sL) x∨∃ kk g,kk∈al.take j++[al[j]]/\RM.Fc (aU ns rs live nd ok sL) kk x g/\(R g).ho + 1 < ns.length/\d=RM.over (aU ns rs live nd ok sL) kk (R g)):=d1.imp id λ⟨a1,a2,a3,a4⟩=>⟨a1,a2,bV _ a3,a4⟩
   rw[et]
   show gX 5 (V.int ((al[j]:Nat):Int)) _ _ _
   generalize al[j]=kk at hka XF wid
   rw[<- eal,zM] at hka
   obtain⟨Nh,hat⟩:=hka
   have s02:=s01.trans s2
   refine⟨_,rfl,_,rfl,c,_,rfl,.inl (s02.seq hC),rfl,eF live,_,rfl,?_⟩
   dsimp only
   rw[if_neg aD,gm]
   refine kH (λhc=>?_) (λhc=>?_)
   case refine_2 =>
    have hc:kk ∉ live:=λz=>hc (decide_eq_true z)
    refine⟨s2,q,d,_,_,rfl,hq,wid,d2,λk' g hk' zK Ho=>?_⟩
    rcases aY.mp hk' with z | z
    ·exact d3 k' g z zK Ho
    ·rw[aP.mp z] at zK
     exact absurd zK.1 hc
   have hc:kk∈live:=of_decide_eq_true hc
   have hrk:rs[kk]?=some rs[kk]:=aa Nh
   have zK:RM.Fc (aU ns rs live nd ok sL) kk x (fz rs[kk] x):=(sM hc).mpr ⟨hat,rfl⟩
   have hgn:fz rs[kk] x < ns.length:=zK.lt.2.1
   have hgs:=Y8 _ hgn
   have Up:(if (x:Int)=rs[kk].a then rs[kk].b else rs[kk].a)=((fz rs[kk] x:Nat):Int):=by
    have o:=ok _ (aK Nh)
    have h1:=o.a0; have h2:=o.b0
    unfold fz
    split <;> omega
   have Uq:(aU ns rs live nd ok sL).c kk=rs[kk].c:=by show ((rs[kk]?).map λr=>r.c).getD 0=_; rw[hrk]; rfl
   have fu:∀ g,RM.Fc (aU ns rs live nd ok sL) kk x g->g=fz rs[kk] x:=λg a=>((sM hc).mp a).2
   generalize fz rs[kk] x=g at zK hgn hgs Up fu
   have hpg:ps[g]?=some ps[g]:=aa (by omega)
   have Zv:ED (ps.map V.ref) (if (x:Int)=rs[kk].a then rs[kk].b else rs[kk].a)=some (.ref ps[g]):=by rw[Up]; exact dM (by rw[ak,hpg]; rfl)
   have hrg:=s02.b5 (Wb g _ hpg)
   refine⟨_,rfl,_,rfl,_,rfl,p,dx,_,rfl,s02 _ _ hp,rfl,_,rfl,_,rfl,p,ln,lr,ns,rs,kk,rs[kk],x,rfl,hT.mono s02,hrk,b,_,_,_,rfl,rfl,s02.seq hP,Zv,_,rfl,?_⟩
   refine⟨p,ln,lr,ns,rs,kk,rs[kk],ps[g],R g,rfl,hT.mono s02,hrk,hrg,λHo H3 s3=>?_,λHo u H3 s3 hu=>?_⟩
   ·refine⟨_,rfl,rfl,_,rfl,cP (cP ?_)⟩
    refine⟨s2.trans s3,q,d,_,_,rfl,s3.b5 hq,wid,d2,λk' g' hk' a' Hq=>?_⟩
    rcases aY.mp hk' with z | z
    ·exact d3 k' g' z a' Hq
    ·rw[aP.mp z] at a'
     rw[fu g' a'] at Hq
     exact absurd Hq Ho
   have eov:(⟨(R g).hd,(R g).co + rs[kk].c,(R g).ho + 1,kk⟩ : RM.Row)=RM.over (aU ns rs live nd ok sL) kk (R g):=by unfold RM.over; rw[Uq]
   rw[eov] at hu
   have hq3:=s3.b5 hq
   have Zw:=s2.trans s3
   refine⟨_,rfl,rfl,_,rfl,fL ?_⟩
   have lex:FY [V.int (RM.over (aU ns rs live nd ok sL) kk (R g)).hd,V.int (RM.over (aU ns rs live nd ok sL) kk (R g)).co,V.int (RM.over (aU ns rs live nd ok sL) kk (R g)).ho] [V.int d.hd,V.int d.co,V.int d.ho] (decide (RM.lt (RM.over (aU ns rs live nd ok sL) kk (R g)) d)):=RM.VH (by
    rcases d1 with z | ⟨k',g',hk',_,_,z⟩
    ·rw[z]
     intro _ _ e3
     have:(R g).ho + 1=0:=e3
     omega
    ·have hlt':=XF k' hk'
     rw[z]
     intro e1 e2 e3 e4
     rcases e4 with e4 | ⟨_,e4 | ⟨_,e4 | ⟨_,e4⟩⟩⟩
     ·omega
     ·omega
     ·omega
     ·have:((kk:Nat):Int) < ((k':Nat):Int):=e4
      omega)
   have nw:∀ r:RM.Row,¬ (HT.jH (cU r).length 0 none=0/\HT.jH (cU r).length (cU r).length (some 3)=(cU r).length):=λr z=>absurd z.2 (by show HT.jH 4 4 (some 3)≠4; decide)
   have ct:∀ r:RM.Row,x9 (cU r) none (some 3) = [V.int r.hd,V.int r.co,V.int r.ho]:=λr=>rfl
   refine⟨_,rfl,_,rfl,u,_,rfl,hu,nw _,λz1 hz1=>?_⟩
   rw[ct]
   have t1:=aE.new (o:=.tup [V.int (RM.over (aU ns rs live nd ok sL) kk (R g)).hd,V.int (RM.over (aU ns rs live nd ok sL) kk (R g)).co,V.int (RM.over (aU ns rs live nd ok sL) kk (R g)).ho]) hz1
   refine⟨_,rfl,_,rfl,q,_,rfl,t1.b5 hq3,nw _,λz2 hz2=>?_⟩
   rw[ct]
   have t2:=aE.new (o:=.tup [V.int d.hd,V.int d.co,V.int d.ho]) hz2
   have Zw:=Zw.trans (t1.trans t2)
   have hu:=(t1.trans t2).b5 hu
   have hq3:=(t1.trans t2).b5 hq3
   refine⟨z1,z2,_,_,_,rfl,rfl,cN.of (t2 _ _ ay),cN.of ay,rfl,lex,_,rfl,?_⟩
   by_cases hlt:RM.lt (RM.over (aU ns rs live nd ok sL) kk (R g)) d
   ·rw[decide_eq_true hlt]
    refine fL ?_
    refine⟨_,rfl,Zw,u,_,_,_,rfl,hu,.inr ⟨kk,g,bN _ (aP.mpr rfl),zK,Ho,rfl⟩,RM.le_trans (RM.Xk hlt) d2,λk' g' hk' a' Hq=>?_⟩
    rcases aY.mp hk' with z | z
    ·exact RM.le_trans (RM.Xk hlt) (d3 k' g' z a' Hq)
    ·rw[aP.mp z] at a' ⊢
     rw[fu g' a']
     exact RM.le_refl _
   ·rw[decide_eq_false hlt]
    refine cP ⟨Zw,q,d,_,_,rfl,hq3,wid,d2,λk' g' hk' a' Hq=>?_⟩
    rcases aY.mp hk' with z | z
    ·exact d3 k' g' z a' Hq
    ·rw[aP.mp z] at a' ⊢
     rw[fu g' a']
     exact hlt
  ·rintro σ H2 ⟨s2,q,d,v5,v6,rfl,hq,d1,d2,d3⟩
   rw[ah,List.take_of_length_le (az _)] at d3
   refine⟨_,rfl,k q d H2 (s01.trans s2) hq ⟨d1.imp id λ⟨a1,a2,_,a4⟩=>⟨a1,a2,a4⟩,d2,λkk g zK Ho=>d3 kk g ?_ zK Ho⟩⟩
   rw[<- eal,zM]
   exact⟨sL kk zK.1,((sM zK.1).mp zK).1⟩
inductive Ur(K:af)(C:Addr)(vs:List V)(H:Hp)(Q:VK)(E:XK):Prop
 | mk (p ln lr c b:Addr) (ns:List Int) (rs:List R5) (live:List Nat) (nd:ns.Nodup) (ok:∀ r∈rs,r.Ok ns.length) (hl:∀ k∈live,k < rs.length) (R:Nat->RM.Row) (h:Nat):vs = [.ref p,.ref c,.ref b,.int h]->cY K C H p ln lr ns rs->bL K H c (bO live)->vM K H b ns.length R->h < ns.length->rs.length<=20->vN ns.length rs.length R->(∀ v H',aE H H'->tU K H' v (yj (aU ns rs live nd ok hl) R h)->Q v H')->Ur K C vs H Q E
theorem Us{t:Ad}(T:Txt K mg t):cj P w K mg base ig 3 t.BZ t.Fj ["town","live","rows","house"]  (Ur K t.bK):=by
 refine T.PJ.F.jK Gx λH Q E hr h=>?_
 ·obtain⟨p,ln,lr,c,b,ns,rs,live,nd,ok,sL,R,i,rfl,hT,hC,Zx,hin,AI,fit,k⟩:=h
  obtain⟨⟨dx,hp⟩,_,_,_⟩:=id hT
  obtain⟨ps,hP,ePs,Wb⟩:=id Zx
  have hpi:ps[i]?=some ps[i]:=aa (by omega)
  have Zy:ED (ps.map V.ref) (i:Int)=some (.ref ps[i]):=dM (by rw[ak,hpi]; rfl)
  have hri:=Wb i _ hpi
  have fi:=fit i hin
  refine⟨_,(ao (sS 4 Gx (xT (xL (pv 2) (pv 3)) aA)) (ao (bX (PW.pt (uT (fX gH (pv 4) (pv 1) (by with_unfolding_all rfl)) (vH (fX gH (pv 4) (cM (pv 0) T.fc T.kE (nL T) hr (gC (pv 3))) (by with_unfolding_all rfl))))) (oR gF) aX) (ao (sS 5 Gx (cM (pv 0) T.fc T.mF (pZ T) hr (mZ (pv 4) (pv 3)))) (ao (bX (qT NQ (cG (Mx T) hr T.KC (Kh (pv 0) (xL (pv 2) (pv 5)) (pv 4))) (xL (pv 2) (pv 3))) (oR gF) aX) (oR (fK (mZ (pv 4) (pv 5)))))))),?_⟩
  try dsimp only[bJ]
  refine⟨_,rfl,_,rfl,iu hP Zy (c8 hri rfl ?_)⟩
  have none_:∀ {H3:Hp},aE H H3->(∀ k g,¬ RM.m7 (aU ns rs live nd ok sL) R k i g)->Q .fh H3:=λs3 no=>k .fh _ s3 (by rw[LU no]; rfl)
  show gX 4 (k7 (R i).by_) _ _ _
  rcases fi.by_ with eby | ⟨b0,b1⟩
  ·rw[show k7 (R i).by_=V.fh by rw[eby]; rfl]
   refine⟨_,rfl,_,rfl,c,_,rfl,.inl hC,rfl,eF live,_,rfl,?_⟩
   dsimp only
   rw[if_pos rfl,VR]
   refine fL (fL (none_ (aE.refl _) λk' g t=>?_))
   have:=t.by
   omega
  obtain⟨kk,ekk⟩ : ∃ kk:Nat,(R i).by_=(kk:Int):=⟨(R i).by_.toNat,by omega⟩
  have Nh:kk < rs.length:=by omega
  rw[show k7 (R i).by_=V.int (kk:Nat) by rw[ekk,bA (by omega)]]
  have byk:∀ k' g,RM.m7 (aU ns rs live nd ok sL) R k' i g->k'=kk:=λk' g t=>by have:=t.by; omega
  refine⟨_,rfl,_,rfl,c,_,rfl,.inl hC,rfl,eF live,_,rfl,?_⟩
  dsimp only
  rw[if_pos rfl,gm]
  by_cases hc:kk∈live
  case neg =>
   rw[decide_eq_false hc]
   refine fL (fL (none_ (aE.refl _) λk' g t=>?_))
   have:=byk k' g t
   subst this
   exact hc t.zK.1
  rw[decide_eq_true hc]
  refine cP ?_
  refine⟨_,rfl,_,rfl,p,dx,_,rfl,hp,rfl,_,rfl,p,ln,lr,ns,rs,i,rfl,hT,AI,λl H1 s1 Kc hl1=>?_⟩
  refine⟨l,_,rfl,.inl (bL.of hl1),rfl,eF _,_,rfl,?_⟩
  dsimp only
  rw[if_pos rfl,gm]
  by_cases hat:kk∈RX rs (i:Int) rs.length
  case neg =>
   rw[decide_eq_false hat]
   refine fL (none_ s1 λk' g t=>?_)
   have:=byk k' g t
   subst this
   exact hat (zM.mpr ⟨Nh,((sM hc).mp t.zK).1⟩)
  rw[decide_eq_true hat]
  refine cP ?_
  have hat:=(zM.mp hat).2
  have hrk:rs[kk]?=some rs[kk]:=aa Nh
  have Up:=Pp (h:=i) Nh ok
  have hgn:fz rs[kk] i < ns.length:=NY Nh ok
  have ab0:=Th (ns:=ns) (rs:=rs) (live:=live) (nd:=nd) (ok:=ok) (hl:=sL) (R:=R) (h:=i) hc
  have Uq:=abE (ns:=ns) (live:=live) (nd:=nd) (ok:=ok) (hl:=sL) Nh
  have hg':∀ g,RM.m7 (aU ns rs live nd ok sL) R kk i g->g=fz rs[kk] i:=λg t=>Zb t
  refine⟨_,rfl,p,dx,_,rfl,s1 _ _ hp,rfl,_,rfl,_,rfl,p,ln,lr,ns,rs,kk,rs[kk],i,rfl,hT.mono s1,hrk,?_⟩
  show gX 5 (V.int (if (i:Int)=rs[kk].a then rs[kk].b else rs[kk].a)) _ _ _
  rw[Up]
  generalize fz rs[kk] i=g at Up hgn ab0 hg'
  have hpg:ps[g]?=some ps[g]:=aa (by omega)
  have Zv:ED (ps.map V.ref) (g:Int)=some (.ref ps[g]):=dM (by rw[ak,hpg]; rfl)
  refine⟨_,rfl,_,rfl,_,rfl,iu (s1.seq hP) Zv ⟨_,rfl,p,ln,lr,ns,rs,kk,rs[kk],ps[g],R g,rfl,hT.mono s1,hrk,s1.b5 (Wb g _ hpg),λHo H2 s2=>?_,λHo u H2 s2 hu=>?_⟩⟩
  ·have s12:=s1.trans s2
   refine⟨_,rfl,_,rfl,iu (s12.seq hP) Zy ⟨.none,RM.C2 (R i),rfl,RM.yh (s12.b5 hri),rfl,RM.yi _,cz (gV (aO (Nat.min_le_left _ _) (by decide)) _) hr.units,_,rfl,?_⟩⟩
   refine fL (none_ s12 λk' g' t=>?_)
   have e1:=byk k' g' t
   subst e1
   have e2:=hg' g' t
   subst e2
   exact Ho t.cut
  ·have s12:=s1.trans s2
   have eov:(⟨(R g).hd,(R g).co + rs[kk].c,(R g).ho + 1,kk⟩ : RM.Row)=RM.over (aU ns rs live nd ok sL) kk (R g):=by unfold RM.over; rw[Uq]
   rw[eov] at hu
   refine⟨_,rfl,_,rfl,iu (s12.seq hP) Zy ⟨RM.C2 (RM.over (aU ns rs live nd ok sL) kk (R g)),RM.C2 (R i),RM.yh hu,RM.yh (s12.b5 hri),RM.yi _,RM.yi _,cz (gV (aO (Nat.min_le_left _ _) (by rw[RM.Jc]; decide)) _) hr.units,_,rfl,?_⟩⟩
   rw[RM.LQ (show (-1:Int)<=(kk:Nat) by omega) fi.by1]
   by_cases e:RM.over (aU ns rs live nd ok sL) kk (R g)=R i
   case neg =>
    rw[decide_eq_false e]
    refine fL (none_ s12 λk' g' t=>?_)
    have e1:=byk k' g' t
    subst e1
    have e2:=hg' g' t
    subst e2
    exact e t.eq.symm
   rw[decide_eq_true e]
   refine cP ?_
   have hh:RM.m7 (aU ns rs live nd ok sL) R kk i g:=by
    obtain⟨g2,t⟩:=ab0.mpr ⟨hat,Ho,e.symm⟩
    have:=hg' g2 t
    subst this
    exact t
   refine⟨_,rfl,_,rfl,(by show 2<=sizeLine; decide),λo2 ho2=>?_⟩
   exact k (.ref o2) _ (s12.trans (aE.new ho2)) (by rw[sN.mpr hh]; exact⟨o2,rfl,cN.of ay⟩)
inductive XG(K:af)(C:Addr)(vs:List V)(H:Hp)(Q:VK)(E:XK):Prop
 | mk (p ln lr c b:Addr) (ns:List Int) (rs:List R5) (live:List Nat) (nd:ns.Nodup) (ok:∀ r∈rs,r.Ok ns.length) (hl:∀ k∈live,k < rs.length) (R:Nat->RM.Row):vs = [.ref p,.ref c,.ref b]->cY K C H p ln lr ns rs->bL K H c (bO live)->vM K H b ns.length R->ns.length<=12->rs.length<=20->vN ns.length rs.length R->(∀ l H',aE H H'->H l=none->Za K H' l ns.length (yj (aU ns rs live nd ok hl) R)->Q (.ref l) H')->XG K C vs H Q E
theorem Zz{t:Ad}(T:Txt K mg t):cj P w K mg base ig 4 t.Mc t.PF ["town","live","rows"]  (XG K t.bK):=by
 refine T.Xv.F.jK TY λH Q E hr h=>?_
 ·obtain⟨p,ln,lr,c,b,ns,rs,live,nd,ok,sL,R,rfl,hT,hC,Zx,Wc,AI,fit,k⟩:=h
  obtain⟨⟨dx,hp⟩,_,_,_⟩:=id hT
  refine⟨_,(oR (gA (kO TY ["house","live","rows","town"] [none,some 1,some 2,some 0]) rfl (eu rfl T.gK (gC (be (pv 0) rfl))) (λ_ _ _ _=>by exact (gS 0 Rl)) (λ_ _ _ _=>by exact lJ) (λ_ _ _ _=>by exact (cG (Us T) hr T.PJ (Zi (pv 3) (pv 1) (pv 2) (pv 0)))))),?_⟩
  try dsimp only[bJ]
  refine⟨_,rfl,p,_,dx,_,_,rfl,hp,T.fc,T.ly,rfl,(ns.length:Int),rfl,by omega,by omega,λacc hacc=>?_⟩
  refine gB (n:=((ns.length:Int)).toNat) (λi ys H2=>ys.length=i/\∀ (j:Nat) v,ys[j]?=some v->tU K H2 v (yj (aU ns rs live nd ok sL) R j)) hacc AU qQ ⟨rfl,λj v e=>by simp at e⟩ ?_ ?_
  ·rintro i ys H2 hi s2 hy ⟨e1,hit⟩ x H3 ⟨rfl,rfl⟩
   refine⟨_,rfl,_,rfl,_,rfl,_,rfl,p,ln,lr,c,b,ns,rs,live,nd,ok,sL,R,i,by rw[eU]; rfl,hT.mono s2,s2.seq hC,Zx.mono s2,by omega,AI,fit,λv H4 s4 hv=>?_⟩
   refine eV hacc hi (s2.trans s4) (s4 _ _ hy) (by rw[e1]; exact b4 (by omega)) ⟨by rw[aB,e1]; rfl,λj w e=>?_⟩
   refine tU.lst (s4 _ _ hy) ?_
   rcases Fd e with z | ⟨z1,z2⟩
   ·exact (hit j w z).mono s4
   ·rw[z1,z2,e1]; exact hv
  rintro ys H2 s2 hy ⟨e1,hit⟩
  exact k acc H2 s2 hacc ⟨ys,hy,by omega,hit⟩
inductive PZ(K:af)(C:Addr)(vs:List V)(H:Hp)(Q:VK)(E:XK):Prop
 | mk (p ln lr c b:Addr) (ns:List Int) (rs:List R5) (live:List Nat) (nd:ns.Nodup) (ok:∀ r∈rs,r.Ok ns.length) (hl:∀ k∈live,k < rs.length) (R:Nat->RM.Row):vs = [.ref p,.ref c,.ref b]->cY K C H p ln lr ns rs->bL K H c (bO live)->vM K H b ns.length R->ns.length<=12->rs.length<=20->vN ns.length rs.length R->(∀ l os H',aE H H'->H l=none->H' l=some (.lst (bO os))->ie (aU ns rs live nd ok hl) R os->os.length<=12->Q (.ref l) H')->PZ K C vs H Q E
theorem My{t:Ad}(T:Txt K mg t):cj P w K mg base ig 5 t.vZ t.Fi ["town","live","rows"]  (PZ K t.bK):=by
 refine T.Ce.F.jK L5 λH Q E hr h=>?_
 ·obtain⟨p,ln,lr,c,b,ns,rs,live,nd,ok,sL,R,rfl,hT,hC,Zx,Wc,AI,fit,k⟩:=h
  refine⟨_,(oR (cB yk T.yO boot_sorted (gC (gA (kO L5 ["up"] [none]) rfl (fE (cG (Zz T) hr T.Xv (Kh (pv 0) (pv 1) (pv 2)))) (λ_ _ _ _=>by exact (gS 0 L6)) (λ_ _ _ _=>by exact (nN (qT E6 (pv 0) gF))) (λ_ _ _ _=>by exact (yT K (pv 0) aA)))))),?_⟩
  try dsimp only[bJ]
  refine⟨_,rfl,_,rfl,_,rfl,p,ln,lr,c,b,ns,rs,live,nd,ok,sL,R,rfl,hT,hC,Zx,Wc,AI,fit,λlu H2 s2 aje hO=>?_⟩
  obtain⟨vs,hvs,evs,ivs⟩:=hO
  refine⟨lu,rfl,⟨_,bL.of hvs⟩,λacc hacc=>?_⟩
  refine gB (n:=vs.length) (λi ys _=>∃ ks:List Nat,ys=bO ks/\ks.length<=i/\ks.Nodup/\∀ k,k∈ks↔∃ h g,h < i/\RM.m7 (aU ns rs live nd ok sL) R k h g) hacc (yg (bL.of hvs)) (oz (bL.of hvs)) ⟨[],rfl,aV _,ki,λk=>⟨λz=>absurd z (by simp),λ⟨_,_,z,_⟩=>absurd z (Nat.not_lt_zero _)⟩⟩ ?_ ?_
  ·rintro i ys H3 hi s3 hy ⟨ks,rfl,e1,e2,e3⟩ y H4 ⟨rfl,hv⟩
   have hvi:=hv _ (s3.seq (bL.of hvs))
   rw[aa hi] at hvi
   cases hvi
   have it:=(ivs i _ (aa hi)).mono s3
   generalize vs[i]=v at it
   cases hh:yj (aU ns rs live nd ok sL) R i with
   | none =>
    rw[hh] at it
    have it:v = .fh:=it
    subst it
    refine⟨_,rfl,rfl,_,rfl,cP ?_⟩
    refine iP hi s3 hy ⟨ks,rfl,by omega,e2,λk=>(e3 k).trans ⟨λ⟨h,g,z,t⟩=>⟨h,g,by omega,t⟩,λ⟨h,g,z,t⟩=>⟨h,g,?_,t⟩⟩⟩
    by_cases e:h=i
    ·subst e
     rw[sN.mpr t] at hh
     cases hh
    ·omega
   | some q =>
    rw[hh] at it
    obtain⟨t1,rfl,ht⟩:=it
    have ZA:=(sN (k:=q.1) (g:=q.2)).mp hh
    refine⟨_,rfl,rfl,_,rfl,fL ?_⟩
    refine⟨_,rfl,t1,_,0,_,rfl,rfl,ht,rfl,?_⟩
    refine eV hacc hi s3 hy (by rw[ah]; exact b4 (by omega)) ⟨ks++[q.1],by rw[ir],by rw[aB]; exact m5 e1 1,Gr.AV e2 λz=>?_,λk=>?_⟩
    ·obtain⟨h,g,z1,t⟩:=(e3 _).mp z
     have:=(t.one ZA).1
     omega
    ·rw[aY,aP,e3]
     constructor
     ·rintro (⟨h,g,z,t⟩ | rfl)
      ·exact⟨h,g,by omega,t⟩
      ·exact⟨i,q.2,by omega,ZA⟩
     ·rintro⟨h,g,z,t⟩
      by_cases e:h=i
      ·subst e
       exact .inr (t.uniq ZA).1
      ·exact .inl ⟨h,g,by omega,t⟩
  rintro ys H3 s3 hy ⟨ks,rfl,e1,e2,e3⟩
  refine⟨acc,ks.map λk:Nat=>(k:Int),rfl,bL.of (by rw[hy,jn]),by rw[ah]; omega,λl ms hl perm pw=>?_⟩
  obtain⟨os,eos,o1,o2,o3⟩:=LV perm pw e2
  rw[eos]
  have Zw:=s2.trans s3
  refine k l os _ (Zw.trans (aE.new hl)) (Zw.free hl) ay ⟨o1,λk=>?_⟩ (by omega)
  rw[o2,e3]
  constructor
  ·rintro⟨h,g,_,t⟩; exact⟨h,g,t⟩
  ·rintro⟨h,g,t⟩
   have:h < ns.length:=(m7.lt t).1
   exact⟨h,g,by omega,t⟩
theorem Jz{p:Nat->Bool}{xs:List Nat}{i:Nat}(hi:i < xs.length):(xs.take (i + 1)).filter p=(xs.take i).filter p++if p xs[i] then [xs[i]] else []:=by
 rw[dj hi,kZ]
 congr 1
 cases e:p xs[i]
 ·rw[if_neg (by decide),cE (by rw[e]; decide)]; rfl
 ·rw[if_pos rfl,cD e]; rfl
inductive Mz(K:af)(C:Addr)(vs:List V)(H:Hp)(Q:VK)(E:XK):Prop
 | mk (p ln lr c b:Addr) (ns:List Int) (rs:List R5) (live:List Nat) (nd:ns.Nodup) (ok:∀ r∈rs,r.Ok ns.length) (hl:∀ k∈live,k < rs.length) (R:Nat->RM.Row) (h:Int):vs = [.ref p,.ref c,.ref b,.int h]->cY K C H p ln lr ns rs->bL K H c (bO live)->vM K H b ns.length R->ns.length<=12->rs.length<=20->vN ns.length rs.length R->(∀ l os H',aE H H'->H l=none->H' l=some (.lst (bO (os.filter (isAt rs h))))->ie (aU ns rs live nd ok hl) R os->os.length<=12->Q (.ref l) H')->Mz K C vs H Q E
theorem OF{t:Ad}(T:Txt K mg t):cj P w K mg base ig 6 t.vf t.zS ["town","live","rows","house"]  (Mz K t.bK):=by
 refine T.Jm.F.jK A7 λH Q E hr h=>?_
 ·obtain⟨p,ln,lr,c,b,ns,rs,live,nd,ok,sL,R,x,rfl,hT,hC,Zx,Wc,AI,fit,k⟩:=h
  refine⟨_,(ao (sS 4 A7 (cM (pv 0) T.fc T.kE (nL T) hr (gC (pv 3)))) (oR (gA (kO A7 ["rope","joined"] [none,some 4]) rfl (fE (BJ (My T) (hr.mono (by decide)) rfl T.yN T.Ce.F.kp T.Ce.B .nil jR (Kh (pv 0) (pv 1) (pv 2)))) (λ_ _ _ _=>by exact (gS 0 Ib)) (λ_ _ _ _=>by exact (nN (fX (vL K rfl) (pv 0) (pv 1) (by with_unfolding_all rfl)))) (λ_ _ _ _=>by exact (pv 0))))),?_⟩
  try dsimp only[bJ]
  obtain⟨⟨dx,hp⟩,_⟩:=id hT
  refine⟨_,rfl,p,dx,_,rfl,hp,rfl,_,rfl,p,ln,lr,ns,rs,x,rfl,hT,AI,λlj H1 s1 ajh hlj=>?_⟩
  refine⟨_,rfl,_,rfl,_,rfl,p,ln,lr,c,b,ns,rs,live,nd,ok,sL,R,rfl,hT.mono s1,s1.seq hC,Zx.mono s1,Wc,AI,fit,λlo os H2 s2 ZC hlo hOs h12=>?_⟩
  have ae0:=s2 _ _ hlj
  have mem:∀ k∈os,decide (k∈RX rs x rs.length)=isAt rs x k:=λk hk=>by
   obtain⟨h,g,t⟩:=(hOs.2 k).mp hk
   have hk':k < rs.length:=sL k t.zK.1
   by_cases z:isAt rs x k=true
   ·rw[z]; exact decide_eq_true (zM.mpr ⟨hk',z⟩)
   ·rw[Bool.not_eq_true] at z
    rw[z]
    refine decide_eq_false λy=>?_
    rw[(zM.mp y).2] at z
    cases z
  refine⟨lo,rfl,⟨_,bL.of hlo⟩,λacc hacc=>?_⟩
  refine gB (n:=(bO os).length) (λi ys _=>ys=bO ((os.take i).filter (isAt rs x))) hacc (yg (bL.of hlo)) (oz (bL.of hlo)) rfl ?_ ?_
  ·rintro i ys H3 hi s3 hy rfl y H4 ⟨rfl,hv⟩
   have hv:=hv _ (s3.seq (bL.of hlo))
   have hi':i < os.length:=by rw[ah] at hi; exact hi
   rw[ak,aa hi'] at hv
   cases hv
   refine⟨_,rfl,_,rfl,lj,_,rfl,.inl (bL.of (s3 _ _ ae0)),rfl,eF _,_,rfl,?_⟩
   dsimp only
   rw[if_neg aD,gm,mem _ (aK hi')]
   refine kH (λhc=>?_) (λhc=>?_)
   ·refine⟨_,rfl,?_⟩
    refine eV hacc hi s3 hy ?_ ?_
    ·rw[ah]
     refine b4 (aO (bW _ _) ?_)
     rw[bZ]; omega
    ·rw[Jz hi',if_pos hc,ir]
   ·refine iP hi s3 hy ?_
    rw[Jz hi',if_neg hc,bQ]
  ·rintro ys H3 s3 hy rfl
   rw[ah,jP] at hy
   have s13:=(s1.trans s2).trans s3
   exact k acc os _ s13 ((s1.trans s2).free hacc) hy hOs h12
inductive Ut(K:af)(C:Addr)(vs:List V)(H:Hp)(Q:VK)(E:XK):Prop
 | mk (p ln lr:Addr) (ns:List Int) (rs:List R5) (i:Nat) (r:R5) (g:Nat) (z:Int):vs = [.ref p,.int i,.int g]->cY K C H p ln lr ns rs->rs[i]?=some r->([1,2,4]:List Int)[g]?=some z->Q (.bl (!decide (Builtin.bitAnd r.e z=0))) H->Ut K C vs H Q E
theorem K5{t:Ad}(T:Txt K mg t):cj P w K mg base ig 1 t.oH t.sV ["self","rope","group"]  (Ut K t.bK):=by
 refine T.Ea.F.jK Kv λH Q E hr h=>?_
 ·obtain⟨p,ln,lr,ns,rs,i,r,g,z,rfl,hT,hi,hz,k⟩:=h
  obtain⟨⟨dx,hp⟩,hn,us,hr',R1⟩:=id hT
  obtain⟨v,hv,hD⟩:=R1.get (i:=i) (d:=r.D) (by rw[ak,hi]; rfl)
  obtain⟨q,e,hq⟩:=Rep.yf (ns:=r.ns) hD
  subst e
  refine⟨_,(oR (qE qO (bf YH (xT (xL (be (pv 0) rfl) (pv 1)) aA) (xT (lG rfl T.mO (v:=.ref t.d9) rfl) (pv 2))) aA)),?_⟩
  try dsimp only[bJ]
  refine⟨_,rfl,p,_,dx,_,_,rfl,hp,T.fc,T.gz,rfl,_,rfl,lr,_,_,_,rfl,rfl,bL.of hr',dM hv,?_⟩
  refine⟨q,_,_,_,rfl,rfl,hq,rfl,?_⟩
  have hb:([.int 1,.int 2,.int 4]:List V)[g]?=some (.int z):=by
   have e:([.int 1,.int 2,.int 4]:List V)=([1,2,4]:List Int).map V.int:=rfl
   rw[e,ak,hz]; rfl
  refine⟨_,rfl,_,_,_,_,rfl,rfl,T.f6 H,dM hb,_,_,rfl,rfl,rfl,?_⟩
  have e:decide (V.int (Builtin.bitAnd r.e z)=V.int 0)=decide (Builtin.bitAnd r.e z=0):=by simp
  rw[e]
  exact k
inductive JA(K:af)(C:Addr)(vs:List V)(H:Hp)(Q:VK)(E:XK):Prop
 | mk (p ln lr:Addr) (ns:List Int) (rs:List R5) (i:Nat) (r:R5):vs = [.ref p,.int i]->cY K C H p ln lr ns rs->rs[i]?=some r->Q (.int r.d) H->JA K C vs H Q E
theorem MA{t:Ad}(T:Txt K mg t):cj P w K mg base ig 2 t.rG t.we ["town","rope"]  (JA K t.bK):=by
 refine T.GD.F.jK L7 λH Q E hr h=>?_
 ·obtain⟨p,ln,lr,ns,rs,i,r,rfl,hT,hi,k⟩:=h
  obtain⟨⟨dx,hp⟩,_⟩:=id hT
  refine⟨_,(oR (xT (cM (pv 0) T.fc T.yJ (CB T) hr (gC (pv 1))) aA)),?_⟩
  try dsimp only[bJ]
  refine⟨_,rfl,p,dx,_,rfl,hp,rfl,_,rfl,p,ln,lr,ns,rs,i,r,rfl,hT,hi,λq hq=>?_⟩
  have hq:cN K H q r.vs:=hq.elim cN.of id
  exact⟨q,_,_,_,rfl,rfl,hq,rfl,k⟩
inductive Hr(K:af)(CT C NW:Addr)(vs:List V)(H:Hp)(Q:VK)(E:XK):Prop
 | mk (p tp lu ln lr:Addr) (ns:List Int) (rs:List R5) (ws:List (List Nat)) (i:Int):vs = [.ref p,.int i]->cY K CT H tp ln lr ns rs->Pq C H p tp lu ws->ws.length=rs.length->(∀ (j:Nat) w l H',i=(j:Int)->ws[j]?=some w->aE H H'->H l=none->H' l=some (.lst (bO w))->Q (.ref l) H')->(¬ (0<=i/\i < rs.length)->E (.ref NW) none H)->Hr K CT C NW vs H Q E
theorem Af{t:Ad}(T:Txt K mg t):cj P w K mg base (D6 P w) 1 t.gw t.iz ["self","rope"]  (Hr K t.bK t.cT t.Cb):=by
 refine T.kQ.F.V1 Ac λH Q E hr h=>?_
 ·obtain⟨p,tp,lu,ln,lr,ns,rs,ws,i,rfl,hT,hW,ew,k,kx⟩:=h
  obtain⟨⟨dx,hp⟩,ls,To,els,hls⟩:=id hW
  obtain⟨⟨dt,htp⟩,_⟩:=id hT
  refine⟨_,(ao (bX (gW (jg p8 p7 aA (pv 1) (be (be (pv 0) rfl) rfl))) (bw (LN rfl T.T6 T.T7 hr.hd fW)) aX) (oR (gj gI (by rfl) T.uq boot_list (gC (xL (be (pv 0) rfl) (pv 1)))))),?_⟩
  try dsimp only[bJ]
  refine⟨_,rfl,_,_,rfl,rfl,_,rfl,?_⟩
  by_cases h0:0<=i
  case neg =>
   rw[decide_eq_false h0]
   exact cP ⟨_,rfl,fL (kx λz=>h0 z.1)⟩
  rw[decide_eq_true h0]
  refine fL ?_
  refine⟨_,rfl,p,_,dx,_,_,rfl,hp,T.iT,T.mH,rfl,tp,_,dt,_,_,rfl,htp,T.fc,T.tE,rfl,_,_,rfl,rfl,_,rfl,?_⟩
  by_cases h1:i < (rs.length:Int)
  case neg =>
   rw[decide_eq_false h1]
   exact fL (kx λz=>h1 z.2)
  rw[decide_eq_true h1]
  refine cP ?_
  obtain⟨j,rfl⟩ : ∃ j:Nat,i=(j:Int):=⟨i.toNat,by omega⟩
  have hj:j < ws.length:=by omega
  have hwj:ws[j]?=some ws[j]:=aa hj
  have hlj:ls[j]?=some ls[j]:=aa (by omega)
  have hat:ED (ls.map V.ref) (j:Int)=some (.ref ls[j]):=dM (by rw[ak,hlj]; rfl)
  refine⟨_,rfl,p,_,dx,_,_,rfl,hp,T.iT,T.mJ,rfl,_,rfl,lu,_,_,_,rfl,rfl,bL.of To,hat,ls[j],_,rfl,.inl (bL.of (hls j _ _ hlj hwj)),λl hl=>?_⟩
  exact k j _ l _ rfl hwj (aE.new hl) hl ay
inductive P0(NG:Addr)(vs:List V)(H:Hp)(Q:VK)(E:XK):Prop
 | mk (g:Int):vs = [.int g]->(0<=g/\g < 3->Q .fh H)->(¬ (0<=g/\g < 3)->E (.ref NG) none H)->P0 NG vs H Q E
theorem zA{t:Ad}(T:Txt K mg t):cj P w K mg base (D6 P w) 1 t.j6 t.nZ ["group"]  (P0 t.zX):=by
 refine T.gQ.F.V1 GA λH Q E hr h=>?_
 ·obtain⟨g,rfl,k,kx⟩:=h
  refine⟨_,(bw (bX (gW (jg p8 p7 aA (pv 0) (lS T.gf (lG rfl T.mO (v:=.ref t.d9) rfl)))) (bw (LN rfl T.Rp T.Rq hr.hd fW)) aX)),?_⟩
  try dsimp only[bJ]
  refine⟨_,rfl,_,_,rfl,rfl,_,rfl,?_⟩
  by_cases h0:0<=g
  case neg =>
   rw[decide_eq_false h0]
   exact cP ⟨_,rfl,fL (kx λz=>h0 z.1)⟩
  rw[decide_eq_true h0]
  refine fL ?_
  refine⟨_,_,rfl,.inr (T.f6 H),_,_,rfl,rfl,_,rfl,?_⟩
  by_cases h1:g < 3
  case neg =>
   have e:decide (g < ((([.int 1,.int 2,.int 4]:List V).length:Nat):Int))=false:=decide_eq_false h1
   rw[e]
   exact fL (kx λz=>h1 z.2)
  have e:decide (g < ((([.int 1,.int 2,.int 4]:List V).length:Nat):Int))=true:=decide_eq_true h1
  rw[e]
  exact cP (k ⟨h0,h1⟩)
inductive Uu(K:af)(CT C NG:Addr)(vs:List V)(H:Hp)(Q:VK)(E:XK):Prop
 | mk (p tp lu ln lr:Addr) (ns:List Int) (rs:List R5) (ws:List (List Nat)) (g:Int):vs = [.ref p,.int g]->cY K CT H tp ln lr ns rs->Pq C H p tp lu ws->ws.length=rs.length->rs.length<=20->(∀ r∈rs,1<=r.e/\r.e<=7)->(∀ (gg:Nat) l H',g=(gg:Int)->gg < 3->aE H H'->H l=none->H' l=some (.lst (bO (yl rs ws gg rs.length)))->Q (.ref l) H')->(¬ (0<=g/\g < 3)->E (.ref NG) none H)->Uu K CT C NG vs H Q E
theorem EV{t:Ad}(T:Txt K mg t):cj P w K mg base (D6 P w) 2 t.jv t.mz ["self","group"]  (Uu K t.bK t.cT t.zX):=by
 refine T.rP.F.V1 xx λH Q E hr h=>?_
 ·obtain⟨p,tp,lu,ln,lr,ns,rs,ws,g,rfl,hT,hW,ew,AI,he,k,kx⟩:=h
  obtain⟨⟨dx,hp⟩,ls,To,els,hls⟩:=id hW
  obtain⟨⟨dt,htp⟩,_⟩:=id hT
  refine⟨_,(ao (fD (BJ (zA T) (hr.mono (by decide)) rfl T.gQ.g T.gQ.F.kp T.gQ.B .nil Xj (gC (pv 1)))) (oR (gA (kO xx ["rope","group","self"] [none,some 1,some 0]) rfl (eu rfl T.gK (gC (be (be (pv 0) rfl) rfl))) (λ_ _ _ _=>by exact (gS 0 A8)) (λ_ _ _ _=>by exact (nN (PW.pt (AN (Q8 K rfl (yL K (Fb K rfl (pv 2) rfl) (pv 0)) (λ_=>rfl)) (zJ (qM (cM (Fb K rfl (pv 2) rfl) T.fc T.Ea (K5 T) hr (mZ (pv 0) (pv 1))))))))) (λ_ _ _ _=>by exact (pv 0))))),?_⟩
  try dsimp only[bJ]
  refine⟨_,rfl,g,rfl,λhg=>?_,kx⟩
  obtain⟨gg,rfl⟩ : ∃ gg:Nat,g=(gg:Int):=⟨g.toNat,by omega⟩
  have hg3:gg < 3:=by omega
  obtain⟨z,hz⟩:=aeJ hg3
  refine⟨_,rfl,p,_,dx,_,_,rfl,hp,T.iT,T.mH,rfl,tp,_,dt,_,_,rfl,htp,T.fc,T.tE,rfl,_,rfl,(by show -(2 ^ 62)<=((rs.length:Nat):Int); omega),(by show ((rs.length:Nat):Int) < 2 ^ 62; omega),λacc hacc=>?_⟩
  refine gB (n:=(((rs.length:Nat):Int)).toNat) (λi ys _=>ys=bO (yl rs ws gg i)) hacc AU qQ rfl ?_ ?_
  ·rintro i ys H2 hi s2 hy rfl x H3 ⟨rfl,rfl⟩
   have hi':i < rs.length:=by simpa using hi
   have RA:rs[i]?=some rs[i]:=aa hi'
   have hiw:ws[i]?=some ws[i]:=aa (by omega)
   have hil:ls[i]?=some ls[i]:=aa (by omega)
   have R3:(bO (yl rs ws gg i)).length < sizeLine:=by rw[ah]; exact b4 (by have:=NZ rs ws gg i; omega)
   have eL:isLive rs ws gg i=((!(ws[i]).isEmpty) && Pr (rs[i]).e gg):=by unfold isLive; rw[RA,hiw]
   refine⟨_,rfl,p,_,dx,_,_,rfl,s2 _ _ hp,T.iT,T.mJ,rfl,_,rfl,lu,_,_,V.ref ls[i],rfl,rfl,bL.of (s2 _ _ To),(by rw[eU]; exact dM (by rw[ak,hil]; rfl)),?_⟩
   refine⟨!(bO ws[i]).isEmpty,?_,?_⟩
   ·exact .inl ⟨_,bL.of (s2 _ _ (hls i _ _ hil hiw)),rfl⟩
   cases ewi:ws[i] with
   | nil =>
    refine cP (iP hi s2 hy ?_)
    rw[ym,eL,ewi]
    simp
   | cons y0 r0 =>
    refine fL ?_
    refine⟨_,rfl,p,_,dx,_,_,rfl,s2 _ _ hp,T.iT,T.mH,rfl,tp,dt,_,rfl,s2 _ _ htp,rfl,_,rfl,_,rfl,tp,ln,lr,ns,rs,i,rs[i],gg,z,(by show [V.ref tp,V.int (0 + (i:Int)),V.int (gg:Nat)]=_; rw[eU]),hT.mono s2,RA,hz,_,rfl,?_⟩
    have h17:=he _ (aQ RA)
    rw[Tj h17.1 h17.2 hz]
    cases eb:Pr rs[i].e gg with
    | true =>
     refine fL ⟨_,rfl,eV hacc hi s2 hy R3 ?_⟩
     rw[ym,eL,ewi,eb,eU]
     exact (ir _ _).symm
    | false =>
     refine cP (iP hi s2 hy ?_)
     rw[ym,eL,ewi,eb]
     simp
  ·rintro ys H2 s2 hy rfl
   exact k gg acc H2 rfl hg3 s2 hacc (by rw[hy,dP])
inductive P1(K:af)(vs:List V)(H:Hp)(Q:VK)(E:XK):Prop
 | mk (p C dx:Addr) (s:Int):vs = [.ref p,.int s]->H p=some (.ins C dx [])->HN K C->cX K C "sender" -> Q .fh (upd H p (.ins C dx [("sender",.int s)]))->P1 K vs H Q E
theorem vB{t:Ad}(T:Txt K mg t):cj P w K mg base ig 1 t.dO t.kj ["self","sender"]  (P1 K):=by
 refine T.pJ.F.jK Di λH Q E hr h=>?_
 ·obtain⟨p,C,dx,s',rfl,hp,hc,hn,k⟩:=h
  refine⟨_,(bw (fJ (pv 0) (pv 1) rfl)),?_⟩
  try dsimp only[bJ]
  exact⟨_,rfl,_,rfl,p,C,dx,[],rfl,hp,hc,hn,by decide,k⟩
inductive MB(vs:List V)(H:Hp)(Q:VK)(E:XK):Prop
 | mk (p:Addr) (c:Int):vs = [.ref p,.int c]->Q (.bl false) H->MB  vs H Q E
theorem EW{t:Ad}(T:Txt K mg t):cj P w K mg base ig 1 t.jo t.l9 ["self","caller"]  MB:=by
 refine T.yH.F.jK EI λH Q E hr h=>?_
 ·obtain⟨p,c,rfl,k⟩:=h
  exact⟨_,oB,k⟩
inductive MC(vs:List V)(H:Hp)(Q:VK)(E:XK):Prop
 | mk (p:Addr):vs = [.ref p]->Q .fh H->MC  vs H Q E
theorem xN{t:Ad}(T:Txt K mg t):cj P w K mg base ig 1 t.gv t.mh ["self"]  MC:=by
 refine T.mE.F.jK EJ λH Q E hr h=>?_
 ·obtain⟨p,rfl,k⟩:=h
  exact⟨_,(oR gF),k⟩
inductive zY(K:af)(vs:List V)(H:Hp)(Q:VK)(E:XK):Prop
 | mk (p C dx:Addr) (s:Int):vs = [.ref p]->H p=some (.ins C dx [("sender",.int s)])->HN K C->cX K C "sender" -> Q (.int s) H->zY K vs H Q E
theorem vC{t:Ad}(T:Txt K mg t):cj P w K mg base ig 1 t.fO t.ko ["self"]  (zY K):=by
 refine T.kD.F.jK Dj λH Q E hr h=>?_
 ·obtain⟨p,C,dx,s',rfl,hp,hc,hn,k⟩:=h
  exact⟨_,(oR (be (pv 0) rfl)),_,rfl,p,C,dx,_,_,rfl,hp,hc,hn,rfl,k⟩
inductive JB(C:Addr)(vs:List V)(H:Hp)(Q:VK)(E:XK):Prop
 | mk (p dx:Addr) (s to:Int):vs = [.ref p,.int s,.int to]->H p=some (.ins C dx [])->(∀ H',H' p=some (.ins C dx [("sender",.int s),("to",.int to)])->(∀ b o,H b=some o->b≠p->H' b=some o)->Q .fh H')->JB C vs H Q E
theorem EX{t:Ad}(T:Txt K mg t):cj P w K mg base ig 2 t.jq t.mj ["self","sender","to"]  (JB t.fH):=by
 refine T.yI.F.jK EK λH Q E hr h=>?_
 ·obtain⟨p,dx,s',to,rfl,hp,k⟩:=h
  refine⟨_,(ao (fD (Oa (lG rfl T.T4 (v:=.ref t.ia) rfl) T.Du (vB T) (hr.mono (by decide)) T.pJ.B .nil jR (mZ (pv 0) (pv 1)))) (bw (fJ (pv 0) (pv 2) rfl))),?_⟩
  try dsimp only[bJ]
  refine⟨rfl,_,rfl,_,rfl,p,t.fH,dx,s',rfl,hp,T.oi,T.rS,?_⟩
  refine⟨_,rfl,_,rfl,p,t.fH,dx,_,rfl,ay,T.oi,T.wC,(by show 1 < 1000; decide),?_⟩
  rw[dc (names:=["sender"]) rfl (by decide +kernel)]
  exact k _ ay λb o e nb=>by rw[aI nb,aI nb]; exact e
inductive MD(C:Addr)(vs:List V)(H:Hp)(Q:VK)(E:XK):Prop
 | mk (p dx:Addr) (s to c:Int):vs = [.ref p,.int c]->H p=some (.ins C dx [("sender",.int s),("to",.int to)])->Q (.bl (decide (V.int c=V.int to))) H->MD C vs H Q E
theorem Hs{t:Ad}(T:Txt K mg t):cj P w K mg base ig 1 t.jW t.nS ["self","caller"]  (MD t.fH):=by
 refine T.Al.F.jK Gs λH Q E hr h=>?_
 ·obtain⟨p,dx,s',to,c,rfl,hp,k⟩:=h
  exact⟨_,(oR (qE lH (pv 1) (be (pv 0) rfl))),_,rfl,_,rfl,p,_,dx,_,_,rfl,hp,T.oi,T.wC,rfl,rfl,k⟩
inductive ME(C:Addr)(vs:List V)(H:Hp)(Q:VK)(E:XK):Prop
 | mk (p dx:Addr) (s to:Int):vs = [.ref p]->H p=some (.ins C dx [("sender",.int s),("to",.int to)])->Q (.int to) H->ME C vs H Q E
theorem Ht{t:Ad}(T:Txt K mg t):cj P w K mg base ig 1 t.jX t.nU ["self"]  (ME t.fH):=by
 refine T.um.F.jK Gu λH Q E hr h=>?_
 ·obtain⟨p,dx,s',to,rfl,hp,k⟩:=h
  exact⟨_,(oR (be (pv 0) rfl)),_,rfl,p,_,dx,_,_,rfl,hp,T.oi,T.wC,rfl,k⟩
inductive DL(C:Addr)(vs:List V)(H:Hp)(Q:VK)(E:XK):Prop
 | mk (p dx:Addr) (s to:Int):vs = [.ref p]->H p=some (.ins C dx [("sender",.int s),("to",.int to)])->Q (.int (s + to + 1)) H->DL C vs H Q E
theorem EY{t:Ad}(T:Txt K mg t):cj P w K mg base ig 1 t.jr t.mq ["self"]  (DL t.fH):=by
 refine T.rO.F.jK EL λH Q E hr h=>?_
 ·obtain⟨p,dx,s',to,rfl,hp,k⟩:=h
  exact⟨_,(oR (bf eZ (bf eZ (be (pv 0) rfl) (be (pv 0) rfl)) aA)),_,rfl,p,_,dx,_,_,rfl,hp,T.oi,T.rS,rfl,_,rfl,p,_,dx,_,_,rfl,hp,T.oi,T.wC,rfl,_,_,rfl,rfl,_,_,rfl,rfl,k⟩
inductive MF(C:Addr)(vs:List V)(H:Hp)(Q:VK)(E:XK):Prop
 | mk (p dx:Addr) (s c:Int):vs = [.ref p,.int c]->H p=some (.ins C dx [("sender",.int s)])->Q (.bl (!decide (V.int c=V.int s))) H->MF C vs H Q E
theorem Hu{t:Ad}(T:Txt K mg t):cj P w K mg base ig 1 t.jY t.nV ["self","caller"]  (MF t.iD):=by
 refine T.Am.F.jK Gv λH Q E hr h=>?_
 ·obtain⟨p,dx,s',c,rfl,hp,k⟩:=h
  exact⟨_,(oR (qE qO (pv 1) (be (pv 0) rfl))),_,rfl,_,rfl,p,_,dx,_,_,rfl,hp,T.wD,T.mG,rfl,rfl,k⟩
inductive P4(C:Addr)(vs:List V)(H:Hp)(Q:VK)(E:XK):Prop
 | mk (p dx:Addr):vs = [.ref p]->H p=some (.ins C dx [])->(∀ d H',H d=none->qU C H' p d []->(∀ b o,H b=some o->b≠p->H' b=some o)->Q .fh H')->P4 C vs H Q E
theorem Hv{t:Ad}(T:Txt K mg t):cj P w K mg base ig 1 t.jU t.nQ ["self"]  (P4 t.e9):=by
 refine T.ug.F.jK Gn λH Q E hr h=>?_
 ·obtain⟨p,dx,rfl,hp,k⟩:=h
  refine⟨_,(bw (fJ (pv 0) FO rfl)),?_⟩
  try dsimp only[bJ]
  refine λd hd=>⟨_,rfl,p,t.e9,dx,[],rfl,?_,T.Bb,T.tF,by decide,?_⟩
  ·rw[aI (aR hp hd)]; exact hp
  ·refine k d _ hd ⟨⟨dx,ay⟩,?_⟩ λb o e nb=>?_
   ·rw[aI (aR hp hd).symm]; exact ay
   ·rw[aI nb,aI (aR e hd)]; exact e
inductive P5(C:Addr)(vs:List V)(H:Hp)(Q:VK)(E:XK):Prop
 | mk (p d:Addr) (ts:List T3) (h c r:Int):vs = [.ref p,.int h,.int c,.int r]->qU C H p d ts->ts.length < 10000->(∀ H',H' d=some (.dT (putK (ts.map k8) (keyOf h c) (.int r)))->(∀ b o,H b=some o->b≠d->H' b=some o)->Q .fh H')->P5 C vs H Q E
theorem IF{t:Ad}(T:Txt K mg t):cj P w K mg base ig 1 t.lV t.qm ["self","house","caller","rope"]  (P5 t.e9):=by
 refine T.Cc.F.jK HY λH Q E hr h=>?_
 ·obtain⟨p,d,ts,hh,cc,r,rfl,⟨⟨dx,hp⟩,hd⟩,hl,k⟩:=h
  refine⟨_,(bw (E8 (uW hr) (be (pv 0) rfl) (fK (mZ (pv 1) (pv 2))) (pv 3) rfl)),?_⟩
  try dsimp only[bJ]
  refine⟨_,rfl,_,rfl,p,t.e9,dx,_,_,rfl,hp,T.Bb,T.tF,rfl,_,rfl,_,rfl,(by show 2<=sizeLine; decide),λb hb=>?_⟩
  have nb:d≠b:=aR hd hb
  refine⟨d,_,rfl,HV.t (k:=keyOf hh cc) (kvs:=ts.map k8) (by rw[aI nb]; exact hd) ay (by rw[ah]; exact Nat.lt_trans hl (by show 10000 < 2 ^ 24; decide)),?_⟩
  exact k _ ay λx o e nx=>by rw[aI nx,aI (aR e hb)]; exact e
inductive P6(C:Addr)(vs:List V)(H:Hp)(Q:VK)(E:XK):Prop
 | mk (p d:Addr) (ts:List T3) (h c:Int):vs = [.ref p,.int h,.int c]->qU C H p d ts->(∀ H',aE H H'->Q (((tV ts h c).map V.int).getD .fh) H')->P6 C vs H Q E
theorem IG{t:Ad}(T:Txt K mg t):cj P w K mg base ig 1 t.lW t.qu ["self","house","caller"]  (P6 t.e9):=by
 refine T.Cd.F.jK HZ λH Q E hr h=>?_
 ·obtain⟨p,d,ts,hh,cc,rfl,⟨⟨dx,hp⟩,hd⟩,k⟩:=h
  refine⟨_,(oR (SW (uW hr) (be (pv 0) rfl) (fK (mZ (pv 1) (pv 2))) ⟨rfl,rfl,rfl,rfl⟩)),?_⟩
  try dsimp only[bJ]
  refine⟨_,rfl,p,t.e9,dx,_,_,rfl,hp,T.Bb,T.tF,rfl,d,rfl,.inr ⟨_,.inl hd⟩,_,rfl,_,rfl,(by show 2<=sizeLine; decide),λb hb=>?_⟩
  have s1:=aE.new (o:=.tup [.int hh,.int cc]) hb
  refine⟨_,tT.t (k:=keyOf hh cc) (s1 _ _ hd) ay,?_⟩
  rw[Ge]
  exact k _ s1
inductive MG(C:Addr)(vs:List V)(H:Hp)(Q:VK)(E:XK):Prop
 | mk (p d:Addr) (ts:List T3):vs = [.ref p]->qU C H p d ts->(∀ d' H',H d'=none->qU C H' p d' []->(∀ b o,H b=some o->b≠p->H' b=some o)->Q .fh H')->MG C vs H Q E
theorem Hw{t:Ad}(T:Txt K mg t):cj P w K mg base ig 1 t.jV t.nR ["self"]  (MG t.e9):=by
 refine T.uh.F.jK Gp λH Q E hr h=>?_
 ·obtain⟨p,d,ts,rfl,⟨⟨dx,hp⟩,hd⟩,k⟩:=h
  refine⟨_,(bw (fJ (pv 0) FO rfl)),?_⟩
  try dsimp only[bJ]
  refine λd' hd'=>⟨_,rfl,p,t.e9,dx,[("kept",.ref d)],rfl,?_,T.Bb,T.tF,(by show 1 < 1000; decide),?_⟩
  ·rw[aI (aR hp hd')]; exact hp
  ·refine k d' _ hd' ⟨⟨dx,ay⟩,?_⟩ λb o e nb=>?_
   ·rw[aI (aR hp hd').symm]; exact ay
   ·rw[aI nb,aI (aR e hd')]; exact e
inductive ab2(K:af)(C:Addr)(vs:List V)(H:Hp)(Q:VK)(E:XK):Prop
 | mk (bk d lo lh:Addr) (ts:List T3) (so ck:Option Int) (lM:Int) (os hs:List Int):vs = [.ref bk,qW so,.int lM,qW ck,.ref lo,.ref lh]->qU C H bk d ts->bL K H lo (os.map V.int)->bL K H lh (hs.map V.int)->os.length<=1000->(∀ l H',aE H H'->H l=none->H' l=some (.lst ((RY ts so lM ck os hs).map V.int))->Q (.ref l) H')->ab2 K C vs H Q E
theorem MH{t:Ad}(T:Txt K mg t):cj P w K mg base ig 2 t.rF t.wc ["book","sought","house","came","open_here","here"]  (ab2 K t.e9):=by
 refine T.GC.F.jK sO λH Q E hr h=>?_
 ·obtain⟨bk,d,lo,lh,ts,so,ck,lM,os,hs,rfl,hB,hO,hH,hn,k⟩:=h
  refine⟨_,(ao (bX (fX k6 (pv 1) (pv 5) (by with_unfolding_all rfl)) (oR (ji gY)) aX) (ao (sS 6 sO (x6 (qT Np (pv 1) gF) gF (cM (pv 0) T.Bb T.Cd (IG T) hr (mZ (pv 2) (pv 1))))) (ao (sS 7 sO (x6 (fX k6 (pv 6) (pv 4) (by with_unfolding_all rfl)) (ji (gC (pv 6))) (pv 4))) (oR (gA (kO sO ["rope","came"] [none,some 3]) rfl (fE (pv 7)) (λ_ _ _ _=>by exact (gS 0 Gq)) (λ_ _ _ _=>by exact (nN (qT qO (pv 0) (pv 1)))) (λ_ _ _ _=>by exact (pv 0))))))),?_⟩
  try dsimp only[bJ]
  obtain⟨dx,hob⟩:=hB.ob
  refine⟨_,rfl,_,rfl,lh,_,rfl,.inl hH,Tw so,qH hs,_,rfl,?_⟩
  cases so with
  | none =>
   refine Je (by show D4 .fh _=false; exact Gf hs) ?_
   refine⟨_,rfl,rfl,_,rfl,abG (decide_eq_true rfl) ?_⟩
   refine⟨_,rfl,_,rfl,lo,_,rfl,.inl hO,rfl,qH os,_,rfl,Je (by show D4 .fh _=false; exact Gf os) ?_⟩
   refine⟨_,rfl,_,rfl,lo,rfl,⟨_,hO⟩,λacc hacc=>?_⟩
   refine qV (jT ck) hacc hO hn (λx H2 R S _ s2 h1 h2=>?_) (λH2 s2 hy=>k acc H2 s2 hacc hy)
   refine⟨_,rfl,_,rfl,BU x ck,_,rfl,?_⟩
   exact kH (λe=>⟨_,rfl,h1 _ (aE.refl _) e⟩) (λe=>h2 _ (aE.refl _) (neT e))
  | some to =>
   refine kH (λe=>?_) (λe=>?_)
   ·refine⟨aV _,λl hl=>k l _ (aE.new hl) hl ?_⟩
    have e':to∈hs:=by
     have e:D4 (.int to) (hs.map V.int)=true:=e
     rw[qR] at e
     exact of_decide_eq_true e
    show _=some (HO.lst (List.map V.int (if to∈hs then [] else _)))
    rw[if_pos e']
    exact ay
   ·have e':¬ to∈hs:=λz=>e (by show D4 (.int to) (hs.map V.int)=true; rw[qR]; exact decide_eq_true z)
    refine⟨_,rfl,rfl,_,rfl,Je (decide_eq_false λz=>by cases z) ?_⟩
    refine⟨_,rfl,bk,dx,_,rfl,hob,rfl,_,rfl,_,rfl,bk,d,ts,lM,to,rfl,hB,λH1 s1=>?_⟩
    have k2:∀ l H',aE H H'->H l=none->H' l=some (.lst ((match tV ts lM to with
     | some r=>if r∈os then [r].filter (jT ck) else os.filter (jT ck)
     | none=>os.filter (jT ck)).map V.int))->Q (.ref l) H':=λl H' s hl hy=>k l H' s hl (by
     show _=some (HO.lst (List.map V.int (if to∈hs then [] else _)))
     rw[if_neg e']
     exact hy)
    clear k
    have hO1:=s1.seq hO
    cases hk:tV ts lM to with
    | none =>
     rw[hk] at k2
     refine⟨_,rfl,_,rfl,lo,_,rfl,.inl hO1,rfl,qH os,_,rfl,Je (by show D4 .fh _=false; exact Gf os) ?_⟩
     refine⟨_,rfl,_,rfl,lo,rfl,⟨_,hO1⟩,λacc hacc=>?_⟩
     refine qV (jT ck) hacc hO1 hn (λx H2 R S _ s2 h1 h2=>?_) (λH2 s2 hy=>k2 acc H2 (s1.trans s2) (s1.free hacc) hy)
     refine⟨_,rfl,_,rfl,BU x ck,_,rfl,?_⟩
     exact kH (λe=>⟨_,rfl,h1 _ (aE.refl _) e⟩) (λe=>h2 _ (aE.refl _) (neT e))
    | some r =>
     rw[hk] at k2
     dsimp only[Option.map_some,Option.getD_some]
     refine⟨_,rfl,_,rfl,lo,_,rfl,.inl hO1,rfl,qH os,_,rfl,kH (λe2=>?_) (λe2=>?_)⟩
     ·have e2':r∈os:=by
       have e2:D4 (.int r) (os.map V.int)=true:=e2
       rw[qR] at e2
       exact of_decide_eq_true e2
      have k2:∀ l H',aE H H'->H l=none->H' l=some (.lst (([r].filter (jT ck)).map V.int))->Q (.ref l) H':=λl H' s hl hy=>k2 l H' s hl (by
       show _=some (HO.lst (List.map V.int (if r∈os then _ else _)))
       rw[if_pos e2']
       exact hy)
      refine⟨_,rfl,(by show 1<=sizeLine; decide),λl1 hl1=>?_⟩
      have u2:=aE.new (o:=.lst [V.int r]) hl1
      have h2:bL K (upd H1 l1 (.lst [V.int r])) l1 ([r].map V.int):=bL.of ay
      generalize upd H1 l1 (.lst [V.int r])=H2 at u2 h2
      refine⟨_,rfl,l1,rfl,⟨_,h2⟩,λacc hacc=>?_⟩
      refine qV (jT ck) hacc h2 (by show 1<=1000; decide) (λx H3 R S _ s3 h1 h2=>?_) (λH3 s3 hy=>k2 acc H3 (s1.trans (u2.trans s3)) (s1.free (u2.free hacc)) hy)
      refine⟨_,rfl,_,rfl,BU x ck,_,rfl,?_⟩
      exact kH (λe=>⟨_,rfl,h1 _ (aE.refl _) e⟩) (λe=>h2 _ (aE.refl _) (neT e))
     ·have e2':¬ r∈os:=λz=>e2 (by show D4 (.int r) (os.map V.int)=true; rw[qR]; exact decide_eq_true z)
      have k2:∀ l H',aE H H'->H l=none->H' l=some (.lst ((os.filter (jT ck)).map V.int))->Q (.ref l) H':=λl H' s hl hy=>k2 l H' s hl (by
       show _=some (HO.lst (List.map V.int (if r∈os then _ else _)))
       rw[if_neg e2']
       exact hy)
      refine⟨_,rfl,_,rfl,lo,rfl,⟨_,hO1⟩,λacc hacc=>?_⟩
      refine qV (jT ck) hacc hO1 hn (λx H2 R S _ s2 h1 h2=>?_) (λH2 s2 hy=>k2 acc H2 (s1.trans s2) (s1.free hacc) hy)
      refine⟨_,rfl,_,rfl,BU x ck,_,rfl,?_⟩
      exact kH (λe=>⟨_,rfl,h1 _ (aE.refl _) e⟩) (λe=>h2 _ (aE.refl _) (neT e))
inductive JC(K:af)(C cL c1 cA:Addr)(vs:List V)(H:Hp)(Q:VK)(E:XK):Prop
 | mk (bk d la lo lh:Addr) (ts:List T3) (s to kd lM:Int) (ck:Option Int) (os hs:List Int):vs = [.ref bk,.ref la,.int lM,qW ck,.ref lo,.ref lh]->qU C H bk d ts->D7 cL c1 cA H la s to kd->bL K H lo (os.map V.int)->bL K H lh (hs.map V.int)->os.length<=1000->hs.length<=1000->(∀ p l1 l2 H',aE H H'->H p=none->H l1=none->H l2=none->l1≠l2->H' p=some (.tup [.ref l1,.ref l2])->H' l1=some (.lst ((hs.filter (C6 s to kd)).map V.int))->H' l2=some (.lst ((RY ts (nO to kd) lM ck os hs).map V.int))->Q (.ref p) H')->JC K C cL c1 cA vs H Q E
theorem OG{t:Ad}(T:Txt K mg t):cj P w K mg base ig 3 t.vd t.zQ ["book","letter","house","came","open_here","here"]  (JC K t.e9 t.ia t.fH t.iD):=by
 refine T.Jl.F.jK A6 λH Q E hr h=>?_
 ·obtain⟨bk,d,la,lo,lh,ts,s',to,kd,lM,ck,os,hs,rfl,hB,hL,hO,hH,hn,hn2,k⟩:=h
  refine⟨_,(ao (AR (i:=6) A6.nd rfl (Or.inl rfl) (kO A6 ["caller","letter"] [none,some 1]) rfl (fE (pv 5)) (λ_ _ _ _=>by exact (gS 0 Ia)) (λ_ _ _ _=>by exact (nN (qM (C4 (cM (pv 1) T.GJ T.yH (EW T) hr (gC (pv 0))) (C4 (cM (pv 1) T.oi T.Al (Hs T) hr (gC (pv 0))) (cM (pv 1) T.wD T.Am (Hu T) hr (gC (pv 0)))))))) (λ_ _ _ _=>by exact (pv 0))) (oR (fK (mZ (pv 6) (cG (MH T) hr T.GC (aN6 (pv 0) (C4 (jQ (pv 1) T.GJ T.mE.m (xN T) (hr.mono (by decide)) T.mE.B .nil jR) (C4 (jQ (pv 1) T.oi T.um.m (Ht T) (hr.mono (by decide)) T.um.B .nil jR) (jQ (pv 1) T.wD T.Ik (xN T) (hr.mono (by decide)) T.mE.B .nil jR))) (pv 2) (pv 3) (pv 4) (pv 5))))))),?_⟩
  try dsimp only[bJ]
  refine⟨_,rfl,lh,rfl,⟨_,hH⟩,λacc hacc=>?_⟩
  refine qV (C6 s' to kd) hacc hH hn2 (λx H2 R S _ s2 h1 h2=>?_) (λH2 s2 hy=>?_)
  ·have hL2:=hL.mono s2
   cases hL2 with
   | bare dx ha =>
    exact .inl ⟨_,rfl,la,dx,_,rfl,ha,rfl,_,rfl,la,x,rfl,_,rfl,h2 _ (aE.refl _) rfl⟩
   | one dx ha =>
    refine .inr (.inl ⟨_,rfl,la,dx,_,rfl,ha,rfl,_,rfl,la,dx,s',to,x,rfl,ha,_,rfl,?_⟩)
    exact kH (λe=>⟨_,rfl,h1 _ (aE.refl _) e⟩) (λe=>h2 _ (aE.refl _) (neT e))
   | all dx ha =>
    refine .inr (.inr ⟨_,rfl,la,dx,_,rfl,ha,rfl,_,rfl,la,dx,s',x,rfl,ha,_,rfl,?_⟩)
    exact kH (λe=>⟨_,rfl,h1 _ (aE.refl _) e⟩) (λe=>h2 _ (aE.refl _) (neT e))
  ·have hL2:=hL.mono s2
   have rest:∀ l2 H3,aE H2 H3->H2 l2=none->H3 l2=some (.lst ((RY ts (nO to kd) lM ck os hs).map V.int))->2<=sizeLine/\∀ p,H3 p=none->Q (.ref p) (upd H3 p (.tup [.ref acc,.ref l2])):=λl2 H3 s3 hl2 h3=>by
    refine⟨by decide,λp hp=>?_⟩
    have u:=aE.new (o:=.tup [V.ref acc,.ref l2]) hp
    exact k p acc l2 _ ((s2.trans s3).trans u) (s2.free (s3.free hp)) hacc (s2.free hl2) (aR hy hl2) ay (u _ _ (s3 _ _ hy)) (u _ _ h3)
   refine⟨_,rfl,_,rfl,?_⟩
   cases hL2 with
   | bare dx ha =>
    exact .inl ⟨_,rfl,la,dx,_,rfl,ha,rfl,la,rfl,_,rfl,_,rfl,_,rfl,_,rfl,bk,d,lo,lh,ts,none,ck,lM,os,hs,rfl,hB.mono s2,s2.seq hO,s2.seq hH,hn,λl2 H3 s3 hl2 h3=>rest l2 H3 s3 hl2 h3⟩
   | one dx ha =>
    exact .inr (.inl ⟨_,rfl,la,dx,_,rfl,ha,rfl,la,dx,s',to,rfl,ha,_,rfl,_,rfl,_,rfl,_,rfl,bk,d,lo,lh,ts,some to,ck,lM,os,hs,rfl,hB.mono s2,s2.seq hO,s2.seq hH,hn,λl2 H3 s3 hl2 h3=>rest l2 H3 s3 hl2 h3⟩)
   | all dx ha =>
    exact .inr (.inr ⟨_,rfl,la,dx,_,rfl,ha,rfl,la,rfl,_,rfl,_,rfl,_,rfl,_,rfl,bk,d,lo,lh,ts,none,ck,lM,os,hs,rfl,hB.mono s2,s2.seq hO,s2.seq hH,hn,λl2 H3 s3 hl2 h3=>rest l2 H3 s3 hl2 h3⟩)
inductive JD(K:af)(vs:List V)(H:Hp)(Q:VK)(E:XK):Prop
 | mk (a:Addr) (cs:List Int) (n:Nat):vs = [.ref a,.int n]->bL K H a (cs.map V.int)->1<=n->n<=10->(∀ l H' (xs:List Int),aE H H'->H l=none->H' l=some (.lst (xs.map V.int))->xs.length=n->xs.Nodup->(∀ x∈xs,0<=x)->Q (.ref l) H')->JD K vs H Q E
theorem OH{t:Ad}(T:Txt K mg t):cj P w K mg base ig 2 t.vh t.zU ["_law_script","_law_size"]  (JD K):=by
 refine T.Jp.F.jK kP λH Q E hr h=>?_
 ·obtain⟨a,cs,n,rfl,hS,hn1,hn,k⟩:=h
  refine⟨_,(ao (sS 2 kP (ji gY)) (ao (fS (eu rfl T.gK (gC (pv 1))) (gT 3 kP) (ao (sS 4 kP (cG (fq T) hr T.fB (mZ (pv 0) (bf eZ aA (pv 3))))) (ao (sS 5 kP (bf c7 (bf dZ (pv 4) aA) aA)) (ao (bX (qT lH (bf c7 (pv 4) aA) aA) (bw (sS 5 kP (bf c7 (bf dZ (pv 4) aA) (bf CQ (bf Su aA aA) aA)))) aX) (ao (Sj PassesOwn.never (fX k6 (pv 5) (pv 2) (by with_unfolding_all rfl)) (bw (sS 5 kP (bf eZ (pv 5) aA)))) (oE (p9 bq bz bx eB (pv 2) (gC (pv 5))))))))) (ao (bX (qT lH (bf c7 (bf dZ (cG (fq T) hr T.fB (mZ (pv 0) aA)) aA) aA) aA) (oR (LY (pv 2) (nM (aa7 YI aA)))) aX) (oR (pv 2))))),?_⟩
  try dsimp only[bJ]
  refine⟨aV _,λl hl=>?_⟩
  refine⟨_,rfl,(n:Int),rfl,by omega,by omega,?_⟩
  refine uU (n:=((n:Int)).toNat) (λi σ H2=>aE H H2/\∃ (xs:List Int) (v3 v4 v5:Option V),σ = [some (.ref a),some (.int n),some (.ref l),v3,v4,v5]/\H2 l=some (.lst (xs.map V.int))/\xs.length=i/\xs.Nodup/\∀ x∈xs,0<=x)
   ⟨aE.new hl,[],none,none,none,rfl,ay,rfl,ki,λx hx=>absurd hx (by simp)⟩ ?_ ?_
  ·rintro i σ H2 hi ⟨s2,xs,v3,v4,v5,rfl,hx,ei,nd,nn⟩
   rw[eU]
   refine⟨_,rfl,_,rfl,_,_,rfl,rfl,a,cs,_,rfl,s2.seq hS,by omega,?_⟩
   dsimp only[gX]
   generalize cs.getD _ 0=c
   refine⟨_,rfl,_,_,rfl,rfl,⟨by decide,by decide⟩,_,_,rfl,rfl,(by show (0:Int) < 40; decide),?_⟩
   dsimp only[gX]
   refine Y7 (λσ H3=>H3=H2/\∃ z:Int,0<=z/\σ = [some (.ref a),some (.int n),some (.ref l),some (.int (i:Nat)),some (.int c),some (.int z)]) ?_ λnx=>?_
   case refine_2 =>
    refine⟨_,rfl,_,_,rfl,rfl,(by show (0:Int) < 3; decide),rfl,_,rfl,kH (λe=>?_) (λe=>?_)⟩
    ·exact⟨_,rfl,_,_,rfl,rfl,⟨by decide,by decide⟩,_,_,rfl,rfl,⟨by decide,by decide,by decide⟩,_,_,rfl,rfl,_,_,rfl,rfl,(by show (0:Int) < 10 ^ (60:Int).toNat - 20; decide),nx _ _ ⟨rfl,_,bR _ (by decide),rfl⟩⟩
    ·exact nx _ _ ⟨rfl,_,bR _ (by decide),rfl⟩
   rintro σ H3 ⟨rfl,z,hz0,rfl⟩
   refine So (λσ H4=>H4=H3/\∃ x:Int,0<=x/\σ = [some (.ref a),some (.int n),some (.ref l),some (.int (i:Nat)),some (.int c),some (.int x)])
    (λ(σ:L2.St) (_:Hp)=>match σ[5]? with | some (some (V.int x))=>above xs x | _=>0) ⟨rfl,_,hz0,rfl⟩ ?_ ?_
   ·rintro σ H4 ⟨rfl,x,hx0,rfl⟩
    refine⟨_,rfl,_,rfl,l,_,rfl,.inl (bL.of hx),rfl,qH xs,_,rfl,?_⟩
    dsimp only
    rw[if_neg aD,qR]
    refine kH (λc=>?_) (λc=>?_)
    ·have hm:x∈xs:=of_decide_eq_true c
     exact⟨_,rfl,_,_,rfl,rfl,⟨rfl,x + 1,by omega,rfl⟩,Te hm⟩
    ·have hm:x ∉ xs:=λz=>c (decide_eq_true z)
     refine⟨_,rfl,.inl ⟨rfl,_,bL.of hx⟩,_,rfl,l,_,_,rfl,rfl,hx,?_,?_⟩
     ·rw[ah]; exact b4 (by omega)
     ·refine⟨s2.out hl,xs++[x],_,_,_,rfl,?_,?_,Gr.AV nd hm,?_⟩
      ·rw[ay,aJ]; rfl
      ·simp[ei]
      ·intro y hy
       rcases aY.mp hy with z | z
       ·exact nn y z
       ·have:y=x:=by simpa using z
        rw[this]; exact hx0
   ·rintro σ H4 Q1 Q2 hq ⟨v,e1,u,e2,q,ys,e3,e4,e5,e6,b,e7,e8⟩
    exact⟨v,e1,u,e2,q,ys,e3,e4,e5,e6,b,e7,hq _ _ e8⟩
  ·rintro σ H2 ⟨s2,xs,v3,v4,v5,rfl,hx,ei,nd,nn⟩
   refine⟨_,rfl,a,cs,1,rfl,s2.seq hS,by decide,_,_,rfl,rfl,⟨by decide,by decide⟩,_,_,rfl,rfl,(by show (0:Int) < 2; decide),rfl,_,rfl,kH (λe=>?_) (λe=>?_)⟩
   ·refine⟨_,rfl,_,rfl,_,rfl,l,_,rfl,rfl,bL.of hx,λl2 hl2=>?_⟩
    rw[<- List.map_reverse]
    exact k l2 _ xs.reverse (s2.trans (aE.new hl2)) (s2.free hl2) ay (by rw[List.length_reverse]; omega) ((List.reverse_perm xs).nodup_iff.mpr nd) λx hx=>nn x (List.mem_reverse.mp hx)
   ·exact⟨_,rfl,k l H2 xs s2 hl hx (by omega) nd nn⟩
theorem Wd{x:Int}{g:Nat}(h1:1<=x)(h7:x<=7)(hg:g < 3):1<=Builtin.bitOr x (1 * 2 ^ ((g:Int)).toNat)/\Builtin.bitOr x (1 * 2 ^ ((g:Int)).toNat)<=7:=by
 have hx:x=1∨x=2∨x=3∨x=4∨x=5∨x=6∨x=7:=by omega
 have hg':g=0∨g=1∨g=2:=by omega
 rcases hg' with rfl | rfl | rfl <;> rcases hx with rfl | rfl | rfl | rfl | rfl | rfl | rfl <;> decide +kernel
def XH(K:af)(H:Hp)(l:Addr)(rs:List R5):Prop:=∃ qs:List Addr,H l=some (.lst (qs.map V.ref))/\cS K H qs (rs.map R5.vs)
theorem cS.snoc{K:af}{H:Hp}{qs:List Addr}{xs:List (List V)}{q:Addr}{x:List V}(h:cS K H qs xs)(hq:cN K H q x):cS K H (qs++[q]) (xs++[x]):=by
 refine⟨by rw[aB,aB,h.len]; rfl,λi a u ha hu=>?_⟩
 by_cases z:i < qs.length
 ·rw[bB z] at ha
  rw[bB (h.len ▸ z)] at hu
  exact h.at' i a u ha hu
 ·have e:i=qs.length:=by
   have:=(ai.mp ha).1
   rw[aB] at this
   have:i < qs.length + 1:=this
   omega
  subst e
  rw[List.getElem?_concat_length] at ha
  rw[h.len,List.getElem?_concat_length] at hu
  cases ha
  cases hu
  exact hq
inductive JE(K:af)(vs:List V)(H:Hp)(Q:VK)(E:XK):Prop
 | mk (a:Addr) (cs:List Int) (n g:Nat):vs = [.ref a,.int n,.int g]->bL K H a (cs.map V.int)->1<=n->n<=10->g < 3->(∀ l H' (rs:List R5),aE H H'->H l=none->XH K H' l rs->rs.length<=14->(∀ r∈rs,r.Ok n)->n<=rs.length + 1->Q (.ref l) H')->JE K vs H Q E
theorem OI{t:Ad}(T:Txt K mg t):cj P w K mg base ig 2 t.vj t.zV ["_law_script","_law_size","_law_group"]  (JE K):=by
 refine T.Jq.F.jK dg λH Q E hr h=>?_
 ·obtain⟨a,cs,n,g,rfl,hS,hn1,hn,hg,k⟩:=h
  refine⟨_,(ao (sS 3 dg (ji gY)) (ao (sS 4 dg aA) (ao (bX (qT Lv (pv 1) aA) (bw (sS 4 dg (bf eZ (bf CQ (pv 1) aA) (bf c7 (bf dZ (cG (fq T) hr T.fB (mZ (pv 0) aA)) aA) aA)))) aX) (ao (fS (eu rfl T.gK (gC (pv 4))) (gT 5 dg) (ao (sS 6 dg (cG (fq T) hr T.fB (mZ (pv 0) (bf eZ aA (pv 5))))) (ao (sS 7 dg (bf c7 (bf dZ (pv 6) aA) (pv 1))) (ao (sS 8 dg (bf c7 (bf eZ (bf eZ (pv 7) aA) (bf c7 (bf dZ (pv 6) aA) (bf CQ (pv 1) aA))) (pv 1))) (ao (bX (qT p7 (pv 5) (bf CQ (pv 1) aA)) (ao (sS 7 dg (bf eZ (pv 5) aA)) (bw (sS 8 dg (bf c7 (bf dZ (pv 6) aA) (bf eZ (pv 5) aA))))) aX) (ao (sS 9 dg (bf dZ (pv 6) aA)) (ao (sS 10 dg (bf eZ aA (bf c7 (pv 9) aA))) (ao (bX (qT lH (bf c7 (bf dZ (pv 9) aA) aA) aA) (bw (sS 10 dg (bf eZ aA (bf c7 (bf dZ (pv 9) aA) (bf CQ (bf Su aA aA) aA))))) aX) (ao (sS 11 dg (bf eZ aA (bf c7 (bf dZ (pv 9) aA) aA))) (ao (bX (qT Lv (bf c7 (bf dZ (pv 9) aA) aA) aA) (bw (sS 11 dg (bf aba (pv 11) (bf YG aA (pv 2))))) aX) (ao (bX (qT lH (bf c7 (pv 6) aA) aA) (bw (YC (i:=7) (j:=8) rfl dg.nd rfl rfl (by decide) rfl rfl (mZ (pv 8) (pv 7)) rfl)) aX) (oE (p9 bq bz bx eB (pv 3) (gC (fK (aN5 (pv 7) (pv 8) (pv 10) (bf eZ aA (bf c7 (bf dZ (pv 9) aA) aA)) (pv 11))))))))))))))))) (oR (pv 3)))))),?_⟩
  try dsimp only[bJ]
  refine⟨aV _,λl hl=>?_⟩
  have s0:=aE.new (o:=.lst []) hl
  have Kc:=ay (H:=H) (a:=l) (o:=.lst [])
  generalize upd H l (.lst [])=H0 at s0 Kc
  dsimp only[gX]
  refine bF λN hN=>?_
  refine hN [some (.ref a),some (.int n),some (.int g),some (.ref l),some (.int 0),none,none,none,none,none,none,none] H0 ?_
  refine vO (λσ H1=>H1=H0/\∃ m:Nat,m<=14/\(0 < m->2<=n)/\n<=m + 1/\σ = [some (.ref a),some (.int n),some (.int g),some (.ref l),some (.int (m:Nat)),none,none,none,none,none,none,none]) ?_ λN' nx=>?_
  case refine_2 =>
   refine⟨_,rfl,_,_,rfl,rfl,_,rfl,kH (λe=>?_) (λe=>?_)⟩
   ·have h2:(1:Int) < n:=of_decide_eq_true e
    refine⟨_,rfl,_,_,rfl,rfl,_,rfl,a,cs,1,rfl,s0.seq hS,by decide,_,_,rfl,rfl,⟨by decide,by decide⟩,_,_,rfl,rfl,(by show (0:Int) < 6; decide),_,_,rfl,rfl,nx _ _ ?_⟩
    generalize cs.getD _ 0 / 3=y
    have q1:=bR y (show (6:Int)≠0 by decide)
    have q2:=bY y (show (0:Int) < 6 by decide)
    refine⟨rfl,((n:Int) - 1 + y % 6).toNat,by omega,λ_=>by omega,by omega,?_⟩
    rw[Int.toNat_of_nonneg (by omega)]
    rfl
   ·have e:¬ (1:Int) < n:=λz=>e (decide_eq_true z)
    exact nx _ _ ⟨rfl,0,by omega,λz=>absurd z (by decide),by omega,rfl⟩
  rintro σ H1 ⟨rfl,m,hm,h2,hnm,rfl⟩
  refine⟨_,rfl,(m:Int),rfl,by omega,by omega,?_⟩
  refine qS (n:=((m:Int)).toNat) (λi σ H2=>aE H H2/\∃ (rs:List R5) (v5 v6 v7 v8 v9 v10 v11:Option V),σ = [some (.ref a),some (.int n),some (.int g),some (.ref l),some (.int (m:Nat)),v5,v6,v7,v8,v9,v10,v11]/\XH K H2 l rs/\rs.length=i/\∀ r∈rs,r.Ok n)
   ⟨s0,[],_,_,_,_,_,_,_,rfl,⟨[],Kc,⟨rfl,λi q x e=>by cases e⟩⟩,rfl,λr hr'=>absurd hr' (by simp)⟩ ?_ ?_
  ·rintro i σ H2 Nf zZ hi ⟨s2,rs,v5,v6,v7,v8,v9,v10,v11,rfl,⟨qs,hl2,z8⟩,ei,ok⟩
   rw[eU]
   have hi':i < m:=by simpa using hi
   have h2:2<=n:=h2 (by omega)
   refine bF λNx b9=>?_
   refine⟨_,rfl,_,rfl,_,_,rfl,rfl,a,cs,_,rfl,s2.seq hS,by omega,?_⟩
   dsimp only[gX]
   generalize cs.getD _ 0=c
   refine b9 _ _ ?_
   clear b9 Nx
   obtain⟨o1,o2,o3,o4,o5⟩:=VL (n:=n) (x:=c / 2) (y:=c / 13) (by omega)
   refine⟨_,rfl,_,_,rfl,rfl,⟨by decide,by decide⟩,_,rfl,_,_,rfl,rfl,(by show (0:Int) < n; omega),?_⟩
   refine⟨_,rfl,_,_,rfl,rfl,_,rfl,_,_,rfl,rfl,⟨by decide,by decide⟩,_,rfl,_,_,rfl,rfl,_,_,rfl,rfl,(by show 0 < (n:Int) - 1; omega),_,_,rfl,rfl,_,rfl,_,_,rfl,rfl,(by show (0:Int) < n; omega),?_⟩
   dsimp only[gX]
   refine vO (λσ H3=>H3=H2/\∃ x y:Int,(0<=x/\x < n/\0<=y/\y < n/\x≠y)/\σ = [some (.ref a),some (.int n),some (.int g),some (.ref l),some (.int (m:Nat)),some (.int (i:Nat)),some (.int c),some (.int x),some (.int y),v9,v10,v11]) ?_ λN' nx=>?_
   case refine_2 =>
    refine⟨_,rfl,_,rfl,_,_,rfl,rfl,_,_,rfl,rfl,_,rfl,kH (λe=>?_) (λe=>?_)⟩
    ·have e:(i:Int) < (n:Int) - 1:=of_decide_eq_true e
     refine⟨_,rfl,_,_,rfl,rfl,?_⟩
     refine⟨_,rfl,_,_,rfl,rfl,⟨by decide,by decide⟩,_,rfl,_,_,rfl,rfl,_,_,rfl,rfl,(by show (0:Int) < (i:Int) + 1; omega),nx _ _ ⟨rfl,(i:Int) + 1,c / 2 % ((i:Int) + 1),?_,rfl⟩⟩
     have q1:=bR (c / 2) (show (i:Int) + 1≠0 by omega)
     have q2:=bY (c / 2) (show (0:Int) < (i:Int) + 1 by omega)
     omega
    ·exact nx _ _ ⟨rfl,_,_,⟨o1,o2,o3,o4,o5⟩,rfl⟩
   clear o1 o2 o3 o4 o5
   rintro σ H3 ⟨rfl,x,y,⟨x0,xn,y0,yn,xy⟩,rfl⟩
   refine⟨_,rfl,_,_,rfl,rfl,⟨by decide,by decide⟩,?_⟩
   dsimp only[gX]
   generalize c / 97=rt
   refine⟨_,rfl,_,_,rfl,rfl,(by show (0:Int) < 3; decide),_,_,rfl,rfl,?_⟩
   dsimp only[gX]
   refine vO (λσ H4=>H4=H3/\∃ z:Int,1<=z/\σ = [some (.ref a),some (.int n),some (.int g),some (.ref l),some (.int (m:Nat)),some (.int (i:Nat)),some (.int c),some (.int x),some (.int y),some (.int rt),some (.int z),v11]) ?_ λN' nx=>?_
   case refine_2 =>
    refine⟨_,rfl,_,_,rfl,rfl,⟨by decide,by decide⟩,_,_,rfl,rfl,(by show (0:Int) < 3; decide),rfl,_,rfl,kH (λe=>?_) (λe=>?_)⟩
    ·refine⟨_,rfl,_,_,rfl,rfl,⟨by decide,by decide⟩,_,_,rfl,rfl,⟨by decide,by decide,by decide⟩,_,_,rfl,rfl,_,_,rfl,rfl,(by show (0:Int) < 10 ^ (60:Int).toNat - 1; decide),_,_,rfl,rfl,nx _ _ ⟨rfl,_,?_,rfl⟩⟩
     have:=bR (rt / 9) (show (10:Int) ^ (60:Int).toNat - 1≠0 by decide)
     omega
    ·refine nx _ _ ⟨rfl,_,?_,rfl⟩
     have:=bR rt (show (3:Int)≠0 by decide)
     omega
   rintro σ H4 ⟨rfl,z,hz,rfl⟩
   refine⟨_,rfl,_,_,rfl,rfl,⟨by decide,by decide⟩,_,_,rfl,rfl,(by show (0:Int) < 7; decide),_,_,rfl,rfl,?_⟩
   dsimp only[gX]
   refine vO (λσ H5=>H5=H4/\∃ e:Int,1<=e/\e<=7/\σ = [some (.ref a),some (.int n),some (.int g),some (.ref l),some (.int (m:Nat)),some (.int (i:Nat)),some (.int c),some (.int x),some (.int y),some (.int rt),some (.int z),some (.int e)]) ?_ λN' nx=>?_
   case refine_2 =>
    have q1:=bR (rt / 11) (show (7:Int)≠0 by decide)
    have q2:=bY (rt / 11) (show (0:Int) < 7 by decide)
    refine⟨_,rfl,_,_,rfl,rfl,⟨by decide,by decide⟩,_,_,rfl,rfl,(by show (0:Int) < 4; decide),_,_,rfl,rfl,_,rfl,kH (λe=>?_) (λe=>?_)⟩
    ·have b:=Wd (x:=1 + rt / 11 % 7) (by omega) (by omega) hg
     exact⟨_,rfl,_,rfl,_,_,rfl,rfl,⟨by omega,by omega,by decide⟩,_,_,rfl,rfl,nx _ _ ⟨rfl,_,b.1,b.2,rfl⟩⟩
    ·exact nx _ _ ⟨rfl,_,by omega,by omega,rfl⟩
   rintro σ H5 ⟨rfl,le,le1,le7,rfl⟩
   refine vO (λσ H6=>aE H5 H6/\∃ x y:Int,(0<=x/\x < n/\0<=y/\y < n/\x≠y)/\σ = [some (.ref a),some (.int n),some (.int g),some (.ref l),some (.int (m:Nat)),some (.int (i:Nat)),some (.int c),some (.int x),some (.int y),some (.int rt),some (.int z),some (.int le)]) ?_ λN' nx=>?_
   case refine_2 =>
    refine⟨_,rfl,_,_,rfl,rfl,(by show (0:Int) < 2; decide),rfl,_,rfl,kH (λe=>?_) (λe=>?_)⟩
    ·exact⟨_,rfl,_,rfl,_,_,rfl,nx _ _ ⟨aE.refl _,y,x,⟨y0,yn,x0,xn,bT xy⟩,rfl⟩⟩
    ·exact nx _ _ ⟨aE.refl _,x,y,⟨x0,xn,y0,yn,xy⟩,rfl⟩
   clear x0 xn y0 yn xy x y
   rintro σ H6 ⟨s6,x,y,⟨x0,xn,y0,yn,xy⟩,rfl⟩
   have hl6:=s6 _ _ hl2
   refine⟨_,rfl,.inl ⟨rfl,_,bL.of hl6⟩,_,rfl,_,rfl,_,rfl,_,rfl,_,_,rfl,rfl,⟨by decide,by decide⟩,_,_,rfl,rfl,(by show (0:Int) < 4; decide),_,_,rfl,rfl,_,rfl,(by show 5<=sizeLine; decide),λq hq=>?_⟩
   have u7:=aE.new (o:=.tup [V.int x,.int y,.int z,.int (1 + rt / 5 % 4),.int le]) hq
   have h77:=ay (H:=H6) (a:=q) (o:=.tup [V.int x,.int y,.int z,.int (1 + rt / 5 % 4),.int le])
   generalize upd H6 q (.tup [V.int x,.int y,.int z,.int (1 + rt / 5 % 4),.int le])=H7 at u7 h77
   have s67:=s6.trans u7
   have U6:=s67 _ _ hl2
   have ae3:=z8.mono λb x=>s67.b5
   have q1:=bR (rt / 5) (show (4:Int)≠0 by decide)
   have q2:=bY (rt / 5) (show (0:Int) < 4 by decide)
   refine⟨l,_,_,rfl,rfl,U6,(by rw[ah,z8.len,ah]; exact b4 (by omega)),?_⟩
   refine zZ _ _ ⟨(s2.trans s67).out hl,rs++[⟨x,y,z,1 + rt / 5 % 4,le⟩],_,_,_,_,_,_,_,rfl,⟨qs++[q],?_,?_⟩,by rw[aB,ei]; rfl,λr hr'=>?_⟩
   ·rw[ay,aJ]; rfl
   ·rw[aJ]
    exact (cS.snoc ae3 (cN.of h77)).mono λb x=>cN.past U6 pq cZ
   ·rcases aY.mp hr' with w' | w'
    ·exact ok r w'
    ·rw[aP.mp w']
     exact⟨x0,xn,y0,yn,xy,hz,by show 1<=1 + rt / 5 % 4; omega,by show 1 + rt / 5 % 4<=4; omega,le1,le7⟩
  ·rintro σ H2 ⟨s2,rs,v5,v6,v7,v8,v9,v10,v11,rfl,hR,ei,ok⟩
   exact⟨_,rfl,k l H2 rs s2 hl hR (by rw[ei]; simpa using hm) ok (by rw[ei]; simpa using hnm)⟩
theorem JF{K:af}{H:Hp}{l q:Addr}{qs:List Addr}{cl:List (Nat × Nat)}{pl gr:Nat}(hl:H l=some (.lst (qs.map V.ref)))(z8:cS K H qs (cl.map λc=>[.int c.1,.int c.2]))(hq:H q=some (.tup [V.int pl,.int gr])) :
 (upd H l (.lst (qs.map V.ref++[.ref q]))) l=some (.lst ((qs++[q]).map V.ref))/\cS K (upd H l (.lst (qs.map V.ref++[.ref q]))) (qs++[q]) ((cl++[(pl,gr)]).map λc=>[.int c.1,.int c.2]):=by
 refine⟨by rw[ay,aJ]; rfl,?_⟩
 rw[aJ]
 exact (cS.snoc z8 (cN.of hq)).mono λb x=>cN.past hl pq cZ
inductive Ey(K:af)(vs:List V)(H:Hp)(Q:VK)(E:XK):Prop
 | mk (a:Addr) (cs:List Int) (n g:Nat):vs = [.ref a,.int n,.int g]->bL K H a (cs.map V.int)->1<=n->n<=10->g < 3->(∀ l (qs:List Addr) H' (cl:List (Nat × Nat)),aE H H'->H l=none->H' l=some (.lst (qs.map V.ref))->cS K H' qs (cl.map λc=>[.int c.1,.int c.2])->1<=cl.length->cl.length<=20->(∀ c∈cl,c.1 < n/\c.2 < 3)->Q (.ref l) H')->Ey K vs H Q E
theorem K6{t:Ad}(T:Txt K mg t):cj P w K mg base ig 2 t.oO t.tw ["_law_script","_law_size","_law_group"]  (Ey K):=by
 refine T.Ed.F.jK jC λH Q E hr h=>?_
 ·obtain⟨a,cs,n,g,rfl,hS,hn1,hn,hg,k⟩:=h
  refine⟨_,(ao (sS 3 jC (ji gY)) (ao (sS 4 jC (xL (ji (Kh aA aA aA)) (bf c7 (bf dZ (cG (fq T) hr T.fB (mZ (pv 0) aA)) aA) aA))) (ao (fS (eu rfl T.gK (gC (bf eZ aA (bf c7 (bf dZ (cG (fq T) hr T.fB (mZ (pv 0) aA)) aA) (pv 4))))) (gT 5 jC) (ao (sS 6 jC (bf dZ (cG (fq T) hr T.fB (mZ (pv 0) (bf eZ aA (bf c7 (pv 5) aA)))) (bf eZ aA (bf J3 aA (bf dZ (pv 5) aA))))) (ao (sS 7 jC (bf c7 (pv 6) (pv 1))) (bw (bX (qT lH (bf c7 (bf dZ (pv 6) aA) aA) aA) (oE (p9 bq bz bx eB (pv 3) (gC (fK (mZ (pv 7) (bf c7 (bf eZ (bf eZ (pv 2) aA) (bf c7 (bf dZ (pv 6) aA) aA)) aA)))))) (oE (p9 bq bz bx eB (pv 3) (gC (fK (mZ (pv 7) (pv 2))))))))))) (oR (pv 3))))),?_⟩
  try dsimp only[bJ]
  refine⟨aV _,λl hl=>?_⟩
  have s0:=aE.new (o:=.lst []) hl
  have Kc:=ay (H:=H) (a:=l) (o:=.lst [])
  generalize upd H l (.lst [])=H0 at s0 Kc
  refine⟨(by show 3<=sizeLine; decide),λl1 h1=>?_⟩
  have u1:=aE.new (o:=.lst [V.int 6,V.int 6,V.int 20]) h1
  have h11:=ay (H:=H0) (a:=l1) (o:=.lst [V.int 6,V.int 6,V.int 20])
  have hl1:=u1 _ _ Kc
  have s1:=s0.trans u1
  generalize upd H0 l1 (.lst [V.int 6,V.int 6,V.int 20])=H1 at u1 h11 hl1 s1
  refine⟨_,rfl,a,cs,1,rfl,s1.seq hS,by decide,_,_,rfl,rfl,⟨by decide,by decide⟩,_,_,rfl,rfl,(by show (0:Int) < 3; decide),?_⟩
  obtain⟨mo,hmo,emo⟩:=aeH (x:=6) (y:=6) (z:=20) (i:=cs.getD (1:Int).toNat 0 / 7 % 3) 1 20 (by decide) (by decide) (by decide) (bR _ (by decide)) (bY _ (by decide))
  refine⟨l1,_,_,_,rfl,rfl,bL.of h11,emo,?_⟩
  dsimp only[gX]
  refine⟨_,rfl,a,cs,1,rfl,s1.seq hS,by decide,_,_,rfl,rfl,⟨by decide,by decide⟩,_,rfl,_,_,rfl,rfl,(by show 0 < mo; omega),_,_,rfl,rfl,?_⟩
  have q1:=bR (cs.getD (1:Int).toNat 0 / 36) (show mo≠0 by omega)
  have q2:=bY (cs.getD (1:Int).toNat 0 / 36) (show 0 < mo by omega)
  obtain⟨m,em⟩ : ∃ m:Nat,1 + cs.getD (1:Int).toNat 0 / 36 % mo=(m:Int):=⟨(1 + cs.getD (1:Int).toNat 0 / 36 % mo).toNat,by omega⟩
  have hm1:1<=m:=by omega
  have ajn:m<=20:=by omega
  refine⟨(m:Int),(by rw[<- em]),by omega,by omega,?_⟩
  refine qS (n:=m) (λi σ H2=>aE H H2/\∃ (qs:List Addr) (cl:List (Nat × Nat)) (v5 v6 v7:Option V),σ = [some (.ref a),some (.int n),some (.int g),some (.ref l),some (.int mo),v5,v6,v7]/\H2 l=some (.lst (qs.map V.ref))/\cS K H2 qs (cl.map λc=>[.int c.1,.int c.2])/\cl.length=i/\∀ c∈cl,c.1 < n/\c.2 < 3)
   ⟨s1,[],[],_,_,_,rfl,hl1,⟨rfl,λi q x e=>by cases e⟩,rfl,λc hc=>absurd hc (by simp)⟩ ?_ ?_
  ·rintro i σ H2 Nf zZ hi ⟨s2,qs,cl,v5,v6,v7,rfl,hl2,z8,ei,ok⟩
   rw[eU]
   have e6:=bR (i:Int) (show (6:Int)≠0 by decide)
   have d6:0<=(i:Int) / 6:=Int.ediv_nonneg (by omega) (by decide)
   have d6':(i:Int) / 6<=20:=by omega
   refine⟨_,rfl,_,rfl,_,_,rfl,rfl,(by show (0:Int) < 6; decide),_,_,rfl,rfl,a,cs,_,rfl,s2.seq hS,by omega,_,rfl,_,_,rfl,rfl,⟨by decide,by decide⟩,_,_,rfl,rfl,.inl ⟨by decide,by decide⟩,_,_,rfl,rfl,_,_,rfl,rfl,⟨by omega,by omega⟩,?_⟩
   dsimp only[gX]
   generalize cs.getD _ 0 / (1 + 7 * ((i:Int) / 6))=c
   refine⟨_,rfl,_,rfl,_,_,rfl,rfl,(by show (0:Int) < n; omega),?_⟩
   dsimp only[gX]
   have p1:=bR c (show (n:Int)≠0 by omega)
   have p2:=bY c (show (0:Int) < n by omega)
   obtain⟨pl,epl⟩ : ∃ pl:Nat,c % (n:Int)=(pl:Int):=⟨(c % (n:Int)).toNat,by omega⟩
   rw[epl]
   have hpl:pl < n:=by omega
   refine⟨_,rfl,_,_,rfl,rfl,⟨by decide,by decide⟩,_,_,rfl,rfl,(by show (0:Int) < 4; decide),rfl,_,rfl,kH (λe=>?_) (λe=>?_)⟩
   ·have g1:=bR ((g:Int) + 1 + c / 44 % 2) (show (3:Int)≠0 by decide)
    have g2:=bY ((g:Int) + 1 + c / 44 % 2) (show (0:Int) < 3 by decide)
    obtain⟨gr,egr⟩ : ∃ gr:Nat,((g:Int) + 1 + c / 44 % 2) % 3=(gr:Int):=⟨(((g:Int) + 1 + c / 44 % 2) % 3).toNat,by omega⟩
    refine⟨_,rfl,.inl ⟨rfl,_,bL.of hl2⟩,_,rfl,_,rfl,_,_,rfl,rfl,_,rfl,_,_,rfl,rfl,⟨by decide,by decide⟩,_,_,rfl,rfl,(by show (0:Int) < 2; decide),_,_,rfl,rfl,_,_,rfl,rfl,(by show (0:Int) < 3; decide),(by show 2<=sizeLine; decide),λq hq=>?_⟩
    have u3:=aE.new (o:=.tup [V.int pl,.int (((g:Int) + 1 + c / 44 % 2) % 3)]) hq
    have h33:=ay (H:=H2) (a:=q) (o:=.tup [V.int pl,.int (((g:Int) + 1 + c / 44 % 2) % 3)])
    generalize upd H2 q (.tup [V.int pl,.int (((g:Int) + 1 + c / 44 % 2) % 3)])=H3 at u3 h33
    rw[egr] at h33
    have hl3:=u3 _ _ hl2
    obtain⟨p1,p2⟩:=JF (cl:=cl) hl3 (z8.mono λb x=>u3.b5) h33
    refine⟨l,_,_,rfl,rfl,hl3,(by rw[ah,z8.len,ah]; exact b4 (by omega)),zZ _ _ ⟨(s2.trans u3).out hl,_,_,_,_,_,rfl,p1,p2,by rw[aB,ei]; rfl,λz hz=>?_⟩⟩
    rcases aY.mp hz with w' | w'
    ·exact ok z w'
    ·rw[aP.mp w']
     exact⟨hpl,by show gr < 3; omega⟩
   ·refine⟨_,rfl,.inl ⟨rfl,_,bL.of hl2⟩,_,rfl,_,rfl,(by show 2<=sizeLine; decide),λq hq=>?_⟩
    have u3:=aE.new (o:=.tup [V.int pl,.int g]) hq
    have h33:=ay (H:=H2) (a:=q) (o:=.tup [V.int pl,.int g])
    generalize upd H2 q (.tup [V.int pl,.int g])=H3 at u3 h33
    have hl3:=u3 _ _ hl2
    obtain⟨p1,p2⟩:=JF (cl:=cl) hl3 (z8.mono λb x=>u3.b5) h33
    refine⟨l,_,_,rfl,rfl,hl3,(by rw[ah,z8.len,ah]; exact b4 (by omega)),zZ _ _ ⟨(s2.trans u3).out hl,_,_,_,_,_,rfl,p1,p2,by rw[aB,ei]; rfl,λz hz=>?_⟩⟩
    rcases aY.mp hz with w' | w'
    ·exact ok z w'
    ·rw[aP.mp w']
     exact⟨hpl,hg⟩
  ·rintro σ H2 ⟨s2,qs,cl,v5,v6,v7,rfl,hl2,z8,ei,ok⟩
   exact⟨_,rfl,k l qs H2 cl s2 hl hl2 z8 (by omega) (by omega) ok⟩
inductive Hy(K:af)(CT C:Addr)(vs:List V)(H:Hp)(Q:VK)(E:XK):Prop
 | mk (p dx tp ln lr:Addr) (ns:List Int) (rs:List R5):vs = [.ref p,.ref tp]->H p=some (.ins C dx [])->cY K CT H tp ln lr ns rs->rs.length<=20->(∀ r∈rs,1<=r.d/\r.d<=4)->(∀ lu (ls:List Addr) H',H lu=none->(∀ l∈ls,H l=none)->lu ∉ ls->ls.Nodup->ls.length=rs.length->H' p=some (.ins C dx [("town",.ref tp),("upright",.ref lu)])->H' lu=some (.lst (ls.map V.ref))->(∀ (j:Nat) l r,ls[j]?=some l->rs[j]?=some r->H' l=some (.lst (bO (au r.d.toNat))))->(∀ b o,H b=some o->b≠p->H' b=some o)->Q .fh H')->Hy K CT C vs H Q E
theorem CC{t:Ad}(T:Txt K mg t):cj P w K mg base ig 3 t.g7 t.jD ["self","town"]  (Hy K t.bK t.cT):=by
 refine T.vn.F.jK sP λH Q E hr h=>?_
 ·obtain⟨p,dx,tp,ln,lr,ns,rs,rfl,hp,hT,AI,hw,k⟩:=h
  refine⟨_,(ao (fJ (pv 0) (pv 1) rfl) (bw (fJ (pv 0) (gA (kO sP ["rope","town"] [none,some 1]) rfl (eu rfl T.gK (gC (be (pv 1) rfl))) (λ_ _ _ _=>by exact (gS 0 yC)) (λ_ _ _ _=>by exact lJ) (λ_ _ _ _=>by exact (gj (NT rfl) (by rfl) T.uq boot_list (gC (gj LL (by rfl) T.gK boot_range (gC (cG (MA T) hr T.GD (mZ (pv 1) (pv 0))))))))) rfl))),?_⟩
  try dsimp only[bJ]
  obtain⟨⟨dt,htp⟩,_⟩:=id hT
  have XI:tp≠p:=xu htp hp λz=>by have:=(HO.ins.inj z).2.2; cases this
  refine⟨_,rfl,_,rfl,p,_,dx,[],rfl,hp,T.iT,T.mH,by decide,?_⟩
  rw[dc (names:=[]) rfl rfl]
  generalize eH1:upd H p (.ins t.cT dx ([]++[(Str.ofString "town",V.ref tp)]))=H1
  have k1:∀ b o,H b=some o->b≠p->H1 b=some o:=λb o e nb=>by rw[<- eH1,aI nb]; exact e
  have hp1:H1 p=some (.ins t.cT dx [(Str.ofString "town",V.ref tp)]):=by rw[<- eH1]; exact ay
  have hT1:=hT.but k1 hp XI
  have f1:∀ {l:Addr},H1 l=none->H l=none:=λ{l} e=>by
   cases q:H l with
   | none=>rfl
   | some o =>
    by_cases z:l=p
    ·rw[z,hp1] at e; cases e
    ·have:=k1 _ _ q z
     rw[e] at this; cases this
  obtain⟨⟨dt,ae5⟩,_⟩:=id hT1
  refine⟨_,rfl,tp,_,dt,_,_,rfl,ae5,T.fc,T.tE,rfl,_,rfl,(by show -(2 ^ 62)<=((rs.length:Nat):Int); omega),(by show ((rs.length:Nat):Int) < 2 ^ 62; omega),λacc hacc=>?_⟩
  refine gB (n:=(((rs.length:Nat):Int)).toNat) (λi ys H2=>∃ ls:List Addr,ys=ls.map V.ref/\ls.length=i/\ls.Nodup/\(∀ l∈ls,H l=none/\H2 l≠none)/\∀ (j:Nat) l r,ls[j]?=some l->rs[j]?=some r->H2 l=some (.lst (bO (au r.d.toNat)))/\l≠acc) hacc AU qQ ⟨[],rfl,rfl,ki,λl hl=>(by cases hl),λj l r e=>by simp at e⟩ ?_ ?_
  ·rintro i ys H2 hi s2 hy ⟨ls,rfl,el,nd,hfr,hls⟩ x H3 ⟨rfl,rfl⟩
   have hi:i < rs.length:=by simpa using hi
   have RA:rs[i]?=some rs[i]:=aa hi
   have wi:=hw _ (aQ RA)
   obtain⟨d,ed⟩ : ∃ d:Nat,rs[i].d=(d:Int):=⟨rs[i].d.toNat,by omega⟩
   refine⟨_,rfl,_,rfl,tp,ln,lr,ns,rs,i,rs[i],(by show [V.ref tp,V.int (0 + (i:Int))]=_; rw[eU]),hT1.mono s2,RA,?_⟩
   refine⟨rs[i].d,rfl,λq hq=>?_⟩
   have s3:=aE.new (o:=.R9 0 rs[i].d) hq
   refine⟨q,d,rfl,(by rw[ay,ed]),by omega,λl hl=>?_⟩
   have Kc:H l=none:=f1 ((s2.trans s3).free hl)
   have nl:l ∉ ls:=λz=>(hfr l z).2 (s3.free hl)
   have s4:=s3.trans (aE.new (o:=.lst ((au d).map λk=>V.int (k:Nat))) hl)
   have Uo:=s4 _ _ hy
   have MI:(upd (upd H3 q (.R9 0 rs[i].d)) l (.lst ((au d).map λk=>V.int (k:Nat)))) l=some (.lst (bO (au d))):=ay
   have XJ:l≠acc:=(aR (s3 _ _ hy) hl).symm
   generalize upd (upd H3 q (.R9 0 rs[i].d)) l (.lst ((au d).map λk=>V.int (k:Nat)))=H4 at s4 Uo MI
   refine eV hacc (by simpa using hi) (s2.trans s4) Uo (by rw[ah,el]; exact b4 (by omega)) ⟨ls++[l],by rw[aJ]; rfl,by rw[aB,el]; rfl,Gr.AV nd nl,λl' hl'=>?_,λj l' r e1 e2=>?_⟩
   ·rcases aY.mp hl' with z | z
    ·obtain⟨z1,z2⟩:=hfr l' z
     refine⟨z1,?_⟩
     by_cases q:l'=acc
     ·rw[q,ay]; exact aT _
     ·rw[aI q]
      cases e:H3 l' with
      | none=>exact absurd e z2
      | some o=>rw[s4 _ _ e]; exact aT _
    ·rw[aP.mp z]
     exact⟨Kc,by rw[aI XJ,MI]; exact aT _⟩
   ·rcases Fd e1 with e1 | ⟨rfl,rfl⟩
    ·obtain⟨z1,z2⟩:=hls j l' r e1 e2
     exact⟨by rw[aI z2]; exact s4 _ _ z1,z2⟩
    ·rw[el,RA] at e2
     cases e2
     rw[ed,dP]
     exact⟨by rw[aI XJ]; exact MI,XJ⟩
  ·rintro ys H2 s2 hy ⟨ls,rfl,el,nd,hfr,hls⟩
   have el:ls.length=rs.length:=by simpa using el
   have npa:p≠acc:=aR hp1 hacc
   have hp2:=s2 _ _ hp1
   refine⟨_,rfl,p,_,dx,_,rfl,hp2,T.iT,T.mJ,(by show 1 < 1000; decide),?_⟩
   rw[dc (names:=["town"]) rfl (by decide +kernel)]
   refine k acc ls _ (f1 hacc) (λl hl=>(hfr l hl).1) (λz=>?_) nd el ay (by rw[aI (bT npa)]; exact hy) (λj l r e1 e2=>?_) λb o e nb=>by rw[aI nb]; exact s2 _ _ (k1 _ _ e nb)
   ·obtain⟨j,hj⟩:=i9 z
    have hjl:=(ai.mp hj).1
    exact (hls j acc _ hj (aa (el ▸ hjl))).2 rfl
   ·have z:=(hls j l r e1 e2).1
    rw[aI (xu z hp2 (by intro z; cases z))]
    exact z
inductive Ez(K:af)(C:Addr)(vs:List V)(H:Hp)(Q:VK)(E:XK):Prop
 | mk (tp ln lr:Addr) (ns:List Int) (rs:List R5):vs = [.ref tp]->cY K C H tp ln lr ns rs->ns.length<=12->(∀ l (qs:List Addr) H',aE H H'->H l=none->H' l=some (.lst (qs.map V.ref))->cS K H' qs (gp ns.length (xU ns))->Q (.ref l) H')->Ez K C vs H Q E
theorem II{t:Ad}(T:Txt K mg t):cj P w K mg base ig 3 t.l6 t.qz ["town"]  (Ez K t.bK):=by
 refine T.Cj.F.jK Ak λH Q E hr h=>?_
 ·obtain⟨tp,ln,lr,ns,rs,rfl,hT,h12,k⟩:=h
  refine⟨_,(oR (gA (kO Ak ["house","town"] [none,some 0]) rfl (eu rfl T.gK (gC (be (pv 0) rfl))) (λ_ _ _ _=>by exact (gS 0 Dr)) (λ_ _ _ _=>by exact lJ) (λ_ _ _ _=>by exact (cG (Hl T) hr T.Dt (mZ (pv 1) (pv 0)))))),?_⟩
  try dsimp only[bJ]
  obtain⟨⟨dt,htp⟩,_⟩:=id hT
  refine⟨_,rfl,tp,_,dt,_,_,rfl,htp,T.fc,T.ly,rfl,(ns.length:Int),rfl,by omega,by omega,λacc hacc=>?_⟩
  refine gB (n:=((ns.length:Int)).toNat) (λi ys H2=>∃ qs:List Addr,ys=qs.map V.ref/\cS K H2 qs (gp i (xU ns))) hacc AU qQ ⟨[],rfl,⟨rfl,λi q x e=>by cases e⟩⟩ ?_ ?_
  ·rintro i ys H2 hi s2 hy ⟨qs,rfl,z8⟩ x H3 ⟨rfl,rfl⟩
   have hi:i < ns.length:=by simpa using hi
   rw[eU]
   refine⟨_,rfl,_,rfl,tp,ln,lr,ns,rs,i,ns[i],rfl,hT.mono s2,aa hi,λq H4 s4 hq=>?_⟩
   have Uo:=s4 _ _ hy
   have hl:qs.length=i:=by rw[z8.len]; simp[gp]
   refine eV hacc (by simpa using hi) (s2.trans s4) Uo (by rw[ah]; exact b4 (by omega)) ⟨qs++[q],by rw[aJ]; rfl,?_⟩
   have e:gp (i + 1) (xU ns)=gp i (xU ns)++[cU ⟨ns[i],0,0,-1⟩]:=by
    unfold gp
    rw[gk,aJ,bg,uP]
    congr 3
    unfold xU
    rw[av,aa hi]
    rfl
   rw[e]
   exact (cS.snoc (z8.mono λb x=>s4.b5) hq).mono λb x=>cN.past Uo pq cZ
  ·rintro ys H2 s2 hy ⟨qs,rfl,z8⟩
   rw[show ((ns.length:Int)).toNat=ns.length from rfl] at z8
   exact k acc qs H2 s2 hacc hy z8
inductive zB(K:af)(C:Addr)(vs:List V)(H:Hp)(Q:VK)(E:XK):Prop
 | mk (tp ln lr lc:Addr) (ns:List Int) (rs:List R5) (qs:List Addr) (cl:List (Nat × Nat)):vs = [.ref tp,.ref lc]->cY K C H tp ln lr ns rs->bL K H lc (qs.map V.ref)->cS K H qs (cl.map λc=>[.int c.1,.int c.2])->cl.length<=20->(∀ c∈cl,c.1 < ns.length/\c.2 < 3)->Q .fh H->zB K C vs H Q E
theorem DM{t:Ad}(T:Txt K mg t):cj P w K mg base ig 1 t.iL t.kC ["town","callers"]  (zB K t.bK):=by
 refine T.xC.F.jK uZ λH Q E hr h=>?_
 ·obtain⟨tp,ln,lr,lc,ns,rs,qs,cl,rfl,hT,hL,z8,AI,hok,k⟩:=h
  refine⟨_,(ao (bX (qT Lv (lS T.gf (pv 1)) (lG rfl T.GL (v:=.int 20) ⟨_,rfl⟩)) dm aX) (bw (fS (fE (pv 1)) (gT 2 uZ) (ao (bX (qT qO (lS T.gf (pv 2)) aA) dm aX) (ao (bX (gW (jg p8 p7 aA (xT (pv 2) aA) (be (pv 0) rfl))) dm aX) (bw (bX (gW (jg p8 p7 aA (xT (pv 2) aA) (lS T.gf (lG rfl T.mO (v:=.ref t.d9) rfl)))) dm aX))))))),?_⟩
  try dsimp only[bJ]
  obtain⟨⟨dt,htp⟩,_⟩:=id hT
  have eq:qs.length=cl.length:=by rw[z8.len,ah]
  refine⟨_,rfl,lc,_,rfl,.inl hL,_,_,rfl,rfl,_,rfl,Je (decide_eq_false (by rw[ah]; omega)) ?_⟩
  refine⟨_,rfl,lc,rfl,⟨_,hL⟩,qN (K:=K) (a:=lc) (xs:=qs.map V.ref) (λi σ H2=>H2=H/\∃ v2:Option V,σ = [some (.ref tp),some (.ref lc),v2]) ⟨rfl,_,rfl⟩ (λi σ H2 _ z=>by rw[z.1]; exact hL) ?_ ?_⟩
  ·rintro i y σ H2 hi ⟨rfl,v2,rfl⟩
   have hil:=(ai.mp hi).1
   rw[ah] at hil
   have hic:i < cl.length:=eq ▸ hil
   have ey:y = .ref qs[i]:=by
    rw[ak,aa hil] at hi
    exact (aL hi).symm
   subst ey
   have hq:cN K H2 qs[i] [.int cl[i].1,.int cl[i].2]:=z8.at' i _ _ (aa hil) (by rw[ak,aa hic]; rfl)
   obtain⟨o1,o2⟩:=hok _ (aK hic)
   generalize qs[i]=q at hq
   generalize cl[i]=cc at hq o1 o2
   obtain⟨c1,c2⟩:=cc
   refine⟨_,rfl,q,_,rfl,.inr hq,rfl,_,rfl,Je (by show (!decide (V.int 2=V.int 2))=false; rw[decide_eq_true rfl]; rfl) ?_⟩
   refine⟨_,rfl,q,_,_,_,rfl,rfl,hq,rfl,_,_,rfl,rfl,_,rfl,?_⟩
   rw[decide_eq_true (show (0:Int)<=(c1:Int) by omega)]
   refine fL ⟨_,rfl,tp,_,dt,_,_,rfl,htp,T.fc,T.ly,rfl,_,_,rfl,rfl,_,rfl,?_⟩
   rw[decide_eq_true (show (c1:Int) < (ns.length:Int) by have:c1 < ns.length:=o1; omega)]
   refine cP ?_
   refine⟨_,rfl,q,_,_,_,rfl,rfl,hq,rfl,_,_,rfl,rfl,_,rfl,?_⟩
   rw[decide_eq_true (show (0:Int)<=(c2:Int) by omega)]
   refine fL ⟨_,_,rfl,.inr (T.f6 _),_,_,rfl,rfl,_,rfl,?_⟩
   have e3:decide ((c2:Int) < ((([.int 1,.int 2,.int 4]:List V).length:Nat):Int))=true:=decide_eq_true (by show (c2:Int) < 3; have:c2 < 3:=o2; omega)
   rw[e3]
   exact cP ⟨rfl,_,rfl⟩
  ·rintro σ H2 ⟨rfl,v2,rfl⟩
   exact k
end
noncomputable abbrev nc(t:Ad):NC:=⟨t.cJ,t.cT,t.e9,t.iM,t.ia,t.fH,t.iD⟩
section
variable{P:Program}{w:World}{K:af}{mg:Str->Option Value}{base:Heap}
inductive JG(K:af)(CT:Addr)(c:NC)(vs:List V)(H:Hp)(Q:VK)(E:XK):Prop
 | mk (p dx tp ln lr lc:Addr) (ns:List Int) (rs:List R5) (qs:List Addr) (cl:List (Nat × Nat)):vs = [.ref p,.ref tp,.ref lc]->H p=some (.ins c.eY dx [])->cY K CT H tp ln lr ns rs->ns.length<=12->rs.length<=20->(∀ r∈rs,1<=r.d/\r.d<=4)->bL K H lc (qs.map V.ref)->cS K H qs (cl.map λc=>[.int c.1,.int c.2])->cl.length<=20->(∀ c∈cl,c.1 < ns.length/\c.2 < 3)->(∀ F H',d8 K c H' F p tp ns.length (S0 ns rs cl)->(∀ b o,H b=some o->b≠p->H' b=some o)->(∀ b,F b->b=p∨H b=none)->Q .fh H')->JG K CT c vs H Q E
noncomputable abbrev nf(fs:List (Str × V))(k:Str)(v:V):List (Str × V):=fs++[(k,v)]
structure EA(K:af)(CT:Addr)(H:Hp)(tp ln lr lc:Addr)(ns:List Int)(rs:List R5)(qs:List Addr)(cl:List (Nat × Nat)):Prop where
 AW:cY K CT H tp ln lr ns rs
 We:bL K H lc (qs.map V.ref)
 tup:cS K H qs (cl.map λc=>[.int c.1,.int c.2])
theorem EA.mono{CT tp ln lr lc:Addr}{H H':Hp}{ns:List Int}{rs:List R5}{qs:List Addr}{cl:List (Nat × Nat)}(h:EA K CT H tp ln lr lc ns rs qs cl)(s:aE H H'):EA K CT H' tp ln lr lc ns rs qs cl:=⟨h.AW.mono s,s.seq h.We,h.tup.mono λb x=>s.b5⟩
theorem EA.put{CT tp ln lr lc p C dx:Addr}{H:Hp}{ns:List Int}{rs:List R5}{qs:List Addr}{cl:List (Nat × Nat)}{fs:List (Str × V)}{o:HO}(h:EA K CT H tp ln lr lc ns rs qs cl)(hp:H p=some (.ins C dx fs))(n:tp≠p):EA K CT (upd H p o) tp ln lr lc ns rs qs cl :=
 ⟨h.AW.but (λb u e nb=>by rw[aI nb]; exact e) hp n,bL.past hp Tv cZ h.We,h.tup.mono λb x=>cN.past hp lK cZ⟩
theorem vD(la:Nat->Addr)(i:Nat)(l:Addr):(au (i + 1)).map (λg=>V.ref (gq la i l g))=(au i).map (λg=>V.ref (la g))++[.ref l]:=by
 rw[gk,aJ,bg,uP,cH]
 congr 1
 refine dF λg hg=>?_
 rw[eT (bu (bE.mp hg))]
noncomputable def ZD(loc:Role->Addr)(acc:Addr)(la:Nat->Addr):Role->Addr
 | .yo=>acc
 | .rows g=>la g
 | r=>loc r
noncomputable def obR(ob:Role->Option HO)(la:Nat->Addr)(rq:Nat->List Addr)(i:Nat):Role->Option HO
 | .yo=>some (.lst ((au i).map λg=>.ref (la g)))
 | .rows g=>if g < i then some (.lst ((rq g).map V.ref)) else none
 | r=>ob r
noncomputable def Wf(loc:Role->Addr)(acc:Addr)(lb ld:Nat->Addr):Role->Addr
 | .lN=>acc
 | .book g=>lb g
 | .eW g=>ld g
 | r=>loc r
noncomputable def obB(C:Addr)(ob:Role->Option HO)(OJ lb ld:Nat->Addr)(i:Nat):Role->Option HO
 | .lN=>some (.lst ((au i).map λg=>.ref (lb g)))
 | .book g=>if g < i then some (.ins C (OJ g) [("kept",.ref (ld g))]) else none
 | .eW g=>if g < i then some (.dT []) else none
 | r=>ob r
noncomputable def ab3(loc:Role->Addr)(acc:Addr)(lh:Nat->Addr):Role->Addr
 | .lO=>acc
 | .handed g=>lh g
 | r=>loc r
noncomputable def obH(ob:Role->Option HO)(lh:Nat->Addr)(i:Nat):Role->Option HO
 | .lO=>some (.lst ((au i).map λg=>.ref (lh g)))
 | .handed g=>if g < i then some (.lst []) else none
 | r=>ob r
noncomputable def dxF(dx Uv:Addr)(OJ:Nat->Addr):Role->Addr
 | .eY=>dx
 | .d7=>Uv
 | .book g=>OJ g
 | _=>0
noncomputable def ab4(p sp lu:Addr)(ls:List Addr)(acc:Addr)(la:Nat->Addr)(acb:Addr)(lb ld:Nat->Addr)(U7 Wg Wh:Addr)(lh:Nat->Addr)(acl ZE:Addr):Role->Addr
 | .eY=>p
 | .d7=>sp
 | .iw=>lu
 | .mY i=>ls.getD i 0
 | .yo=>acc
 | .rows g=>la g
 | .lN=>acb
 | .book g=>lb g
 | .eW g=>ld g
 | .aH=>U7
 | .groups=>Wg
 | .lO=>Wh
 | .handed i=>lh i
 | .cK=>acl
 | .kK=>ZE
 | _=>0
theorem IJ{t:Ad}(T:Txt K mg t):cj P w K mg base ig 5 t.lY t.qw ["self","town","callers"]  (JG K t.bK (nc t)):=by
 refine T.Cg.F.jK iR λH Q E hr h=>?_
 ·obtain⟨p,dx,tp,ln,lr,lc,ns,rs,qs,cl,rfl,hp,hT,h12,AI,hw,hL,z8,Uw,hok,k⟩:=h
  refine⟨_,(ao (fD (cG (DM T) hr T.xC (mZ (pv 1) (pv 2)))) (ao (fJ (pv 0) (pv 1) rfl) (ao (fJ (pv 0) (cI T.vn (CC T) hr T.Ro (gC (pv 1))) rfl) (ao (fJ (pv 0) (gA (kO iR ["bit","town"] [none,some 1]) rfl (Nm (lG rfl T.mO (v:=.ref t.d9) rfl)) (λ_ _ _ _=>by exact (gS 0 Dl)) (λ_ _ _ _=>by exact lJ) (λ_ _ _ _=>by exact (cG (II T) hr T.Cj (gC (pv 1))))) rfl) (ao (fJ (pv 0) (gA (kO iR ["bit"] [none]) rfl (Nm (lG rfl T.mO (v:=.ref t.d9) rfl)) (λ_ _ _ _=>by exact (gS 0 Dm)) (λ_ _ _ _=>by exact lJ) (λ_ _ _ _=>by exact (SE T.ug.M (Hv T) (hr.mono (by decide)) rfl T.Zp T.ug.B .nil jR))) rfl) (ao (fJ (pv 0) (gA (kO iR ["caller"] [none]) rfl (fE (pv 2)) (λ_ _ _ _=>by exact (gS 0 Dn)) (λ_ _ _ _=>by exact lJ) (λ_ _ _ _=>by exact (yT K (pv 0) aA))) rfl) (ao (fJ (pv 0) (gA (kO iR ["caller"] [none]) rfl (fE (pv 2)) (λ_ _ _ _=>by exact (gS 0 Dp)) (λ_ _ _ _=>by exact lJ) (λ_ _ _ _=>by exact (yT K (pv 0) aA))) rfl) (ao (fJ (pv 0) (gA (kO iR ["caller"] [none]) rfl (fE (pv 2)) (λ_ _ _ _=>by exact (gS 0 Dq)) (λ_ _ _ _=>by exact lJ) (λ_ _ _ _=>by exact (ji gY))) rfl) (ao (fJ (pv 0) (ji gY) rfl) (bw (fJ (pv 0) (ji gY) rfl))))))))))),?_⟩
  try dsimp only[bJ]
  obtain⟨⟨dt,htp⟩,htn,vs,htr,_⟩:=id hT
  have XI:tp≠p:=xu htp hp λz=>by have:=(HO.ins.inj z).2.2; cases this
  refine bF λNx b9=>?_
  refine⟨_,rfl,_,rfl,tp,ln,lr,lc,ns,rs,qs,cl,rfl,hT,hL,z8,Uw,hok,b9 _ _ ?_⟩
  clear b9 Nx
  have B0:EH H H p (λ_=>p) (λr=>if r = .eY then some (.ins t.cJ dx []) else none):=by
   refine⟨⟨λr o e=>?_,λr q h1 h2 _=>?_⟩,rfl,by simp,λb o e _=>e,λb hb=>.inl ?_⟩
   ·by_cases z:r = .eY
    ·rw[if_pos z] at e; cases e; exact hp
    ·rw[if_neg z] at e; cases e
   ·have g:∀ {r:Role},(if r=Role.eY then some (HO.ins t.cJ dx []) else none)≠none->r = .eY:=λ{r} h=>by
     by_cases z:r = .eY
     ·exact z
     ·rw[if_neg z] at h; exact absurd rfl h
    rw[g h1,g h2]
   ·obtain⟨_,_,e⟩:=hb
    exact e.symm
  refine bF λNx b9=>?_
  refine⟨_,rfl,_,rfl,p,_,dx,[],rfl,hp,T.bS,T.nv,by decide,?_⟩
  rw[dc (names:=[]) rfl rfl]
  refine b9 _ _ ?_
  clear b9 Nx
  have B1:=B0.put (.ins t.cJ dx ([]++[(Str.ofString "town",V.ref tp)]))
  have hT1:cY K t.bK (upd H p (.ins t.cJ dx ([]++[(Str.ofString "town",V.ref tp)]))) tp ln lr ns rs:=hT.but (λb o e n=>by rw[aI n]; exact e) hp XI
  have hp1:=ay (H:=H) (a:=p) (o:=.ins t.cJ dx ([]++[(Str.ofString "town",V.ref tp)]))
  have kq1:∀ b x,cN K H b x->cN K (upd H p (.ins t.cJ dx ([]++[(Str.ofString "town",V.ref tp)]))) b x:=λb x=>cN.past hp lK cZ
  have hL1:=bL.past hp Tv (cZ (o:=.ins t.cJ dx ([]++[(Str.ofString "town",V.ref tp)]))) hL
  have ZF:=z8.mono kq1
  generalize upd H p (.ins t.cJ dx ([]++[(Str.ofString "town",V.ref tp)]))=H1 at B1 hT1 hp1 hL1 ZF
  clear B0 kq1 z8 hL hT
  refine bF λNx b9=>?_
  refine⟨_,rfl,λsp Uv nsp ZG hne=>?_⟩
  have t2:aE H1 (upd (upd H1 Uv (.own sp)) sp (.ins t.cT Uv [])):=(aE.new ZG).trans (aE.new (by rw[aI (bT hne)]; exact nsp))
  refine⟨sp,Uv,tp,ln,lr,ns,rs,rfl,ay,hT1.mono t2,AI,hw,λlu ls H2 To hls nlu nd el h2p h2u h2w kp=>⟨rfl,?_⟩⟩
  have s2:aE H1 H2:=λb o e=>kp b o (t2 b o e) (aR e nsp)
  have ab6:H1 lu=none:=t2.free To
  have ab7:∀ l∈ls,H1 l=none:=λl hl=>t2.free (hls l hl)
  have OS:vP H2 (VW sp lu ls) (Rj t.cT Uv tp lu ls (rs.map λr=>au r.d.toNat)):=by
   refine Zg h2p h2u (by rw[ah]; exact el) (λi l w' e1 e2=>?_) nd nlu
   rw[ak] at e2
   cases e3:rs[i]? with
   | none=>rw[e3] at e2; cases e2
   | some r=>rw[e3] at e2; cases e2; exact h2w i l r e1 e3
  have B2:=B1.join OS rfl (λr hr'=>by
   cases r <;> first | exact absurd rfl hr' | skip
   ·exact nsp
   ·exact ab6
   ·rename_i i
    show H1 (ls.getD i 0)=none
    by_cases z:i < ls.length
    ·rw[av,aa z]
     exact ab7 _ (aK z)
    ·exact absurd (show ((rs.map λr:R5=>au r.d.toNat)[i]?.map λw=>HO.lst (bO w))=none by rw[iG (by rw[ah]; omega)]; rfl) hr') s2
  have ab8:EA K t.bK H2 tp ln lr lc ns rs qs cl:=⟨hT1.mono s2,s2.seq hL1,ZF.mono λb x=>s2.b5⟩
  have hp2:=s2 _ _ hp1
  refine⟨_,rfl,p,_,dx,_,rfl,hp2,T.bS,T.uo,(by show 1 < 1000; decide),?_⟩
  rw[dc (names:=["town"]) rfl (by decide +kernel)]
  refine b9 _ _ ?_
  clear b9 Nx
  have B3:=B2.put (.ins t.cJ dx (([]++[(Str.ofString "town",V.ref tp)])++[(Str.ofString "strands",V.ref sp)]))
  have ZH:=ab8.put hp2 XI (o:=.ins t.cJ dx (([]++[(Str.ofString "town",V.ref tp)])++[(Str.ofString "strands",V.ref sp)]))
  have hp3:=ay (H:=H2) (a:=p) (o:=.ins t.cJ dx (([]++[(Str.ofString "town",V.ref tp)])++[(Str.ofString "strands",V.ref sp)]))
  generalize upd H2 p (.ins t.cJ dx (([]++[(Str.ofString "town",V.ref tp)])++[(Str.ofString "strands",V.ref sp)]))=H3 at B3 ZH hp3
  clear ab8 hp2 B1 hT1 hp1 hL1 ZF OS kp t2 s2 h2p h2u h2w ab6 ab7 To hls B2
  generalize ae8:(λr=>if (Rj t.cT Uv tp lu ls (rs.map λr:R5=>au r.d.toNat) r).isSome=true then VW sp lu ls r else p)=Hz at B3
  generalize eob:(iW (λr=>if (Rj t.cT Uv tp lu ls (rs.map λr:R5=>au r.d.toNat) r).isSome=true then Rj t.cT Uv tp lu ls (rs.map λr:R5=>au r.d.toNat) r else iW (λr=>if r = .eY then some (.ins t.cJ dx []) else none) .eY (.ins t.cJ dx ([]++[(Str.ofString "town",V.ref tp)])) r) .eY (.ins t.cJ dx (([]++[(Str.ofString "town",V.ref tp)])++[(Str.ofString "strands",V.ref sp)])))=ob3 at B3
  refine bF λNx b9=>?_
  refine⟨_,rfl,⟨_,T.f6 _⟩,λacc hacc=>?_⟩
  refine gB (n:=3) (λi ys Hx=>∃ (la:Nat->Addr) (rq:Nat->List Addr),ys=(au i).map (λg=>.ref (la g))/\EH H Hx p (ZD Hz acc la) (obR ob3 la rq i)/\(∀ g,g < i->cS K Hx (rq g) (gp ns.length (xU ns)))) hacc (NX (T.f6 _)) (F7 (T.f6 _)) ?_ ?_ ?_
  ·refine⟨λ_=>0,λ_=>[],rfl,(B3.new hacc (r:=.yo) (by decide) (.lst [])).ext (λr=>?_) (λr hr'=>?_),λg hg=>absurd hg (by omega)⟩
   ·cases r <;> first | rfl | skip
    rename_i g
    show ob3 (.rows g)=_
    rw[show ob3 (.rows g)=none by rw[<- eob]; rfl]
    show none=(if g < 0 then some (HO.lst (([]:List Addr).map V.ref)) else none)
    rw[if_neg (Nat.not_lt_zero g)]
   ·cases r <;> first | rfl | skip
    rename_i g
    exact absurd (show ob3 (.rows g)=none by rw[<- eob]; rfl) hr'
  ·rintro i ys Hx hi sx hy ⟨la,rq,rfl,B,hR⟩ x H4 ⟨rfl,hx⟩
   refine⟨_,rfl,tp,ln,lr,ns,rs,rfl,(ZH.mono sx).AW,h12,λl HP H5 s5 hl h5 ht=>?_⟩
   have hy5:=s5 _ _ hy
   have B5:=((B.add s5 hl h5 (r:=.rows i) (λz=>by cases z)).Zf (r:=.yo) (aT _) (λz=>by cases z) (.lst ((au i).map (λg=>V.ref (la g))++[.ref l])))
   have hl5:l≠acc:=(aR hy hl).symm
   refine eV hacc hi (sx.trans s5) hy5 (by rw[ah,aZ]; exact b4 (by omega)) ⟨gq la i l,gq rq i HP,(vD la i l).symm,B5.ext (λr=>?_) (λr hr'=>?_),λg hg=>?_⟩
   ·cases r <;> first | rfl | skip
    ·show some (HO.lst _)=some (HO.lst _)
     rw[vD]
    ·rename_i g
     show iW (obR ob3 la rq i) (.rows i) _ (.rows g)=if g < i + 1 then some (HO.lst ((gq rq i HP g).map V.ref)) else none
     by_cases z:g=i
     ·subst z
      rw[dQ,if_pos (by omega),cH]
     ·rw[dh (λe=>z (by cases e; rfl)),eT z]
      show (if g < i then some (HO.lst ((rq g).map V.ref)) else none)=_
      by_cases z2:g < i
      ·rw[if_pos z2,if_pos (by omega)]
      ·rw[if_neg z2,if_neg (by omega)]
   ·cases r <;> first | rfl | skip
    rename_i g
    show xS (ZD Hz acc la) (.rows i) l (.rows g)=gq la i l g
    by_cases z:g=i
    ·subst z
     rw[iQ,cH]
    ·rw[iZ (λe=>z (by cases e; rfl)),eT z]
     rfl
   ·by_cases z:g=i
    ·subst z
     rw[cH]
     exact ht.mono λb x=>cN.past hy5 pq cZ
    ·rw[eT z]
     exact ((hR g (by omega)).mono λb x=>s5.b5).mono λb x=>cN.past hy5 pq cZ
  rintro ys H4 s4 hy ⟨la,rq,rfl,B4,hR4⟩
  have ace:=ZH.mono s4
  have U5:=s4 _ _ hp3
  refine⟨_,rfl,p,_,dx,_,rfl,U5,T.bS,T.jL,(by show 2 < 1000; decide),?_⟩
  rw[dc (names:=["town","strands"]) rfl (by decide +kernel)]
  refine b9 _ _ ?_
  clear b9 Nx
  generalize eo5:HO.ins t.cJ dx ((([]++[(Str.ofString "town",V.ref tp)])++[(Str.ofString "strands",V.ref sp)])++[(Str.ofString "rows_by_group",V.ref acc)])=o5
  have B5:=B4.put o5
  have ZI:=ace.put U5 XI (o:=o5)
  have hp5:=ay (H:=H4) (a:=p) (o:=o5)
  have hR5:∀ g,g < 3->cS K (upd H4 p o5) (rq g) (gp ns.length (xU ns)):=λg hg=>(hR4 g hg).mono λb x=>cN.past U5 lK cZ
  generalize upd H4 p o5=H5 at B5 ZI hp5 hR5
  clear ace U5 hR4 B4 hy s4 hacc
  generalize aci:ZD Hz acc la=Ux at B5
  generalize ZJ:iW (obR ob3 la rq 3) .eY o5=Wi at B5
  have n5:∀ g,Wi .lN=none/\Wi (.book g)=none/\Wi (.eW g)=none:=λg=>by rw[<- ZJ,<- eob]; exact⟨rfl,rfl,rfl⟩
  refine bF λNx b9=>?_
  refine⟨_,rfl,⟨_,T.f6 _⟩,λacb Wj=>?_⟩
  refine gB (n:=3) (λi ys Hx=>∃ (lb ld OJ:Nat->Addr),ys=(au i).map (λg=>.ref (lb g))/\EH H Hx p (Wf Ux acb lb ld) (obB t.e9 Wi OJ lb ld i)) Wj (NX (T.f6 _)) (F7 (T.f6 _)) ?_ ?_ ?_
  ·refine⟨λ_=>0,λ_=>0,λ_=>0,rfl,(B5.new Wj (r:=.lN) (λz=>by cases z) (.lst [])).ext (λr=>?_) (λr hr'=>?_)⟩
   ·cases r <;> first | rfl | skip
    ·rename_i g
     show Wi (.book g)=(if g < 0 then some (HO.ins t.e9 0 [("kept",.ref 0)]) else none)
     rw[if_neg (Nat.not_lt_zero g)]
     exact (n5 g).2.1
    ·rename_i g
     show Wi (.eW g)=(if g < 0 then some (HO.dT []) else none)
     rw[if_neg (Nat.not_lt_zero g)]
     exact (n5 g).2.2
   ·cases r <;> first | rfl | skip
    ·rename_i g
     exact absurd (n5 g).2.1 hr'
    ·rename_i g
     exact absurd (n5 g).2.2 hr'
  ·rintro i ys Hx hi sx hy ⟨lb,ld,OJ,rfl,B⟩ x H6 ⟨rfl,hx⟩
   refine λbp CL nbp afc hne=>?_
   have t6:aE H6 (upd (upd H6 CL (.own bp)) bp (.ins t.e9 CL [])):=(aE.new afc).trans (aE.new (by rw[aI (bT hne)]; exact nbp))
   refine⟨bp,CL,rfl,ay,λd H7 hd hB kp=>⟨rfl,?_⟩⟩
   have s7:aE H6 H7:=λb o e=>kp b o (t6 b o e) (aR e nbp)
   have hd6:H6 d=none:=t6.free hd
   obtain⟨⟨Tz,h7b⟩,h7d⟩:=hB
   have nbd:bp≠d:=Oe h7b h7d (λe=>by cases e)
   have sm:aE H6 (hide H7 d):=λb o e=>by
    have nb:b≠d:=aR e hd6
    show (if b=d then none else H7 b)=some o
    rw[if_neg nb]
    exact s7 _ _ e
   have sm2:aE (hide H7 d) H7:=λb o e=>by
    have e:(if b=d then none else H7 b)=some o:=e
    by_cases z:b=d
    ·rw[if_pos z] at e; cases e
    ·rw[if_neg z] at e; exact e
   have hmb:(hide H7 d) bp=some (.ins t.e9 Tz [("kept",.ref d)]):=by
    show (if bp=d then none else H7 bp)=_
    rw[if_neg nbd]
    exact h7b
   have hmd:(hide H7 d) d=none:=if_pos rfl
   have B1:=B.add sm nbp hmb (r:=.book i) (λz=>by cases z)
   have B2:=B1.add sm2 hmd h7d (r:=.eW i) (λz=>by cases z)
   have B3:=B2.Zf (r:=.lN) (aT _) (λz=>by cases z) (.lst ((au i).map (λg=>V.ref (lb g))++[.ref bp]))
   refine eV Wj hi (sx.trans s7) (s7 _ _ hy) (by rw[ah,aZ]; exact b4 (by omega)) ⟨gq lb i bp,gq ld i d,gq OJ i Tz,(vD lb i bp).symm,B3.ext (λr=>?_) (λr hr'=>?_)⟩
   ·cases r <;> first | rfl | skip
    ·show some (HO.lst _)=some (HO.lst _)
     rw[vD]
    ·rename_i g
     show iW (obB t.e9 Wi OJ lb ld i) (.book i) _ (.book g)=if g < i + 1 then some (HO.ins t.e9 (gq OJ i Tz g) [("kept",.ref (gq ld i d g))]) else none
     by_cases z:g=i
     ·subst z
      rw[dQ,if_pos (by omega),cH,cH]
     ·rw[dh (λe=>z (by cases e; rfl)),eT z,eT z]
      show (if g < i then some (HO.ins t.e9 (OJ g) [("kept",.ref (ld g))]) else none)=_
      by_cases z2:g < i
      ·rw[if_pos z2,if_pos (by omega)]
      ·rw[if_neg z2,if_neg (by omega)]
    ·rename_i g
     show iW (iW (obB t.e9 Wi OJ lb ld i) (.book i) _) (.eW i) _ (.eW g)=if g < i + 1 then some (HO.dT []) else none
     by_cases z:g=i
     ·subst z
      rw[dQ,if_pos (by omega)]
      rfl
     ·rw[dh (λe=>z (by cases e; rfl))]
      show (if g < i then some (HO.dT []) else none)=_
      by_cases z2:g < i
      ·rw[if_pos z2,if_pos (by omega)]
      ·rw[if_neg z2,if_neg (by omega)]
   ·cases r <;> first | rfl | skip
    ·rename_i g
     show xS (Wf Ux acb lb ld) (.book i) bp (.book g)=gq lb i bp g
     by_cases z:g=i
     ·subst z
      rw[iQ,cH]
     ·rw[iZ (λe=>z (by cases e; rfl)),eT z]
      rfl
    ·rename_i g
     show xS (xS (Wf Ux acb lb ld) (.book i) bp) (.eW i) d (.eW g)=gq ld i d g
     by_cases z:g=i
     ·subst z
      rw[iQ,cH]
     ·rw[iZ (λe=>z (by cases e; rfl)),eT z]
      rfl
  rintro ys H6 s6 hy ⟨lb,ld,OJ,rfl,B6⟩
  have acj:=ZI.mono s6
  have hR6:∀ g,g < 3->cS K H6 (rq g) (gp ns.length (xU ns)):=λg hg=>(hR5 g hg).mono λb x=>s6.b5
  have hp6:=s6 _ _ hp5
  subst eo5
  refine⟨_,rfl,p,_,dx,_,rfl,hp6,T.bS,T.tG,(by show 3 < 1000; decide),?_⟩
  rw[dc (names:=["town","strands","rows_by_group"]) rfl (by decide +kernel)]
  refine b9 _ _ ?_
  clear b9 Nx
  generalize eo7:HO.ins t.cJ dx (((([]++[(Str.ofString "town",V.ref tp)])++[(Str.ofString "strands",V.ref sp)])++[(Str.ofString "rows_by_group",V.ref acc)])++[(Str.ofString "books",V.ref acb)])=o7
  have B7:=B6.put o7
  have OL:=acj.put hp6 XI (o:=o7)
  have hp7:=ay (H:=H6) (a:=p) (o:=o7)
  have hR7:∀ g,g < 3->cS K (upd H6 p o7) (rq g) (gp ns.length (xU ns)):=λg hg=>(hR6 g hg).mono λb x=>cN.past hp6 lK cZ
  generalize upd H6 p o7=H7 at B7 OL hp7 hR7
  clear ZI acj hp5 hp6 hR5 hR6 B5 B6 hy s6 Wj
  have ecl:(qs.map V.ref).length=cl.length:=by rw[ah,OL.tup.len,ah]
  have acm:∀ {i:Nat} {x:V} {Hx:Hp},(qs.map V.ref)[i]?=some x->EA K t.bK Hx tp ln lr lc ns rs qs cl->∃ (hi:i < cl.length) (q:Addr),x = .ref q/\cN K Hx q [.int cl[i].1,.int cl[i].2]:=λ{i x Hx} hx ev=>by
   have hi:=(ai.mp hx).1
   rw[ecl] at hi
   have hq:i < qs.length:=by rw[<- ah (f:=V.ref),ecl]; exact hi
   refine⟨hi,qs[i],?_,ev.tup.at' i _ _ (aa hq) (by rw[ak,aa hi]; rfl)⟩
   rw[ak,aa hq] at hx
   exact (aL hx).symm
  refine bF λNx b9=>?_
  refine⟨_,rfl,lc,rfl,⟨_,OL.We⟩,λU7 ZK=>?_⟩
  refine Pw (λi=>cl[i]?.map λc=>V.int (c.1:Nat)) ZK OL.We (by omega) (λi x Hx R S hx sx h1 h2=>?_) (λH8 s8 hy=>?_)
  ·obtain⟨hi,q,rfl,hq⟩:=acm hx (OL.mono sx)
   exact⟨_,rfl,q,_,_,_,rfl,rfl,hq,rfl,h1 _ _ (aE.refl _) (by rw[aa hi]; rfl)⟩
  rw[ecl,Gi] at hy
  have B8:=B7.add s8 ZK hy (r:=.aH) (λz=>by cases z)
  have acn:=OL.mono s8
  have hp8:=s8 _ _ hp7
  subst eo7
  refine⟨_,rfl,p,_,dx,_,rfl,hp8,T.bS,T.oQ,(by show 4 < 1000; decide),?_⟩
  rw[dc (names:=["town","strands","rows_by_group","books"]) rfl (by decide +kernel)]
  refine b9 _ _ ?_
  clear b9 Nx
  generalize eo9:HO.ins t.cJ dx ((((([]++[(Str.ofString "town",V.ref tp)])++[(Str.ofString "strands",V.ref sp)])++[(Str.ofString "rows_by_group",V.ref acc)])++[(Str.ofString "books",V.ref acb)])++[(Str.ofString "homes",V.ref U7)])=o9
  have B9:=B8.put o9
  have RB:=acn.put hp8 XI (o:=o9)
  have hp9:=ay (H:=H8) (a:=p) (o:=o9)
  have hR9:∀ g,g < 3->cS K (upd H8 p o9) (rq g) (gp ns.length (xU ns)):=λg hg=>((hR7 g hg).mono λb x=>s8.b5).mono λb x=>cN.past hp8 lK cZ
  generalize upd H8 p o9=H9 at B9 RB hp9 hR9
  clear OL acn hp7 hp8 hR7 B7 B8 hy s8 ZK
  refine bF λNx b9=>?_
  refine⟨_,rfl,lc,rfl,⟨_,RB.We⟩,λWg ZL=>?_⟩
  refine Pw (λi=>cl[i]?.map λc=>V.int (c.2:Nat)) ZL RB.We (by omega) (λi x Hx R S hx sx h1 h2=>?_) (λE9 FT hy=>?_)
  ·obtain⟨hi,q,rfl,hq⟩:=acm hx (RB.mono sx)
   exact⟨_,rfl,q,_,_,_,rfl,rfl,hq,rfl,h1 _ _ (aE.refl _) (by rw[aa hi]; rfl)⟩
  rw[ecl,Gi] at hy
  have B10:=B9.add FT ZL hy (r:=.groups) (λz=>by cases z)
  have XM:=RB.mono FT
  have Wk:=FT _ _ hp9
  subst eo9
  refine⟨_,rfl,p,_,dx,_,rfl,Wk,T.bS,T.mK,(by show 5 < 1000; decide),?_⟩
  rw[dc (names:=["town","strands","rows_by_group","books","homes"]) rfl (by decide +kernel)]
  refine b9 _ _ ?_
  clear b9 Nx
  generalize afi:HO.ins t.cJ dx (((((([]++[(Str.ofString "town",V.ref tp)])++[(Str.ofString "strands",V.ref sp)])++[(Str.ofString "rows_by_group",V.ref acc)])++[(Str.ofString "books",V.ref acb)])++[(Str.ofString "homes",V.ref U7)])++[(Str.ofString "groups",V.ref Wg)])=Wl
  have B11:=B10.put Wl
  have P7:=XM.put Wk XI (o:=Wl)
  have ZM:=ay (H:=E9) (a:=p) (o:=Wl)
  have ZN:∀ g,g < 3->cS K (upd E9 p Wl) (rq g) (gp ns.length (xU ns)):=λg hg=>((hR9 g hg).mono λb x=>FT.b5).mono λb x=>cN.past Wk lK cZ
  generalize upd E9 p Wl=Pg at B11 P7 ZM ZN
  clear RB XM hp9 Wk hR9 B9 B10 hy FT ZL
  generalize ZO:xS (xS (Wf Ux acb lb ld) .aH U7) .groups Wg=XN at B11
  generalize XO:iW (iW (iW (iW (iW (obB t.e9 Wi OJ lb ld 3) .eY _) .aH _) .eY _) .groups _) .eY Wl=Uy at B11
  have n11:∀ g,Uy .lO=none/\Uy (.handed g)=none:=λg=>by rw[<- XO,<- ZJ,<- eob]; exact⟨rfl,rfl⟩
  refine bF λNx b9=>?_
  refine⟨_,rfl,lc,rfl,⟨_,P7.We⟩,λWh Wm=>?_⟩
  refine gB (n:=(qs.map V.ref).length) (λi ys Hx=>∃ lh:Nat->Addr,ys=(au i).map (λg=>.ref (lh g))/\EH H Hx p (ab3 XN Wh lh) (obH Uy lh i)) Wm (yg P7.We) (oz P7.We) ?_ ?_ ?_
  ·refine⟨λ_=>0,rfl,(B11.new Wm (r:=.lO) (λz=>by cases z) (.lst [])).ext (λr=>?_) (λr hr'=>?_)⟩
   ·cases r <;> first | rfl | skip
    rename_i g
    show Uy (.handed g)=(if g < 0 then some (HO.lst []) else none)
    rw[if_neg (Nat.not_lt_zero g)]
    exact (n11 g).2
   ·cases r <;> first | rfl | skip
    rename_i g
    exact absurd (n11 g).2 hr'
  ·rintro i ys Hx hi sx hy ⟨lh,rfl,B⟩ x XQ ⟨rfl,hx⟩
   refine⟨aV _,λl hl=>?_⟩
   have u:=aE.new (o:=.lst []) hl
   have B3:=(B.new hl (r:=.handed i) (λz=>by cases z) (.lst [])).Zf (r:=.lO) (aT _) (λz=>by cases z) (.lst ((au i).map (λg=>V.ref (lh g))++[.ref l]))
   refine eV Wm hi (sx.trans u) (u _ _ hy) (by rw[ah,aZ]; exact b4 (by omega)) ⟨gq lh i l,(vD lh i l).symm,B3.ext (λr=>?_) (λr hr'=>?_)⟩
   ·cases r <;> first | rfl | skip
    ·show some (HO.lst _)=some (HO.lst _)
     rw[vD]
    ·rename_i g
     show iW (obH Uy lh i) (.handed i) _ (.handed g)=if g < i + 1 then some (HO.lst []) else none
     by_cases z:g=i
     ·subst z
      rw[dQ,if_pos (by omega)]
     ·rw[dh (λe=>z (by cases e; rfl))]
      show (if g < i then some (HO.lst []) else none)=_
      by_cases z2:g < i
      ·rw[if_pos z2,if_pos (by omega)]
      ·rw[if_neg z2,if_neg (by omega)]
   ·cases r <;> first | rfl | skip
    rename_i g
    show xS (ab3 XN Wh lh) (.handed i) l (.handed g)=gq lh i l g
    by_cases z:g=i
    ·subst z
     rw[iQ,cH]
    ·rw[iZ (λe=>z (by cases e; rfl)),eT z]
     rfl
  rintro ys XQ s12 hy ⟨lh,rfl,B12⟩
  rw[ecl] at B12
  have acq:∀ g,g < 3->cS K XQ (rq g) (gp ns.length (xU ns)):=λg hg=>(ZN g hg).mono λb x=>s12.b5
  have ZP:=s12 _ _ ZM
  subst afi
  refine⟨_,rfl,p,_,dx,_,rfl,ZP,T.bS,T.Ck,(by show 6 < 1000; decide),?_⟩
  rw[dc (names:=["town","strands","rows_by_group","books","homes","groups"]) rfl (by decide +kernel)]
  refine b9 _ _ ?_
  clear b9 Nx
  generalize afk:HO.ins t.cJ dx ((((((([]++[(Str.ofString "town",V.ref tp)])++[(Str.ofString "strands",V.ref sp)])++[(Str.ofString "rows_by_group",V.ref acc)])++[(Str.ofString "books",V.ref acb)])++[(Str.ofString "homes",V.ref U7)])++[(Str.ofString "groups",V.ref Wg)])++[(Str.ofString "handed",V.ref Wh)])=o13
  have B13:=B12.put o13
  have ZQ:=ay (H:=XQ) (a:=p) (o:=o13)
  have ZR:∀ g,g < 3->cS K (upd XQ p o13) (rq g) (gp ns.length (xU ns)):=λg hg=>(acq g hg).mono λb x=>cN.past ZP lK cZ
  generalize upd XQ p o13=H13 at B13 ZQ ZR
  clear ZM ZP ZN acq B11 B12 hy s12 Wm
  refine bF λNx b9=>?_
  refine⟨aV _,λacl ZS=>?_⟩
  have B14:=B13.new ZS (r:=.cK) (λz=>by cases z) (.lst [])
  have u14:=aE.new (o:=.lst []) ZS
  have Wn:=u14 _ _ ZQ
  have ZT:∀ g,g < 3->cS K (upd H13 acl (.lst [])) (rq g) (gp ns.length (xU ns)):=λg hg=>(ZR g hg).mono λb x=>u14.b5
  generalize upd H13 acl (.lst [])=H14 at B14 Wn ZT
  subst afk
  refine⟨_,rfl,p,_,dx,_,rfl,Wn,T.bS,T.dY,(by show 7 < 1000; decide),?_⟩
  rw[dc (names:=["town","strands","rows_by_group","books","homes","groups","handed"]) rfl (by decide +kernel)]
  refine b9 _ _ ?_
  clear b9 Nx
  generalize afp:HO.ins t.cJ dx (((((((([]++[(Str.ofString "town",V.ref tp)])++[(Str.ofString "strands",V.ref sp)])++[(Str.ofString "rows_by_group",V.ref acc)])++[(Str.ofString "books",V.ref acb)])++[(Str.ofString "homes",V.ref U7)])++[(Str.ofString "groups",V.ref Wg)])++[(Str.ofString "handed",V.ref Wh)])++[(Str.ofString "letters",V.ref acl)])=o15
  have B15:=B14.put o15
  have acr:=ay (H:=H14) (a:=p) (o:=o15)
  have acs:∀ g,g < 3->cS K (upd H14 p o15) (rq g) (gp ns.length (xU ns)):=λg hg=>(ZT g hg).mono λb x=>cN.past Wn lK cZ
  generalize upd H14 p o15=H15 at B15 acr acs
  clear ZQ Wn ZR ZT B13 B14 ZS u14
  refine⟨aV _,λZE acu=>?_⟩
  have B16:=B15.new acu (r:=.kK) (λz=>by cases z) (.lst [])
  have u16:=aE.new (o:=.lst []) acu
  have ZU:=u16 _ _ acr
  have acv:∀ g,g < 3->cS K (upd H15 ZE (.lst [])) (rq g) (gp ns.length (xU ns)):=λg hg=>(acs g hg).mono λb x=>u16.b5
  generalize upd H15 ZE (.lst [])=H16 at B16 ZU acv
  subst afp
  refine⟨_,rfl,p,_,dx,_,rfl,ZU,T.bS,T.mL,(by show 8 < 1000; decide),?_⟩
  rw[dc (names:=["town","strands","rows_by_group","books","homes","groups","handed","letters"]) rfl (by decide +kernel)]
  generalize afq:HO.ins t.cJ dx ((((((((([]++[(Str.ofString "town",V.ref tp)])++[(Str.ofString "strands",V.ref sp)])++[(Str.ofString "rows_by_group",V.ref acc)])++[(Str.ofString "books",V.ref acb)])++[(Str.ofString "homes",V.ref U7)])++[(Str.ofString "groups",V.ref Wg)])++[(Str.ofString "handed",V.ref Wh)])++[(Str.ofString "letters",V.ref acl)])++[(Str.ofString "copies",V.ref ZE)])=o17
  have B17:=B16.put o17
  have acw:∀ g,g < 3->cS K (upd H16 p o17) (rq g) (gp ns.length (xU ns)):=λg hg=>(acv g hg).mono λb x=>cN.past ZU lK cZ
  generalize upd H16 p o17=H17 at B17 acw
  subst afq XO ZO ZJ aci eob ae8
  have hws:(rs.map λr:R5=>au r.d.toNat).length=ls.length:=by rw[ah]; exact el.symm
  have afs:ls.map V.ref=(au (rs.map λr:R5=>au r.d.toNat).length).map λi=>V.ref (ls.getD i 0):=by
   rw[hws]
   refine List.ext_getElem (by simp) λi h1 h2=>?_
   simp at h1
   simp[h1]
  have B18:EH H H17 p (ab4 p sp lu ls acc la acb lb ld U7 Wg Wh lh acl ZE) (desc (nc t) (dxF dx Uv OJ) tp (ab4 p sp lu ls acc la acb lb ld U7 Wg Wh lh acl ZE) ⟨rq,λ_=>[],[]⟩ (S0 ns rs cl)):=by
   refine B17.ext (λr=>?_) (λr hr'=>?_)
   ·cases r <;> first | rfl | skip
    case iw =>
     show some (HO.lst (ls.map V.ref))=some (HO.lst ((au (rs.map λr:R5=>au r.d.toNat).length).map λi=>V.ref (ls.getD i 0)))
     rw[<- afs]
    case mY j =>
     show (if ((rs.map λr:R5=>au r.d.toNat)[j]?.map λw=>HO.lst (bO w)).isSome=true then ((rs.map λr:R5=>au r.d.toNat)[j]?.map λw=>HO.lst (bO w)) else none)=((rs.map λr:R5=>au r.d.toNat)[j]?.map λw=>HO.lst (bO w))
     cases (rs.map λr:R5=>au r.d.toNat)[j]? <;> rfl
    case aH =>
     show some (HO.lst _)=some (HO.lst ((cl.map (·.1)).map _))
     rw[cC]
     rfl
    case groups =>
     show some (HO.lst _)=some (HO.lst ((cl.map (·.2)).map _))
     rw[cC]
     rfl
    case lO =>
     show some (HO.lst ((au cl.length).map λg=>V.ref (lh g)))=some (HO.lst ((au (cl.map λ_=>([]:List Nat)).length).map λg=>V.ref (lh g)))
     rw[ah]
    case handed j =>
     show (if j < cl.length then some (HO.lst []) else none)=((cl.map λ_=>([]:List Nat))[j]?.map λw=>HO.lst (bO w))
     rw[ak]
     by_cases z:j < cl.length
     ·rw[if_pos z,aa z]
      rfl
     ·rw[if_neg z,iG (by omega)]
      rfl
   ·cases r <;> first | rfl | exact absurd rfl hr' | skip
    case mY j =>
     show (if ((rs.map λr:R5=>au r.d.toNat)[j]?.map λw=>HO.lst (bO w)).isSome=true then ls.getD j 0 else p)=ls.getD j 0
     have hr':(if ((rs.map λr:R5=>au r.d.toNat)[j]?.map λw=>HO.lst (bO w)).isSome=true then ((rs.map λr:R5=>au r.d.toNat)[j]?.map λw=>HO.lst (bO w)) else none)≠none:=hr'
     cases e:(rs.map λr:R5=>au r.d.toNat)[j]? with
     | none=>rw[e] at hr'; exact absurd rfl hr'
     | some w'=>rfl
  refine k _ H17 ⟨_,dxF dx Uv OJ,⟨rq,λ_=>[],[]⟩,B18.np,B18.own,λb=>Iff.rfl,⟨acw,λi l e=>?_,⟨rfl,λi q x e=>by cases e⟩⟩⟩ B18.kp B18.fr
  cases e
inductive P8(K:af)(c:NC)(vs:List V)(H:Hp)(Q:VK)(E:XK):Prop
 | mk (F:Addr->Prop) (p tp:Addr) (n g:Nat) (s:NS):vs = [.ref p,.int g]->d8 K c H F p tp n s->g < 3->(∀ l (qs:List Addr) H',aE H H'->H l=none->H' l=some (.lst (qs.map V.ref))->cS K H' qs (gp n (s.R g))->Q (.ref l) H')->P8 K c vs H Q E
theorem tK{t:Ad}(T:Txt K mg t):cj P w K mg base ig 2 t.rH t.wg ["self","group"]  (P8 K (nc t)):=by
 refine T.rQ.F.jK L8 λH Q E hr h=>?_
 ·obtain⟨F,p,tp,n,g,st,rfl,⟨loc,dx,q,hp,O,hF,hT⟩,hg,k⟩:=h
  refine⟨_,(ao (fD (BJ (zA T) (hr.mono (by decide)) rfl T.gQ.g T.gQ.F.kp T.gQ.B .nil S8 (gC (pv 1)))) (oR (gj gI (by rfl) T.uq boot_list (gC (xL (be (pv 0) rfl) (pv 1)))))),?_⟩
  try dsimp only[bJ]
  have c9:=O.get .eY _ rfl
  rw[hp] at c9
  refine⟨_,rfl,g,rfl,λ_=>?_,λz=>absurd ⟨by omega,by omega⟩ z⟩
  refine⟨_,rfl,p,_,_,_,_,rfl,c9,T.bS,T.jL,rfl,_,rfl,loc .yo,_,_,_,rfl,rfl,bL.of (O.get .yo _ rfl),qX hg,loc (.rows g),_,rfl,.inl (bL.of (O.get (.rows g) _ (if_pos hg))),λl hl=>?_⟩
  have u:=aE.new (o:=.lst ((q.rq g).map V.ref)) hl
  exact k l (q.rq g) _ u hl ay ((hT.rows g hg).mono λb x=>u.b5)
inductive P9(K:af)(CT:Addr)(c:NC)(vs:List V)(H:Hp)(Q:VK)(E:XK):Prop
 | mk (F:Addr->Prop) (p tp ln lr:Addr) (ns:List Int) (rs:List R5) (s:NS) (g:Nat):vs = [.ref p,.int g]->NW K c CT H F p tp ln lr ns rs s->gO ns rs->AX ns rs s->g < 3->(∀ l H',aE H H'->H l=none->H' l=some (.lst (bO (Py rs s.ws g)))->Q (.ref l) H')->P9 K CT c vs H Q E
theorem zC{t:Ad}(T:Txt K mg t):cj P w K mg base ig 3 t.rJ t.wk ["self","group"]  (P9 K t.bK (nc t)):=by
 refine T.wB.F.jK Ma λH Q E hr h=>?_
 ·obtain⟨F,p,tp,ln,lr,ns,rs,st,g,rfl,N,ok,DN,hg,k⟩:=h
  refine⟨_,(oR (vI (be (pv 0) rfl) T.iT T.rP.m (EV T) (hr.mono (by decide)) T.rP.B .nil S8 (gC (pv 1)))),?_⟩
  try dsimp only[bJ]
  obtain⟨loc,dx,q,hp,O,hF,hT⟩:=N.eY
  have c9:=O.get .eY _ rfl
  rw[hp] at c9
  refine⟨_,rfl,p,_,_,_,_,rfl,c9,T.bS,T.uo,rfl,loc .d7,dx .d7,_,rfl,O.get .d7 _ rfl,rfl,_,rfl,loc .d7,tp,loc .iw,ln,lr,ns,rs,st.ws,g,rfl,N.AW,O.strAt,DN.wl,ok.m20,(λr hr'=>⟨(ok.ok r hr').e1,(ok.ok r hr').e7⟩),λgg l H' eg _ s' hl h'=>?_,λz=>absurd ⟨by omega,by omega⟩ z⟩
  have:gg=g:=by omega
  subst this
  exact k l H' s' hl h'
inductive MJ(K:af)(CT:Addr)(c:NC)(vs:List V)(H:Hp)(Q:VK)(E:XK):Prop
 | mk (F:Addr->Prop) (p tp ln lr:Addr) (ns:List Int) (rs:List R5) (s:NS) (o:gO ns rs) (g:Nat):vs = [.ref p,.int g]->NW K c CT H F p tp ln lr ns rs s->AX ns rs s->g < 3->(∀ l os H',aE H H'->H l=none->H' l=some (.lst (bO os))->ie (xV ns rs o s.ws g) (s.R g) os->os.length<=12->Q (.ref l) H')->MJ K CT c vs H Q E
theorem CD{t:Ad}(T:Txt K mg t):cj P w K mg base ig 6 t.oK t.sX ["self","group"]  (MJ K t.bK (nc t)):=by
 refine T.yK.F.jK Ky λH Q E hr h=>?_
 ·obtain⟨F,p,tp,ln,lr,ns,rs,st,ok,g,rfl,N,DN,hg,k⟩:=h
  refine⟨_,(oR (BJ (My T) (hr.mono (by decide)) rfl T.yN T.Ce.F.kp T.Ce.B .nil jR (Kh (be (pv 0) rfl) (cM (pv 0) T.bS T.wB (zC T) hr (gC (pv 1))) (cM (pv 0) T.bS T.rQ (tK T) hr (gC (pv 1)))))),?_⟩
  try dsimp only[bJ]
  obtain⟨loc,dx,q,hp,O,hF,hT⟩:=id N.eY
  have c9:=O.get .eY _ rfl
  rw[hp] at c9
  refine⟨_,rfl,p,_,_,_,_,rfl,c9,T.bS,T.nv,rfl,?_⟩
  refine⟨_,rfl,p,_,_,rfl,c9,rfl,_,rfl,F,p,tp,ln,lr,ns,rs,st,g,rfl,N,ok,DN,hg,λl1 H1 s1 hl1 h1=>?_⟩
  have N1:=N.mono s1
  refine⟨_,rfl,p,_,_,rfl,s1 _ _ c9,rfl,_,rfl,F,p,tp,ns.length,g,st,rfl,N1.eY,hg,λl2 qs H2 s2 hl2 h2 ht=>?_⟩
  refine⟨tp,ln,lr,l1,l2,ns,rs,_,ok.nd,ok.ok,yp,st.R g,rfl,N1.AW.mono s2,bL.of (s2 _ _ h1),ht.Oh (bL.of h2),by have:=ok.n10; omega,ok.m20,DN.fit g hg,λl os H3 s3 hl h3 hO h12=>?_⟩
  exact k l os H3 (s1.trans (s2.trans s3)) ((s1.trans s2).free hl) h3 hO h12
inductive MK(K:af)(CT:Addr)(c:NC)(vs:List V)(H:Hp)(Q:VK)(E:XK):Prop
 | mk (F:Addr->Prop) (p tp ln lr:Addr) (ns:List Int) (rs:List R5) (s:NS) (h:Nat):vs = [.ref p,.int h]->NW K c CT H F p tp ln lr ns rs s->h < ns.length->Q .fh H->MK K CT c vs H Q E
theorem BA{t:Ad}(T:Txt K mg t):cj P w K mg base ig 1 t.gJ t.i0 ["self","house"]  (MK K t.bK (nc t)):=by
 refine T.tD.F.jK A9 λH Q E hr h=>?_
 ·obtain⟨F,p,tp,ln,lr,ns,rs,st,x,rfl,N,hx,k⟩:=h
  refine⟨_,(bw (bX (gW (jg p8 p7 aA (pv 1) (be (be (pv 0) rfl) rfl))) dm aX)),?_⟩
  try dsimp only[bJ]
  obtain⟨loc,dx,q,hp,O,hF,hT⟩:=id N.eY
  obtain⟨⟨dt,htp⟩,_⟩:=id N.AW
  have c9:=O.get .eY _ rfl
  rw[hp] at c9
  refine⟨_,rfl,_,_,rfl,rfl,_,rfl,?_⟩
  rw[decide_eq_true (show (0:Int)<=(x:Int) by omega)]
  refine fL ⟨_,rfl,p,_,_,_,_,rfl,c9,T.bS,T.nv,rfl,tp,_,dt,_,_,rfl,htp,T.fc,T.ly,rfl,_,_,rfl,rfl,_,rfl,?_⟩
  rw[decide_eq_true (show (x:Int) < (ns.length:Int) by omega)]
  exact cP k
inductive JH(K:af)(c:NC)(vs:List V)(H:Hp)(Q:VK)(E:XK):Prop
 | mk (F:Addr->Prop) (p tp:Addr) (n x:Nat) (s:NS):vs = [.ref p,.int x]->d8 K c H F p tp n s->x < s.aH.length->Q .fh H->JH K c vs H Q E
theorem qe{t:Ad}(T:Txt K mg t):cj P w K mg base ig 1 t.gy t.iB ["self","caller"]  (JH K (nc t)):=by
 refine T.kT.F.jK Ae λH Q E hr h=>?_
 ·obtain⟨F,p,tp,n,x,st,rfl,⟨loc,dx,q,hp,O,hF,hT⟩,hx,k⟩:=h
  refine⟨_,(bw (bX (gW (jg p8 p7 aA (pv 1) (lS T.gf (be (pv 0) rfl)))) dm aX)),?_⟩
  try dsimp only[bJ]
  have c9:=O.get .eY _ rfl
  rw[hp] at c9
  refine⟨_,rfl,_,_,rfl,rfl,_,rfl,?_⟩
  rw[decide_eq_true (show (0:Int)<=(x:Int) by omega)]
  refine fL ⟨_,rfl,p,_,_,_,_,rfl,c9,T.bS,T.oQ,rfl,loc .aH,_,rfl,.inl (bL.of (O.get .aH _ rfl)),_,_,rfl,rfl,_,rfl,?_⟩
  rw[ah,decide_eq_true (show (x:Int) < (st.aH.length:Int) by omega)]
  exact cP k
inductive ML(K:af)(CT:Addr)(c:NC)(vs:List V)(H:Hp)(Q:VK)(E:XK):Prop
 | mk (F:Addr->Prop) (p tp ln lr:Addr) (ns:List Int) (rs:List R5) (s:NS) (h g:Nat):vs = [.ref p,.int h,.int g]->NW K c CT H F p tp ln lr ns rs s->h < ns.length->g < 3->(∀ q H',aE H H'->cN K H' q (cU (s.R g h))->Q (.ref q) H')->ML K CT c vs H Q E
theorem IK{t:Ad}(T:Txt K mg t):cj P w K mg base ig 3 t.lZ t.qx ["self","house","group"]  (ML K t.bK (nc t)):=by
 refine T.Ci.F.jK Ie λH Q E hr h=>?_
 ·obtain⟨F,p,tp,ln,lr,ns,rs,st,x,g,rfl,N,hx,hg,k⟩:=h
  refine⟨_,(ao (fD (cM (pv 0) T.bS T.tD (BA T) hr (gC (pv 1)))) (oR (xL (cM (pv 0) T.bS T.rQ (tK T) hr (gC (pv 2))) (pv 1)))),?_⟩
  try dsimp only[bJ]
  obtain⟨loc,dx,q,hp,O,hF,hT⟩:=id N.eY
  have c9:=O.get .eY _ rfl
  rw[hp] at c9
  refine⟨_,rfl,p,_,_,rfl,c9,rfl,_,rfl,F,p,tp,ln,lr,ns,rs,st,x,rfl,N,hx,?_⟩
  refine⟨_,rfl,p,_,_,rfl,c9,rfl,_,rfl,F,p,tp,ns.length,g,st,rfl,N.eY,hg,λl qs H2 s2 hl h2 ht=>?_⟩
  have el:qs.length=ns.length:=by rw[ht.len]; simp[gp]
  have hxq:x < qs.length:=by omega
  refine⟨_,rfl,l,_,_,_,rfl,rfl,bL.of h2,dM (v:=.ref qs[x]) (by rw[ak,aa hxq]; rfl),k _ H2 s2 (ht.at' x _ _ (aa hxq) ?_)⟩
  unfold gp
  rw[ak,fT hx]
  rfl
inductive JI(K:af)(c:NC)(vs:List V)(H:Hp)(Q:VK)(E:XK):Prop
 | mk (F:Addr->Prop) (p tp:Addr) (n:Nat) (s:NS):vs = [.ref p]->d8 K c H F p tp n s->(∀ l (qs:List Addr) H',aE H H'->H l=none->H' l=some (.lst (qs.map V.ref))->cS K H' qs (s.cps.map Cp.vs)->Q (.ref l) H')->JI K c vs H Q E
theorem uN{t:Ad}(T:Txt K mg t):cj P w K mg base ig 1 t.l5 t.qy ["self"]  (JI K (nc t)):=by
 refine T.iE.F.jK Ig λH Q E hr h=>?_
 ·obtain⟨F,p,tp,n,st,rfl,N,k⟩:=h
  refine⟨_,(oR (gj gI (by rfl) T.uq boot_list (gC (be (pv 0) rfl)))),?_⟩
  try dsimp only[bJ]
  obtain⟨loc,dx,q,hp,O,hF,hT⟩:=id N
  have c9:=O.get .eY _ rfl
  rw[hp] at c9
  refine⟨_,rfl,p,_,_,_,_,rfl,c9,T.bS,T.mL,rfl,loc .kK,_,rfl,.inl (bL.of (O.get .kK _ rfl)),λl hl=>?_⟩
  have u:=aE.new (o:=.lst (q.cq.map V.ref)) hl
  exact k l q.cq _ u hl ay (hT.cps.mono λb x=>u.b5)
noncomputable def HA(g:Nat)(l:LS):LS:=if l.grp=g then { l with old:=true } else l
noncomputable def MM(s:NS)(g:Nat):NS:={ s with ts:=gq s.ts g [],ls:=s.ls.map (HA g) }
inductive Qa(K:af)(c:NC)(vs:List V)(H:Hp)(Q:VK)(E:XK):Prop
 | mk (F:Addr->Prop) (p tp:Addr) (n g:Nat) (s:NS):vs = [.ref p,.int g]->d8 K c H F p tp n s->g < 3->(∀ F' H',d8 K c H' F' p tp n (MM s g)->Step H F H' F'->Q .fh H')->Qa K c vs H Q E
theorem DO{t:Ad}(T:Txt K mg t):cj P w K mg base ig 2 t.iK t.kB ["self","group"]  (Qa K (nc t)):=by
 refine T.xB.F.jK uY λH Q E hr h=>?_
 ·obtain⟨F,p,tp,n,g,st,rfl,⟨loc,dx,q,hp,O,hF,hT⟩,hg,k⟩:=h
  refine⟨_,(ao (fD (jQ (xL (be (pv 0) rfl) (pv 1)) T.Bb T.uh.m (Hw T) (hr.mono (by decide)) T.uh.B .nil jR)) (bw (fS (fE (be (pv 0) rfl)) (gT 2 uY) (bw (bX (qT lH (be (pv 2) rfl) (pv 1)) (bw (fJ (pv 2) Lq rfl)) aX))))),?_⟩
  try dsimp only[bJ]
  have c9:=O.get .eY _ rfl
  rw[hp] at c9
  refine⟨_,rfl,p,_,_,_,_,rfl,c9,T.bS,T.tG,rfl,_,rfl,loc .lN,_,_,_,rfl,rfl,bL.of (O.get .lN _ rfl),qX hg,loc (.book g),dx (.book g),_,rfl,O.get (.book g) _ (if_pos hg),rfl,loc (.book g),loc (.eW g),st.ts g,rfl,O.Og hg,λd' H1 hd' hB kp=>?_⟩
  obtain⟨⟨Tz,h1b⟩,h1d⟩:=hB
  obtain⟨F',N',st'⟩:=Oi hp O hF hT hg hd' h1b h1d kp
  clear kp h1b h1d hd' c9 hT hF O hp
  obtain⟨loc',dx2,q',hp',O',hF',hT'⟩:=N'
  have X:lP K (nc t) H1 F' loc' dx2 q' p tp n { st with ts:=gq st.ts g [] }:=⟨hp',O',hF',hT'⟩
  have XR:=O'.get .eY _ rfl
  rw[hp'] at XR
  have OM:=O'.get .cK _ rfl
  clear hT' hF' O' hp'
  refine⟨_,rfl,p,_,_,_,_,rfl,XR,T.bS,T.dY,rfl,loc' .cK,rfl,⟨_,bL.of OM⟩,qN (K:=K) (a:=loc' .cK) (xs:=(au st.ls.length).map λi=>.ref (loc' (.bU i))) (λi σ H2=>lP K (nc t) H2 F' loc' dx2 q' p tp n { st with ts:=gq st.ts g [],ls:=(st.ls.take i).map (HA g)++st.ls.drop i }/\Step H1 F' H2 F'/\∃ v2:Option V,σ = [some (.ref p),some (.int g),v2]) ⟨by rw[List.take_zero,List.drop_zero]; exact X,Step.refl' (aE.refl _),_,rfl⟩ (λi σ H2 _ z=>?_) ?_ ?_⟩
  ·have e:=z.1.own.get .cK _ rfl
   have el:((st.ls.take i).map (HA g)++st.ls.drop i).length=st.ls.length:=by
    rw[aB,ah,<- aB,List.take_append_drop]
   refine bL.of (e.trans ?_)
   show some (HO.lst ((au ((st.ls.take i).map (HA g)++st.ls.drop i).length).map _))=_
   rw[el]
  ·rintro i y σ H2 hi ⟨X2,st2,v2,rfl⟩
   have hil:i < st.ls.length:=by
    have:=(ai.mp hi).1
    rw[ah,aZ] at this
    exact this
   rw[ak,fT hil] at hi
   cases hi
   have hli:((st.ls.take i).map (HA g)++st.ls.drop i)[i]?=some st.ls[i]:=by
    rw[bD (by rw[ah,bZ]; omega),ah,bZ,Nat.min_eq_left (by omega),dX,List.getElem?_drop,Nat.add_zero]
    exact aa hil
   have JJ:=X2.own.get (.bU i) (lQ (nc t) dx2 loc' i st.ls[i]) (by show (((st.ls.take i).map (HA g)++st.ls.drop i)[i]?.map _)=_; rw[hli]; rfl)
   have next:(st.ls.take (i + 1)).map (HA g)++st.ls.drop (i + 1)=((st.ls.take i).map (HA g)++st.ls.drop i).set i (HA g st.ls[i]):=by
    rw[List.take_add_one,aa hil,aJ,jc,uO _ _ (by rw[ah,bZ]; omega),ah,bZ,Nat.min_eq_left (by omega),dX,List.drop_eq_getElem_cons hil]
    rfl
   rw[next]
   refine⟨_,rfl,_,_,_,_,_,rfl,JJ,T.c6,T.jx,rfl,_,rfl,rfl,_,rfl,kH (λe=>?_) (λe=>?_)⟩
   ·have e:(st.ls[i]).grp=g:=by
     have:=V.int.inj (of_decide_eq_true e)
     omega
    refine⟨_,rfl,_,_,_,_,rfl,JJ,T.c6,T.wF,(by show 5 < 1000; decide),?_⟩
    obtain⟨X3,st3⟩:=VZ X2 hli
    refine⟨?_,st2.trans st3,_,rfl⟩
    unfold HA
    rw[if_pos e]
    exact X3
   ·have e:¬ (st.ls[i]).grp=g:=λz=>e (decide_eq_true (by rw[z]))
    refine⟨?_,st2,_,rfl⟩
    have:HA g st.ls[i]=st.ls[i]:=if_neg e
    rw[this,Gk hli]
    exact X2
  ·rintro σ H2 ⟨X2,st2,v2,rfl⟩
   rw[ah,aZ,List.take_of_length_le (az _),List.drop_eq_nil_of_le (az _),bQ] at X2
   exact k F' H2 X2.eY (st'.trans st2)
noncomputable def MN(s:NS)(g x:Nat)(d:RM.Row):NS:=if d=s.R g x then s else MM { s with R:=gq s.R g (RM.upd (s.R g) x d) } g
inductive MO(K:af)(CT:Addr)(c:NC)(vs:List V)(H:Hp)(Q:VK)(E:XK):Prop
 | mk (F:Addr->Prop) (p tp ln lr:Addr) (ns:List Int) (rs:List R5) (s:NS) (o:gO ns rs) (x g:Nat):vs = [.ref p,.int x,.int g]->NW K c CT H F p tp ln lr ns rs s->AX ns rs s->x < ns.length->g < 3->(∀ d F' H',RM.Tc (N:=xV ns rs o s.ws g) ns.length (s.R g) x d->C3 ns.length rs.length d->d8 K c H' F' p tp ns.length (MN s g x d)->Step H F H' F'->Q (.bl (!decide (d=s.R g x))) H')->MO K CT c vs H Q E
theorem MP{t:Ad}(T:Txt K mg t):cj P w K mg base ig 4 t.rK t.wm ["self","house","group"]  (MO K t.bK (nc t)):=by
 refine T.GF.F.jK yD λH Q E hr h=>?_
 ·obtain⟨F,p,tp,ln,lr,ns,rs,st,ok,x,g,rfl,N,DN,hx,hg,k⟩:=h
  refine⟨_,(ao (sS 3 yD (cM (pv 0) T.bS T.Ci (IK T) hr (mZ (pv 1) (pv 2)))) (ao (sS 4 yD (cG (Zu T) hr T.Xu (Zi (be (pv 0) rfl) (cM (pv 0) T.bS T.wB (zC T) hr (gC (pv 2))) (cM (pv 0) T.bS T.rQ (tK T) hr (gC (pv 2))) (pv 1)))) (ao (bX (qT AS (pv 4) (pv 3)) oB aX) (ao (J1 (pv 4) (YA (xL (be (pv 0) rfl) (pv 2)) (pv 1) set_list)) (ao (fD (cM (pv 0) T.bS T.xB (DO T) hr (gC (pv 2)))) oB))))),?_⟩
  try dsimp only[bJ]
  obtain⟨loc,dx,q,hp,O,hF,hT⟩:=id N.eY
  have c9:=O.get .eY _ rfl
  rw[hp] at c9
  refine⟨_,rfl,p,_,_,rfl,c9,rfl,_,rfl,_,rfl,F,p,tp,ln,lr,ns,rs,st,x,g,rfl,N,hx,hg,λq1 H1 s1 hq1=>?_⟩
  have N1:=N.mono s1
  have lA:=s1 _ _ c9
  refine⟨_,rfl,p,_,_,_,_,rfl,lA,T.bS,T.nv,rfl,?_⟩
  refine⟨_,rfl,p,_,_,rfl,lA,rfl,_,rfl,F,p,tp,ln,lr,ns,rs,st,g,rfl,N1,ok,DN,hg,λl2 H2 s2 hl2 h2=>?_⟩
  have N2:=N1.mono s2
  refine⟨_,rfl,p,_,_,rfl,s2 _ _ lA,rfl,_,rfl,F,p,tp,ns.length,g,st,rfl,N2.eY,hg,λl3 qs H3 s3 hl3 h3 ht=>?_⟩
  have N3:=N2.mono s3
  refine⟨_,rfl,tp,ln,lr,l2,l3,ns,rs,_,ok.nd,ok.ok,yp,st.R g,x,rfl,N3.AW,bL.of (s3 _ _ h2),ht.Oh (bL.of h3),hx,ok.m20,(DN.fit g hg).Y8,λq4 d H4 s4 Zt hdd=>?_⟩
  have fd:=VN (DN.fit g hg) hx ok.pos hdd
  have N4:=N3.mono s4
  have s14:=s2.trans (s3.trans s4)
  have s04:=s1.trans s14
  refine⟨_,rfl,_,rfl,RM.C2 d,RM.C2 (st.R g x),RM.yh Zt,RM.yh (s14.b5 hq1),RM.yi _,RM.yi _,cz (gV (aO (Nat.min_le_left _ _) (by rw[RM.Jc]; decide:(RM.C2 d).depth<=64)) _) hr.units,?_⟩
  rw[RM.LQ fd.by1 (DN.fit g hg x hx).by1]
  refine⟨_,rfl,kH (λe=>?_) (λe=>?_)⟩
  ·have e':d=st.R g x:=of_decide_eq_true e
   have:=k d F H4 hdd fd (by unfold MN; rw[if_pos e']; exact N4.eY) (Step.refl' s04)
   rw[decide_eq_true e'] at this
   exact this
  ·have e':¬ d=st.R g x:=λz=>e (decide_eq_true z)
   obtain⟨ZV,dx4,q4',U5,O4,hF4,hT4⟩:=id N4.eY
   have xO:=O4.get .eY _ rfl
   rw[U5] at xO
   have hrl:(q4'.rq g).length=ns.length:=by rw[(hT4.rows g hg).len]; simp[gp]
   obtain⟨F5,N5,IQ⟩:=VX U5 O4 hF4 hT4 hg hx Zt
   refine⟨_,rfl,_,rfl,p,_,_,_,_,rfl,xO,T.bS,T.jL,rfl,_,rfl,ZV .yo,_,_,_,rfl,rfl,bL.of (O4.get .yo _ rfl),qX hg,_,rfl,ZV (.rows g),_,_,_,rfl,rfl,O4.get (.rows g) _ (if_pos hg),Po (by rw[ah,hrl]; exact hx),?_⟩
   generalize upd H4 (ZV (.rows g)) (.lst (((q4'.rq g).map V.ref).set x (.ref q4)))=H5 at N5 IQ
   obtain⟨Ux,dx5,q5,hp5,O5,hF5,hT5⟩:=id N5
   have Qc:=O5.get .eY _ rfl
   rw[hp5] at Qc
   refine⟨_,rfl,p,_,_,rfl,Qc,rfl,_,rfl,F5,p,tp,ns.length,g,_,rfl,N5,hg,λF6 H6 N6 st6=>?_⟩
   have:=k d F6 H6 hdd fd (by unfold MN; rw[if_neg e']; exact N6) ((Step.refl' s04).trans (IQ.trans st6))
   rw[decide_eq_false e'] at this
   exact this
end
section
theorem zD{n:Nat}(h:n<=1000000):n < sizeLine:=cz h (by show 1000000 < 2 ^ 24; decide)
end
section
variable{P:Program}{w:World}{K:af}{mg:Str->Option Value}{base:Heap}
inductive Qd(K:af)(c:NC)(vs:List V)(H:Hp)(Q:VK)(E:XK):Prop
 | mk (F:Addr->Prop) (p tp:Addr) (n x:Nat) (to:Option Nat) (s:NS):vs = [.ref p,.int x,qW (to.map λy:Nat=>(y:Int))]->d8 K c H F p tp n s->x < s.aH.length->s.groups.length=s.aH.length->(∀ y,to=some y->y < s.aH.length/\s.groups[y]?=s.groups[x]?)->Q .fh H->Qd K c vs H Q E
theorem CF{t:Ad}(T:Txt K mg t):cj P w K mg base ig 2 t.g9 t.jF ["self","sender","to"]  (Qd K (nc t)):=by
 refine T.vp.F.jK BX λH Q E hr h=>?_
 ·obtain⟨F,p,tp,n,x,to,st,rfl,N,hx,hgl,hto,k⟩:=h
  refine⟨_,(ao (fD (cM (pv 0) T.bS T.kT (qe T) hr (gC (pv 1)))) (bw (bX (qT E6 (pv 2) gF) (ao (fD (cM (pv 0) T.bS T.kT (qe T) hr (gC (pv 2)))) (bw (bX (qT qO (xL (be (pv 0) rfl) (pv 1)) (xL (be (pv 0) rfl) (pv 2))) dm aX))) aX))),?_⟩
  try dsimp only[bJ]
  obtain⟨loc,dx,q,hp,O,hF,hT⟩:=id N
  have c9:=O.get .eY _ rfl
  rw[hp] at c9
  refine⟨_,rfl,p,_,_,rfl,c9,rfl,_,rfl,F,p,tp,n,x,st,rfl,N,hx,?_⟩
  cases to with
  | none=>exact⟨_,rfl,rfl,_,rfl,cP k⟩
  | some y =>
   obtain⟨hy,eg⟩:=hto y rfl
   refine⟨_,rfl,rfl,_,rfl,fL ?_⟩
   refine⟨_,rfl,p,_,_,rfl,c9,rfl,_,rfl,F,p,tp,n,y,st,rfl,N,hy,?_⟩
   have hgr:=bL.of (K:=K) (O.get .groups _ rfl)
   have R4:x < st.groups.length:=by omega
   have hyg:y < st.groups.length:=by omega
   have e:st.groups[y]=st.groups[x]:=by
    rw[aa hyg,aa R4] at eg
    exact aL eg
   refine⟨_,rfl,p,_,_,_,_,rfl,c9,T.bS,T.mK,rfl,_,rfl,loc .groups,_,_,_,rfl,rfl,hgr,qY R4,_,rfl,p,_,_,_,_,rfl,c9,T.bS,T.mK,rfl,_,rfl,loc .groups,_,_,_,rfl,rfl,hgr,qY hyg,rfl,_,rfl,?_⟩
   rw[e,decide_eq_true rfl]
   exact cP k
noncomputable def DP(s:NS)(h g x:Nat):Bool:=decide (s.aH[x]?=some h/\s.groups[x]?=some g)
noncomputable def qg(s:NS)(h g:Nat):List Nat:=(au s.aH.length).filter (DP s h g)
theorem xh{f:Nat->Bool}{i:Nat}:(au (i + 1)).filter f=(au i).filter f++if f i=true then [i] else []:=by
 rw[gk,kZ]
 congr 1
 cases e:f i
 ·rw[if_neg (by decide),cE (by rw[e]; decide)]; rfl
 ·rw[if_pos rfl,cD e]; rfl
inductive Qe(K:af)(c:NC)(vs:List V)(H:Hp)(Q:VK)(E:XK):Prop
 | mk (F:Addr->Prop) (p tp:Addr) (n h g:Nat) (s:NS):vs = [.ref p,.int h,.int g]->d8 K c H F p tp n s->s.groups.length=s.aH.length->s.aH.length<=20->(∀ l H',aE H H'->H l=none->H' l=some (.lst (bO (qg s h g)))->Q (.ref l) H')->Qe K c vs H Q E
theorem CG{t:Ad}(T:Txt K mg t):cj P w K mg base ig 1 t.g8 t.jE ["self","house","group"]  (Qe K (nc t)):=by
 refine T.vo.F.jK lU λH Q E hr h=>?_
 ·obtain⟨F,p,tp,n,hh,g,st,rfl,N,hgl,AI,k⟩:=h
  refine⟨_,(ao (sS 3 lU (fK (mZ (pv 1) (pv 2)))) (oR (gA (kO lU ["caller","self","there"] [none,some 0,some 3]) rfl (eu rfl T.gK (gC (lS T.gf (be (pv 0) rfl)))) (λ_ _ _ _=>by exact (gS 0 yE)) (λ_ _ _ _=>by exact (nN (qT (VF K rfl hr.units) (fK (mZ (yL K (Fb K rfl (pv 1) rfl) (pv 0)) (yL K (Fb K rfl (pv 1) rfl) (pv 0)))) (pv 2)))) (λ_ _ _ _=>by exact (pv 0))))),?_⟩
  try dsimp only[bJ]
  refine⟨_,rfl,_,rfl,(by show 2<=sizeLine; decide),λz0 hz0=>?_⟩
  have u1:=aE.new (o:=.tup [V.int hh,V.int g]) hz0
  have hz:=ay (H:=H) (a:=z0) (o:=.tup [V.int hh,V.int g])
  generalize upd H z0 (.tup [V.int hh,V.int g])=H1 at u1 hz
  obtain⟨loc,dx,q,hp,O,hF,hT⟩:=N.mono u1
  have c9:=O.get .eY _ rfl
  rw[hp] at c9
  have hho:=bL.of (K:=K) (O.get .aH _ rfl)
  have hgr:=bL.of (K:=K) (O.get .groups _ rfl)
  clear hp O hF hT
  refine⟨_,rfl,p,_,_,_,_,rfl,c9,T.bS,T.oQ,rfl,loc .aH,_,rfl,.inl hho,(((bO st.aH).length:Nat):Int),rfl,by omega,by rw[ah]; omega,λacc hacc=>?_⟩
  rw[ah]
  refine gB (n:=((st.aH.length:Int)).toNat) (λi ys _=>ys=bO ((au i).filter (DP st hh g))) hacc AU qQ rfl ?_ ?_
  ·rintro i ys H3 hi s3 hy rfl y H4 ⟨rfl,rfl⟩
   rw[eU]
   have hix:i < st.aH.length:=by omega
   have hig:i < st.groups.length:=by omega
   have jI:=s3 _ _ c9
   refine⟨_,rfl,p,_,_,_,_,rfl,jI,T.bS,T.oQ,rfl,_,rfl,loc .aH,_,_,_,rfl,rfl,s3.seq hho,qY hix,_,rfl,p,_,_,_,_,rfl,jI,T.bS,T.mK,rfl,_,rfl,loc .groups,_,_,_,rfl,rfl,s3.seq hgr,qY hig,(by show 2<=sizeLine; decide),λz1 hz1=>?_⟩
   have u2:=aE.new (o:=.tup [V.int (st.aH[i]:Nat),V.int (st.groups[i]:Nat)]) hz1
   have s4:=s3.trans u2
   have Uo:=u2 _ _ hy
   refine⟨_,rfl,.tuple (([(st.aH[i]:Int),(st.groups[i]:Int)]:List Int).map .int),.tuple (([(hh:Int),(g:Int)]:List Int).map .int),Rep.Pk (ns:=[(st.aH[i]:Int),(st.groups[i]:Int)]) (cN.of ay),Rep.Pk (ns:=[(hh:Int),(g:Int)]) (cN.of (s4 _ _ hz)),jS _,jS _,(by show PyData.depthAll _ + 1<=64; rw[qI]; decide),_,rfl,?_⟩
   dsimp only
   have ei:DP st hh g i=decide ((st.aH[i]:Int)=(hh:Int)/\(st.groups[i]:Int)=(g:Int)):=by
    unfold DP
    rw[aa hix,aa hig,decide_eq_decide]
    constructor
    ·rintro⟨e1,e2⟩
     exact⟨by rw[aL e1],by rw[aL e2]⟩
    ·rintro⟨e1,e2⟩
     exact⟨congrArg some (by omega),congrArg some (by omega)⟩
   rw[V0,<- ei]
   refine kH (λhc=>?_) (λhc=>?_)
   ·refine⟨_,rfl,?_⟩
    refine eV hacc hi s4 Uo ?_ ?_
    ·rw[ah]
     refine b4 (aO (bW _ _) ?_)
     rw[aZ]; omega
    ·rw[xh,if_pos hc,ir]
   ·refine iP hi s4 Uo ?_
    rw[xh,if_neg hc,bQ]
  ·rintro ys H3 s3 hy rfl
   have s13:=u1.trans s3
   exact k acc H3 s13 (u1.free hacc) hy
inductive JK(K:af)(CT C NW:Addr)(vs:List V)(H:Hp)(Q:VK)(E:XK):Prop
 | mk (p tp lu ln lr:Addr) (ns:List Int) (rs:List R5) (ws:List (List Nat)) (i x:Int):vs = [.ref p,.int i,.int x]->cY K CT H tp ln lr ns rs->Pq C H p tp lu ws->ws.length=rs.length->(∀ (j:Nat) w H',i=(j:Int)->ws[j]?=some w->aE H H'->(w = []->Q .fh H')/\(∀ k:Nat,w[(x % (w.length:Int)).toNat]?=some k->w≠[]->Q (.int (k:Nat)) H'))->(¬ (0<=i/\i < rs.length)->E (.ref NW) none H)->JK K CT C NW vs H Q E
theorem Ag{t:Ad}(T:Txt K mg t):cj P w K mg base (D6 P w) 2 t.gx t.iA ["self","rope","number"]  (JK K t.bK t.cT t.Cb):=by
 refine T.kR.F.V1 qd λH Q E hr h=>?_
 ·obtain⟨p,tp,lu,ln,lr,ns,rs,ws,i,x,rfl,hT,hW,ew,k,kx⟩:=h
  obtain⟨⟨dx,hp⟩,_⟩:=id hW
  refine⟨_,(ao (sS 3 qd (vI (pv 0) T.iT T.kQ.m (Af T) (hr.mono (by decide)) T.kQ.B .nil Xj (gC (pv 1)))) (ao (bX (qT AS (pv 3) (ji gY)) (oR gF) aX) (oR (xL (pv 3) (bf c7 (pv 2) (lS T.gf (pv 3))))))),?_⟩
  try dsimp only[bJ]
  refine⟨_,rfl,p,dx,_,rfl,hp,rfl,_,rfl,p,tp,lu,ln,lr,ns,rs,ws,i,rfl,hT,hW,ew,λj w' l H1 ej hj s1 Kc hl=>?_,kx⟩
  refine⟨_,rfl,aV _,λq hq=>?_⟩
  have s2:=aE.new (o:=.lst []) hq
  have hl2:=s2 _ _ hl
  refine⟨.list ((w'.map λk:Nat=>(k:Int)).map .int),.list [],⟨l,_,rfl,bL.of hl2,(by rw[jn]; exact jl _)⟩,⟨q,_,rfl,bL.of ay,rfl⟩,jS _,rfl,cz (gV (aO (Nat.min_le_right _ _) (by decide)) _) hr.units,_,rfl,?_⟩
  obtain⟨k1,k2⟩:=k j w' _ ej hj (s1.trans s2)
  cases w' with
  | nil=>exact fL (k1 rfl)
  | cons y ys =>
   refine cP ?_
   have hpos:(0:Int) < (((y :: ys).length:Nat):Int):=by rw[aS]; omega
   have hm0:=bR x (show (((y :: ys).length:Nat):Int)≠0 by omega)
   have hm1:=bY x hpos
   have hlt:(x % (((y :: ys).length:Nat):Int)).toNat < (y :: ys).length:=by omega
   refine⟨_,rfl,_,rfl,_,rfl,l,_,rfl,.inl (bL.of hl2),_,_,rfl,(by rw[ah]),hpos,?_⟩
   obtain⟨z,hz⟩ : ∃ z,(y :: ys)[(x % (((y :: ys).length:Nat):Int)).toNat]?=some z:=⟨_,aa hlt⟩
   refine⟨l,_,_,V.int (z:Nat),rfl,rfl,bL.of hl2,?_,k2 z hz (by intro z; cases z)⟩
   rw[show x % (((y :: ys).length:Nat):Int)=(((x % (((y :: ys).length:Nat):Int)).toNat:Nat):Int) by omega]
   exact dM (by rw[ak,hz]; rfl)
noncomputable def AK(l:LS)(h:Nat):Bool:=(tS (l.done.map λh:Nat=>((cV (h:Int):Key),V.bl true)) (cV (h:Int))).isSome
inductive Qf(K:af)(CT:Addr)(c:NC)(vs:List V)(H:Hp)(Q:VK)(E:XK):Prop
 | mk (F:Addr->Prop) (loc dx:Role->Addr) (q:TQ) (p tp ln lr:Addr) (ns:List Int) (rs:List R5) (s:NS) (o:gO ns rs) (i r h:Nat) (l:LS):vs = [.ref p,.ref (loc (.bU i)),.int r,.int h]->lP K c H F loc dx q p tp ns.length s->NW K c CT H F p tp ln lr ns rs s->AX ns rs s->s.ls[i]?=some l->l.grp < 3->(∀ os H',aE H H'->ie (xV ns rs o s.ws l.grp) (s.R l.grp) os->os.length<=12->Q (.str (if r∈os then (if AK l h=true then "twice" else "come") else "lost")) H')->Qf K CT c vs H Q E
theorem HB{t:Ad}(T:Txt K mg t):cj P w K mg base ig 7 t.j7 t.n6 ["self","posted","rope","house"]  (Qf K t.bK (nc t)):=by
 refine T.Au.F.jK GB λH Q E hr h=>?_
 ·obtain⟨F,loc,dx,q,p,tp,ln,lr,ns,rs,st,o,i,r,hh,l,rfl,X,N,DN,hli,hg,k⟩:=h
  refine⟨_,(ao (bX (fX gH (pv 2) (cM (pv 0) T.bS T.yK (CD T) hr (gC (be (pv 1) rfl))) (by with_unfolding_all rfl)) (oR fW) aX) (oR (x6 (CP (NJ (uW hr) (pv 3) (be (pv 1) rfl)) (by with_unfolding_all rfl)) fW fW))),?_⟩
  try dsimp only[bJ]
  have c9:=X.own.get .eY _ rfl
  rw[X.hp] at c9
  have JJ:=X.own.get (.bU i) (lQ (nc t) dx loc i l) (by show (st.ls[i]?.map _)=_; rw[hli]; rfl)
  have hdo:=X.own.get (.done i) (.dK (l.done.map λh:Nat=>(cV (h:Int),.bl true))) (by show (st.ls[i]?.map _)=_; rw[hli]; rfl)
  refine⟨_,rfl,_,rfl,p,_,_,rfl,c9,rfl,_,rfl,loc (.bU i),_,_,_,_,rfl,JJ,T.c6,T.jx,rfl,F,p,tp,ln,lr,ns,rs,st,o,l.grp,rfl,N,DN,hg,λlo os H1 s1 ZC hlo hOs h12=>⟨lo,_,rfl,.inl (bL.of hlo),rfl,eF _,_,rfl,?_⟩⟩
  dsimp only
  rw[if_pos rfl,gm]
  have k:=k os H1 s1 hOs h12
  by_cases e:r∈os
  ·rw[if_pos e] at k
   rw[decide_eq_true e]
   refine cP ?_
   refine⟨_,rfl,_,rfl,loc (.bU i),_,_,_,_,rfl,s1 _ _ JJ,T.c6,T.nk,rfl,loc (.done i),_,rfl,tT.k (k:=.inl (hh:Int)) (s1 _ _ hdo),_,rfl,?_⟩
   unfold AK at k
   refine kH (λe2=>?_) (λe2=>?_)
   ·rw[if_pos e2] at k
    exact k
   ·rw[if_neg e2] at k
    exact k
  ·rw[if_neg e] at k
   rw[decide_eq_false e]
   exact fL k
noncomputable def jO(l:LS):Nat:=if l.kd=1 then l.s + l.to + 1 else l.s
theorem Wo{t:Ad}(T:Txt K mg t){dx loc:Role->Addr}{σ:L2.St}{H:Hp}{Q:VK}{i:Nat}{l:LS}(h4:∀ Q:VK,Q (.ref (loc (.bU i))) H->JY 4 σ H Q)(JJ:H (loc (.bU i))=some (lQ (nc t) dx loc i l))(hle:H (loc (.letter i))=some (qk (nc t) (dx (.letter i)) l))(q:Q (.int (jO l:Nat)) H) :
 D0 t.ia (Str.ofString "number") (zY K) [] E0 (FG K (JY 4) (Str.ofString "letter")) CV σ H Q∨D0 t.fH (Str.ofString "number") (DL t.fH) [] E0 (FG K (JY 4) (Str.ofString "letter")) CV σ H Q∨D0 t.iD (Str.ofString "number") (zY K) [] E0 (FG K (JY 4) (Str.ofString "letter")) CV σ H Q:=by
 by_cases e:l.kd=1
 ·have K7:H (loc (.letter i))=some (.ins t.fH (dx (.letter i)) [("sender",.int l.s),("to",.int l.to)]):=by rw[hle]; unfold qk; rw[if_pos e]
  have ev:V.int ((l.s:Int) + (l.to:Int) + 1) = .int (jO l:Nat):=by unfold jO; rw[if_pos e]; rfl
  refine .inr (.inl ?_)
  unfold D0 FG
  exact (h4 _ ⟨loc (.bU i),_,_,_,_,rfl,JJ,T.c6,T.gG,rfl,loc (.letter i),dx (.letter i),_,rfl,K7,rfl,loc (.letter i),dx (.letter i),l.s,l.to,rfl,K7,(by rw[ev]; exact q)⟩)
 ·have K7:H (loc (.letter i))=some (.ins t.iD (dx (.letter i)) [("sender",.int l.s)]):=by rw[hle]; unfold qk; rw[if_neg e]
  have ev:V.int (l.s:Int) = .int (jO l:Nat):=by unfold jO; rw[if_neg e]
  refine .inr (.inr ?_)
  unfold D0 FG
  exact (h4 _ ⟨loc (.bU i),_,_,_,_,rfl,JJ,T.c6,T.gG,rfl,loc (.letter i),dx (.letter i),_,rfl,K7,rfl,loc (.letter i),t.iD,dx (.letter i),l.s,rfl,K7,T.wD,T.mG,(by rw[ev]; exact q)⟩)
noncomputable def MQ(s:NS)(i h r x f:Nat):NS:={ nP s i (.send h r x) with cps:=s.cps++[⟨i,r,x,f⟩] }
inductive Qg(K:af)(CT:Addr)(c:NC)(vs:List V)(H:Hp)(Q:VK)(E:XK):Prop
 | mk (F:Addr->Prop) (p tp ln lr:Addr) (ns:List Int) (rs:List R5) (s:NS) (i h r:Nat) (l:LS) (re:R5) (w:List Nat) (x:Nat):vs = [.ref p,.int i,.int h,.int r]->NW K c CT H F p tp ln lr ns rs s->gO ns rs->AX ns rs s->s.ls[i]?=some l->l.aF.length < 1000000->s.cps.length < 1000000->rs[r]?=some re->s.ws[r]?=some w->w[(((jO l:Nat):Int) % (w.length:Int)).toNat]?=some x->w≠[]->(∀ F' H',NW K c CT H' F' p tp ln lr ns rs (MQ s i h r x (fz re h))->Step H F H' F'->Q .fh H')->Qg K CT c vs H Q E
theorem MR{t:Ad}(T:Txt K mg t):cj P w K mg base ig 3 t.rL t.wo ["self","number","house","rope"]  (Qg K t.bK (nc t)):=by
 refine T.GG.F.jK yF λH Q E hr h=>?_
 ·obtain⟨F,p,tp,ln,lr,ns,rs,st,i,hh,r,l,re,w',x,rfl,N,tok,DN,hli,hld,hcl,hre,hw,hwx,hwn,k⟩:=h
  refine⟨_,(ao (sS 4 yF (xL (be (pv 0) rfl) (pv 1))) (ao (sS 5 yF (vI (be (pv 0) rfl) T.iT T.kR.m (Ag T) (hr.mono (by decide)) T.kR.B .nil S8 (mZ (pv 3) (C4 (jQ (be (pv 4) rfl) T.GJ T.kD.m (vC T) (hr.mono (by decide)) T.kD.B .nil jR) (C4 (jQ (be (pv 4) rfl) T.oi T.rO.m (EY T) (hr.mono (by decide)) T.rO.B .nil jR) (jQ (be (pv 4) rfl) T.wD T.GK (vC T) (hr.mono (by decide)) T.kD.B .nil jR)))))) (ao (fD (p9 bq bz bx eB (be (pv 4) rfl) (gC (fK (Zi fW (pv 2) (pv 3) (pv 5)))))) (oE (p9 bq bz bx eB (be (pv 0) rfl) (gC (fK (Zi (pv 1) (pv 3) (pv 5) (cM (be (pv 0) rfl) T.fc T.mF (pZ T) hr (mZ (pv 3) (pv 2))))))))))),?_⟩
  try dsimp only[bJ]
  obtain⟨loc,dx,q,hp,O,hF,hT⟩:=id N.eY
  have c9:=O.get .eY _ rfl
  rw[hp] at c9
  have hil:=(ai.mp hli).1
  have hrl:=(ai.mp hre).1
  have OM:=O.get .cK _ rfl
  have JJ:=O.get (.bU i) (lQ (nc t) dx loc i l) (by show (st.ls[i]?.map _)=_; rw[hli]; rfl)
  have hle:=O.get (.letter i) (qk (nc t) (dx (.letter i)) l) (by show (st.ls[i]?.map _)=_; rw[hli]; rfl)
  refine⟨_,rfl,p,_,_,_,_,rfl,c9,T.bS,T.dY,rfl,_,rfl,loc .cK,_,_,_,rfl,rfl,bL.of OM,qX hil,?_⟩
  refine⟨_,rfl,p,_,_,_,_,rfl,c9,T.bS,T.uo,rfl,loc .d7,dx .d7,_,rfl,O.get .d7 _ rfl,rfl,_,rfl,?_⟩
  have hde:=O.get (.aF i) (.lst ((q.dq i).map V.ref)) (by show (st.ls[i]?.map _)=_; rw[hli]; rfl)
  refine Wo T (l:=l) (λQ q=>⟨_,rfl,q⟩) JJ hle ?_
  refine⟨loc .d7,tp,loc .iw,ln,lr,ns,rs,st.ws,r,(jO l:Nat),rfl,N.AW,O.strAt,DN.wl,λj w2 H1 ej hj s1=>⟨λz=>?_,λkk hk _=>?_⟩,λz=>absurd ⟨by omega,by omega⟩ z⟩
  ·have:j=r:=by omega
   subst this
   rw[hw] at hj
   cases hj
   exact absurd z hwn
  have:j=r:=by omega
  subst this
  rw[hw] at hj
  cases hj
  rw[hwx] at hk
  cases hk
  have X1:lP K (nc t) H1 F loc dx q p tp ns.length st:=lP.mono ⟨hp,O,hF,hT⟩ s1
  have ON:=(X1.tup.aF i _ hli).len
  rw[ah] at ON
  refine⟨_,rfl,loc (.bU i),_,_,_,_,rfl,s1 _ _ JJ,T.c6,T.ic,rfl,.inl ⟨rfl,_,bL.of (s1 _ _ hde)⟩,_,rfl,_,rfl,_,rfl,(by show 4<=sizeLine; decide),λz1 hz1=>?_⟩
  have u1:=aE.new (o:=.tup [V.str "send",V.int hh,V.int j,V.int x]) hz1
  refine⟨loc (.aF i),_,_,rfl,rfl,u1 _ _ (s1 _ _ hde),zD (by rw[ah,ON]; omega),?_⟩
  obtain⟨X2,st2⟩:=BV (X1.mono u1) hli (d:=.send hh j x) (cN.of ay)
  have ZW:=(Step.refl' (F:=F) (s1.trans u1)).trans st2
  have N2:=N.done ZW X2.eY
  generalize upd (upd H1 z1 (.tup [V.str "send",V.int hh,V.int j,V.int x])) (loc (.aF i)) (.lst ((q.dq i).map V.ref++[.ref z1]))=H2 at X2 ZW N2
  clear st2 u1 hz1 X1 hde ON
  have EB:=X2.own.get .eY _ rfl
  rw[X2.hp] at EB
  have acA:=X2.own.get .kK _ rfl
  obtain⟨⟨dt,afw⟩,_⟩:=id N2.AW
  have Uz:q.cq.length=st.cps.length:=by
   have z:=X2.tup.cps.len
   rw[ah] at z
   exact z
  obtain⟨_,rfl⟩:=ai.mp hre
  refine⟨_,rfl,p,_,_,_,_,rfl,EB,T.bS,T.mL,rfl,.inl ⟨rfl,_,bL.of acA⟩,_,rfl,_,rfl,_,rfl,_,rfl,p,_,_,_,_,rfl,EB,T.bS,T.nv,rfl,tp,dt,_,rfl,afw,rfl,_,rfl,_,rfl,tp,ln,lr,ns,rs,j,_,hh,rfl,N2.AW,hre,?_⟩
  rw[Pp (h:=hh) hrl tok.ok]
  refine⟨(by show 4<=sizeLine; decide),λz2 hz2=>?_⟩
  have u2:=aE.new (o:=.tup [V.int i,V.int j,V.int x,V.int (fz rs[j] hh:Nat)]) hz2
  refine⟨loc .kK,_,_,rfl,rfl,u2 _ _ acA,zD (by rw[ah,Uz]; omega),?_⟩
  have X3:=X2.mono u2
  obtain⟨X4,HW⟩:=PB X3 (qs:=q.cq++[z2]) (cps:=st.cps++[⟨i,j,x,fz rs[j] hh⟩]) (by rw[aJ]; exact X3.tup.cps.snoc (cN.of ay))
  rw[aJ] at X4 HW
  have IQ:=(ZW.trans (Step.refl' (F:=F) u2)).trans HW
  refine k F _ ?_ IQ
  unfold MQ
  rw[fj hli]
  exact N.done IQ X4.eY
end
section
noncomputable def jz(ds:List Nat)(h:Nat):List Nat:=if h∈ds then ds else ds++[h]
theorem RC{ds:List Nat}{h:Nat}:putK (ds.map λh:Nat=>((cV (h:Int):Key),V.bl true)) (cV (h:Int)) (V.bl true)=(jz ds h).map λh:Nat=>((cV (h:Int):Key),V.bl true):=by
 have e:((ds.map λh:Nat=>((cV (h:Int):Key),V.bl true)).any λkv=>decide (kv.1=(cV (h:Int):Key)))=decide (h∈ds):=by
  rw[jf,List.any_map,vG,decide_eq_true_iff]
  constructor
  ·rintro⟨x,hx,e⟩
   have e:=oW (of_decide_eq_true e)
   have:x=h:=by omega
   exact this ▸ hx
  ·exact λhx=>⟨h,hx,decide_eq_true rfl⟩
 unfold putK jz
 rw[e]
 by_cases z:h∈ds
 ·rw[if_pos (decide_eq_true z),if_pos z,cC]
  refine dF λx _=>?_
  show (if _ then _ else _)=_
  split <;> rfl
 ·rw[if_neg (by rw[decide_eq_true_iff]; exact z),if_neg z,aJ]
  rfl
structure Fr(s s':NS):Prop where
 ws:s'.ws=s.ws
 R:s'.R=s.R
 ts:s'.ts=s.ts
 aH:s'.aH=s.aH
 groups:s'.groups=s.groups
 lt:∀ (i:Nat) (l:LS),s.ls[i]?=some l->∃ l':LS,s'.ls[i]?=some l'/\l'.s=l.s/\l'.to=l.to/\l'.kd=l.kd/\l'.grp=l.grp/\l'.old=l.old
theorem Fr.refl(s:NS):Fr s s:=⟨rfl,rfl,rfl,rfl,rfl,λ_ l h=>⟨l,h,rfl,rfl,rfl,rfl,rfl⟩⟩
theorem Fr.trans{a b c:NS}(f:Fr a b)(g:Fr b c):Fr a c:=by
 refine⟨g.ws.trans f.ws,g.R.trans f.R,g.ts.trans f.ts,g.aH.trans f.aH,g.groups.trans f.groups,λi l h=>?_⟩
 obtain⟨l',h1,e1,e2,e3,e4,e5⟩:=f.lt i l h
 obtain⟨l2,h2,f1,f2,f3,f4,f5⟩:=g.lt i l' h1
 exact⟨l2,h2,f1.trans e1,f2.trans e2,f3.trans e3,f4.trans e4,f5.trans e5⟩
theorem Fr.ok{ns:List Int}{rs:List R5}{s s':NS}(f:Fr s s')(h:AX ns rs s):AX ns rs s' :=
 ⟨by rw[f.ws]; exact h.wl,by rw[f.ws]; exact h.w4,by rw[f.R]; exact h.fit⟩
theorem XS{s:NS}{i:Nat}{l l2:LS}{had:List (List Nat)}{cps:List Cp}(hl:s.ls[i]?=some l)(e1:l2.s=l.s)(e2:l2.to=l.to)(e3:l2.kd=l.kd)(e4:l2.grp=l.grp)(e5:l2.old=l.old):Fr s { s with ls:=s.ls.set i l2,had:=had,cps:=cps }:=by
 refine⟨rfl,rfl,rfl,rfl,rfl,λk l' h=>?_⟩
 show ∃ l',(s.ls.set i l2)[k]?=some l'/\_
 rw[fZ (ai.mp hl).1]
 by_cases z:k=i
 ·subst z
  rw[hl] at h
  cases h
  exact⟨l2,if_pos rfl,e1,e2,e3,e4,e5⟩
 ·exact⟨l',by rw[if_neg z]; exact h,rfl,rfl,rfl,rfl,rfl⟩
theorem Qh{s:NS}{i:Nat}{d:cF}:Fr s (nP s i d):=by
 cases h:s.ls[i]? with
 | none=>unfold nP; rw[h]; exact Fr.refl s
 | some l=>rw[fj h]; exact XS h rfl rfl rfl rfl rfl
structure Bd(n m D:Nat)(s:NS):Prop where
 gl:s.groups.length=s.aH.length
 AI:s.aH.length<=20
 g3:∀ g∈s.groups,g < 3
 hm:∀ h∈s.aH,h < n
 hl:s.had.length=s.aH.length
 hb:∀ w∈s.had,w.length<=D
 ll:s.ls.length<=D
 lb:∀ l∈s.ls,l.aF.length + s.cps.length<=D/\l.done.length<=D/\l.grp < 3/\(l.kd=1∨l.kd=2)
 cb:s.cps.length<=D
 cl:∀ c∈s.cps,c.l < s.ls.length/\c.r < m/\c.h < n
 tb:∀ g,50 * (s.ts g).length<=D/\fG (s.ts g)
theorem Bd.mono{n m D D':Nat}{s:NS}(b:Bd n m D s)(h:D<=D'):Bd n m D' s :=
 ⟨b.gl,b.AI,b.g3,b.hm,b.hl,λw z=>aO (b.hb w z) h,aO b.ll h,λl z=>⟨aO (b.lb l z).1 h,aO (b.lb l z).2.1 h,(b.lb l z).2.2⟩,aO b.cb h,b.cl,λg=>⟨aO (b.tb g).1 h,(b.tb g).2⟩⟩
theorem Bd.set{n m D:Nat}{s:NS}{i:Nat}{l l2:LS}(b:Bd n m D s)(k:Nat)(hl:s.ls[i]?=some l){cps:List Cp}{had:List (List Nat)}(e1:cps.length<=s.cps.length + 1)(k2:cps.length<=s.cps.length∨2<=k)(k1:1<=k)(e2:l2.aF.length + cps.length<=l.aF.length + s.cps.length + k)(e3:l2.done.length<=l.done.length + k)(e4:l2.grp=l.grp)(e5:l2.kd=l.kd)
 (hc:∀ c∈cps,c∈s.cps∨(c.l < s.ls.length/\c.r < m/\c.h < n)) (hh:had.length=s.had.length) (hw:∀ w∈had,w.length<=D + k):Bd n m (D + k) { s with ls:=s.ls.set i l2,had:=had,cps:=cps }:=by
 have hi:=b.lb l (aQ hl)
 refine⟨b.gl,b.AI,b.g3,b.hm,hh.trans b.hl,hw,?_,λl' z=>?_,?_,λc z=>?_,λg=>⟨aO (b.tb g).1 (oV _ _),(b.tb g).2⟩⟩
 ·show (s.ls.set i l2).length<=_
  rw[cW]
  have:=b.ll
  omega
 ·rcases List.mem_or_eq_of_mem_set z with z | rfl
  ·have h:=b.lb l' z
   refine⟨?_,?_,h.2.2⟩
   ·show l'.aF.length + cps.length<=_
    have:=h.1
    omega
   ·have:=h.2.1
    omega
  ·refine⟨?_,?_,e4 ▸ hi.2.2.1,e5 ▸ hi.2.2.2⟩
   ·show l'.aF.length + cps.length<=_
    have:=hi.1
    omega
   ·have:=hi.2.1
    omega
 ·show cps.length<=_
  have:=b.cb
  omega
 ·show c.l < (s.ls.set i l2).length/\_
  rw[cW]
  rcases hc c z with y | y
  ·exact b.cl c y
  ·exact y
theorem Bd.ajy{n m D:Nat}{s:NS}(b:Bd n m D s)(i:Nat)(d:cF):Bd n m (D + 1) (nP s i d):=by
 cases h:s.ls[i]? with
 | none=>unfold nP; rw[h]; exact b.mono (eS D)
 | some l =>
  rw[fj h]
  refine b.set 1 h (eS _) (.inl (az _)) (az _) ?_ (eS _) rfl rfl (λc z=>.inl z) rfl (λw z=>Nat.le_succ_of_le (b.hb w z))
  show (l.aF++[d]).length + _<=_
  rw[aB]
  show l.aF.length + 1 + _<=_
  omega
noncomputable def dS(s:NS)(i h:Nat)(l:LS):NS:={ s with ls:=s.ls.set i { l with done:=jz l.done h } }
theorem K8{s:NS}{i h:Nat}{l:LS}(hl:s.ls[i]?=some l):Fr s (dS s i h l):=XS hl rfl rfl rfl rfl rfl
theorem Qi{n m D:Nat}{s:NS}{i h:Nat}{l:LS}(b:Bd n m D s)(hl:s.ls[i]?=some l):Bd n m (D + 1) (dS s i h l):=by
 refine b.set 1 hl (eS _) (.inl (az _)) (az _) (eS _) ?_ rfl rfl (λc z=>.inl z) rfl (λw z=>Nat.le_succ_of_le (b.hb w z))
 show (jz l.done h).length<=_
 unfold jz
 split
 ·exact eS _
 ·rw[aB]; exact az _
noncomputable def sF(s:NS)(i c:Nat):NS:={ s with had:=s.had.set c (s.had.getD c []++[i]) }
noncomputable def j9(i h:Nat)(s:NS)(c:Nat):NS:=nP (sF s i c) i (.hand h c)
theorem Fl{s:NS}{i h c:Nat}:Fr s (j9 i h s c):=Fr.trans (b:=sF s i c) ⟨rfl,rfl,rfl,rfl,rfl,λ_ l h=>⟨l,h,rfl,rfl,rfl,rfl,rfl⟩⟩ Qh
theorem K9{n m D:Nat}{s:NS}{i h c:Nat}(b:Bd n m D s):Bd n m (D + 1) (j9 i h s c):=by
 have q:∀ w∈(sF s i c).had,w.length<=D + 1:=λw z=>by
  rcases List.mem_or_eq_of_mem_set z with y | rfl
  ·exact Nat.le_succ_of_le (b.hb w y)
  ·rw[aB]
   refine m5 ?_ 1
   rw[av]
   cases e:s.had[c]? with
   | none=>exact aV _
   | some w=>exact b.hb w (aQ e)
 unfold j9
 cases h':s.ls[i]? with
 | none =>
  unfold nP
  rw[show (sF s i c).ls[i]?=none from h']
  have b1:=b.mono (eS D)
  exact⟨b1.gl,b1.AI,b1.g3,b1.hm,by show (s.had.set _ _).length=_; rw[cW]; exact b1.hl,q,b1.ll,b1.lb,b1.cb,b1.cl,b1.tb⟩
 | some l =>
  rw[fj (show (sF s i c).ls[i]?=some l from h')]
  refine b.set 1 h' (eS _) (.inl (az _)) (az _) ?_ (eS _) rfl rfl (λc z=>.inl z) (by show (s.had.set _ _).length=_; rw[cW]) q
  show (l.aF++[_]).length + s.cps.length<=_
  rw[aB]
  show l.aF.length + 1 + s.cps.length<=_
  omega
noncomputable def i6(ws:List (List Nat))(r k:Nat):Nat:=match ws[r]? with | some w=>w.getD (k % w.length) 0 | none=>0
noncomputable def eN(rs:List R5)(r h:Nat):Nat:=match rs[r]? with | some re=>fz re h | none=>0
noncomputable def RD(s:NS)(i:Nat):Nat:=match s.ls[i]? with | some l=>jO l | none=>0
noncomputable def sG(rs:List R5)(i h:Nat)(s:NS)(r:Nat):NS:=MQ s i h r (i6 s.ws r (RD s i)) (eN rs r h)
theorem Fq{rs:List R5}{s:NS}{i h r:Nat}:Fr s (sG rs i h s r):=Fr.trans (Qh (i:=i) (d:=.send h r (i6 s.ws r (RD s i)))) ⟨rfl,rfl,rfl,rfl,rfl,λ_ l h=>⟨l,h,rfl,rfl,rfl,rfl,rfl⟩⟩
theorem NY{ns:List Int}{rs:List R5}(o:gO ns rs){r h:Nat}(hr:r < rs.length):eN rs r h < ns.length:=by
 unfold eN
 rw[aa hr]
 have k:=o.ok _ (aK hr)
 have h1:=k.a0; have h2:=k.b0; have h3:=k.a1; have h4:=k.b1
 show fz _ _ < _
 unfold fz
 split <;> omega
theorem Qj{ns:List Int}{rs:List R5}(o:gO ns rs){D:Nat}{s:NS}{i h r:Nat}(b:Bd ns.length rs.length D s)(hi:i < s.ls.length)(hr:r < rs.length):Bd ns.length rs.length (D + 2) (sG rs i h s r):=by
 have h':=aa hi
 unfold sG MQ
 rw[fj h']
 refine b.set 2 h' (by rw[aB]; exact az _) (.inr (az _)) (by decide) ?_ (oV _ _) rfl rfl (λc z=>?_) rfl (λw z=>aO (b.hb w z) (oV _ _))
 ·show (s.ls[i].aF++[_]).length + (s.cps++[_]).length<=_
  rw[aB,aB]
  show s.ls[i].aF.length + 1 + (s.cps.length + 1)<=_
  omega
 ·rcases aY.mp z with y | y
  ·exact .inl y
  ·rw[aP] at y
   subst y
   exact .inr ⟨hi,hr,NY o hr⟩
theorem xj{f:NS->Nat->NS}(h:∀ s x,Fr s (f s x)):∀ (xs:List Nat) (s:NS),Fr s (xs.foldl f s)
 | [],s=>Fr.refl s
 | x :: xs,s=>(h s x).trans (xj h xs (f s x))
theorem Aa{n m k:Nat}{f:NS->Nat->NS}(I:NS->Prop):∀ (xs:List Nat) (s:NS) (D:Nat),(∀ s x D,x∈xs->I s->Bd n m D s->I (f s x)/\Bd n m (D + k) (f s x))->I s->Bd n m D s->Bd n m (D + k * xs.length) (xs.foldl f s)
 | [],s,D,_,_,b=>b
 | x :: xs,s,D,h,i,b=>by
  obtain⟨i1,b1⟩:=h s x D bI i b
  have:=Aa I xs (f s x) (D + k) (λs y D z=>h s y D (bh _ z)) i1 b1
  refine this.mono (Nat.le_of_eq ?_)
  rw[aS,Nat.mul_succ]
  omega
theorem JL{f:NS->Nat->NS}{xs:List Nat}{s:NS}{j:Nat}(h:j < xs.length):(xs.take (j + 1)).foldl f s=f ((xs.take j).foldl f s) xs[j]:=by
 rw[dj h,tP]
 rfl
noncomputable def kg(s:NS)(l:LS)(h:Nat):List Nat:=(qg s h l.grp).filter λc=>C6 l.s l.to l.kd c
noncomputable def CM(rs:List R5)(s:NS)(l:LS)(h:Nat)(ck:Option Nat)(os:List Nat):List Nat:=(RY (s.ts l.grp) (nO l.to l.kd) h (ck.map λk:Nat=>(k:Int)) ((os.filter (isAt rs h)).map λk:Nat=>(k:Int)) ((qg s h l.grp).map λk:Nat=>(k:Int))).map Int.toNat
noncomputable def RE(rs:List R5)(s:NS)(i h:Nat)(l:LS)(ck:Option Nat)(os:List Nat):NS:=(CM rs s l h ck os).foldl (sG rs i h) ((kg s l h).foldl (j9 i h) (dS s i h l))
theorem Ft{ts:List T3}{so:Option Int}{lM:Int}{ck:Option Int}{os hs:List Int}:(∀ x∈RY ts so lM ck os hs,x∈os)/\(RY ts so lM ck os hs).length<=os.length:=by
 have f:(∀ x∈os.filter (jT ck),x∈os)/\(os.filter (jT ck)).length<=os.length:=⟨λx z=>(bM.mp z).1,bW _ _⟩
 unfold RY
 split
 ·exact f
 ·split
  ·exact⟨λx z=>absurd z (by simp),aV _⟩
  ·split
   ·split
    ·rename_i r _ hr
     refine⟨λx z=>?_,?_⟩
     ·have:=(bM.mp z).1
      rw[aP] at this
      exact this ▸ hr
     ·refine aO (bW _ _) ?_
      show 1<=os.length
      cases os with
      | nil=>cases hr
      | cons=>simp
    ·exact f
   ·exact f
theorem Wp{rs:List R5}{s:NS}{l:LS}{h:Nat}{ck:Option Nat}{os:List Nat}:(RY (s.ts l.grp) (nO l.to l.kd) h (ck.map λk:Nat=>(k:Int)) ((os.filter (isAt rs h)).map λk:Nat=>(k:Int)) ((qg s h l.grp).map λk:Nat=>(k:Int))).map V.int=bO (CM rs s l h ck os):=by
 unfold CM
 rw[bO,cC]
 refine dF λx hx=>?_
 obtain⟨k,_,rfl⟩:=aN.mp (Ft.1 x hx)
 rfl
theorem Qk{rs:List R5}{s:NS}{l:LS}{h:Nat}{ck:Option Nat}{os:List Nat}:(∀ r∈CM rs s l h ck os,r∈os)/\(CM rs s l h ck os).length<=os.length:=by
 unfold CM
 refine⟨λr hr=>?_,?_⟩
 ·obtain⟨x,hx,rfl⟩:=aN.mp hr
  obtain⟨k,hk,rfl⟩:=aN.mp (Ft.1 x hx)
  exact (bM.mp hk).1
 ·rw[ah]
  refine aO Ft.2 ?_
  rw[ah]
  exact bW _ _
theorem MS{s:NS}{l:LS}{h:Nat}:(∀ c∈kg s l h,c < s.aH.length)/\(kg s l h).length<=s.aH.length:=by
 unfold kg qg
 refine⟨λc z=>bE.mp (bM.mp (bM.mp z).1).1,?_⟩
 refine aO (bW _ _) (aO (bW _ _) ?_)
 rw[aZ]
 exact az _
theorem DQ{ns:List Int}{rs:List R5}{o:gO ns rs}{s:NS}{g:Nat}{os:List Nat}(O:ie (xV ns rs o s.ws g) (s.R g) os){r:Nat}(hr:r∈os):r < rs.length/\∃ w,s.ws[r]?=some w/\w≠[]:=by
 obtain⟨a,b,t⟩:=(O.2 r).mp hr
 have m:r∈Py rs s.ws g:=t.zK.1
 refine⟨yp r m,?_⟩
 have e:=(bM.mp m).2
 unfold isLive at e
 split at e
 ·rename_i re w h1 h2
  refine⟨w,h2,λz=>?_⟩
  subst z
  cases e
 ·cases e
theorem ZX{rs:List R5}{s:NS}{i h:Nat}{l:LS}{ck:Option Nat}{os:List Nat}(hl:s.ls[i]?=some l):Fr s (RE rs s i h l ck os):=((K8 hl).trans (xj (λ_ _=>Fl) _ _)).trans (xj (λ_ _=>Fq) _ _)
end
section
variable{P:Program}{w:World}{K:af}{mg:Str->Option Value}{base:Heap}
theorem ZY{c:NC}{H:Hp}{a dx:Addr}{l:LS}{cL:Addr}(h:H a=some (qk c dx l))(k:l.kd=1∨l.kd=2):D7 cL c.let1 c.abJ H a l.s l.to l.kd:=by
 rcases k with e | e
 ·rw[e]
  refine .one dx ?_
  rw[h]; unfold qk; rw[if_pos e]
 ·rw[e]
  refine .all dx ?_
  rw[h]; unfold qk; rw[if_neg (by rw[e]; decide)]
inductive XT(K:af)(CT:Addr)(c:NC)(vs:List V)(H:Hp)(Q:VK)(E:XK):Prop
 | mk (F:Addr->Prop) (p tp ln lr:Addr) (ns:List Int) (rs:List R5) (s:NS) (o:gO ns rs) (i h:Nat) (ck:Option Nat) (l:LS) (D:Nat):vs = [.ref p,.int i,.int h,qW (ck.map λk:Nat=>(k:Int))]->NW K c CT H F p tp ln lr ns rs s->AX ns rs s->Bd ns.length rs.length D s->D<=900000->s.ls[i]?=some l->(∀ os F' H',ie (xV ns rs o s.ws l.grp) (s.R l.grp) os->os.length<=12->NW K c CT H' F' p tp ln lr ns rs (RE rs s i h l ck os)->Step H F H' F'->Q .fh H')->XT K CT c vs H Q E
theorem vE{t:Ad}(T:Txt K mg t):cj P w K mg base ig 7 t.iJ t.ku ["self","number","house","came"]  (XT K t.bK (nc t)):=by
 refine T.pK.F.jK dR λH Q E hr h=>?_
 ·obtain⟨F,p,tp,ln,lr,ns,rs,st,o,i,hh,ck,l,D,rfl,N,DN,bd,hD,hli,k⟩:=h
  refine⟨_,(ao (sS 4 dR (xL (be (pv 0) rfl) (pv 1))) (ao (sS 5 dR (be (pv 4) rfl)) (ao (E8 (uW hr) (be (pv 4) rfl) (pv 2) Lq rfl) (ao (sS 6 dR (cG (OF T) hr T.Jm (Zi (be (pv 0) rfl) (cM (pv 0) T.bS T.wB (zC T) hr (gC (pv 5))) (cM (pv 0) T.bS T.rQ (tK T) hr (gC (pv 5))) (pv 2)))) (ao (sS 7 dR (cM (pv 0) T.bS T.vo (CG T) hr (mZ (pv 2) (pv 5)))) (ao (sS 8 dR (cG (OG T) hr T.Jl (aN6 (xL (be (pv 0) rfl) (pv 5)) (be (pv 4) rfl) (pv 2) (pv 3) (pv 6) (pv 7)))) (ao (fS (fE (xT (pv 8) aA)) (gT 9 dR) (ao (fD (p9 bq bz bx eB (xL (be (pv 0) rfl) (pv 9)) (gC (pv 1)))) (oE (p9 bq bz bx eB (be (pv 4) rfl) (gC (fK (Kh fW (pv 2) (pv 9)))))))) (bw (fS (fE (xT (pv 8) aA)) (gT 10 dR) (oE (cM (pv 0) T.bS T.GG (MR T) hr (Kh (pv 1) (pv 2) (pv 10))))))))))))),?_⟩
  try dsimp only[bJ]
  obtain⟨loc,dx,q,hp,O,hF,hT⟩:=id N.eY
  have X:lP K (nc t) H F loc dx q p tp ns.length st:=⟨hp,O,hF,hT⟩
  have c9:=O.get .eY _ rfl
  rw[hp] at c9
  have hil:=(ai.mp hli).1
  obtain⟨lb1,lb2,hg,lkd⟩:=bd.lb l (aQ hli)
  have OM:=O.get .cK _ rfl
  have JJ:=O.get (.bU i) (lQ (nc t) dx loc i l) (by show (st.ls[i]?.map _)=_; rw[hli]; rfl)
  have hdo:=O.get (.done i) (.dK (l.done.map λh:Nat=>(cV (h:Int),.bl true))) (by show (st.ls[i]?.map _)=_; rw[hli]; rfl)
  refine bF λNx b9=>?_
  refine⟨_,rfl,p,_,_,_,_,rfl,c9,T.bS,T.dY,rfl,_,rfl,loc .cK,_,_,_,rfl,rfl,bL.of OM,qX hil,b9 _ _ ?_⟩
  clear b9 Nx
  refine bF λNx b9=>?_
  refine⟨_,rfl,loc (.bU i),_,_,_,_,rfl,JJ,T.c6,T.jx,rfl,b9 _ _ ?_⟩
  clear b9 Nx
  refine bF λNx b9=>?_
  refine⟨_,rfl,loc (.bU i),_,_,_,_,rfl,JJ,T.c6,T.nk,rfl,_,rfl,loc (.done i),_,rfl,HV.k (k:=.inl (hh:Int)) hdo (zD (by rw[ah]; omega)),?_⟩
  rw[RC]
  refine b9 _ _ ?_
  clear b9 Nx
  obtain⟨X1,st1⟩:=TH X hli (jz l.done hh)
  have N1:=N.done st1 X1.eY
  generalize upd H (loc (.done i)) (.dK ((jz l.done hh).map λh:Nat=>((cV (h:Int):Key),V.bl true)))=H1 at X1 st1 N1
  have fr1:=K8 (h:=hh) hli
  have XU:=Qi (h:=hh) bd hli
  have es1:dS st i hh l = { st with ls:=st.ls.set i { l with done:=jz l.done hh } }:=rfl
  rw[<- es1] at X1 N1
  have DR:(dS st i hh l).ls[i]?=some { l with done:=jz l.done hh }:=by
   show (st.ls.set i _)[i]?=_
   rw[fZ hil,if_pos rfl]
  have ets:(dS st i hh l).ts=st.ts:=rfl
  have ehe:qg (dS st i hh l) hh l.grp=qg st hh l.grp:=rfl
  have k1:∀ os F' H',ie (xV ns rs o (dS st i hh l).ws l.grp) ((dS st i hh l).R l.grp) os->os.length<=12->NW K (nc t) t.bK H' F' p tp ln lr ns rs ((CM rs st l hh ck os).foldl (sG rs i hh) ((kg st l hh).foldl (j9 i hh) (dS st i hh l)))->Step H1 F H' F'->Q .fh H':=λos F' H' a b c d=>k os F' H' a b c (st1.trans d)
  have RG:=fr1.ok DN
  have ehd:kg st l hh=(qg (dS st i hh l) hh l.grp).filter λc:Nat=>C6 l.s l.to l.kd c:=rfl
  have ego:∀ os,CM rs st l hh ck os=(RY ((dS st i hh l).ts l.grp) (nO l.to l.kd) hh (ck.map λk:Nat=>(k:Int)) ((os.filter (isAt rs hh)).map λk:Nat=>(k:Int)) ((qg (dS st i hh l) hh l.grp).map λk:Nat=>(k:Int))).map Int.toNat:=λos=>rfl
  have hgi:∀ os,(RY ((dS st i hh l).ts l.grp) (nO l.to l.kd) hh (ck.map λk:Nat=>(k:Int)) ((os.filter (isAt rs hh)).map λk:Nat=>(k:Int)) ((qg (dS st i hh l) hh l.grp).map λk:Nat=>(k:Int))).map V.int=bO (CM rs st l hh ck os):=λos=>Wp
  have hgs:∀ os,(∀ r∈CM rs st l hh ck os,r∈os)/\(CM rs st l hh ck os).length<=os.length:=λos=>Qk
  have hhl:(∀ c∈kg st l hh,c < (dS st i hh l).aH.length)/\(kg st l hh).length<=(dS st i hh l).aH.length:=MS
  have hhi:((qg (dS st i hh l) hh l.grp).map λk:Nat=>(k:Int)).filter (C6 l.s l.to l.kd)=(kg st l hh).map λk:Nat=>(k:Int):=by
   rw[ehd,List.filter_map]
   rfl
  generalize CM rs st l hh ck=gs at k1 hgi hgs
  generalize kg st l hh=hs at k1 hhl hhi
  clear ego ehd ehe ets es1 k OM JJ hdo c9 X st1 fr1 DN N O hF hT hli bd
  generalize dS st i hh l=s1 at X1 N1 XU k1 DR RG hgi hhl hhi
  clear hil hp
  have ajD:=(ai.mp DR).1
  have lA:=X1.own.get .eY _ rfl
  rw[X1.hp] at lA
  refine bF λNx b9=>?_
  refine⟨_,rfl,p,_,_,_,_,rfl,lA,T.bS,T.nv,rfl,?_⟩
  refine⟨_,rfl,p,_,_,rfl,lA,rfl,_,rfl,F,p,tp,ln,lr,ns,rs,s1,l.grp,rfl,N1,o,RG,hg,λa1 H2 t2 ha1 h1=>?_⟩
  refine⟨_,rfl,p,_,_,rfl,t2 _ _ lA,rfl,_,rfl,F,p,tp,ns.length,l.grp,s1,rfl,(N1.mono t2).eY,hg,λa2 qs H3 t3 ha2 h2 ht=>?_⟩
  refine⟨_,rfl,tp,ln,lr,a1,a2,ns,rs,_,o.nd,o.ok,yp,s1.R l.grp,hh,rfl,(N1.mono (t2.trans t3)).AW,bL.of (t3 _ _ h1),ht.Oh (bL.of h2),by have:=o.n10; omega,o.m20,RG.fit l.grp hg,λlo os H4 t4 ZC hlo hO h12=>b9 _ _ ?_⟩
  clear b9 Nx
  have t14:=t2.trans (t3.trans t4)
  refine bF λNx b9=>?_
  refine⟨_,rfl,p,_,_,rfl,t14 _ _ lA,rfl,_,rfl,_,rfl,F,p,tp,ns.length,hh,l.grp,s1,rfl,(N1.mono t14).eY,XU.gl,XU.AI,λlh H5 t5 afA ZZ=>b9 _ _ ?_⟩
  clear b9 Nx
  have t15:=t14.trans t5
  have X5:=X1.mono t15
  have Z0:=t5 _ _ hlo
  have acC:=X5.own.get (.bU i) (lQ (nc t) dx loc i { l with done:=jz l.done hh }) (by show (s1.ls[i]?.map _)=_; rw[DR]; rfl)
  have acD:=X5.own.get (.letter i) (qk (nc t) (dx (.letter i)) { l with done:=jz l.done hh }) (by show (s1.ls[i]?.map _)=_; rw[DR]; rfl)
  rw[jn] at Z0 ZZ
  refine bF λNx b9=>?_
  refine⟨_,rfl,p,_,_,_,_,rfl,t15 _ _ lA,T.bS,T.tG,rfl,_,rfl,loc .lN,_,_,_,rfl,rfl,bL.of (X5.own.get .lN _ rfl),qX hg,_,rfl,loc (.bU i),_,_,_,_,rfl,acC,T.c6,T.gG,rfl,_,rfl,_,rfl,_,rfl,_,rfl,loc (.book l.grp),loc (.eW l.grp),loc (.letter i),lo,lh,s1.ts l.grp,l.s,l.to,l.kd,hh,ck.map λk:Nat=>(k:Int),_,_,rfl,X5.own.Og hg,ZY acD lkd,bL.of Z0,bL.of ZZ,?_,?_,λtq b1 b2 H6 t6 afC afD afE ajE htq hb1 hb2=>b9 _ _ ?_⟩
  ·rw[ah]
   have:=bW (isAt rs hh) os
   omega
  ·rw[ah]
   unfold qg
   have:=bW (DP s1 hh l.grp) (au s1.aH.length)
   rw[aZ] at this
   have:=XU.AI
   omega
  rw[hhi,<- jn] at hb1
  rw[hgi os] at hb2
  have hgs:=hgs os
  have k1:=k1 os
  generalize gs os=gs at hb2 hgs k1
  have t16:=t15.trans t6
  have X6:=X1.mono t16
  have nF:∀ {b},H5 b=none->¬ F b:=λ{b} e z=>by
   obtain⟨u,e'⟩:=X5.eY.there z
   rw[e] at e'
   cases e'
  have nq:=nF afC
  have n1:=nF afD
  have n2:=nF afE
  clear Z0 ZZ acC acD X5 hlo ht h1 h2 ZC afA ha1 ha2
  have acE:Step H1 F H6 F:=Step.refl' t16
  clear b9 Nx
  refine bF λNx b9=>?_
  refine⟨_,rfl,tq,_,0,_,rfl,rfl,cN.of htq,rfl,b1,rfl,⟨_,bL.of hb1⟩,zN (K:=K) (a:=b1) (xs:=bO hs) (λj σ H7=>∃ (q7:TQ) (v9:Option V),lP K (nc t) H7 F loc dx q7 p tp ns.length ((hs.take j).foldl (j9 i hh) s1)/\Step H6 F H7 F/\σ = [some (.ref p),some (.int i),some (.int hh),some (qW (ck.map λk:Nat=>(k:Int))),some (.ref (loc (.bU i))),some (.int l.grp),some (.ref lo),some (.ref lh),some (.ref tq),v9,none]) ⟨q,none,X6,Step.refl' (aE.refl _),rfl⟩ (λj σ H7 _ z=>?_) ?_ ?_⟩
  ·obtain⟨q7,v9,X7,RV,rfl⟩:=z
   exact bL.of (RV.kp _ _ hb1 n1)
  ·rintro j y σ H7 Nf zZ hj ⟨q7,v9,X7,RV,rfl⟩
   have hjl:j < hs.length:=by
    have:=(ai.mp hj).1
    rw[ah] at this
    exact this
   rw[ak,aa hjl] at hj
   cases hj
   rw[JL hjl] at zZ
   have b7:Bd ns.length rs.length (D + 1 + 1 * (hs.take j).length) ((hs.take j).foldl (j9 i hh) s1):=Aa (λ_=>True) _ _ _ (λs x D _ _ b=>⟨trivial,K9 b⟩) trivial XU
   have f7:Fr s1 ((hs.take j).foldl (j9 i hh) s1):=xj (λ_ _=>Fl) _ _
   have hjt:(hs.take j).length<=20:=by
    rw[bZ]
    have:=hhl.2
    have:=XU.AI
    omega
   obtain⟨l7,U6,_⟩:=f7.lt i _ DR
   have hcl:hs[j] < ((hs.take j).foldl (j9 i hh) s1).had.length:=by
    rw[b7.hl,f7.aH]
    exact hhl.1 _ (aK hjl)
   generalize (hs.take j).foldl (j9 i hh) s1=s7 at X7 b7 U6 hcl zZ
   show gX 9 (V.int ((hs[j]:Nat):Int)) _ _ _
   generalize hs[j]=c at hcl zZ
   have XW:=X7.own.get .eY _ rfl
   rw[X7.hp] at XW
   have hhc:=X7.own.get (.handed c) (.lst (bO s7.had[c])) (by show (s7.had[c]?.map _)=_; rw[aa hcl]; rfl)
   have hwl:=b7.hb _ (aK hcl)
   have hdl:=(b7.lb l7 (aQ U6)).1
   refine⟨_,rfl,p,_,_,_,_,rfl,XW,T.bS,T.Ck,rfl,_,rfl,loc .lO,_,_,_,rfl,rfl,bL.of (X7.own.get .lO _ rfl),qX hcl,.inl ⟨rfl,_,bL.of hhc⟩,_,rfl,loc (.handed c),_,_,rfl,rfl,hhc,zD (by rw[ah]; omega),?_⟩
   obtain⟨X8,R6⟩:=TJ X7 hcl (s7.had[c]++[i])
   rw[ir] at X8 R6
   generalize upd H7 (loc (.handed c)) (.lst (bO s7.had[c]++[V.int i]))=H8 at X8 R6
   have es:{ s7 with had:=s7.had.set c (s7.had[c]++[i]) }=sF s7 i c:=by
    unfold sF
    rw[av,aa hcl]
    rfl
   rw[es] at X8
   have R3:(sF s7 i c).ls[i]?=some l7:=U6
   have afF:=X8.own.get (.bU i) (lQ (nc t) dx loc i l7) (by show ((sF s7 i c).ls[i]?.map _)=_; rw[R3]; rfl)
   have acF:=X8.own.get (.aF i) (.lst ((q7.dq i).map V.ref)) (by show ((sF s7 i c).ls[i]?.map _)=_; rw[R3]; rfl)
   have ON:=(X8.tup.aF i _ R3).len
   rw[ah] at ON
   refine⟨_,rfl,loc (.bU i),_,_,_,_,rfl,afF,T.c6,T.ic,rfl,.inl ⟨rfl,_,bL.of acF⟩,_,rfl,_,rfl,(by show 3<=sizeLine; decide),λz1 hz1=>?_⟩
   have u1:=aE.new (o:=.tup [V.str "hand",V.int hh,V.int c]) hz1
   refine⟨loc (.aF i),_,_,rfl,rfl,u1 _ _ acF,zD (by rw[ah,ON]; omega),?_⟩
   obtain⟨X9,st9⟩:=BV (X8.mono u1) R3 (d:=.hand hh c) (cN.of ay)
   rw[<- fj R3] at X9
   exact zZ _ _ ⟨_,_,X9,(RV.trans R6).trans ((Step.refl' (F:=F) u1).trans st9),rfl⟩
  ·rintro σ H7 ⟨q7,v9,X7,RV,rfl⟩
   refine b9 _ _ ?_
   clear b9 Nx
   rw[ah,jP] at X7
   have b7:Bd ns.length rs.length (D + 1 + 1 * hs.length) (hs.foldl (j9 i hh) s1):=Aa (λ_=>True) _ _ _ (λs x D _ _ b=>⟨trivial,K9 b⟩) trivial XU
   have f7:Fr s1 (hs.foldl (j9 i hh) s1):=xj (λ_ _=>Fl) _ _
   have hjt:hs.length<=20:=by
    have:=hhl.2
    have:=XU.AI
    omega
   have N7:=N1.done (acE.trans RV) X7.eY
   obtain⟨l7,U6,_⟩:=f7.lt i _ DR
   have acG:=f7.ok RG
   have hO7:ie (xV ns rs o (hs.foldl (j9 i hh) s1).ws l.grp) ((hs.foldl (j9 i hh) s1).R l.grp) os:=by rw[f7.ws,f7.R]; exact hO
   generalize hs.foldl (j9 i hh) s1=s7 at X7 b7 U6 N7 k1 acG hO7
   refine⟨_,rfl,tq,_,1,_,rfl,rfl,cN.of (RV.kp _ _ htq nq),rfl,b2,rfl,⟨_,bL.of (RV.kp _ _ hb2 n2)⟩,zN (K:=K) (a:=b2) (xs:=bO gs) (λj σ H8=>∃ (F8:Addr->Prop) (v10:Option V),NW K (nc t) t.bK H8 F8 p tp ln lr ns rs ((gs.take j).foldl (sG rs i hh) s7)/\Step H6 F H8 F8/\σ = [some (.ref p),some (.int i),some (.int hh),some (qW (ck.map λk:Nat=>(k:Int))),some (.ref (loc (.bU i))),some (.int l.grp),some (.ref lo),some (.ref lh),some (.ref tq),v9,v10]) ⟨F,none,N7,RV,rfl⟩ (λj σ H8 _ z=>?_) ?_ ?_⟩
   ·obtain⟨F8,v10,N8,R6,rfl⟩:=z
    exact bL.of (R6.kp _ _ hb2 n2)
   ·rintro j y σ H8 Nf zZ hj ⟨F8,v10,N8,R6,rfl⟩
    have hjl:j < gs.length:=by
     have:=(ai.mp hj).1
     rw[ah] at this
     exact this
    rw[ak,aa hjl] at hj
    cases hj
    rw[JL hjl] at zZ
    have hgl:∀ r∈gs,r < rs.length:=λr hr=>(DQ hO7 (hgs.1 r hr)).1
    have f8:Fr s7 ((gs.take j).foldl (sG rs i hh) s7):=xj (λ_ _=>Fq) _ _
    have b8:Bd ns.length rs.length (D + 1 + 1 * hs.length + 2 * (gs.take j).length) ((gs.take j).foldl (sG rs i hh) s7):=Aa (λs=>i < s.ls.length) _ _ _ (λs x D hx hi b=>⟨by
     obtain⟨l',e,_⟩:=(Fq (rs:=rs) (h:=hh) (i:=i) (r:=x) (s:=s)).lt i _ (aa hi)
     exact (ai.mp e).1,Qj o b hi (hgl x (List.mem_of_mem_take hx))⟩) (ai.mp U6).1 b7
    have ajG:(gs.take j).length<=12:=by
     rw[bZ]
     have:=hgs.2
     omega
    obtain⟨hrl,w',hw,hwn⟩:=DQ hO7 (hgs.1 _ (aK hjl))
    rw[<- f8.ws] at hw
    obtain⟨l8,R3,_⟩:=f8.lt i _ U6
    have acH:=f8.ok acG
    generalize (gs.take j).foldl (sG rs i hh) s7=s8 at N8 b8 R3 hw acH zZ
    show gX 10 (V.int ((gs[j]:Nat):Int)) _ _ _
    generalize gs[j]=r at hrl hw zZ
    obtain⟨ajH,dx8,q8,hp8,O8,hF8,hT8⟩:=id N8.eY
    have JM:=O8.get .eY _ rfl
    rw[hp8] at JM
    have hdl:=(b8.lb l8 (aQ R3)).1
    have hcl:=b8.cb
    have hwl:jO l8 % w'.length < w'.length:=Nat.mod_lt _ (List.length_pos_iff.mpr hwn)
    have hwx:w'[(((jO l8:Nat):Int) % (w'.length:Int)).toNat]?=some w'[jO l8 % w'.length]:=by
     rw[show (((jO l8:Nat):Int) % (w'.length:Int))=((jO l8 % w'.length:Nat):Int) from rfl,dP]
     exact aa hwl
    have hre:=aa hrl
    refine⟨_,rfl,p,_,_,rfl,JM,rfl,_,rfl,_,rfl,_,rfl,F8,p,tp,ln,lr,ns,rs,s8,i,hh,r,l8,rs[r],w',_,rfl,N8,o,acH,R3,by omega,by omega,hre,hw,hwx,hwn,λF9 H9 N9 st9=>?_⟩
    refine zZ _ _ ⟨F9,_,?_,R6.trans st9,rfl⟩
    have e1:i6 s8.ws r (RD s8 i)=w'[jO l8 % w'.length]:=by
     unfold i6 RD
     rw[hw,R3]
     show w'.getD (jO l8 % w'.length) 0=_
     rw[av,aa hwl]
     rfl
    have e2:eN rs r hh=fz rs[r] hh:=by
     unfold eN
     rw[hre]
    unfold sG
    rw[e1,e2]
    exact N9
   ·rintro σ H8 ⟨F8,v10,N8,R6,rfl⟩
    rw[ah,jP] at N8
    exact k1 F8 H8 hO h12 N8 (acE.trans R6)
theorem Z1{a b:TS}{D:Ends}{σ:L2.St}{H:Hp}(J:L2.St->Hp->Prop)(hn:∀ σ H,J σ H->b D σ H)(h:∀ N:L2.St->Hp->Prop,(∀ σ H,J σ H->N σ H)->a { D with nx:=N } σ H):Sf a b D σ H:=h _ hn
inductive Ql(C:Addr)(vs:List V)(H:Hp)(Q:VK)(E:XK):Prop
 | mk (p dx la:Addr) (g:Int):vs = [.ref p,.ref la,.int g]->H p=some (.ins C dx [])->(∀ da ea H',H da=none->H ea=none->da≠ea->H' p=some (.ins C dx [("letter",.ref la),("group",.int g),("old",.bl false),("done_at",.ref da),("deeds",.ref ea)])->H' da=some (.dK [])->H' ea=some (.lst [])->(∀ b o,H b=some o->b≠p->H' b=some o)->Q .fh H')->Ql C vs H Q E
theorem DS{t:Ad}(T:Txt K mg t):cj P w K mg base ig 1 t.iI t.kr ["self","letter","group"]  (Ql t.iM):=by
 refine T.xA.F.jK Dk λH Q E hr h=>?_
 ·obtain⟨p,dx,la,g,rfl,hp,k⟩:=h
  refine⟨_,(ao (fJ (pv 0) (pv 1) rfl) (ao (fJ (pv 0) (pv 2) rfl) (ao (fJ (pv 0) Lq rfl) (ao (fJ (pv 0) SS rfl) (bw (fJ (pv 0) (ji gY) rfl)))))),?_⟩
  try dsimp only[bJ]
  refine⟨_,rfl,_,rfl,p,_,dx,_,rfl,hp,T.c6,T.gG,(by decide),?_⟩
  rw[dc (names:=[]) rfl rfl]
  refine⟨_,rfl,_,rfl,p,_,dx,_,rfl,ay,T.c6,T.jx,(by show 1 < 1000; decide),?_⟩
  rw[dc (names:=["letter"]) rfl (by decide +kernel),JV]
  refine⟨_,rfl,p,_,dx,_,rfl,ay,T.c6,T.wF,(by show 2 < 1000; decide),?_⟩
  rw[dc (names:=["letter","group"]) rfl (by decide +kernel),JV]
  intro da hda
  have Z2:H da=none:=by
   by_cases z:da=p
   ·subst z; rw[ay] at hda; cases hda
   ·rw[aI z] at hda; exact hda
  have nd:p≠da:=aR hp Z2
  refine⟨_,rfl,p,_,dx,_,rfl,(by rw[aI nd]; exact ay),T.c6,T.nk,(by show 3 < 1000; decide),?_⟩
  rw[dc (names:=["letter","group","old"]) rfl (by decide +kernel)]
  refine⟨aV _,λea RH=>?_⟩
  have ne:ea≠p:=λz=>by subst z; rw[ay] at RH; cases RH
  rw[aI ne] at RH
  have nde:da≠ea:=λz=>by subst z; rw[ay] at RH; cases RH
  rw[aI (bT nde),aI ne] at RH
  refine⟨_,rfl,p,_,dx,_,rfl,(by rw[aI (bT ne)]; exact ay),T.c6,T.ic,(by show 4 < 1000; decide),?_⟩
  rw[dc (names:=["letter","group","old","done_at"]) rfl (by decide +kernel)]
  refine k da ea _ Z2 RH nde ay ?_ ?_ λb o e nb=>?_
  ·rw[aI (bT nd),aI nde,aI (bT nd)]; exact ay
  ·rw[aI ne]; exact ay
  ·rw[aI nb,aI (aR e RH),aI nb,aI (aR e Z2),aI nb]; exact e
noncomputable def gi(s:NS)(x:Nat)(to:Option Nat):LS:={ s:=x,to:=to.getD 0,kd:=if to.isSome=true then 1 else 2,grp:=s.groups.getD x 0,old:=false,done:=[],aF:=[] }
noncomputable def JN(s:NS)(l:LS):NS:={ s with ls:=s.ls++[l] }
noncomputable def oS(s:NS)(x:Nat)(to:Option Nat):NS:={ s with ls:=s.ls++[{ gi s x to with aF:=[.post (s.aH.getD x 0)] }] }
noncomputable def zE(rs:List R5)(s:NS)(x:Nat)(to:Option Nat)(os:List Nat):NS:=RE rs (oS s x to) s.ls.length (s.aH.getD x 0) { gi s x to with aF:=[.post (s.aH.getD x 0)] } none os
theorem RI{s:NS}{x:Nat}{to:Option Nat}:nP (JN s (gi s x to)) s.ls.length (.post (s.aH.getD x 0))=oS s x to:=by
 rw[fj (l:=gi s x to) (by show (s.ls++[_])[s.ls.length]?=_; rw[bD (az _),dX]; rfl)]
 show { s with ls:=(s.ls++[_]).set s.ls.length _ } = { s with ls:=_ }
 congr 1
 rw[uO _ _ (az _),dX]
 rfl
theorem xm{s:NS}{l:LS}:(s.ls++[l])[s.ls.length]?=some l:=by rw[bD (az _),dX]; rfl
theorem Qm{n m D:Nat}{s:NS}{x:Nat}{to:Option Nat}(b:Bd n m D s)(hx:x < s.aH.length):Bd n m (D + 1) (oS s x to):=by
 have b1:=b.mono (eS D)
 refine⟨b1.gl,b1.AI,b1.g3,b1.hm,b1.hl,b1.hb,?_,λl z=>?_,b1.cb,λc z=>?_,b1.tb⟩
 ·show (s.ls++[_]).length<=_
  rw[aB]
  exact m5 b.ll 1
 ·rcases aY.mp z with y | y
  ·exact b1.lb l y
  ·rw[aP] at y
   subst y
   refine⟨?_,aV _,?_,?_⟩
   ·show 1 + s.cps.length<=D + 1
    have:=b.cb
    omega
   ·show s.groups.getD x 0 < 3
    have hg:x < s.groups.length:=by rw[b.gl]; exact hx
    rw[av,aa hg]
    exact b.g3 _ (aK hg)
   ·show (if _ then (1:Int) else 2)=1∨(if _ then (1:Int) else 2)=2
    split
    ·exact .inl rfl
    ·exact .inr rfl
 ·obtain⟨h1,h2⟩:=b.cl c z
  refine⟨?_,h2⟩
  show c.l < (s.ls++[_]).length
  rw[aB]
  exact bH h1 (oV _ _)
inductive Qn(K:af)(CT:Addr)(c:NC)(vs:List V)(H:Hp)(Q:VK)(E:XK):Prop
 | mk (F:Addr->Prop) (p tp ln lr:Addr) (ns:List Int) (rs:List R5) (s:NS) (o:gO ns rs) (x:Nat) (to:Option Nat) (D:Nat):vs = [.ref p,.int x,qW (to.map λy:Nat=>(y:Int))]->NW K c CT H F p tp ln lr ns rs s->AX ns rs s->Bd ns.length rs.length D s->D<=800000->x < s.aH.length->(∀ y,to=some y->y < s.aH.length/\s.groups[y]?=s.groups[x]?)->(∀ os F' H',ie (xV ns rs o s.ws (s.groups.getD x 0)) (s.R (s.groups.getD x 0)) os->os.length<=12->NW K c CT H' F' p tp ln lr ns rs (zE rs s x to os)->Step H F H' F'->Q (.int s.ls.length) H')->Qn K CT c vs H Q E
theorem MT{t:Ad}(T:Txt K mg t):cj P w K mg base ig 8 t.iC t.wA ["self","sender","to"]  (Qn K t.bK (nc t)):=by
 refine T.rR.jK sQ λH Q E hr h=>?_
 ·obtain⟨F,p,tp,ln,lr,ns,rs,st,o,x,to,D,rfl,N,DN,bd,hD,hx,hto,k⟩:=h
  refine⟨_,(ao (fD (cM (pv 0) T.bS T.vp (CF T) hr (mZ (pv 1) (pv 2)))) (ao (sS 3 sQ (x6 (qT Np (pv 2) gF) (O6 T.V5 (vB T) (hr.mono (by decide)) rfl T.V4 T.pJ.B .nil jR (gC (pv 1))) (cI T.yI (EX T) hr T.V3 (mZ (pv 1) (pv 2))))) (ao (sS 4 sQ (lS T.gf (be (pv 0) rfl))) (ao (fD (p9 bq bz bx eB (be (pv 0) rfl) (gC (cI T.xA (DS T) hr T.T5 (mZ (pv 3) (xL (be (pv 0) rfl) (pv 1))))))) (ao (sS 5 sQ (xL (be (pv 0) rfl) (pv 1))) (ao (fD (p9 bq bz bx eB (be (xL (be (pv 0) rfl) (pv 4)) rfl) (gC (fK (mZ fW (pv 5)))))) (ao (fD (cM (pv 0) T.bS T.pK (vE T) hr (Kh (pv 4) (pv 5) gF))) (oR (pv 4))))))))),?_⟩
  try dsimp only[bJ]
  obtain⟨loc,dx,q,hp,O,hF,hT⟩:=id N.eY
  have c9:=O.get .eY _ rfl
  rw[hp] at c9
  have R4:x < st.groups.length:=by rw[bd.gl]; exact hx
  refine bF λNx b9=>?_
  refine⟨_,rfl,p,_,_,rfl,c9,rfl,_,rfl,_,rfl,F,p,tp,ns.length,x,to,st,rfl,N.eY,hx,bd.gl,hto,b9 _ _ ?_⟩
  clear b9 Nx
  refine Z1 (λσ H1=>∃ la Kg,aE H H1/\H la=none/\H1 la=some (qk (nc t) Kg (gi st x to))/\σ = [some (.ref p),some (.int x),some (qW (to.map λy:Nat=>(y:Int))),some (.ref la),none,none]) ?_ (λN hN=>?_)
  rotate_left
  ·cases to with
   | none =>
    refine⟨_,rfl,rfl,_,rfl,fL ?_⟩
    refine⟨_,rfl,λz dz hz hdz hne=>⟨z,_,dz,x,rfl,ay,T.wD,T.mG,rfl,?_⟩⟩
    exact hN _ _ ⟨z,dz,made hz hdz hne,hz,ay,rfl⟩
   | some y =>
    refine⟨_,rfl,rfl,_,rfl,cP ?_⟩
    refine⟨_,rfl,_,rfl,λz dz hz hdz hne=>⟨z,dz,x,y,rfl,ay,λH3 hy3 kp=>⟨rfl,?_⟩⟩⟩
    exact hN _ _ ⟨z,dz,λb u e=>kp b u (((aE.new hdz).trans (aE.new (by rw[aI (bT hne)]; exact hz))) b u e) (aR e hz),hz,hy3,rfl⟩
  rintro σ H1 ⟨la,Kg,s1,Z3,hla,rfl⟩
  have lA:=s1 _ _ c9
  have N1:=N.mono s1
  obtain⟨O1,T1⟩:=And.intro (O.mono s1) (hT.mono λb x=>s1.b5 (a:=b) (xs:=x))
  have Wq:=O1.get .cK _ rfl
  refine bF λNx b9=>?_
  refine⟨_,rfl,p,_,_,_,_,rfl,lA,T.bS,T.dY,rfl,loc .cK,_,rfl,.inl (bL.of Wq),?_⟩
  rw[ah,aZ]
  refine b9 _ _ ?_
  clear b9 Nx
  refine bF λNx b9=>?_
  refine⟨_,rfl,p,_,_,_,_,rfl,lA,T.bS,T.dY,rfl,.inl ⟨rfl,_,bL.of Wq⟩,_,rfl,_,rfl,p,_,_,_,_,rfl,lA,T.bS,T.mK,rfl,_,rfl,loc .groups,_,_,_,rfl,rfl,bL.of (O1.get .groups _ rfl),qY R4,λpa CL hpa Wr Ws=>⟨pa,CL,la,_,rfl,ay,λda ea H2 hda RH nde h2p h2d h2e Pj=>⟨rfl,?_⟩⟩⟩
  have s12:aE H1 H2:=λb u e=>Pj b u (((aE.new Wr).trans (aE.new (by rw[aI (bT Ws)]; exact hpa))) b u e) (aR e hpa)
  have da0:H1 da=none:=by
   cases e:H1 da with
   | none=>rfl
   | some u =>
    have:=((aE.new (o:=.own pa) Wr).trans (aE.new (o:=.ins t.iM CL []) (by rw[aI (bT Ws)]; exact hpa))) _ _ e
    rw[hda] at this
    cases this
  have ea0:H1 ea=none:=by
   cases e:H1 ea with
   | none=>rfl
   | some u =>
    have:=((aE.new (o:=.own pa) Wr).trans (aE.new (o:=.ins t.iM CL []) (by rw[aI (bT Ws)]; exact hpa))) _ _ e
    rw[RH] at this
    cases this
  have nF:∀ {b},H1 b=none->¬ F b:=λ{b} e z=>by
   obtain⟨u,e'⟩:=N1.eY.there z
   rw[e] at e'
   cases e'
  have nFl:¬ F la:=λz=>by
   obtain⟨u,e'⟩:=N.eY.there z
   rw[Z3] at e'
   cases e'
  have npd:pa≠da:=λz=>by rw[<- z,ay] at hda; cases hda
  have npe:pa≠ea:=λz=>by rw[<- z,ay] at RH; cases RH
  have XJ:∀ {b},H1 b=none->la≠b:=λ{b} e=>aR hla e
  have eg:st.groups.getD x 0=st.groups[x]:=by rw[av,aa R4]; rfl
  have acI:=s12 _ _ Wq
  refine⟨loc .cK,_,_,rfl,rfl,acI,zD (by rw[ah,aZ]; have:=bd.ll; omega),?_⟩
  obtain⟨F3,N3,kp3,fr3⟩:=TL (l:=gi st x to) (CL:=CL) (Kg:=Kg) (pa:=pa) (la:=la) (da:=da) (ea:=ea) hp (O1.mono s12) hF (T1.mono λb x=>s12.b5 (a:=b) (xs:=x)) rfl (by show _=some (HO.ins _ _ [_,(_,V.int ((st.groups.getD x 0:Nat):Int)),_,_,_]); rw[eg]; exact h2p) (s12 _ _ hla) h2d h2e (bT (XJ hpa)) npd npe (XJ da0) (XJ ea0) nde (nF hpa) nFl (nF da0) (nF ea0)
  have st3:Step H F _ F3:=⟨λb u e z=>kp3 b u (s12 _ _ (s1 _ _ e)) z,λb z=>by
   rcases fr3 b z with y | rfl | rfl | rfl | rfl
   ·exact .inl y
   ·exact .inr (s1.free hpa)
   ·exact .inr Z3
   ·exact .inr (s1.free da0)
   ·exact .inr (s1.free ea0)⟩
  have W3:=N.done st3 N3
  generalize upd H2 (loc .cK) (.lst (((au st.ls.length).map λi=>V.ref (loc (.bU i)))++[.ref pa]))=H3 at st3 W3 N3
  refine b9 _ _ ?_
  clear b9 Nx
  clear kp3 fr3 acI XJ npe npd nFl nF ea0 da0 s12 Pj h2e h2d h2p nde RH hda Ws Wr hpa Wq T1 O1 N1 lA hla Z3 s1 c9 hT hF O hp
  obtain⟨Hz,dx3,q3,hp3,O3,hF3,hT3⟩:=id W3.eY
  have X3:lP K (nc t) H3 F3 Hz dx3 q3 p tp ns.length (JN st (gi st x to)):=⟨hp3,O3,hF3,hT3⟩
  have jI:=O3.get .eY _ rfl
  rw[hp3] at jI
  have hl3:(JN st (gi st x to)).ls[st.ls.length]?=some (gi st x to):=xm
  have Wt:st.ls.length < (JN st (gi st x to)).ls.length:=(ai.mp hl3).1
  have eh:st.aH.getD x 0=st.aH[x]:=by rw[av,aa hx]; rfl
  refine bF λNx b9=>?_
  refine⟨_,rfl,p,_,_,_,_,rfl,jI,T.bS,T.oQ,rfl,_,rfl,Hz .aH,_,_,_,rfl,rfl,bL.of (O3.get .aH _ rfl),qY hx,b9 _ _ ?_⟩
  clear b9 Nx
  have UA:=O3.get (.bU st.ls.length) (lQ (nc t) dx3 Hz st.ls.length (gi st x to)) (by show ((JN st (gi st x to)).ls[st.ls.length]?.map _)=_; rw[hl3]; rfl)
  have acJ:=O3.get (.aF st.ls.length) (.lst ((q3.dq st.ls.length).map V.ref)) (by show ((JN st (gi st x to)).ls[st.ls.length]?.map _)=_; rw[hl3]; rfl)
  have ON:=(X3.tup.aF _ _ hl3).len
  rw[ah] at ON
  refine bF λNx b9=>?_
  refine⟨_,rfl,p,_,_,_,_,rfl,jI,T.bS,T.dY,rfl,_,rfl,Hz .cK,_,_,_,rfl,rfl,bL.of (O3.get .cK _ rfl),qX Wt,Hz (.bU st.ls.length),_,_,_,_,rfl,UA,T.c6,T.ic,rfl,.inl ⟨rfl,_,bL.of acJ⟩,_,rfl,(by show 2<=sizeLine; decide),λz1 hz1=>?_⟩
  have u1:=aE.new (o:=.tup [V.str "post",V.int (st.aH[x]:Nat)]) hz1
  refine⟨Hz (.aF st.ls.length),_,_,rfl,rfl,u1 _ _ acJ,zD (by rw[ah,ON]; exact aV _),?_⟩
  obtain⟨X4,HW⟩:=BV (X3.mono u1) hl3 (d:=.post st.aH[x]) (cN.of ay)
  rw[<- fj hl3,<- eh,RI] at X4
  rw[<- eh] at HW u1
  rw[<- eh]
  have Z4:=st3.trans ((Step.refl' (F:=F3) u1).trans HW)
  have W4:=N.done Z4 X4.eY
  generalize upd (upd H3 z1 (.tup [V.str "post",V.int (st.aH.getD x 0:Nat)])) (Hz (.aF st.ls.length)) (.lst ((q3.dq st.ls.length).map V.ref++[.ref z1]))=H4 at X4 Z4 W4
  refine b9 _ _ ?_
  clear b9 Nx
  have xO:=X4.own.get .eY _ rfl
  rw[X4.hp] at xO
  have Z5:AX ns rs (oS st x to):=⟨DN.wl,DN.w4,DN.fit⟩
  refine bF λNx b9=>?_
  refine⟨_,rfl,p,_,_,rfl,xO,rfl,_,rfl,_,rfl,F3,p,tp,ln,lr,ns,rs,oS st x to,o,st.ls.length,st.aH.getD x 0,none,{ gi st x to with aF:=[.post (st.aH.getD x 0)] },D + 1,rfl,W4,Z5,Qm bd hx,by omega,xm,λos F5 H5 hO h12 W5 IQ=>?_⟩
  exact b9 _ _ ⟨_,rfl,k os F5 H5 hO h12 W5 (Z4.trans IQ)⟩
theorem XX{ns:List Int}{rs:List R5}(o:gO ns rs){D:Nat}{s:NS}{i h:Nat}{l:LS}{ck:Option Nat}{os:List Nat}(b:Bd ns.length rs.length D s)(hl:s.ls[i]?=some l)(O:ie (xV ns rs o s.ws l.grp) (s.R l.grp) os)(h12:os.length<=12):Bd ns.length rs.length (D + 45) (RE rs s i h l ck os):=by
 have b1:=Qi (h:=h) b hl
 have f1:=K8 (h:=h) hl
 have b2:Bd ns.length rs.length (D + 1 + 1 * (kg s l h).length) ((kg s l h).foldl (j9 i h) (dS s i h l)):=Aa (λ_=>True) _ _ _ (λs x D _ _ b=>⟨trivial,K9 b⟩) trivial b1
 have f2:Fr (dS s i h l) ((kg s l h).foldl (j9 i h) (dS s i h l)):=xj (λ_ _=>Fl) _ _
 obtain⟨l2,hl2,_⟩:=(f1.trans f2).lt i l hl
 have h1:=(MS (s:=s) (l:=l) (h:=h)).2
 have h2:=b.AI
 have hs:=Qk (rs:=rs) (s:=s) (l:=l) (h:=h) (ck:=ck) (os:=os)
 have h3:=hs.2
 have b3:=Aa (k:=2) (f:=sG rs i h) (λs=>i < s.ls.length) (CM rs s l h ck os) _ _ (λs x D hx hi b=>⟨by
  obtain⟨l',e,_⟩:=(Fq (rs:=rs) (h:=h) (i:=i) (r:=x) (s:=s)).lt i _ (aa hi)
  exact (ai.mp e).1,Qj o b hi (DQ O (hs.1 x hx)).1⟩) (ai.mp hl2).1 b2
 exact b3.mono (by omega)
noncomputable def xP(l:LS)(cp:Cp)(os:List Nat):Str:=if cp.r∈os then (if AK l cp.h=true then "twice" else "come") else "lost"
noncomputable def kh(l:LS)(cp:Cp)(os:List Nat):cF:=if cp.r∈os then (if AK l cp.h=true then .twice cp.h cp.r else .oA cp.h cp.r) else .Ri cp.h cp.r
theorem Wu{l:LS}{cp:Cp}{os:List Nat}:(kh l cp os).vs = [.str (xP l cp os),.int cp.h,.int cp.r]:=by
 unfold kh xP
 split
 ·split <;> rfl
 ·rfl
noncomputable def comes(l:LS)(cp:Cp)(os:List Nat):Bool:=decide (cp.r∈os) && !AK l cp.h
theorem RJ{l:LS}{cp:Cp}{os:List Nat}:decide (V.str (xP l cp os)=V.str "come")=comes l cp os:=by
 unfold xP comes
 by_cases e:cp.r∈os
 ·rw[if_pos e,decide_eq_true e]
  cases AK l cp.h
  ·rw[if_neg (by decide)]; decide +kernel
  ·rw[if_pos rfl]; decide +kernel
 ·rw[if_neg e,decide_eq_false e,Bool.false_and]; decide +kernel
noncomputable def MU(s:NS)(a:Nat):NS:={ s with cps:=s.cps.eraseIdx a }
noncomputable def AL(s:NS)(g:Nat)(ts:List T3):NS:={ s with ts:=gq s.ts g ts }
noncomputable def iF(s:NS)(a:Nat)(cp:Cp)(l:LS)(os:List Nat):NS:={ s with cps:=s.cps.eraseIdx a,ls:=s.ls.set cp.l { l with aF:=l.aF++[kh l cp os] } }
noncomputable def ff(s:NS)(a:Nat)(cp:Cp)(l:LS)(os:List Nat)(ts:List T3):NS:=if l.old=true then iF s a cp l os else AL (iF s a cp l os) l.grp ts
noncomputable def qi(rs:List R5)(s:NS)(a:Nat)(cp:Cp)(l:LS)(os:List Nat)(ts:List T3):NS :=
 if comes l cp os=true then RE rs (ff s a cp l os ts) cp.l cp.h { l with aF:=l.aF++[kh l cp os] } (some cp.r) os else iF s a cp l os
theorem DT{n m D:Nat}{s:NS}{a:Nat}{cp:Cp}{l:LS}{os:List Nat}(b:Bd n m D s)(hl:s.ls[cp.l]?=some l)(ha:a < s.cps.length):Bd n m (D + 1) (iF s a cp l os):=by
 have el:(s.cps.eraseIdx a).length + 1=s.cps.length:=by
  rw[List.length_eraseIdx,if_pos ha]
  omega
 refine b.set 1 hl (by omega) (.inl (by omega)) (az _) ?_ (eS _) rfl rfl (λc z=>.inl (List.mem_of_mem_eraseIdx z)) rfl (λw z=>Nat.le_succ_of_le (b.hb w z))
 show (l.aF++[_]).length + _<=_
 rw[aB]
 show l.aF.length + 1 + _<=_
 omega
theorem UB{ts ts':List T3}{h c r:Int}(p:ts'.Perm (put3 ts h c r)):ts'.length<=ts.length + 1:=by
 rw[p.length_eq]
 unfold put3
 rw[aB]
 exact m5 (bW _ _) 1
theorem Wv{n m D:Nat}{s:NS}{g:Nat}{ts:List T3}{h c r:Int}(b:Bd n m D s)(p:ts.Perm (put3 (s.ts g) h c r))(oe:fG ts):Bd n m (D + 50) (AL s g ts):=by
 have b1:=b.mono (oV D 50)
 refine⟨b1.gl,b1.AI,b1.g3,b1.hm,b1.hl,b1.hb,b1.ll,b1.lb,b1.cb,b1.cl,λg'=>?_⟩
 show 50 * (gq s.ts g ts g').length<=_/\fG (gq s.ts g ts g')
 by_cases z:g'=g
 ·subst z
  rw[cH]
  refine⟨?_,oe⟩
  have:=UB p
  have:=(b.tb g').1
  omega
 ·rw[eT z]
  exact b1.tb g'
theorem DU{s:NS}{a:Nat}{cp:Cp}{l:LS}{os:List Nat}(hl:s.ls[cp.l]?=some l):(iF s a cp l os).ls[cp.l]?=some { l with aF:=l.aF++[kh l cp os] }:=by
 show (s.ls.set cp.l _)[cp.l]?=_
 rw[fZ (ai.mp hl).1,if_pos rfl]
theorem CH{s:NS}{a:Nat}{cp:Cp}{l:LS}{os:List Nat}{ts:List T3}(hl:s.ls[cp.l]?=some l):(ff s a cp l os ts).ls[cp.l]?=some { l with aF:=l.aF++[kh l cp os] }:=by
 unfold ff
 split
 ·exact DU hl
 ·exact DU (a:=a) hl
theorem HC{s:NS}{a:Nat}{cp:Cp}{l:LS}{os:List Nat}{ts:List T3}:(ff s a cp l os ts).ws=s.ws/\(ff s a cp l os ts).R=s.R/\(ff s a cp l os ts).aH=s.aH/\(ff s a cp l os ts).groups=s.groups:=by
 unfold ff
 split <;> exact⟨rfl,rfl,rfl,rfl⟩
theorem MV{n m D:Nat}{s:NS}{a:Nat}{cp:Cp}{l:LS}{os:List Nat}{ts:List T3}{h c r:Int}(b:Bd n m D s)(hl:s.ls[cp.l]?=some l)(ha:a < s.cps.length)(p:ts.Perm (put3 (s.ts l.grp) h c r))(oe:fG ts):Bd n m (D + 51) (ff s a cp l os ts):=by
 unfold ff
 split
 ·exact (DT b hl ha).mono (by omega)
 ·exact (Wv (h:=h) (c:=c) (r:=r) (DT b hl ha) p oe).mono (by omega)
theorem Ww{ns:List Int}{rs:List R5}(o:gO ns rs){D:Nat}{s:NS}{a:Nat}{cp:Cp}{l:LS}{os:List Nat}{ts:List T3}{h c r:Int}(b:Bd ns.length rs.length D s)(hl:s.ls[cp.l]?=some l)(ha:a < s.cps.length)(O:ie (xV ns rs o s.ws l.grp) (s.R l.grp) os)(h12:os.length<=12)(p:ts.Perm (put3 (s.ts l.grp) h c r))(oe:fG ts):Bd ns.length rs.length (D + 100) (qi rs s a cp l os ts):=by
 unfold qi
 split
 ·have e:=HC (s:=s) (a:=a) (cp:=cp) (l:=l) (os:=os) (ts:=ts)
  exact (XX o (MV (h:=h) (c:=c) (r:=r) b hl ha p oe) (CH hl) (by rw[e.1,e.2.1]; exact O) h12).mono (by omega)
 ·exact (DT b hl ha).mono (by omega)
theorem _root_.TW.cS.erase{H:Hp}{qs:List Addr}{xs:List (List V)}(h:cS K H qs xs)(a:Nat):cS K H (qs.eraseIdx a) (xs.eraseIdx a):=by
 refine⟨by rw[List.length_eraseIdx,List.length_eraseIdx,h.len],λi q x e1 e2=>?_⟩
 rw[List.getElem?_eraseIdx] at e1 e2
 by_cases z:i < a
 ·rw[if_pos z] at e1 e2
  exact h.at' i q x e1 e2
 ·rw[if_neg z] at e1 e2
  exact h.at' (i + 1) q x e1 e2
theorem DV{α β:Type}(f:α->β):∀ (xs:List α) (a:Nat),(xs.map f).eraseIdx a=(xs.eraseIdx a).map f
 | [],_=>rfl
 | _ :: _,0=>rfl
 | x :: xs,a + 1=>congrArg (f x :: ·) (DV f xs a)
theorem UC{c:NC}{H H':Hp}{F:Addr->Prop}{loc dx:Role->Addr}{q:TQ}{p tp:Addr}{n g:Nat}{s:NS}(X:lP K c H F loc dx q p tp n s)(hg:g < 3)(ts:List T3)(h1:H' (loc (.eW g))=some (.dT (ts.map k8)))(kp:∀ b o,H b=some o->b≠loc (.eW g)->H' b=some o) :
 lP K c H' F loc dx q p tp n (AL s g ts)/\Step H F H' F:=by
 obtain⟨X1,st1⟩:=zO X (r:=.eW g) (o:=.dT (ts.map k8)) (q':=q) (s':=AL s g ts) (by show (if g < 3 then some _ else none)≠none; rw[if_pos hg]; exact aT _) (λx=>by
  cases x <;> first | rfl | skip
  rename_i k
  show iW (desc c dx tp loc q s) (.eW g) _ (.eW k)=(if k < 3 then some (HO.dT ((gq s.ts g ts k).map k8)) else none)
  by_cases z:k=g
  ·subst z
   rw[dQ,if_pos hg,cH]
  ·rw[dh (λe=>z (by cases e; rfl)),eT z]
   rfl) (λkt=>⟨λg hg=>(X.tup.rows g hg).mono kt,λk l e=>(X.tup.aF k l e).mono kt,X.tup.cps.mono kt⟩)
 have sm:aE (upd H (loc (.eW g)) (.dT (ts.map k8))) H':=λb u e=>by
  by_cases z:b=loc (.eW g)
  ·rw[z,ay] at e
   cases e
   rw[z]
   exact h1
  ·rw[aI z] at e
   exact kp b u e z
 exact⟨X1.mono sm,st1.trans (Step.refl' sm)⟩
theorem Wx{t:Ad}(T:Txt K mg t){dx loc:Role->Addr}{σ:L2.St}{H:Hp}{Q:VK}{i:Nat}{l:LS}(h6:∀ Q:VK,Q (.ref (loc (.bU i))) H->JY 6 σ H Q)(JJ:H (loc (.bU i))=some (lQ (nc t) dx loc i l))(hle:H (loc (.letter i))=some (qk (nc t) (dx (.letter i)) l))(q:Q (.int l.s) H) :
 FG K (FG K (JY 6) (Str.ofString "letter")) (Str.ofString "sender") σ H Q:=by
 by_cases e:l.kd=1
 ·have K7:H (loc (.letter i))=some (.ins t.fH (dx (.letter i)) [("sender",.int l.s),("to",.int l.to)]):=by rw[hle]; unfold qk; rw[if_pos e]
  unfold FG
  exact (h6 _ ⟨loc (.bU i),_,_,_,_,rfl,JJ,T.c6,T.gG,rfl,loc (.letter i),_,dx (.letter i),_,_,rfl,K7,T.oi,T.rS,rfl,q⟩)
 ·have K7:H (loc (.letter i))=some (.ins t.iD (dx (.letter i)) [("sender",.int l.s)]):=by rw[hle]; unfold qk; rw[if_neg e]
  unfold FG
  exact (h6 _ ⟨loc (.bU i),_,_,_,_,rfl,JJ,T.c6,T.gG,rfl,loc (.letter i),_,dx (.letter i),_,_,rfl,K7,T.wD,T.mG,rfl,q⟩)
inductive Qo(K:af)(CT:Addr)(c:NC)(vs:List V)(H:Hp)(Q:VK)(E:XK):Prop
 | mk (F:Addr->Prop) (p tp ln lr:Addr) (ns:List Int) (rs:List R5) (s:NS) (o:gO ns rs) (a D:Nat) (cp:Cp) (l:LS):vs = [.ref p,.int a]->NW K c CT H F p tp ln lr ns rs s->AX ns rs s->Bd ns.length rs.length D s->D<=400000->s.cps[a]?=some cp->s.ls[cp.l]?=some l->(∀ os ts F' H',ie (xV ns rs o s.ws l.grp) (s.R l.grp) os->os.length<=12->ts.Perm (put3 (s.ts l.grp) cp.h l.s cp.r)->fG ts->NW K c CT H' F' p tp ln lr ns rs (qi rs s a cp l os ts)->Step H F H' F'->Q (.str (xP l cp os)) H')->Qo K CT c vs H Q E
theorem zF{t:Ad}(T:Txt K mg t):cj P w K mg base ig 8 t.fm t.n9 ["self","at"]  (Qo K t.bK (nc t)):=by
 refine T.j8.jK gu λH Q E hr h=>?_
 ·obtain⟨F,p,tp,ln,lr,ns,rs,st,o,a,D,cp,l,rfl,N,DN,bd,hD,hcp,hli,k⟩:=h
  refine⟨_,(ao (bX (gW (jg p8 p7 aA (pv 1) (lS T.gf (be (pv 0) rfl)))) dm aX) (ao (sS 2 gu (p9 bq PySem.F.slot_list_pop PySem.F.type_list_pop SN (be (pv 0) rfl) (gC (pv 1)))) (ao (sS 3 gu (xT (pv 2) aA)) (ao (sS 4 gu (xT (pv 2) aA)) (ao (sS 5 gu (xT (pv 2) aA)) (ao (sS 6 gu (xL (be (pv 0) rfl) (pv 3))) (ao (sS 7 gu (cM (pv 0) T.bS T.Au (HB T) hr (Kh (pv 6) (pv 4) (pv 5)))) (ao (fD (p9 bq bz bx eB (be (pv 6) rfl) (gC (fK (Kh (pv 7) (pv 5) (pv 4)))))) (ao (bX (qT lH (pv 7) fW) (ao (bX (gW (qM (be (pv 6) rfl))) (oE (cM (xL (be (pv 0) rfl) (be (pv 6) rfl)) T.Bb T.Cc (IF T) hr (Kh (pv 5) (be (be (pv 6) rfl) rfl) (pv 4)))) aX) (oE (cM (pv 0) T.bS T.pK (vE T) hr (Kh (pv 3) (pv 5) (pv 4))))) aX) (oR (pv 7))))))))))),?_⟩
  try dsimp only[bJ]
  obtain⟨loc,dx,q,hp,O,hF,hT⟩:=id N.eY
  have X:lP K (nc t) H F loc dx q p tp ns.length st:=⟨hp,O,hF,hT⟩
  have c9:=O.get .eY _ rfl
  rw[hp] at c9
  have hal:=(ai.mp hcp).1
  have hil:=(ai.mp hli).1
  have hcb:=bd.cb
  obtain⟨lb1,lb2,hg,lkd⟩:=bd.lb l (aQ hli)
  obtain⟨ts,ets,pts,Z6⟩:=Od (h:=(cp.h:Int)) (c:=(l.s:Int)) (r:=(cp.r:Int)) (List.Perm.refl (st.ts l.grp)) (bd.tb l.grp).2
  have hco:=O.get .kK _ rfl
  have Uz:q.cq.length=st.cps.length:=by
   have z:=hT.cps.len
   rw[ah] at z
   exact z
  have haq:a < q.cq.length:=by omega
  refine bF λNx b9=>?_
  refine⟨_,rfl,_,_,rfl,rfl,_,rfl,?_⟩
  rw[decide_eq_true (show (0:Int)<=(a:Int) by omega)]
  refine fL ⟨_,rfl,p,_,_,_,_,rfl,c9,T.bS,T.mL,rfl,loc .kK,_,rfl,.inl (bL.of hco),_,_,rfl,rfl,_,rfl,?_⟩
  rw[ah,Uz,decide_eq_true (show (a:Int) < (st.cps.length:Int) by omega)]
  refine cP (b9 _ _ ?_)
  clear b9 Nx
  refine bF λNx b9=>?_
  refine⟨_,rfl,p,_,_,_,_,rfl,c9,T.bS,T.mL,rfl,.inl ⟨rfl,_,bL.of hco⟩,_,rfl,loc .kK,_,a,a,_,rfl,rfl,hco,(by omega),(by omega),(J6 (by rw[ah,Uz]; exact Po hal)).1,(by rw[ak,aa haq]; rfl),?_⟩
  have htu:cN K H q.cq[a] cp.vs:=hT.cps.at' a _ _ (aa haq) (by rw[ak,hcp]; rfl)
  obtain⟨X1,st1⟩:=PB X (qs:=q.cq.eraseIdx a) (cps:=st.cps.eraseIdx a) (by rw[<- DV]; exact hT.cps.erase a)
  rw[DV]
  have RK:cN K _ q.cq[a] cp.vs:=N.eY.tup st1.kp htu
  generalize upd H (loc .kK) (.lst ((q.cq.eraseIdx a).map V.ref))=H1 at X1 st1 RK
  generalize q.cq[a]=qa at RK
  refine b9 _ _ ?_
  clear b9 Nx
  have es:{ st with cps:=st.cps.eraseIdx a }=MU st a:=rfl
  rw[es] at X1
  have DR:(MU st a).ls[cp.l]?=some l:=hli
  have N1:=N.done st1 X1.eY
  clear htu haq Uz hco c9 X hT hF O hp es
  have lA:=X1.own.get .eY _ rfl
  rw[X1.hp] at lA
  have acK:=X1.own.get (.bU cp.l) (lQ (nc t) dx loc cp.l l) (by show ((MU st a).ls[cp.l]?.map _)=_; rw[DR]; rfl)
  refine bF λNx b9=>?_
  refine⟨_,rfl,qa,_,0,_,rfl,rfl,RK,rfl,b9 _ _ ?_⟩
  clear b9 Nx
  refine bF λNx b9=>?_
  refine⟨_,rfl,qa,_,1,_,rfl,rfl,RK,rfl,b9 _ _ ?_⟩
  clear b9 Nx
  refine bF λNx b9=>?_
  refine⟨_,rfl,qa,_,3,_,rfl,rfl,RK,rfl,b9 _ _ ?_⟩
  clear b9 Nx
  refine bF λNx b9=>?_
  refine⟨_,rfl,p,_,_,_,_,rfl,lA,T.bS,T.dY,rfl,_,rfl,loc .cK,_,_,_,rfl,rfl,bL.of (X1.own.get .cK _ rfl),qX hil,b9 _ _ ?_⟩
  clear b9 Nx
  have RG:AX ns rs (MU st a):=⟨DN.wl,DN.w4,DN.fit⟩
  refine bF λNx b9=>?_
  refine⟨_,rfl,p,_,_,rfl,lA,rfl,_,rfl,_,rfl,_,rfl,F,loc,dx,_,p,tp,ln,lr,ns,rs,MU st a,o,cp.l,cp.r,cp.h,l,rfl,X1,N1,RG,DR,hg,λos H2 s2 hO h12=>?_⟩
  have ef:(if cp.r∈os then (if AK l cp.h=true then "twice" else "come") else "lost" : Str)=xP l cp os:=rfl
  rw[ef]
  refine b9 _ _ ?_
  clear b9 Nx
  have k:=k os ts
  have X2:=X1.mono s2
  have acL:=s2 _ _ acK
  have Z7:=X2.own.get (.aF cp.l) (.lst ((q.dq cp.l).map V.ref)) (by show ((MU st a).ls[cp.l]?.map _)=_; rw[DR]; rfl)
  have ON:=(X2.tup.aF cp.l _ DR).len
  rw[ah] at ON
  have ON:(q.dq cp.l).length=l.aF.length:=ON
  refine bF λNx b9=>?_
  refine⟨_,rfl,loc (.bU cp.l),_,_,_,_,rfl,acL,T.c6,T.ic,rfl,.inl ⟨rfl,_,bL.of Z7⟩,_,rfl,_,rfl,_,rfl,(by show 3<=sizeLine; decide),λz1 hz1=>?_⟩
  have u1:=aE.new (o:=.tup [V.str (xP l cp os),V.int cp.h,V.int cp.r]) hz1
  refine⟨loc (.aF cp.l),_,_,rfl,rfl,u1 _ _ Z7,zD (by rw[ah,ON]; omega),?_⟩
  obtain⟨X3,st3⟩:=BV (X2.mono u1) DR (d:=kh l cp os) (by rw[Wu]; exact cN.of ay)
  have UD:=(st1.trans (Step.refl' (F:=F) (s2.trans u1))).trans st3
  generalize upd (upd H2 z1 (.tup [V.str (xP l cp os),V.int cp.h,V.int cp.r])) (loc (.aF cp.l)) (.lst ((q.dq cp.l).map V.ref++[.ref z1]))=H3 at X3 UD
  refine b9 _ _ ?_
  clear b9 Nx
  have es:{ MU st a with ls:=(MU st a).ls.set cp.l { l with aF:=l.aF++[kh l cp os] } }=iF st a cp l os:=rfl
  rw[es] at X3
  clear es st3 u1 hz1 ON Z7 acL X2 s2 acK lA X1 st1 RK N1 DR
  have jI:=X3.own.get .eY _ rfl
  rw[X3.hp] at jI
  have Wt:=DU (a:=a) (os:=os) hli
  have UA:=X3.own.get (.bU cp.l) (lQ (nc t) dx loc cp.l { l with aF:=l.aF++[kh l cp os] }) (by show ((iF st a cp l os).ls[cp.l]?.map _)=_; rw[Wt]; rfl)
  have afL:=X3.own.get (.letter cp.l) (qk (nc t) (dx (.letter cp.l)) { l with aF:=l.aF++[kh l cp os] }) (by show ((iF st a cp l os).ls[cp.l]?.map _)=_; rw[Wt]; rfl)
  have N3:=N.done UD X3.eY
  refine⟨_,rfl,rfl,_,rfl,?_⟩
  rw[RJ]
  by_cases e:comes l cp os=true
  ·have k:∀ F' H',NW K (nc t) t.bK H' F' p tp ln lr ns rs (RE rs (ff st a cp l os ts) cp.l cp.h { l with aF:=l.aF++[kh l cp os] } (some cp.r) os)->Step H F H' F'->Q (.str (xP l cp os)) H':=λF' H' W z=>k F' H' hO h12 pts Z6 (by unfold qi; rw[if_pos e]; exact W) z
   rw[e]
   refine fL ?_
   refine vO (λσ H4=>lP K (nc t) H4 F loc dx { q with cq:=q.cq.eraseIdx a,dq:=gq q.dq cp.l (q.dq cp.l++[z1]) } p tp ns.length (ff st a cp l os ts)/\Step H F H4 F/\σ = [some (.ref p),some (.int a),some (.ref qa),some (.int cp.l),some (.int cp.r),some (.int cp.h),some (.ref (loc (.bU cp.l))),some (.str (xP l cp os))]) ?_ (λN' hN=>?_)
   ·rintro σ H4 ⟨X4,HW,rfl⟩
    have xO:=X4.own.get .eY _ rfl
    rw[X4.hp] at xO
    have ew:=HC (s:=st) (a:=a) (cp:=cp) (l:=l) (os:=os) (ts:=ts)
    have Z5:AX ns rs (ff st a cp l os ts):=⟨by rw[ew.1]; exact DN.wl,by rw[ew.1]; exact DN.w4,by rw[ew.2.1]; exact DN.fit⟩
    refine⟨_,rfl,p,_,_,rfl,xO,rfl,_,rfl,_,rfl,_,rfl,F,p,tp,ln,lr,ns,rs,ff st a cp l os ts,o,cp.l,cp.h,some cp.r,{ l with aF:=l.aF++[kh l cp os] },D + 51,rfl,N.done HW X4.eY,Z5,MV bd hli hal pts Z6,by omega,CH hli,λos' F5 H5 hO' _ W5 IQ=>?_⟩
    have hO':ie (xV ns rs o (ff st a cp l os ts).ws l.grp) ((ff st a cp l os ts).R l.grp) os':=hO'
    rw[ew.1,ew.2.1] at hO'
    rw[hO'.uniq hO] at W5
    exact⟨_,rfl,k F5 H5 W5 (HW.trans IQ)⟩
   ·refine⟨_,rfl,loc (.bU cp.l),_,_,_,_,rfl,UA,T.c6,T.wF,rfl,_,rfl,?_⟩
    cases eo:l.old with
    | true =>
     refine cP ?_
     refine hN _ _ ⟨?_,UD,rfl⟩
     unfold ff
     rw[if_pos eo]
     exact X3
    | false =>
     refine fL ?_
     refine⟨_,rfl,p,_,_,_,_,rfl,jI,T.bS,T.tG,rfl,_,rfl,loc (.bU cp.l),_,_,_,_,rfl,UA,T.c6,T.jx,rfl,loc .lN,_,_,_,rfl,rfl,bL.of (X3.own.get .lN _ rfl),qX hg,loc (.book l.grp),dx (.book l.grp),_,rfl,X3.own.get (.book l.grp) _ (if_pos hg),rfl,_,rfl,?_⟩
     refine Wx T (λQ q=>⟨_,rfl,q⟩) UA afL ?_
     refine⟨_,rfl,loc (.book l.grp),loc (.eW l.grp),st.ts l.grp,cp.h,l.s,cp.r,rfl,X3.own.Og hg,?_,λH4 h4 kp4=>?_⟩
     ·have:=(bd.tb l.grp).1
      omega
     ·rw[ets] at h4
      obtain⟨X4,HW⟩:=UC X3 hg ts h4 kp4
      refine hN _ _ ⟨?_,UD.trans HW,rfl⟩
      unfold ff
      rw[if_neg (by rw[eo]; decide)]
      exact X4
  ·have e':comes l cp os=false:=by simpa using e
   rw[e']
   refine cP ?_
   refine⟨_,rfl,k F H3 hO h12 pts Z6 ?_ UD⟩
   unfold qi
   rw[e',if_neg (by decide)]
   exact N3
end
section
inductive Rw(rs:List R5)(os:List Nat)(r0:Nat)(x:Nat):Nat->Prop
 | refl:Rw rs os r0 x x
 | step {y r:Nat} (t:Rw rs os r0 x y) (hr:r∈os) (ne:r≠r0) (ha:isAt rs (y:Int) r=true):Rw rs os r0 x (eN rs r y)
inductive Ds(N:RM.Net)(R:Nat->RM.Row)(c:Nat):Nat->Prop
 | self:Ds N R c c
 | on {r x y:Nat} (t:RM.m7 N R r x y) (d:Ds N R c y):Ds N R c x
theorem Ds.rank{N:RM.Net}{R:Nat->RM.Row}{c x:Nat}(d:Ds N R c x):(R c).ho<=(R x).ho:=by
 induction d with
 | self=>exact Int.le_refl _
 | on t _ ih=>have:=t.ho; omega
variable{ns:List Int}{rs:List R5}{os:List Nat}{live:List Nat}{nd:ns.Nodup}{ok:∀ r∈rs,r.Ok ns.length}{hl:∀ k∈live,k < rs.length}{R:Nat->RM.Row}
theorem OO{r x:Nat}(hk:r∈live)(ha:isAt rs (x:Int) r=true):RM.Fc (aU ns rs live nd ok hl) r x (eN rs r x):=by
 refine (sM hk).mpr ⟨ha,?_⟩
 unfold eN
 rw[aa (hl r hk)]
theorem Qp{N:RM.Net}{r a b x y:Nat}(h1:RM.Fc N r a b)(h2:RM.Fc N r x y):(a=x/\b=y)∨(a=y/\b=x):=by
 rcases h1.2 with ⟨e1,e2⟩ | ⟨e1,e2⟩ <;> rcases h2.2 with ⟨e3,e4⟩ | ⟨e3,e4⟩ <;> omega
theorem MW{r x:Nat}(hr:r < rs.length)(ok:∀ r∈rs,r.Ok ns.length)(ha:isAt rs (x:Int) r=true):isAt rs ((eN rs r x:Nat):Int) r=true/\eN rs r (eN rs r x)=x/\eN rs r x≠x/\eN rs r x < ns.length:=by
 have o:=ok _ (aK hr)
 have h1:=o.a0; have h2:=o.b0; have h3:=o.ab; have h4:=o.a1; have h5:=o.b1
 have ef:∀ y,eN rs r y=fz rs[r] y:=λy=>by unfold eN; rw[aa hr]
 have ei:∀ y:Int,isAt rs y r=(decide (y=rs[r].a) || decide (y=rs[r].b)):=λy=>by unfold isAt; rw[aa hr]
 rw[ef,ef,ei]
 rw[ei] at ha
 have ha:(decide ((x:Int)=rs[r].a) || decide ((x:Int)=rs[r].b))=true:=ha
 rw[lE,decide_eq_true_iff,decide_eq_true_iff] at ha
 show (decide _ || decide _)=true/\fz rs[r] (fz rs[r] x)=x/\fz rs[r] x≠x/\fz rs[r] x < _
 rw[lE,decide_eq_true_iff,decide_eq_true_iff]
 unfold fz
 rcases ha with e | e
 ·rw[if_pos e]
  have e2:((rs[r].b.toNat:Nat):Int)=rs[r].b:=by omega
  rw[e2,if_neg (bT h3)]
  omega
 ·have e1:¬ (x:Int)=rs[r].a:=by omega
  rw[if_neg e1]
  have e2:((rs[r].a.toNat:Nat):Int)=rs[r].a:=by omega
  rw[e2,if_pos rfl]
  omega
theorem Qq(O:ie (aU ns rs live nd ok hl) R os){r0 c p:Nat}(h0:RM.m7 (aU ns rs live nd ok hl) R r0 c p){r y z:Nat}(hr:r∈os)(ne:r≠r0)(ha:RM.Fc (aU ns rs live nd ok hl) r y z)(d:Ds (aU ns rs live nd ok hl) R c y):Ds (aU ns rs live nd ok hl) R c z:=by
 obtain⟨a,b,t⟩:=(O.2 r).mp hr
 rcases Qp t.zK ha with ⟨rfl,rfl⟩ | ⟨rfl,rfl⟩
 ·cases d with
  | self=>exact absurd (t.uniq h0).1 ne
  | on t' d' =>
   obtain⟨_,rfl⟩:=t.uniq t'
   exact d'
 ·exact .on t d
theorem Wy(O:ie (aU ns rs live nd ok hl) R os){r x:Nat}(hr:r∈os)(ha:isAt rs (x:Int) r=true):¬ Rw rs os r x (eN rs r x):=by
 intro t
 obtain⟨c,p,h0⟩:=(O.2 r).mp hr
 have lv:∀ k∈os,k∈live:=λk hk=>by
  obtain⟨a,b,t⟩:=(O.2 k).mp hk
  exact t.zK.1
 have go:∀ {y z:Nat},Rw rs os r y z->Ds (aU ns rs live nd ok hl) R c y->Ds (aU ns rs live nd ok hl) R c z:=λ{y z} t=>by
  induction t with
  | refl=>exact id
  | step t hr ne ha ih=>exact λd=>Qq O h0 hr ne (OO (lv _ hr) ha) (ih d)
 have back:∀ {y z:Nat},Rw rs os r y z->Ds (aU ns rs live nd ok hl) R c z->Ds (aU ns rs live nd ok hl) R c y:=λ{y z} t=>by
  induction t with
  | refl=>exact id
  | step t hr ne ha ih=>exact λd=>ih (Qq O h0 hr ne (OO (lv _ hr) ha).symm d)
 have e:=h0.ho
 rcases Qp h0.zK (OO (lv r hr) ha) with ⟨rfl,e2⟩ | ⟨e1,rfl⟩
 ·have:=(go t .self).rank
  rw[<- e2] at this
  omega
 ·have:=(back t (e1 ▸ .self)).rank
  omega
theorem Rw.trans{r0 x y z:Nat}(a:Rw rs os r0 x y)(b:Rw rs os r0 y z):Rw rs os r0 x z:=by
 induction b with
 | refl=>exact a
 | step t hr ne ha ih=>exact .step ih hr ne ha
theorem Rw.symm{r0 x y:Nat}(ok:∀ r∈rs,r.Ok ns.length)(lt:∀ k∈os,k < rs.length)(a:Rw rs os r0 x y):Rw rs os r0 y x:=by
 induction a with
 | refl=>exact .refl
 | @step y r t hr ne ha ih =>
  obtain⟨h1,h2,_⟩:=MW (lt r hr) ok ha
  have:Rw rs os r0 (eN rs r y) y:=by
   have:=Rw.step (rs:=rs) (os:=os) (r0:=r0) (x:=eN rs r y) .refl hr ne h1
   rw[h2] at this
   exact this
  exact this.trans ih
structure En where
 h:Nat
 fr:Option (Nat × Nat)
noncomputable def En.by?(e:En):Option Nat:=e.fr.map (·.1)
noncomputable def goes(rs:List R5)(os:List Nat)(e:En):List Nat:=os.filter λr=>isAt rs (e.h:Int) r && !decide (some r=e.by?)
theorem iO{e:En}{r:Nat}:r∈goes rs os e↔r∈os/\isAt rs (e.h:Int) r=true/\some r≠e.by?:=by
 unfold goes
 rw[bM,cu,tR,decide_eq_false_iff_not]
end
section
variable{P:Program}{w:World}{K:af}{mg:Str->Option Value}{base:Heap}
inductive MX(K:af)(c:NC)(vs:List V)(H:Hp)(Q:VK)(E:XK):Prop
 | mk (F:Addr->Prop) (p tp:Addr) (n i:Nat) (s:NS) (l:LS):vs = [.ref p,.int i]->d8 K c H F p tp n s->s.ls[i]?=some l->(∀ a (qs:List Addr) H',aE H H'->H a=none->H' a=some (.lst (qs.map V.ref))->cS K H' qs (l.aF.map cF.vs)->Q (.ref a) H')->MX K c vs H Q E
theorem La{t:Ad}(T:Txt K mg t):cj P w K mg base ig 1 t.oM t.sY ["self","letter"]  (MX K (nc t)):=by
 refine T.Ec.F.jK Kz λH Q E hr h=>?_
 ·obtain⟨F,p,tp,n,i,st,l,rfl,N,hl,k⟩:=h
  refine⟨_,(ao (bX (gW (jg p8 p7 aA (pv 1) (lS T.gf (be (pv 0) rfl)))) dm aX) (oR (gj gI (by rfl) T.uq boot_list (gC (be (xL (be (pv 0) rfl) (pv 1)) rfl))))),?_⟩
  try dsimp only[bJ]
  obtain⟨loc,dx,q,hp,O,hF,hT⟩:=id N
  have c9:=O.get .eY _ rfl
  rw[hp] at c9
  have hil:=(ai.mp hl).1
  have OM:=O.get .cK _ rfl
  have JJ:=O.get (.bU i) (lQ (nc t) dx loc i l) (by show (st.ls[i]?.map _)=_; rw[hl]; rfl)
  have hde:=O.get (.aF i) (.lst ((q.dq i).map V.ref)) (by show (st.ls[i]?.map _)=_; rw[hl]; rfl)
  refine⟨_,rfl,_,_,rfl,rfl,_,rfl,?_⟩
  rw[decide_eq_true (show (0:Int)<=(i:Int) by omega)]
  refine fL ⟨_,rfl,p,_,_,_,_,rfl,c9,T.bS,T.dY,rfl,loc .cK,_,rfl,.inl (bL.of OM),_,_,rfl,rfl,_,rfl,?_⟩
  rw[ah,aZ,decide_eq_true (show (i:Int) < (st.ls.length:Int) by omega)]
  refine cP ?_
  refine⟨_,rfl,p,_,_,_,_,rfl,c9,T.bS,T.dY,rfl,_,rfl,loc .cK,_,_,_,rfl,rfl,bL.of OM,qX hil,loc (.bU i),_,_,_,_,rfl,JJ,T.c6,T.ic,rfl,loc (.aF i),_,rfl,.inl (bL.of hde),λa ha=>?_⟩
  have u:=aE.new (o:=.lst ((q.dq i).map V.ref)) ha
  exact k a (q.dq i) _ u ha ay ((hT.aF i l hl).mono λb x=>u.b5)
noncomputable def dW:cF->Str
 | .post _=>"post"
 | .oA _ _=>"come"
 | .hand _ _=>"hand"
 | .send _ _ _=>"send"
 | .twice _ _=>"twice"
 | .Ri _ _=>"lost"
noncomputable def dI:cF->List Int
 | .post h=>[h]
 | .oA h r=>[h,r]
 | .hand h c=>[h,c]
 | .send h r w=>[h,r,w]
 | .twice h r=>[h,r]
 | .Ri h r=>[h,r]
theorem Lb(d:cF):d.vs = .str (dW d) :: (dI d).map V.int:=by cases d <;> rfl
theorem Wz(d:cF):1<=(dI d).length:=by cases d <;> simp[dI]
noncomputable def xo:List V:=[.str "post",.str "come",.str "hand",.str "send",.str "twice",.str "lost"]
theorem WA(d:cF):D4 (.str (dW d)) xo=true:=by
 cases d
 ·exact (by decide +kernel:D4 (.str "post") xo=true)
 ·exact (by decide +kernel:D4 (.str "come") xo=true)
 ·exact (by decide +kernel:D4 (.str "hand") xo=true)
 ·exact (by decide +kernel:D4 (.str "send") xo=true)
 ·exact (by decide +kernel:D4 (.str "twice") xo=true)
 ·exact (by decide +kernel:D4 (.str "lost") xo=true)
theorem CI(d:cF):ED (V.str (dW d) :: (dI d).map V.int) 0=some (V.str (dW d)):=dM (j:=0) rfl
theorem UE(d:cF):V.int ((((.str (dW d) :: (dI d).map V.int:List V).length:Nat):Int))=V.int (2 + (if (!decide (V.str (dW d)=V.str "post"))=true then 1 else 0) + (if decide (V.str (dW d)=V.str "send")=true then 1 else 0)):=by
 have e1:∀ h,(decide (V.str (dW (.post h))=V.str "post"))=true:=λh=>by show decide (V.str "post" = V.str "post")=true; decide +kernel
 cases d
 ·show V.int 2=V.int (2 + (if (!decide (V.str "post" = V.str "post"))=true then 1 else 0) + (if decide (V.str "post" = V.str "send")=true then 1 else 0)); decide +kernel
 ·show V.int 3=V.int (2 + (if (!decide (V.str "come" = V.str "post"))=true then 1 else 0) + (if decide (V.str "come" = V.str "send")=true then 1 else 0)); decide +kernel
 ·show V.int 3=V.int (2 + (if (!decide (V.str "hand" = V.str "post"))=true then 1 else 0) + (if decide (V.str "hand" = V.str "send")=true then 1 else 0)); decide +kernel
 ·show V.int 4=V.int (2 + (if (!decide (V.str "send" = V.str "post"))=true then 1 else 0) + (if decide (V.str "send" = V.str "send")=true then 1 else 0)); decide +kernel
 ·show V.int 3=V.int (2 + (if (!decide (V.str "twice" = V.str "post"))=true then 1 else 0) + (if decide (V.str "twice" = V.str "send")=true then 1 else 0)); decide +kernel
 ·show V.int 3=V.int (2 + (if (!decide (V.str "lost" = V.str "post"))=true then 1 else 0) + (if decide (V.str "lost" = V.str "send")=true then 1 else 0)); decide +kernel
inductive UG(K:af)(vs:List V)(H:Hp)(Q:VK)(E:XK):Prop
 | mk (a:Addr) (qs:List Addr) (ds:List cF):vs = [.ref a]->bL K H a (qs.map V.ref)->cS K H qs (ds.map cF.vs)->(∀ H',aE H H'->Q (.bl true) H')->UG K vs H Q E
theorem EZ{t:Ad}(T:Txt K mg t):cj P w K mg base ig 2 t.jw t.mC ["_law_story"]  (UG K):=by
 refine T.yM.F.jK pI λH Q E hr h=>?_
 ·obtain⟨a,qs,ds,rfl,hA,z8,k⟩:=h
  refine⟨_,(ao (bX (gW (qM (cB Q4 T.mP boot_isinstance (mZ (pv 0) (BG rfl T.uq boot_list (v:=.ty "list") rfl))))) oB aX) (ao (fS (fE (pv 0)) (gT 1 pI) (ao (bX (PW.pt (uT (gW (qM (cB Q3 T.mP boot_isinstance (mZ (pv 1) (BG rfl T.V6 boot_tuple (v:=.ty "tuple") rfl))))) (uT (qT p7 (lS T.gf (pv 1)) aA) (vH (gW (qM (cB FU T.mP boot_isinstance (mZ (xT (pv 1) aA) (BG rfl T.abT boot_str (v:=.ty "str") rfl))))))))) oB aX) (ao (bX (gW (qM (cB (LH rfl) T.Xx boot_all (gC (gA (kO pI ["_law_one"] [none]) rfl (Nm (oq CZ (pv 1) (nM aA) vJ)) (λ_ _ _ _=>by exact (gS 0 Ba)) (λ_ _ _ _=>by exact lJ) (λ_ _ _ _=>by exact (cG (OE T) hr T.Jo (gC (pv 0))))))))) oB aX) (ao (bX (fX gH (xT (pv 1) aA) (fK (aN6 fW fW fW fW fW fW)) (by with_unfolding_all rfl)) oB aX) (bw (bX (qT qO (lS T.gf (pv 1)) (bf eZ (bf eZ aA (gj IS (by rfl) T.T8 boot_int (gC (qE qO (xT (pv 1) aA) fW)))) (gj IS (by rfl) T.T8 boot_int (gC (qE lH (xT (pv 1) aA) fW))))) oB aX)))))) oB)),?_⟩
  try dsimp only[bJ]
  have eq:qs.length=ds.length:=by rw[z8.len,ah]
  refine⟨_,rfl,a,_,_,_,rfl,hA,rfl,_,rfl,cP ?_⟩
  refine⟨_,rfl,a,rfl,⟨_,hA⟩,qN (K:=K) (a:=a) (xs:=qs.map V.ref) (λi σ H2=>aE H H2/\∃ v1:Option V,σ = [some (.ref a),v1]) ⟨aE.refl _,_,rfl⟩ (λi σ H2 _ z=>z.1.seq hA) ?_ ?_⟩
  ·rintro i y σ H2 hi ⟨s2,v1,rfl⟩
   have hil:i < qs.length:=by
    have:=(ai.mp hi).1
    rw[ah] at this
    exact this
   rw[ak,aa hil] at hi
   cases hi
   have hq:=s2.b5 (z8.at' i qs[i] (ds[i]'(by omega)).vs (aa hil) (by rw[ak,aa (by omega)]; rfl))
   generalize qs[i]=q at hq
   generalize ds[i]'(by omega)=d at hq
   rw[Lb] at hq
   have h1:=Wz d
   refine⟨_,rfl,q,_,_,_,rfl,hq,rfl,_,rfl,cP ?_⟩
   refine⟨_,rfl,q,_,rfl,.inr hq,_,_,rfl,rfl,_,rfl,?_⟩
   rw[decide_eq_false (show ¬ (((V.str (dW d) :: (dI d).map V.int).length:Nat):Int) < 2 by rw[aS,ah]; omega)]
   refine cP ⟨_,rfl,q,_,0,_,rfl,rfl,hq,CI d,_,_,_,_,rfl,.str _,rfl,_,rfl,cP ?_⟩
   have nw:¬ (HT.jH (V.str (dW d) :: (dI d).map V.int).length 0 (some 1)=0/\HT.jH (V.str (dW d) :: (dI d).map V.int).length (V.str (dW d) :: (dI d).map V.int).length none=(V.str (dW d) :: (dI d).map V.int).length):=λz=>by
    have z1:=z.1
    rw[show (1:Int)=((1:Nat):Int) from rfl,HT.BK,aS] at z1
    omega
   refine⟨_,rfl,_,rfl,q,_,rfl,hq,nw,λz hz=>?_⟩
   have ct:x9 (V.str (dW d) :: (dI d).map V.int) (some 1) none=(dI d).map V.int:=Ga _ 1
   rw[ct]
   have u3:=aE.new (o:=.tup ((dI d).map V.int)) hz
   have XY:cN K _ z ((dI d).map V.int):=cN.of (ay (H:=H2) (a:=z) (o:=.tup ((dI d).map V.int)))
   generalize upd H2 z (.tup ((dI d).map V.int))=H3 at u3 XY
   refine⟨z,rfl,⟨_,XY⟩,λacc hacc=>?_⟩
   refine gB (n:=((dI d).map V.int).length) (λi ys _=>∃ bs:List Bool,ys=bs.map V.bl/\bs.length=i/\bs.all id=true) hacc (NX XY) (F7 XY) ⟨[],rfl,rfl,rfl⟩ ?_ ?_
   ·rintro j ys H4 hj s4 hy ⟨bs,rfl,hbl,hba⟩ x H5 ⟨rfl,hx⟩
    have hx:=hx _ (s4.b5 XY)
    have hj':j < (dI d).length:=by rw[ah] at hj; exact hj
    rw[ak,aa hj'] at hx
    cases hx
    have h3:(dI d).length<=3:=by cases d <;> simp[dI]
    refine⟨_,rfl,_,rfl,?_⟩
    exact eV hacc hj s4 hy (by rw[ah]; exact b4 (by omega)) ⟨bs++[true],by simp,by simp[hbl],by simp[hba]⟩
   rintro ys H4 s4 hy ⟨bs,rfl,hbl,hba⟩
   refine⟨acc,bs,rfl,bL.of hy,_,rfl,?_⟩
   rw[hba]
   refine cP ?_
   have s24:=u3.trans s4
   have Zt:=s24.b5 hq
   refine⟨_,rfl,q,_,0,_,rfl,rfl,Zt,CI d,(by show 6<=sizeLine; decide),λb hb=>?_⟩
   have u5:=aE.new (o:=.tup xo) hb
   refine⟨b,xo,rfl,.inr (cN.of ay),rfl,by decide,_,rfl,?_⟩
   dsimp only
   rw[if_pos rfl,WA]
   refine cP ?_
   have Z8:=u5.b5 Zt
   refine⟨_,rfl,q,_,rfl,.inr Z8,_,rfl,q,_,0,_,rfl,rfl,Z8,CI d,rfl,.inr ⟨_,rfl,_,_,rfl,rfl,_,rfl,q,_,0,_,rfl,rfl,Z8,CI d,rfl,.inr ⟨_,rfl,_,_,rfl,rfl,rfl,_,rfl,?_⟩⟩⟩
   rw[decide_eq_true (UE d)]
   exact cP ⟨(s2.trans s24).trans u5,_,rfl⟩
  ·rintro σ H2 ⟨s2,v1,rfl⟩
   exact k H2 s2
end
section
structure Fo(ns:List Int)(rs:List R5)(os:List Nat):Prop where
 lt:∀ r∈os,r < rs.length
 ok:∀ r∈rs,r.Ok ns.length
 cut:∀ r∈os,∀ x:Nat,isAt rs (x:Int) r=true->¬ Rw rs os r x (eN rs r x)
 ri:os.Pairwise (· < ·)
variable{ns:List Int}{rs:List R5}{os:List Nat}
theorem Fo.of{live:List Nat}{nd:ns.Nodup}{ok:∀ r∈rs,r.Ok ns.length}{hl:∀ k∈live,k < rs.length}{R:Nat->RM.Row}(O:ie (aU ns rs live nd ok hl) R os):Fo ns rs os:=⟨Ti O,ok,λ_ hr _ ha=>Wy O hr ha,O.1⟩
theorem Fo.back(F:Fo ns rs os){r x:Nat}(hr:r∈os)(ha:isAt rs (x:Int) r=true):isAt rs ((eN rs r x:Nat):Int) r=true/\eN rs r (eN rs r x)=x/\eN rs r x≠x/\eN rs r x < ns.length:=MW (F.lt r hr) F.ok ha
theorem Fo.two(F:Fo ns rs os){r x y:Nat}(hr:r∈os)(hx:isAt rs (x:Int) r=true)(hy:isAt rs (y:Int) r=true):y=x∨y=eN rs r x:=by
 have hl:=F.lt r hr
 have o:=F.ok _ (aK hl)
 have h1:=o.a0; have h2:=o.b0
 have ei:∀ y:Int,isAt rs y r=(decide (y=rs[r].a) || decide (y=rs[r].b)):=λy=>by unfold isAt; rw[aa hl]
 rw[ei,lE,decide_eq_true_iff,decide_eq_true_iff] at hx hy
 unfold eN
 rw[aa hl]
 show y=x∨y=fz rs[r] x
 unfold fz
 split <;> omega
theorem Fo.symm(F:Fo ns rs os){r0 x y:Nat}(a:Rw rs os r0 x y):Rw rs os r0 y x:=a.symm F.ok F.lt
theorem Fo.avoid(F:Fo ns rs os){q x z r':Nat}(hq:q∈os)(ha:isAt rs (x:Int) q=true)(hr':isAt rs (x:Int) r'=true)(t:Rw rs os q (eN rs q x) z):Rw rs os r' (eN rs q x) z:=by
 induction t with
 | refl=>exact .refl
 | @step y r t hr ne hy ih =>
  refine .step ih hr (λe=>?_) hy
  subst e
  rcases F.two hr hr' hy with e | e
  ·subst e
   exact F.cut q hq y ha (F.symm t)
  ·have t2:=Rw.step t hr ne hy
   rw[e,(F.back hr hr').2.1] at t2
   exact F.cut q hq x ha (F.symm t2)
theorem Rw.first(F:Fo ns rs os){r0 x z:Nat}(t:Rw rs os r0 x z)(ne:x≠z):∃ r',r'∈os/\r'≠r0/\isAt rs (x:Int) r'=true/\Rw rs os r' (eN rs r' x) z:=by
 induction t with
 | refl=>exact absurd rfl ne
 | @step y r t hr n0 hy ih =>
  by_cases e:x=y
  ·subst e
   exact⟨r,hr,n0,hy,.refl⟩
  ·obtain⟨r',h1,h2,h3,h4⟩:=ih e
   refine⟨r',h1,h2,h3,?_⟩
   by_cases er:r=r'
   ·subst er
    rcases F.two hr h3 hy with z | z
    ·exact absurd z.symm e
    ·exact absurd (by rw[z,(F.back hr h3).2.1]) ne
   ·exact .step h4 hr er hy
theorem Fo.one(F:Fo ns rs os){q r x z:Nat}(hq:q∈os)(hr:r∈os)(aq:isAt rs (x:Int) q=true)(ar:isAt rs (x:Int) r=true)(tq:Rw rs os q (eN rs q x) z)(tr:Rw rs os r (eN rs r x) z):q=r:=by
 by_cases e:q=r
 ·exact e
 ·have h1:=F.avoid hq aq ar tq
  have h2:Rw rs os r x (eN rs q x):=.step .refl hq e aq
  exact absurd ((h2.trans h1).trans (F.symm tr)) (F.cut r hr x ar)
theorem Fo.all(F:Fo ns rs os){r0 x z:Nat}(t:Rw rs os r0 x z):Rw rs os rs.length x z:=by
 induction t with
 | refl=>exact .refl
 | step t hr ne hy ih=>exact .step ih hr (bu (F.lt _ hr)) hy
noncomputable def nx(rs:List R5)(e:En)(r:Nat):En:=⟨eN rs r e.h,some (r,e.h)⟩
def Bh(rs:List R5)(os:List Nat)(e:En)(z:Nat):Prop:=Rw rs os (e.by?.getD rs.length) e.h z
structure WJ(ns:List Int)(rs:List R5)(os:List Nat)(f:Nat)(D Pn:List En):Prop where
 nd:((D++Pn).map (·.h)).Nodup
 fr:∀ e∈D++Pn,∀ r p,e.fr=some (r,p)->r∈os/\isAt rs (p:Int) r=true/\eN rs r p=e.h/\(∃ e'∈D,e'.h=p)/\Rw rs os r f p
 f0:∀ e∈D++Pn,e.fr=none->e.h=f
 lt:∀ e∈D++Pn,e.h < ns.length
theorem WJ.zero{f:Nat}(hf:f < ns.length):WJ ns rs os f [] [⟨f,none⟩] :=
 ⟨by simp,λe he r p h=>(by rw[aP.mp he] at h; cases h),λe he _=>(by rw[aP.mp he]),λe he=>(by rw[aP.mp he]; exact hf)⟩
variable{f:Nat}{D Pn A B:List En}{e:En}
theorem WJ.side(F:Fo ns rs os)(w:WJ ns rs os f D Pn)(he:e∈D++Pn){r0:Nat}(h0:r0∈os)(ha:isAt rs (e.h:Int) r0=true)(ne:some r0≠e.by?):Rw rs os r0 f e.h:=by
 cases z:e.fr with
 | none=>rw[w.f0 e he z]; exact .refl
 | some q =>
  obtain⟨r,p⟩:=q
  obtain⟨h1,h2,h3,_,h5⟩:=w.fr e he r p z
  have hne:r≠r0:=λq=>ne (by unfold En.by?; rw[z,<- q]; rfl)
  obtain⟨b1,b2,_⟩:=F.back h1 h2
  rw[h3] at b1 b2
  have t:=F.avoid h1 b1 ha (by rw[b2]; exact F.symm h5)
  rw[b2] at t
  have:=Rw.step (F.symm t) h1 hne h2
  rw[h3] at this
  exact this
theorem HD(nd:((D++Pn).map (·.h)).Nodup)(he:e∈Pn):∀ e'∈D,e'.h≠e.h:=λe' h' z=>by
 rw[aJ,fR] at nd
 exact nd.2.2 _ (bP h') _ (bP he) z
theorem WJ.next(F:Fo ns rs os)(w:WJ ns rs os f D (A++e :: B)){gs:List Nat}(gn:gs.Nodup)(gg:∀ r∈gs,r∈goes rs os e):WJ ns rs os f (D++[e]) (A++B++gs.map (nx rs e)):=by
 have hem:e∈A++e :: B:=by simp
 have acM:e∈D++(A++e :: B):=bN _ hem
 have nod:=HD w.nd hem
 have pm:((D++[e])++(A++B++gs.map (nx rs e))).Perm ((D++(A++e :: B))++gs.map (nx rs e)):=by
  have h1:([e]++(A++B)).Perm (A++e :: B):=by
   show (e :: (A++B)).Perm _
   exact List.perm_middle.symm
  have h2:=(h1.append_left D).append_right (gs.map (nx rs e))
  simpa [jc] using h2
 have new:∀ r∈gs,∀ b∈D++(A++e :: B),b.h≠eN rs r e.h:=λr hr b hb z=>by
  obtain⟨h1,h2,h3⟩:=iO.mp (gg r hr)
  have s1:=w.side F acM h1 h2 h3
  obtain⟨b1,b2,b3,_⟩:=F.back h1 h2
  by_cases q:some r=b.by?
  ·unfold En.by? at q
   cases y:b.fr with
   | none=>rw[y] at q; cases q
   | some v =>
    obtain⟨r2,p⟩:=v
    rw[y] at q
    have q:r=r2:=aL q
    subst q
    obtain⟨_,g2,g3,⟨e',g4,g5⟩,_⟩:=w.fr b hb r p y
    have:p=e.h:=by
     have:=(F.back h1 g2).2.1
     rw[g3,z,b2] at this
     exact this.symm
    exact nod e' g4 (g5.trans this)
  ·have s2:=w.side F hb h1 (by rw[z]; exact b1) q
   rw[z] at s2
   exact F.cut r h1 e.h h2 ((F.symm s1).trans s2)
 have mem:∀ b,b∈(D++[e])++(A++B++gs.map (nx rs e))->b∈D++(A++e :: B)∨∃ r∈gs,b=nx rs e r:=λb hb=>by
  rcases aY.mp (pm.mem_iff.mp hb) with h | h
  ·exact .inl h
  ·obtain⟨r,hr,z⟩:=aN.mp h
   exact .inr ⟨r,hr,z.symm⟩
 refine⟨?_,λb hb r p h=>?_,λb hb h=>?_,λb hb=>?_⟩
 ·rw[(pm.map (·.h)).nodup_iff,aJ,fR]
  refine⟨w.nd,?_,λx hx y hy=>?_⟩
  ·rw[cC]
   refine tN.mpr (List.Pairwise.imp_of_mem ?_ gn)
   intro r r' hr hr' ne z
   obtain⟨h1,h2,_⟩:=iO.mp (gg r hr)
   obtain⟨g1,g2,_⟩:=iO.mp (gg r' hr')
   have z:eN rs r e.h=eN rs r' e.h:=z
   have:=Rw.step (rs:=rs) (os:=os) (r0:=r) (x:=e.h) .refl g1 (bT ne) g2
   rw[<- z] at this
   exact F.cut r h1 e.h h2 this
  ·obtain⟨a,ha,rfl⟩:=aN.mp hx
   obtain⟨b,hb,rfl⟩:=aN.mp hy
   obtain⟨r,hr,rfl⟩:=aN.mp hb
   exact new r hr a ha
 ·rcases mem b hb with h' | ⟨r',hr',rfl⟩
  ·obtain⟨g1,g2,g3,⟨e',g4,g5⟩,g6⟩:=w.fr b h' r p h
   exact⟨g1,g2,g3,⟨e',bV _ g4,g5⟩,g6⟩
  ·obtain⟨h1,h2,h3⟩:=iO.mp (gg r' hr')
   cases h
   exact⟨h1,h2,rfl,⟨e,by simp,rfl⟩,w.side F acM h1 h2 h3⟩
 ·rcases mem b hb with h' | ⟨r',hr',rfl⟩
  ·exact w.f0 b h' h
  ·cases h
 ·rcases mem b hb with h' | ⟨r',hr',rfl⟩
  ·exact w.lt b h'
  ·obtain⟨h1,h2,_⟩:=iO.mp (gg r' hr')
   exact (F.back h1 h2).2.2.2
structure EE where
 e:En
 gs:List Nat
 wf:Nat->Nat
noncomputable def Lc(e:En):cF:=match e.fr with | none=>.post e.h | some (r,_)=>.oA e.h r
noncomputable def EE.sH(hs:Nat->List Nat)(x:EE):List cF:=Lc x.e :: ((hs x.e.h).map (cF.hand x.e.h)++x.gs.map λr=>.send x.e.h r (x.wf r))
noncomputable def dN(rs:List R5)(r:Nat):Nat:=match rs[r]? with | some re=>re.d.toNat | none=>0
structure LJ(ns:List Int)(rs:List R5)(os:List Nat)(hs:Nat->List Nat)(one:Option Nat)(f:Nat)(dn:List Nat)(ds:List cF)(Pn:List En)(E:List EE):Prop where
 dn:dn=E.map (·.e.h)
 ds:ds=E.flatMap (EE.sH hs)
 wj:WJ ns rs os f (E.map (·.e)) Pn
 gs:∀ x∈E,x.gs.Nodup/\∀ r∈x.gs,r∈goes rs os x.e/\x.wf r < dN rs r/\nx rs x.e r∈E.map (·.e)++Pn
 od:∀ (k:Nat) x,E[k]?=some x->∀ r p,x.e.fr=some (r,p)->∃ (j:Nat) (y:EE),j < k/\E[j]?=some y/\y.e.h=p/\r∈y.gs
 h0:∀ (k:Nat) x,E[k]?=some x->(x.e.fr=none↔k=0)
 pf:∀ e∈Pn,∀ r p,e.fr=some (r,p)->∃ y∈E,y.e.h=p/\r∈y.gs
 pn:∀ e∈Pn,e.fr=none->E = []
 al:one=none->∀ x∈E,x.gs=goes rs os x.e
 to:∀ z,one=some z->z∈E.map (·.e.h)∨(∃ e∈Pn,Bh rs os e z)∨¬ Rw rs os rs.length f z
theorem LJ.zero{hs:Nat->List Nat}{one:Option Nat}(hf:f < ns.length):LJ ns rs os hs one f [] [] [⟨f,none⟩] [] :=
 ⟨rfl,rfl,WJ.zero hf,λx h=>(by cases h),λk x h=>(by cases h),λk x h=>(by cases h),λe he r p h=>(by rw[aP.mp he] at h; cases h),λ_ _ _=>rfl,λ_ x h=>(by cases h),λz _=>(by
  by_cases h:Rw rs os rs.length f z
  ·exact .inr (.inl ⟨_,aP.mpr rfl,h⟩)
  ·exact .inr (.inr h))⟩
theorem LJ.next{hs:Nat->List Nat}{one:Option Nat}{dn:List Nat}{ds:List cF}{E:List EE}{gs:List Nat}{wf:Nat->Nat}(F:Fo ns rs os)(w:LJ ns rs os hs one f dn ds (A++e :: B) E)(gn:gs.Nodup)(gg:∀ r∈gs,r∈goes rs os e/\wf r < dN rs r)(al:one=none->gs=goes rs os e)(to:∀ z,one=some z->Bh rs os e z->e.h=z∨∃ r∈gs,Bh rs os (nx rs e r) z) :
 e.h ∉ dn/\LJ ns rs os hs one f (dn++[e.h]) (ds++EE.sH hs ⟨e,gs,wf⟩) (A++B++gs.map (nx rs e)) (E++[⟨e,gs,wf⟩]):=by
 have hem:e∈A++e :: B:=by simp
 have nod:=HD w.wj.nd hem
 have sub:∀ b,b∈E.map (·.e)++(A++e :: B)->b∈(E.map (·.e)++[e])++(A++B++gs.map (nx rs e)):=λb hb=>by
  simp only[aY,br] at hb ⊢
  rcases hb with h | h | h | h
  ·exact .inl (.inl h)
  ·exact .inr (.inl (.inl h))
  ·exact .inl (.inr (.inl h))
  ·exact .inr (.inl (.inr h))
 have at_:∀ (k:Nat) x,(E++[(⟨e,gs,wf⟩ : EE)])[k]?=some x->E[k]?=some x∨(k=E.length/\x = ⟨e,gs,wf⟩):=λk x h=>by
  by_cases z:k < E.length
  ·rw[bB z] at h; exact .inl h
  ·have hk:=(ai.mp h).1
   rw[aB] at hk
   have:k=E.length:=by simp at hk; omega
   subst this
   rw[bD (az _),dX] at h
   exact .inr ⟨rfl,(aL h).symm⟩
 have up:∀ {k:Nat} {x:EE},E[k]?=some x->(E++[(⟨e,gs,wf⟩ : EE)])[k]?=some x:=λ{k x} h=>by rw[bB (ai.mp h).1]; exact h
 have em:(E++[(⟨e,gs,wf⟩ : EE)]).map (·.e)=E.map (·.e)++[e]:=by rw[aJ]; rfl
 refine⟨λz=>?_,⟨by rw[w.dn,aJ]; rfl,by rw[w.ds,List.flatMap_append]; simp,by rw[em]; exact w.wj.next F gn λr hr=>(gg r hr).1,λx hx=>?_,λk x h r p hfr=>?_,λk x h=>?_,λb hb r p hfr=>?_,λb hb hn=>?_,λh1 x hx=>?_,λz hz=>?_⟩⟩
 ·rw[w.dn] at z
  obtain⟨x,hx,ex⟩:=aN.mp z
  exact nod x.e (bP hx) ex
 ·rw[em]
  rcases aY.mp hx with h | h
  ·exact⟨(w.gs x h).1,λr hr=>let ⟨a,b,c⟩:=(w.gs x h).2 r hr; ⟨a,b,sub _ c⟩⟩
  ·rw[aP.mp h]
   exact⟨gn,λr hr=>⟨(gg r hr).1,(gg r hr).2,bN _ (bN _ (bP hr))⟩⟩
 ·rcases at_ k x h with h | ⟨rfl,rfl⟩
  ·obtain⟨j,y,h1,h2,h3,h4⟩:=w.od k x h r p hfr
   exact⟨j,y,h1,up h2,h3,h4⟩
  ·obtain⟨y,h1,h2,h3⟩:=w.pf e hem r p hfr
   obtain⟨j,hj⟩:=i9 h1
   exact⟨j,y,(ai.mp hj).1,up hj,h2,h3⟩
 ·rcases at_ k x h with h | ⟨rfl,rfl⟩
  ·exact w.h0 k x h
  ·constructor
   ·intro z
    rw[w.pn e hem z]; rfl
   ·intro z
    cases q:e.fr with
    | none=>rfl
    | some v =>
     obtain⟨y,h1,_⟩:=w.pf e hem v.1 v.2 q
     rw[gM.mp z] at h1
     cases h1
 ·rcases aY.mp hb with h | h
  ·obtain⟨y,h1,h2⟩:=w.pf b (by simp only[aY,br] at h ⊢; rcases h with h | h; exact .inl h; exact .inr (.inr h)) r p hfr
   exact⟨y,bV _ h1,h2⟩
  ·obtain⟨r',hr',rfl⟩:=aN.mp h
   cases hfr
   exact⟨⟨e,gs,wf⟩,by simp,rfl,hr'⟩
 ·rcases aY.mp hb with h | h
  ·exfalso
   have hb2:b∈A++e :: B:=by simp only[aY,br] at h ⊢; rcases h with h | h; exact .inl h; exact .inr (.inr h)
   have h1:=w.wj.f0 b (bN _ hb2) hn
   have hE:=w.pn b hb2 hn
   have nd:=w.wj.nd
   rw[hE] at nd
   have nd:((A++e :: B).map (·.h)).Nodup:=nd
   have he0:e.fr=none:=by
    cases q:e.fr with
    | none=>rfl
    | some v =>
     obtain⟨y,h1,_⟩:=w.pf e hem v.1 v.2 q
     rw[hE] at h1
     cases h1
   have h2:=w.wj.f0 e (bN _ hem) he0
   rw[aJ,bg,fR] at nd
   obtain⟨_,n2,n3⟩:=nd
   rw[dB] at n2
   rcases aY.mp h with h | h
   ·exact n3 _ (bP h) e.h (by simp) (h1.trans h2.symm)
   ·exact n2.1 (by rw[h2,<- h1]; exact bP h)
  ·obtain⟨r',hr',rfl⟩:=aN.mp h
   cases hn
 ·rcases aY.mp hx with h | h
  ·exact w.al h1 x h
  ·rw[aP.mp h]; exact al h1
 ·rw[aJ]
  rcases w.to z hz with h | ⟨b,hb,h⟩ | h
  ·exact .inl (bV _ h)
  ·by_cases q:b=e
   ·subst q
    rcases to z hz h with h | ⟨r,hr,h⟩
    ·exact .inl (by rw[<- h]; simp)
    ·exact .inr (.inl ⟨_,bN _ (bP hr),h⟩)
   ·refine .inr (.inl ⟨b,bV _ ?_,h⟩)
    simp only[aY,br] at hb ⊢
    rcases hb with hb | hb | hb
    ·exact .inl hb
    ·exact absurd hb q
    ·exact .inr hb
  ·exact .inr (.inr h)
theorem LJ.OP{hs:Nat->List Nat}{one:Option Nat}{dn:List Nat}{ds:List cF}{E:List EE}(F:Fo ns rs os)(w:LJ ns rs os hs one f dn ds Pn E):∀ x∈E,Rw rs os rs.length f x.e.h:=λx hx=>by
 cases z:x.e.fr with
 | none=>rw[w.wj.f0 x.e (bV _ (bP hx)) z]; exact .refl
 | some q =>
  obtain⟨h1,h2,h3,_,h5⟩:=w.wj.fr x.e (bV _ (bP hx)) q.1 q.2 z
  have:=Rw.step (F.all h5) h1 (bu (F.lt _ h1)) h2
  rw[h3] at this
  exact this
theorem LJ.WB{hs:Nat->List Nat}{dn:List Nat}{ds:List cF}{E:List EE}(F:Fo ns rs os)(w:LJ ns rs os hs none f dn ds [] E)(ne:E≠[]):∀ z,Rw rs os rs.length f z->∃ x∈E,x.e.h=z:=λz t=>by
 induction t with
 | refl =>
  cases E with
  | nil=>exact absurd rfl ne
  | cons x E =>
   have:=(w.h0 0 x rfl).mpr rfl
   exact⟨x,by simp,w.wj.f0 x.e (by simp) this⟩
 | @step y r t hr n0 ha ih =>
  obtain⟨x,hx,rfl⟩:=ih
  by_cases q:some r=x.e.by?
  ·unfold En.by? at q
   cases v:x.e.fr with
   | none=>rw[v] at q; cases q
   | some u =>
    obtain⟨r2,p⟩:=u
    rw[v] at q
    have q:r=r2:=aL q
    subst q
    obtain⟨_,h2,h3,⟨e',h4,h5⟩,_⟩:=w.wj.fr x.e (bV _ (bP hx)) r p v
    obtain⟨x',hx',rfl⟩:=aN.mp h4
    refine⟨x',hx',?_⟩
    rw[h5,<- h3,(F.back hr h2).2.1]
  ·have hg:r∈x.gs:=by rw[w.al rfl x hx]; exact iO.mpr ⟨hr,ha,q⟩
   obtain⟨_,_,h3⟩:=(w.gs x hx).2 r hg
   rw[bQ] at h3
   obtain⟨x',hx',e'⟩:=aN.mp h3
   exact⟨x',hx',by rw[e']; rfl⟩
theorem LJ.WC{hs:Nat->List Nat}{dn:List Nat}{ds:List cF}{E:List EE}{z:Nat}(w:LJ ns rs os hs (some z) f dn ds [] E)(t:Rw rs os rs.length f z):∃ x∈E,x.e.h=z:=by
 rcases w.to z rfl with h | ⟨e,he,_⟩ | h
 ·obtain⟨x,hx,e⟩:=aN.mp h
  exact⟨x,hx,e⟩
 ·cases he
 ·exact absurd t h
end
section
variable{ns:List Int}{rs:List R5}{os:List Nat}{s:NS}{l:LS}{i h:Nat}
theorem MY:∀ (cs:List Nat) (s:NS) (l:LS),s.ls[i]?=some l->∃ had,cs.foldl (j9 i h) s = { s with had:=had,ls:=s.ls.set i { l with aF:=l.aF++cs.map (cF.hand h) } }
 | [],s,l,e=>⟨s.had,by
  show s = { s with had:=s.had,ls:=s.ls.set i { l with aF:=l.aF++[] } }
  rw[bQ,Gk e]⟩
 | c :: cs,s,l,e=>by
  have hi:=(ai.mp e).1
  have e1:(sF s i c).ls[i]?=some l:=e
  have e2:j9 i h s c = { s with had:=s.had.set c (s.had.getD c []++[i]),ls:=s.ls.set i { l with aF:=l.aF++[.hand h c] } }:=by
   unfold j9
   rw[fj e1]
   rfl
  obtain⟨had,e3⟩:=MY cs (j9 i h s c) { l with aF:=l.aF++[.hand h c] } (by rw[e2]; show (s.ls.set i _)[i]?=_; rw[fZ hi,if_pos rfl])
  refine⟨had,?_⟩
  rw[lD,e3,e2]
  show { s with had:=had,ls:=(s.ls.set i _).set i _ }=_
  rw[List.set_set]
  simp only[jc,bg]
  rfl
theorem MZ:∀ (gs:List Nat) (s:NS) (l:LS),s.ls[i]?=some l->gs.foldl (sG rs i h) s = { s with cps:=s.cps++gs.map λr=>⟨i,r,i6 s.ws r (jO l),eN rs r h⟩,ls:=s.ls.set i { l with aF:=l.aF++gs.map λr=>.send h r (i6 s.ws r (jO l)) } }
 | [],s,l,e=>by
  show s = { s with cps:=s.cps++[],ls:=s.ls.set i { l with aF:=l.aF++[] } }
  rw[bQ,bQ,Gk e]
 | r :: gs,s,l,e=>by
  have hi:=(ai.mp e).1
  have en:RD s i=jO l:=by unfold RD; rw[e]
  have e2:sG rs i h s r = { s with cps:=s.cps++[⟨i,r,i6 s.ws r (jO l),eN rs r h⟩],ls:=s.ls.set i { l with aF:=l.aF++[.send h r (i6 s.ws r (jO l))] } }:=by
   unfold sG MQ
   rw[fj e,en]
  rw[lD,MZ gs (sG rs i h s r) { l with aF:=l.aF++[.send h r (i6 s.ws r (jO l))] } (by rw[e2]; show (s.ls.set i _)[i]?=_; rw[fZ hi,if_pos rfl]),e2]
  show { s with cps:=_,ls:=(s.ls.set i _).set i _ }=_
  rw[List.set_set]
  simp only[jc,bg]
  rfl
theorem Qs{ck:Option Nat}(e:s.ls[i]?=some l):∃ had,RE rs s i h l ck os = { s with had:=had,cps:=s.cps++(CM rs s l h ck os).map λr=>⟨i,r,i6 s.ws r (jO l),eN rs r h⟩,ls:=s.ls.set i { l with done:=jz l.done h,aF:=l.aF++((kg s l h).map (cF.hand h)++(CM rs s l h ck os).map λr=>.send h r (i6 s.ws r (jO l))) } }:=by
 have hi:=(ai.mp e).1
 unfold RE
 have e1:(dS s i h l).ls[i]?=some { l with done:=jz l.done h }:=by
  show (s.ls.set i _)[i]?=_
  rw[fZ hi,if_pos rfl]
 obtain⟨had,e2⟩:=MY (h:=h) (kg s l h) (dS s i h l) _ e1
 refine⟨had,?_⟩
 rw[e2,MZ _ _ { l with done:=jz l.done h,aF:=l.aF++(kg s l h).map (cF.hand h) } (by show ((s.ls.set i _).set i _)[i]?=_; rw[fZ (by rw[cW]; exact hi),if_pos rfl])]
 show { s with had:=had,cps:=_,ls:=((s.ls.set i _).set i _).set i _ }=_
 rw[List.set_set,List.set_set]
 simp only[jc]
 rfl
theorem M0{ds:List Nat}{h:Nat}{l:LS}(e:l.done=ds):AK l h=decide (h∈ds):=by
 unfold AK
 rw[e]
 clear e
 induction ds with
 | nil=>rfl
 | cons d ds ih =>
  rw[bg]
  by_cases z:d=h
  ·subst z
   rw[ou rfl]
   simp
  ·rw[ow (λe=>z (by have:=oW e; omega)),ih]
   have:¬ h=d:=λe=>z e.symm
   simp[this]
def NL(rs:List R5)(os:List Nat)(aH:List Nat)(ts:List T3):Prop:=∀ t∈ts,∃ h c r:Nat,t=((h:Int),(c:Int),(r:Int))/\r∈os/\isAt rs (h:Int) r=true/\Rw rs os r (eN rs r h) (aH.getD c 0)
theorem Ld{e:En}:((((os.filter (isAt rs e.h)).map λk:Nat=>(k:Int)).filter (jT (e.by?.map λk:Nat=>(k:Int)))).map Int.toNat)=goes rs os e:=by
 unfold goes
 rw[List.filter_map,cC,List.filter_filter]
 have:(Int.toNat ∘ λk:Nat=>(k:Int))=id:=by funext k; exact dP k
 rw[this,List.map_id]
 refine List.filter_congr λr _=>?_
 rw[Bool.and_comm]
 congr 1
 show jT (e.by?.map λk:Nat=>(k:Int)) (r:Int)=_
 unfold jT
 congr 1
 rw[decide_eq_decide]
 cases e.by? with
 | none=>exact⟨λz=>(by cases z),λz=>(by cases z)⟩
 | some q=>exact⟨λz=>(by have z:V.int (r:Int)=V.int (q:Int):=z; have:=V.int.inj z; rw[show r=q by omega]),λz=>(by rw[aL z]; rfl)⟩
theorem Qt(F:Fo ns rs os){e:En}:(goes rs os e).Nodup:=qL oZ (F.ri.imp λh=>bu h)
theorem UH{g c:Nat}:c∈qg s h g↔s.aH[c]?=some h/\s.groups[c]?=some g:=by
 unfold qg DP
 rw[bM,decide_eq_true_iff,bE]
 exact⟨λz=>z.2,λz=>⟨(ai.mp z.1).1,z⟩⟩
theorem XZ(F:Fo ns rs os){e:En}(oe:fG (s.ts l.grp))(nl:NL rs os s.aH (s.ts l.grp))(kd:l.kd=1∨l.kd=2)(gt:l.kd=1->l.to < s.aH.length/\s.groups[l.to]?=some l.grp) :
 (CM rs s l e.h e.by? os).Nodup/\(∀ r∈CM rs s l e.h e.by? os,r∈goes rs os e)/\(l.kd=2->CM rs s l e.h e.by? os=goes rs os e)/\(l.kd=1->Bh rs os e (s.aH.getD l.to 0)->e.h=s.aH.getD l.to 0∨∃ r∈CM rs s l e.h e.by? os,Bh rs os (nx rs e r) (s.aH.getD l.to 0)):=by
 rcases kd with k1 | k2
 ·obtain⟨g1,g2⟩:=gt k1
  have gh:s.aH[l.to]?=some (s.aH.getD l.to 0):=by rw[av,aa g1]; rfl
  generalize ez:s.aH.getD l.to 0=z at gh
  have n2:¬ l.kd=2:=by omega
  have so:nO (l.to:Int) l.kd=some (l.to:Int):=by unfold nO; rw[if_pos k1]
  have X0:∀ gs,gs=goes rs os e->gs.Nodup/\(∀ r∈gs,r∈goes rs os e)/\(l.kd=2->gs=goes rs os e)/\(l.kd=1->Bh rs os e z->e.h=z∨∃ r∈gs,Bh rs os (nx rs e r) z):=λgs eg=>by
   subst eg
   refine⟨Qt F,λ_ h=>h,λ_=>rfl,λ_ b=>?_⟩
   by_cases q:e.h=z
   ·exact .inl q
   ·obtain⟨r,h1,h2,h3,h4⟩:=Rw.first F b q
    refine .inr ⟨r,iO.mpr ⟨h1,h3,λy=>?_⟩,h4⟩
    rw[<- y] at h2
    exact h2 rfl
  unfold CM RY
  rw[so]
  dsimp only
  by_cases hh:(l.to:Int)∈(qg s e.h l.grp).map λk:Nat=>(k:Int)
  ·rw[if_pos hh]
   obtain⟨c,hc,ec⟩:=aN.mp hh
   have ec:c=l.to:=by omega
   subst ec
   have:=(UH.mp hc).1
   rw[gh] at this
   exact⟨ki,λr hr=>(by cases hr),λy=>absurd y n2,λ_ _=>.inl (aL this).symm⟩
  ·rw[if_neg hh]
   cases kn:tV (s.ts l.grp) e.h l.to with
   | none=>exact X0 _ Ld
   | some q =>
    dsimp only
    by_cases hq:q∈(os.filter (isAt rs e.h)).map λk:Nat=>(k:Int)
    ·rw[if_pos hq]
     obtain⟨k,hk,ek⟩:=aN.mp hq
     subst ek
     obtain⟨ho,ha⟩:=bM.mp hk
     obtain⟨h',c',r',et,r1,r2,r3⟩:=nl _ ((Rb oe).mp kn)
     have et1:e.h=h':=by have:=congrArg (·.1) et; simp at this; omega
     have et2:l.to=c':=by have:=congrArg (·.2.1) et; simp at this; omega
     have et3:k=r':=by have:=congrArg (·.2.2) et; simp at this; omega
     subst et1 et2 et3
     rw[ez] at r3
     have nb:jT (e.by?.map λk:Nat=>(k:Int)) (k:Int)=true↔some k≠e.by?:=by
      unfold jT
      rw[tR,decide_eq_false_iff_not]
      refine not_congr ?_
      cases e.by? with
      | none=>exact⟨λz=>(by cases z),λz=>(by cases z)⟩
      | some q=>exact⟨λz=>(by have z:V.int (k:Int)=V.int (q:Int):=z; have:=V.int.inj z; rw[show k=q by omega]),λz=>(by rw[aL z]; rfl)⟩
     by_cases b:jT (e.by?.map λk:Nat=>(k:Int)) (k:Int)=true
     ·rw[cD b]
      show [((k:Int)).toNat].Nodup/\_
      rw[dP]
      refine⟨by simp,λr hr=>?_,λy=>absurd y n2,λ_ _=>.inr ⟨k,by simp,r3⟩⟩
      rw[aP.mp hr]
      exact iO.mpr ⟨ho,ha,nb.mp b⟩
     ·rw[cE b]
      refine⟨ki,λr hr=>(by cases hr),λy=>absurd y n2,λ_ b2=>?_⟩
      by_cases y:e.h=z
      ·exact .inl y
      ·exfalso
       obtain⟨r,h1,h2,h3,h4⟩:=Rw.first F b2 y
       have:=F.one ho h1 ha h3 r3 h4
       subst this
       refine b (nb.mpr λy=>?_)
       rw[<- y] at h2
       exact h2 rfl
    ·rw[if_neg hq]
     exact X0 _ Ld
 ·have so:nO (l.to:Int) l.kd=none:=by unfold nO; rw[if_neg (by omega)]
  have e1:CM rs s l e.h e.by? os=goes rs os e:=by
   unfold CM RY
   rw[so]
   exact Ld
  rw[e1]
  exact⟨Qt F,λ_ h=>h,λ_=>rfl,λy=>by omega⟩
noncomputable def HR(aH groups:List Nat)(x:Nat)(to:Option Nat)(h:Nat):List Nat:=(au aH.length).filter λc=>decide (aH[c]?=some h/\groups[c]?=groups[x]?) && match to with | none=>!decide (c=x) | some y=>decide (c=y)
structure LK(aH groups:List Nat)(x:Nat)(to:Option Nat)(l:LS):Prop where
 sn:l.s=x
 tt:l.to=to.getD 0
 kd:l.kd=if to.isSome=true then 1 else 2
 gr:groups[x]?=some l.grp
 hx:x < aH.length
 ht:∀ y,to=some y->y < aH.length/\groups[y]?=groups[x]?
theorem LK.hand{x:Nat}{to:Option Nat}(k:LK s.aH s.groups x to l):kg s l h=HR s.aH s.groups x to h:=by
 unfold kg qg HR
 rw[List.filter_filter]
 refine List.filter_congr λc hc=>?_
 rw[Bool.and_comm,k.gr]
 congr 1
 unfold C6
 rw[k.kd,k.tt,k.sn]
 cases to with
 | none =>
  rw[if_neg (by decide),if_pos (by decide)]
  show (!_) = !_
  congr 1
  rw[decide_eq_decide]
  exact⟨λz=>by have:=V.int.inj z; omega,λz=>by rw[z]⟩
 | some y =>
  rw[if_pos (by simp)]
  show _=decide (c=y)
  rw[decide_eq_decide]
  exact⟨λz=>by have:=V.int.inj z; simp at this; omega,λz=>by rw[z]; rfl⟩
theorem LK.kinds{x:Nat}{to:Option Nat}(k:LK s.aH s.groups x to l):(l.kd=1∨l.kd=2)/\(l.kd=1->l.to < s.aH.length/\s.groups[l.to]?=some l.grp)/\(to=none->l.kd=2)/\∀ y,to=some y->l.kd=1/\l.to=y:=by
 have h1:=k.kd; have h2:=k.tt; have h3:=k.ht
 cases to with
 | none=>exact⟨.inr h1,λz=>by rw[h1] at z; exact absurd z (by decide),λ_=>h1,λy z=>(by cases z)⟩
 | some y =>
  obtain⟨a,b⟩:=h3 y rfl
  have h2:l.to=y:=h2
  exact⟨.inl h1,λ_=>by rw[h2]; exact⟨a,b.trans k.gr⟩,λz=>(by cases z),λy' z=>⟨h1,by rw[h2]; exact aL z⟩⟩
noncomputable def Z9(rs:List R5)(c:Cp):En:=⟨c.h,some (c.r,eN rs c.r c.h)⟩
noncomputable def pend(rs:List R5)(cps:List Cp)(i:Nat):List En:=(cps.filter λc=>decide (c.l=i)).map (Z9 rs)
theorem oU{cps cs:List Cp}:pend rs (cps++cs) i=pend rs cps i++pend rs cs i:=by unfold pend; rw[kZ,aJ]
theorem CJ(F:Fo ns rs os){e:En}{gs:List Nat}{wf:Nat->Nat}(gg:∀ r∈gs,r∈goes rs os e){j:Nat}:pend rs (gs.map λr=>(⟨i,r,wf r,eN rs r e.h⟩ : Cp)) j=if j=i then gs.map (nx rs e) else []:=by
 unfold pend
 rw[List.filter_map,cC]
 by_cases z:j=i
 ·subst z
  rw[if_pos rfl,List.filter_eq_self.mpr (λr _=>by simp)]
  refine dF λr hr=>?_
  obtain⟨h1,h2,_⟩:=iO.mp (gg r hr)
  show (⟨eN rs r e.h,some (r,eN rs r (eN rs r e.h))⟩ : En) = ⟨eN rs r e.h,some (r,e.h)⟩
  rw[(F.back h1 h2).2.1]
 ·rw[if_neg z,List.filter_eq_nil_iff.mpr (λr _=>by simp[bT z])]
  rfl
theorem WD{cps:List Cp}{a:Nat}{cp:Cp}(h:cps[a]?=some cp):cps=cps.take a++cp :: cps.drop (a + 1)/\cps.eraseIdx a=cps.take a++cps.drop (a + 1):=by
 obtain⟨ha,rfl⟩:=ai.mp h
 refine⟨?_,List.eraseIdx_eq_take_drop_succ ..⟩
 rw[<- List.drop_eq_getElem_cons ha,List.take_append_drop]
theorem UI{cps:List Cp}{a:Nat}{cp:Cp}(h:cps[a]?=some cp):∃ A B,pend rs cps cp.l=A++Z9 rs cp :: B/\pend rs (cps.eraseIdx a) cp.l=A++B/\∀ j,j≠cp.l->pend rs (cps.eraseIdx a) j=pend rs cps j:=by
 obtain⟨h1,h2⟩:=WD h
 refine⟨pend rs (cps.take a) cp.l,pend rs (cps.drop (a + 1)) cp.l,?_,by rw[h2,oU],λj hj=>?_⟩
 ·conv=>lhs; rw[h1]
  rw[oU]
  congr 1
  unfold pend
  rw[cD (by simp)]
  rfl
 ·rw[h2]
  conv=>rhs; rw[h1]
  rw[oU,oU]
  congr 1
  unfold pend
  rw[cE (by simp[bT hj])]
end
section
variable{ns:List Int}{rs:List R5}{s:NS}{os:Nat->List Nat}{b:Nat}{Ls:List (Nat × Option Nat)}
structure AJ(ns:List Int)(rs:List R5)(os:Nat->List Nat)(b:Nat)(Ls:List (Nat × Option Nat))(s:NS):Prop where
 fo:∀ g,g < 3->Fo ns rs (os g)
 wr:∀ g,g < 3->∀ r∈os g,∀ k,i6 s.ws r k < dN rs r
 ll:s.ls.length=b + Ls.length
 nl:∀ g,g < 3->NL rs (os g) s.aH (s.ts g)
 li:∀ (i x:Nat) (to:Option Nat),Ls[i]?=some (x,to)->∃ l E,s.ls[b + i]?=some l/\l.old=false/\LK s.aH s.groups x to l/\LJ ns rs (os l.grp) (HR s.aH s.groups x to) (to.map λy=>s.aH.getD y 0) (s.aH.getD x 0) l.done l.aF (pend rs s.cps (b + i)) E/\E≠[]
theorem OQ{aH groups:List Nat}{x:Nat}{to:Option Nat}{l:LS}(k:LK aH groups x to l){l2:LS}(e1:l2.s=l.s)(e2:l2.to=l.to)(e3:l2.kd=l.kd)(e4:l2.grp=l.grp):LK aH groups x to l2:=⟨e1.trans k.sn,e2.trans k.tt,e3.trans k.kd,k.gr.trans (by rw[e4]),k.hx,k.ht⟩
theorem Qu{aH:List Nat}{to:Option Nat}{z:Nat}(h:(to.map λy=>aH.getD y 0)=some z):∃ y,to=some y/\aH.getD y 0=z:=by
 cases to with
 | none=>cases h
 | some y=>exact⟨y,rfl,aL h⟩
theorem AJ.post{n m D x:Nat}{to:Option Nat}(bd:Bd n m D s)(hn:n=ns.length)(h:AJ ns rs os b Ls s)(hx:x < s.aH.length)(ht:∀ y,to=some y->y < s.aH.length/\s.groups[y]?=s.groups[x]?):AJ ns rs os b (Ls++[(x,to)]) (zE rs s x to (os (s.groups.getD x 0))):=by
 have R4:x < s.groups.length:=by rw[bd.gl]; exact hx
 have eg:s.groups[x]?=some (s.groups.getD x 0):=by rw[av,aa R4]; rfl
 have g3:s.groups.getD x 0 < 3:=bd.g3 _ (aQ eg)
 have hf:s.aH.getD x 0 < ns.length:=by
  rw[<- hn]
  refine bd.hm _ ?_
  rw[av,aa hx]
  exact aK hx
 generalize ef:s.aH.getD x 0=f at hf
 generalize egg:s.groups.getD x 0=g at eg g3
 have F:=h.fo g g3
 have k0:LK s.aH s.groups x to { gi s x to with aF:=[.post f] }:=⟨rfl,rfl,rfl,eg.trans (by show some g=some (s.groups.getD x 0); rw[egg]),hx,ht⟩
 have go:=XZ (s:=oS s x to) (l:={ gi s x to with aF:=[.post f] }) (e:=⟨f,none⟩) F (by show fG (s.ts (s.groups.getD x 0)); exact (bd.tb _).2) (by show NL rs (os g) s.aH (s.ts (s.groups.getD x 0)); rw[egg]; exact h.nl g g3) k0.kinds.1 k0.kinds.2.1
 obtain⟨had,ed⟩:=Qs (rs:=rs) (os:=os g) (h:=f) (ck:=none) (s:=oS s x to) (i:=s.ls.length) (l:={ gi s x to with aF:=[.post f] }) (by show (s.ls++[_])[s.ls.length]?=_; rw[ef]; exact xm)
 have ep:zE rs s x to (os g)=RE rs (oS s x to) s.ls.length f { gi s x to with aF:=[.post f] } none (os g):=by unfold zE; rw[ef]
 rw[ep,ed]
 have hh:kg (oS s x to) { gi s x to with aF:=[.post f] } f=HR s.aH s.groups x to f:=LK.hand (s:=oS s x to) k0
 rw[hh]
 generalize eG:CM rs (oS s x to) { gi s x to with aF:=[.post f] } f none (os g)=gs
 obtain⟨gn,gg,ga,gt⟩ : gs.Nodup/\(∀ r∈gs,r∈goes rs (os g) ⟨f,none⟩)/\((gi s x to).kd=2->gs=goes rs (os g) ⟨f,none⟩)/\((gi s x to).kd=1->Bh rs (os g) ⟨f,none⟩ (s.aH.getD (gi s x to).to 0)->f=s.aH.getD (gi s x to).to 0∨∃ r∈gs,Bh rs (os g) (nx rs ⟨f,none⟩ r) (s.aH.getD (gi s x to).to 0)):=by rw[<- eG]; exact go
 have aaa:∀ l',(oS s x to).ls.set s.ls.length l'=s.ls++[l']:=λl'=>by
  show (s.ls++[_]).set s.ls.length l'=_
  rw[uO _ _ (az _),dX]
  rfl
 rw[aaa]
 have hcl:pend rs s.cps s.ls.length = []:=by
  unfold pend
  rw[List.filter_eq_nil_iff.mpr λc hc=>?_]
  ·rfl
  ·have:=(bd.cl c hc).1
   simp
   omega
 obtain⟨_,J⟩:=(LJ.zero (os:=os g) (hs:=HR s.aH s.groups x to) (one:=to.map λy=>s.aH.getD y 0) hf).next (A:=[]) (B:=[]) (gs:=gs) (wf:=λr=>i6 s.ws r (jO { gi s x to with aF:=[.post f] })) F gn (λr hr=>⟨gg r hr,h.wr g g3 r (iO.mp (gg r hr)).1 _⟩) (λz=>ga (k0.kinds.2.2.1 (by cases to with | none=>rfl | some y=>cases z))) (λz hz=>by
  obtain⟨y,e1,e2⟩:=Qu hz
  obtain⟨q1,q2⟩:=k0.kinds.2.2.2 y e1
  have gt:=gt q1
  rw[q2] at gt
  rw[<- e2]
  exact gt)
 refine⟨h.fo,h.wr,?_,h.nl,λi x' to' hi=>?_⟩
 ·show (s.ls++[_]).length=_
  rw[aB,aB,h.ll]
  rfl
 ·by_cases z:i < Ls.length
  ·rw[bB z] at hi
   obtain⟨l,E,h1,h2,h3,h4,h5⟩:=h.li i x' to' hi
   refine⟨l,E,?_,h2,h3,?_,h5⟩
   ·show (s.ls++[_])[b + i]?=_
    rw[bB (ai.mp h1).1]; exact h1
   ·show LJ ns rs _ _ _ _ _ _ (pend rs (s.cps++_) (b + i)) E
    rw[oU,CJ F (e:=⟨f,none⟩) gg,if_neg (by have:=h.ll; omega),bQ]
    exact h4
  ·have hk:=(ai.mp hi).1
   rw[aB] at hk
   have ei:i=Ls.length:=by simp at hk; omega
   subst ei
   rw[bD (az _),dX] at hi
   cases hi
   refine⟨{ gi s x to with done:=jz [] f,aF:=[.post f]++((HR s.aH s.groups x to f).map (cF.hand f)++gs.map λr=>.send f r (i6 s.ws r (jO { gi s x to with aF:=[.post f] }))) },[⟨⟨f,none⟩,gs,λr=>i6 s.ws r (jO { gi s x to with aF:=[.post f] })⟩],?_,rfl,OQ k0 rfl rfl rfl rfl,?_,by simp⟩
   ·show (s.ls++[_])[b + Ls.length]?=_
    rw[<- h.ll]
    exact xm
   ·show LJ ns rs (os (s.groups.getD x 0)) _ _ (s.aH.getD x 0) (jz [] f) _ (pend rs (s.cps++_) (b + Ls.length)) _
    rw[<- h.ll,oU,hcl,CJ F (e:=⟨f,none⟩) gg,if_pos rfl,egg,ef]
    exact J
theorem AJ.pass{n m D a i x:Nat}{to:Option Nat}{cp:Cp}{l:LS}{ts:List T3}(bd:Bd n m D s)(h:AJ ns rs os b Ls s)(hcp:s.cps[a]?=some cp)(hl:s.ls[cp.l]?=some l)(hi:Ls[i]?=some (x,to))(ei:cp.l=b + i)(pt:ts.Perm (put3 (s.ts l.grp) cp.h l.s cp.r))(oe:fG ts) :
 comes l cp (os l.grp)=true/\AJ ns rs os b Ls (qi rs s a cp l (os l.grp) ts):=by
 obtain⟨l0,E,h1,h2,h3,h4,h5⟩:=h.li i x to hi
 rw[<- ei,hl] at h1
 cases h1
 have R4:s.groups[x]?=some l.grp:=h3.gr
 have g3:l.grp < 3:=bd.g3 _ (aQ R4)
 have F:=h.fo l.grp g3
 obtain⟨A,B,pc1,pc2,pc3⟩:=UI (rs:=rs) hcp
 rw[<- ei,pc1] at h4
 generalize ee:Z9 rs cp=e at pc1 h4
 have eh:cp.h=e.h:=by rw[<- ee]; rfl
 have er:e.fr=some (cp.r,eN rs cp.r cp.h):=by rw[<- ee]; rfl
 have eb:e.by?=some cp.r:=by unfold En.by?; rw[er]; rfl
 have hem:e∈E.map (·.e)++(A++e :: B):=by simp
 obtain⟨q1,q2,q3,q4,q5⟩:=h4.wj.fr e hem _ _ er
 have q6:isAt rs (cp.h:Int) cp.r=true/\eN rs cp.r (eN rs cp.r cp.h)=cp.h:=by
  have:=F.back q1 q2
  rw[q3,<- eh] at this
  exact⟨this.1,q3.trans eh.symm⟩
 have nd:e.h ∉ l.done:=λz=>by
  rw[h4.dn] at z
  obtain⟨y,hy,ey⟩:=aN.mp z
  exact HD h4.wj.nd (by simp) y.e (bP hy) ey
 have hdb:AK l cp.h=false:=by rw[M0 rfl,eh]; exact decide_eq_false nd
 have acN:comes l cp (os l.grp)=true:=by
  unfold comes
  rw[hdb,decide_eq_true q1]
  rfl
 refine⟨acN,?_⟩
 have hfd:kh l cp (os l.grp) = .oA cp.h cp.r:=by
  unfold kh
  rw[hdb,if_pos q1,if_neg (by decide)]
 have hil:=(ai.mp hl).1
 have nl1:NL rs (os l.grp) s.aH ts:=λt ht=>by
  have ht:=pt.mem_iff.mp ht
  unfold put3 at ht
  rcases aY.mp ht with z | z
  ·exact h.nl _ g3 t (bM.mp z).1
  ·refine⟨cp.h,l.s,cp.r,aP.mp z,q1,q6.1,?_⟩
   rw[h3.sn]
   exact F.symm q5
 have nl2:∀ g,g < 3->NL rs (os g) s.aH (gq s.ts l.grp ts g):=λg hg=>by
  by_cases z:g=l.grp
  ·subst z; rw[cH]; exact nl1
  ·rw[eT z]; exact h.nl g hg
 unfold qi ff
 rw[acN,if_pos rfl,if_neg (show ¬ l.old=true by rw[h2]; decide),hfd]
 have els:(AL (iF s a cp l (os l.grp)) l.grp ts).ls[cp.l]?=some { l with aF:=l.aF++[.oA cp.h cp.r] }:=by
  show (s.ls.set cp.l { l with aF:=l.aF++[kh l cp (os l.grp)] })[cp.l]?=_
  rw[hfd,fZ hil,if_pos rfl]
 obtain⟨had,ed⟩:=Qs (rs:=rs) (os:=os l.grp) (h:=cp.h) (ck:=some cp.r) els
 have k1:LK s.aH s.groups x to { l with aF:=l.aF++[.oA cp.h cp.r] }:=OQ h3 rfl rfl rfl rfl
 have go:=XZ (s:=AL (iF s a cp l (os l.grp)) l.grp ts) (l:={ l with aF:=l.aF++[.oA cp.h cp.r] }) (e:=e) F (by show fG (gq s.ts l.grp ts l.grp); rw[cH]; exact oe) (nl2 _ g3) k1.kinds.1 k1.kinds.2.1
 have hh:kg (AL (iF s a cp l (os l.grp)) l.grp ts) { l with aF:=l.aF++[.oA cp.h cp.r] } cp.h=HR s.aH s.groups x to cp.h:=LK.hand (s:=AL (iF s a cp l (os l.grp)) l.grp ts) k1
 rw[ed,hh]
 rw[eb,<- eh] at go
 generalize CM rs (AL (iF s a cp l (os l.grp)) l.grp ts) { l with aF:=l.aF++[.oA cp.h cp.r] } cp.h (some cp.r) (os l.grp)=gs at go
 obtain⟨gn,gg,ga,gt⟩:=go
 obtain⟨_,J⟩:=h4.next (gs:=gs) (wf:=λr=>i6 s.ws r (jO { l with aF:=l.aF++[.oA cp.h cp.r] })) F gn (λr hr=>⟨gg r hr,h.wr _ g3 r (iO.mp (gg r hr)).1 _⟩) (λz=>ga (k1.kinds.2.2.1 (by cases to with | none=>rfl | some y=>cases z))) (λz hz=>by
  obtain⟨y,e1,e2⟩:=Qu hz
  obtain⟨w1,w2⟩:=k1.kinds.2.2.2 y e1
  have gt:=gt w1
  rw[w2] at gt
  rw[<- e2,<- eh]
  exact gt)
 have acO:∀ (k:Nat) (l':LS),((AL (iF s a cp l (os l.grp)) l.grp ts).ls.set cp.l l')[k]?=if k=cp.l then some l' else s.ls[k]?:=λk l'=>by
  show ((s.ls.set cp.l _).set cp.l l')[k]?=_
  rw[List.set_set,fZ hil]
 refine⟨h.fo,h.wr,?_,nl2,λj x' to' hj=>?_⟩
 ·show ((s.ls.set cp.l _).set cp.l _).length=_
  rw[cW,cW]
  exact h.ll
 ·by_cases z:j=i
  ·subst z
   rw[hi] at hj
   cases hj
   refine⟨{ l with done:=jz l.done cp.h,aF:=l.aF++[.oA cp.h cp.r]++((HR s.aH s.groups x to cp.h).map (cF.hand cp.h)++gs.map λr=>.send cp.h r (i6 s.ws r (jO { l with aF:=l.aF++[.oA cp.h cp.r] }))) },E++[⟨e,gs,λr=>i6 s.ws r (jO { l with aF:=l.aF++[.oA cp.h cp.r] })⟩],by rw[<- ei]; refine (acO cp.l _).trans ?_; rw[if_pos rfl]; rfl,h2,OQ h3 rfl rfl rfl rfl,?_,by simp⟩
   ·show LJ ns rs (os l.grp) _ _ _ (jz l.done cp.h) _ (pend rs (s.cps.eraseIdx a++gs.map λr=>(⟨cp.l,r,_,eN rs r cp.h⟩ : Cp)) (b + j)) _
    have pn:=CJ (i:=cp.l) (j:=cp.l) (wf:=λr=>i6 s.ws r (jO { l with aF:=l.aF++[.oA cp.h cp.r] })) F gg
    rw[if_pos rfl,<- eh] at pn
    rw[<- ei,oU,pc2]
    unfold jz
    rw[if_neg (by rw[eh]; exact nd)]
    refine Eq.mp ?_ J
    congr 1
    ·rw[eh]
    ·show l.aF++(Lc e :: _)=l.aF++[.oA cp.h cp.r]++_
     rw[jc]
     congr 1
     unfold Lc
     rw[er]
     show _=cF.oA cp.h cp.r :: _
     rw[eh]
     rfl
    ·congr 1
     exact pn.symm
  ·obtain⟨l',E',r1,r2,r3,r4,r5⟩:=h.li j x' to' hj
   have nj:b + j≠cp.l:=by omega
   refine⟨l',E',(acO (b + j) _).trans ((if_neg nj).trans r1),r2,r3,?_,r5⟩
   show LJ ns rs _ _ _ _ _ _ (pend rs (s.cps.eraseIdx a++gs.map λr=>(⟨cp.l,r,_,eN rs r cp.h⟩ : Cp)) (b + j)) E'
   have pn:=CJ (i:=cp.l) (j:=b + j) (wf:=λr=>i6 s.ws r (jO { l with aF:=l.aF++[.oA cp.h cp.r] })) F gg
   rw[if_neg nj,<- eh] at pn
   rw[oU,pc3 _ nj]
   have pn:pend rs (gs.map λr=>(⟨cp.l,r,i6 s.ws r (jO { l with aF:=l.aF++[.oA cp.h cp.r] }),eN rs r cp.h⟩ : Cp)) (b + j) = []:=pn
   refine Eq.mp ?_ r4
   congr 1
   exact (bQ _).symm.trans (congrArg _ pn.symm)
end
section
noncomputable def OR(rs:List R5)(h:Nat):Nat:=((au rs.length).filter (isAt rs h)).length
noncomputable def zG(n:Nat)(rs:List R5)(done:List Nat):Nat:=(((au n).filter λh=>!decide (h∈done)).map (OR rs)).sum
noncomputable def Ph(n:Nat)(rs:List R5)(s:NS):Nat:=s.cps.length + (s.ls.map λl=>zG n rs l.done).sum
theorem sum_set{α:Type}{f:α->Nat}:∀ {xs:List α} {i:Nat} {x:α} (y:α),xs[i]?=some x->((xs.set i y).map f).sum + f x=(xs.map f).sum + f y
 | [],_,_,_,h=>by cases h
 | a :: xs,0,x,y,h=>by
  cases h
  show f y + (xs.map f).sum + f a=f a + (xs.map f).sum + f y
  omega
 | a :: xs,i + 1,x,y,h=>by
  have:=sum_set (f:=f) (xs:=xs) (i:=i) y h
  show f a + ((xs.set i y).map f).sum + f x=f a + (xs.map f).sum + f y
  omega
theorem M2{f:Nat->Nat}{d:List Nat}{h:Nat}(hd:h ∉ d):∀ {L:List Nat},L.Nodup->(((L.filter λk=>!decide (k∈d++[h])).map f).sum + if h∈L then f h else 0)=((L.filter λk=>!decide (k∈d)).map f).sum
 | [],_=>rfl
 | a :: L,nd=>by
  obtain⟨n1,n2⟩:=dB.mp nd
  have ih:=M2 (f:=f) hd n2
  by_cases z:a=h
  ·subst z
   rw[if_neg n1] at ih
   rw[if_pos bI,cE (by simp),cD (by simp[hd]),bg,List.sum_cons]
   omega
  ·have e:(if h∈a :: L then f h else 0)=(if h∈L then f h else 0):=by
    have q:¬ h=a:=λy=>z y.symm
    simp[q]
   rw[e]
   by_cases y:a∈d
   ·rw[cE (by simp[y]),cE (by simp[y])]
    exact ih
   ·rw[cD (by simp[y,z]),cD (by simp[y]),bg,bg,List.sum_cons,List.sum_cons]
    omega
theorem JO{n:Nat}{rs:List R5}{d:List Nat}{h:Nat}(hn:h < n)(hd:h ∉ d):zG n rs (jz d h) + OR rs h=zG n rs d:=by
 unfold zG jz
 rw[if_neg hd]
 have:=M2 (f:=OR rs) hd (List.nodup_range (n:=n))
 rw[if_pos (bE.mpr hn)] at this
 exact this
theorem aab{n:Nat}{rs:List R5}{k:Nat}:((au n).filter λh:Nat=>isAt rs (h:Int) k).length<=2:=by
 cases e:rs[k]? with
 | none =>
  have:((au n).filter λh:Nat=>isAt rs (h:Int) k) = []:=List.filter_eq_nil_iff.mpr λh _=>by unfold isAt; rw[e]; exact aD
  rw[this]
  decide
 | some r =>
  have:=Gr.qG (B:=[r.a.toNat,r.b.toNat]) (qL (l₁:=(au n).filter λh:Nat=>isAt rs (h:Int) k) oZ List.nodup_range) λx hx=>by
   have hx:=(bM.mp hx).2
   unfold isAt at hx
   rw[e] at hx
   have hx:(decide ((x:Int)=r.a) || decide ((x:Int)=r.b))=true:=hx
   rw[lE,decide_eq_true_iff,decide_eq_true_iff] at hx
   rcases hx with z | z
   ·rw[<- z]; simp
   ·rw[<- z]; simp
  exact this
theorem M3{n:Nat}{p:Nat->Nat->Bool}:∀ m,((au n).map λh=>((au m).filter (p h)).length).sum=((au m).map λk=>((au n).filter λh=>p h k).length).sum
 | 0=>by
  show ((au n).map λh=>0).sum=0
  generalize au n=L
  induction L with
  | nil=>rfl
  | cons a L ih=>rw[bg,List.sum_cons,ih]; rfl
 | m + 1=>by
  rw[gk,aJ,List.sum_append,<- M3 m]
  show _=_ + (((au n).filter λh=>p h m).length + 0)
  generalize au n=L
  induction L with
  | nil=>rfl
  | cons a L ih =>
   rw[bg,bg,List.sum_cons,List.sum_cons,ih,kZ,aB]
   by_cases z:p a m=true
   ·rw[cD z,cD (p:=λh=>p h m) z,aS,aS,List.filter_nil,List.length_nil]
    omega
   ·rw[cE z,cE (p:=λh=>p h m) z,List.filter_nil,List.length_nil]
    omega
theorem WE{n:Nat}{rs:List R5}:((au n).map (OR rs)).sum<=2 * rs.length:=by
 have e:((au n).map (OR rs)).sum=_:=M3 (n:=n) (p:=λh k=>isAt rs (h:Int) k) rs.length
 rw[e]
 generalize rs.length=m
 induction m with
 | zero=>exact az _
 | succ m ih =>
  rw[gk,aJ,List.sum_append]
  have:((au n).filter λh:Nat=>isAt rs (h:Int) m).length<=2:=aab
  show _ + (((au n).filter λh:Nat=>isAt rs (h:Int) m).length + 0)<=_
  omega
theorem UJ{ns:List Int}{rs:List R5}{os:List Nat}(F:Fo ns rs os){s:NS}{l:LS}{h:Nat}{ck:Option Nat}:(CM rs s l h ck os).length<=OR rs h:=by
 unfold CM OR
 rw[ah]
 refine aO Ft.2 ?_
 rw[ah]
 exact Gr.qG (qL oZ (F.ri.imp λh=>bu h)) λx hx=>bM.mpr ⟨bE.mpr (F.lt x (bM.mp hx).1),(bM.mp hx).2⟩
theorem WG{ns:List Int}{rs:List R5}{os:List Nat}(F:Fo ns rs os){s:NS}{x:Nat}{to:Option Nat}(hf:s.aH.getD x 0 < ns.length):Ph ns.length rs (zE rs s x to os)<=Ph ns.length rs s + 2 * rs.length:=by
 unfold zE
 obtain⟨had,ed⟩:=Qs (rs:=rs) (os:=os) (h:=s.aH.getD x 0) (ck:=none) (s:=oS s x to) (i:=s.ls.length) (l:={ gi s x to with aF:=[.post (s.aH.getD x 0)] }) xm
 rw[ed]
 have gd:=UJ (s:=oS s x to) (l:={ gi s x to with aF:=[.post (s.aH.getD x 0)] }) (h:=s.aH.getD x 0) (ck:=none) F
 generalize CM rs (oS s x to) _ _ _ os=gs at gd
 have aaa:∀ l',(oS s x to).ls.set s.ls.length l'=s.ls++[l']:=λl'=>by
  show (s.ls++[_]).set s.ls.length l'=_
  rw[uO _ _ (az _),dX]
  rfl
 unfold Ph
 rw[aaa]
 show (s.cps++_).length + ((s.ls++[_]).map _).sum<=_
 rw[aB,ah,aJ,List.sum_append]
 show s.cps.length + gs.length + (_ + (zG ns.length rs (jz [] (s.aH.getD x 0)) + 0))<=_
 have e1:=JO (rs:=rs) (d:=[]) hf (by simp)
 have e2:zG ns.length rs []<=2 * rs.length:=by
  unfold zG
  rw[List.filter_eq_self.mpr (by simp)]
  exact WE
 omega
theorem WH{ns:List Int}{rs:List R5}{os:List Nat}(F:Fo ns rs os){s:NS}{a:Nat}{cp:Cp}{l:LS}{ts:List T3}(hcp:s.cps[a]?=some cp)(hl:s.ls[cp.l]?=some l)(hh:cp.h < ns.length):Ph ns.length rs (qi rs s a cp l os ts) + 1<=Ph ns.length rs s:=by
 have hil:=(ai.mp hl).1
 have hal:=(ai.mp hcp).1
 have el:(s.cps.eraseIdx a).length + 1=s.cps.length:=by
  rw[List.length_eraseIdx,if_pos hal]
  omega
 have ea:∀ os',((iF s a cp l os').ls.map λl=>zG ns.length rs l.done).sum=(s.ls.map λl=>zG ns.length rs l.done).sum:=λos'=>by
  have:=sum_set (f:=λl:LS=>zG ns.length rs l.done) { l with aF:=l.aF++[kh l cp os'] } hl
  show ((s.ls.set cp.l _).map _).sum=_
  simp only at this
  omega
 unfold qi
 split
 ·rename_i hc
  have hnd:cp.h ∉ l.done:=λz=>by
   unfold comes at hc
   rw[M0 rfl,decide_eq_true z] at hc
   simp at hc
  obtain⟨had,ed⟩:=Qs (rs:=rs) (os:=os) (h:=cp.h) (ck:=some cp.r) (CH (a:=a) (os:=os) (ts:=ts) hl)
  rw[ed]
  have gd:=UJ (s:=ff s a cp l os ts) (l:={ l with aF:=l.aF++[kh l cp os] }) (h:=cp.h) (ck:=some cp.r) F
  generalize CM rs (ff s a cp l os ts) _ _ _ os=gs at gd
  have ec:(ff s a cp l os ts).cps=s.cps.eraseIdx a:=by unfold ff; split <;> rfl
  have es:(ff s a cp l os ts).ls=s.ls.set cp.l { l with aF:=l.aF++[kh l cp os] }:=by unfold ff; split <;> rfl
  unfold Ph
  dsimp only
  rw[ec,es,List.set_set,aB,ah]
  have e1:=JO (rs:=rs) (d:=l.done) hh hnd
  have e2:=λy=>sum_set (f:=λl:LS=>zG ns.length rs l.done) y hl
  have e3:=e2 { l with done:=jz l.done cp.h,aF:=l.aF++[kh l cp os]++((kg (ff s a cp l os ts) { l with aF:=l.aF++[kh l cp os] } cp.h).map (cF.hand cp.h)++gs.map λr=>.send cp.h r (i6 (ff s a cp l os ts).ws r (jO { l with aF:=l.aF++[kh l cp os] }))) }
  dsimp only at e3
  omega
 ·unfold Ph
  rw[ea]
  show (s.cps.eraseIdx a).length + _ + 1<=_
  omega
end
section
variable{P:Program}{w:World}{K:af}{mg:Str->Option Value}{base:Heap}
section
variable{ns:List Int}{rs:List R5}{os:List Nat}{f:Nat}{L:List Nat}
noncomputable def E1(rs:List R5)(r:Nat):Nat:=match rs[r]? with | some re=>re.a.toNat | none=>0
noncomputable def Fv(rs:List R5)(r:Nat):Nat:=match rs[r]? with | some re=>re.b.toNat | none=>0
noncomputable def p5(rs:List R5)(L:List Nat)(r:Nat):List Nat:=if E1 rs r∈L/\Fv rs r ∉ L then L++[Fv rs r] else if Fv rs r∈L/\E1 rs r ∉ L then L++[E1 rs r] else L
noncomputable def lB(rs:List R5)(os:List Nat)(f:Nat):Nat->List Nat
 | 0=>[f]
 | k + 1=>os.foldl (p5 rs) (lB rs os f k)
def xX(ns:List Int)(rs:List R5)(os:List Nat)(f:Nat)(L:List Nat):Prop:=L.Nodup/\f∈L/\∀ z∈L,Rw rs os rs.length f z/\z < ns.length
theorem Fo.ends(F:Fo ns rs os){r:Nat}(hr:r∈os):isAt rs (E1 rs r:Int) r=true/\isAt rs (Fv rs r:Int) r=true/\eN rs r (E1 rs r)=Fv rs r/\eN rs r (Fv rs r)=E1 rs r/\E1 rs r < ns.length/\Fv rs r < ns.length/\∀ x:Nat,isAt rs (x:Int) r=true->x=E1 rs r∨x=Fv rs r:=by
 have hl:=F.lt r hr
 have o:=F.ok _ (aK hl)
 have h1:=o.a0; have h2:=o.b0; have h3:=o.ab; have h4:=o.a1; have h5:=o.b1
 have ei:∀ y:Int,isAt rs y r=(decide (y=rs[r].a) || decide (y=rs[r].b)):=λy=>by unfold isAt; rw[aa hl]
 have ea:E1 rs r=rs[r].a.toNat:=by unfold E1; rw[aa hl]
 have eb:Fv rs r=rs[r].b.toNat:=by unfold Fv; rw[aa hl]
 have ef:∀ y,eN rs r y=fz rs[r] y:=λy=>by unfold eN; rw[aa hl]
 rw[ef,ef,ei,ei,ea,eb]
 unfold fz
 refine⟨by simp; omega,by simp; omega,?_,?_,by omega,by omega,λx hx=>?_⟩
 ·rw[if_pos (by omega)]
 ·rw[if_neg (by omega)]
 ·rw[ei,lE,decide_eq_true_iff,decide_eq_true_iff] at hx
  omega
theorem xX.step(F:Fo ns rs os)(h:xX ns rs os f L){r:Nat}(hr:r∈os):xX ns rs os f (p5 rs L r):=by
 obtain⟨h1,h2,h3⟩:=h
 obtain⟨e1,e2,e3,e4,e5,e6,_⟩:=F.ends hr
 have nr:=bu (F.lt r hr)
 have add:∀ x y,x∈L->y ∉ L->y < ns.length->isAt rs (x:Int) r=true->eN rs r x=y->xX ns rs os f (L++[y]):=λx y hx hy hn ha e=>by
  refine⟨fR.mpr ⟨h1,by simp,λa ha b hb=>?_⟩,bV _ h2,λz hz=>?_⟩
  ·rw[aP.mp hb]
   rintro rfl
   exact hy ha
  ·rcases aY.mp hz with hz | hz
   ·exact h3 z hz
   ·rw[aP.mp hz]
    refine⟨?_,hn⟩
    rw[<- e]
    exact .step (h3 x hx).1 hr nr ha
 unfold p5
 split
 ·rename_i z
  exact add _ _ z.1 z.2 e6 e1 e3
 ·split
  ·rename_i _ z
   exact add _ _ z.1 z.2 e5 e2 e4
  ·exact⟨h1,h2,h3⟩
theorem xX.fold(F:Fo ns rs os):∀ {xs:List Nat} {L:List Nat},(∀ r∈xs,r∈os)->xX ns rs os f L->xX ns rs os f (xs.foldl (p5 rs) L)
 | [],_,_,h=>h
 | r :: xs,_,hs,h=>xX.fold F (xs:=xs) (λr h=>hs r (bh _ h)) (h.step F (hs r bI))
theorem xX.turn(F:Fo ns rs os)(hf:f < ns.length):∀ k,xX ns rs os f (lB rs os f k)
 | 0=>⟨by simp[lB],by simp[lB],λz hz=>by rw[aP.mp hz]; exact⟨.refl,hf⟩⟩
 | k + 1=>xX.fold F (λr h=>h) (xX.turn F hf k)
theorem xX.len(h:xX ns rs os f L):L.length<=ns.length:=by
 have:=Gr.qG (B:=au ns.length) h.1 λx hx=>bE.mpr (h.2.2 x hx).2
 rw[aZ] at this
 exact this
theorem UK{r:Nat}:L.length<=(p5 rs L r).length/\((p5 rs L r).length=L.length->p5 rs L r=L/\(E1 rs r∈L↔Fv rs r∈L)):=by
 unfold p5
 split
 ·rw[aB]
  exact⟨by omega,λz=>by simp at z⟩
 ·split
  ·rw[aB]
   exact⟨by omega,λz=>by simp at z⟩
  ·rename_i h1 h2
   refine⟨az _,λ_=>⟨rfl,?_⟩⟩
   by_cases q1:E1 rs r∈L <;> by_cases q2:Fv rs r∈L <;> simp_all
theorem M4:∀ {xs:List Nat} {L:List Nat},L.length<=(xs.foldl (p5 rs) L).length/\((xs.foldl (p5 rs) L).length=L.length->xs.foldl (p5 rs) L=L/\∀ r∈xs,E1 rs r∈L↔Fv rs r∈L)
 | [],L=>⟨az _,λ_=>⟨rfl,λr h=>by cases h⟩⟩
 | r :: xs,L=>by
  have h1:=UK (rs:=rs) (L:=L) (r:=r)
  have h2:=M4 (xs:=xs) (L:=p5 rs L r)
  rw[lD]
  refine⟨aO h1.1 h2.1,λe=>?_⟩
  obtain⟨e1,e2⟩:=h1.2 (by have:=h1.1; have:=h2.1; omega)
  rw[e1] at h2 e ⊢
  obtain⟨e3,e4⟩:=h2.2 e
  refine⟨e3,λk hk=>?_⟩
  rcases br.mp hk with rfl | hk
  ·exact e2
  ·exact e4 k hk
theorem Qv:∀ k,(∀ r∈os,E1 rs r∈lB rs os f k↔Fv rs r∈lB rs os f k)∨k + 1<=(lB rs os f k).length
 | 0=>.inr (az _)
 | k + 1=>by
  have h:=M4 (rs:=rs) (xs:=os) (L:=lB rs os f k)
  by_cases e:(os.foldl (p5 rs) (lB rs os f k)).length=(lB rs os f k).length
  ·obtain⟨e1,e2⟩:=h.2 e
   refine .inl ?_
   show ∀ r∈os,E1 rs r∈os.foldl (p5 rs) (lB rs os f k)↔_∈os.foldl (p5 rs) (lB rs os f k)
   rw[e1]
   exact e2
  ·rcases Qv k with z | z
   ·refine absurd ?_ e
    have st:∀ xs:List Nat,(∀ r∈xs,r∈os)->xs.foldl (p5 rs) (lB rs os f k)=lB rs os f k:=λxs=>by
     induction xs with
     | nil=>exact λ_=>rfl
     | cons r xs ih =>
      intro hs
      have:p5 rs (lB rs os f k) r=lB rs os f k:=by
       have q:=z r (hs r bI)
       unfold p5
       rw[if_neg (λy=>y.2 (q.mp y.1)),if_neg (λy=>y.2 (q.mpr y.1))]
      rw[lD,this]
      exact ih λr h=>hs r (bh _ h)
    rw[st os λ_ h=>h]
   ·refine .inr ?_
    show k + 1 + 1<=(os.foldl (p5 rs) (lB rs os f k)).length
    have:=h.1
    omega
theorem aac(F:Fo ns rs os)(hf:f < ns.length)(hm:ns.length<=rs.length + 1)(z:Nat):z∈lB rs os f rs.length↔Rw rs os rs.length f z:=by
 have I:=xX.turn F hf rs.length
 refine⟨λh=>(I.2.2 z h).1,λt=>?_⟩
 have cl:∀ r∈os,E1 rs r∈lB rs os f rs.length↔Fv rs r∈lB rs os f rs.length:=by
  rcases Qv (rs:=rs) (os:=os) (f:=f) rs.length with h | h
  ·exact h
  ·intro r hr
   obtain⟨_,_,_,_,h5,h6,_⟩:=F.ends hr
   have all:∀ x,x < ns.length->x∈lB rs os f rs.length:=λx hx=>by
    by_cases q:x∈lB rs os f rs.length
    ·exact q
    ·exfalso
     have:=Gr.qG (xs:=x :: lB rs os f rs.length) (B:=au ns.length) (dB.mpr ⟨q,I.1⟩) λy hy=>by
      rcases br.mp hy with rfl | hy
      ·exact bE.mpr hx
      ·exact bE.mpr (I.2.2 y hy).2
     rw[aS,aZ] at this
     omega
   exact⟨λ_=>all _ h6,λ_=>all _ h5⟩
 induction t with
 | refl=>exact I.2.1
 | @step y r t hr ne ha ih =>
  obtain⟨_,_,h3,h4,_,_,h7⟩:=F.ends hr
  rcases h7 y ha with e | e
  ·rw[e,h3]; rw[e] at ih; exact (cl r hr).mp ih
  ·rw[e,h4]; rw[e] at ih; exact (cl r hr).mpr ih
end
inductive Yb(K:af)(vs:List V)(H:Hp)(Q:VK)(E:XK):Prop
 | mk (b lo:Addr) (ns:List Int) (rs:List R5) (os:List Nat) (f:Nat):vs = [.ref b,.ref lo,.int f]->HX K H b rs->bL K H lo (bO os)->Fo ns rs os->f < ns.length->rs.length<=20->ns.length<=12->(∀ l H',aE H H'->H l=none->H' l=some (.lst (bO (lB rs os f rs.length)))->Q (.ref l) H')->Yb K vs H Q E
theorem UL{t:Ad}(T:Txt K mg t):cj P w K mg base ig 1 t.Ca t.Fk ["_law_ropes_here","_law_opened","_law_house"]  (Yb K):=by
 refine T.PK.F.jK vc λH Q E hr h=>?_
 ·obtain⟨b,lo,ns,rs,os,f,rfl,⟨us,hL,z8⟩,hO,Fo,hf,hm,hn,k⟩:=h
  have XC:us.length=rs.length:=by rw[z8.len,ah]
  refine⟨_,(ao (sS 3 vc (ji (gC (pv 2)))) (ao (fS (eu rfl T.gK (gC (lS T.gf (pv 0)))) (gT 4 vc) (bw (fS (fE (pv 1)) (gT 5 vc) (ao (J1 (oq CZ (xL (pv 0) (pv 5)) vJ (nM aA)) (J0 (n:=2) rfl (om (gT 6 vc) (om (gT 7 vc) E5)))) (bw (bX (PW.pt (AN (fX k6 (pv 6) (pv 3) (by with_unfolding_all rfl)) (zJ (fX gH (pv 7) (pv 3) (by with_unfolding_all rfl))))) (oE (p9 bq bz bx eB (pv 3) (gC (pv 7)))) (bw (bX (PW.pt (AN (fX k6 (pv 7) (pv 3) (by with_unfolding_all rfl)) (zJ (fX gH (pv 6) (pv 3) (by with_unfolding_all rfl))))) (oE (p9 bq bz bx eB (pv 3) (gC (pv 6)))) aX)))))))) (oR (pv 3)))),?_⟩
  try dsimp only[bJ]
  refine⟨_,rfl,(by show 1<=sizeLine; decide),λl hl=>?_⟩
  have s0:=aE.new (o:=.lst [V.int (f:Int)]) hl
  have Kc:=ay (H:=H) (a:=l) (o:=.lst [V.int (f:Int)])
  generalize upd H l (.lst [V.int (f:Int)])=H0 at s0 Kc
  refine⟨_,rfl,b,_,rfl,.inl (bL.of (s0 _ _ hL)),(rs.length:Int),(by rw[ah,XC]),(by omega),(by omega),uU (n:=((rs.length:Int)).toNat) (λi σ H2=>aE H H2/\H2 l=some (.lst (bO (lB rs os f i)))/\∃ v4 v5 v6 v7:Option V,σ = [some (.ref b),some (.ref lo),some (.int (f:Nat)),some (.ref l),v4,v5,v6,v7]) ⟨s0,Kc,_,_,_,_,rfl⟩ ?_ ?_⟩
  ·rintro i σ H2 hi ⟨s2,hl2,v4,v5,v6,v7,rfl⟩
   refine⟨_,rfl,lo,rfl,⟨_,s2.seq hO⟩,qN (K:=K) (a:=lo) (xs:=bO os) (λj σ H3=>aE H H3/\H3 l=some (.lst (bO ((os.take j).foldl (p5 rs) (lB rs os f i))))/\∃ v5 v6 v7:Option V,σ = [some (.ref b),some (.ref lo),some (.int (f:Nat)),some (.ref l),some (.int (0 + (i:Int))),v5,v6,v7]) ⟨s2,hl2,_,_,_,rfl⟩ (λj σ H3 _ z=>z.1.seq hO) ?_ ?_⟩
   ·rintro j y σ H3 hj ⟨s3,hl3,v5,v6,v7,rfl⟩
    have hjl:j < os.length:=by
     have:=(ai.mp hj).1
     rw[ah] at this
     exact this
    rw[ak,aa hjl] at hj
    cases hj
    have hc:os[j]∈os:=aK hjl
    have I:=xX.fold Fo (xs:=os.take j) (λr h=>List.mem_of_mem_take h) (xX.turn Fo hf i)
    have et:(os.take (j + 1)).foldl (p5 rs) (lB rs os f i)=p5 rs ((os.take j).foldl (p5 rs) (lB rs os f i)) os[j]:=by
     rw[dj hjl,tP]
     rfl
    rw[et]
    generalize (os.take j).foldl (p5 rs) (lB rs os f i)=L at hl3 I
    show gX 5 (V.int ((os[j]:Nat):Int)) _ _ _
    generalize os[j]=kk at hc
    have Nh:=Fo.lt kk hc
    have okk:=Fo.ok _ (aK Nh)
    have hrk:rs[kk]?=some rs[kk]:=aa Nh
    have hp:(us.map V.ref)[kk]?=some (V.ref (us[kk]'(by omega))):=by rw[ak,aa]; rfl
    have WI:=z8.at' kk (us[kk]'(by omega)) (rs[kk]).vs (aa _) (by rw[ak,hrk]; rfl)
    have Le:ED (us.map V.ref) (kk:Int)=some (.ref (us[kk]'(by omega))):=dM hp
    have nw:¬ (HT.jH (rs[kk]).vs.length 0 none=0/\HT.jH (rs[kk]).vs.length (rs[kk]).vs.length (some 2)=(rs[kk]).vs.length):=λz=>absurd z.2 (by show HT.jH 5 5 (some 2)≠5; decide)
    have ct:x9 (rs[kk]).vs none (some 2) = [V.int rs[kk].a,V.int rs[kk].b]:=rfl
    refine⟨_,rfl,_,rfl,iu (bL.of (s3 _ _ hL)) Le ⟨_,rfl,_,_,rfl,s3.b5 WI,nw,λz1 hz1=>?_⟩⟩
    rw[ct]
    have u1:=aE.new (o:=.tup [V.int rs[kk].a,V.int rs[kk].b]) hz1
    refine⟨z1,_,rfl,cN.of ay,rfl,_,_,rfl,_,_,rfl,rfl,?_⟩
    have s4:=s3.trans u1
    have MI:=u1 _ _ hl3
    generalize upd H3 z1 (.tup [V.int rs[kk].a,V.int rs[kk].b])=H4 at s4 MI
    clear u1 hz1 s3 hl3
    have ex:rs[kk].a=((E1 rs kk:Nat):Int):=by have:=okk.a0; unfold E1; rw[hrk]; show rs[kk].a=((rs[kk].a.toNat:Nat):Int); omega
    have ey:rs[kk].b=((Fv rs kk:Nat):Int):=by have:=okk.b0; unfold Fv; rw[hrk]; show rs[kk].b=((rs[kk].b.toNat:Nat):Int); omega
    rw[ex,ey]
    have hlen:=I.len
    have es:p5 rs L kk=if E1 rs kk∈L/\Fv rs kk ∉ L then L++[Fv rs kk] else if Fv rs kk∈L/\E1 rs kk ∉ L then L++[E1 rs kk] else L:=rfl
    rw[es]
    clear es
    generalize E1 rs kk=x
    generalize Fv rs kk=y
    clear ex ey
    generalize eL:(if x∈L/\y ∉ L then L++[y] else if y∈L/\x ∉ L then L++[x] else L)=L'
    have z12:∀ v:Nat,(bO L).length < sizeLine:=λ_=>by rw[ah]; exact b4 (by omega)
    refine⟨_,rfl,_,rfl,l,_,rfl,.inl (bL.of MI),rfl,eF _,_,rfl,?_⟩
    dsimp only
    rw[if_neg aD,gm]
    by_cases qa:x∈L
    ·rw[decide_eq_true qa]
     refine fL ⟨_,rfl,_,rfl,l,_,rfl,.inl (bL.of MI),rfl,eF _,_,rfl,?_⟩
     dsimp only
     rw[if_pos rfl,gm]
     by_cases qb:y∈L
     ·rw[if_neg (λz=>z.2 qb),if_neg (λz=>z.2 qa)] at eL
      subst eL
      rw[decide_eq_true qb]
      refine cP ⟨_,rfl,_,rfl,l,_,rfl,.inl (bL.of MI),rfl,eF _,_,rfl,?_⟩
      dsimp only
      rw[if_neg aD,gm,decide_eq_true qb]
      refine fL ⟨_,rfl,_,rfl,l,_,rfl,.inl (bL.of MI),rfl,eF _,_,rfl,?_⟩
      dsimp only
      rw[if_pos rfl,gm,decide_eq_true qa]
      exact cP ⟨s4,MI,_,_,_,rfl⟩
     ·rw[if_pos ⟨qa,qb⟩] at eL
      subst eL
      rw[decide_eq_false qb]
      exact fL ⟨_,rfl,.inl ⟨rfl,_,bL.of MI⟩,_,rfl,l,_,_,rfl,rfl,MI,z12 0,s4.out hl,by rw[ay,ir],_,_,_,rfl⟩
    ·rw[if_neg (λz=>qa z.1)] at eL
     rw[decide_eq_false qa]
     refine cP ⟨_,rfl,_,rfl,l,_,rfl,.inl (bL.of MI),rfl,eF _,_,rfl,?_⟩
     dsimp only
     rw[if_neg aD,gm]
     by_cases qb:y∈L
     ·rw[if_pos ⟨qb,qa⟩] at eL
      subst eL
      rw[decide_eq_true qb]
      refine fL ⟨_,rfl,_,rfl,l,_,rfl,.inl (bL.of MI),rfl,eF _,_,rfl,?_⟩
      dsimp only
      rw[if_pos rfl,gm,decide_eq_false qa]
      exact fL ⟨_,rfl,.inl ⟨rfl,_,bL.of MI⟩,_,rfl,l,_,_,rfl,rfl,MI,z12 0,s4.out hl,by rw[ay,ir],_,_,_,rfl⟩
     ·rw[if_neg (λz=>qb z.1)] at eL
      subst eL
      rw[decide_eq_false qb]
      exact cP ⟨s4,MI,_,_,_,rfl⟩
   ·rintro σ H3 ⟨s3,hl3,v5,v6,v7,rfl⟩
    rw[show (bO os).length=os.length from ah _,jP] at hl3
    exact⟨s3,hl3,_,_,_,_,rfl⟩
  ·rintro σ H2 ⟨s2,hl2,v4,v5,v6,v7,rfl⟩
   rw[dP] at hl2
   exact⟨_,rfl,k l H2 s2 hl hl2⟩
section
variable{ns:List Int}{rs:List R5}{os:List Nat}{f:Nat}
abbrev WS:=List (Nat × Option Nat) × List (Nat × Nat)
noncomputable def gU(st:WS):cF->WS
 | .oA h r=>(st.1++[(h,some r)],st.2)
 | .send h r _=>(st.1,st.2++[(h,r)])
 | _=>st
def okW(rs:List R5)(os:List Nat)(st:WS):cF->Prop
 | .oA h r=>h ∉ st.1.map (·.1)/\∃ p,(p,r)∈st.2/\r < rs.length/\(E1 rs r:Int) + Fv rs r - h=p
 | .send h r x=>r∈os/\isAt rs (h:Int) r=true/\(h,r) ∉ st.2/\x < dN rs r/\∃ o,(h,o)∈st.1/\o≠some r
 | .hand h _=>h∈st.1.map (·.1)
 | _=>False
def xq(rs:List R5)(os:List Nat):WS->List cF->Prop
 | _,[]=>True
 | st,d :: ds=>okW rs os st d/\xq rs os (gU st d) ds
theorem xq.app:∀ {ds es:List cF} {st:WS},xq rs os st ds->xq rs os (ds.foldl gU st) es->xq rs os st (ds++es)
 | [],_,_,_,h=>h
 | d :: ds,es,st,h1,h2=>⟨h1.1,xq.app (ds:=ds) h1.2 h2⟩
theorem xq.at_:∀ {ds:List cF} {st:WS} {j:Nat} {d:cF},xq rs os st ds->ds[j]?=some d->okW rs os ((ds.take j).foldl gU st) d
 | d :: ds,st,0,d',h,e=>by cases e; exact h.1
 | d :: ds,st,j + 1,d',h,e=>xq.at_ (ds:=ds) (j:=j) h.2 e
theorem RL{st:WS}{d:cF}:(gU st d).1.length<=st.1.length + 1/\(gU st d).2.length<=st.2.length + 1:=by
 cases d <;> simp[gU]
theorem JP:∀ {ds:List cF} {st:WS},(ds.foldl gU st).1.length<=st.1.length + ds.length/\(ds.foldl gU st).2.length<=st.2.length + ds.length
 | [],st=>⟨az _,az _⟩
 | d :: ds,st=>by
  have h1:=RL (st:=st) (d:=d)
  have h2:=JP (ds:=ds) (st:=gU st d)
  rw[lD,aS]
  omega
noncomputable def HE(E:List EE):List (Nat × Option Nat):=E.map λx=>(x.e.h,x.e.by?)
noncomputable def E3(E:List EE):List (Nat × Nat):=E.flatMap λx=>x.gs.map λr=>(x.e.h,r)
theorem Lf{h:Nat}:∀ {cs:List Nat} {st:WS},h∈st.1.map (·.1)->xq rs os st (cs.map (cF.hand h))/\(cs.map (cF.hand h)).foldl gU st=st
 | [],_,_=>⟨trivial,rfl⟩
 | _ :: cs,_,hh=>⟨⟨hh,(Lf (cs:=cs) hh).1⟩,(Lf (cs:=cs) hh).2⟩
theorem Qw{h:Nat}{o:Option Nat}{wf:Nat->Nat}:∀ {gs:List Nat} {st:WS},(h,o)∈st.1->gs.Nodup->(∀ r∈gs,r∈os/\isAt rs (h:Int) r=true/\wf r < dN rs r/\o≠some r/\(h,r) ∉ st.2)->xq rs os st (gs.map λr=>cF.send h r (wf r))/\(gs.map λr=>cF.send h r (wf r)).foldl gU st=(st.1,st.2++gs.map λr=>(h,r))
 | [],st,_,_,_=>⟨trivial,by show st=_; rw[uP,bQ]⟩
 | r :: gs,st,hh,nd,hg=>by
  obtain⟨n1,n2⟩:=dB.mp nd
  obtain⟨h1,h2,h3,h4,h5⟩:=hg r bI
  obtain⟨i1,i2⟩:=Qw (wf:=wf) (gs:=gs) (st:=(st.1,st.2++[(h,r)])) hh n2 λr' hr'=>by
   obtain⟨g1,g2,g3,g4,g5⟩:=hg r' (bh _ hr')
   refine⟨g1,g2,g3,g4,λz=>?_⟩
   rcases aY.mp z with z | z
   ·exact g5 z
   ·have:=congrArg (·.2) (aP.mp z)
    have:r'=r:=this
    exact n1 (this ▸ hr')
  refine⟨⟨⟨h1,h2,h5,h3,o,hh,h4⟩,i1⟩,?_⟩
  show ((gs.map λr=>cF.send h r (wf r)).foldl gU (st.1,st.2++[(h,r)]))=_
  rw[i2,jc]
  rfl
theorem WK(F:Fo ns rs os){hs:Nat->List Nat}{one:Option Nat}{dn:List Nat}{ds:List cF}{Pn:List En}{E:List EE}(w:LJ ns rs os hs one f dn ds Pn E):∀ k,k<=E.length->∀ x0 E0,E.take k=x0 :: E0->(((x0 :: E0).flatMap (EE.sH hs)).drop 1).foldl gU ([(x0.e.h,none)],[])=(HE (x0 :: E0),E3 (x0 :: E0))/\xq rs os ([(x0.e.h,none)],[]) (((x0 :: E0).flatMap (EE.sH hs)).drop 1):=by
 have ndh:(E.map (·.e.h)).Nodup:=by
  have:=w.wj.nd
  rw[aJ,fR,cC] at this
  exact this.1
 have acP:∀ (k:Nat) (x:EE) (c:List (Nat × Option Nat)),E[k]?=some x->(x.e.h,x.e.by?)∈c->xq rs os (c,E3 (E.take k)) ((hs x.e.h).map (cF.hand x.e.h)++x.gs.map λr=>cF.send x.e.h r (x.wf r))/\((hs x.e.h).map (cF.hand x.e.h)++x.gs.map λr=>cF.send x.e.h r (x.wf r)).foldl gU (c,E3 (E.take k))=(c,E3 (E.take k)++x.gs.map λr=>(x.e.h,r)):=λk x c hk hc=>by
  have hx:=aQ hk
  obtain⟨g1,g2⟩:=w.gs x hx
  obtain⟨a1,a2⟩:=Lf (rs:=rs) (os:=os) (h:=x.e.h) (cs:=hs x.e.h) (st:=(c,E3 (E.take k))) (aN.mpr ⟨_,hc,rfl⟩)
  obtain⟨b1,b2⟩:=Qw (rs:=rs) (os:=os) (wf:=x.wf) (gs:=x.gs) (st:=(c,E3 (E.take k))) hc g1 λr hr=>by
   obtain⟨q1,q2,_⟩:=g2 r hr
   obtain⟨q3,q4,q5⟩:=iO.mp q1
   refine⟨q3,q4,q2,λz=>q5 z.symm,λz=>?_⟩
   obtain⟨y,hy,z⟩:=List.mem_flatMap.mp z
   obtain⟨r',_,z⟩:=aN.mp z
   have z:y.e.h=x.e.h:=congrArg (·.1) z
   obtain⟨j,hj⟩:=i9 hy
   have hjl:=(ai.mp hj).1
   rw[bZ] at hjl
   rw[p6 (by omega)] at hj
   have q:(E.map (·.e.h))[j]?=(E.map (·.e.h))[k]?:=by
    rw[ak,ak,hj,hk]
    exact congrArg some z
   have:=(tO (by rw[ah]; omega) ndh).mp q
   omega
  refine⟨xq.app a1 (by rw[a2]; exact b1),?_⟩
  rw[tP,a2,b2]
 intro k
 induction k with
 | zero=>intro _ x0 E0 h; rw[List.take_zero] at h; cases h
 | succ k ih =>
  intro hk x0 E0 he
  have Nh:k < E.length:=by omega
  have hke:E[k]?=some E[k]:=aa Nh
  rw[dj Nh] at he
  cases k with
  | zero =>
   rw[List.take_zero] at he
   have he:[E[0]]=x0 :: E0:=he
   cases he
   have h0:=(w.h0 0 _ hke).mpr rfl
   have hb:(E[0]).e.by?=none:=by unfold En.by?; rw[h0]; rfl
   obtain⟨o1,o2⟩:=acP 0 E[0] [((E[0]).e.h,none)] hke (by rw[hb]; simp)
   rw[List.take_zero] at o1 o2
   have es:([E[0]].flatMap (EE.sH hs)).drop 1=(hs (E[0]).e.h).map (cF.hand (E[0]).e.h)++(E[0]).gs.map λr=>cF.send (E[0]).e.h r ((E[0]).wf r):=by
    rw[tQ,List.flatMap_nil,bQ]
    rfl
   rw[es]
   refine⟨?_,o1⟩
   rw[show ([]:List (Nat × Nat))=E3 [] from rfl,o2]
   show ([((E[0]).e.h,none)],_)=([((E[0]).e.h,(E[0]).e.by?)],_)
   rw[hb]
   unfold E3
   rw[List.flatMap_nil,tQ,List.flatMap_nil,bQ]
   rfl
  | succ k =>
   obtain⟨y0,Y0,ey⟩ : ∃ y0 Y0,E.take (k + 1)=y0 :: Y0:=by
    cases q:E.take (k + 1) with
    | nil =>
     have:=congrArg List.length q
     rw[bZ,List.length_nil] at this
     omega
    | cons a b=>exact⟨a,b,rfl⟩
   obtain⟨i1,i2⟩:=ih (by omega) y0 Y0 ey
   rw[ey] at he
   have he:y0 :: (Y0++[E[k + 1]])=x0 :: E0:=he
   have e1:y0=x0:=(mT he).1
   have e2:=(mT he).2
   subst e1 e2
   generalize ex:E[k + 1]=x at hke
   have hx:=aQ hke
   have hfr:∃ r p,x.e.fr=some (r,p):=by
    cases q:x.e.fr with
    | none=>have:=(w.h0 _ x hke).mp q; omega
    | some v=>exact⟨v.1,v.2,rfl⟩
   obtain⟨r,p,hfr⟩:=hfr
   obtain⟨f1,f2,f3,_,_⟩:=w.wj.fr x.e (bV _ (bP hx)) r p hfr
   obtain⟨j,y,j1,j2,j3,j4⟩:=w.od _ x hke r p hfr
   have hb:x.e.by?=some r:=by unfold En.by?; rw[hfr]; rfl
   have nh:x.e.h ∉ (HE (y0 :: Y0)).map (·.1):=λz=>by
    unfold HE at z
    rw[cC] at z
    obtain⟨y',hy',z⟩:=aN.mp z
    have z:y'.e.h=x.e.h:=z
    rw[<- ey] at hy'
    obtain⟨i,hi⟩:=i9 hy'
    have hil:=(ai.mp hi).1
    rw[bZ] at hil
    rw[p6 (by omega)] at hi
    have q:(E.map (·.e.h))[i]?=(E.map (·.e.h))[k + 1]?:=by
     rw[ak,ak,hi,hke]
     exact congrArg some z
    have:=(tO (by rw[ah]; omega) ndh).mp q
    omega
   have pin:(p,r)∈E3 (y0 :: Y0):=by
    rw[<- ey]
    refine List.mem_flatMap.mpr ⟨y,?_,aN.mpr ⟨r,j4,by rw[j3]⟩⟩
    refine aQ (i:=j) ?_
    rw[p6 j1]
    exact j2
   have VD:(E1 rs r:Int) + Fv rs r - x.e.h=p:=by
    obtain⟨_,_,e3,e4,_,_,e7⟩:=F.ends f1
    rcases e7 p f2 with z | z
    ·rw[z,e3] at f3; omega
    ·rw[z,e4] at f3; omega
   have cw:okW rs os (HE (y0 :: Y0),E3 (y0 :: Y0)) (.oA x.e.h r):=⟨nh,p,pin,F.lt r f1,VD⟩
   obtain⟨o1,o2⟩:=acP (k + 1) x (HE (y0 :: Y0)++[(x.e.h,some r)]) hke (by rw[hb]; simp)
   rw[ey] at o1 o2
   have es:((y0 :: (Y0++[x])).flatMap (EE.sH hs)).drop 1=((y0 :: Y0).flatMap (EE.sH hs)).drop 1++(cF.oA x.e.h r :: ((hs x.e.h).map (cF.hand x.e.h)++x.gs.map λr=>cF.send x.e.h r (x.wf r))):=by
    have:(y0 :: (Y0++[x])).flatMap (EE.sH hs)=(y0 :: Y0).flatMap (EE.sH hs)++EE.sH hs x:=by
     rw[<- List.cons_append,List.flatMap_append,tQ (xs:=[]),List.flatMap_nil,bQ]
    rw[this,List.drop_append_of_le_length (by rw[tQ,aB]; show 1<=(Lc y0.e :: _).length + _; rw[aS]; omega)]
    congr 1
    unfold EE.sH Lc
    rw[hfr]
   rw[es]
   refine⟨?_,xq.app i2 (by rw[i1]; exact⟨cw,o1⟩)⟩
   rw[tP,i1,lD]
   show ((hs x.e.h).map (cF.hand x.e.h)++x.gs.map λr=>cF.send x.e.h r (x.wf r)).foldl gU (HE (y0 :: Y0)++[(x.e.h,some r)],E3 (y0 :: Y0))=_
   rw[o2]
   unfold HE E3
   rw[<- List.cons_append,aJ,List.flatMap_append,<- hb]
   simp
end
noncomputable def HF(C:List (Nat × Option Nat)):List (Key × V):=C.map λp=>(cV (p.1:Int),qW (p.2.map λk:Nat=>(k:Int)))
noncomputable def M5(S:List (Nat × Nat)):List (List Key × V):=S.map λp=>(keyOf p.1 p.2,V.bl true)
theorem HG{h:Nat}:∀ {C:List (Nat × Option Nat)},(tS (HF C) (cV (h:Int))).isSome=decide (h∈C.map (·.1))
 | []=>rfl
 | p :: C=>by
  show (tS ((cV (p.1:Int),_) :: HF C) _).isSome=_
  by_cases e:p.1=h
  ·subst e
   rw[ou rfl]
   simp
  ·rw[ow (λz=>e (by have:=oW z; omega)),HG (C:=C)]
   have e':¬ h=p.1:=λz=>e z.symm
   simp[e']
theorem UM{h:Nat}{o:Option Nat}:∀ {C:List (Nat × Option Nat)},(C.map (·.1)).Nodup->(h,o)∈C->tS (HF C) (cV (h:Int))=some (qW (o.map λk:Nat=>(k:Int)))
 | p :: C,nd,hm=>by
  rw[bg,dB] at nd
  show tS ((cV (p.1:Int),_) :: HF C) _=_
  rcases br.mp hm with e | e
  ·subst e
   rw[ou rfl]
  ·have ne:¬ p.1=h:=λz=>nd.1 (aN.mpr ⟨_,e,z.symm⟩)
   rw[ow (λz=>ne (by have:=oW z; omega))]
   exact UM nd.2 e
theorem Lg{h r:Nat}:∀ {S:List (Nat × Nat)},(tS (M5 S) (keyOf h r)).isSome=decide ((h,r)∈S)
 | []=>rfl
 | p :: S=>by
  show (tS ((keyOf p.1 p.2,_) :: M5 S) _).isSome=_
  by_cases e:p=(h,r)
  ·subst e
   rw[ou rfl]
   simp
  ·rw[ow (λz=>e (by
    have z1:=oW (mT z).1
    have z2:=oW (mT (mT z).2).1
    rw[Prod.ext_iff]
    exact⟨by omega,by omega⟩)),Lg (S:=S)]
   have e':¬ (h,r)=p:=λz=>e z.symm
   simp[e']
theorem none_of{o:Option V}(h:o.isSome=false):o=none:=by cases o with | none=>rfl | some v=>cases h
theorem M6{rs:List R5}{os:List Nat}:∀ {ds:List cF} {st:WS},xq rs os st ds->(st.1.map (·.1)).Nodup->((ds.foldl gU st).1.map (·.1)).Nodup
 | [],_,_,h=>h
 | d :: ds,st,a,h=>by
  refine M6 (ds:=ds) a.2 ?_
  have a1:=a.1
  cases d <;> try exact h
  show (List.map (λp:Nat × Option Nat=>p.1) (st.1++[(_,_)])).Nodup
  rw[aJ,fR]
  refine⟨h,by simp,λx hx y hy=>?_⟩
  rw[aP.mp hy]
  rintro rfl
  exact a1.1 hx
theorem JQ{rs:List R5}{os:List Nat}:∀ {ds:List cF} {st:WS} (j:Nat),xq rs os st ds->xq rs os st (ds.take j)
 | [],st,j,h=>by rw[List.take_nil]; exact h
 | d :: ds,st,0,h=>trivial
 | d :: ds,st,j + 1,h=>⟨h.1,JQ j h.2⟩
inductive M7(K:af)(vs:List V)(H:Hp)(Q:VK)(E:XK):Prop
 | mk (b lo a:Addr) (qs:List Addr) (n:Nat) (rs:List R5) (os:List Nat) (f:Nat) (ds:List cF):vs = [.ref b,.ref lo,.ref a]->HX K H b rs->bL K H lo (bO os)->bL K H a (qs.map V.ref)->cS K H qs ((cF.post f :: ds).map cF.vs)->(∀ r∈rs,r.Ok n)->(∀ r∈os,r < rs.length)->xq rs os ([(f,none)],[]) ds->ds.length<=900000->(ds.foldl gU ([(f,none)],[])).1.length < 64->(∀ l (ms:List Int) H',aE H H'->H l=none->H' l=some (.lst (ms.map V.int))->ms.Perm ((ds.foldl gU ([(f,none)],[])).1.map λp=>(p.1:Int))->ms.Pairwise (·<=·)->Q (.ref l) H')->M7 K vs H Q E
theorem M8{t:Ad}(T:Txt K mg t):cj P w K mg base ig 1 t.rN t.wz ["_law_ropes_here","_law_opened","_law_story"]  (M7 K):=by
 refine T.GI.F.jK k9 λH Q E hr h=>?_
 ·obtain⟨b,lo,a,qs,n,rs,os,f,ds,rfl,⟨us,hL,z8⟩,hO,hA,U8,rok,olt,all,hdl,h64,k⟩:=h
  have XC:us.length=rs.length:=by rw[z8.len,ah]
  have eqs:qs.length=ds.length + 1:=by rw[U8.len,ah]; rfl
  refine⟨_,(ao (sS 3 k9 (Vt (SV (xT (xL (pv 2) aA) aA) gF Vs) rfl rfl (by intro z; cases z) (by show 1<=15; decide))) (ao (sS 4 k9 FO) (ao (fS (fE (oq Pd (pv 2) (nM aA) vJ)) (gT 5 k9) (ao (sS 6 k9 (xT (pv 5) aA)) (bw (bX (qT lH (xT (pv 5) aA) fW) (ao (sS 7 k9 (bf CQ (bf eZ (xT (xL (pv 0) (xT (pv 5) aA)) aA) (xT (xL (pv 0) (xT (pv 5) aA)) aA)) (pv 6))) (ao (bX (PW.pt (uT (CP (NJ (uW hr) (pv 6) (pv 3)) (by with_unfolding_all rfl)) (vH (CP (C1 (uW hr) (fK (mZ (pv 7) (xT (pv 5) aA))) (pv 4)) (by with_unfolding_all rfl))))) (oR gF) aX) (bw (E8 (uW hr) (pv 3) (pv 6) (xT (pv 5) aA) rfl)))) (bw (bX (qT lH (xT (pv 5) aA) fW) (ao (bX (PW.pt (uT (CP (C1 (uW hr) (pv 6) (pv 3)) (by with_unfolding_all rfl)) (uT (fX gH (xT (pv 5) aA) (pv 1) (by with_unfolding_all rfl)) (vH (fX gH (pv 6) (oq CZ (xL (pv 0) (xT (pv 5) aA)) vJ (nM aA)) (by with_unfolding_all rfl)))))) (oR gF) aX) (ao (bX (qT lH (Vq (uW hr) (pv 3) (pv 6) (λ_ _=>rfl)) (xT (pv 5) aA)) (oR gF) aX) (ao (bX (PW.pt (uT (CP (NJ (uW hr) (fK (mZ (pv 6) (xT (pv 5) aA))) (pv 4)) (by with_unfolding_all rfl)) (uT (qT Xc (xT (pv 5) aA) (xT (xL (pv 0) (xT (pv 5) aA)) aA)) (vH (qT p7 (xT (pv 5) aA) aA))))) (oR gF) aX) (bw (E8 (uW hr) (pv 4) (fK (mZ (pv 6) (xT (pv 5) aA))) Lq rfl))))) (bw (bX (PW.pt (uT (qT qO (xT (pv 5) aA) fW) (vH (CP (C1 (uW hr) (pv 6) (pv 3)) (by with_unfolding_all rfl))))) (oR gF) aX)))))))) (oR (cB (Kn rfl) T.yO boot_sorted (gC (pv 3))))))),?_⟩
  try dsimp only[bJ]
  obtain⟨q0,HP,rfl⟩ : ∃ q0 HP,qs=q0 :: HP:=by cases qs with | nil=>cases eqs | cons q qs=>exact⟨q,qs,rfl⟩
  have VT:=U8.at' 0 q0 _ rfl rfl
  have hqt:cS K H HP (ds.map cF.vs):=⟨Nat.succ.inj U8.len,λi q x e1 e2=>U8.at' (i + 1) q x e1 e2⟩
  have eq':HP.length=ds.length:=Nat.succ.inj eqs
  refine bF λNx b9=>?_
  refine λlc hlc=>?_
  have u0:=aE.new (o:=.dK []) hlc
  refine⟨_,rfl,a,_,0,_,rfl,rfl,u0.seq hA,dM (j:=0) rfl,q0,_,1,_,rfl,rfl,u0.b5 VT,rfl,?_⟩
  refine⟨ay,[(cV (f:Int),.fh)],rfl,(by show 1<=15; decide),?_⟩
  have s1:aE H (upd (upd H lc (.dK [])) lc (.dK [(cV (f:Int),.fh)])):=u0.out hlc
  have aae:upd (upd H lc (.dK [])) lc (.dK (yd [] [(cV (f:Int),.fh)])) lc=some (.dK (HF [(f,none)])):=ay
  refine b9 _ _ ?_
  clear b9 Nx u0
  have s1:aE H (upd (upd H lc (.dK [])) lc (.dK (yd [] [(cV (f:Int),.fh)]))):=s1
  generalize upd (upd H lc (.dK [])) lc (.dK (yd [] [(cV (f:Int),.fh)]))=H1 at s1 aae
  refine bF λNx b9=>?_
  refine λls hls=>b9 _ _ ?_
  clear b9 Nx
  have n1:H ls=none:=s1.free hls
  have ncs:lc≠ls:=aR aae hls
  have s2:=s1.trans (aE.new (o:=.dT []) hls)
  have aaf:upd H1 ls (.dT []) ls=some (.dT (M5 [])):=ay
  have aag:upd H1 ls (.dT []) lc=some (.dK (HF [(f,none)])):=by rw[aI ncs]; exact aae
  generalize upd H1 ls (.dT [])=H2 at s2 aaf aag
  refine bF λNx b9=>?_
  refine⟨_,rfl,_,rfl,a,_,rfl,s2.seq hA,λlt hlt=>?_⟩
  have ct:x9 ((q0 :: HP).map V.ref) (some 1) none=HP.map V.ref:=Ga _ 1
  rw[ct]
  have s3:=s2.trans (aE.new (o:=.lst (HP.map V.ref)) hlt)
  have E4:=ay (H:=H2) (a:=lt) (o:=.lst (HP.map V.ref))
  have acQ:=aE.new (o:=.lst (HP.map V.ref)) hlt _ _ aaf
  have acR:=aE.new (o:=.lst (HP.map V.ref)) hlt _ _ aag
  have ntc:lt≠lc:=bT (aR aag hlt)
  have nts:lt≠ls:=bT (aR aaf hlt)
  generalize upd H2 lt (.lst (HP.map V.ref))=H3 at s3 E4 acQ acR
  refine⟨lt,rfl,⟨_,bL.of E4⟩,zN (K:=K) (a:=lt) (xs:=HP.map V.ref) (λj σ H4=>aE H H4/\H4 lt=some (.lst (HP.map V.ref))/\H4 lc=some (.dK (HF ((ds.take j).foldl gU ([(f,none)],[])).1))/\H4 ls=some (.dT (M5 ((ds.take j).foldl gU ([(f,none)],[])).2))/\∃ v5 v6 v7:Option V,σ = [some (.ref b),some (.ref lo),some (.ref a),some (.ref lc),some (.ref ls),v5,v6,v7]) ⟨s3,E4,acR,acQ,_,_,_,rfl⟩ (λj σ H4 _ z=>bL.of z.2.1) ?_ ?_⟩
  ·rintro j y σ H4 Nf zZ hj ⟨s4,Lh,IL,UN,v5,v6,v7,rfl⟩
   have hjq:j < HP.length:=by
    have:=(ai.mp hj).1
    rw[ah] at this
    exact this
   have hjl:j < ds.length:=by omega
   rw[ak,aa hjq] at hj
   cases hj
   have hq:=s4.b5 (hqt.at' j HP[j] (ds[j]).vs (aa hjq) (by rw[ak,aa hjl]; rfl))
   have okd:=all.at_ (aa hjl)
   have ndc:=M6 (JQ j all) (by simp)
   have fl:=JP (ds:=ds.take j) (st:=([(f,none)],[]))
   have ftl:(ds.take j).length<=900000:=by rw[bZ]; omega
   have enx:(ds.take (j + 1)).foldl gU ([(f,none)],[])=gU ((ds.take j).foldl gU ([(f,none)],[])) ds[j]:=by
    rw[dj hjl,tP]
    rfl
   rw[enx] at zZ
   clear enx
   have fl1:((ds.take j).foldl gU ([(f,none)],[])).1.length<=900001:=aO fl.1 (by show 1 + _<=_; omega)
   have fl2:((ds.take j).foldl gU ([(f,none)],[])).2.length<=900001:=aO fl.2 (by show 0 + _<=_; omega)
   generalize (ds.take j).foldl gU ([(f,none)],[])=W at IL UN okd ndc fl1 fl2 zZ
   generalize ds[j]=d at hq okd zZ
   generalize HP[j]=q at hq
   clear fl ftl hjl hjq
   cases d with
   | post h=>exact okd.elim
   | twice h r=>exact okd.elim
   | Ri h r=>exact okd.elim
   | hand h c =>
    have hq:cN K H4 q [.str "hand",.int h,.int c]:=hq
    have okd:h∈W.1.map (·.1):=okd
    refine⟨_,rfl,c8 hq rfl ?_⟩
    refine⟨_,rfl,q,_,0,_,rfl,rfl,hq,rfl,rfl,_,rfl,?_⟩
    rw[show decide (V.str "hand" = V.str (Str.ofString "come"))=false from by decide +kernel]
    refine cP ⟨_,rfl,q,_,0,_,rfl,rfl,hq,rfl,rfl,_,rfl,?_⟩
    rw[show decide (V.str "hand" = V.str (Str.ofString "send"))=false from by decide +kernel]
    refine cP ⟨_,rfl,q,_,0,_,rfl,rfl,hq,rfl,rfl,_,rfl,?_⟩
    rw[show decide (V.str "hand" = V.str (Str.ofString "hand"))=true from by decide +kernel]
    refine cP ⟨_,rfl,_,rfl,lc,_,rfl,tT.k (k:=.inl (h:Int)) IL,_,rfl,?_⟩
    rw[HG,decide_eq_true okd]
    exact cP (zZ _ _ ⟨s4,Lh,IL,UN,_,_,_,rfl⟩)
   | oA h r =>
    have hq:cN K H4 q [.str "come",.int h,.int r]:=hq
    obtain⟨nh,p,pin,hrl,VD⟩:=okd
    have okr:=rok _ (aK hrl)
    have hrk:rs[r]?=some rs[r]:=aa hrl
    have Le:ED (us.map V.ref) (r:Int)=some (.ref (us[r]'(by omega))):=dM (by rw[ak,aa]; rfl)
    have WI:cN K H4 (us[r]'(by omega)) (rs[r]).vs:=s4.b5 (z8.at' r (us[r]'(by omega)) (rs[r]).vs (aa _) (by rw[ak,hrk]; rfl))
    generalize us[r]'(by omega)=pt at Le WI
    have afS:rs[r].a + rs[r].b - (h:Int)=(p:Int):=by
     have h1:=okr.a0; have h2:=okr.b0
     unfold E1 Fv at VD
     rw[hrk] at VD
     have VD:((rs[r].a.toNat:Nat):Int) + ((rs[r].b.toNat:Nat):Int) - h=p:=VD
     omega
    have hL4:bL K H4 b (us.map V.ref):=bL.of (s4 _ _ hL)
    refine⟨_,rfl,c8 hq rfl ?_⟩
    refine⟨_,rfl,q,_,0,_,rfl,rfl,hq,rfl,rfl,_,rfl,?_⟩
    rw[show decide (V.str "come" = V.str (Str.ofString "come"))=true from by decide +kernel]
    refine fL ⟨_,rfl,_,rfl,c8 hq rfl (iu hL4 Le (c8 WI rfl ⟨_,rfl,_,rfl,c8 hq rfl (iu hL4 Le (c8 WI rfl ⟨_,_,rfl,rfl,_,rfl,_,_,rfl,rfl,?_⟩))⟩))⟩
    show gX 7 (V.int (rs[r].a + rs[r].b - (h:Int))) _ _ _
    rw[afS]
    refine⟨_,rfl,_,rfl,lc,_,rfl,tT.k (k:=.inl (h:Int)) IL,_,rfl,?_⟩
    rw[HG,decide_eq_false nh]
    refine cP ⟨_,rfl,_,rfl,c8 hq rfl ⟨(by show 2<=sizeLine; decide),λz hz=>?_⟩⟩
    have u5:=aE.new (o:=.tup [V.int (p:Int),V.int (r:Int)]) hz
    have hz5:=ay (H:=H4) (a:=z) (o:=.tup [V.int (p:Int),V.int (r:Int)])
    generalize upd H4 z (.tup [V.int (p:Int),V.int (r:Int)])=H5 at u5 hz5
    have s5:=s4.trans u5
    have WL:=u5 _ _ UN
    have WM:=u5 _ _ IL
    have RN:=u5 _ _ Lh
    refine⟨_,rfl,ls,_,rfl,tT.t (k:=keyOf p r) WL hz5,_,rfl,?_⟩
    rw[Lg,decide_eq_true pin]
    refine cP ⟨_,rfl,c8 (u5.b5 hq) rfl ⟨_,rfl,_,rfl,lc,_,rfl,HV.k (k:=.inl (h:Int)) WM (cz (by unfold HF; rw[ah]; exact fl1) (by show 900001 < 2 ^ 24; decide)),zZ _ _ ⟨s5.out hlc,by rw[aI ntc]; exact RN,?_,by rw[aI (bT ncs)]; exact WL,_,_,_,rfl⟩⟩⟩
    rw[ay,LB _ (none_of (by rw[HG]; exact decide_eq_false nh))]
    show _=some (HO.dK (HF (W.1++[(h,some r)])))
    unfold HF
    rw[aJ]
    rfl
   | send h r x =>
    have hq:cN K H4 q [.str "send",.int h,.int r,.int x]:=hq
    obtain⟨hro,hat,nsn,hxd,o,hmo,hno⟩:=okd
    have hrl:=olt r hro
    have okr:=rok _ (aK hrl)
    have hrk:rs[r]?=some rs[r]:=aa hrl
    have Le:ED (us.map V.ref) (r:Int)=some (.ref (us[r]'(by omega))):=dM (by rw[ak,aa]; rfl)
    have WI:cN K H4 (us[r]'(by omega)) (rs[r]).vs:=s4.b5 (z8.at' r (us[r]'(by omega)) (rs[r]).vs (aa _) (by rw[ak,hrk]; rfl))
    generalize us[r]'(by omega)=pt at Le WI
    have hL4:bL K H4 b (us.map V.ref):=bL.of (s4 _ _ hL)
    refine⟨_,rfl,c8 hq rfl ?_⟩
    refine⟨_,rfl,q,_,0,_,rfl,rfl,hq,rfl,rfl,_,rfl,?_⟩
    rw[show decide (V.str "send" = V.str (Str.ofString "come"))=false from by decide +kernel]
    refine cP ⟨_,rfl,q,_,0,_,rfl,rfl,hq,rfl,rfl,_,rfl,?_⟩
    rw[show decide (V.str "send" = V.str (Str.ofString "send"))=true from by decide +kernel]
    refine fL ⟨_,rfl,_,rfl,lc,_,rfl,tT.k (k:=.inl (h:Int)) IL,_,rfl,?_⟩
    rw[HG,decide_eq_true (aN.mpr ⟨_,hmo,rfl⟩)]
    refine cP ⟨_,rfl,c8 hq rfl ⟨_,rfl,lo,_,rfl,.inl (s4.seq hO),rfl,eF _,_,rfl,?_⟩⟩
    dsimp only
    rw[if_pos rfl,gm,decide_eq_true hro]
    have nw:¬ (HT.jH (rs[r]).vs.length 0 none=0/\HT.jH (rs[r]).vs.length (rs[r]).vs.length (some 2)=(rs[r]).vs.length):=λz=>absurd z.2 (by show HT.jH 5 5 (some 2)≠5; decide)
    have ct2:x9 (rs[r]).vs none (some 2) = [V.int rs[r].a,V.int rs[r].b]:=rfl
    refine cP ⟨_,rfl,_,rfl,_,rfl,c8 hq rfl (iu hL4 Le ⟨_,rfl,pt,_,rfl,WI,nw,λz1 hz1=>?_⟩)⟩
    rw[ct2]
    have u5:=aE.new (o:=.tup [V.int rs[r].a,V.int rs[r].b]) hz1
    have hz5:=ay (H:=H4) (a:=z1) (o:=.tup [V.int rs[r].a,V.int rs[r].b])
    generalize upd H4 z1 (.tup [V.int rs[r].a,V.int rs[r].b])=H5 at u5 hz5
    have hin:D4 (V.int (h:Int)) [V.int rs[r].a,V.int rs[r].b]=true:=by
     rw[show [V.int rs[r].a,V.int rs[r].b] = [rs[r].a,rs[r].b].map V.int from rfl,qR]
     unfold isAt at hat
     rw[hrk] at hat
     have hat:(decide ((h:Int)=rs[r].a) || decide ((h:Int)=rs[r].b))=true:=hat
     rw[lE,decide_eq_true_iff,decide_eq_true_iff] at hat
     simpa using hat
    refine⟨z1,_,rfl,.inr (cN.of hz5),rfl,rfl,_,rfl,?_⟩
    dsimp only
    rw[if_pos rfl,hin]
    refine cP ?_
    have s5:=s4.trans u5
    have WL:=u5 _ _ UN
    have WM:=u5 _ _ IL
    have RN:=u5 _ _ Lh
    have Z8:=u5.b5 hq
    have afT:=u5.b5 WI
    have hL5:=u5.seq hL4
    have g5:=tT.k (k:=.inl (h:Int)) WM
    rw[UM ndc hmo] at g5
    refine⟨_,rfl,_,rfl,lc,_,rfl,g5,_,rfl,c8 Z8 rfl ⟨?_,_,rfl,?_⟩⟩
    ·cases o <;> rfl
    have ne:decide (qW (o.map λk:Nat=>(k:Int))=V.int (r:Int))=false:=decide_eq_false λz=>by
     cases o with
     | none=>cases z
     | some v =>
      have z:V.int (v:Int)=V.int (r:Int):=z
      have:=V.int.inj z
      exact hno (by rw[show v=r by omega])
    rw[ne]
    refine cP ⟨_,rfl,_,rfl,c8 Z8 rfl ⟨(by show 2<=sizeLine; decide),λz hz=>?_⟩⟩
    have u6:=aE.new (o:=.tup [V.int (h:Int),V.int (r:Int)]) hz
    have hz6:=ay (H:=H5) (a:=z) (o:=.tup [V.int (h:Int),V.int (r:Int)])
    generalize upd H5 z (.tup [V.int (h:Int),V.int (r:Int)])=H6 at u6 hz6
    have s6:=s5.trans u6
    have acU:=u6 _ _ WL
    have afU:=u6 _ _ WM
    have UO:=u6 _ _ RN
    have hq6:=u6.b5 Z8
    refine⟨_,rfl,ls,_,rfl,tT.t (k:=keyOf h r) acU hz6,_,rfl,?_⟩
    rw[Lg,decide_eq_false nsn]
    refine cP ⟨_,rfl,c8 hq6 rfl ⟨_,rfl,_,rfl,c8 hq6 rfl (iu (u6.seq hL5) Le (c8 (u6.b5 afT) rfl ⟨_,_,rfl,rfl,_,rfl,?_⟩))⟩⟩
    have hd:(x:Int) < rs[r].d:=by
     have:=okr.d1
     unfold dN at hxd
     rw[hrk] at hxd
     have hxd:x < rs[r].d.toNat:=hxd
     omega
    rw[decide_eq_false (show ¬ rs[r].d<=(x:Int) by omega)]
    refine cP ⟨_,rfl,c8 hq6 rfl ⟨_,_,rfl,rfl,_,rfl,?_⟩⟩
    rw[decide_eq_false (show ¬ (x:Int) < 0 by omega)]
    refine cP ?_
    refine⟨_,rfl,_,rfl,_,rfl,c8 hq6 rfl ⟨(by show 2<=sizeLine; decide),λz7 hz7=>?_⟩⟩
    have u7:=aE.new (o:=.tup [V.int (h:Int),V.int (r:Int)]) hz7
    have acV:=ay (H:=H6) (a:=z7) (o:=.tup [V.int (h:Int),V.int (r:Int)])
    generalize upd H6 z7 (.tup [V.int (h:Int),V.int (r:Int)])=H7 at u7 acV
    refine⟨ls,_,rfl,HV.t (k:=keyOf h r) (kvs:=M5 W.2) (u7 _ _ acU) acV (cz (by unfold M5; rw[ah]; exact fl2) (by show 900001 < 2 ^ 24; decide)),zZ _ _ ⟨(s6.trans u7).out n1,by rw[aI nts]; exact u7 _ _ UO,by rw[aI ncs]; exact u7 _ _ afU,?_,_,_,_,rfl⟩⟩
    rw[ay,LB _ (none_of (by rw[Lg]; exact decide_eq_false nsn))]
    show _=some (HO.dT (M5 (W.2++[(h,r)])))
    unfold M5
    rw[aJ]
    rfl
  rintro σ H4 ⟨s4,Lh,IL,UN,v5,v6,v7,rfl⟩
  refine b9 _ _ ?_
  clear b9 Nx
  rw[ah,eq',jP] at IL
  refine⟨_,rfl,lc,_,((ds.foldl gU ([(f,none)],[])).1.map λp=>(p.1:Int)),rfl,IL,?_,by rw[ah]; exact h64,λl ms hl p1 p2=>k l ms _ (s4.trans (aE.new hl)) (s4.free hl) ay p1 p2⟩
  unfold HF
  rw[cC,cC]
  rfl
end
section
variable{ns:List Int}{rs:List R5}{os:List Nat}{aH groups:List Nat}{x f:Nat}{E:List EE}
noncomputable def Li:cF->Option T2
 | .hand h c=>some ((h:Int),(c:Int))
 | _=>none
noncomputable def xr(hs:Nat->List Nat)(E:List EE):List T2:=E.flatMap λy=>(hs y.e.h).map λc:Nat=>((y.e.h:Int),(c:Int))
theorem M9{hs:Nat->List Nat}:(E.flatMap (EE.sH hs)).filterMap Li=xr hs E:=by
 unfold xr
 rw[List.filterMap_flatMap]
 congr 1
 funext y
 unfold EE.sH
 have h0:Li (Lc y.e)=none:=by unfold Lc; split <;> rfl
 rw[List.filterMap_cons_none h0,uQ]
 have h1:((hs y.e.h).map (cF.hand y.e.h)).filterMap Li=(hs y.e.h).map λc:Nat=>((y.e.h:Int),(c:Int)):=by
  rw[List.filterMap_map]
  have:(Li ∘ cF.hand y.e.h)=some ∘ λc:Nat=>((y.e.h:Int),(c:Int)):=rfl
  rw[this,List.filterMap_eq_map]
 have h2:(y.gs.map λr=>cF.send y.e.h r (y.wf r)).filterMap Li = []:=by
  rw[List.filterMap_map]
  exact List.filterMap_eq_nil_iff.mpr λr _=>rfl
 rw[h1,h2,bQ]
theorem Fw{to:Option Nat}{h c:Nat}:c∈HR aH groups x to h↔aH[c]?=some h/\groups[c]?=groups[x]?/\match to with | none=>c≠x | some y=>c=y:=by
 unfold HR
 rw[bM,bE,cu,decide_eq_true_iff]
 cases to with
 | none =>
  show c < aH.length/\(_/\_)/\(!decide (c=x))=true↔_
  rw[tR,decide_eq_false_iff_not]
  exact⟨λz=>⟨z.2.1.1,z.2.1.2,z.2.2⟩,λz=>⟨(ai.mp z.1).1,⟨z.1,z.2.1⟩,z.2.2⟩⟩
 | some y =>
  show c < aH.length/\(_/\_)/\decide (c=y)=true↔_
  rw[decide_eq_true_iff]
  exact⟨λz=>⟨z.2.1.1,z.2.1.2,z.2.2⟩,λz=>⟨(ai.mp z.1).1,⟨z.1,z.2.1⟩,z.2.2⟩⟩
theorem HH{to:Option Nat}{p:T2}:p∈xr (HR aH groups x to) E↔∃ h c:Nat,p=((h:Int),(c:Int))/\h∈E.map (·.e.h)/\c∈HR aH groups x to h:=by
 unfold xr
 rw[List.mem_flatMap]
 constructor
 ·rintro⟨y,hy,hp⟩
  obtain⟨c,hc,rfl⟩:=aN.mp hp
  exact⟨y.e.h,c,rfl,bP hy,hc⟩
 ·rintro⟨h,c,rfl,hh,hc⟩
  obtain⟨y,hy,rfl⟩:=aN.mp hh
  exact⟨y,hy,aN.mpr ⟨c,hc,rfl⟩⟩
theorem JR{to:Option Nat}(nd:(E.map (·.e.h)).Nodup):(xr (HR aH groups x to) E).Nodup:=by
 refine List.pairwise_flatMap.mpr ⟨λy _=>?_,?_⟩
 ·refine tN.mpr (List.Pairwise.imp_of_mem ?_ (qL (l₁:=HR aH groups x to y.e.h) oZ List.nodup_range))
  intro a b _ _ ne z
  exact ne (by have:=congrArg (·.2) z; simp at this; omega)
 ·refine List.Pairwise.imp ?_ (tN.mp nd)
  intro a b ne p hp q hq z
  obtain⟨c,_,rfl⟩:=aN.mp hp
  obtain⟨d,_,rfl⟩:=aN.mp hq
  exact ne (by have:=congrArg (·.1) z; simp at this; omega)
theorem HJ{ts:List T2}(h:Ff ts):ts.Pairwise λx y=>C8 y x=false:=List.pairwise_iff_getElem.mpr λi j hi hj hij=>h i j _ _ hij (aa hi) (aa hj)
theorem Lj{xs ys:List T2}(h1:Ff xs)(h2:Ff ys)(p:xs.Perm ys):xs=ys:=by
 refine p.eq_of_pairwise (λa b _ _ z1 z2=>?_) (HJ h1) (HJ h2)
 have z1:¬ C8 b a=true:=by rw[z1]; exact aD
 have z2:¬ C8 a b=true:=by rw[z2]; exact aD
 rw[zP] at z1 z2
 exact Prod.ext_iff.mpr ⟨by omega,by omega⟩
theorem RO{y z:Nat}(nd:(E.map (·.e.h)).Nodup)(hy:aH[y]?=some z)(hg:groups[y]?=groups[x]?):(xr (HR aH groups x (some y)) E).Perm (if z∈E.map (·.e.h) then [((z:Int),(y:Int))] else []):=by
 refine (List.perm_ext_iff_of_nodup (JR nd) (by split <;> simp)).mpr λp=>?_
 rw[HH]
 constructor
 ·rintro⟨h,c,rfl,hh,hc⟩
  obtain⟨c1,_,c3⟩:=Fw.mp hc
  have c3:c=y:=c3
  subst c3
  rw[hy] at c1
  cases c1
  rw[if_pos hh]
  simp
 ·intro hp
  split at hp
  ·rename_i hz
   rw[aP.mp hp]
   exact⟨z,y,rfl,hz,Fw.mpr ⟨hy,hg,rfl⟩⟩
  ·cases hp
noncomputable def zH(aH groups:List Nat)(x:Nat)(L:List Nat)(k:Nat):List T2:=(au k).filterMap λc:Nat=>if c≠x/\groups[c]?=groups[x]?/\aH.getD c 0∈L then some ((aH.getD c 0:Int),(c:Int)) else none
theorem RP{L:List Nat}(nd:(E.map (·.e.h)).Nodup)(hL:∀ z,z∈L↔z∈E.map (·.e.h)):(xr (HR aH groups x none) E).Perm (zH aH groups x L aH.length):=by
 have m:∀ p,p∈zH aH groups x L aH.length↔∃ c:Nat,c < aH.length/\(c≠x/\groups[c]?=groups[x]?/\aH.getD c 0∈L)/\p=((aH.getD c 0:Int),(c:Int)):=λp=>by
  unfold zH
  rw[qJ]
  constructor
  ·rintro⟨c,hc,e⟩
   split at e
   ·rename_i q
    exact⟨c,bE.mp hc,q,(aL e).symm⟩
   ·cases e
  ·rintro⟨c,hc,q,rfl⟩
   exact⟨c,bE.mpr hc,if_pos q⟩
 refine (List.perm_ext_iff_of_nodup (JR nd) ?_).mpr λp=>?_
 ·refine List.pairwise_filterMap.mpr (List.Pairwise.imp ?_ List.nodup_range)
  intro a b ne p hp q hq z
  split at hp
  ·split at hq
   ·cases hp
    cases hq
    exact ne (by have:=congrArg (·.2) z; simp at this; omega)
   ·cases hq
  ·cases hp
 ·rw[HH,m]
  constructor
  ·rintro⟨h,c,rfl,hh,hc⟩
   obtain⟨c1,c2,c3⟩:=Fw.mp hc
   have e:aH.getD c 0=h:=by rw[av,c1]; rfl
   exact⟨c,(ai.mp c1).1,⟨c3,c2,by rw[e]; exact (hL h).mpr hh⟩,by rw[e]⟩
  ·rintro⟨c,hc,⟨c1,c2,c3⟩,rfl⟩
   refine⟨aH.getD c 0,c,rfl,(hL _).mp c3,Fw.mpr ⟨?_,c2,c1⟩⟩
   rw[av,aa hc]
   rfl
end
section
variable{P:Program}{w:World}{K:af}{mg:Str->Option Value}{base:Heap}
noncomputable def dD(d:cF):PyData:=.tuple (.str (dW d) :: (dI d).map .int)
theorem JS{H:Hp}:∀ {qs:List Addr} {ds:List cF},cS K H qs (ds.map cF.vs)->cQ K H (ds.map dD) (qs.map V.ref)
 | [],[],_=>rfl
 | [],_ :: _,h=>by cases h.len
 | _ :: _,[],h=>by cases h.len
 | q :: qs,d :: ds,h=>⟨.ref q,qs.map V.ref,rfl,⟨q,V.str (dW d) :: (dI d).map V.int,rfl,by rw[<- Lb]; exact h.at' 0 q _ rfl rfl,⟨_,_,rfl,rfl,jl _⟩⟩,JS ⟨Nat.succ.inj h.len,λi p x a b=>h.at' (i + 1) p x a b⟩⟩
theorem WN(d:cF):PyData.strOk (dW d)=true:=by
 cases d
 ·exact (by decide +kernel:PyData.strOk "post" = true)
 ·exact (by decide +kernel:PyData.strOk "come" = true)
 ·exact (by decide +kernel:PyData.strOk "hand" = true)
 ·exact (by decide +kernel:PyData.strOk "send" = true)
 ·exact (by decide +kernel:PyData.strOk "twice" = true)
 ·exact (by decide +kernel:PyData.strOk "lost" = true)
theorem JT:∀ ds:List cF,PyData.canLayAll0 (ds.map dD)=true
 | []=>rfl
 | d :: ds=>by
  show ((PyData.strOk (dW d) && PyData.canLayAll0 ((dI d).map .int)) && PyData.canLayAll0 (ds.map dD))=true
  rw[JT ds,jS,WN]; rfl
theorem HK:∀ ds:List cF,PyData.depthAll (ds.map dD)<=1
 | []=>by decide
 | d :: ds=>by
  show max (max 0 (PyData.depthAll ((dI d).map .int)) + 1) (PyData.depthAll (ds.map dD))<=1
  have:=HK ds
  have:=qI (dI d)
  omega
noncomputable def HL(x:List Int):PyData:=.tuple (x.map .int)
theorem zI{H:Hp}:∀ {qs:List Addr} {xs:List (List Int)},cS K H qs (xs.map λx=>x.map V.int)->cQ K H (xs.map HL) (qs.map V.ref)
 | [],[],_=>rfl
 | [],_ :: _,h=>by cases h.len
 | _ :: _,[],h=>by cases h.len
 | q :: qs,x :: xs,h=>⟨.ref q,qs.map V.ref,rfl,Rep.Pk (ns:=x) (h.at' 0 q _ rfl rfl),zI ⟨Nat.succ.inj h.len,λi p y a b=>h.at' (i + 1) p y a b⟩⟩
theorem sI:∀ xs:List (List Int),PyData.canLayAll0 (xs.map HL)=true
 | []=>rfl
 | x :: xs=>by
  show (PyData.canLayAll0 (x.map .int) && PyData.canLayAll0 (xs.map HL))=true
  rw[sI xs,jS]; rfl
theorem DW:∀ xs:List (List Int),PyData.depthAll (xs.map HL)<=1
 | []=>by decide
 | x :: xs=>by
  show max (PyData.depthAll (x.map .int) + 1) (PyData.depthAll (xs.map HL))<=1
  have:=DW xs
  have:=qI x
  omega
theorem WO{ds:List PyData}:(PyData.list ds).eqv (.list [])=ds.isEmpty:=by cases ds <;> rfl
theorem RQ{a b u:Nat}(h:a<=64)(hu:u + 64 < cLine):u + min a b < cLine:=cz (gV (aO (Nat.min_le_left _ _) h) _) hu
noncomputable def pr(p:T2):List Int:=[p.1,p.2]
theorem Lk{H:Hp}{qs:List Addr}{ts:List T2}(h:fM K H qs ts):cS K H qs ((ts.map pr).map λx=>x.map V.int):=by
 refine⟨by rw[h.1,ah,ah],λi q x e1 e2=>?_⟩
 rw[ak,ak] at e2
 cases e:ts[i]? with
 | none=>rw[e] at e2; cases e2
 | some p =>
  rw[e] at e2
  cases e2
  exact h.2 i q p e1 e
theorem WQ(d:cF):decide (V.str (dW d)=V.str "hand")=(Li d).isSome:=by
 cases d
 ·exact (by decide +kernel:decide (V.str "post" = V.str "hand")=false)
 ·exact (by decide +kernel:decide (V.str "come" = V.str "hand")=false)
 ·exact (by decide +kernel:decide (V.str "hand" = V.str "hand")=true)
 ·exact (by decide +kernel:decide (V.str "send" = V.str "hand")=false)
 ·exact (by decide +kernel:decide (V.str "twice" = V.str "hand")=false)
 ·exact (by decide +kernel:decide (V.str "lost" = V.str "hand")=false)
theorem WR{α β:Type}{f:α->Option β}{xs:List α}{i:Nat}(h:i < xs.length):(xs.take (i + 1)).filterMap f=(xs.take i).filterMap f++(f xs[i]).toList:=by
 rw[dj h,uQ]
 congr 1
theorem fM.snoc{H:Hp}{qs:List Addr}{ts:List T2}{q:Addr}{p:T2}(h:fM K H qs ts)(hq:cN K H q (t2V p)):fM K H (qs++[q]) (ts++[p]):=by
 refine⟨by rw[aB,aB,h.1]; rfl,λi q' p' e1 e2=>?_⟩
 by_cases z:i < qs.length
 ·rw[bB z] at e1
  rw[bB (by rw[<- h.1]; exact z)] at e2
  exact h.2 i q' p' e1 e2
 ·have hi:=(ai.mp e1).1
  rw[aB] at hi
  have ei:i=qs.length:=by simp at hi; omega
  subst ei
  rw[bD (az _),dX] at e1
  rw[h.1,bD (az _),dX] at e2
  cases e1
  cases e2
  exact hq
theorem fM.keep{H H':Hp}{qs:List Addr}{ts:List T2}(h:fM K H qs ts)(kt:∀ b x,cN K H b x->cN K H' b x):fM K H' qs ts:=⟨h.1,λi q p a b=>kt _ _ (h.2 i q p a b)⟩
inductive Qx(K:af)(vs:List V)(H:Hp)(Q:VK)(E:XK):Prop
 | mk (b lo cb a:Addr) (UP qs:List Addr) (ns:List Int) (rs:List R5) (os:List Nat) (cl:List (Nat × Nat)) (x:Nat) (to:Option Nat) (dn:List Nat) (ds:List cF) (Es:List EE):vs = [.ref b,.ref lo,.ref cb,.int x,qW (to.map λy:Nat=>(y:Int)),.ref a]->HX K H b rs->bL K H lo (bO os)->bL K H cb (UP.map V.ref)->cS K H UP (cl.map λc=>[.int c.1,.int c.2])->bL K H a (qs.map V.ref)->cS K H qs (ds.map cF.vs)->Fo ns rs os->ns.length<=10->rs.length<=20->ns.length<=rs.length + 1->cl.length<=20->x < cl.length->(∀ c∈cl,c.1 < ns.length)->(∀ y,to=some y->y < cl.length/\(cl.map (·.2))[y]?=(cl.map (·.2))[x]?)->ds.length<=800000->LJ ns rs os (HR (cl.map (·.1)) (cl.map (·.2)) x to) (to.map λy=>(cl.map (·.1)).getD y 0) ((cl.map (·.1)).getD x 0) dn ds [] Es->Es≠[]->(∀ H',aE H H'->Q (.bl true) H')->Qx K vs H Q E
theorem OT{t:Ad}(T:Txt K mg t):cj P w K mg base ig 3 t.vm t.zW ["_law_ropes_here","_law_opened","_law_callers_here","_law_sender","_law_to","_law_story"]  (Qx K):=by
 refine T.Jr.F.jK fN λH Q E hr h=>?_
 ·obtain⟨b,lo,cb,a,UP,qs,ns,rs,os,cl,x,to,dn,ds,Es,rfl,hB,hO,hC,Uz,hA,U8,F,hn,hm,hnm,AI,hx,hc1,hto,hdl,J,ne,k⟩:=h
  refine⟨_,(ao (J1 (xL (pv 2) (pv 3)) (J0 (n:=2) rfl (om (gT 6 fN) (om (gT 7 fN) E5)))) (ao (bX (PW.pt (uT (gW (qM (cG (EZ T) hr T.yM (gC (pv 5))))) (uT (qT AS (pv 5) (ji gY)) (vH (qT NQ (xL (pv 5) aA) (fK (mZ fW (pv 6)))))))) oB aX) (ao (sS 8 fN (cG (M8 T) hr T.GI (Kh (pv 0) (pv 1) (pv 5)))) (ao (sS 9 fN (cG (UL T) hr T.PK (Kh (pv 0) (pv 1) (pv 6)))) (ao (bX (PW.pt (uT (qT Np (pv 8) gF) (vH (gW (qM (cB (LH rfl) T.Xx boot_all (gC (gA (kO fN ["_law_house","_law_led_here"] [none,some 9]) rfl (fE (pv 8)) (λ_ _ _ _=>by exact (gS 0 Ih)) (λ_ _ _ _=>by exact lJ) (λ_ _ _ _=>by exact (O0 (vL K rfl) (pv 0) (pv 1) (by with_unfolding_all rfl))))))))))) oB aX) (ao (sS 10 fN (cB BW T.yO boot_sorted (gC (gA (kO fN ["_law_row"] [none]) rfl (fE (pv 5)) (λ_ _ _ _=>by exact (gS 0 Ii)) (λ_ _ _ _=>by exact (nN (qT lH (yT K (pv 0) aA) fW))) (λ_ _ _ _=>by exact (oq (Vx K rfl) (pv 0) (nM aA) vJ)))))) (ao (bX (qT E6 (pv 4) gF) (ao (sS 11 fN (ji (gC (fK (mZ (xT (xL (pv 2) (pv 4)) aA) (pv 4)))))) (oR (qE AS (pv 10) (gA (kO fN ["_law_pair","_law_led_here"] [none,some 9]) rfl (fE (pv 11)) (λ_ _ _ _=>by exact (gS 0 Ij)) (λ_ _ _ _=>by exact (nN (fX (vL K rfl) (yT K (pv 0) aA) (pv 1) (by with_unfolding_all rfl)))) (λ_ _ _ _=>by exact (pv 0)))))) aX) (ao (sS 11 fN (ji gY)) (ao (fS (eu rfl T.gK (gC (lS T.gf (pv 2)))) (gT 12 fN) (bw (bX (PW.pt (AN (qT qO (pv 12) (pv 3)) (AN (qT lH (xT (xL (pv 2) (pv 12)) aA) (pv 7)) (zJ (fX k6 (xT (xL (pv 2) (pv 12)) aA) (pv 9) (by with_unfolding_all rfl)))))) (oE (p9 bq bz bx eB (pv 11) (gC (fK (mZ (xT (xL (pv 2) (pv 12)) aA) (pv 12)))))) aX))) (oR (JZ (qE AS (pv 8) (cB yk T.yO boot_sorted (gC (pv 9)))) (Nj (qE AS (pv 10) (cB BW T.yO boot_sorted (gC (pv 11)))))))))))))))),?_⟩
  try dsimp only[bJ]
  have ecq:UP.length=cl.length:=by rw[Uz.len,ah]
  have eqd:qs.length=ds.length:=by rw[U8.len,ah]
  have UQ:∀ (i:Nat) (hi:i < cl.length),ED (UP.map V.ref) (i:Int)=some (.ref (UP[i]'(by omega)))/\cN K H (UP[i]'(by omega)) [.int (cl[i].1:Int),.int (cl[i].2:Int)]:=λi hi=>⟨dM (by rw[ak,aa (by omega)]; rfl),Uz.at' i _ _ (aa _) (by rw[ak,aa hi]; rfl)⟩
  have UR:∀ (i:Nat) (hi:i < cl.length),(cl.map (·.1)).getD i 0=cl[i].1:=λi hi=>by rw[av,ak,aa hi]; rfl
  have hfn:cl[x].1 < ns.length:=hc1 _ (aK hx)
  rw[UR x hx] at J
  obtain⟨x0,E0,eE⟩ : ∃ x0 E0,Es=x0 :: E0:=by cases Es with | nil=>exact absurd rfl ne | cons x0 E0=>exact⟨x0,E0,rfl⟩
  obtain⟨w1,w2⟩:=WK F J Es.length (az _) x0 E0 (by rw[jP]; exact eE)
  have x0n:x0.e.fr=none:=(J.h0 0 x0 (by rw[eE]; rfl)).mpr rfl
  have x0h:x0.e.h=cl[x].1:=J.wj.f0 x0.e (bV _ (by rw[eE]; simp)) x0n
  have eds:ds = .post cl[x].1 :: (((x0 :: E0).flatMap (EE.sH (HR (cl.map (·.1)) (cl.map (·.2)) x to))).drop 1):=by
   rw[J.ds,eE,tQ]
   show Lc x0.e :: _++_=_
   unfold Lc
   rw[x0n,<- x0h]
   rfl
  rw[<- eE] at eds w1 w2
  rw[x0h] at w1 w2
  have ndh:(Es.map (·.e.h)).Nodup:=by
   have:=J.wj.nd
   rw[bQ,cC] at this
   exact this
  have hlt:∀ y∈Es,y.e.h < ns.length:=λy hy=>J.wj.lt y.e (bV _ (bP hy))
  have hEl:Es.length<=ns.length:=by
   have:=Gr.qG (B:=au ns.length) ndh λz hz=>by
    obtain⟨y,hy,rfl⟩:=aN.mp hz
    exact bE.mpr (hlt y hy)
   rw[ah,aZ] at this
   exact this
  have Yc:=M9 (hs:=HR (cl.map (·.1)) (cl.map (·.2)) x to) (E:=Es)
  rw[<- J.ds] at Yc
  generalize aj2:(Es.flatMap (EE.sH (HR (cl.map (·.1)) (cl.map (·.2)) x to))).drop 1=ds' at eds w1 w2
  have aj3:ds'.length + 1=ds.length:=by rw[eds]; rfl
  obtain⟨hax,htx⟩:=UQ x hx
  refine bF λNx b9=>?_
  refine⟨_,rfl,_,rfl,iu hC hax ⟨_,_,rfl,htx,rfl,_,_,rfl,_,_,rfl,rfl,b9 _ _ ?_⟩⟩
  clear b9 Nx
  refine bF λNx b9=>?_
  refine⟨_,rfl,a,qs,ds,rfl,hA,U8,λH1 s1=>⟨_,rfl,cP ?_⟩⟩
  refine⟨_,rfl,aV _,λz1 hz1=>?_⟩
  have s2:=s1.trans (aE.new (o:=.lst []) hz1)
  have hz2:=ay (H:=H1) (a:=z1) (o:=.lst [])
  generalize upd H1 z1 (.lst [])=H2 at s2 hz2
  have aah:cS K H2 qs (ds.map cF.vs):=U8.mono λb x=>s2.b5
  refine⟨.list (ds.map dD),.list [],⟨a,_,rfl,s2.seq hA,JS aah⟩,⟨z1,[],rfl,bL.of hz2,rfl⟩,JT _,rfl,RQ (by show PyData.depthAll _ + 1<=64; have:=HK ds; omega) hr.units,_,rfl,?_⟩
  rw[WO,show (ds.map dD).isEmpty=false by rw[eds]; rfl]
  refine cP ?_
  have VT:∃ q0,qs[0]?=some q0:=⟨qs[0]'(by omega),aa _⟩
  obtain⟨q0,VT⟩:=VT
  have ht0:cN K H2 q0 (cF.post cl[x].1).vs:=aah.at' 0 q0 _ VT (by rw[eds]; rfl)
  refine⟨_,rfl,VQ (s2.seq hA) (dM (j:=0) (by rw[ak,VT]; rfl)) ⟨_,rfl,(by show 2<=sizeLine; decide),λz3 XY=>?_⟩⟩
  have u3:=aE.new (o:=.tup [V.str "post",V.int (cl[x].1:Int)]) XY
  have aai:=ay (H:=H2) (a:=z3) (o:=.tup [V.str "post",V.int (cl[x].1:Int)])
  have s3:=s2.trans u3
  have ht3:=u3.b5 ht0
  generalize upd H2 z3 (.tup [V.str "post",V.int (cl[x].1:Int)])=H3 at u3 aai s3 ht3
  have WT:(dD (.post cl[x].1)).canLay0=true:=by
   show (PyData.strOk "post" && PyData.canLayAll0 (([(cl[x].1:Int)]:List Int).map .int))=true
   rw[jS,show PyData.strOk "post" = true from by decide +kernel]
   rfl
  have rep:∀ q,cN K H3 q [V.str "post",V.int (cl[x].1:Int)]->Rep K H3 (dD (.post cl[x].1)) (.ref q):=λq h=>⟨q,V.str "post" :: ([(cl[x].1:Int)]:List Int).map V.int,rfl,h,⟨_,_,rfl,rfl,jl [(cl[x].1:Int)]⟩⟩
  refine⟨dD (.post cl[x].1),dD (.post cl[x].1),rep q0 ht3,rep z3 (cN.of aai),WT,WT,RQ (by show PyData.depthAll (.str "post" :: ([(cl[x].1:Int)]:List Int).map .int) + 1<=64; have:=qI [(cl[x].1:Int)]; show max 0 _ + 1<=64; omega) hr.units,_,rfl,?_⟩
  rw[SeqAt.eqv_refl _ WT]
  refine cP (b9 _ _ ?_)
  clear b9 Nx rep WT aai u3 ht3 ht0 XY aah hz2 hz1 s2
  have e64:(ds'.foldl gU ([(cl[x].1,none)],[])).1.length < 64:=by
   rw[w1]
   show (HE Es).length < 64
   unfold HE
   rw[ah]
   omega
  refine bF λNx b9=>?_
  refine⟨_,rfl,_,rfl,_,rfl,b,lo,a,qs,ns.length,rs,os,cl[x].1,ds',rfl,hB.keep (λo z=>s3 _ _ z) (λb x=>s3.b5),s3.seq hO,s3.seq hA,by rw[<- eds]; exact U8.mono λb x=>s3.b5,F.ok,F.lt,w2,by omega,e64,λl1 ms H4 s4 aj5 hl1 pm pw=>b9 _ _ ?_⟩
  clear b9 Nx
  rw[w1] at pm
  have pm:ms.Perm (Es.map λy=>(y.e.h:Int)):=by
   have:(HE Es).map (λp=>(p.1:Int))=Es.map λy=>(y.e.h:Int):=by unfold HE; rw[cC]; rfl
   rw[<- this]
   exact pm
  have t4:=s3.trans s4
  refine bF λNx b9=>?_
  refine⟨_,rfl,_,rfl,_,rfl,b,lo,ns,rs,os,cl[x].1,rfl,hB.keep (λo z=>t4 _ _ z) (λb x=>t4.b5),t4.seq hO,F,hfn,hm,by omega,λl2 H5 s5 aj6 hl2=>b9 _ _ ?_⟩
  clear b9 Nx
  have t5:=t4.trans s5
  have hl1:=s5 _ _ hl1
  have LI:=xX.turn F hfn rs.length
  have LO:=aac F hfn hnm
  generalize lB rs os cl[x].1 rs.length=L at hl2 LI LO
  have hLl:=LI.len
  have inL:∀ y∈Es,y.e.h∈L:=λy hy=>(LO _).mpr (J.OP F y hy)
  have hml:ms.length=Es.length:=by rw[pm.length_eq,ah]
  refine bF λNx b9=>?_
  refine⟨_,rfl,rfl,_,rfl,cP ?_⟩
  refine⟨_,rfl,l1,rfl,⟨_,bL.of hl1⟩,λacc hacc=>?_⟩
  have hM1:bL K H5 l1 (ms.map V.int):=bL.of hl1
  refine gB (n:=(ms.map V.int).length) (λi ys _=>∃ bs:List Bool,ys=bs.map V.bl/\bs.length=i/\bs.all id=true) hacc (yg hM1) (oz hM1) ⟨[],rfl,rfl,rfl⟩ ?_ ?_
  ·rintro i ys H6 hi s6 hy ⟨bs,rfl,hbl,hba⟩ z H7 ⟨rfl,hz⟩
   have hz:=hz _ (s6.seq hM1)
   have hi':i < ms.length:=by rw[ah] at hi; exact hi
   rw[ak,aa hi'] at hz
   cases hz
   obtain⟨y,hy',ey⟩:=aN.mp (pm.mem_iff.mp (aK hi'))
   rw[<- ey]
   refine⟨_,rfl,_,rfl,l2,_,rfl,.inl (bL.of (s6 _ _ hl2)),rfl,eF _,?_⟩
   dsimp only
   rw[if_neg aD,gm,decide_eq_true (inL y hy')]
   exact eV hacc hi s6 hy (by rw[ah]; exact b4 (by omega)) ⟨bs++[true],by simp,by simp[hbl],by simp[hba]⟩
  rintro ys H6 s6 hy ⟨bs,rfl,hbl,hba⟩
  refine⟨acc,bs,rfl,bL.of hy,_,rfl,?_⟩
  rw[hba]
  refine cP (b9 _ _ ?_)
  clear b9 Nx hba hbl hy
  have t6:=t5.trans s6
  have hl1:=s6 _ _ hl1
  have hl2:=s6 _ _ hl2
  clear hM1 hacc
  have hA6:=t6.seq hA
  have afW:cS K H6 qs (ds.map cF.vs):=U8.mono λb x=>t6.b5
  refine bF λNx b9=>?_
  refine⟨_,rfl,a,rfl,⟨_,hA6⟩,λac hac=>?_⟩
  refine gB (n:=(qs.map V.ref).length) (λi ys H8=>∃ qp:List Addr,ys=qp.map V.ref/\fM K H8 qp ((ds.take i).filterMap Li)) hac (yg hA6) (oz hA6) ⟨[],rfl,rfl,λi q x e=>by cases e⟩ ?_ ?_
  ·rintro i ys H0 hi s8 hy ⟨qp,rfl,hqp⟩ y H8 ⟨rfl,hx'⟩
   have hx':=hx' _ (s8.seq hA6)
   have hi':i < qs.length:=by rw[ah] at hi; exact hi
   have his:i < ds.length:=by omega
   rw[ak,aa hi'] at hx'
   cases hx'
   have hd:=s8.b5 (afW.at' i qs[i] (ds[i]).vs (aa hi') (by rw[ak,aa his]; rfl))
   have efs:=WR (f:=Li) his
   have hql:qp.length<=800000:=by
    rw[hqp.1]
    refine aO (List.length_filterMap_le _ _) ?_
    rw[bZ]; omega
   generalize ds[i]=d at hd efs
   have hd2:=hd
   rw[Lb] at hd2
   refine⟨_,rfl,qs[i],_,0,_,rfl,rfl,hd2,CI d,rfl,_,rfl,?_⟩
   rw[show decide (V.str (dW d)=V.str (Str.ofString "hand"))=(Li d).isSome from WQ d]
   cases d with
   | hand hh cc =>
    have hd:cN K H8 qs[i] (V.str "hand" :: [V.int (hh:Int),V.int (cc:Int)]):=hd
    have nw:¬ (HT.jH (V.str "hand" :: [V.int (hh:Int),V.int (cc:Int)]).length 0 (some 1)=0/\HT.jH (V.str "hand" :: [V.int (hh:Int),V.int (cc:Int)]).length (V.str "hand" :: [V.int (hh:Int),V.int (cc:Int)]).length none=(V.str "hand" :: [V.int (hh:Int),V.int (cc:Int)]).length):=λz=>by
     have z1:=z.1
     rw[show (1:Int)=((1:Nat):Int) from rfl,HT.BK,aS] at z1
     simp at z1
    refine fL ⟨_,rfl,_,rfl,qs[i],_,rfl,hd,nw,λz hz=>?_⟩
    rw[show x9 (V.str "hand" :: [V.int (hh:Int),V.int (cc:Int)]) (some 1) none = [V.int (hh:Int),V.int (cc:Int)] from Ga _ 1]
    have u9:=aE.new (o:=.tup [V.int (hh:Int),V.int (cc:Int)]) hz
    have hz9:=ay (H:=H8) (a:=z) (o:=.tup [V.int (hh:Int),V.int (cc:Int)])
    generalize upd H8 z (.tup [V.int (hh:Int),V.int (cc:Int)])=H9 at u9 hz9
    refine eV hac hi (s8.trans u9) (u9 _ _ hy) (cz (by rw[ah]; exact hql) (by show 800000 < 2 ^ 24; decide)) ⟨qp++[z],by rw[aJ]; rfl,?_⟩
    rw[efs]
    exact fM.keep (fM.snoc (p:=((hh:Int),(cc:Int))) (fM.keep hqp λb x z=>u9.b5 z) (cN.of hz9)) λb x=>cN.past (u9 _ _ hy) pq cZ
   | post _ | oA _ _ | send _ _ _ | twice _ _ | Ri _ _ =>
    refine cP (iP hi s8 hy ⟨qp,rfl,?_⟩)
    rw[efs]
    exact (bQ _).symm ▸ hqp
  rintro ys H7 s7 hy ⟨qp,rfl,hqp⟩
  rw[ah,eqd,jP,Yc] at hqp
  have t7:=t6.trans s7
  have hl1:=s7 _ _ hl1
  have hl2:=s7 _ _ hl2
  have hL7:bL K H7 cb (UP.map V.ref):=t7.seq hC
  have afZ:∀ (i:Nat) (hi:i < cl.length),cN K H7 (UP[i]'(by omega)) [.int (cl[i].1:Int),.int (cl[i].2:Int)]:=λi hi=>t7.b5 (UQ i hi).2
  cases to with
  | some y =>
   obtain⟨hyl,hyg⟩:=hto y rfl
   have eyh:(cl.map (·.1))[y]?=some cl[y].1:=by rw[ak,aa hyl]; rfl
   have h1:=RO (aH:=cl.map (·.1)) (groups:=cl.map (·.2)) (x:=x) (y:=y) ndh eyh hyg
   have eLE:cl[y].1∈Es.map (·.e.h)↔cl[y].1∈L:=by
    rw[LO]
    constructor
    ·intro z
     obtain⟨y',hy',e⟩:=aN.mp z
     rw[<- e]
     exact J.OP F y' hy'
    ·intro z
     have J':=J
     rw[show (Option.map (λy=>(cl.map (·.1)).getD y 0) (some y))=some cl[y].1 by rw[<- UR y hyl]; rfl] at J'
     obtain⟨y',hy',e⟩:=J'.WC z
     rw[<- e]
     exact bP hy'
   have aak:(xr (HR (cl.map (·.1)) (cl.map (·.2)) x (some y)) Es).length < 64:=by
    rw[h1.length_eq]
    split <;> simp
   refine⟨ac,qp,_,rfl,bL.of hy,hqp,aak,λlh qh th ZZ pmh _ duh=>b9 _ _ ?_⟩
   clear b9 Nx
   have u8:=aE.new (o:=.lst (qh.map V.ref)) ZZ
   have US:=ay (H:=H7) (a:=lh) (o:=.lst (qh.map V.ref))
   have du8:=fM.keep duh λb x z=>u8.b5 (a:=b) (xs:=x) z
   generalize upd H7 lh (.lst (qh.map V.ref))=H8 at u8 US du8
   have eth:th=if cl[y].1∈L then [((cl[y].1:Int),(y:Int))] else []:=by
    have:=pmh.trans h1
    by_cases z:cl[y].1∈L
    ·rw[if_pos z]
     rw[if_pos (eLE.mpr z)] at this
     exact List.perm_singleton.mp this
    ·rw[if_neg z]
     rw[if_neg λq=>z (eLE.mp q)] at this
     exact this.eq_nil
   rw[show qW (Option.map (λy:Nat=>(y:Int)) (some y))=V.int (y:Int) from rfl]
   refine⟨_,rfl,rfl,_,rfl,fL ?_⟩
   obtain⟨hay,_⟩:=UQ y hyl
   refine bF λNx b9=>?_
   refine⟨_,rfl,_,rfl,iu (u8.seq hL7) hay (c8 (u8.b5 (afZ y hyl)) rfl ⟨_,rfl,(by show 2<=sizeLine; decide),λzt hzt=>?_⟩)⟩
   have u9:=aE.new (o:=.tup [V.int (cl[y].1:Int),V.int (y:Int)]) hzt
   have acX:=ay (H:=H8) (a:=zt) (o:=.tup [V.int (cl[y].1:Int),V.int (y:Int)])
   refine⟨(by show 1<=sizeLine; decide),λzl hzl=>b9 _ _ ?_⟩
   clear b9 Nx
   have aal:upd H8 zt (.tup [V.int (cl[y].1:Int),V.int (y:Int)]) zl=none:=hzl
   have U9:=u9.trans (aE.new (o:=.lst [V.ref zt]) aal)
   have UT:=aE.new (o:=.lst [V.ref zt]) aal _ _ acX
   have Yd:=ay (H:=upd H8 zt (.tup [V.int (cl[y].1:Int),V.int (y:Int)])) (a:=zl) (o:=.lst [V.ref zt])
   generalize upd (upd H8 zt (.tup [V.int (cl[y].1:Int),V.int (y:Int)])) zl (.lst [V.ref zt])=E9 at U9 UT Yd
   clear u9 acX hzl aal hzt
   have acY:=U9 _ _ US
   have hl2:=U9 _ _ (u8 _ _ hl2)
   have t10:=(t7.trans u8).trans U9
   have aam:=fM.keep du8 λb x z=>U9.b5 (a:=b) (xs:=x) z
   have hZ:bL K E9 zl [V.ref zt]:=bL.of Yd
   refine⟨_,rfl,_,rfl,zl,rfl,⟨_,hZ⟩,λad had=>?_⟩
   refine gB (n:=[V.ref zt].length) (λi ys Pg=>ys=if i=1/\cl[y].1∈L then [V.ref zt] else []) had (yg hZ) (oz hZ) rfl ?_ ?_
   ·rintro i ys H0 hi S1 hy hP v Pg ⟨rfl,hv⟩
    have hv:=hv _ (S1.seq hZ)
    have ei:i=0:=by simp at hi; omega
    subst ei
    cases hv
    rw[if_neg (λq=>absurd q.1 (by decide))] at hP
    subst hP
    refine⟨_,rfl,c8 (S1.b5 (cN.of UT)) rfl ⟨_,rfl,l2,_,rfl,.inl (bL.of (S1 _ _ hl2)),rfl,eF _,_,rfl,?_⟩⟩
    dsimp only
    rw[if_neg aD,gm]
    by_cases z:cl[y].1∈L
    ·rw[decide_eq_true z]
     refine fL ⟨_,rfl,eV had hi S1 hy (by show 0 < sizeLine; decide) ?_⟩
     rw[if_pos ⟨rfl,z⟩]
     rfl
    ·rw[decide_eq_false z]
     refine cP (iP hi S1 hy ?_)
     rw[if_neg λq=>z q.2]
   ·rintro ys Pg S1 hy hP
    have t11:=t10.trans S1
    have af3:=fM.keep aam λb x z=>S1.b5 (a:=b) (xs:=x) z
    have acZ:cN K Pg zt [V.int (cl[y].1:Int),V.int (y:Int)]:=S1.b5 (cN.of UT)
    have r1:Rep K Pg (.list ((th.map pr).map HL)) (.ref lh):=⟨lh,_,rfl,bL.of (S1 _ _ acY),zI (Lk af3)⟩
    have r2:Rep K Pg (.list ((th.map pr).map HL)) (.ref ad):=by
     refine⟨ad,_,rfl,bL.of hy,?_⟩
     rw[hP,eth]
     by_cases z:cl[y].1∈L
     ·rw[if_pos z,if_pos ⟨rfl,z⟩]
      exact zI (qs:=[zt]) (xs:=[[(cl[y].1:Int),(y:Int)]]) ⟨rfl,λi q u e1 e2=>by
       have ei:i=0:=by
        have:=(ai.mp e1).1
        simp at this
        omega
       subst ei
       cases e1
       cases e2
       exact acZ⟩
     ·rw[if_neg z,if_neg (λq=>z q.2)]
      rfl
    refine⟨_,_,r1,r2,sI _,sI _,RQ (by show PyData.depthAll _ + 1<=64; have:=DW (th.map pr); omega) hr.units,?_⟩
    rw[SeqAt.eqv_refl (.list ((th.map pr).map HL)) (sI _)]
    exact k _ t11
  | none =>
   have eEL:∀ z,z∈L↔z∈Es.map (·.e.h):=λz=>by
    rw[LO]
    constructor
    ·intro q
     obtain⟨y',hy',e⟩:=J.WB F ne z q
     rw[<- e]
     exact bP hy'
    ·intro q
     obtain⟨y',hy',e⟩:=aN.mp q
     rw[<- e]
     exact J.OP F y' hy'
   have h1:=RP (aH:=cl.map (·.1)) (groups:=cl.map (·.2)) (x:=x) ndh eEL
   have hol:∀ i,i<=cl.length->(zH (cl.map (·.1)) (cl.map (·.2)) x L i).length<=20:=λi hi=>by
    refine aO (List.length_filterMap_le _ _) ?_
    rw[aZ]
    omega
   have aak:(xr (HR (cl.map (·.1)) (cl.map (·.2)) x none) Es).length < 64:=by
    rw[h1.length_eq,ah]
    have:=hol cl.length (az _)
    omega
   refine⟨ac,qp,_,rfl,bL.of hy,hqp,aak,λlh qh th ZZ pmh soh duh=>b9 _ _ ?_⟩
   clear b9 Nx
   have u8:=aE.new (o:=.lst (qh.map V.ref)) ZZ
   have US:=ay (H:=H7) (a:=lh) (o:=.lst (qh.map V.ref))
   have du8:=fM.keep duh λb x z=>u8.b5 (a:=b) (xs:=x) z
   generalize upd H7 lh (.lst (qh.map V.ref))=H8 at u8 US du8
   have t8:=t7.trans u8
   have hl1:=u8 _ _ hl1
   have hl2:=u8 _ _ hl2
   refine bF λNx b9=>?_
   refine⟨_,rfl,rfl,_,rfl,cP (b9 _ _ ?_)⟩
   clear b9 Nx
   refine bF λNx b9=>?_
   refine⟨aV _,λlu To=>b9 _ _ ?_⟩
   clear b9 Nx
   have u9:=aE.new (o:=.lst []) To
   have ac0:=ay (H:=H8) (a:=lu) (o:=.lst [])
   generalize upd H8 lu (.lst [])=H9 at u9 ac0
   have af5:H8 lu=none:=To
   refine bF λNx b9=>?_
   refine⟨_,rfl,cb,_,rfl,.inl ((t8.trans u9).seq hC),(cl.length:Int),(by rw[ah,ecq]),by omega,by omega,qS (n:=((cl.length:Int)).toNat) (λi σ E9=>aE H8 E9/\∃ (qo:List Addr) (Ni:Option V),E9 lu=some (.lst (qo.map V.ref))/\fM K E9 qo (zH (cl.map (·.1)) (cl.map (·.2)) x L i)/\σ = [some (.ref b),some (.ref lo),some (.ref cb),some (.int (x:Nat)),some .fh,some (.ref a),some (.int (cl[x].1:Int)),some (.int (cl[x].2:Int)),some (.ref l1),some (.ref l2),some (.ref lh),some (.ref lu),Ni]) ⟨u9,[],_,ac0,⟨rfl,λi q u e=>by cases e⟩,rfl⟩ ?_ ?_⟩
   ·rintro i σ E9 Nf zZ hi ⟨FT,qo,Ni,Na,hqo,rfl⟩
    rw[eU]
    have hil:i < cl.length:=by omega
    have e1:zH (cl.map (·.1)) (cl.map (·.2)) x L (i + 1)=zH (cl.map (·.1)) (cl.map (·.2)) x L i++(if i≠x/\cl[i].2=cl[x].2/\cl[i].1∈L then [((cl[i].1:Int),(i:Int))] else []):=by
     unfold zH
     rw[gk,uQ]
     congr 1
     have g1:(cl.map (·.2))[i]?=some cl[i].2:=by rw[ak,aa hil]; rfl
     have g2:(cl.map (·.2))[x]?=some cl[x].2:=by rw[ak,aa hx]; rfl
     rw[cR,UR i hil,g1,g2]
     by_cases z:i≠x/\cl[i].2=cl[x].2/\cl[i].1∈L
     ·rw[if_pos z,if_pos ⟨z.1,congrArg some z.2.1,z.2.2⟩]
      rfl
     ·rw[if_neg z,if_neg (λq=>z ⟨q.1,aL q.2.1,q.2.2⟩)]
      rfl
    rw[e1] at zZ
    have hql:=hol i (by omega)
    rw[<- hqo.1] at hql
    obtain⟨hai,_⟩:=UQ i hil
    have aan:bL K E9 cb (UP.map V.ref):=(t8.trans FT).seq hC
    have hti:cN K E9 (UP[i]'(by omega)) [.int (cl[i].1:Int),.int (cl[i].2:Int)]:=(t8.trans FT).b5 (UQ i hil).2
    have stay:¬ (i≠x/\cl[i].2=cl[x].2/\cl[i].1∈L)->Nf [some (.ref b),some (.ref lo),some (.ref cb),some (.int (x:Nat)),some .fh,some (.ref a),some (.int (cl[x].1:Int)),some (.int (cl[x].2:Int)),some (.ref l1),some (.ref l2),some (.ref lh),some (.ref lu),some (.int (i:Int))] E9:=λz=>zZ _ _ ⟨FT,qo,_,Na,by rw[if_neg z,bQ]; exact hqo,rfl⟩
    refine⟨_,rfl,_,rfl,rfl,_,rfl,?_⟩
    by_cases z1:i=x
    ·rw[show decide (V.int (i:Int)=V.int (x:Int))=true from decide_eq_true (by rw[z1])]
     exact cP (stay λq=>q.1 z1)
    rw[show decide (V.int (i:Int)=V.int (x:Int))=false from decide_eq_false λq=>z1 (by have:=V.int.inj q; omega)]
    refine fL ⟨_,rfl,_,rfl,iu aan hai (c8 hti rfl ⟨_,rfl,rfl,_,rfl,?_⟩)⟩
    by_cases z2:cl[i].2=cl[x].2
    case neg =>
     rw[show decide (V.int (cl[i].2:Int)=V.int (cl[x].2:Int))=false from decide_eq_false λq=>z2 (by have:=V.int.inj q; omega)]
     exact cP (stay λq=>z2 q.2.1)
    rw[show decide (V.int (cl[i].2:Int)=V.int (cl[x].2:Int))=true from decide_eq_true (by rw[z2])]
    refine fL ⟨_,rfl,_,rfl,iu aan hai (c8 hti rfl ⟨_,rfl,l2,_,rfl,.inl (bL.of (FT _ _ hl2)),rfl,eF _,_,rfl,?_⟩)⟩
    dsimp only
    rw[if_neg aD,gm]
    by_cases z3:cl[i].1∈L
    case neg =>
     rw[decide_eq_false z3]
     exact cP (stay λq=>z3 q.2.2)
    rw[decide_eq_true z3]
    rw[if_pos ⟨z1,z2,z3⟩] at zZ
    refine fL ⟨_,rfl,.inl ⟨rfl,_,bL.of Na⟩,_,rfl,_,rfl,iu aan hai (c8 hti rfl ⟨_,rfl,(by show 2<=sizeLine; decide),λz hz=>?_⟩)⟩
    have Nb:=aE.new (o:=.tup [V.int (cl[i].1:Int),V.int (i:Int)]) hz
    have ac1:=ay (H:=E9) (a:=z) (o:=.tup [V.int (cl[i].1:Int),V.int (i:Int)])
    generalize upd E9 z (.tup [V.int (cl[i].1:Int),V.int (i:Int)])=Pg at Nb ac1
    have Ye:=Nb _ _ Na
    refine⟨lu,_,_,rfl,rfl,Ye,(by rw[ah]; exact b4 (by omega)),zZ _ _ ⟨(FT.trans Nb).out af5,qo++[z],_,by rw[ay,aJ]; rfl,?_,rfl⟩⟩
    exact fM.keep (fM.snoc (p:=((cl[i].1:Int),(i:Int))) (fM.keep hqo λb x z=>Nb.b5 z) (cN.of ac1)) λb x=>cN.past Ye pq cZ
   ·rintro σ E9 ⟨FT,qo,Ni,Na,hqo,rfl⟩
    refine b9 _ _ ?_
    clear b9 Nx
    rw[dP] at hqo
    have hl1:=FT _ _ hl1
    have hl2:=FT _ _ hl2
    have aam:=fM.keep du8 λb x z=>FT.b5 (a:=b) (xs:=x) z
    refine⟨_,rfl,_,rfl,l2,L.map (λk:Nat=>(k:Int)),rfl,by rw[<- jn]; exact bL.of hl2,by rw[ah]; omega,λln ns' hln pn pwn=>?_⟩
    have Nb:=aE.new (o:=.lst (ns'.map V.int)) hln
    have Yg:=ay (H:=E9) (a:=ln) (o:=.lst (ns'.map V.int))
    generalize upd E9 ln (.lst (ns'.map V.int))=Pg at Nb Yg
    have pp:ms.Perm ns':=by
     refine pm.trans (List.Perm.trans ?_ pn.symm)
     have:(Es.map (·.e.h)).Perm L:=(List.perm_ext_iff_of_nodup ndh LI.1).mpr λz=>(eEL z).symm
     have:=this.map (λk:Nat=>(k:Int))
     rw[cC] at this
     exact this
    have em:ms=ns':=pp.eq_of_pairwise (λ_ _ _ _ h1 h2=>Int.le_antisymm h1 h2) pw pwn
    have r1:Rep K Pg (.list (ms.map .int)) (.ref l1):=⟨l1,_,rfl,bL.of (Nb _ _ hl1),jl _⟩
    have r2:Rep K Pg (.list (ms.map .int)) (.ref ln):=⟨ln,_,rfl,bL.of Yg,by rw[em]; exact jl _⟩
    refine⟨_,_,r1,r2,jS _,jS _,RQ (by show PyData.depthAll (ms.map .int) + 1<=64; rw[qI]; decide) hr.units,_,rfl,?_⟩
    rw[SeqAt.eqv_refl (.list (ms.map .int)) (jS _)]
    refine fL ⟨_,rfl,_,rfl,lu,qo,_,rfl,bL.of (Nb _ _ Na),fM.keep hqo λb x z=>Nb.b5 (a:=b) (xs:=x) z,by have:=hol cl.length (az _); omega,λlq qq tq hlq pmq soq duq=>?_⟩
    have u12:=aE.new (o:=.lst (qq.map V.ref)) hlq
    have Yh:=ay (H:=Pg) (a:=lq) (o:=.lst (qq.map V.ref))
    have Yi:=fM.keep duq λb x z=>u12.b5 (a:=b) (xs:=x) z
    generalize upd Pg lq (.lst (qq.map V.ref))=XQ at u12 Yh Yi
    have et:th=tq:=by
     refine Lj soh soq (pmh.trans (h1.trans ?_))
     rw[ah]
     exact pmq.symm
    have af7:=fM.keep aam λb x z=>(Nb.trans u12).b5 (a:=b) (xs:=x) z
    have r3:Rep K XQ (.list ((th.map pr).map HL)) (.ref lh):=⟨lh,_,rfl,bL.of ((Nb.trans u12) _ _ (FT _ _ US)),zI (Lk af7)⟩
    have r4:Rep K XQ (.list ((th.map pr).map HL)) (.ref lq):=⟨lq,_,rfl,bL.of Yh,by rw[et]; exact zI (Lk Yi)⟩
    refine⟨_,_,r3,r4,sI _,sI _,RQ (by show PyData.depthAll _ + 1<=64; have:=DW (th.map pr); omega) hr.units,?_⟩
    rw[SeqAt.eqv_refl (.list ((th.map pr).map HL)) (sI _)]
    exact k _ (((t8.trans FT).trans Nb).trans u12)
theorem Ab(y:Int){n:Nat}(h:0 < n):∃ x:Nat,y % (n:Int)=(x:Int)/\x < n:=by
 have h1:=bR y (show (n:Int)≠0 by omega)
 have h2:=bY y (show (0:Int) < (n:Int) by omega)
 exact⟨(y % (n:Int)).toNat,by omega,by omega⟩
structure WU(ns:List Int)(rs:List R5)(cl:List (Nat × Nat))(s:NS):Prop where
 ok:AX ns rs s
 bd:Bd ns.length rs.length 0 s
 ws:s.ws=rs.map λr=>au r.d.toNat
 hm:s.aH=cl.map (·.1)
 gr:s.groups=cl.map (·.2)
 cp:s.cps = []
 ls:s.ls = []
 tt:∀ g,s.ts g = []
section
variable{ns:List Int}{rs:List R5}{cl:List (Nat × Nat)}{s:NS}
theorem WU.call{g x:Nat}{d:RM.Row}(h:WU ns rs cl s)(hdd:C3 ns.length rs.length d):WU ns rs cl (MN s g x d):=by
 unfold MN
 split
 ·exact h
 ·have b:=h.bd
  have e0:(MM { s with R:=gq s.R g (RM.upd (s.R g) x d) } g).ls = []:=by show s.ls.map _ = []; rw[h.ls]; rfl
  have e1:∀ k,(MM { s with R:=gq s.R g (RM.upd (s.R g) x d) } g).ts k = []:=λk=>by
   show gq s.ts g [] k = []
   by_cases z:k=g
   ·subst z; rw[cH]
   ·rw[eT z]; exact h.tt k
  refine⟨⟨h.ok.wl,h.ok.w4,λk hk=>?_⟩,⟨b.gl,b.AI,b.g3,b.hm,b.hl,b.hb,by rw[e0]; exact az _,λl z=>(by rw[e0] at z; cases z),b.cb,λc z=>(by rw[show (MM { s with R:=gq s.R g (RM.upd (s.R g) x d) } g).cps=s.cps from rfl,h.cp] at z; cases z),λk=>by rw[e1]; exact⟨aV _,ki⟩⟩,h.ws,h.hm,h.gr,h.cp,e0,e1⟩
  show vN _ _ (gq s.R g (RM.upd (s.R g) x d) k)
  by_cases z:k=g
  ·subst z
   rw[cH]
   intro i hi
   unfold RM.upd
   split
   ·exact hdd
   ·exact h.ok.fit k hk i hi
  ·rw[eT z]
   exact h.ok.fit k hk
theorem aao(o:gO ns rs)(AI:cl.length<=20)(hc:∀ c∈cl,c.1 < ns.length/\c.2 < 3):WU ns rs cl (S0 ns rs cl):=by
 refine⟨⟨ah _,λw hw=>?_,λg _ i hi=>⟨?_,Int.le_refl _,⟨Int.le_refl _,by show (0:Int) < (ns.length:Int); omega⟩,.inl rfl⟩⟩,⟨?_,?_,λg hg=>?_,λh hh=>?_,?_,λw hw=>?_,aV _,λl z=>(by cases z),aV _,λc z=>(by cases z),λg=>⟨aV _,ki⟩⟩,rfl,rfl,rfl,rfl,rfl,λ_=>rfl⟩
 ·obtain⟨r,hr,rfl⟩:=aN.mp hw
  rw[aZ]
  have:=(o.ok r hr).d4
  omega
 ·show 0<=ns.getD i 0
  rw[av,aa hi]
  exact o.pos _ (aK hi)
 ·show (cl.map _).length=(cl.map _).length
  rw[ah,ah]
 ·show (cl.map _).length<=20
  rw[ah]
  exact AI
 ·obtain⟨c,z,rfl⟩:=aN.mp hg
  exact (hc c z).2
 ·obtain⟨c,z,rfl⟩:=aN.mp hh
  exact (hc c z).1
 ·show (cl.map _).length=(cl.map _).length
  rw[ah,ah]
 ·obtain⟨c,z,rfl⟩:=aN.mp hw
  exact aV _
end
inductive HM(K:af)(CT:Addr)(c:NC)(vs:List V)(H:Hp)(Q:VK)(E:XK):Prop
 | mk (F:Addr->Prop) (p tp ln lr:Addr) (ns:List Int) (rs:List R5) (cl:List (Nat × Nat)) (s:NS) (g:Nat):vs = [.ref p,.int (ns.length:Nat),.int g]->gO ns rs->NW K c CT H F p tp ln lr ns rs s->WU ns rs cl s->g < 3->(∀ s' F' H',NW K c CT H' F' p tp ln lr ns rs s'->WU ns rs cl s'->Step H F H' F'->Q .fh H')->HM K CT c vs H Q E
theorem Nc{t:Ad}(T:Txt K mg t):cj P w K mg base ig 5 t.rM t.wu ["_law_net","_law_size","_law_group"]  (HM K t.bK (nc t)):=by
 refine T.GH.F.jK yG λH Q E hr h=>?_
 ·obtain⟨F,p,tp,ln,lr,ns,rs,cl,st,g,rfl,o,N,sd,hg,k⟩:=h
  refine⟨_,(bw (fS (eu rfl T.gK (gC (bf J3 aA (pv 1)))) (gT 3 yG) (bw (fS (eu rfl T.gK (gC (pv 1))) (gT 4 yG) (oE (cM (pv 0) T.bS T.GF (MP T) hr (mZ (bf c7 (bf eZ (pv 4) (pv 3)) (pv 1)) (pv 2)))))))),?_⟩
  try dsimp only[bJ]
  have n10:=o.n10
  have n1:=o.n1
  refine⟨_,rfl,_,_,rfl,rfl,.inl ⟨by decide,by decide⟩,2 * (ns.length:Int),rfl,by omega,by omega,uU (n:=(2 * (ns.length:Int)).toNat) (λi σ H2=>∃ (s2:NS) (F2:Addr->Prop) (v3 v4:Option V),NW K (nc t) t.bK H2 F2 p tp ln lr ns rs s2/\WU ns rs cl s2/\Step H F H2 F2/\σ = [some (.ref p),some (.int (ns.length:Nat)),some (.int g),v3,v4]) ⟨st,F,_,_,N,sd,Step.refl' (aE.refl _),rfl⟩ ?_ ?_⟩
  ·rintro i σ H2 hi ⟨s2,F2,v3,v4,N2,sd2,st2,rfl⟩
   refine⟨_,rfl,(ns.length:Int),rfl,by omega,by omega,uU (n:=(ns.length:Int).toNat) (λj σ H3=>∃ (s3:NS) (F3:Addr->Prop) (v4:Option V),NW K (nc t) t.bK H3 F3 p tp ln lr ns rs s3/\WU ns rs cl s3/\Step H F H3 F3/\σ = [some (.ref p),some (.int (ns.length:Nat)),some (.int g),some (.int (0 + (i:Int))),v4]) ⟨s2,F2,_,N2,sd2,st2,rfl⟩ ?_ ?_⟩
   ·rintro j σ H3 hj ⟨s3,F3,v4,N3,sd3,st3,rfl⟩
    obtain⟨loc,dx,q,hp,O,hF,hT⟩:=id N3.eY
    have c9:=O.get .eY _ rfl
    rw[hp] at c9
    obtain⟨x,ex,hx⟩:=Ab (0 + (j:Int) + (0 + (i:Int))) (show 0 < ns.length by omega)
    refine⟨_,rfl,p,_,_,rfl,c9,rfl,_,rfl,_,rfl,_,_,rfl,rfl,_,rfl,_,_,rfl,rfl,(by omega),?_⟩
    dsimp only
    rw[ex]
    refine⟨_,rfl,F3,p,tp,ln,lr,ns,rs,s3,o,x,g,rfl,N3,sd3.ok,hx,hg,λd F4 H4 hd hf N4 HW=>?_⟩
    exact⟨_,F4,_,N3.done HW N4,sd3.call hf,st3.trans HW,rfl⟩
   ·rintro σ H3 ⟨s3,F3,v4,N3,sd3,st3,rfl⟩
    exact⟨s3,F3,_,_,N3,sd3,st3,rfl⟩
  ·rintro σ H2 ⟨s2,F2,v3,v4,N2,sd2,st2,rfl⟩
   exact k s2 F2 H2 N2 sd2 st2
end
section
variable{ns:List Int}{rs:List R5}{cl:List (Nat × Nat)}{os:Nat->List Nat}{Ls:List (Nat × Option Nat)}{D:Nat}{s:NS}
structure R7(ns:List Int)(rs:List R5)(o:gO ns rs)(cl:List (Nat × Nat))(os:Nat->List Nat)(Ls:List (Nat × Option Nat))(D:Nat)(s:NS):Prop where
 ok:AX ns rs s
 bd:Bd ns.length rs.length D s
 hm:s.aH=cl.map (·.1)
 gr:s.groups=cl.map (·.2)
 aj:AJ ns rs os 0 Ls s
 op:∀ g,g < 3->ie (xV ns rs o s.ws g) (s.R g) (os g)
 WV:∀ g,g < 3->(os g).length<=12
theorem UU{i h:Nat}{l:LS}{ck:Option Nat}{os:List Nat}(hl:s.ls[i]?=some l):(RE rs s i h l ck os).ws=s.ws/\(RE rs s i h l ck os).R=s.R/\(RE rs s i h l ck os).aH=s.aH/\(RE rs s i h l ck os).groups=s.groups:=by
 have f:=ZX (rs:=rs) (h:=h) (ck:=ck) (os:=os) hl
 exact⟨f.ws,f.R,f.aH,f.groups⟩
theorem R7.post{o:gO ns rs}{x:Nat}{to:Option Nat}{os':List Nat}(h:R7 ns rs o cl os Ls D s)(hx:x < s.aH.length)(ht:∀ y,to=some y->y < s.aH.length/\s.groups[y]?=s.groups[x]?)(O:ie (xV ns rs o s.ws (s.groups.getD x 0)) (s.R (s.groups.getD x 0)) os'):R7 ns rs o cl os (Ls++[(x,to)]) (D + 100) (zE rs s x to os')/\Ph ns.length rs (zE rs s x to os')<=Ph ns.length rs s + 2 * rs.length:=by
 have R4:x < s.groups.length:=by rw[h.bd.gl]; exact hx
 have g3:s.groups.getD x 0 < 3:=h.bd.g3 _ (by rw[av,aa R4]; exact aK R4)
 have hf:s.aH.getD x 0 < ns.length:=h.bd.hm _ (by rw[av,aa hx]; exact aK hx)
 have eo:=O.uniq (h.op _ g3)
 subst eo
 obtain⟨e1,e2,e3,e4⟩:=UU (rs:=rs) (h:=s.aH.getD x 0) (ck:=none) (os:=os (s.groups.getD x 0)) (s:=oS s x to) (i:=s.ls.length) (l:={ gi s x to with aF:=[.post (s.aH.getD x 0)] }) xm
 have b1:=XX o (h:=s.aH.getD x 0) (ck:=none) (Qm (to:=to) h.bd hx) xm O (h.WV _ g3)
 have e1:(zE rs s x to (os (s.groups.getD x 0))).ws=s.ws:=e1
 have e2:(zE rs s x to (os (s.groups.getD x 0))).R=s.R:=e2
 exact⟨⟨⟨(congrArg List.length e1).trans h.ok.wl,λw hw=>h.ok.w4 w (by rw[e1] at hw; exact hw),by rw[e2]; exact h.ok.fit⟩,b1.mono (by omega),e3.trans h.hm,e4.trans h.gr,h.aj.post h.bd rfl hx ht,λg hg=>by rw[e1,e2]; exact h.op g hg,h.WV⟩,WG (h.aj.fo _ g3) hf⟩
theorem R7.pass{o:gO ns rs}{a:Nat}{cp:Cp}{l:LS}{os':List Nat}{ts:List T3}(h:R7 ns rs o cl os Ls D s)(hcp:s.cps[a]?=some cp)(hl:s.ls[cp.l]?=some l)(O:ie (xV ns rs o s.ws l.grp) (s.R l.grp) os')(p:ts.Perm (put3 (s.ts l.grp) cp.h l.s cp.r))(oe:fG ts):xP l cp os' = "come" /\ R7 ns rs o cl os Ls (D + 100) (qi rs s a cp l os' ts)/\Ph ns.length rs (qi rs s a cp l os' ts) + 1<=Ph ns.length rs s:=by
 have ha:=(ai.mp hcp).1
 have hil:=(ai.mp hl).1
 have g3:l.grp < 3:=(h.bd.lb l (aQ hl)).2.2.1
 have eo:=O.uniq (h.op _ g3)
 subst eo
 have hi:cp.l < Ls.length:=by have:=h.aj.ll; omega
 obtain⟨c1,aj⟩:=h.aj.pass h.bd hcp hl (aa hi) (by omega) p oe
 have b1:=Ww o (a:=a) (cp:=cp) h.bd hl ha O (h.WV _ g3) p oe
 have e:(qi rs s a cp l (os l.grp) ts).ws=s.ws/\(qi rs s a cp l (os l.grp) ts).R=s.R/\(qi rs s a cp l (os l.grp) ts).aH=s.aH/\(qi rs s a cp l (os l.grp) ts).groups=s.groups:=by
  unfold qi
  rw[if_pos c1]
  obtain⟨f1,f2,f3,f4⟩:=HC (s:=s) (a:=a) (cp:=cp) (l:=l) (os:=os l.grp) (ts:=ts)
  obtain⟨e1,e2,e3,e4⟩:=UU (rs:=rs) (h:=cp.h) (ck:=some cp.r) (os:=os l.grp) (CH (a:=a) (os:=os l.grp) (ts:=ts) hl)
  exact⟨e1.trans f1,e2.trans f2,e3.trans f3,e4.trans f4⟩
 obtain⟨e1,e2,e3,e4⟩:=e
 refine⟨?_,⟨⟨(congrArg List.length e1).trans h.ok.wl,λw hw=>h.ok.w4 w (by rw[e1] at hw; exact hw),by rw[e2]; exact h.ok.fit⟩,b1,e3.trans h.hm,e4.trans h.gr,aj,λg hg=>by rw[e1,e2]; exact h.op g hg,h.WV⟩,WH (h.aj.fo _ g3) hcp hl (h.bd.cl cp (aQ hcp)).2.2⟩
 unfold comes at c1
 rw[cu,decide_eq_true_iff,tR] at c1
 unfold xP
 rw[if_pos c1.1,c1.2,if_neg (by decide)]
theorem RS{rs:List R5}{ws:List (List Nat)}(hw:ws=rs.map λr=>au r.d.toNat){n:Nat}(ok:∀ r∈rs,r.Ok n){r:Nat}(hr:r < rs.length)(k:Nat):i6 ws r k < dN rs r:=by
 unfold i6 dN
 rw[hw,ak,aa hr]
 show (au rs[r].d.toNat).getD (k % (au rs[r].d.toNat).length) 0 < rs[r].d.toNat
 rw[aZ]
 have d1:=(ok _ (aK hr)).d1
 have:k % rs[r].d.toNat < rs[r].d.toNat:=Nat.mod_lt _ (by omega)
 rw[av,fT this]
 exact this
theorem R7.start{o:gO ns rs}(h:WU ns rs cl s)(op:∀ g,g < 3->ie (xV ns rs o s.ws g) (s.R g) (os g))(WV:∀ g,g < 3->(os g).length<=12):R7 ns rs o cl os [] 0 s/\Ph ns.length rs s=0:=by
 have fo:∀ g,g < 3->Fo ns rs (os g):=λg hg=>Fo.of (op g hg)
 refine⟨⟨h.ok,h.bd,h.hm,h.gr,⟨fo,λg hg r hr k=>RS h.ws o.ok ((fo g hg).lt r hr) k,by rw[h.ls]; rfl,λg _ t ht=>(by rw[h.tt] at ht; cases ht),λi x to hi=>(by cases hi)⟩,op,WV⟩,?_⟩
 unfold Ph
 rw[h.ls,h.cp]
 rfl
end
section
variable{P:Program}{w:World}{K:af}{mg:Str->Option Value}{base:Heap}
theorem UW{c:NC}{H:Hp}{F:Addr->Prop}{p tp:Addr}{n:Nat}{s:NS}(N:d8 K c H F p tp n s){z:Addr}{u o:HO}(hz:Off H F z=some u)(nt:Aj u):d8 K c (upd H z o) F p tp n s:=by
 obtain⟨nf,hz'⟩:=qZ hz
 exact N.keep (λb v e fb=>cZ b v e λw=>nf (w ▸ fb)) (λb x=>cN.past hz' nt cZ)
noncomputable def ltV(p:Nat × Option Nat):List V:=[.int p.1,qW (p.2.map λy:Nat=>(y:Int))]
theorem or2{b1:Bool}{A R:Prop}(at_:Prop)(hA:at_->A)(h1:b1=true->at_)(hR:(at_->A)->¬ b1=true->R):if b1=true then A else R:=kH (λe=>hA (h1 e)) (λe=>hR hA e)
noncomputable def JU(cl:List (Nat × Nat))(x y:Nat):Bool:=decide ((cl.getD y (0,0)).2=(cl.getD x (0,0)).2)
inductive UX(K:af)(vs:List V)(H:Hp)(Q:VK)(E:XK):Prop
 | mk (a:Addr) (ns:List Int):vs = [.ref a]->bL K H a (ns.map V.int)->ns.length<=63->(∀ H',Q (.bl true) H')->UX K vs H Q E
theorem aap{t:Ad}(T:Txt K mg t):cj P w K mg base ig 9 t.Me t.Mf ["_law_script"]  (UX K):=by
 refine T.TZ.F.jK gP λH Q E hr h=>?_
 ·obtain⟨a,cs,rfl,hS,hlen,k⟩:=h
  refine⟨_,(ao (sS 1 gP (bf eZ aA (bf c7 (cG (fq T) hr T.fB (mZ (pv 0) aA)) aA))) (ao (sS 2 gP (bf c7 (cG (fq T) hr T.fB (mZ (pv 0) aA)) aA)) (ao (sS 3 gP (cG (OI T) hr T.Jq (Kh (pv 0) (pv 1) (pv 2)))) (ao (sS 4 gP (cG (K6 T) hr T.Ed (Kh (pv 0) (pv 1) (pv 2)))) (ao (sS 5 gP (cI T.Cg (IJ T) hr T.abQ (mZ (cI T.An (Hj T) hr T.Zo (mZ (cG (OH T) hr T.Jp (mZ (pv 0) (pv 1))) (gj gI (by rfl) T.uq boot_list (gC (pv 3))))) (gj gI (by rfl) T.uq boot_list (gC (pv 4)))))) (ao (fD (cG (Nc T) hr T.GH (Kh (pv 5) (pv 1) (pv 2)))) (ao (AR (i:=6) gP.nd rfl (Or.inl rfl) (kO gP ["_law_one","_law_net"] [none,some 5]) rfl (eu rfl T.gK (gC aA)) (λ_ _ _ _=>by exact (gS 0 Rm)) (λ_ _ _ _=>by exact lJ) (λ_ _ _ _=>by exact (cM (pv 1) T.bS T.yK (CD T) hr (gC (pv 0))))) (ao (sS 7 gP (ji gY)) (ao (fS (fE (oq Pd (pv 0) (nM aA) (nM aA))) (gT 8 gP) (ao (sS 9 gP (lS T.gf (jQ (pv 5) T.bS T.iE.m (uN T) (hr.mono (by decide)) T.iE.B .nil jR))) (bw (bX (PW.pt (uT (qT lH (bf c7 (pv 8) aA) aA) (vH (qT lH (pv 9) aA)))) (ao (sS 10 gP (bf c7 (bf dZ (pv 8) aA) (lS T.gf (pv 4)))) (ao (AR (i:=11) gP.nd rfl (Or.inl rfl) (kO gP ["_law_caller","_law_callers_here","_law_sender"] [none,some 4,some 10]) rfl (eu rfl T.gK (gC (lS T.gf (pv 4)))) (λ_ _ _ _=>by exact (gS 0 Rn)) (λ_ _ _ _=>by exact (nN (qT lH (yT K (yL K (pv 1) (pv 0)) aA) (yT K (yL K (pv 1) (pv 2)) aA)))) (λ_ _ _ _=>by exact (pv 0))) (ao (sS 12 gP (xL (pv 11) (bf c7 (bf dZ (pv 8) aA) (lS T.gf (pv 11))))) (ao (bX (qT lH (bf c7 (bf dZ (pv 8) aA) aA) aA) (bw (sS 12 gP gF)) aX) (ao (bX (qT qO (vI (pv 5) T.bS T.Oo (MT T) (hr.mono (by decide)) T.Om .nil jR (mZ (pv 10) (pv 12))) (lS T.gf (pv 7))) oB aX) (oE (p9 bq bz bx eB (pv 7) (gC (fK (mZ (pv 10) (pv 12))))))))))) (bw (bX (qT qO (vI (pv 5) T.bS T.As (zF T) (hr.mono (by decide)) T.Ar .nil jR (gC (bf c7 (bf dZ (pv 8) aA) (pv 9)))) fW) oB aX)))))) (ao (fS (eu rfl T.gK (gC (bf J3 (bf J3 aA (lS T.gf (pv 3))) (lS T.gf (pv 7))))) (gT 13 gP) (ao (sS 9 gP (lS T.gf (jQ (pv 5) T.bS T.iE.m (uN T) (hr.mono (by decide)) T.iE.B .nil jR))) (bw (bX (PW.pt (AN (qT Lv (pv 9) aA) (zJ (qT qO (vI (pv 5) T.bS T.As (zF T) (hr.mono (by decide)) T.Ar .nil jR (gC (bf c7 (cG (fq T) hr T.fB (mZ (pv 0) (bf eZ aA (bf c7 (pv 13) aA)))) (pv 9)))) fW)))) oB aX)))) (ao (bX (qT NQ (jQ (pv 5) T.bS T.iE.m (uN T) (hr.mono (by decide)) T.iE.B .nil jR) (ji gY)) oB aX) (ao (fS (eu rfl T.gK (gC (lS T.gf (pv 7)))) (gT 14 gP) (ao (J1 (xL (pv 7) (pv 14)) (J0 (n:=2) rfl (om (gT 10 gP) (om (gT 12 gP) E5)))) (bw (bX (gW (qM (cG (OT T) hr T.Jr (aN6 (pv 3) (xL (pv 6) (xT (xL (pv 4) (pv 10)) aA)) (pv 4) (pv 10) (pv 12) (cM (pv 5) T.bS T.Ec (La T) hr (gC (pv 14))))))) oB aX)))) oB)))))))))))),?_⟩
  try dsimp only[bJ]
  refine bF λNx b9=>?_
  refine⟨_,rfl,a,cs,0,rfl,hS,by decide,_,_,rfl,rfl,(by show (0:Int) < 10; decide),_,_,rfl,rfl,?_⟩
  obtain⟨n,hn,hn1,RT⟩ : ∃ n:Nat,1 + cs.getD (0:Int).toNat 0 % 10=(n:Int)/\1<=n/\n<=10:=by
   have h1:=bR (cs.getD (0:Int).toNat 0) (show (10:Int)≠0 by decide)
   have h2:=bY (cs.getD (0:Int).toNat 0) (show (0:Int) < 10 by decide)
   exact⟨(1 + cs.getD (0:Int).toNat 0 % 10).toNat,by omega,by omega,by omega⟩
  show gX 1 (V.int (1 + cs.getD (0:Int).toNat 0 % 10)) _ _ _
  rw[hn]
  clear hn
  refine b9 _ _ ?_
  clear b9 Nx
  refine bF λNx b9=>?_
  refine⟨_,rfl,a,cs,1,rfl,hS,by decide,_,_,rfl,rfl,(by show (0:Int) < 3; decide),?_⟩
  obtain⟨g,hge,hg⟩ : ∃ g:Nat,cs.getD (1:Int).toNat 0 % 3=(g:Int)/\g < 3:=Ab _ (by decide)
  show gX 2 (V.int (cs.getD (1:Int).toNat 0 % 3)) _ _ _
  rw[hge]
  clear hge
  refine b9 _ _ ?_
  clear b9 Nx
  refine bF λNx b9=>?_
  refine⟨_,rfl,_,rfl,_,rfl,a,cs,n,g,rfl,hS,hn1,RT,hg,λb0 H1 rs s1 hb0 hR1 l14 ok hnm=>b9 _ _ ?_⟩
  clear b9 Nx
  refine bF λNx b9=>?_
  refine⟨_,rfl,_,rfl,_,rfl,a,cs,n,g,rfl,s1.seq hS,hn1,RT,hg,λcb qs H2 cl s2 af9 hcb Uz hc1 Uw WW=>b9 _ _ ?_⟩
  clear b9 Nx
  have s12:=s1.trans s2
  refine bF λNx b9=>?_
  refine⟨_,rfl,_,rfl,a,cs,n,rfl,s12.seq hS,hn1,RT,λa0 H3 ns s3 ha0 hA3 eln nd nn=>?_⟩
  subst eln
  have s13:=s12.trans s3
  obtain⟨us,hB1,ac3⟩:=hR1
  have hB3:=(s2.trans s3) _ _ hB1
  have aaq:cS K H3 us (rs.map R5.vs):=ac3.mono λb x=>(s2.trans s3).b5
  have Ll:=s3 _ _ hcb
  have aar:cS K H3 qs (cl.map λc=>[.int c.1,.int c.2]):=Uz.mono λb x=>s3.b5
  have hS3:=s13.seq hS
  have tok:gO ns rs:=⟨nd,ok,hn1,RT,by omega,nn⟩
  have hw4:∀ r∈rs,1<=r.d/\r.d<=4:=λr hr'=>⟨(ok r hr').d1,(ok r hr').d4⟩
  have he7:∀ r∈rs,1<=r.e/\r.e<=7:=λr hr'=>⟨(ok r hr').e1,(ok r hr').e7⟩
  clear s1 s2 s3 s12 s13 hB1 ac3 ha0 hb0 af9 hS hcb Uz
  refine⟨_,rfl,b0,_,rfl,.inl (bL.of hB3),λl2 h2=>?_⟩
  have t2:=aE.new (o:=.lst (us.map V.ref)) h2
  have hl2:=ay (H:=H3) (a:=l2) (o:=.lst (us.map V.ref))
  generalize upd H3 l2 (.lst (us.map V.ref))=H4 at t2 hl2
  refine λtp dx np ZG nep=>?_
  have t7:aE H4 (upd (upd H4 dx (.own tp)) tp (.ins t.bK dx [])):=(aE.new ZG).trans (aE.new (by rw[aI (bT nep)]; exact np))
  refine⟨tp,dx,a0,l2,ns,rs,rfl,ay,bL.of (t7 _ _ (t2 _ _ hA3)),⟨l2,_,rfl,bL.of (t7 _ _ hl2),HX.Xp (l:=l2) (aaq.mono λb x=>(t2.trans t7).b5)⟩,hn1,RT,nn,nd,by omega,ok,λln lr H5 hln hlr hT kp=>⟨rfl,?_⟩⟩
  have t5:aE H3 H5:=t2.trans λb o e=>kp b o (t7 b o e) (aR e np)
  clear kp hlr hln t7 nep ZG np hl2 t2 h2
  refine⟨_,rfl,cb,_,rfl,.inl (bL.of (t5 _ _ Ll)),λl3 h3=>?_⟩
  have t6:=aE.new (o:=.lst (qs.map V.ref)) h3
  have hl3:=ay (H:=H5) (a:=l3) (o:=.lst (qs.map V.ref))
  have hT6:=hT.mono t6
  have t36:=t5.trans t6
  generalize upd H5 l3 (.lst (qs.map V.ref))=H6 at t6 hl3 hT6 t36
  clear h3 t6 hT t5
  refine λp CL npp ZG nep=>?_
  have t7:aE H6 (upd (upd H6 CL (.own p)) p (.ins t.cJ CL [])):=(aE.new ZG).trans (aE.new (by rw[aI (bT nep)]; exact npp))
  refine⟨p,CL,tp,ln,lr,l3,ns,rs,qs,cl,rfl,ay,hT6.mono t7,by omega,by omega,hw4,bL.of (t7 _ _ hl3),aar.mono λb x=>(t36.trans t7).b5,Uw,WW,λF H7 N kp fr=>⟨rfl,b9 _ _ ?_⟩⟩
  clear b9 Nx
  have S7:aE H6 (Off H7 F):=TF t7 npp kp fr
  have hT7:=hT6.mono S7
  have S37:=t36.trans S7
  have s37:=S37.trans eX
  clear kp fr t7 nep ZG npp hl3 t36 hT6 S7
  have i7:=aao tok Uw WW
  generalize S0 ns rs cl=st at N i7
  refine bF λNx b9=>?_
  refine⟨_,rfl,_,rfl,_,rfl,F,p,tp,ln,lr,ns,rs,cl,st,g,rfl,tok,hT7.nw N (λb z=>z),i7,hg,λs8 F8 H8 N8 i8 R6=>b9 _ _ ?_⟩
  clear b9 Nx
  have hN8:=N8.eY
  have o8:=gZ R6
  have hT8:=hT7.mono o8
  have S38:=S37.trans o8
  have nF8:∀ b,H8 b=none->¬ F8 b:=λb e z=>by
   obtain⟨o,h⟩:=hN8.there z
   rw[e] at h
   cases h
  clear N8 N i7 R6 o8 hT7 S37 s37 st
  obtain⟨loc,dxx,q,hp,O,hF,hT⟩:=id hN8
  have JM:=O.get .eY _ rfl
  rw[hp] at JM
  clear hp O hF hT
  refine bF λNx b9=>?_
  refine⟨3,rfl,by decide,by decide,λlo hlo=>?_⟩
  refine gB (n:=((3:Int)).toNat) (λi ys H9=>∃ R8:List Addr,ys=R8.map V.ref/\R8.length=i/\∀ (j:Nat) l,R8[j]?=some l->l≠lo/\¬ F8 l/\∃ os',H9 l=some (.lst (bO os'))/\ie (xV ns rs tok s8.ws j) (s8.R j) os'/\os'.length<=12) hlo AU qQ ⟨[],rfl,rfl,λj l e=>by cases e⟩ ?_ ?_
  ·rintro i ys H0 hi s9 hy ⟨R8,rfl,OM,WX⟩ y H9 ⟨rfl,rfl⟩
   rw[eU]
   have hi3:i < 3:=by simpa using hi
   refine⟨_,rfl,p,_,_,rfl,s9 _ _ JM,rfl,_,rfl,F8,p,tp,ln,lr,ns,rs,s8,tok,i,rfl,(hT8.mono (c5 (F:=F8) s9)).nw (hN8.mono s9) (λb z=>z),i8.ok,hi3,λl os' E9 FT Kc hl hO h12=>?_⟩
   have hne:l≠lo:=λz=>by rw[z,hy] at Kc; cases Kc
   refine eV hlo hi (s9.trans FT) (FT _ _ hy) (by rw[ah]; exact b4 (by omega)) ⟨R8++[l],by rw[aJ]; rfl,by rw[aB,OM]; rfl,λj l' e=>?_⟩
   by_cases z:j < R8.length
   ·rw[bB z] at e
    obtain⟨n1,n2,os2,h1,h2⟩:=WX j l' e
    exact⟨n1,n2,os2,by rw[aI n1]; exact FT _ _ h1,h2⟩
   ·have hjl:=(ai.mp e).1
    rw[aB] at hjl
    have ej:j=i:=by simp at hjl; omega
    subst ej
    rw[<- OM,bD (az _),dX] at e
    cases e
    exact⟨hne,nF8 l (s9.free Kc),os',by rw[aI hne]; exact hl,hO,h12⟩
  rintro ys H9 s9 WX ⟨R8,rfl,OM,ac6⟩
  have OM:R8.length=3:=OM
  obtain⟨os,hos⟩:=Classical.axiomOfChoice (r:=λ(g:Nat) (os':List Nat)=>g < 3->(∃ l,R8[g]?=some l/\¬ F8 l/\H9 l=some (.lst (bO os')))/\ie (xV ns rs tok s8.ws g) (s8.R g) os'/\os'.length<=12) (λg=>by
   by_cases z:g < 3
   ·obtain⟨_,n2,os',h1,h2,h3⟩:=ac6 g (R8[g]'(by omega)) (aa _)
    exact⟨os',λ_=>⟨⟨_,aa (by omega),n2,h1⟩,h2,h3⟩⟩
   ·exact⟨[],λy=>absurd y z⟩)
  obtain⟨z9,ph9⟩:=R7.start (os:=os) i8 (λg hg=>(hos g hg).2.1) (λg hg=>(hos g hg).2.2)
  have N9:=hN8.mono s9
  have o9:=c5 (F:=F8) s9
  have hT9:=hT8.mono o9
  have S39:=S38.trans o9
  have ac7:Off H9 F8 lo=some (.lst (R8.map V.ref)):=vQ (nF8 lo hlo) WX
  have agg:∀ g,g < 3->∃ l,R8[g]?=some l/\Off H9 F8 l=some (.lst (bO (os g))):=λg hg=>by
   obtain⟨l,e1,e2,e3⟩:=(hos g hg).1
   exact⟨l,e1,vQ e2 e3⟩
  have fo:∀ g,g < 3->Fo ns rs (os g):=λg hg=>Fo.of (hos g hg).2.1
  refine b9 _ _ ?_
  clear b9 Nx ac6 hos o9 S38 hT8 hN8 i8 JM s9
  have hS9:=S39.seq hS3
  have aas:=S39 _ _ Ll
  have aat:cS K (Off H9 F8) qs (cl.map λc=>[.int c.1,.int c.2]):=aar.mono λb x=>S39.b5
  have hB9:HX K (Off H9 F8) b0 rs:=⟨us,S39 _ _ hB3,aaq.mono λb x=>S39.b5⟩
  have nF9:∀ b,H9 b=none->¬ F8 b:=λb e z=>by
   obtain⟨o,h⟩:=N9.there z
   rw[e] at h
   cases h
  clear S39 hS3 Ll aar hB3 aaq hA3 nF8 hlo WX
  refine bF λNx b9=>?_
  refine⟨aV _,λlt hlt=>b9 _ _ ?_⟩
  clear b9 Nx
  have agh:Off H9 F8 lt=none:=by
   cases e:Off H9 F8 lt with
   | none=>rfl
   | some o=>rw[eX _ _ e] at hlt; cases hlt
  have U9:=aE.new (o:=.lst []) hlt
  have UY:Off (upd H9 lt (.lst [])) F8 lt=some (.lst []):=vQ (nF9 lt hlt) ay
  have N10:=N9.mono U9
  have o10:=c5 (F:=F8) U9
  generalize upd H9 lt (.lst [])=E9 at U9 UY N10 o10
  obtain⟨zs,ezs,hzl⟩ : ∃ zs:List Int,x9 (cs.map V.int) (some 30) (some 50)=zs.map V.int/\zs.length<=20:=Tg cs 30 50
  refine bF λNx b9=>?_
  refine⟨_,rfl,_,rfl,_,rfl,a,_,rfl,(o10.trans eX).seq hS9,λlz hlz=>?_⟩
  rw[ezs]
  have agk:¬ F8 lz:=nF9 lz (U9.free hlz)
  have nlz:lz≠lt:=bT (aR (eX _ _ UY) hlz)
  have Nb:=aE.new (o:=.lst (zs.map V.int)) hlz
  have UZ:Off (upd E9 lz (.lst (zs.map V.int))) F8 lz=some (.lst (zs.map V.int)):=vQ agk ay
  have N11:=N10.mono Nb
  have Wl:=o10.trans (c5 (F:=F8) Nb)
  have Yj:=c5 (F:=F8) Nb _ _ UY
  generalize upd E9 lz (.lst (zs.map V.int))=Pg at Nb UZ N11 Wl Yj
  have eqs:qs.length=cl.length:=by rw[aat.len,ah]
  have ac8:(((qs.map V.ref).length:Nat):Int)=(cl.length:Int):=by rw[ah,eqs]
  have eg:∀ {y:Nat} (hy:y < cl.length),(cl.getD y (0,0))=cl[y]:=λ{y} hy=>by rw[av,aa hy]; rfl
  have atc:∀ {y:Nat} (hy:y < cl.length),ED (qs.map V.ref) (y:Int)=some (.ref (qs[y]'(by omega)))/\cN K (Off H9 F8) (qs[y]'(by omega)) [.int cl[y].1,.int cl[y].2]:=λ{y} hy=>⟨dM (by rw[ak,aa]; rfl),aat.at' y _ _ (aa _) (by rw[ak,aa hy]; rfl)⟩
  refine⟨lz,rfl,⟨_,bL.of (eX _ _ UZ)⟩,zN (K:=K) (a:=lz) (xs:=zs.map V.int) (λj σ H2=>∃ (s2:NS) (F2:Addr->Prop) (Ls:List (Nat × Option Nat)) (qt:List Addr) (v8 v9 v10 v11 Ni:Option V),d8 K (nc t) H2 F2 p tp ns.length s2/\R7 ns rs tok cl os Ls (100 * j) s2/\Ls.length<=j/\Ph ns.length rs s2<=2 * rs.length * Ls.length/\aE (Off H9 F8) (Off H2 F2)/\Off H2 F2 lz=some (.lst (zs.map V.int))/\Off H2 F2 lt=some (.lst (qt.map V.ref))/\cS K (Off H2 F2) qt (Ls.map ltV)/\σ = [some (.ref a),some (.int (ns.length:Nat)),some (.int g),some (.ref b0),some (.ref cb),some (.ref p),some (.ref lo),some (.ref lt),v8,v9,v10,v11,Ni,none,none]) ⟨s8,F8,[],[],_,_,_,_,_,N11,z9,az _,by rw[ph9]; exact aV _,Wl,UZ,Yj,⟨rfl,λi q x e=>by cases e⟩,rfl⟩ (λj σ H2 _ z=>?_) ?_ ?_⟩
  ·obtain⟨s2,F2,Ls,qt,v8,v9,v10,v11,Ni,_,_,_,_,_,h6,_⟩:=z
   exact bL.of (eX _ _ h6)
  ·rintro j y σ H2 Nf zZ hj ⟨s2,F2,Ls,qt,v8,v9,v10,v11,Ni,N2,z2,hLj,hph,o2,WY,U0,U1,rfl⟩
   have hjl:j < zs.length:=by
    have:=(ai.mp hj).1
    rw[ah] at this
    exact this
   rw[ak,aa hjl] at hj
   cases hj
   generalize zs[j]=cell
   obtain⟨loc,dxx,q,hp,O,hF,hT⟩:=id N2
   have EB:=O.get .eY _ rfl
   rw[hp] at EB
   clear hp O hF hT
   refine bF λNx b9=>?_
   refine⟨_,rfl,p,_,_,rfl,EB,rfl,F2,p,tp,ns.length,s2,rfl,N2,λlf qf H3 w3 U3 Yk Yl=>⟨lf,_,rfl,.inl (bL.of Yk),?_⟩⟩
   rw[ah,show qf.length=s2.cps.length by rw[Yl.len,ah]]
   refine b9 _ _ ?_
   clear b9 Nx Yl Yk U3
   have N3:=N2.mono w3
   have o3:=o2.trans (c5 (F:=F2) w3)
   have aau:=c5 (F:=F2) w3 _ _ WY
   have E4:=c5 (F:=F2) w3 _ _ U0
   have Nd:cS K (Off H3 F2) qt (Ls.map ltV):=U1.mono λb x=>(c5 (F:=F2) w3).b5
   have jI:=w3 _ _ EB
   clear U1 U0 WY o2 N2 EB w3
   have Ll:H3 cb=some (.lst (qs.map V.ref)):=eX _ _ (o3 _ _ aas)
   have W3:NW K (nc t) t.bK H3 F2 p tp ln lr ns rs s2:=(hT9.mono o3).nw N3 (λb z=>z)
   have hD:100 * (j + 1)<=2100:=by omega
   refine⟨_,rfl,_,_,rfl,rfl,(by show (0:Int) < 3; decide),rfl,_,rfl,or2 True (λ_=>?_) (λ_=>trivial) (λfV e=>?_)⟩
   ·
    obtain⟨x,ex,hx⟩:=Ab (cell / 3) (show 0 < cl.length by omega)
    refine fL ?_
    refine bF λNx b9=>?_
    refine⟨_,rfl,_,_,rfl,rfl,⟨by decide,by decide⟩,_,rfl,cb,_,rfl,.inl (bL.of Ll),_,_,rfl,rfl,(by rw[ac8]; omega),?_⟩
    dsimp only
    rw[ac8,ex]
    refine b9 _ _ ?_
    clear b9 Nx ex
    refine bF λNx b9=>?_
    refine⟨_,rfl,cb,_,rfl,.inl (bL.of Ll),(((qs.map V.ref).length:Nat):Int),rfl,by omega,by rw[ah]; omega,λacc hacc=>?_⟩
    rw[ah,eqs]
    have aav:∀ {y:Nat} (hy:y < cl.length),cN K H3 (qs[y]'(by omega)) [.int cl[y].1,.int cl[y].2]:=λ{y} hy=>eX.b5 (o3.b5 (atc hy).2)
    refine gB (n:=((cl.length:Int)).toNat) (λi ys _=>ys=bO ((au i).filter (JU cl x))) hacc AU qQ rfl ?_ ?_
    ·rintro i ys H0 hi s4 hy rfl v H4 ⟨rfl,rfl⟩
     rw[eU]
     have hic:i < cl.length:=by omega
     refine⟨_,rfl,_,rfl,iu (bL.of (s4 _ _ Ll)) (atc hic).1 (c8 (s4.b5 (aav hic)) rfl ⟨_,rfl,_,rfl,iu (bL.of (s4 _ _ Ll)) (atc hx).1 (c8 (s4.b5 (aav hx)) rfl ⟨rfl,_,rfl,?_⟩)⟩)⟩
     have ed:decide (V.int ((cl[i].2:Nat):Int)=V.int ((cl[x].2:Nat):Int))=JU cl x i:=by
      unfold JU
      rw[eg hic,eg hx,decide_eq_decide]
      exact⟨λz=>by have:=V.int.inj z; omega,λz=>by rw[z]⟩
     rw[ed]
     refine kH (λhc=>?_) (λhc=>?_)
     ·refine⟨_,rfl,?_⟩
      refine eV hacc hi s4 hy ?_ ?_
      ·rw[ah]
       refine b4 (aO (bW _ _) ?_)
       rw[aZ]; omega
      ·rw[xh,if_pos hc,ir]
     ·refine iP hi s4 hy ?_
      rw[xh,if_neg hc,bQ]
    rintro ys H4 w4 hy rfl
    rw[dP] at hy
    have hmem:∀ y∈(au cl.length).filter (JU cl x),y < cl.length/\(cl.map (·.2))[y]?=(cl.map (·.2))[x]?:=λy z=>by
     obtain⟨z1,z2⟩:=bM.mp z
     have hy:=bE.mp z1
     refine⟨hy,?_⟩
     have:=of_decide_eq_true z2
     rw[eg hy,eg hx] at this
     rw[ak,ak,aa hy,aa hx]
     exact congrArg some this
    have hxm:x∈(au cl.length).filter (JU cl x):=bM.mpr ⟨bE.mpr hx,decide_eq_true rfl⟩
    generalize (au cl.length).filter (JU cl x)=ms at hy hmem hxm
    refine b9 _ _ ?_
    clear b9 Nx aav
    have N4:=N3.mono w4
    have o4:=o3.trans (c5 (F:=F2) w4)
    have agm:=c5 (F:=F2) w4 _ _ aau
    have Lh:=c5 (F:=F2) w4 _ _ E4
    have WZ:cS K (Off H4 F2) qt (Ls.map ltV):=Nd.mono λb x=>(c5 (F:=F2) w4).b5
    have xO:=w4 _ _ jI
    have W4:=W3.mono w4
    clear Nd E4 aau o3 N3 jI W3 Ll
    have hml:0 < ms.length:=List.length_pos_of_mem hxm
    obtain⟨i1,e1,hi1⟩:=Ab (cell / 18) hml
    refine bF λNx b9=>?_
    refine⟨_,rfl,_,rfl,_,_,rfl,rfl,⟨by decide,by decide⟩,_,rfl,acc,_,rfl,.inl (bL.of hy),_,_,rfl,rfl,(by show (0:Int) < (((bO ms).length:Nat):Int); rw[ah]; omega),?_⟩
    dsimp only
    rw[ah,e1]
    refine⟨acc,_,_,_,rfl,rfl,bL.of hy,qY hi1,b9 _ _ ?_⟩
    clear b9 Nx e1
    have hm1:=hmem _ (aK hi1)
    generalize ms[i1]=y1 at hm1
    refine vO (λσ H5=>H5=H4/\∃ to:Option Nat,(∀ y,to=some y->y < cl.length/\(cl.map (·.2))[y]?=(cl.map (·.2))[x]?)/\σ = [some (.ref a),some (.int (ns.length:Nat)),some (.int g),some (.ref b0),some (.ref cb),some (.ref p),some (.ref lo),some (.ref lt),some (.int cell),some (.int (s2.cps.length:Nat)),some (.int (x:Nat)),some (.ref acc),some (qW (to.map λy:Nat=>(y:Int))),none,none]) ?_ λN' nx=>?_
    case refine_2 =>
     refine⟨_,rfl,_,_,rfl,rfl,⟨by decide,by decide⟩,_,_,rfl,rfl,(by show (0:Int) < 2; decide),rfl,_,rfl,kH (λe=>?_) (λe=>?_)⟩
     ·exact nx _ _ ⟨rfl,none,λy z=>(by cases z),rfl⟩
     ·exact nx _ _ ⟨rfl,some y1,λy z=>(by cases z; exact hm1),rfl⟩
    rintro σ H5 ⟨rfl,to,hto,rfl⟩
    clear hm1 hi1 hml hmem hxm
    have hxh:x < s2.aH.length:=by rw[z2.hm,ah]; exact hx
    have ada:∀ y,to=some y->y < s2.aH.length/\s2.groups[y]?=s2.groups[x]?:=λy e=>by
     rw[z2.hm,ah,z2.gr]
     exact hto y e
    refine bF λNx b9=>?_
    refine⟨_,rfl,p,_,_,rfl,xO,rfl,_,rfl,_,rfl,F2,p,tp,ln,lr,ns,rs,s2,tok,x,to,100 * j,rfl,W4,z2.ok,z2.bd,by omega,hxh,ada,λos' F6 H6 hO h12 W6 st6=>?_⟩
    obtain⟨z6,ph6⟩:=z2.post hxh ada hO
    have o6:=o4.trans (gZ st6)
    have agn:=gZ st6 _ _ agm
    have UO:=gZ st6 _ _ Lh
    have adb:cS K (Off H6 F6) qt (Ls.map ltV):=WZ.mono λb x=>(gZ st6).b5
    have eqt:qt.length=Ls.length:=by rw[adb.len,ah]
    have ell:s2.ls.length=Ls.length:=by have:=z2.aj.ll; omega
    refine⟨_,rfl,lt,_,rfl,.inl (bL.of (eX _ _ UO)),rfl,_,rfl,?_⟩
    rw[show decide (V.int ((s2.ls.length:Nat):Int)=V.int (((qt.map V.ref).length:Nat):Int))=true from decide_eq_true (by rw[ah,eqt,ell])]
    refine cP (b9 _ _ ?_)
    clear b9 Nx
    generalize zE rs s2 x to os'=s6 at z6 ph6 W6
    refine⟨_,rfl,.inl ⟨rfl,_,bL.of (eX _ _ UO)⟩,_,rfl,_,rfl,(by show 2<=sizeLine; decide),λz hz=>?_⟩
    have u7:=aE.new (o:=.tup [V.int (x:Nat),qW (to.map λy:Nat=>(y:Int))]) hz
    have hz7:=ay (H:=H6) (a:=z) (o:=.tup [V.int (x:Nat),qW (to.map λy:Nat=>(y:Int))])
    generalize upd H6 z (.tup [V.int (x:Nat),qW (to.map λy:Nat=>(y:Int))])=H7 at u7 hz7
    have N7:=W6.eY.mono u7
    have o7:=o6.trans (c5 (F:=F6) u7)
    have ago:=c5 (F:=F6) u7 _ _ agn
    have W0:=c5 (F:=F6) u7 _ _ UO
    have agp:cS K (Off H7 F6) qt (Ls.map ltV):=adb.mono λb x=>(c5 (F:=F6) u7).b5
    refine⟨lt,_,_,rfl,rfl,eX _ _ W0,(by rw[ah]; exact b4 (by omega)),zZ _ _ ?_⟩
    have eO:=VY (H:=H7) (o:=.lst (qt.map V.ref++[.ref z])) (qZ W0).1
    refine⟨s6,F6,Ls++[(x,to)],qt++[z],_,_,_,_,_,UW N7 W0 pq,⟨z6.ok,z6.bd,z6.hm,z6.gr,z6.aj,z6.op,z6.WV⟩,by rw[aB]; exact m5 hLj 1,?_,?_,?_,?_,?_,rfl⟩
    ·rw[aB,List.length_singleton,Nat.mul_add,Nat.mul_one]
     omega
    ·rw[eO]; exact o7.out agh
    ·rw[eO,aI nlz]; exact ago
    ·rw[eO,ay,aJ]; rfl
    ·rw[eO,aJ]
     exact (agp.snoc (N7.aeL (cN.of hz7))).mono λb x=>cN.past W0 pq cZ
   ·refine⟨_,rfl,rfl,_,rfl,kH (λe2=>fV trivial) (λe2=>?_)⟩
    have hc0:0 < s2.cps.length:=by
     rcases Nat.eq_zero_or_pos s2.cps.length with z | z
     ·exact absurd (decide_eq_true (by rw[z]; rfl)) e2
     ·exact z
    obtain⟨a1,ea,ha1⟩:=Ab (cell / 3) hc0
    obtain⟨hal,hcp⟩ : ∃ cp,s2.cps[a1]?=some cp:=⟨_,aa ha1⟩
    obtain⟨l1,hl1⟩ : ∃ l,s2.ls[hal.l]?=some l:=⟨_,aa (z2.bd.cl hal (aQ hcp)).1⟩
    refine⟨_,rfl,p,_,_,rfl,jI,rfl,_,rfl,_,_,rfl,rfl,⟨by decide,by decide⟩,_,rfl,_,_,rfl,rfl,(by show (0:Int) < (s2.cps.length:Int); omega),?_⟩
    dsimp only
    rw[ea]
    refine⟨F2,p,tp,ln,lr,ns,rs,s2,tok,a1,100 * j,hal,l1,rfl,W3,z2.ok,z2.bd,by omega,hcp,hl1,λos' ts F4 H4 hO h12 pt oe W4 HW=>?_⟩
    obtain⟨ef,z4,ph4⟩:=z2.pass hcp hl1 hO pt oe
    rw[ef]
    refine⟨rfl,_,rfl,?_⟩
    rw[show decide (V.str "come" = V.str (Str.ofString "come"))=true from by decide +kernel]
    refine cP (zZ _ _ ⟨_,F4,Ls,qt,_,_,_,_,_,W4.eY,z4,by omega,by omega,o3.trans (gZ HW),gZ HW _ _ aau,gZ HW _ _ E4,Nd.mono λb x=>(gZ HW).b5,rfl⟩)
  ·rintro σ H2 ⟨s2,F2,Ls,qt,v8,v9,v10,v11,Ni,N2,z2,hLj,hph,o2,WY,U0,U1,rfl⟩
   refine b9 _ _ ?_
   clear b9 Nx WY
   rw[ah] at z2 hLj
   have agq:R7 ns rs tok cl os Ls 2000 s2:=⟨z2.ok,z2.bd.mono (by omega),z2.hm,z2.gr,z2.aj,z2.op,z2.WV⟩
   have agr:Ls.length<=20:=by omega
   have eqt:qt.length=Ls.length:=by rw[U1.len,ah]
   clear z2 hLj
   obtain⟨us2,hB2,adf⟩:=hB9
   have XC:us2.length=rs.length:=by rw[adf.len,ah]
   have hmul:2 * rs.length * Ls.length<=560:=aO (Nat.mul_le_mul (Nat.mul_le_mul_left 2 l14) agr) (by decide)
   generalize en2:2 * rs.length * Ls.length=n2 at hph hmul
   have agt:2 * (((us2.map V.ref).length:Nat):Int) * (((qt.map V.ref).length:Nat):Int)=(n2:Int):=by
    rw[ah,ah,XC,eqt,<- en2]
    simp
   refine bF λNx b9=>?_
   refine⟨_,rfl,b0,_,rfl,.inl (bL.of (eX _ _ (o2 _ _ hB2))),_,_,rfl,rfl,.inl ⟨by decide,by decide⟩,_,rfl,lt,_,rfl,.inl (bL.of (eX _ _ U0)),_,_,rfl,rfl,?_,(n2:Int),congrArg (λz=>[V.int z]) agt,by omega,by omega,qS (n:=((n2:Int)).toNat) (λi σ H3=>∃ (s3:NS) (F3:Addr->Prop) (v8 v9 v10 v11 Ni v13:Option V),d8 K (nc t) H3 F3 p tp ns.length s3/\R7 ns rs tok cl os Ls (2000 + 100 * i) s3/\(s3.cps = []∨Ph ns.length rs s3 + i<=n2)/\aE (Off H9 F8) (Off H3 F3)/\Off H3 F3 lt=some (.lst (qt.map V.ref))/\cS K (Off H3 F3) qt (Ls.map ltV)/\σ = [some (.ref a),some (.int (ns.length:Nat)),some (.int g),some (.ref b0),some (.ref cb),some (.ref p),some (.ref lo),some (.ref lt),v8,v9,v10,v11,Ni,v13,none]) ⟨s2,F2,_,_,_,_,_,_,N2,agq,.inr hph,o2,U0,U1,rfl⟩ ?_ ?_⟩
   ·refine .inr ⟨?_,?_⟩ <;> rw[ah,eqt] <;> omega
   ·rintro i σ H3 Nf zZ hi ⟨s3,F3,v8,v9,v10,v11,Ni,v13,N3,z3,hc3,o3,E4,Nd,rfl⟩
    rw[eU]
    have hi':i < n2:=by simpa using hi
    obtain⟨loc,dxx,q,hp,O,hF,hT⟩:=id N3
    have jI:=O.get .eY _ rfl
    rw[hp] at jI
    clear hp O hF hT
    refine bF λNx b9=>?_
    refine⟨_,rfl,p,_,_,rfl,jI,rfl,F3,p,tp,ns.length,s3,rfl,N3,λlf qf H4 w4 U3 Yk Yl=>⟨lf,_,rfl,.inl (bL.of Yk),?_⟩⟩
    rw[ah,show qf.length=s3.cps.length by rw[Yl.len,ah]]
    refine b9 _ _ ?_
    clear b9 Nx Yl Yk U3
    have N4:=N3.mono w4
    have o4:=o3.trans (c5 (F:=F3) w4)
    have Lh:=c5 (F:=F3) w4 _ _ E4
    have WZ:cS K (Off H4 F3) qt (Ls.map ltV):=Nd.mono λb x=>(c5 (F:=F3) w4).b5
    have xO:=w4 _ _ jI
    have W4:NW K (nc t) t.bK H4 F3 p tp ln lr ns rs s3:=(hT9.mono o4).nw N4 (λb z=>z)
    refine⟨_,rfl,_,_,rfl,rfl,_,rfl,?_⟩
    by_cases hc0:0 < s3.cps.length
    case neg =>
     have ec:s3.cps = []:=gM.mp (by omega)
     rw[show decide ((0:Int) < ((s3.cps.length:Nat):Int))=false from decide_eq_false (by omega)]
     exact cP (zZ _ _ ⟨s3,F3,_,_,_,_,_,_,N4,⟨z3.ok,z3.bd.mono (by omega),z3.hm,z3.gr,z3.aj,z3.op,z3.WV⟩,.inl ec,o4,Lh,WZ,rfl⟩)
    rw[show decide ((0:Int) < ((s3.cps.length:Nat):Int))=true from decide_eq_true (by omega)]
    have akx:=bR (i:Int) (show (20:Int)≠0 by decide)
    have aky:=bY (i:Int) (show (0:Int) < 20 by decide)
    refine fL ⟨_,rfl,p,_,_,rfl,xO,rfl,_,rfl,_,rfl,_,_,rfl,rfl,(by show (0:Int) < 20; decide),_,_,rfl,rfl,a,cs,_,rfl,(o4.trans eX).seq hS9,?_,_,rfl,_,_,rfl,rfl,(by show (0:Int) < (s3.cps.length:Int); omega),?_⟩
    ·show (0:Int)<=30 + (i:Int) % 20
     omega
    dsimp only
    generalize cs.getD _ 0=cell
    obtain⟨a1,ea,ha1⟩:=Ab cell hc0
    obtain⟨cp,hcp⟩ : ∃ cp,s3.cps[a1]?=some cp:=⟨_,aa ha1⟩
    obtain⟨l1,hl1⟩ : ∃ l,s3.ls[cp.l]?=some l:=⟨_,aa (z3.bd.cl cp (aQ hcp)).1⟩
    rw[ea]
    refine⟨F3,p,tp,ln,lr,ns,rs,s3,tok,a1,2000 + 100 * i,cp,l1,rfl,W4,z3.ok,z3.bd,by omega,hcp,hl1,λos' ts F5 H5 hO h12 pt oe W5 IQ=>?_⟩
    obtain⟨ef,z5,ph5⟩:=z3.pass hcp hl1 hO pt oe
    rw[ef]
    refine⟨rfl,_,rfl,?_⟩
    rw[show decide (V.str "come" = V.str (Str.ofString "come"))=true from by decide +kernel]
    refine cP (zZ _ _ ⟨_,F5,_,_,_,_,_,_,W5.eY,z5,.inr ?_,o4.trans (gZ IQ),gZ IQ _ _ Lh,WZ.mono λb x=>(gZ IQ).b5,rfl⟩)
    rcases hc3 with z | z
    ·rw[z] at hc0
     exact absurd hc0 (by decide)
    ·omega
   ·rintro σ H3 ⟨s3,F3,v8,v9,v10,v11,Ni,v13,N3,z3,hc3,o3,E4,Nd,rfl⟩
    refine b9 _ _ ?_
    clear b9 Nx
    rw[dP] at z3 hc3
    have ec:s3.cps = []:=by
     rcases hc3 with z | z
     ·exact z
     ·have:s3.cps.length<=Ph ns.length rs s3:=oV _ _
      exact gM.mp (by omega)
    have aih:2000 + 100 * n2<=60000:=by omega
    obtain⟨loc,dxx,q,hp,O,hF,hT⟩:=id N3
    have jI:=O.get .eY _ rfl
    rw[hp] at jI
    clear hp O hF hT
    refine bF λNx b9=>?_
    refine⟨_,rfl,p,_,_,rfl,jI,rfl,F3,p,tp,ns.length,s3,rfl,N3,λlf qf H4 w4 U3 Yk Yl=>⟨aV _,λzb hzb=>?_⟩⟩
    have u5:=w4.trans (aE.new (o:=.lst []) hzb)
    have aax:=ay (H:=H4) (a:=zb) (o:=.lst [])
    have aay:=aE.new (o:=.lst []) hzb _ _ Yk
    generalize upd H4 zb (.lst [])=H5 at u5 aax aay
    have eqf:qf = []:=gM.mp (by rw[Yl.len,ec]; rfl)
    subst eqf
    refine⟨.list [],.list [],⟨lf,[],rfl,bL.of aay,rfl⟩,⟨zb,[],rfl,bL.of aax,rfl⟩,rfl,rfl,RQ (by decide) hr.units,_,rfl,?_⟩
    rw[show PyData.eqv (.list []) (.list [])=true from rfl]
    refine cP (b9 _ _ ?_)
    clear b9 Nx aay aax Yl Yk U3 hzb
    have N5:=N3.mono u5
    have o5:=o3.trans (c5 (F:=F3) u5)
    have RN:=eX _ _ (c5 (F:=F3) u5 _ _ E4)
    have agv:cS K H5 qt (Ls.map ltV):=Nd.mono λb x z=>eX.b5 ((c5 (F:=F3) u5).b5 z)
    have S95:aE (Off H9 F8) H5:=o5.trans eX
    have Qc:=u5 _ _ jI
    clear o3 E4 Nd N3 jI u5 o5
    refine bF λNx b9=>?_
    refine⟨_,rfl,lt,_,rfl,.inl (bL.of RN),(Ls.length:Int),(by rw[ah,eqt]),by omega,by omega,qS (n:=((Ls.length:Int)).toNat) (λi σ H6=>aE H5 H6/\∃ (v8 v9 v10 v11 Ni v13 v14:Option V),σ = [some (.ref a),some (.int (ns.length:Nat)),some (.int g),some (.ref b0),some (.ref cb),some (.ref p),some (.ref lo),some (.ref lt),v8,v9,v10,v11,Ni,v13,v14]) ⟨aE.refl _,_,_,_,_,_,_,_,rfl⟩ ?_ ?_⟩
    ·rintro i σ H6 Nf zZ hi ⟨s6,v8,v9,v10,v11,Ni,v13,v14,rfl⟩
     rw[eU]
     have hiL:i < Ls.length:=by simpa using hi
     have hpi:Ls[i]?=some (Ls[i].1,Ls[i].2):=aa hiL
     obtain⟨l,E2,hl,hold,lk,lj,hne⟩:=z3.aj.li i _ _ hpi
     rw[Nat.zero_add] at hl lj
     have hqi:ED (qt.map V.ref) (i:Int)=some (.ref (qt[i]'(by omega))):=dM (by rw[ak,aa]; rfl)
     have hti:cN K H6 (qt[i]'(by omega)) [.int (Ls[i].1:Int),qW (Ls[i].2.map λy:Nat=>(y:Int))]:=s6.b5 (agv.at' i _ _ (aa _) (by rw[ak,aa hiL]; rfl))
     generalize Ls[i].1=x at lk lj hti hpi
     generalize Ls[i].2=to at lk lj hti hpi
     have pe:pend rs s3.cps i = []:=by rw[ec]; rfl
     rw[pe,z3.hm,z3.gr] at lj
     have hx:x < cl.length:=by have:=lk.hx; rw[z3.hm,ah] at this; exact this
     have hg3:cl[x].2 < 3:=(WW _ (aK hx)).2
     have egr:l.grp=cl[x].2:=by
      have:=lk.gr
      rw[z3.gr,ak,aa hx] at this
      exact (aL this).symm
     rw[egr] at lj
     have hto:∀ y,to=some y->y < cl.length/\(cl.map (·.2))[y]?=(cl.map (·.2))[x]?:=λy e=>by
      have:=lk.ht y e
      rw[z3.hm,ah,z3.gr] at this
      exact this
     have hdl:l.aF.length<=800000:=by
      have:=(z3.bd.lb l (aQ hl)).1
      omega
     refine bF λNx b9=>?_
     refine⟨_,rfl,_,rfl,iu (bL.of (s6 _ _ RN)) hqi ⟨_,_,rfl,hti,rfl,_,_,rfl,_,_,rfl,rfl,b9 _ _ ?_⟩⟩
     clear b9 Nx
     obtain⟨lg,agx,agy⟩:=agg cl[x].2 hg3
     have S96:=S95.trans s6
     refine⟨_,rfl,_,rfl,_,rfl,_,rfl,iu (bL.of (S96 _ _ aas)) (atc hx).1 (c8 (S96.b5 (atc hx).2) rfl (iu (bL.of (S96 _ _ ac7)) (dM (by rw[ak,agx]; rfl)) ⟨_,rfl,_,rfl,_,rfl,_,rfl,p,_,_,rfl,s6 _ _ Qc,rfl,_,rfl,F3,p,tp,ns.length,i,s3,l,rfl,N5.mono s6,hl,λa7 q7 H7 w7 akC ha7 hq7=>?_⟩))⟩
     have S97:=S96.trans w7
     refine⟨b0,lg,cb,a7,qs,q7,ns,rs,os cl[x].2,cl,x,to,l.done,l.aF,E2,rfl,⟨us2,S97 _ _ hB2,adf.mono λb x=>S97.b5⟩,bL.of (S97 _ _ agy),bL.of (S97 _ _ aas),aat.mono λb x=>S97.b5,bL.of ha7,hq7,fo _ hg3,RT,by omega,hnm,Uw,hx,λc hc=>(WW c hc).1,hto,hdl,lj,hne,λH8' w8=>⟨_,rfl,cP (zZ _ _ ⟨(s6.trans w7).trans w8,_,_,_,_,_,_,_,rfl⟩)⟩⟩
    ·rintro σ H6 ⟨s6,v8,v9,v10,v11,Ni,v13,v14,rfl⟩
     exact b9 _ _ (k H6)
end
theorem walk{l:PySem.W.OpenLaw}{q:Program}{loose:List Str}{XP:(Str->Option Value)->Heap->Prop}{YP:World->Heap->Prop}{d:DefRec}{K:Params->af}(hn:l.most=some 63)(hdf:d.params.defaults = [])(hdn:d.name = "law")
 (hY:∀ (w:World) (h:Heap),YP w h->(K w.params).In h)
 (F:∀ (w:World) (mg:Str->Option Value) (h:Heap),(K w.params).In h->h.Ns mainGlobals mg->∃ t,Txt (K w.params) mg t) :
 PySem.W.WalkO q loose XP YP l.row.toRowW d [] (λf vs=>PySem.call f vs) :=
 L2.Vu (n:=63) (k:=9) (x:="_law_script") (CX:=λ_=>ig) (sp:=λw=>UX (K w.params)) hn (by decide) hdf ⟨rfl,by decide,by decide⟩ hY
  (λw mg fa h KX G hmg=>by
   obtain⟨t,T⟩:=F w mg h KX G
   rw[hdn] at hmg
   have e:=hmg.symm.trans T.TZ.g
   cases e
   refine⟨t.Mf,λs v=>?_,λbase _ _=>aap T⟩
   obtain⟨_,_,_,_,_,_,_,_,_,e,_⟩:=T.TZ.F.ex
   rw[e]
   exact .of_eq rfl)
  (λ_ _ a ns hl _ hS=>⟨a,ns,rfl,hS,hl,λ_=>rfl⟩) λ_ _ _ _ _ z=>z
end fP
structure PySem.W.Fast:Prop where(tw8950946579251563033 tw12526095660339783817 tw1717068029502305974 tw10655116713782961246 tw10182064149919063348 tw17275232625798908851 tw15684305401462361402 tw13777420174129648828 tw12498630037217971184 tw7557132963652551075 tw2568379791106322978 tw479531774733689605 tw10612676564604150176 tw11562626986710887871 tw10249480515739414323 tw13141292385532267506 tw8762178540071508492 tw1054519339684692771 tw12133490063225362787 tw3317580951594822975 tw6082132541936839271 tw471553947333483260 tw16918533944577145035 tw15485880174510741533 tw1166918246012659376 tw11582669684246134278 tw13965622854013022076 tw17525056248478558156 tw16252180500931697024 tw9926222400220334221 tw2036056566311821588 tw16135713709712141772 tw9429553422838358505 tw6896553025669070741 tw68700319155592772 tw7642738172363705854 tw15007123134267100286 tw9221708402768795821 tw419508350080843124 tw4432588698201728910 tw10736066087505157685 tw1015837214867345059 tw15310165051160179267 tw11825138182188969098 tw1323845109253499126 tw12976119561928242476 tw16442510316716081012 tw15064598151216761728 tw9187930897986270513 tw11333082920814996748 tw15018168038800066883 tw4312236484579911966 tw9250253190484639517 tw2857774846633199889 tw7628662936111907559 tw11443789097524143974 tw17144327674526537207 tw9813323233362483703 tw7044608120336157212 tw17854995132200232369 tw15729296557498780867 tw11300654392772596964 tw10311753142453675679 tw10826057349851841939 tw10664939655167761795 tw13890317306146349780 tw17151859549941437475 tw12056849521626624312 tw7922205643173128549 tw8536702752720458749 tw8652629561041199123 tw6830180301176265148 tw10902700083197792568 tw5317372233574651645 tw6532902129690535865 tw2273942079187299672 tw14538592730036170944 tw2450540243195909461 tw4248389323148006017 tw8760652606878387072 tw14129184062834222956 tw6957296683453618446 tw8730512043198408979 tw16344710796129930867 tw171959927112543681 tw12396645940996443521 tw8136950966763459414 tw11888664659555920451 tw13900107375907287040 tw12545733637865910402 tw15990425644017141857 tw2215022755312274299 tw2003346762005540979 tw6019906901166480017 tw894156781577605833 tw1830104293633384146 tw7817261972308325985 tw6968841239670316730 tw17568140152036151297 tw12274184403960066537 tw8280989341805647635 tw12765793463731506246 tw5570477070159126402 tw9978296235284754977 tw14278611281726003743 tw12146186638171544730 tw12315935261071882292 tw9349406979685178086 tw16111294623542604926 tw18194798502236488494 tw15824491444454658320 tw15569655033619325574 tw12224109798206630397 tw1235320073754294729 tw2283019702086234510 tw5235855094931274163 tw12496003344824533458 tw8809173292156217933 tw6359459487941046442 tw88169883453607158 tw5086654897474074230 tw472014857059218579 tw8335701291196240467 tw13689023340959525270 tw9549825558762642757 tw16948875553915130717 tw14757256144413980466 tw5484223458433499437 tw5350201574240032054 tw6716602814268792483 tw17997425648034839825 tw5581377600231411951 tw5692255466276181088 tw5547171337558904012 tw10626453455451797403 tw9719480878884883877 tw12072311325393160021 tw11859438346579118455 tw2602236790038778301 tw12181302447382523423 tw8635195091834438328 tw6481676139321001936 tw4352065089471039706 tw14895849499619852282 tw6886807789063764436 tw14808735013491062373 tw15040232161067499085 tw6955121291622148501 tw6888891151118257140 tw17157308539105079477 tw15008870126614356429 tw14121448833575632223 tw5095397177952461026 tw8621910166152584469 tw8524931888703571881 tw15755682381927501924 tw18321326512027856373 tw18005480092064218099 tw16667543800639174507 tw7688936112855022131 tw4396433534213026293 tw8471831773732670528 tw3381123263820590839 tw70854223377945822 tw5276632406769213499 tw11914150239380095687 tw11471357831603706062 tw3039700009985141244 tw5577606128091884271 tw8306362741038845708 tw13343234753083137077 tw12631983748206009839 tw13723468267269439155 tw10456525824515702106 tw14800361604007899306 tw9142189326535471032 tw10997844206354528778 tw6249463209278426715 tw13616288870295214067 tw1401526801390107121 tw9483055044220221209 tw767875005844027951 tw5460403248603568013 tw3641514591958914446 tw6300756627968481785 tw17919073793236248460 tw5258252724454140290 tw3499007732526348382 tw14973262007033794641 tw11128915859142255930 tw7934113602515764326 tw787551710517350756 tw754561887443713240 tw4384005646009321436 tw379481812876995836 tw1830053829119770463 tw1186836478792639961 tw5007723382862165421 tw15802874226028245830 tw9098164330713116075 tw1278897313042280944 tw7717407164320964010 tw5211749751832779745 tw9239645339711712862 tw9565544682412884375 tw10273525631140131863 tw7784276870101289374 tw11695857983114434035 tw12461595307106317305 tw15556593101706652511 tw8235645839548878387 tw18383031398591295132 tw3964752593117742244 tw2806624872843015571 tw7112308239021790379 tw4270322234519948098 tw4026242323516387448 tw1752557736760478588 tw5074993396374365173 tw17118365320136637015 tw14648742495714837767 tw10664273267745978392 tw16075696186985131424 tw14814015449049975340 tw1162994454869413388 tw14648719442547839146 tw15254953422716171268 tw9282648000908322751 tw12264045400304143960 tw6219394677685086614 tw5529917522693779974 tw3011417170916881669 tw12756817706138488452 tw891820703943036701 tw3918122030030386821 tw12446345171431551091 tw10090808860707748665 tw8683923665993591941 tw7798441167180909878 tw805115571785530341 tw4507911777485216682 tw13772155499876920026 tw9420694078746558749 tw16951634665611609360 tw15659437613765963817 tw13815914588264196705 tw4568759776743643075 tw3153020695302776051 tw6283870257134822348 tw9664564509020417605 tw15761243116393887345 tw9623664095541109196 tw17585894635960456840 tw17028613431027865415 tw13748608536805395519 tw15194442887221284251 tw3201296351568408308 tw2396190892811648276 tw17426638205651593235 tw16970236316064300052 tw15456654975716865723 tw3399284225307369616 tw9079286705330383338 tw7641634866464886819 tw14411246169665669114 tw9803444873324278244 tw4759749952902125774 tw1842891017337644558 tw12223951941635258105 tw199526602946926571 tw13483237516777335741 tw2298681382098355963 tw4552488330142207734 tw9680580211660190360 tw2531150910264671685 tw8389303124102247402 tw13535225067918330187 tw6795977755271991577 tw9251650701994475802 tw6964627797216555995 tw12035955882653339244 tw6862065661216974902 tw9649031590908540590 tw9606298630329841365 tw15032009473886334400 tw5759699056228209550 tw2286430467891129568 tw13406884218687491643 tw11775342927404948813 tw1521783302952689436 tw16714029370553938671 tw16513336457245952544 tw12061385138449902309 tw6855509836934283636 tw5947892892156714496 tw17548911100183491317 tw17442074465628250228 tw11336714690606779474 tw10706212064987215563 tw6159738166469839824 tw4565565807014699539 tw9620985161645412651 tw7431285373706554823 tw15457575736865464168 tw3846411406498877374 tw13987090572833738759 tw9229539083056434716 tw2031285930839123455 tw5530563720392858943 tw5430853487767817737 tw4950481943789293700 tw4088978486474169552 tw2385050281587953419 tw9887873013725210210 tw15931633326538373020 tw12217658104488206091 tw8276121988873848739 tw6617494150248046394 tw2704760598589739485 tw14702977053282298236 tw2158022209986157804 tw14956413908847328316 tw4319287459034504841 tw10651534587409957971 tw9011019435032601070 tw6961237081414624254 tw18375645141104606109 tw12468216440698898816 tw11099837321630306432 tw15959672526451777492 tw6211032879028978824 tw2120901033463041814 tw12185009671921721188 tw4571121449753223620 tw16288164373657426926 tw7770833522839463149 tw3896661489054528034 tw18116403922443950875 tw14112366872913172287 tw4617837437081128097 tw12643892909404427189 tw11075644918038484704 tw13631732064563725219 tw1283234700562906248 tw6112552038971963628 tw16501572189179976383 tw8120425216128938147 tw12247908606676149693 tw17121800407918489195 tw10845086745474002078 tw9412743044030818116 tw9280665521800425919 tw9006515385824322245 tw8985894398949547150 tw8948584048872335084 tw8209603738280053725 tw7412432188057437758 tw7359907098096538345 tw6672308785809392645 tw6052391065039443725 tw4267834196304660806 tw2599482586194832779 tw2275761089783968837 tw221536035233510584 tw2175595106635776855 tw2096118073955465602 tw2073649838742019996 tw17973193881218575849 tw16326452240026780705 tw16211704360593808274 tw1614831284202994990 tw15872599071852096152 tw15851488368027953213 tw15150033538396617459 tw14706988735019920109 tw14570783046054855032 tw13719189197367100478 tw13555492580198347463 tw1343436775911973742 tw1324918830052305065 tw11993711484247743731 tw11228919032323251347 tw10468195579639102649 tw10209643683069141575 tw4381574701500404799 tw5242468065922275150 tw18132519450359042455 tw12095737081722857484 tw3640679757458941416 tw8527016697732484581 tw4183659531670295223 tw2307993214282856080 tw1425190135108923345 tw14228716206029056343 tw1418032813058148110 tw14123711499986840476 tw12367574240491400755 tw116900135172981974 tw1146391835051797910 tw10828739881536063146 tw1697149547321563870 tw8750602883211409480 tw11256263752691554047 tw16206838601090435032 tw7668739421296170379 tw7482962099576963713 tw5728073135278110881 tw4906087073330057081 tw14300555339912355057 tw12451204794914467746 tw11942025695201371355 tw9832342641144880718 tw5957817983020503312 tw2062549447909257973 tw12143466702564663256 tw10889830260503805638 tw1404415652778195710 tw9596359603147267551 tw8105158858638188708 tw7392359625231167526 tw6942545354775970343 tw665091706662227423 tw6482612494801812763 tw5602740947112370574 tw5409247607573568450 tw5152421043836892838 tw4899497132946651601 tw4073626160564506239 tw3566142410938133194 tw17410041341919723148 tw17397875255578602418 tw16801274493254983429 tw1676201372666206287 tw15888721249097803708 tw15763710662988012417 tw15264731135325474118 tw13573738508181929581 tw1313132210450550688 tw11439809574513053231 tw10406404412590788588 tw13922060140638385769 tw9888774698975585040 tw7940854057725424050 tw7598588219815355512 tw14590399054463361889 tw8527679976081853435 tw6096913492858542561 tw14781808678824763358 tw1131123072110325203 tw9046332706510142579 tw13283066681926815684 tw8041769676325328900 tw267083389047458564 tw18004287788629947824 tw1436227305384428632 tw1191150610283288962 tw7463440676931642676 tw5986772200904607624 tw4408269272597929866 tw4106473638935647732 tw3954016793997861243 tw3480885452102111087 tw2145843100448127224 tw17723493234978317037 tw16964717557579785128 tw16635066845019853978 tw13361597178712106263 tw11345215089070020592 tw18185291273179545776 tw5249715348653999057 tw16203992279916665369 tw12489645858477496350 tw1208424259887461540 tw11934957687029873801 tw8909342620004898985 tw7307360181454696151 tw378430592386294418 tw3014764929228760155 tw15985755000212840323 tw17279425831738043684 tw541391903717891861:True)
open PySem PySem.W PyProof.Rows
set_option maxRecDepth 100000 in
set_option maxHeartbeats 0 in
theorem PySem.Challenge.cw_knotless_k32_any_order_of_arrivals_holds : PySem.Challenge.rw_knotless_k32_any_order_of_arrivals.Holds := by
 w_on; o_law; k_head; (case hw=>w_witness2)
 k_fill
 refine fP.walk (l:=PySem.Challenge.rw_knotless_k32_any_order_of_arrivals) rfl rfl rfl (fun w h Y=>PySem.W.kIn_of Y) ?F
 case F =>
  intro w mg h KX G
  refine' fP.Zs KX G ?Dw ?GS ?GU ?Dy ?KL ?Be ?KN ?Oq ?uu ?wG ?wH ?uv ?Dz ?Bf ?pL ?rW ?rX ?pM ?rY ?uw ?ux ?rZ ?uy ?DA ?KO ?T9 ?Ua ?KP ?DB ?KQ ?uz ?yX ?yY ?pN ?r6 ?yZ ?uA ?uB ?wI ?y9 ?nA ?kU ?kW ?r8 ?Bg ?uC ?pO ?wJ ?Bj ?Bk ?za ?wK ?Bl ?Bm ?Bo ?Bp ?Bq ?wL ?zc ?wM ?uD ?uE ?uF ?uG ?oj ?r9 ?zd ?uH ?pP ?nB ?Br ?pQ ?mR ?kX ?nC ?wN ?pR ?ze ?DC ?DE ?DF ?zf ?Bs ?se ?KR ?Bt ?DG ?Ub ?zg ?nD ?wO ?Cm ?pS ?zh ?Cn ?pT ?zj ?zk ?nG ?pU ?uI ?mS ?pV ?GV ?jM ?jN ?wQ ?wR ?vq ?pW ?kY ?GW ?wU ?Mm ?zm ?sf ?jy ?wV ?wW ?uJ ?uK ?sj ?uL ?sq ?sr ?pX ?GX ?nH ?nJ ?nK ?DH ?DI ?Bu ?Bv ?uM ?wX ?wY ?wZ ?sy ?w6 ?w9 ?Uc ?xg ?Ud ?Ot ?Ou ?KS ?KU ?zo ?Ue ?Ug ?Uh ?Ui ?GY
  case Dw | GS | GU | Dy | KL | Be | KN | Oq=>k_is
  case uu | wG | wH | uv=>exact L2.Zj (by k_is) (by k_is) (by k_is) (by k_is) (by k_is)
  case Dz | Bf=>exact L2.exG KX G (by k_is) (by k_is) (by k_is) (by k_is)
  case pL | rW | rX | pM | rY | uw | ux | rZ | uy=>exact L2.Zj (by k_is) (by k_is) (by k_is) (by k_is) (by k_is)
  case DA | KO | T9 | Ua | KP | DB | KQ=>exact L2.exG KX G (by k_is) (by k_is) (by k_is) (by k_is)
  case uz | yX | yY | pN | r6 | yZ=>exact L2.Zj (by k_is) (by k_is) (by k_is) (by k_is) (by k_is)
  case uA | uB | wI | y9=>exact L2.exG KX G (by k_is) (by k_is) (by k_is) (by k_is)
  case nA | kU | kW | r8=>exact L2.Zj (by k_is) (by k_is) (by k_is) (by k_is) (by k_is)
  case Bg | uC=>exact L2.exG KX G (by k_is) (by k_is) (by k_is) (by k_is)
  case pO | wJ | Bj | Bk | za | wK | Bl=>exact L2.Zj (by k_is) (by k_is) (by k_is) (by k_is) (by k_is)
  case Bm | Bo | Bp | Bq | wL | zc=>k_is
  case wM=>exact L2.Zj (by k_is) (by k_is) (by k_is) (by k_is) (by k_is)
  case uD | uE | uF | uG | oj | r9=>k_is
  case zd | uH | pP | nB | Br | pQ | mR | kX | nC=>exact L2.Zj (by k_is) (by k_is) (by k_is) (by k_is) (by k_is)
  case wN | pR | ze | DC | DE | DF | zf | Bs | se | KR | Bt | DG | Ub=>exact L2.exG KX G (by k_is) (by k_is) (by k_is) (by k_is)
  case zg=>exact L2.Xr (by k_is) (by k_is) (by k_is) (by k_is) (by k_is) (by k_is)
  case nD | wO=>k_is
  case Cm=>exact L2.Xr (by k_is) (by k_is) (by k_is) (by k_is) (by k_is) (by k_is)
  case pS | zh=>k_is
  case Cn=>exact L2.Xr (by k_is) (by k_is) (by k_is) (by k_is) (by k_is) (by k_is)
  case pT | zj=>k_is
  case zk=>exact L2.Xr (by k_is) (by k_is) (by k_is) (by k_is) (by k_is) (by k_is)
  case nG | pU | uI | mS | pV=>k_is
  case GV=>exact L2.Xr (by k_is) (by k_is) (by k_is) (by k_is) (by k_is) (by k_is)
  case jM | jN | wQ | wR=>k_is
  case vq=>exact L2.Xr (by k_is) (by k_is) (by k_is) (by k_is) (by k_is) (by k_is)
  case pW | kY=>k_is
  case GW=>exact L2.Xr (by k_is) (by k_is) (by k_is) (by k_is) (by k_is) (by k_is)
  case wU=>k_is
  case Mm=>exact L2.Xr (by k_is) (by k_is) (by k_is) (by k_is) (by k_is) (by k_is)
  case zm | sf | jy | wV | wW | uJ | uK | sj | uL | sq | sr | pX | GX | nH | nJ | nK | DH=>k_is
  case DI=>exact⟨by k_exc,by k_is,by k_is,by k_is,by k_is,by k_is,by k_is,by k_is,by k_is⟩
  case Bu=>k_is
  case Bv=>exact⟨by k_exc,by k_is,by k_is,by k_is,by k_is,by k_is,by k_is,by k_is,by k_is⟩
  case uM | wX | wY | wZ | sy | w6 | w9 | Uc | xg | Ud | Ot | Ou | KS | KU | zo | Ue | Ug | Uh | Ui | GY=>k_is
#print axioms PySem.Challenge.cw_knotless_k32_any_order_of_arrivals_holds
