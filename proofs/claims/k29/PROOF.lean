import PyProof.Rows.All
import Wide.All
import OpenK.AllK
import Wide.FinOn
import Lean
import PyProof.EqAt
import PyProof.EqKinds
import PyProof.TupleCall
import PySem.Challenge.RW_knotless_k29_falls_in_the_net
open List renaming getElem?_eq_getElem -> aa, length_map -> ah, getElem?_eq_some_iff -> ai, getElem?_map -> aj, range -> aq, length_append -> av, getD_eq_getElem?_getD -> az, mem_of_getElem? -> aI, size_toArray -> aJ, getElem_mem -> aL, map_append -> aT, replicate -> aY, mem_cons_of_mem -> bu, mem_singleton -> bz, mem_cons -> bA, length_filter_le -> bB, length_cons -> bE, mem_append -> bG, length_range -> bH, mem_map -> bL, length_take -> bO, length_set -> bP, getElem?_append_left -> bU, getElem?_append_right -> bX, mem_cons_self -> b6, map_cons -> ck, map_map -> cu, mem_filter -> cS, getElem?_set -> cV, mem_append_right -> dg, map_congr_left -> dh, filterMap_cons -> dj, lookup_cons -> eE, mem_range -> fc, filter_cons -> fz, take_succ_eq_append_getElem -> fH, take_of_length_le -> fM, getElem?_range -> fP, any_eq_true -> gw, replicate_succ -> gP, append_nil -> gQ, getElem?_eq_none -> iM, filter_append -> iN, pairwise_iff_getElem -> jc, getElem?_of_mem -> jm, range_succ -> ju, reverse_append -> j4, take_length -> kh, getElem?_concat_length -> lY, any_cons -> nG, pairwise_append -> nJ, nodup_nil -> oW, mem_or_eq_of_mem_set -> oX, extract_eq_drop_take -> oY, drop_eq_getElem_cons -> oZ, ext_getElem -> pQ, lookup -> pS, pairwise_cons -> rH, nodup_cons -> rJ, length_eq_zero_iff -> rK, find?_cons -> rL, filter_cons_of_pos -> rM, filter_cons_of_neg -> rN, pairwise_lt_range -> tO, drop_of_length_le -> tP, take_add_one -> uz, nodup_append -> uA, map_id -> uB, flatten_cons -> uC, append_assoc -> uD, take_append_drop -> vH, all_eq_true -> wL
open PySem.W renaming Frag -> af, findIn -> aE, nsIn -> bF, mg_of -> cK, mg_none_of -> cX, keepIn -> dD, fnOf -> dU, kia_one -> dX, emptyDict -> fO, codeIn -> i9, instObj -> jq, hasDictIn -> ux, plainGet -> wJ
open Nat renaming le_refl -> au, le_trans -> aH, lt_of_le_of_lt -> aZ, zero_le -> br, ne_of_lt -> bw, lt_of_lt_of_le -> bx, add_le_add_left -> bM, min_le_left -> c9, le_succ -> dc, lt_irrefl -> gJ, le_of_lt -> iL, add_le_add_right -> jl, le_succ_of_le -> jr, sub_self -> lX, not_lt_zero -> rG, le_add_right -> wK
open Bool renaming false_ne_true -> aB, and_eq_true -> dF, eq_iff_iff -> gR
open Option renaming some_ne_none -> aM
open Array renaming length_toList -> aN, getElem_mem -> bI, toList_append -> cF, getElem_extract -> fX, getElem?_toList -> fY, mem_toList_iff -> gB, getElem?_eq_some_iff -> iB, size_extract -> lO, toList_push -> uE
open Option.some renaming inj -> aP
open PySem.F renaming plainAttrs_list -> bf, type_list_append -> bh, slot_list_append -> bq
open Ne renaming symm -> bK
open Int renaming emod_nonneg -> bN, emod_lt_of_pos -> bR, zero_add -> dm, toNat_natCast -> eO, le_refl -> j5, le_trans -> qF
open Sum renaming inl -> fW
open ForInStep renaming yield -> jv
open False renaming elim -> jw
open True renaming intro -> kM
open PySem renaming mem_of_lookup -> pR
open PyProof.Rows renaming slot_tuple_getitem -> uy
set_option Elab.async false
set_option linter.all false
set_option maxRecDepth 100000
namespace L2
open PySem PySem.Spec PyProof.Rows
abbrev Key:=Sum Int Str
noncomputable def JD:Key->Value->Bool
 | .inl k,v=>Value.isInt k v
 | .inr x,v=>Value.isStrOf x v
noncomputable def afo(w:World):Key->Int
 | .inl k=>hashInt k
 | .inr x=>hashStr w x
theorem gC:∀ {k:Key} {v:Value},JD k v=true->(∃ i t,k=fW i/\v=Value.int i t)∨(∃ x t,k=Sum.inr x/\v=Value.str x t)
 | .inl i,v,h=>by
  obtain⟨t,e⟩:=Value.isInt_shape (k:=i) (v:=v) h
  exact .inl ⟨i,t,rfl,e⟩
 | .inr x,v,h=>by
  obtain⟨t,e⟩:=Value.isStrOf_shape (x:=x) (v:=v) h
  exact .inr ⟨x,t,rfl,e⟩
theorem Rz(i:Int)(t:Tok):JD (.inl i) (.int i t)=true:=by simp[JD,Value.isInt]
theorem RA(x:Str)(t:Tok):JD (.inr x) (.str x t)=true:=by simp[JD,Value.isStrOf]
theorem Y9(a b:Int):decide ((fW a:Key)=fW b)=(a == b):=by
 by_cases e:a=b
 ·subst e; simp
 ·have h:¬ (fW a:Key)=fW b:=λq=>e (Sum.inl.inj q)
  rw[decide_eq_false h]
  exact (beq_eq_false_iff_ne.mpr e).symm
theorem Za(a b:Str):decide ((Sum.inr a:Key)=Sum.inr b)=decide (a=b):=by
 by_cases e:a=b
 ·subst e; simp
 ·have h:¬ (Sum.inr a:Key)=Sum.inr b:=λq=>e (Sum.inr.inj q)
  rw[decide_eq_false h,decide_eq_false e]
theorem Zb(a:Int)(b:Str):decide ((fW a:Key)=Sum.inr b)=false:=decide_eq_false (λq=>nomatch q)
theorem Zc(a:Str)(b:Int):decide ((Sum.inr a:Key)=fW b)=false:=decide_eq_false (λq=>nomatch q)
noncomputable def gD(prog:Program)(w:World):PySem.KeyKind prog w Key where
 is:=JD
 hash:=afo w
 inj:=λv a b ha hb=>by
  rcases gC ha with ⟨i,t,rfl,rfl⟩ | ⟨x,t,rfl,rfl⟩
  ·rcases gC hb with ⟨j,u,rfl,e⟩ | ⟨y,u,rfl,e⟩
   ·injection e with e1 _; rw[e1]
   ·exact nomatch e
  ·rcases gC hb with ⟨j,u,rfl,e⟩ | ⟨y,u,rfl,e⟩
   ·exact nomatch e
   ·injection e with e1 _; rw[e1]
 byValue:=λk v h=>by
  rcases gC h with ⟨i,t,rfl,rfl⟩ | ⟨x,t,rfl,rfl⟩ <;> rfl
 pyHash:=λhv h=>by
  rcases gC hv with ⟨i,t,rfl,rfl⟩ | ⟨x,t,rfl,rfl⟩
  ·exact wpAny_pyHash_int h
  ·exact wpAny_pyHash_str h
 eqBool:=λhu hv h=>by
  rcases gC hu with ⟨i,t,rfl,rfl⟩ | ⟨x,t,rfl,rfl⟩
  ·rcases gC hv with ⟨j,u,rfl,rfl⟩ | ⟨y,u,rfl,rfl⟩
   ·rw[Y9] at h; exact wpAny_eqBool_int h
   ·rw[Zb] at h; exact SeqAt.EqAt.int_str i t y u _ _ _ _ h
  ·rcases gC hv with ⟨j,u,rfl,rfl⟩ | ⟨y,u,rfl,rfl⟩
   ·rw[Zc] at h; exact SeqAt.EqAt.str_int x t j u _ _ _ _ h
   ·rw[Za] at h; exact wpAny_eqBool_str h
 «strs»:=λk x t v h=>by
  rcases gC h with ⟨i,u,rfl,e⟩ | ⟨y,u,rfl,e⟩
  ·exact nomatch e
  ·injection e with e1 _
   subst e1
   cases v <;> rfl
theorem Mf(prog:Program)(w:World)(i:Int)(t:Tok):(gD prog w).is (.inl i) (.int i t)=true:=Rz i t
theorem Mg(prog:Program)(w:World)(x:Str)(t:Tok):(gD prog w).is (.inr x) (.str x t)=true:=RA x t
inductive V where
 | eU | bl (b:Bool) | int (i:Int) | str (x:Str) | P8 (b:Array UInt8) | Zd (b:UInt64) | ref (a:Addr) | ty (n:String)
 deriving DecidableEq
def RelV:V->Value->Prop
 | .eU,u=>u=Value.none
 | .bl b,u=>u=Value.bool b
 | .int i,u=>∃ t,u=Value.int i t
 | .str x,u=>∃ t,u=Value.str x t
 | .P8 b,u=>∃ t,u=Value.bytes b t
 | .Zd b,u=>∃ t,u=Value.float b t
 | .ref a,u=>u=Value.ref a
 | .ty n,u=>u=Value.type n
abbrev bT:List V->List Value->Prop:=Paired RelV
theorem bT.length{xs:List V}{us:List Value}(r:bT xs us):xs.length=us.length:=Paired.length r
theorem bT.get:∀ {xs:List V} {us:List Value} {i:Nat} {x:V},bT xs us->xs[i]?=some x->∃ u,us[i]?=some u/\RelV x u
 | _,_,_,_,.nil,e=>by simp at e
 | _,_,0,_,.cons r _,e=>by simp at e; subst e; exact⟨_,rfl,r⟩
 | _,_,i + 1,x,.cons _ t,e=>by
  obtain⟨u,h1,h2⟩:=bT.get (i:=i) (x:=x) t (by simpa using e)
  exact⟨u,by simpa using h1,h2⟩
theorem bT.set{x:V}{u:Value}(r:RelV x u):∀ {xs:List V} {us:List Value} (i:Nat),bT xs us->bT (xs.set i x) (us.set i u)
 | _,_,_,.nil=>.nil
 | _,_,0,.cons _ t=>.cons r t
 | _,_,i + 1,.cons q t=>.cons q (bT.set r i t)
theorem bT.append:∀ {xs ys:List V} {us ws:List Value},bT xs us->bT ys ws->bT (xs++ys) (us++ws)
 | _,_,_,_,.nil,s=>s
 | _,_,_,_,.cons r t,s=>.cons r (bT.append t s)
theorem bT.take:∀ {xs:List V} {us:List Value} (n:Nat),bT xs us->bT (xs.take n) (us.take n)
 | _,_,0,_=>.nil
 | _,_,_ + 1,.nil=>.nil
 | _,_,n + 1,.cons r t=>.cons r (bT.take n t)
theorem bT.drop:∀ {xs:List V} {us:List Value} (n:Nat),bT xs us->bT (xs.drop n) (us.drop n)
 | _,_,0,r=>r
 | _,_,_ + 1,.nil=>.nil
 | _,_,n + 1,.cons _ t=>bT.drop n t
def AJ:Option V->Option Value->Prop
 | some v,some u=>RelV v u
 | none,none=>True
 | _,_=>False
def KV{κ:Type}:List (κ × V)->List (κ × Value)->Prop:=Paired λ(p:κ × V) (q:κ × Value)=>p.1=q.1/\RelV p.2 q.2
noncomputable def kV:Key->V
 | .inl i=>.int i
 | .inr x=>.str x
inductive HO where
 | lst (xs:List V)
 | tup (xs:List V)
 | dK (kvs:List (Key × V)) | dT (kvs:List (List Key × V))
 | set (S:Int->Bool) (n:Nat)
 | ins (C dx:Addr) (fs:List (Str × V))
 | own (x:Addr)
 | xd (fs:List (Str × V))
 | met (f x:Addr)
 | Tt (lo hi:Int)
 | Am (o:Obj) (u:HO)
 | XX (ps:Array Value)
 | ext (φ:Heap->Prop)
abbrev Hp:=Addr->Option HO
noncomputable def upd(H:Hp)(a:Addr)(o:HO):Hp:=λb=>if b=a then some o else H b
theorem ao{H:Hp}{a:Addr}{o:HO}:upd H a o a=some o:=by unfold upd; rw[if_pos rfl]
theorem aD{H:Hp}{a b:Addr}{o:HO}(h:b≠a):upd H a o b=H b:=by unfold upd; rw[if_neg h]
theorem KQ{H:Hp}{a:Addr}{o u:HO}:upd (upd H a o) a u=upd H a u:=by
 funext b; unfold upd; split <;> rfl
theorem lZ{H:Hp}{a b:Addr}{o u:HO}(h:H a=some o)(h':H b=some u)(d:o≠u):a≠b:=by
 intro e; subst e; rw[h] at h'; exact d (aP h')
theorem aF{H:Hp}{a b:Addr}{o:HO}(h:H a=some o)(h':H b=none):a≠b:=by
 intro e; subst e; rw[h] at h'; cases h'
section
variable(P:Program)(w:World)
def fh(H:Hp)(h:Heap)(a:Addr):HO->Prop
 | .lst xs=>xs.length<=sizeLine/\∃ (its:List Value) (n:Nat),bT xs its/\h.get? a=some { cls:=.type "list",data:=.seq its.toArray n }
 | .tup xs=>xs.length<=sizeLine/\∃ its:List Value,bT xs its/\IsTup h a its.toArray
 | .dK kvs=>kvs.length<=sizeLine/\(a == sysModules)=false/\∃ vs,KV kvs vs/\h.DictOf (gD P w) a vs
 | .dT kvs=>kvs.length<=sizeLine/\(a == sysModules)=false/\∃ xs:List (List Key × Addr × Value),
  Paired (λ(p:List Key × V) (q:List Key × Addr × Value)=>p.1=q.1/\H q.2.1=some (.tup (p.1.map kV))/\RelV p.2 q.2.2) kvs xs /\
  ∃ o es ep,h.get? a=some o/\o.ExactDict/\o.data = .dict es ep/\es.toList=xs.map (entryOfKey (tupleKind (gD P w)))/\(xs.map (·.1)).Nodup
 | .set S n=>h.SetOf (intKind P w) a S n
 | .ins C dx fs=>H dx=some (.own a)/\fs.length<=1000/\dx≠a/\h.get? a=some (jq C dx) /\
  ∃ mA,h.Ns1 dx mA/\(∀ f,AJ (fs.lookup f) (mA f))/\PySem.Within mA (fs.map (·.1))
 | .own _=>∃ o,h.get? a=some o
 | .xd fs=>∃ mA,h.Ns1 a mA/\∀ f,AJ (fs.lookup f) (mA f)
 | .Tt lo hi=>∃ t u v,h.get? a=some { cls:=.type "range",data:=.fields #[.int lo t,.int hi u,.int 1 v] }
 | .Am o u=>h.get? a=some o/\fh H h a u
 | .XX ps=>h.get? a=some { cls:=.none,data:=.fields ps }
 | .met f x=>h.get? a=some (PySem.W.methodObj (.ref f) (.ref x))
 | .ext φ=>φ h/\(∃ o,h.get? a=some o)/\∀ h1 h2:Heap,φ h1->(∀ o,h1.get? a=some o->h2.get? a=some o)->φ h2
def yK(H:Hp)(h:Heap):Prop:=∀ a o,H a=some o->fh P w H h a o
end
section
variable{P:Program}{w:World}{H H':Hp}{h h':Heap}{a:Addr}{o:HO}
theorem fh.lt(x:fh P w H h a o):a < h.objs.size:=by
 cases o with
 | lst xs=>obtain⟨_,_,_,_,e⟩:=x; exact Heap.lt_size e
 | tup xs=>obtain⟨_,_,_,p⟩:=x; exact p.lt
 | dK kvs=>obtain⟨_,_,_,_,o,_,_,e,_⟩:=x; exact Heap.lt_size e
 | dT kvs=>obtain⟨_,_,_,_,o,_,_,e,_⟩:=x; exact Heap.lt_size e
 | set S n=>obtain⟨o,_,_,_,e,_⟩:=x; exact Heap.lt_size e
 | ins C dx fs=>obtain⟨_,_,_,e,_⟩:=x; exact Heap.lt_size e
 | own y=>obtain⟨_,e⟩:=x; exact Heap.lt_size e
 | xd fs=>obtain⟨_,⟨_,_,_,e,_⟩,_⟩:=x; exact Heap.lt_size e
 | Tt lo hi=>obtain⟨_,_,_,e⟩:=x; exact Heap.lt_size e
 | Am ob u=>obtain⟨e,_⟩:=x; exact Heap.lt_size e
 | XX ps=>exact Heap.lt_size (show h.get? a=some _ from x)
 | met f y=>exact Heap.lt_size (show h.get? a=some _ from x)
 | ext φ=>obtain⟨_,⟨_,e⟩,_⟩:=x; exact Heap.lt_size e
theorem Paired.Wm{α β:Type}{F G:α->β->Prop}:∀ {l₁:List α} {l₂:List β},Paired F l₁ l₂->(∀ a b,F a b->G a b)->Paired G l₁ l₂
 | _,_,.nil,_=>.nil
 | _,_,.cons r t,f=>.cons (f _ _ r) (Paired.Wm t f)
theorem fh.stay(x:fh P w H h a o)(k:∀ b u,(b=a∨H b=some (.own a))->h.get? b=some u->h'.get? b=some u)
 (ho:∀ b,H b=some (.own a)->H' b=some (.own a)) (ht:∀ b xs,H b=some (.tup xs)->H' b=some (.tup xs)):fh P w H' h' a o:=by
 induction o with
 | lst xs=>obtain⟨z,its,n,r,e⟩:=x; exact⟨z,its,n,r,k _ _ (.inl rfl) e⟩
 | tup xs=>obtain⟨z,its,r,ob,e,c⟩:=x; exact⟨z,its,r,ob,k _ _ (.inl rfl) e,c⟩
 | dK kvs=>obtain⟨z,y,vs,r,ob,es,ep,e,c⟩:=x; exact⟨z,y,vs,r,ob,es,ep,k _ _ (.inl rfl) e,c⟩
 | dT kvs =>
  obtain⟨z,y,xs,r,ob,es,ep,e,c⟩:=x
  exact⟨z,y,xs,Paired.Wm r λp q z=>⟨z.1,ht _ _ z.2.1,z.2.2⟩,ob,es,ep,k _ _ (.inl rfl) e,c⟩
 | set S n=>obtain⟨ob,es,ep,t,e,c⟩:=x; exact⟨ob,es,ep,t,k _ _ (.inl rfl) e,c⟩
 | ins C dx fs =>
  obtain⟨d,z,ne,e,mA,⟨od,es,ep,e2,c⟩,r⟩:=x
  exact⟨ho _ d,z,ne,k _ _ (.inl rfl) e,mA,⟨od,es,ep,k _ _ (.inr d) e2,c⟩,r⟩
 | own y=>obtain⟨ob,e⟩:=x; exact⟨ob,k _ _ (.inl rfl) e⟩
 | xd fs=>obtain⟨mA,⟨od,es,ep,e,c⟩,r⟩:=x; exact⟨mA,⟨od,es,ep,k _ _ (.inl rfl) e,c⟩,r⟩
 | Tt lo hi=>obtain⟨t,u,v,e⟩:=x; exact⟨t,u,v,k _ _ (.inl rfl) e⟩
 | Am ob u ih=>obtain⟨e,q⟩:=x; exact⟨k _ _ (.inl rfl) e,ih q⟩
 | XX ps =>
  have e:h.get? a=some { cls:=.none,data:=.fields ps }:=x
  show h'.get? a=some { cls:=.none,data:=.fields ps }
  exact k a _ (.inl rfl) e
 | met f y =>
  have e:h.get? a=some (PySem.W.methodObj (.ref f) (.ref y)):=x
  show h'.get? a=some (PySem.W.methodObj (.ref f) (.ref y))
  exact k a _ (.inl rfl) e
 | ext φ=>obtain⟨p,⟨o,e⟩,st⟩:=x; exact⟨st _ _ p λo q=>k _ _ (.inl rfl) q,⟨o,k _ _ (.inl rfl) e⟩,st⟩
theorem yK.lt(x:yK P w H h)(e:H a=some o):a < h.objs.size:=(x a o e).lt
theorem yK.fresh(x:yK P w H h)(e:h.objs.size<=a):H a=none:=by
 cases q:H a with
 | none=>rfl
 | some u=>exact absurd (bx (x.lt q) e) (gJ _)
theorem yK.kept(x:yK P w H h)(k:∀ b u,h.get? b=some u->h'.get? b=some u):yK P w H h':=λa o e =>
 (x a o e).stay (λb u _ q=>k b u q) (λ_ q=>q) λ_ _ q=>q
theorem yK.laid(x:yK P w H h)(k:∀ b u,h.get? b=some u->h'.get? b=some u)(hp:h.objs.size<=a)(new:fh P w (upd H a o) h' a o):yK P w (upd H a o) h':=λb u e=>by
 have hn:=x.fresh hp
 by_cases hb:b=a
 ·subst hb; rw[ao] at e; cases e; exact new
 ·rw[aD hb] at e
  exact (x b u e).stay (λc v _ q=>k c v q) (λc q=>by rw[aD (aF q hn)]; exact q) λc xs q=>by rw[aD (aF q hn)]; exact q
end
def Rd(H:Hp)(a:Addr)(u:HO):Prop:=H a=some u∨∃ o,H a=some (.Am o u)
theorem Rd.ok{P:Program}{w:World}{H:Hp}{h:Heap}{a:Addr}{u:HO}(r:Rd H a u)(x:yK P w H h):fh P w H h a u:=by
 rcases r with r | ⟨o,r⟩
 ·exact x a u r
 ·obtain⟨_,q⟩:=x a _ r
  exact q
def Mh:Option HO->Prop
 | some (.lst _)=>True
 | some (.dK _)=>True
 | some (.dT _)=>True
 | some (.set _ _)=>True
 | some (.ins _ _ _)=>True
 | some (.ext _)=>True
 | _=>False
section
variable{P:Program}{w:World}{H:Hp}{h h':Heap}{x e:Addr}{o':HO}
theorem yK.write(ok:yK P w H h)(mu:Mh (H x))(he:e=x∨H e=some (.own x))(k:∀ b u,b≠e->h.get? b=some u->h'.get? b=some u)(heo:∃ u,h'.get? e=some u)
 (new:fh P w (upd H x o') h' x o'):yK P w (upd H x o') h':=λb u q=>by
 have abF:∀ c y,H c=some (.own y)->c≠x:=λc y r z=>by subst z; rw[r] at mu; exact mu
 have afp:∀ c xs,H c=some (.tup xs)->c≠x:=λc xs r z=>by subst z; rw[r] at mu; exact mu
 by_cases hb:b=x
 ·subst hb; rw[ao] at q; cases q; exact new
 ·rw[aD hb] at q
  by_cases Ze:b=e
  ·have q':H b=some (.own x):=by
    rcases he with z | z
    ·exact absurd (Ze.trans z) hb
    ·rw[Ze]; exact z
   rw[q] at q'; cases q'
   obtain⟨v,hv⟩:=heo
   exact⟨v,by rw[Ze]; exact hv⟩
  ·refine (ok b u q).stay (λc v hc r=>k c v ?_ r) (λc r=>by rw[aD (abF c b r)]; exact r) λc xs r=>by rw[aD (afp c xs r)]; exact r
   rcases hc with rfl | hc
   ·exact Ze
   ·rintro rfl
    rcases he with z | z
    ·exact abF c b hc z
    ·rw[hc] at z; cases z; exact hb rfl
end
structure Un(fs ex:List Addr)(H H':Hp)(h h':Heap):Prop where
 keep:∀ b o,h.get? b=some o->H b=none->b ∉ fs->b ∉ ex->h'.get? b=some o
 slot:∀ b o,h.get? b=some o->H b=none->b∈fs->b ∉ ex->∃ sl,h'.get? b=some { o with slots:=sl }
 free:∀ b o,h.get? b=some o->H b=none->b ∉ ex->H' b=none
 there:∀ b o,h.get? b=some o->b ∉ ex->∃ o',h'.get? b=some o'
 tups:∀ b xs,H b=some (.tup xs)->H' b=some (.tup xs)
 AK:∀ b o u,H b=some (.Am o u)->H' b=some (.Am o u)
 Ce:∀ b ps,H b=some (.XX ps)->∃ more,H' b=some (.XX (ps++more))
section
variable{fs fs' ex ex':List Addr}{H H1 H2:Hp}{h h1 h2 h':Heap}{a x e:Addr}{o:HO}
theorem Un.any(u:Un fs ex H H1 h h1){b:Addr}{ob:Obj}(q:h.get? b=some ob)(n:H b=none)(hx:b ∉ ex):∃ sl,h1.get? b=some { ob with slots:=sl }:=by
 by_cases hb:b∈fs
 ·exact u.slot b ob q n hb hx
 ·exact⟨ob.slots,u.keep b ob q n hb hx⟩
theorem Un.trans(a:Un fs ex H H1 h h1)(b:Un fs ex H1 H2 h1 h2):Un fs ex H H2 h h2 where
 keep:=λc ob q n hc hx=>b.keep c ob (a.keep c ob q n hc hx) (a.free c ob q n hx) hc hx
 slot:=λc ob q n hc hx=>by
  obtain⟨sl,e1⟩:=a.slot c ob q n hc hx
  obtain⟨sl',e2⟩:=b.slot c _ e1 (a.free c ob q n hx) hc hx
  exact⟨sl',e2⟩
 free:=λc ob q n hx=>by
  obtain⟨o',e1⟩:=a.there c ob q hx
  exact b.free c o' e1 (a.free c ob q n hx) hx
 there:=λc ob q hx=>by
  obtain⟨o',e1⟩:=a.there c ob q hx
  exact b.there c o' e1 hx
 tups:=λc xs q=>b.tups c xs (a.tups c xs q)
 AK:=λc ob xs q=>b.AK c ob xs (a.AK c ob xs q)
 Ce:=λc ps q=>by
  obtain⟨m1,e1⟩:=a.Ce c ps q
  obtain⟨m2,e2⟩:=b.Ce c _ e1
  exact⟨m1++m2,by rw[e2,Array.append_assoc]⟩
theorem Un.kept(k:∀ b u,h.get? b=some u->h'.get? b=some u):Un fs ex H H h h' :=
 ⟨λb ob q _ _ _=>k b ob q,λb ob q _ _ _=>⟨ob.slots,k b ob q⟩,λ_ _ _ n _=>n,λb ob q _=>⟨ob,k b ob q⟩,λ_ _ q=>q,λ_ _ _ q=>q,λ_ ps q=>⟨#[],by rw[q]; simp⟩⟩
theorem Un.refl:Un fs ex H H h h:=Un.kept λ_ _ q=>q
theorem Un.laid(k:∀ b u,h.get? b=some u->h'.get? b=some u)(hp:h.objs.size<=a)(hn:H a=none):Un fs ex H (upd H a o) h h' where
 keep:=λb u q _ _ _=>k b u q
 slot:=λb u q _ _ _=>⟨u.slots,k b u q⟩
 free:=λb u q n _=>by rw[aD (bw (bx (Heap.lt_size q) hp))]; exact n
 there:=λb u q _=>⟨u,k b u q⟩
 tups:=λb xs q=>by rw[aD (aF q hn)]; exact q
 AK:=λb u xs q=>by rw[aD (aF q hn)]; exact q
 Ce:=λb ps q=>⟨#[],by rw[aD (aF q hn),q]; simp⟩
theorem Un.write(mu:Mh (H x))(he:e=x∨H e=some (.own x))(k:∀ b u,b≠e->h.get? b=some u->h'.get? b=some u)(heo:∃ u,h'.get? e=some u):Un fs ex H (upd H x o) h h':=by
 have hx:∀ b,H b=none->b≠x:=λb n z=>by subst z; rw[n] at mu; exact mu
 have hb:∀ b,H b=none->b≠e:=λb n z=>by
  subst z
  rcases he with r | r
  ·exact hx b n r
  ·rw[n] at r; cases r
 have hm:∀ b u,H b=some u->¬ Mh (some u)->b≠x:=λb u q nm z=>by subst z; rw[q] at mu; exact nm mu
 refine⟨λb u q n _ _=>k b u (hb b n) q,λb u q n _ _=>⟨u.slots,k b u (hb b n) q⟩,λb u q n _=>by rw[aD (hx b n)]; exact n,λb u q _=>?_,
  λb xs q=>by rw[aD (hm b _ q λz=>z)]; exact q,λb u xs q=>by rw[aD (hm b _ q λz=>z)]; exact q,λb ps q=>⟨#[],by rw[aD (hm b _ q λz=>z),q]; simp⟩⟩
 by_cases Ze:b=e
 ·subst Ze; exact heo
 ·exact⟨u,k b u Ze q⟩
end
noncomputable def trk(h:Heap)(H:Hp):List Addr:=(aq h.objs.size).filter λa=>(H a).isSome
noncomputable def KR(h:Heap)(H:Hp):Heap:=PySem.W.hideAll h (trk h H)
theorem RB(h:Heap)(H:Hp):(KR h H).objs.size=h.objs.size:=PySem.W.hideAll_size _ _
theorem Tu{h:Heap}{H:Hp}{b:Addr}{o:Obj}(e:h.get? b=some o)(n:H b=none):(KR h H).get? b=some o :=
 PySem.W.hideAll_get _ e λhm=>by
  have q:(H b).isSome=true:=(cS.mp hm).2
  rw[n] at q; simp at q
theorem Wn{h:Heap}{H:Hp}{b:Addr}{o:Obj}(e:(KR h H).get? b=some o):h.get? b=some o/\H b=none:=by
 have e':h.get? b=some o:=PySem.W.of_hideAll (trk h H) e
 refine⟨e',?_⟩
 cases q:H b with
 | none=>rfl
 | some x =>
  have hm:b∈trk h H:=cS.mpr ⟨fc.mpr (Heap.lt_size e'),by simp[q]⟩
  have z:(KR h H).get? b=none:=PySem.W.hideAll_none (trk h H) hm
  rw[z] at e; cases e
noncomputable def Wo(g h:Heap)(L:Addr):List (Addr × Obj):=(aq h.objs.size).filterMap λa=>if a=L∨(g.get? a).isSome=true then none else (h.get? a).map λo=>(a,o)
noncomputable def rest(g h:Heap)(L d:Addr):List (Addr × Obj):=(Wo g h L).filter λp=>decide (p.1≠d)
structure Mod(K:af)(mg:Str->Option Value)(base:Heap):Prop where
 Zf:K.In base
 glob:base.Ns mainGlobals mg
 blt:∃ mb,base.Ns builtinsNs mb/\∀ x:Str,x≠"__name__" -> mb x=bootBuiltins x
 nolimit:base.NoLimit
structure Cx where
 prog:Program
 w:World
 K:af
 mg:Str->Option Value
 base:Heap
 A:Around
 N:List Str
 s₀:Shared
 H₀:Hp
 env:Env
 outer:List Env
 stack:List Env
 ex:List Addr
 fn:Str->Bool
 calm:Bool
 pn:List (Addr × Obj)
 xe:Value->Shared->Prop
noncomputable def frs(l:List Env):List Addr:=l.filterMap (·.frame)
noncomputable abbrev Cx.fs(X:Cx):List Addr:=frs X.outer
def Vis(sc:Scope)(x:Str):Prop:=sc.names.lookup x=some .local∨sc.names.lookup x=some .cell∨sc.names.lookup x=some .free
def Loc(sc:Scope)(x:Str):Prop:=sc.names.lookup x=some .local∨sc.names.lookup x=some .cell
def Look(env:Env)(h:Heap)(m:Str->Option Value)(x:Str)(u:Value):Prop :=
 (env.kindOf x=some .local/\m x=some u)∨((env.kindOf x=some .cell∨env.kindOf x=some .free)/\∃ c,env.cells.lookup x=some c/\h.IsCell c (some u))
structure Cx.Ok(X:Cx):Prop where
 mod:Mod X.K X.mg X.base
 kind:X.env.scope.kind = .function
 glob:X.env.globals=mainGlobals
 blt:X.env.builtins=builtinsNs
 above:X.s₀.heap.objs.size<=X.env.locals
 inj:∀ x y c,X.env.cells.lookup x=some c->X.env.cells.lookup y=some c->x=y
 has:∀ x,(X.env.kindOf x=some .cell∨X.env.kindOf x=some .free)->∃ c,X.env.cells.lookup x=some c
 cab:∀ x c,X.fn x=true->X.env.cells.lookup x=some c->X.s₀.heap.objs.size<=c
 hd:X.calm=true->X.A.handled=none
 frames:X.A.frames=some X.stack
 stk:X.stack=X.outer∨(X.stack=X.env :: X.outer/\X.env.frame=some X.env.locals)
 exf:∀ b∈X.ex,b≠X.env.locals/\∀ x c,X.env.cells.lookup x=some c->c≠b
 bs:∀ b o,X.base.get? b=some o->X.s₀.heap.get? b=some o/\X.H₀ b=none
 Wa:X.base.objs.size<=X.s₀.heap.objs.size
 RC:∀ b o,X.base.get? b=some o->b ∉ X.ex
 Tv:∀ b∈X.ex,b ∉ X.fs
 Cf:X.s₀.heap.FunFrames X.base X.outer
 XY:∀ b∈X.fs,X.H₀ b=none
structure Inv(X:Cx)(pins:List (Addr × Obj))(σ:List (Option V))(H:Hp)(s:Shared):Prop where
 ok:X.Ok
 os:s.os=X.s₀.os
 bare:AllBare s.gens
 base:Un X.fs X.ex X.H₀ H X.s₀.heap s.heap
 loc:∃ m,s.heap.Ns X.env.locals m/\∀ (i:Nat) (x:Str) (v:V),X.N[i]?=some x->σ[i]?=some (some v)->Vis X.env.scope x->∃ u,RelV v u/\Look X.env s.heap m x u
 cell:∀ x c,X.env.cells.lookup x=some c->∃ v,s.heap.IsCell c v
 free:H X.env.locals=none
 tQ:∀ x c,X.env.cells.lookup x=some c->H c=none
 pin:∀ p∈X.pn++pins,s.heap.get? p.1=some p.2/\H p.1=none/\p.1≠X.env.locals/\p.1 ∉ X.fs/\∀ v,p.2.data≠.cell v
 hok:yK X.prog X.w H s.heap
 len:σ.length=X.N.length
section
variable{X:Cx}{pins:List (Addr × Obj)}{σ:List (Option V)}{H H':Hp}{s:Shared}{h':Heap}
theorem Cx.Ok.afs(ok:X.Ok){b:Addr}{o:Obj}(e:X.base.get? b=some o):b ∉ X.fs:=λhb=>by
 have:=(ok.Cf.mem hb).1
 rw[e] at this; cases this
theorem Inv.bs(I:Inv X pins σ H s):∀ b o,X.base.get? b=some o->s.heap.get? b=some o/\H b=none:=λb o e =>
 ⟨I.base.keep b o (I.ok.bs b o e).1 (I.ok.bs b o e).2 (I.ok.afs e) (I.ok.RC b o e),I.base.free b o (I.ok.bs b o e).1 (I.ok.bs b o e).2 (I.ok.RC b o e)⟩
theorem Inv.bk(I:Inv X pins σ H s):∀ b o,X.base.get? b=some o->s.heap.get? b=some o:=λb o e=>(I.bs b o e).1
theorem Inv.mod(I:Inv X pins σ H s):Mod X.K X.mg X.base:=I.ok.mod
theorem Inv.Cd(I:Inv X pins σ H s):X.K.In s.heap:=I.ok.mod.Zf.keeps I.bk
theorem Inv.lt(I:Inv X pins σ H s):X.env.locals < s.heap.objs.size:=let ⟨_,hn,_⟩:=I.loc; hn.lt
theorem Inv.sz(I:Inv X pins σ H s):X.s₀.heap.objs.size<=s.heap.objs.size:=aH I.ok.above (iL I.lt)
theorem Inv.aft(I:Inv X pins σ H s){a:Addr}(h:s.heap.objs.size<=a):a ∉ X.fs:=λhb=>by
 obtain⟨_,o,ho,_⟩:=I.ok.Cf.mem hb
 exact absurd (bx (Heap.lt_size ho) (aH I.sz h)) (gJ _)
theorem Inv.Zg(I:Inv X pins σ H s):∀ x c,X.env.cells.lookup x=some c->c≠X.env.locals:=λx c e z=>by
 obtain⟨v,o,ho,hd⟩:=I.cell x c e
 obtain⟨m,⟨o',es,ep,ho',hd',_⟩,_⟩:=I.loc
 rw[z,ho'] at ho; cases ho; rw[hd'] at hd; cases hd
theorem Inv.Cf(I:Inv X pins σ H s):s.heap.FunFrames X.base X.outer:=by
 have all:∀ (l:List Env),(∀ b∈frs l,b∈X.fs)->X.s₀.heap.FunFrames X.base l->s.heap.FunFrames X.base l:=by
  intro l
  induction l with
  | nil=>intro _ _; trivial
  | cons env r ih =>
   intro hs hl
   obtain⟨hk,⟨L,o,hf,hn,ho,hd⟩,hr⟩:=hl
   have hL:L∈X.fs:=hs L (by unfold frs; rw[dj,hf]; exact b6)
   obtain⟨sl,e⟩:=I.base.slot L o ho (I.ok.XY L hL) hL λz=>I.ok.Tv L z hL
   exact⟨hk,⟨L,_,hf,hn,e,hd⟩,ih (λb hb=>hs b (by unfold frs; rw[dj,hf]; exact bu _ hb)) hr⟩
 exact all X.outer (λ_ hb=>hb) I.ok.Cf
theorem Inv.stack(I:Inv X pins σ H s):s.heap.FunFrames X.base X.stack:=by
 rcases I.ok.stk with e | ⟨e,hf⟩
 ·rw[e]; exact I.Cf
 ·rw[e]
  obtain⟨m,hn,_⟩:=I.loc
  refine .cons (by rw[I.ok.kind]; decide) hf hn ?_ I.Cf
  exact Heap.get?_none_of_le (aH I.ok.Wa I.ok.above)
theorem Inv.Dz(I:Inv X pins σ H s):∀ b∈frs X.stack,b∈X.env.locals :: X.fs:=λb hb=>by
 rcases I.ok.stk with e | ⟨e,hf⟩
 ·rw[e] at hb; exact bu _ hb
 ·rw[e] at hb
  unfold frs at hb
  rw[dj,hf] at hb
  exact hb
theorem Inv.KS(I:Inv X pins σ H s):∀ b∈frs X.stack,H b=none:=λb hb=>by
 rcases bA.mp (I.Dz b hb) with e | hb
 ·rw[e]; exact I.free
 ·obtain⟨_,o,ho,_⟩:=I.ok.Cf.mem hb
  exact I.base.free b o ho (I.ok.XY b hb) λz=>I.ok.Tv b z hb
theorem Inv.step{g':Array GenState}{t':Nat}{d':Drawn}{ch:List Addr}(I:Inv X pins σ H s)
 (hch:∀ b∈ch,(b∈X.ex∨X.s₀.heap.objs.size<=b)/\b≠X.env.locals/\(∀ x c,X.env.cells.lookup x=some c->c≠b)/\∀ p∈X.pn++pins,p.1≠b)
 (keep:∀ b o,b≠X.env.locals->b ∉ X.fs->b ∉ ch->s.heap.get? b=some o->H b=none->h'.get? b=some o)
 (slot:∀ b o,b≠X.env.locals->b∈X.fs->b ∉ ch->s.heap.get? b=some o->H b=none->∃ sl,h'.get? b=some { o with slots:=sl }) (free:∀ b o,b ∉ ch->s.heap.get? b=some o->H b=none->H' b=none)
 (there:∀ b o,b ∉ ch->s.heap.get? b=some o->∃ o',h'.get? b=some o')
 (tups:∀ b xs,H b=some (.tup xs)->H' b=some (.tup xs)) (AK:∀ b o u,H b=some (.Am o u)->H' b=some (.Am o u)) (Ce:∀ b ps,H b=some (.XX ps)->∃ more,H' b=some (.XX (ps++more)))
 (ns:∀ m,s.heap.Ns X.env.locals m->h'.Ns X.env.locals m) (hok:yK X.prog X.w H' h') (hg:AllBare g') :
 Inv X pins σ H' { s with heap:=h',gens:=g',drawn:=d',toks:=t' }:=by
 have neL:∀ b o,X.s₀.heap.get? b=some o->b≠X.env.locals:=λb o e=>bw (bx (Heap.lt_size e) I.ok.above)
 have neC:∀ b o,X.s₀.heap.get? b=some o->b ∉ X.ex->b ∉ ch:=λb o e hx hb=>by
  rcases (hch b hb).1 with z | z
  ·exact hx z
  ·exact absurd (bx (Heap.lt_size e) z) (gJ _)
 have cellK:∀ x c,X.env.cells.lookup x=some c->∀ v,s.heap.IsCell c v->h'.IsCell c v:=λx c e v ⟨o,ho,hd⟩=>by
  have nch:c ∉ ch:=λz=>(hch c z).2.2.1 x c e rfl
  by_cases hc:c∈X.fs
  ·obtain⟨sl,q⟩:=slot c o (I.Zg x c e) hc nch ho (I.tQ x c e)
   exact⟨_,q,hd⟩
  ·exact⟨o,keep c o (I.Zg x c e) hc nch ho (I.tQ x c e),hd⟩
 refine⟨I.ok,I.os,hg,⟨λb o e n hb hx=>?_,λb o e n hb hx=>?_,λb o e n hx=>?_,λb o e hx=>?_,λb xs e=>tups b xs (I.base.tups b xs e),λb o xs e=>AK b o xs (I.base.AK b o xs e),λb ps e=>?_⟩,?_,λx c e=>?_,?_,λx c e=>?_,λp hp=>?_,hok,I.len⟩
 ·exact keep b o (neL b o e) hb (neC b o e hx) (I.base.keep b o e n hb hx) (I.base.free b o e n hx)
 ·obtain⟨sl,e1⟩:=I.base.slot b o e n hb hx
  obtain⟨sl',e2⟩:=slot b _ (neL b o e) hb (neC b o e hx) e1 (I.base.free b o e n hx)
  exact⟨sl',e2⟩
 ·obtain⟨o',e1⟩:=I.base.there b o e hx
  exact free b o' (neC b o e hx) e1 (I.base.free b o e n hx)
 ·obtain⟨o',e1⟩:=I.base.there b o e hx
  exact there b o' (neC b o e hx) e1
 ·obtain⟨m1,e1⟩:=I.base.Ce b ps e
  obtain⟨m2,e2⟩:=Ce b _ e1
  exact⟨m1++m2,by rw[e2,Array.append_assoc]⟩
 ·obtain⟨m,hn,hl⟩:=I.loc
  refine⟨m,ns m hn,λi x v e1 e2 e3=>?_⟩
  obtain⟨u,r,l⟩:=hl i x v e1 e2 e3
  refine⟨u,r,?_⟩
  rcases l with l | ⟨k,c,e,z⟩
  ·exact .inl l
  ·exact .inr ⟨k,c,e,cellK x c e _ z⟩
 ·obtain⟨v,z⟩:=I.cell x c e
  exact⟨v,cellK x c e v z⟩
 ·obtain⟨m,⟨o,_,_,ho,_⟩,_⟩:=I.loc
  exact free _ o (λz=>(hch _ z).2.1 rfl) ho I.free
 ·obtain⟨v,o,ho,hd⟩:=I.cell x c e
  exact free c o (λz=>(hch c z).2.2.1 x c e rfl) ho (I.tQ x c e)
 ·obtain⟨e,n,ne,nf,d⟩:=I.pin p hp
  have nch:p.1 ∉ ch:=λz=>(hch p.1 z).2.2.2 p hp rfl
  exact⟨keep p.1 p.2 ne nf nch e n,free p.1 p.2 nch e n,ne,nf,d⟩
theorem Inv.un{t':Nat}(I:Inv X pins σ H s)(u:Un X.fs [] H H' s.heap h')(hok:yK X.prog X.w H' h'):Inv X pins σ H' { s with heap:=h',toks:=t' }:=by
 obtain⟨m,⟨o,es,ep,ho,r⟩,_⟩:=id I.loc
 obtain⟨sl,hL⟩:=u.any ho I.free (by simp)
 exact I.step (g':=s.gens) (d':=s.drawn) (ch:=[]) (λ_ z=>nomatch z) (λb o _ hb _ e n=>u.keep b o e n hb (by simp)) (λb o _ hb _ e n=>u.slot b o e n hb (by simp)) (λb o _ e n=>u.free b o e n (by simp)) (λb o _ e=>u.there b o e (by simp)) u.tups u.AK u.Ce (λm' hm=>by
  obtain⟨o',es',ep',ho',r'⟩:=hm
  rw[ho] at ho'; cases ho'
  exact⟨_,es',ep',hL,r'⟩) hok I.bare
theorem Inv.call{g':Array GenState}{t':Nat}{d':Drawn}{ch:List Addr}(I:Inv X pins σ H s)(u:Un (frs X.stack) ch H H' s.heap h')(hok:yK X.prog X.w H' h')(hg:AllBare g')
 (hch:∀ b∈ch,(b∈X.ex∨X.s₀.heap.objs.size<=b)/\b≠X.env.locals/\(∀ x c,X.env.cells.lookup x=some c->c≠b)/\∀ p∈X.pn++pins,p.1≠b) :
 Inv X pins σ H' { s with heap:=h',gens:=g',drawn:=d',toks:=t' }:=by
 obtain⟨m,⟨o,es,ep,ho,r⟩,_⟩:=id I.loc
 obtain⟨sl,hL⟩:=u.any ho I.free λz=>(hch _ z).2.1 rfl
 exact I.step (ch:=ch) hch (λb o hL hb hc e n=>u.keep b o e n (λz=>(bA.mp (I.Dz b z)).elim hL hb) hc) (λb o _ _ hc e n=>u.any e n hc) (λb o hc e n=>u.free b o e n hc) (λb o hc e=>u.there b o e hc) u.tups u.AK u.Ce (λm' hm=>by
  obtain⟨o',es',ep',ho',r'⟩:=hm
  rw[ho] at ho'; cases ho'
  exact⟨_,es',ep',hL,r'⟩) hok hg
theorem Inv.turned{t':Nat}{it:Addr}(I:Inv X pins σ H s)(k:∀ b o,b≠it->s.heap.get? b=some o->h'.get? b=some o)(hn:H it=none)(hL:it≠X.env.locals)
 (h1:it∈X.ex∨X.s₀.heap.objs.size<=it) (h2:∀ x c,X.env.cells.lookup x=some c->c≠it) (h3:∀ p∈X.pn++pins,p.1≠it):Inv X pins σ H { s with heap:=h',toks:=t' }:=by
 have nit:∀ b u,H b=some u->b≠it:=λb u e z=>by rw[z,hn] at e; cases e
 refine I.step (g':=s.gens) (d':=s.drawn) (ch:=[it]) (λb hb=>?_) (λb o _ _ hc e _=>k b o (λz=>hc (by simp[z])) e) (λb o _ _ hc e _=>⟨o.slots,k b o (λz=>hc (by simp[z])) e⟩) (λ_ _ _ _ n=>n)
  (λb o hc e=>⟨o,k b o (λz=>hc (by simp[z])) e⟩) (λ_ _ e=>e) (λ_ _ _ e=>e) (λb ps e=>⟨#[],by rw[e]; simp⟩) (λm hm=>?_) (λb u e=>?_) I.bare
 ·have e:b=it:=by simpa using hb
  subst e
  exact⟨h1,hL,h2,h3⟩
 ·obtain⟨o,es,ep,ho,r⟩:=hm
  exact⟨o,es,ep,k _ o (bK hL) ho,r⟩
 ·refine (I.hok b u e).stay (λc v hc q=>k c v ?_ q) (λ_ q=>q) λ_ _ q=>q
  rcases hc with z | z
  ·rw[z]; exact nit b u e
  ·exact nit c _ z
theorem Inv.tok(I:Inv X pins σ H s)(t:Nat):Inv X pins σ H { s with toks:=t }:=I.un (h':=s.heap) (t':=t) Un.refl I.hok
theorem Inv.kept{t':Nat}(I:Inv X pins σ H s)(k:∀ b u,s.heap.get? b=some u->h'.get? b=some u):Inv X pins σ H { s with heap:=h',toks:=t' }:=I.un (Un.kept k) (I.hok.kept k)
theorem Inv.laid{a:Addr}{o:HO}{t':Nat}(I:Inv X pins σ H s)(k:∀ b u,s.heap.get? b=some u->h'.get? b=some u)(hp:s.heap.objs.size<=a)(new:fh X.prog X.w (upd H a o) h' a o) :
 Inv X pins σ (upd H a o) { s with heap:=h',toks:=t' }:=I.un (Un.laid k hp (I.hok.fresh hp)) (I.hok.laid k hp new)
theorem Inv.write{x e:Addr}{o:HO}{t':Nat}(I:Inv X pins σ H s)(mu:Mh (H x))(he:e=x∨H e=some (.own x))(k:∀ b u,b≠e->s.heap.get? b=some u->h'.get? b=some u)(heo:∃ u,h'.get? e=some u)
 (new:fh X.prog X.w (upd H x o) h' x o):Inv X pins σ (upd H x o) { s with heap:=h',toks:=t' }:=I.un (Un.write mu he k heo) (I.hok.write mu he k heo new)
theorem Inv.P9{JE:List (Addr × Obj)}(I:Inv X pins σ H s)(h:∀ p∈JE,s.heap.get? p.1=some p.2/\H p.1=none/\p.1≠X.env.locals/\p.1 ∉ X.fs/\∀ v,p.2.data≠.cell v):Inv X JE σ H s :=
 ⟨I.ok,I.os,I.bare,I.base,I.loc,I.cell,I.free,I.tQ,λp hp=>(bG.mp hp).elim (λz=>I.pin p (List.mem_append_left _ z)) (h p),I.hok,I.len⟩
theorem Mi{N:List Str}(hN:N.Nodup){i j:Nat}{x:Str}(a:N[i]?=some x)(b:N[j]?=some x):i=j:=by
 obtain⟨h1,e1⟩:=ai.mp a
 obtain⟨h2,e2⟩:=ai.mp b
 exact (List.getElem_inj hN).mp (e1.trans e2.symm)
theorem JF{M:Model}{A:Around}{E:Value->Shared->Prop}{i:Nat}{x:Str}{v:V}{u:Value}{Q:Unit->Shared->Prop}(I:Inv X pins σ H s)(hN:X.N.Nodup)(hi:X.N[i]?=some x)(hx:Loc X.env.scope x)(r:RelV v u)
 (h:∀ s',Inv X pins (σ.set i (some v)) H s'->(∃ a,Heap.SameBut a s.heap s'.heap/\(a=X.env.locals∨X.env.cells.lookup x=some a))->Q () s') (hf:X.fn x=true∨X.env.scope.names.lookup x=some .local:=by first | exact .inl rfl | exact .inr rfl | assumption):wpAny M A (storeName X.env x u) Q E s:=by
 obtain⟨m,hn,hl⟩:=id I.loc
 have hcls:(X.env.scope.kind == .class || (X.env.scope.kind == .module && X.env.locals != X.env.globals))=false:=by rw[I.ok.kind]; rfl
 have abK:i < σ.length:=by rw[I.len]; exact (ai.mp hi).1
 have Zg:=I.Zg
 have tracked:∀ {a:Addr} {h':Heap},(∃ o,s.heap.get? a=some o/\H a=none)->Heap.SameBut a s.heap h'->yK X.prog X.w H h':=λ{a h'} ha hs b ob e=>by
  obtain⟨_,_,hfree⟩:=ha
  refine (I.hok b ob e).stay (λc w' hc q=>(hs.2 c ?_).trans q) (λ_ q=>q) λ_ _ q=>q
  rintro rfl
  rcases hc with rfl | hc
  ·rw[hfree] at e; cases e
  ·rw[hfree] at hc; cases hc
 rcases hx with hk | hk
 ·refine wpAny_storeName_local hk hn (λh' hn' hs=>?_) hcls
  obtain⟨oL,_,_,hoL,_⟩:=id hn
  refine h _ ⟨I.ok,I.os,I.bare,⟨λb o e n hb hx=>?_,λb o e n hb hx=>?_,I.base.free,λb o e hx=>?_,I.base.tups,I.base.AK,I.base.Ce⟩,⟨_,hn',λj y v' e1 e2 e3=>?_⟩,λy c e=>?_,I.free,I.tQ,λp hp=>?_,tracked ⟨oL,hoL,I.free⟩ hs,by simpa using I.len⟩ ⟨_,hs,.inl rfl⟩
  ·exact (hs.2 b (bw (bx (Heap.lt_size e) I.ok.above))).trans (I.base.keep b o e n hb hx)
  ·obtain⟨sl,e1⟩:=I.base.slot b o e n hb hx
   exact⟨sl,(hs.2 b (bw (bx (Heap.lt_size e) I.ok.above))).trans e1⟩
  ·obtain⟨o',e1⟩:=I.base.there b o e hx
   exact⟨o',(hs.2 b (bw (bx (Heap.lt_size e) I.ok.above))).trans e1⟩
  ·by_cases hj:j=i
   ·subst hj
    rw[hi] at e1; cases e1
    rw[List.getElem?_set_self abK] at e2
    cases e2
    exact⟨u,r,.inl ⟨hk,by simp⟩⟩
   ·rw[List.getElem?_set_ne (bK hj)] at e2
    obtain⟨u',r',q⟩:=hl j y v' e1 e2 e3
    refine⟨u',r',?_⟩
    rcases q with ⟨k,e⟩ | ⟨k,c,e,z⟩
    ·refine .inl ⟨k,?_⟩
     have:y≠x:=λe=>hj (Mi hN e1 (e ▸ hi))
     simp[this,e]
    ·exact .inr ⟨k,c,e,z.sameBut hs (Zg y c e)⟩
  ·obtain⟨w',z⟩:=I.cell y c e
   exact⟨w',z.sameBut hs (Zg y c e)⟩
  ·obtain⟨e,n,ne,nf,d⟩:=I.pin p hp
   exact⟨(hs.2 p.1 ne).trans e,n,ne,nf,d⟩
 ·have hfn:X.fn x=true:=by
   rcases hf with z | z
   ·exact z
   ·rw[z] at hk; cases hk
  obtain⟨c,hc⟩:=I.ok.has x (.inl hk)
  obtain⟨w',z⟩:=I.cell x c hc
  refine wpAny_storeName_cell I.ok.kind hk hc z (λh' hc' hs=>?_)
  obtain⟨oc,hoc,afu⟩:=id z
  refine h { s with heap:=h' } ⟨I.ok,I.os,I.bare,⟨λb o e n hb hx=>?_,λb o e n hb hx=>?_,I.base.free,λb o e hx=>?_,I.base.tups,I.base.AK,I.base.Ce⟩,⟨m,hn.sameBut hs (bK (Zg x c hc)),λj y v' e1 e2 e3=>?_⟩,λy c' e=>?_,I.free,I.tQ,λp hp=>?_,tracked ⟨oc,hoc,I.tQ x c hc⟩ hs,by simpa using I.len⟩ ⟨c,hs,.inr hc⟩
  ·exact (hs.2 b (bw (bx (Heap.lt_size e) (I.ok.cab x c hfn hc)))).trans (I.base.keep b o e n hb hx)
  ·obtain⟨sl,e1⟩:=I.base.slot b o e n hb hx
   exact⟨sl,(hs.2 b (bw (bx (Heap.lt_size e) (I.ok.cab x c hfn hc)))).trans e1⟩
  ·obtain⟨o',e1⟩:=I.base.there b o e hx
   exact⟨o',(hs.2 b (bw (bx (Heap.lt_size e) (I.ok.cab x c hfn hc)))).trans e1⟩
  ·by_cases hj:j=i
   ·subst hj
    rw[hi] at e1; cases e1
    rw[List.getElem?_set_self abK] at e2
    cases e2
    exact⟨u,r,.inr ⟨.inl hk,c,hc,hc'⟩⟩
   ·rw[List.getElem?_set_ne (bK hj)] at e2
    obtain⟨u',r',q⟩:=hl j y v' e1 e2 e3
    refine⟨u',r',?_⟩
    rcases q with q | ⟨k,c',e,z'⟩
    ·exact .inl q
    ·refine .inr ⟨k,c',e,z'.sameBut hs ?_⟩
     rintro rfl
     exact hj (Mi hN e1 (I.ok.inj _ _ _ e hc ▸ hi))
  ·by_cases hcc:c'=c
   ·subst hcc; exact⟨_,hc'⟩
   ·obtain⟨w2,z2⟩:=I.cell y c' e
    exact⟨w2,z2.sameBut hs hcc⟩
  ·obtain⟨e,n,ne,nf,d⟩:=I.pin p hp
   refine⟨(hs.2 p.1 ?_).trans e,n,ne,nf,d⟩
   intro q
   rw[q,hoc] at e
   have q':oc=p.2:=aP e
   exact d w' (by rw[<- q']; exact afu)
theorem Cg{M:Model}{A:Around}{E:Value->Shared->Prop}{i:Nat}{x:Str}{v:V}{u:Value}{Q:Unit->Shared->Prop}(I:Inv X pins σ H s)(hN:X.N.Nodup)(hi:X.N[i]?=some x)(hx:Loc X.env.scope x)(r:RelV v u)
 (h:∀ s',Inv X pins (σ.set i (some v)) H s'->Q () s') (hf:X.fn x=true∨X.env.scope.names.lookup x=some .local:=by first | exact .inl rfl | exact .inr rfl | assumption):wpAny M A (storeName X.env x u) Q E s :=
 JF I hN hi hx r (λs' I' _=>h s' I') hf
theorem Inv.XZ{s':Shared}{ch:List Addr}(I:Inv X pins σ H s)(ho:s'.os=s.os)(u:Un (frs X.stack) ch H H' s.heap s'.heap)(hok:yK X.prog X.w H' s'.heap)(hg:AllBare s'.gens)
 (hch:∀ b∈ch,(b∈X.ex∨X.s₀.heap.objs.size<=b)/\b≠X.env.locals/\(∀ x c,X.env.cells.lookup x=some c->c≠b)/\∀ p∈X.pn++pins,p.1≠b):Inv X pins σ H' s':=by
 obtain⟨h',g',d',t',o'⟩:=s'
 have e:o'=s.os:=ho
 subst e
 exact I.call (g':=g') (t':=t') (d':=d') u hok hg hch
end
abbrev XK:=Value->Option Addr->Hp->Prop
abbrev St:=List (Option V)
abbrev VK:=V->Hp->Prop
abbrev TE:=St->Hp->VK->Prop
abbrev TT:=St->Hp->(Bool->Hp->Prop)->Prop
abbrev TA:=St->Hp->(List V->Hp->Prop)->Prop
structure Ends where
 nx:St->Hp->Prop
 rt:VK
 bk:St->Hp->Prop:=λ_ _=>False
 ct:St->Hp->Prop:=λ_ _=>False
abbrev TS:=Ends->St->Hp->Prop
inductive EP(X:Cx)(pins:List (Addr × Obj))(σ:St)(Q:VK)(u:Value)(s':Shared):Prop
 | mk (v:V) (H':Hp) (a:Inv X pins σ H' s') (b:RelV v u) (c:Q v H'):EP X pins σ Q u s'
inductive TP(X:Cx)(pins:List (Addr × Obj))(σ:St)(Q:Bool->Hp->Prop)(b:Bool)(s':Shared):Prop
 | mk (H':Hp) (a:Inv X pins σ H' s') (c:Q b H'):TP X pins σ Q b s'
inductive AP(X:Cx)(pins:List (Addr × Obj))(σ:St)(Q:List V->Hp->Prop)(us:List Value)(s':Shared):Prop
 | mk (vs:List V) (H':Hp) (a:Inv X pins σ H' s') (b:bT vs us) (c:Q vs H'):AP X pins σ Q us s'
def SP(X:Cx)(pins:List (Addr × Obj))(D:Ends)(f:Flow)(s':Shared):Prop :=
 match f with
 | .next=>∃ σ' H',Inv X pins σ' H' s'/\D.nx σ' H'
 | .brk=>∃ σ' H',Inv X pins σ' H' s'/\D.bk σ' H'
 | .cont=>∃ σ' H',Inv X pins σ' H' s'/\D.ct σ' H'
 | .ret u=>∃ v σ' H',Inv X pins σ' H' s'/\RelV v u/\D.rt v H'
def PE(X:Cx)(e:Expr)(t:TE):Prop :=
 ∀ (pins:List (Addr × Obj)) (s:Shared) (σ:St) (H:Hp) (Q:VK),Inv X pins σ H s->t σ H Q->wpAny (model X.prog X.w) X.A (eval e X.env) (EP X pins σ Q) X.xe s
def PT(X:Cx)(e:Expr)(t:TT):Prop :=
 ∀ (pins:List (Addr × Obj)) (s:Shared) (σ:St) (H:Hp) (Q:Bool->Hp->Prop),Inv X pins σ H s->t σ H Q->wpAny (model X.prog X.w) X.A (isTrue e X.env (eval e X.env)) (TP X pins σ Q) X.xe s
def PW(X:Cx)(e:Expr)(t:TT):Prop :=
 ∀ (whole:Sem Value) (pins:List (Addr × Obj)) (s:Shared) (σ:St) (H:Hp) (Q:Bool->Hp->Prop),Inv X pins σ H s->t σ H Q->wpAny (model X.prog X.w) X.A (isTrue e X.env whole) (TP X pins σ Q) X.xe s
theorem PW.pt{X:Cx}{e:Expr}{t:TT}(h:PW X e t):PT X e t:=h _
def PA(X:Cx)(es:List Expr)(t:TA):Prop :=
 ∀ (pos:Pos) (pins:List (Addr × Obj)) (s:Shared) (σ:St) (H:Hp) (Q:List V->Hp->Prop),Inv X pins σ H s->t σ H Q->wpAny (model X.prog X.w) X.A (spliced (backTo pos (starEach es X.env))) (AP X pins σ Q) X.xe s
def PS(X:Cx)(st:Stmt)(t:TS):Prop :=
 ∀ (pins:List (Addr × Obj)) (s:Shared) (σ:St) (H:Hp) (D:Ends),Inv X pins σ H s->t D σ H->wpAny (model X.prog X.w) X.A (exec st X.env) (SP X pins D) X.xe s
def jn(X:Cx)(st:List Stmt)(t:TS):Prop :=
 ∀ (pins:List (Addr × Obj)) (s:Shared) (σ:St) (H:Hp) (D:Ends),Inv X pins σ H s->t D σ H->wpAny (model X.prog X.w) X.A (execs st X.env) (SP X pins D) X.xe s
theorem gv{α:Type}{t:Sem α}{Q Q':α->Shared->Prop}{M:Model}{A:Around}{E:Value->Shared->Prop}{s:Shared}(h:wpAny M A t Q E s)(hQ:∀ a s,Q a s->Q' a s):wpAny M A t Q' E s:=wpAny_mono h hQ λ_ _ x=>x
section
variable{X:Cx}
inductive KU(i:Nat)(σ:St)(H:Hp)(Q:VK):Prop
 | mk (v:V) (a:σ[i]?=some (some v)) (b:Q v H):KU i σ H Q
def tC(v:V):TE:=λ_ H Q=>Q v H
theorem Zh{i:Nat}{x:Str}{pos:Pos}(hN:X.N[i]?=some x)(hv:Vis X.env.scope x)(hd:(x == ("__debug__" : Str))=false:=by decide)(hcd:(x == ("__classdict__" : Str))=false:=by decide):PE X (.Name x pos) (KU i):=by
 intro pins s σ H Q I h
 obtain⟨v,e,h⟩:=h
 obtain⟨m,hn,hl⟩:=I.loc
 obtain⟨u,r,l⟩:=hl i x v hN e hv
 have fin:EP X pins σ Q u s:=⟨v,H,I,r,h⟩
 rcases l with ⟨hk,hm⟩ | ⟨hk,c,hc,hcell⟩
 ·exact wpAny_Name (wpAny_loadName_local I.ok.kind hk hn hm fin) hd
 ·rcases hk with hk | hk
  ·exact wpAny_Name (wpAny_loadName_cell I.ok.kind hk hc hcell fin) hd
  ·exact wpAny_Name (wpAny_loadName_free I.ok.kind hk hc hcell fin hcd) hd
theorem aA{i j pos}:PE X (.Constant (.int i) j pos) (tC (.int i)):=λ_ _ _ H _ I h=>wpAny_Constant_int ⟨.int i,H,I.tok _,⟨_,rfl⟩,h⟩
theorem Ez{b j pos}:PE X (.Constant (.bool b) j pos) (tC (.bl b)):=λ_ _ _ H _ I h=>Constant_bool ⟨.bl b,H,I,rfl,h⟩
theorem nK{j pos}:PE X (.Constant .none j pos) (tC .eU):=λ_ _ _ H _ I h=>Constant_none ⟨.eU,H,I,rfl,h⟩
theorem pT{x j pos}:PE X (.Constant (.str x) j pos) (tC (.str x)):=λ_ _ _ H _ I h=>Calls.Constant_str ⟨.str x,H,I.tok _,⟨_,rfl⟩,h⟩
def Gl(X:Cx)(x:Str):Prop:=X.env.kindOf x=some .globalImplicit
theorem Ci{E:Value->Shared->Prop}{pins:List (Addr × Obj)}{s:Shared}{σ:St}{H:Hp}{x:Str}{u:Value}{pos:Pos}{Q:Value->Shared->Prop}(I:Inv X pins σ H s)(hg:Gl X x)(hm:X.mg x=some u)(h:Q u s)
 (hd:(x == ("__debug__" : Str))=false:=by decide):wpAny (model X.prog X.w) X.A (eval (.Name x pos) X.env) Q E s :=
 Calls.Name_function_global I.ok.kind hg (Calls.loadGlobal_global (by rw[I.ok.glob]; exact I.mod.glob.keeps I.bk) hm h) hd
theorem Ga{E:Value->Shared->Prop}{pins:List (Addr × Obj)}{s:Shared}{σ:St}{H:Hp}{x:Str}{u:Value}{pos:Pos}{Q:Value->Shared->Prop}(I:Inv X pins σ H s)(hg:Gl X x)(hm:X.mg x=none)(hv:bootBuiltins x=some u)(h:Q u s)
 (hn:x≠"__name__" := by decide) (hd:(x == ("__debug__" : Str))=false:=by decide):wpAny (model X.prog X.w) X.A (eval (.Name x pos) X.env) Q E s:=by
 obtain⟨mb,h1,h2⟩:=I.mod.blt
 exact Calls.Name_function_global I.ok.kind hg (Calls.loadGlobal_builtin (by rw[I.ok.glob]; exact I.mod.glob.keeps I.bk) hm (by rw[I.ok.blt]; exact h1.keeps I.bk) ((h2 x hn).trans hv) h) hd
theorem kN{x:Str}{v:V}{u:Value}{pos:Pos}(hg:Gl X x)(hm:X.mg x=some u)(r:RelV v u)(hd:(x == ("__debug__" : Str))=false:=by decide):PE X (.Name x pos) (tC v) :=
 λ_ _ _ H _ I h=>Ci I hg hm ⟨v,H,I,r,h⟩ hd
theorem FJ{x:Str}{v:V}{u:Value}{pos:Pos}(hg:Gl X x)(hm:X.mg x=none)(hv:bootBuiltins x=some u)(r:RelV v u)(hn:x≠"__name__" := by decide)(hd:(x == ("__debug__" : Str))=false:=by decide):PE X (.Name x pos) (tC v) :=
 λ_ _ _ H _ I h=>Ga I hg hm hv ⟨v,H,I,r,h⟩ hn hd
variable{a b:Expr}{ta tb:TE}{pos:Pos}
def PC(X:Cx)(op:CmpOp)(a b:Expr)(t:TE):Prop :=
 ∀ (pins:List (Addr × Obj)) (s:Shared) (σ:St) (H:Hp) (Q:VK),Inv X pins σ H s->t σ H Q ->
  wpAny (model X.prog X.w) X.A (eval a X.env) (λv s₁=>wpAny (model X.prog X.w) X.A (eval b X.env) (λu s₂=>wpAny (model X.prog X.w) X.A (compareOp op v u) (EP X pins σ Q) X.xe s₂) X.xe s₁) X.xe s
inductive BlR(Q:Bool->Hp->Prop)(x:V)(H1:Hp):Prop
 | mk (c:Bool) (a:x = .bl c) (b:Q c H1):BlR Q x H1
def tB(t:TE):TT:=λσ H Q=>t σ H (BlR Q)
theorem Zi{op:CmpOp}{t:TE}(h:PC X op a b t)(h1:behindInMarks op b=false:=by first | exact abL _ (by decide) (by decide) | rfl):PT X (.Compare a [op] [b] pos) (tB t):=by
 intro pins s σ H Q I hw
 refine wpAny_isTrue_Compare1 (gv (h pins s σ H _ I hw) λv s1 h1=>gv h1 λu s2 h2=>gv h2 λc s3 ⟨x,H1,I1,r1,q1⟩=>?_) h1
 obtain⟨d,rfl,q⟩:=q1
 cases r1
 exact wpAny_truthy_bool ⟨H1,I1,q⟩
theorem nL{e:Expr}{t:TE}(h:PE X e t)(he:∀ whole,isTrue e X.env whole=(do let v <- whole; standAt e.pos; holding [v] (truthy v)):=by intro _; rfl):PT X e (tB t):=by
 intro pins s σ H Q I hw
 refine isTrue_plain (gv (h pins s σ H _ I hw) λv s1 ⟨x,H1,I1,r1,q1⟩=>?_) (he _)
 obtain⟨d,rfl,q⟩:=q1
 cases r1
 exact wpAny_truthy_bool ⟨H1,I1,q⟩
variable{tA tB':TT}{rest:List Expr}
def afw(t u:TT):TT:=λσ H Q=>t σ H λc H1=>if c=true then u σ H1 Q else Q false H1
def tOr(t u:TT):TT:=λσ H Q=>t σ H λc H1=>if c=true then Q true H1 else u σ H1 Q
def afx(t:TT):TT:=λσ H Q=>t σ H λc H1=>Q (!c) H1
theorem Cj(ha:PT X a tA):PW X (.BoolOp .And [a] pos) tA:=by
 intro wh pins s σ H Q I h
 refine isTrue_and (gv (ha pins s σ H Q I h) λc s1 e=>?_)
 cases c with
 | true=>exact isTrue_and_nil e
 | false=>exact e
theorem KW(ha:PT X a tA):PW X (.BoolOp .Or [a] pos) tA:=by
 intro wh pins s σ H Q I h
 refine isTrue_or (gv (ha pins s σ H Q I h) λc s1 e=>?_)
 cases c with
 | false=>exact isTrue_or_nil e
 | true=>exact e
theorem Gb(ha:PT X a tA)(hb:PW X (.BoolOp .And (b :: rest) pos) tB'):PW X (.BoolOp .And (a :: b :: rest) pos) (afw tA tB'):=by
 intro wh pins s σ H Q I h
 refine isTrue_and (gv (ha pins s σ H _ I h) λc s1 ⟨H1,I1,q1⟩=>?_)
 cases c with
 | true=>exact hb wh pins s1 σ H1 Q I1 q1
 | false=>exact⟨H1,I1,q1⟩
theorem Qa(ha:PT X a tA)(hb:PW X (.BoolOp .Or (b :: rest) pos) tB'):PW X (.BoolOp .Or (a :: b :: rest) pos) (tOr tA tB'):=by
 intro wh pins s σ H Q I h
 refine isTrue_or (gv (ha pins s σ H _ I h) λc s1 ⟨H1,I1,q1⟩=>?_)
 cases c with
 | true=>exact⟨H1,I1,q1⟩
 | false=>exact hb wh pins s1 σ H1 Q I1 q1
theorem jx(ha:PT X a tA):PT X (.UnaryOp .Not a pos) (afx tA):=by
 intro pins s σ H Q I h
 exact isTrue_not (gv (ha pins s σ H (λc H1=>Q (!c) H1) I h) λ_ _ ⟨H1,I1,q1⟩=>⟨H1,I1,q1⟩)
def abM(ta tb:TE):TE:=λσ H Q=>ta σ H λx H1=>∃ c,x = .bl c/\if c=true then tb σ H1 Q else Q (.bl false) H1
def abN(ta:TE):TE:=λσ H Q=>ta σ H λx H1=>∃ c,x = .bl c/\Q (.bl (!c)) H1
theorem Ov{op}{t:TE}(h:PE X a t):PE X (.BoolOp op [a] pos) t:=λpins s σ H Q I hw=>BoolOp_one (h pins s σ H Q I hw)
theorem Gc(ha:PE X a ta)(hb:PE X (.BoolOp .And (b :: rest) pos) tb):PE X (.BoolOp .And (a :: b :: rest) pos) (abM ta tb):=by
 intro pins s σ H Q I h
 refine BoolOp_and (gv (ha pins s σ H _ I h) λv s1 ⟨x,H1,I1,r1,q1⟩=>?_)
 obtain⟨c,rfl,q1⟩:=q1
 cases r1
 refine wpAny_truthy_bool ?_
 cases c with
 | true=>exact hb pins s1 σ H1 Q I1 q1
 | false=>exact⟨.bl false,H1,I1,rfl,q1⟩
theorem Tw(ha:PE X a ta):PE X (.UnaryOp .Not a pos) (abN ta):=by
 intro pins s σ H Q I h
 refine UnaryOp_ (gv (ha pins s σ H _ I h) λv s1 ⟨x,H1,I1,r1,q1⟩=>?_)
 obtain⟨c,rfl,q1⟩:=q1
 cases r1
 exact not_of (wpAny_truthy_bool ⟨.bl (!c),H1,I1,rfl,q1⟩)
def tIf(t:TT)(ta tb:TE):TE:=λσ H Q=>t σ H λc H1=>if c=true then ta σ H1 Q else tb σ H1 Q
theorem yM{c:Expr}(hc:PT X c tA)(ha:PE X a ta)(hb:PE X b tb):PE X (.IfExp c a b pos) (tIf tA ta tb):=by
 intro pins s σ H Q I h
 refine wpAny_IfExp (gv (hc pins s σ H _ I h) λd s1 ⟨H1,I1,q1⟩=>?_)
 cases d with
 | true=>exact ha pins s1 σ H1 Q I1 q1
 | false=>exact hb pins s1 σ H1 Q I1 q1
end
def bJ(K:af)(H:Hp)(a:Addr)(xs:List V):Prop :=
 Rd H a (.lst xs) ∨
  ∃ (o:Obj) (its:Array Value) (n:Nat),K.lookup a=some o/\o.cls = .type "list" /\ o.dict=none/\o.data = .seq its n/\its.size<=sizeLine/\bT xs its.toList
def cH(K:af)(H:Hp)(a:Addr)(xs:List V):Prop :=
 Rd H a (.tup xs) ∨
  ∃ (o:Obj) (its:Array Value) (n:Nat),K.lookup a=some o/\o.cls = .type "tuple" /\ o.data = .seq its n/\its.size<=sizeLine/\bT xs its.toList
noncomputable def afy:Value->Option V
 | .none=>some .eU
 | .bool b=>some (.bl b)
 | .int i _=>some (.int i)
 | .str x _=>some (.str x)
 | .bytes b _=>some (.P8 b)
 | .float b _=>some (.Zd b)
 | .ref a=>some (.ref a)
 | .type n=>some (.ty n)
 | _=>none
theorem RelV.abs{x:V}{u:Value}(r:RelV x u):afy u=some x:=by
 cases x with
 | eU=>cases r; rfl
 | bl _=>cases r; rfl
 | int _=>obtain⟨t,rfl⟩:=r; rfl
 | str _=>obtain⟨t,rfl⟩:=r; rfl
 | P8 _=>obtain⟨t,rfl⟩:=r; rfl
 | Zd _=>obtain⟨t,rfl⟩:=r; rfl
 | ref _=>cases r; rfl
 | ty _=>cases r; rfl
theorem RelV.inj{x y:V}{u:Value}(r:RelV x u)(q:RelV y u):x=y:=aP (r.abs.symm.trans q.abs)
theorem bT.inj:∀ {xs ys:List V} {us:List Value},bT xs us->bT ys us->xs=ys
 | _,_,_,.nil,.nil=>rfl
 | _,_,_,.cons r t,.cons r' t'=>by rw[r.inj r',bT.inj t t']
section
variable{X:Cx}{pins:List (Addr × Obj)}{σ:St}{H:Hp}{s:Shared}{a:Addr}{xs ys:List V}
theorem bJ.of{K:af}(h:H a=some (.lst xs)):bJ K H a xs:=.inl (.inl h)
theorem cH.of{K:af}(h:H a=some (.tup xs)):cH K H a xs:=.inl (.inl h)
theorem Inv.list(I:Inv X pins σ H s)(h:bJ X.K H a xs):∃ its:List Value,bT xs its/\PlainL s.heap a its.toArray/\xs.length<=sizeLine:=by
 rcases h with h | ⟨o,its,n,hk,hc,hd,hs,hz,r⟩
 ·obtain⟨z,its,n,r,e⟩:=h.ok I.hok
  exact⟨its,r,⟨_,n,e,rfl,rfl,rfl⟩,z⟩
 ·refine⟨its.toList,r,⟨o,n,I.Cd a o hk,hc,hd,by simpa using hs⟩,?_⟩
  have e:=r.length
  simp only[aN] at e
  lia
theorem Inv.tuple(I:Inv X pins σ H s)(h:cH X.K H a xs):∃ its:List Value,bT xs its/\IsTup s.heap a its.toArray/\xs.length<=sizeLine:=by
 rcases h with h | ⟨o,its,n,hk,hc,hs,hz,r⟩
 ·obtain⟨z,its,r,p⟩:=h.ok I.hok
  exact⟨its,r,p,z⟩
 ·refine⟨its.toList,r,⟨o,I.Cd a o hk,hc,n,by simpa using hs⟩,?_⟩
  have e:=r.length
  simp only[aN] at e
  lia
theorem Inv.Mj(I:Inv X pins σ H s)(h:bJ X.K H a xs)(h':bJ X.K H a ys):xs=ys:=by
 obtain⟨its,r,⟨o,n,e,_,_,d⟩,_⟩:=I.list h
 obtain⟨its',r',⟨o',n',e',_,_,d'⟩,_⟩:=I.list h'
 rw[e] at e'; cases e'
 rw[d] at d'
 injection d' with d1 _
 have:its=its':=by simpa using congrArg Array.toList d1
 subst this
 exact r.inj r'
theorem Inv.RD(I:Inv X pins σ H s)(h:cH X.K H a xs)(h':cH X.K H a ys):xs=ys:=by
 obtain⟨its,r,⟨o,e,_,n,d⟩,_⟩:=I.tuple h
 obtain⟨its',r',⟨o',e',_,n',d'⟩,_⟩:=I.tuple h'
 rw[e] at e'; cases e'
 rw[d] at d'
 injection d' with d1 _
 have:its=its':=by simpa using congrArg Array.toList d1
 subst this
 exact r.inj r'
end
noncomputable abbrev Cx.IP(X:Cx)(E:Value->Shared->Prop):Cx:={ X with xe:=E }
noncomputable abbrev Cx.X0(X:Cx):Cx:=X.IP λ_ _=>False
theorem Cx.Ok.IP{X:Cx}(ok:X.Ok)(E:Value->Shared->Prop):(X.IP E).Ok :=
 ⟨ok.mod,ok.kind,ok.glob,ok.blt,ok.above,ok.inj,ok.has,ok.cab,ok.hd,ok.frames,ok.stk,ok.exf,ok.bs,ok.Wa,ok.RC,ok.Tv,ok.Cf,ok.XY⟩
theorem Cx.Ok.yN{X:Cx}{E:Value->Shared->Prop}(ok:(X.IP E).Ok):X.Ok :=
 ⟨ok.mod,ok.kind,ok.glob,ok.blt,ok.above,ok.inj,ok.has,ok.cab,ok.hd,ok.frames,ok.stk,ok.exf,ok.bs,ok.Wa,ok.RC,ok.Tv,ok.Cf,ok.XY⟩
section
variable{X:Cx}{pins:List (Addr × Obj)}{σ:St}{H:Hp}{s:Shared}{E:Value->Shared->Prop}
theorem Inv.IP(I:Inv X pins σ H s)(E:Value->Shared->Prop):Inv (X.IP E) pins σ H s:=⟨I.ok.IP E,I.os,I.bare,I.base,I.loc,I.cell,I.free,I.tQ,I.pin,I.hok,I.len⟩
theorem Inv.yN(I:Inv (X.IP E) pins σ H s):Inv X pins σ H s:=⟨I.ok.yN,I.os,I.bare,I.base,I.loc,I.cell,I.free,I.tQ,I.pin,I.hok,I.len⟩
theorem SP.yN{D:Ends}{f:Flow}{s':Shared}(h:SP (X.IP E) pins D f s'):SP X pins D f s':=by
 cases f with
 | next=>obtain⟨σ',H',I,q⟩:=h; exact⟨σ',H',I.yN,q⟩
 | brk=>obtain⟨σ',H',I,q⟩:=h; exact⟨σ',H',I.yN,q⟩
 | cont=>obtain⟨σ',H',I,q⟩:=h; exact⟨σ',H',I.yN,q⟩
 | ret u=>obtain⟨v,σ',H',I,r,q⟩:=h; exact⟨v,σ',H',I.yN,r,q⟩
theorem jn.X0{st:List Stmt}{t:TS}(h:jn X.X0 st t):jn X st t:=λpins s σ H D I hw =>
 wpAny_mono (h pins s σ H D (I.IP _) hw) (λ_ _ q=>q.yN) λ_ _ z=>jw z
end
section
variable{X:Cx}{st:Stmt}{rest:List Stmt}{t u:TS}{e:Expr}{te:TE}{pos:Pos}
def abO:TS:=λD σ H=>D.nx σ H
def Tz(t u:TS):TS:=λD σ H=>t { D with nx:=u D } σ H
theorem aX:jn X [] abO:=λ_ _ σ H _ I h=>wpAny_execs_nil ⟨σ,H,I,h⟩
theorem ak(h1:PS X st t)(h2:jn X rest u):jn X (st :: rest) (Tz t u):=by
 intro pins s σ H D I h
 refine wpAny_execs_cons (gv (h1 pins s σ H { D with nx:=u D } I h) λf s1 q=>?_)
 cases f with
 | next =>
  obtain⟨σ',H',I',q⟩:=q
  exact h2 pins s1 σ' H' D I' q
 | ret v=>exact q
 | brk=>exact q
 | cont=>exact q
theorem aW(h1:PS X st t):jn X [st] t:=by
 intro pins s σ H D I h
 refine wpAny_execs_cons (gv (h1 pins s σ H D I h) λf s1 q=>?_)
 cases f with
 | next=>exact wpAny_execs_nil q
 | ret v=>exact q
 | brk=>exact q
 | cont=>exact q
theorem Inv.quiet{pins:List (Addr × Obj)}{σ:St}{H:Hp}{s:Shared}(I:Inv X pins σ H s):interactive X.env=false:=by simp[interactive,I.ok.kind]
def Yb(te:TE):TS:=λD σ H=>te σ H λ_ H1=>D.nx σ H1
theorem dY(he:PE X e te)(hs:swapsWith e none pos.line X.env=pure false:=by rfl):PS X (.Expr e pos) (Yb te):=by
 intro pins s σ H D I h
 exact wpAny_Expr_any (gv (he pins s σ H _ I h) λv s1 ⟨x,H1,I1,r1,q1⟩=>⟨σ,H1,I1,q1⟩) I.quiet hs
def Zj(te:TE):TS:=λD σ H=>te σ H D.rt
theorem TF(he:PE X e te):PS X (.Return (some e) pos) (Zj te):=by
 intro pins s σ H D I h
 exact wpAny_Return_some (gv (he pins s σ H _ I h) λv s1 ⟨x,H1,I1,r1,q1⟩=>⟨x,σ,H1,I1,r1,q1⟩)
def TH(c:TT)(t u:TS):TS:=λD σ H=>c σ H λb H1=>if b=true then t D σ H1 else u D σ H1
theorem cC{c:Expr}{a b:List Stmt}{tc:TT}(hc:PT X c tc)(ha:jn X a t)(hb:jn X b u):PS X (.If c a b pos) (TH tc t u):=by
 intro pins s σ H D I h
 refine wpAny_If (gv (hc pins s σ H _ I h) λd s1 ⟨H1,I1,q1⟩=>?_)
 cases d with
 | true=>exact ha pins s1 σ H1 D I1 q1
 | false=>exact hb pins s1 σ H1 D I1 q1
def Zk:TS:=λ_ _ _=>False
theorem dN{sts:List Stmt}:jn X sts Zk:=λ_ _ _ _ _ _ h=>h.elim
end
abbrev TG:=V->St->Hp->(St->Hp->Prop)->Prop
abbrev Zl:=List V->St->Hp->(St->Hp->Prop)->Prop
def PG(X:Cx)(target:Expr)(t:TG):Prop :=
 ∀ (pins:List (Addr × Obj)) (s:Shared) (σ:St) (H:Hp) (v:V) (u:Value) (Q:St->Hp->Prop),Inv X pins σ H s->RelV v u->t v σ H Q ->
  wpAny (model X.prog X.w) X.A (assign target X.env u) (λ_ s'=>∃ σ' H',Inv X pins σ' H' s'/\Q σ' H') X.xe s
def om(X:Cx)(ts:List Expr)(t:Zl):Prop :=
 ∀ (pins:List (Addr × Obj)) (s:Shared) (σ:St) (H:Hp) (vs:List V) (us:List Value) (Q:St->Hp->Prop),Inv X pins σ H s->bT vs us->t vs σ H Q ->
  wpAny (model X.prog X.w) X.A (assignInOrder ((assignEach ts X.env).map (·.2)) us) (λ_ s'=>∃ σ' H',Inv X pins σ' H' s'/\Q σ' H') X.xe s
abbrev Zm:=V->V->V->Hp->(Hp->Prop)->Prop
def abP(X:Cx)(t:Zm):Prop :=
 ∀ (pins:List (Addr × Obj)) (s:Shared) (σ:St) (H:Hp) (o i v:V) (ov iv u:Value) (Q:Hp->Prop),Inv X pins σ H s->RelV o ov->RelV i iv->RelV v u->t o i v H Q ->
  wpAny (model X.prog X.w) X.A (setItem ov iv u) (λ_ s'=>∃ H',Inv X pins σ H' s'/\Q H') X.xe s
section
variable{X:Cx}{pos:Pos}
def gM(i:Nat):TG:=λv σ H Q=>Q (σ.set i (some v)) H
theorem Qc{i:Nat}{x:Str}(hN:X.N.Nodup)(hi:X.N[i]?=some x)(hx:Loc X.env.scope x)(hf:X.fn x=true∨X.env.scope.names.lookup x=some .local:=by first | exact .inl rfl | exact .inr rfl | assumption):PG X (.Name x pos) (gM i):=by
 intro pins s σ H v u Q I r h
 exact wpAny_assign_Name (Cg I hN hi hx r (λs' I'=>⟨_,H,I',h⟩) hf)
def afz:Zl:=λvs σ H Q=>vs = []/\Q σ H
inductive Yc(t:TG)(u:Zl)(vs:List V)(σ:St)(H:Hp)(Q:St->Hp->Prop):Prop
 | mk (v:V) (r:List V) (a:vs=v :: r) (b:t v σ H λσ' H'=>u r σ' H' Q):Yc t u vs σ H Q
theorem FL:om X [] afz:=by
 intro pins s σ H vs us Q I r h
 obtain⟨e,h⟩:=h
 subst e
 cases r
 exact assignInOrder_nil ⟨σ,H,I,h⟩
theorem l9{e:Expr}{es:List Expr}{t:TG}{u:Zl}(h1:PG X e t)(h2:om X es u)
 (hs:(assignEach (e :: es) X.env).map (·.2)=assign e X.env :: (assignEach es X.env).map (·.2):=by rfl):om X (e :: es) (Yc t u):=by
 intro pins s σ H vs us Q I r h
 obtain⟨v,vr,e1,h⟩:=h
 subst e1
 cases r with
 | cons r rr =>
  rw[hs]
  refine assignInOrder_cons (gv (h1 pins s σ H _ _ _ I r h) λ_ s1 ⟨σ1,H1,I1,q1⟩=>?_)
  exact h2 pins s1 σ1 H1 _ _ Q I1 rr q1
inductive Zn(K:af)(n:Nat)(t:Zl)(v:V)(σ:St)(H:Hp)(Q:St->Hp->Prop):Prop
 | mk (a:Addr) (xs:List V) (h1:v = .ref a) (h2:cH K H a xs) (h3:xs.length=n) (h4:t xs σ H Q):Zn K n t v σ H Q
theorem Ow{es:List Expr}{k:Nat}{t:Zl}{n:Nat}(hc:X.calm=true)(h:om X es t)
 (hn:(assignEach es X.env).length=n:=by rfl) (hst:(assignEach es X.env).findIdx? (·.1)=none:=by rfl):PG X (.Tuple es k pos) (Zn X.K n t):=by
 intro pins s σ H v u Q I r hw
 obtain⟨a,xs,e1,hq,hl,hw⟩:=hw
 subst e1
 cases r
 obtain⟨its,rv,ht,hz⟩:=I.tuple hq
 refine assign_Tuple_tuple (I.ok.hd hc) ht (by simp[hn,<- hl,rv.length]) hst λh' hx=>?_
 have I1:Inv X pins σ H { s with heap:=h' }:=I.kept (t':=s.toks) λb o e=>hx b o (bw (Heap.lt_size e)) e
 exact h pins _ σ H xs _ Q I1 (by simpa using rv) hw
def afA(to ti:TE)(t:Zm):TG:=λv σ H Q=>to σ H λo H1=>ti σ H1 λi H2=>t o i v H2 λH3=>Q σ H3
theorem KY{o i:Expr}{to ti:TE}{t:Zm}(ho:PE X o to)(hi:PE X i ti)(hs:abP X t)
 (ha:∀ v,assign (.Subscript o i pos) X.env v=(do
  let ov <- holding [v] (eval o X.env)
  let iv <- holding [v,ov] (eval i X.env)
  standAt pos
  holding [v,ov,iv] (setItem ov iv v)
  release [v,ov,iv] []):=by intro _; rfl):PG X (.Subscript o i pos) (afA to ti t):=by
 intro pins s σ H v u Q I r h
 rw[ha]
 refine wpAny_bind (wpAny_holding (gv (ho pins s σ H _ I h) λov s1 ⟨x,H1,I1,r1,q1⟩=>?_))
 refine wpAny_bind (wpAny_holding (gv (hi pins s1 σ H1 _ I1 q1) λiv s2 ⟨y,H2,I2,r2,q2⟩=>?_))
 refine wpAny_bind (wpAny_standAt (wpAny_bind (wpAny_holding (gv (hs pins s2 σ H2 x y v ov iv u _ I2 r1 r2 r q2) λ_ s3 ⟨H3,I3,q3⟩=>?_))))
 exact wpAny_release ⟨σ,H3,I3,q3⟩
def Wp(te:TE)(g:TG):TS:=λD σ H=>te σ H λx H1=>g x σ H1 D.nx
theorem Gd{tg e:Expr}{te:TE}{g:TG}(he:PE X e te)(hg:PG X tg g)(hs:swapsWithSole [tg] e pos.line X.env=pure false:=by rfl)(hw:swappedStores [tg] e X.env=pure none:=by rfl)
 (h1:(assignEach [tg] X.env).map (·.2) = [assign tg X.env]:=by rfl):PS X (.Assign [tg] e pos) (Wp te g):=by
 intro pins s σ H D I h
 refine wpAny_Assign_stores (gv (he pins s σ H _ I h) λv s1 ⟨x,H1,I1,r1,q1⟩=>?_) hs hw
 rw[h1]
 exact gv (hg pins s1 σ H1 x v _ I1 r1 q1) λ_ s2 q=>q
theorem Zo{i:Nat}{x:Str}{e:Expr}{te:TE}{pos':Pos}(hN:X.N.Nodup)(hi:X.N[i]?=some x)(hx:Loc X.env.scope x)(he:PE X e te)(hs:swapsWith e (some (.Name x pos')) pos.line X.env=pure false:=by rfl)(hf:X.fn x=true∨X.env.scope.names.lookup x=some .local:=by first | exact .inl rfl | exact .inr rfl | assumption) :
 PS X (.Assign [.Name x pos'] e pos) (Wp te (gM i)):=by
 intro pins s σ H D I h
 refine wpAny_Assign_Name (gv (he pins s σ H _ I h) λv s1 ⟨y,H1,I1,r1,q1⟩=>?_) hs
 exact Cg I1 hN hi hx r1 (λs2 I2=>⟨_,H1,I2,q1⟩) hf
def afB(i j:Nat)(ta:TA):TS:=λD σ H=>ta σ H λvs H1=>∃ v w,vs = [v,w]/\D.nx ((σ.set i (some v)).set j (some w)) H1
theorem Zp{i j:Nat}{x y:Str}{a b:Expr}{ta:TA}{px py pt:Pos}{kt k2 pt2}(hc:X.calm=true)(hN:X.N.Nodup)(hi:X.N[i]?=some x)(hj:X.N[j]?=some y)(hij:i≠j)
 (hx:X.env.scope.names.lookup x=some .local) (hy:X.env.scope.names.lookup y=some .local) (ha:PA X [a,b] ta)
 (hw:swappedStores [.Tuple [.Name x px,.Name y py] kt pt] (.Tuple [a,b] k2 pt2) X.env=pure (some [x,y]))
 (hs:swapsWithSole [.Tuple [.Name x px,.Name y py] kt pt] (.Tuple [a,b] k2 pt2) pos.line X.env=pure false:=by rfl) :
 PS X (.Assign [.Tuple [.Name x px,.Name y py] kt pt] (.Tuple [a,b] k2 pt2) pos) (afB i j ta):=by
 intro pins s σ H D I h
 rw[exec_Assign_arm]
 refine wpAny_bind (wpAny_standAt ?_)
 rw[hs]
 refine wpAny_bind (wpAny_pure ?_)
 rw[if_neg (by decide)]
 refine wpAny_bind (Tuple_ (gv (ha _ pins s σ H _ I h) λus s1 ⟨vs,H1,I1,r1,q1⟩=>?_))
 obtain⟨v,w,e1,q1⟩:=q1
 subst e1
 obtain⟨u1,u2,rfl,rv,rw'⟩ : ∃ u1 u2,us = [u1,u2]/\RelV v u1/\RelV w u2:=by
  cases r1 with
  | cons p q =>
   cases q with
   | cons p' q' =>
    cases q'
    exact⟨_,_,rfl,p,p'⟩
 refine wpAny_newObj_type ?_ (by show 2<=sizeLine; decide)
 have I2:Inv X pins σ H1 { s1 with heap:=s1.heap.push { cls:=.type "tuple",data:=.seq [u1,u2].toArray } }:=I1.kept (t':=s1.toks) λb o e=>Heap.get?_push_of_some _ e
 rw[hw]
 refine wpAny_bind (wpAny_pure ?_)
 show wpAny (model X.prog X.w) X.A (do rule "assign.swapped-stores"; let items <- unpackItems (.ref s1.heap.objs.size) 2 none; assignInOrder [λv=>bindName X.env y v,λv=>bindName X.env x v] items.reverse; pure Flow.next) _ _ _
 refine wpAny_bind (wpAny_rule (wpAny_bind (unpackItems_tuple (items:=#[u1,u2]) (I.ok.hd hc) (IsTup.new s1.heap _) λh' hx'=>?_)))
 have I3:=I2.kept (h':=h') (t':=s1.toks) λb o e=>hx' b o (bw (Heap.lt_size e)) e
 show wpAny _ _ (assignInOrder [λv=>bindName X.env y v,λv=>bindName X.env x v] [u2,u1] >>= λ_=>pure Flow.next) _ _ _
 refine wpAny_bind (assignInOrder_cons (wpAny_bindName (Cg I3 hN hj (.inl hy) rw' (λs2 I4=>?_) (.inr hy))))
 refine assignInOrder_cons (wpAny_bindName (Cg I4 hN hi (.inl hx) rv (λs3 I5=>assignInOrder_nil (wpAny_pure ?_)) (.inr hx)))
 rw[List.set_comm _ _ (bK hij)] at I5
 exact⟨_,H1,I5,q1⟩
def TJ(c:TT)(tb:TS):TS:=λD σ H=>∃ W:Nat->St->Hp->Prop,(∃ m,W m σ H)/\∀ m σ H,W m σ H ->
 c σ H λb H1=>if b=true then ∃ N:St->Hp->Prop,(∀ σ' H',N σ' H'->∃ m',m' < m/\W m' σ' H')/\tb { D with nx:=N,ct:=N,bk:=D.nx } σ H1 else D.nx σ H1
theorem TL{c:Expr}{body:List Stmt}{tc:TT}{tb:TS}(hp:PassesOwn (model X.prog X.w) X.A X.env X.xe)(hc:PT X c tc)(hb:jn X body tb):PS X (.While c body [] pos) (TJ tc tb):=by
 intro pins s σ H D I h
 obtain⟨W,⟨m0,w0⟩,turn⟩:=h
 refine wpAny_While (codeAny_whileLoop (λn s'=>∃ σ' H',Inv X pins σ' H' s'/\W n σ' H') ?_ m0 ⟨σ,H,I,w0⟩)
 rintro n s1 ⟨σ1,H1,I1,w1⟩
 refine wpAny_passesOwn hp (gv (hc pins s1 σ1 H1 _ I1 (turn n σ1 H1 w1)) λb s2 ⟨H2,I2,q2⟩=>?_)
 cases b with
 | true =>
  obtain⟨N,hN,q2⟩:=q2
  rw[if_pos rfl]
  refine wpAny_passesOwn hp (gv (hb pins s2 σ1 H2 _ I2 q2) λf s3 q3=>?_)
  cases f with
  | next =>
   obtain⟨σ3,H3,I3,n3⟩:=q3
   obtain⟨m',hm,w3⟩:=hN σ3 H3 n3
   exact⟨m',hm,σ3,H3,I3,w3⟩
  | cont =>
   obtain⟨σ3,H3,I3,n3⟩:=q3
   obtain⟨m',hm,w3⟩:=hN σ3 H3 n3
   exact⟨m',hm,σ3,H3,I3,w3⟩
  | brk=>exact q3
  | ret v=>exact q3
 | false =>
  rw[if_neg aB]
  exact wpAny_execs_nil ⟨σ1,H2,I2,q2⟩
end
structure It where
 go:Nat->Hp->Prop
 Ml:Nat->Hp->V->Hp->Prop
 stop:Nat->Hp->Prop
def Ck(X:Cx)(pins:List (Addr × Obj))(H:Hp)(b:Addr):Prop :=
 H b=none/\b≠X.env.locals/\b ∉ X.fs/\(b∈X.ex∨X.s₀.heap.objs.size<=b)/\(∀ x c,X.env.cells.lookup x=some c->c≠b)/\∀ p∈X.pn++pins,p.1≠b
theorem Inv.TM{X:Cx}{pins:List (Addr × Obj)}{σ:St}{H H':Hp}{s:Shared}{b:Addr}(I:Inv X pins σ H s)(hb:s.heap.objs.size<=b)(hn:H' b=none):Ck X pins H' b:=by
 refine⟨hn,Nat.ne_of_gt (bx I.lt hb),I.aft hb,.inr (aH I.sz hb),λx c e z=>?_,λp hp z=>?_⟩
 ·obtain⟨v,q⟩:=I.cell x c e
  exact absurd (bx q.lt (by rw[z]; exact hb)) (gJ _)
 ·exact absurd (bx (Heap.lt_size (I.pin p hp).1) (by rw[z]; exact hb)) (gJ _)
structure Turn(P:Program)(w:World)(K:af)(tg:Expr)(J:It)(fp:List Addr)(it:Addr)(tn:Nat->Heap->Prop):Prop where
 mem:it∈fp
 obj:∀ i h,tn i h->∀ b∈fp,∃ o,h.get? b=some o/\∀ v,o.data≠.cell v
 keep:∀ i h h',tn i h->(∀ b∈fp,∀ o,h.get? b=some o->h'.get? b=some o)->tn i h'
 item:∀ (X:Cx),X.prog=P->X.w=w->X.K=K->X.calm=true->∀ (i:Nat) (pins:List (Addr × Obj)) (s:Shared) (σ:St) (H:Hp) (E:Value->Shared->Prop),Inv X pins σ H s->(∀ b∈fp,Ck X pins H b)->tn i s.heap->J.go i H ->
  wpAny (model P w) X.A (pyNext (.ref it)) (λr s1=>∃ u,r=some u /\
   wpAny (model P w) X.A (letOwnedTupleGo tg (.ref it) u) (λ_ s2=>∃ x H',Inv X pins σ H' s2/\RelV x u/\J.Ml i H x H'/\tn (i + 1) s2.heap/\∀ b∈fp,H' b=none) E s1) E s
 done:∀ (X:Cx),X.prog=P->X.w=w->X.K=K->X.calm=true->∀ (i:Nat) (pins:List (Addr × Obj)) (s:Shared) (σ:St) (H:Hp) (E:Value->Shared->Prop),Inv X pins σ H s->(∀ b∈fp,Ck X pins H b)->tn i s.heap->J.stop i H ->
  wpAny (model P w) X.A (pyNext (.ref it)) (λr s1=>r=none/\Inv X pins σ H s1) E s
 self:∀ (A:Around) (i:Nat) (s:Shared) (Q:Value->Shared->Prop) (E:Value->Shared->Prop),tn i s.heap->Q (.ref it) s->wpAny (model P w) A (pyIter (.ref it)) Q E s
abbrev TI:=St->Hp->(It->Hp->Prop)->Prop
def PIE(X:Cx)(pins:List (Addr × Obj))(σ:St)(tg:Expr)(R:It->Hp->Prop)(itv:Value)(s2:Shared):Prop :=
 ∃ (it:Addr) (fp:List Addr) (tn:Nat->Heap->Prop) (J:It) (H':Hp),itv = .ref it/\Inv X pins σ H' s2/\Turn X.prog X.w X.K tg J fp it tn/\tn 0 s2.heap/\(∀ b∈fp,Ck X pins H' b)/\R J H'
def PI(X:Cx)(tg iter:Expr)(wi:TI):Prop :=
 ∀ (pins:List (Addr × Obj)) (s:Shared) (σ:St) (H:Hp) (R:It->Hp->Prop),Inv X pins σ H s->wi σ H R ->
  wpAny (model X.prog X.w) X.A (eval iter X.env) (λv s1=>wpAny (model X.prog X.w) X.A (pyIter v) (PIE X pins σ tg R) X.xe s1) X.xe s
theorem TN{M:Model}{A:Around}{E:Value->Shared->Prop}{s:Shared}{tg:Expr}{it:Addr}{u:Value}{o:Obj}{n:String}{vs:Array Value}{Q:Unit->Shared->Prop}(ho:s.heap.get? it=some o)(hc:o.cls = .type n)(hd:o.data = .fields vs)
 (hn:["enumerate","zip","dict_itemiterator","dict_reverseitemiterator","odict_iterator","itertools.zip_longest","itertools.pairwise"].contains n=false) (hQ:Q () s):wpAny M A (letOwnedTupleGo tg (.ref it) u) Q E s:=by
 unfold letOwnedTupleGo
 cases tg <;> first
  | exact wpAny_pure hQ
  | (cases u <;> first
   | exact wpAny_pure hQ
   | (refine wpAny_bind (wpAny_load ho ?_)
      rw[hc,hd]
      show wpAny M A (if (["enumerate","zip","dict_itemiterator","dict_reverseitemiterator","odict_iterator","itertools.zip_longest","itertools.pairwise"].contains n && vs[0]? == some (rawInt _))=true then _ else _) Q E s
      rw[if_neg (by intro h; rw[hn,Bool.false_and] at h; cases h)]
      exact wpAny_pure hQ))
noncomputable def KZ(K:af)(a:Addr):It :=
 ⟨λi H=>∃ xs x,bJ K H a xs/\xs[i]?=some x,λi H x H'=>H'=H/\∀ xs,bJ K H a xs->xs[i]?=some x,λi H=>∃ xs,bJ K H a xs/\xs.length<=i⟩
noncomputable def Itt(K:af)(a:Addr):It :=
 ⟨λi H=>∃ xs x,cH K H a xs/\xs[i]?=some x,λi H x H'=>H'=H/\∀ xs,cH K H a xs->xs[i]?=some x,λi H=>∃ xs,cH K H a xs/\xs.length<=i⟩
noncomputable def TR(lo:Int)(n:Nat):It:=⟨λi _=>i < n,λi H x H'=>H'=H/\x = .int (lo + i),λi _=>n<=i⟩
theorem RE{P:Program}{w:World}{K:af}{tg:Expr}(a it:Addr):Turn P w K tg (KZ K a) [it] it (λi h=>h.IsListIter it a i) where
 mem:=by simp
 obj:=λi h st b hb=>by
  have e:b=it:=by simpa using hb
  subst e
  obtain⟨o,e,c,d⟩:=st
  exact⟨o,e,λv z=>by rw[d] at z; cases z⟩
 keep:=λi h h' st k=>st.at λo e=>k it (by simp) o e
 item:=by
  intro X hP hw hK hc i pins s σ H E I hf st hg
  subst hP hw hK
  obtain⟨xs,x,hq,hx⟩:=hg
  obtain⟨its,rv,p,hz⟩:=I.list hq
  obtain⟨u,hu,ru⟩:=rv.get hx
  obtain⟨f0,f1,f2,f3,f4,f5⟩:=hf it (by simp)
  refine wpAny_pyNext_list_item st p.isList (x:=u) (by simpa using hu) λh' st' sb=>?_
  have I1:Inv X pins σ H { s with heap:=h' }:=I.turned (t':=s.toks) (λb o hb e=>(sb.2 b hb).trans e) f0 f1 f3 f4 f5
  obtain⟨o,e,c,d⟩:=id st'
  exact⟨u,rfl,TN (s:={ s with heap:=h' }) e c d (by decide) ⟨x,H,I1,ru,⟨rfl,λys hy=>by rw[I.Mj hy hq]; exact hx⟩,st',λb hb=>(hf b hb).1⟩⟩
 done:=by
  intro X hP hw hK hc i pins s σ H E I hf st hg
  subst hP hw hK
  obtain⟨xs,hq,hx⟩:=hg
  obtain⟨its,rv,p,hz⟩:=I.list hq
  obtain⟨f0,f1,f2,f3,f4,f5⟩:=hf it (by simp)
  have hl:=rv.length
  exact wpAny_pyNext_list_end (I.ok.hd hc) st p.isList (by simp; lia) λh' eb=>⟨rfl,I.turned (t':=s.toks) (λb o hb e=>eb b o hb e) f0 f1 f3 f4 f5⟩
 self:=λ_ _ _ _ _ st h=>wpAny_pyIter_listiter st h
theorem Ox{P:Program}{w:World}{K:af}{tg:Expr}(a it:Addr):Turn P w K tg (Itt K a) [it] it (λi h=>h.IsTupleIter it a i) where
 mem:=by simp
 obj:=λi h st b hb=>by
  have e:b=it:=by simpa using hb
  subst e
  obtain⟨o,e,c,d⟩:=st
  exact⟨o,e,λv z=>by rw[d] at z; cases z⟩
 keep:=λi h h' st k=>st.at λo e=>k it (by simp) o e
 item:=by
  intro X hP hw hK hc i pins s σ H E I hf st hg
  subst hP hw hK
  obtain⟨xs,x,hq,hx⟩:=hg
  obtain⟨its,rv,p,hz⟩:=I.tuple hq
  obtain⟨u,hu,ru⟩:=rv.get hx
  obtain⟨f0,f1,f2,f3,f4,f5⟩:=hf it (by simp)
  refine wpAny_pyNext_tuple_item st (show s.heap.IsTuple a its.toArray from p) (x:=u) (by simpa using hu) λh' st' sb=>?_
  have I1:Inv X pins σ H { s with heap:=h' }:=I.turned (t':=s.toks) (λb o hb e=>(sb.2 b hb).trans e) f0 f1 f3 f4 f5
  obtain⟨o,e,c,d⟩:=id st'
  exact⟨u,rfl,TN (s:={ s with heap:=h' }) e c d (by decide) ⟨x,H,I1,ru,⟨rfl,λys hy=>by rw[I.RD hy hq]; exact hx⟩,st',λb hb=>(hf b hb).1⟩⟩
 done:=by
  intro X hP hw hK hc i pins s σ H E I hf st hg
  subst hP hw hK
  obtain⟨xs,hq,hx⟩:=hg
  obtain⟨its,rv,p,hz⟩:=I.tuple hq
  obtain⟨f0,f1,f2,f3,f4,f5⟩:=hf it (by simp)
  have hl:=rv.length
  exact wpAny_pyNext_tuple_end (I.ok.hd hc) st (show s.heap.IsTuple a its.toArray from p) (by simp; lia) λh' eb=>⟨rfl,I.turned (t':=s.toks) (λb o hb e=>eb b o hb e) f0 f1 f3 f4 f5⟩
 self:=λ_ _ _ _ _ st h=>wpAny_pyIter_tupleiter st h
theorem Oz{P:Program}{w:World}{K:af}{tg:Expr}(it:Addr)(lo:Int)(n:Nat):Turn P w K tg (TR lo n) [it] it (λi h=>IsRangeIter h it (lo + (i:Nat) * 1) ((n:Int) - (i:Nat)) 1) where
 mem:=by simp
 obj:=λi h st b hb=>by
  have e:b=it:=by simpa using hb
  subst e
  exact⟨_,st,λv z=>by
   have z':Data.fields _=Data.cell v:=z
   cases z'⟩
 keep:=λi h h' st k=>k it (by simp) _ st
 item:=by
  intro X hP hw hK hc i pins s σ H E I hf st hg
  subst hP hw hK
  obtain⟨f0,f1,f2,f3,f4,f5⟩:=hf it (by simp)
  have W:=Walks.range (prog:=X.prog) (w:=X.w) (I.ok.hd hc) it lo 1 n
  refine W.item i s _ _ hg st λv h' tk hv st' kk=>?_
  obtain⟨t,rfl⟩:=hv
  have I1:Inv X pins σ H { s with heap:=h',toks:=tk }:=I.turned (λb o hb e=>kk b o (by simpa using hb) e) f0 f1 f3 f4 f5
  refine⟨_,rfl,TN (s:={ s with heap:=h',toks:=tk }) (n:="range_iterator") st' rfl rfl (by decide) ⟨.int (lo + i),H,I1,⟨t,?_⟩,⟨rfl,rfl⟩,st',λb hb=>(hf b hb).1⟩⟩
  rw[Int.mul_one]
 done:=by
  intro X hP hw hK hc i pins s σ H E I hf st hg
  subst hP hw hK
  obtain⟨f0,f1,f2,f3,f4,f5⟩:=hf it (by simp)
  exact wpAny_pyNext_range_end (I.ok.hd hc) st (by have:n<=i:=hg; lia) λh' eb=>⟨rfl,I.turned (t':=s.toks) (λb o hb e=>eb b o hb e) f0 f1 f3 f4 f5⟩
 self:=λ_ _ _ _ _ st h=>wpAny_pyIter_rangeiter st h
section
variable{X:Cx}{tg:Expr}
inductive Yd(K:af)(R:It->Hp->Prop)(x:V)(H1:Hp):Prop
 | mk (a:Addr) (h1:x = .ref a) (h2:∃ xs,bJ K H1 a xs) (h3:R (KZ K a) H1):Yd K R x H1
def abQ(K:af)(tl:TE):TI:=λσ H R=>tl σ H (Yd K R)
def afD(K:af)(tl:TE):TI:=λσ H R=>tl σ H λx H1=>∃ a,x = .ref a/\(∃ xs,cH K H1 a xs)/\R (Itt K a) H1
theorem fB{l:Expr}{tl:TE}(hl:PE X l tl):PI X tg l (abQ X.K tl):=by
 intro pins s σ H R I h
 refine gv (hl pins s σ H _ I h) λv s1 ⟨x,H1,I1,r1,q1⟩=>?_
 obtain⟨a,e,⟨xs,hq⟩,q⟩:=q1
 subst e
 cases r1
 obtain⟨its,rv,p,hz⟩:=I1.list hq
 refine wpAny_pyIter_list p.isList ?_
 refine⟨s1.heap.objs.size,[s1.heap.objs.size],_,_,H1,rfl,I1.kept (t':=s1.toks) λb o e=>Heap.get?_push_of_some _ e,RE a _,⟨_,Heap.get?_push_size _ rfl,rfl,rfl⟩,λb hb=>?_,q⟩
 have e:b=s1.heap.objs.size:=by simpa using hb
 subst e
 exact I1.TM (au _) (I1.hok.fresh (au _))
theorem TU{l:Expr}{tl:TE}(hl:PE X l tl):PI X tg l (afD X.K tl):=by
 intro pins s σ H R I h
 refine gv (hl pins s σ H _ I h) λv s1 ⟨x,H1,I1,r1,q1⟩=>?_
 obtain⟨a,e,⟨xs,hq⟩,q⟩:=q1
 subst e
 cases r1
 obtain⟨its,rv,p,hz⟩:=I1.tuple hq
 refine wpAny_pyIter_tuple (show s1.heap.IsTuple a its.toArray from p) ?_
 refine⟨s1.heap.objs.size,[s1.heap.objs.size],_,_,H1,rfl,I1.kept (t':=s1.toks) λb o e=>Heap.get?_push_of_some _ e,Ox a _,⟨_,Heap.get?_push_size _ rfl,rfl,rfl⟩,λb hb=>?_,q⟩
 have e:b=s1.heap.objs.size:=by simpa using hb
 subst e
 exact I1.TM (au _) (I1.hok.fresh (au _))
theorem TV{pins:List (Addr × Obj)}{σ:St}{H:Hp}{s:Shared}{R:It->Hp->Prop}{E:Value->Shared->Prop}{lo hi:Int}{t u v:Tok}{tk:Nat}(I:Inv X pins σ H s)(h1 : -(2 ^ 62)<=lo)(h2:lo < 2 ^ 62)(h3 : -(2 ^ 62)<=hi)(h4:hi < 2 ^ 62)
 (q:R (TR lo (hi - lo).toNat) H):wpAny (model X.prog X.w) X.A (pyIter (.ref s.heap.objs.size)) (PIE X pins σ tg R) E { s with heap:=s.heap.push { cls:=.type "range",data:=.fields #[.int lo t,.int hi u,.int 1 v] },toks:=tk }:=by
 refine wpAny_pyIter_range (IsRange.new ..) (small_one h1 h2 h3 h4) ?_
 have I1:Inv X pins σ H { s with heap:=s.heap.push { cls:=.type "range",data:=.fields #[.int lo t,.int hi u,.int 1 v] },toks:=tk }:=I.kept λb o e=>Heap.get?_push_of_some _ e
 refine⟨(s.heap.push { cls:=.type "range",data:=.fields #[.int lo t,.int hi u,.int 1 v] }).objs.size,[(s.heap.push { cls:=.type "range",data:=.fields #[.int lo t,.int hi u,.int 1 v] }).objs.size],_,_,H,rfl,
  I1.kept (t':=tk) λb o e=>Heap.get?_push_of_some _ e,Oz _ lo (hi - lo).toNat,?_,λb hb=>?_,q⟩
 ·have e1:lo + ((0:Nat):Int) * 1=lo:=by simp
  have e2:(((hi - lo).toNat:Nat):Int) - ((0:Nat):Int)=Builtin.Range.rangeSize lo hi 1:=by rw[rangeSize_one]; split <;> lia
  show IsRangeIter _ _ (lo + ((0:Nat):Int) * 1) ((((hi - lo).toNat:Nat):Int) - ((0:Nat):Int)) 1
  rw[e1,e2]
  exact Heap.get?_push_size _ rfl
 ·have e:b=(s.heap.push { cls:=.type "range",data:=.fields #[.int lo t,.int hi u,.int 1 v] }).objs.size:=by simpa using hb
  subst e
  exact I1.TM (au _) (I1.hok.fresh (au _))
inductive Ye(R:It->Hp->Prop)(vs:List V)(H1:Hp):Prop
 | mk (j:Int) (h1:vs = [.int j]) (h2 : -(2 ^ 62)<=j) (h3:j < 2 ^ 62) (h4:R (TR 0 j.toNat) H1):Ye R vs H1
def abR(ta:TA):TI:=λσ H R=>ta σ H (Ye R)
theorem eB{a:Expr}{ta:TA}{p pos:Pos}(hg:Gl X "range")(hm:X.mg "range" = none)(ha:PA X [a] ta)(hs:starEach [a] X.env = [(false,eval a X.env)]:=by rfl):PI X tg (.Call (.Name "range" p) [a] [] pos) (abR ta):=by
 intro pins s σ H R I h
 refine Call_ (Ga I hg hm boot_range (PyProof.Rows.callWith_type1 (gv (ha pos pins s σ H _ I h) λus s1 ⟨vs,H1,I1,r1,q1⟩=>?_) hs rfl))
 obtain⟨j,e,q1,q2,q⟩:=q1
 subst e
 cases r1 with
 | cons r rr =>
  cases rr
  obtain⟨t,rfl⟩:=r
  exact call_range_1 (TV I1 (by lia) (by lia) q1 q2 (by simpa using q))
def abS(wi:TI)(g:TG)(tb:TS):TS:=λD σ H=>wi σ H λJ H1=>∃ W:Nat->Nat->St->Hp->Prop,(∃ m,W 0 m σ H1)/\∀ i m σ H,W i m σ H ->
 (J.stop i H/\D.nx σ H)∨(J.go i H/\∃ N:St->Hp->Prop,(∀ σ' H',N σ' H'->∃ m',m' < m/\W (i + 1) m' σ' H')/\∀ x H',J.Ml i H x H'->g x σ H' λσ2 H2=>tb { D with nx:=N,ct:=N,bk:=D.nx } σ2 H2)
noncomputable def Ge(fp:List Addr)(h:Heap):List (Addr × Obj):=fp.filterMap λb=>(h.get? b).map λo=>(b,o)
theorem Bg{fp:List Addr}{h:Heap}{b:Addr}{o:Obj}(hb:b∈fp)(e:h.get? b=some o):(b,o)∈Ge fp h:=List.mem_filterMap.mpr ⟨b,hb,by rw[e]; rfl⟩
theorem RG{fp:List Addr}{h:Heap}{p:Addr × Obj}(hp:p∈Ge fp h):p.1∈fp/\h.get? p.1=some p.2:=by
 obtain⟨b,hb,e⟩:=List.mem_filterMap.mp hp
 cases q:h.get? b with
 | none=>rw[q] at e; cases e
 | some o =>
  rw[q] at e
  have e':(b,o)=p:=aP e
  subst e'
  exact⟨hb,q⟩
theorem Inv.pinned{pins:List (Addr × Obj)}{σ:St}{H:Hp}{s:Shared}{fp:List Addr}(I:Inv X pins σ H s)(hf:∀ b∈fp,Ck X pins H b)(ho:∀ b∈fp,∃ o,s.heap.get? b=some o/\∀ v,o.data≠.cell v):Inv X (pins++Ge fp s.heap) σ H s :=
 I.P9 λp hp=>(bG.mp hp).elim (λz=>I.pin p (dg _ z)) λz=>by
  obtain⟨hb,e⟩:=RG z
  obtain⟨f0,f1,f2,_⟩:=hf p.1 hb
  obtain⟨o,e',d⟩:=ho p.1 hb
  rw[e] at e'; cases e'
  exact⟨e,f0,f1,f2,d⟩
theorem Inv.Cm{pins pl:List (Addr × Obj)}{σ:St}{H:Hp}{s:Shared}(I:Inv X (pins++pl) σ H s):Inv X pins σ H s:=I.P9 λp hp=>I.pin p (dg _ (List.mem_append_left _ hp))
theorem Zq{iter:Expr}{body:List Stmt}{wi:TI}{g:TG}{tb:TS}{pos:Pos}(hp:PassesOwn (model X.prog X.w) X.A X.env X.xe)(hc:X.calm=true)(hi:PI X tg iter wi)(hg:PG X tg g)(hb:jn X body tb)
 (hs:∀ x,foldedSetIterable iter X.env x=pure x:=by intro _; rfl):PS X (.For tg iter body [] pos) (abS wi g tb):=by
 intro pins s σ H D I h
 refine wpAny_For (gv (hi pins s σ H _ I h) λv s1 h1=>gv h1 λitv s2 h2=>?_) hs
 obtain⟨it,fp,tn,J,H2,e,I2,T,st2,f2,W,⟨m0,w0⟩,turn⟩:=h2
 subst e
 have stat:∀ {H':Hp},(∀ b∈fp,H' b=none)->∀ b∈fp,Ck X pins H' b:=λhn b hb=>⟨hn b hb,(f2 b hb).2⟩
 refine codeAny_forLoop_any (λn s'=>∃ i σ' H',Inv X pins σ' H' s'/\tn i s'.heap/\(∀ b∈fp,H' b=none)/\W i n σ' H') ?_ m0 ⟨0,σ,H2,I2,st2,λb hb=>(f2 b hb).1,w0⟩
 rintro n s3 ⟨i,σ3,H3,I3,st3,fr3,w3⟩
 rcases turn i n σ3 H3 w3 with ⟨stop,qn⟩ | ⟨go,N,hN,step⟩
 ·refine wpAny_passesOwn hp (gv (T.done X rfl rfl rfl hc i pins s3 σ3 H3 X.xe I3 (stat fr3) st3 stop) λr s4 ⟨hr,I4⟩=>?_)
  subst hr
  exact wpAny_execs_nil ⟨σ3,H3,I4,qn⟩
 ·refine wpAny_passesOwn hp (gv (T.item X rfl rfl rfl hc i pins s3 σ3 H3 X.xe I3 (stat fr3) st3 go) λr s4 ⟨u,hr,h4⟩=>?_)
  subst hr
  refine wpAny_passesOwn hp (gv h4 λ_ s5 ⟨x,H5,I5,r5,y5,Ol,fr5⟩=>?_)
  have I5':=I5.pinned (stat fr5) (T.obj _ _ Ol)
  refine wpAny_passesOwn hp (gv (hg _ s5 σ3 H5 x u _ I5' r5 (step x H5 y5)) λ_ s6 ⟨σ6,H6,I6,q6⟩=>?_)
  refine wpAny_passesOwn hp (gv (hb _ s6 σ6 H6 _ I6 q6) λf s7 q7=>?_)
  have again:∀ {TY:St} {H7:Hp},Inv X (pins++Ge fp s5.heap) TY H7 s7->N TY H7->∃ m,m < n/\∃ i σ' H',Inv X pins σ' H' s7/\tn i s7.heap/\(∀ b∈fp,H' b=none)/\W i m σ' H':=λ{TY H7} I7 n7=>by
   obtain⟨m',hm,w7⟩:=hN TY H7 n7
   refine⟨m',hm,i + 1,TY,H7,I7.Cm,T.keep _ _ _ Ol λb hb o e=>(I7.pin (b,o) (dg _ (dg _ (Bg hb e)))).1,λb hb=>?_,w7⟩
   obtain⟨o,e,d⟩:=T.obj _ _ Ol b hb
   exact (I7.pin (b,o) (dg _ (dg _ (Bg hb e)))).2.1
  cases f with
  | next=>obtain⟨TY,H7,I7,n7⟩:=q7; exact again I7 n7
  | cont=>obtain⟨TY,H7,I7,n7⟩:=q7; exact again I7 n7
  | brk=>obtain⟨TY,H7,I7,q7⟩:=q7; exact⟨TY,H7,I7.Cm,q7⟩
  | ret v=>obtain⟨x7,TY,H7,I7,r7,q7⟩:=q7; exact⟨x7,TY,H7,I7.Cm,r7,q7⟩
end
theorem rO{K:af}{a:Addr}{xs:List V}{g:TG}{tb:TS}{D:Ends}{σ:St}{H:Hp}(Pv:Nat->St->Hp->Prop)(h0:Pv 0 σ H)(hl:∀ i σ H,i<=xs.length->Pv i σ H->bJ K H a xs)
 (hs:∀ i x σ H,xs[i]?=some x->Pv i σ H->g x σ H λσ2 H2=>tb { D with nx:=Pv (i + 1),ct:=Pv (i + 1),bk:=D.nx } σ2 H2) (hd:∀ σ H,Pv xs.length σ H->D.nx σ H) :
 ∃ W:Nat->Nat->St->Hp->Prop,(∃ m,W 0 m σ H)/\∀ i m σ H,W i m σ H ->
  ((KZ K a).stop i H/\D.nx σ H)∨((KZ K a).go i H/\∃ N:St->Hp->Prop,(∀ σ' H',N σ' H'->∃ m',m' < m/\W (i + 1) m' σ' H')/\∀ x H',(KZ K a).Ml i H x H'->g x σ H' λσ2 H2=>tb { D with nx:=N,ct:=N,bk:=D.nx } σ2 H2):=by
 refine⟨λi m σ H=>m=xs.length - i/\i<=xs.length/\Pv i σ H,⟨xs.length,by simp,br _,h0⟩,?_⟩
 rintro i m σ H ⟨rfl,hi,p⟩
 have q:=hl i σ H hi p
 by_cases hlt:i < xs.length
 ·refine .inr ⟨⟨xs,xs[i],q,by simp[hlt]⟩,Pv (i + 1),λσ' H' p'=>⟨xs.length - (i + 1),by lia,rfl,hlt,p'⟩,λx H' y=>?_⟩
  obtain⟨e,y⟩:=y
  subst e
  exact hs i x σ _ (y xs q) p
 ·have e:i=xs.length:=by lia
  subst e
  exact .inl ⟨⟨xs,q,au _⟩,hd σ H p⟩
theorem nM{lo:Int}{n:Nat}{g:TG}{tb:TS}{D:Ends}{σ:St}{H:Hp}(Pv:Nat->St->Hp->Prop)(h0:Pv 0 σ H)
 (hs:∀ i σ H,i < n->Pv i σ H->g (.int (lo + i)) σ H λσ2 H2=>tb { D with nx:=Pv (i + 1),ct:=Pv (i + 1),bk:=D.nx } σ2 H2) (hd:∀ σ H,Pv n σ H->D.nx σ H) :
 ∃ W:Nat->Nat->St->Hp->Prop,(∃ m,W 0 m σ H)/\∀ i m σ H,W i m σ H ->
  ((TR lo n).stop i H/\D.nx σ H)∨((TR lo n).go i H/\∃ N:St->Hp->Prop,(∀ σ' H',N σ' H'->∃ m',m' < m/\W (i + 1) m' σ' H')/\∀ x H',(TR lo n).Ml i H x H'->g x σ H' λσ2 H2=>tb { D with nx:=N,ct:=N,bk:=D.nx } σ2 H2):=by
 refine⟨λi m σ H=>m=n - i/\i<=n/\Pv i σ H,⟨n,by simp,br _,h0⟩,?_⟩
 rintro i m σ H ⟨rfl,hi,p⟩
 by_cases hlt:i < n
 ·refine .inr ⟨hlt,Pv (i + 1),λσ' H' p'=>⟨n - (i + 1),by lia,rfl,hlt,p'⟩,λx H' y=>?_⟩
  obtain⟨e,y⟩:=y
  subst e y
  exact hs i σ _ hlt p
 ·have e:i=n:=by lia
  subst e
  exact .inl ⟨au _,hd σ H p⟩
theorem TZ{c:TT}{tb:TS}{D:Ends}{σ:St}{H:Hp}(Pv:St->Hp->Prop)(μ:St->Hp->Nat)(h0:Pv σ H)
 (hs:∀ σ H,Pv σ H->c σ H λb H1=>if b=true then tb { D with nx:=λσ' H'=>Pv σ' H'/\μ σ' H' < μ σ H,ct:=λσ' H'=>Pv σ' H'/\μ σ' H' < μ σ H,bk:=D.nx } σ H1 else D.nx σ H1)
 (mono:∀ σ H Q Q',(∀ b H1,Q b H1->Q' b H1)->c σ H Q->c σ H Q'):TJ c tb D σ H:=by
 refine⟨λm σ H=>m=μ σ H/\Pv σ H,⟨_,rfl,h0⟩,?_⟩
 rintro m σ H ⟨rfl,p⟩
 refine mono σ H _ _ (λb H1 q=>?_) (hs σ H p)
 cases b with
 | true=>exact⟨_,λσ' H' ⟨p',l⟩=>⟨_,l,rfl,p'⟩,q⟩
 | false=>exact q
abbrev R2:=V->V->Hp->VK->Prop
def vI(X:Cx)(f:Value->Value->Sem Value)(r:R2):Prop :=
 ∀ (pins:List (Addr × Obj)) (s:Shared) (σ:St) (H:Hp) (x y:V) (v u:Value) (Q:VK),Inv X pins σ H s->RelV x v->RelV y u->r x y H Q ->
  wpAny (model X.prog X.w) X.A (f v u) (EP X pins σ Q) X.xe s
def UnR(X:Cx)(f:Value->Sem Value)(r:V->Hp->VK->Prop):Prop :=
 ∀ (pins:List (Addr × Obj)) (s:Shared) (σ:St) (H:Hp) (x:V) (v:Value) (Q:VK),Inv X pins σ H s->RelV x v->r x H Q ->
  wpAny (model X.prog X.w) X.A (f v) (EP X pins σ Q) X.xe s
def rP(X:Cx)(f:Value)(r:List V->Hp->VK->Prop):Prop :=
 ∀ (pins:List (Addr × Obj)) (s:Shared) (σ:St) (H:Hp) (xs:List V) (us:List Value) (Q:VK),Inv X pins σ H s->bT xs us->r xs H Q ->
  wpAny (model X.prog X.w) X.A (call f us) (EP X pins σ Q) X.xe s
def afF(X:Cx)(r:V->Hp->(Bool->Hp->Prop)->Prop):Prop :=
 ∀ (pins:List (Addr × Obj)) (s:Shared) (σ:St) (H:Hp) (x:V) (v:Value) (Q:Bool->Hp->Prop),Inv X pins σ H s->RelV x v->r x H Q ->
  wpAny (model X.prog X.w) X.A (truthy v) (TP X pins σ Q) X.xe s
def Wb(r:R2)(ta tb:TE):TE:=λσ H Q=>ta σ H λx H1=>tb σ H1 λy H2=>r x y H2 Q
def tUn(r:V->Hp->VK->Prop)(ta:TE):TE:=λσ H Q=>ta σ H λx H1=>r x H1 Q
inductive rI(C:Int->Int->Prop)(g:Int->Int->V)(x y:V)(H:Hp)(Q:VK):Prop
 | mk (i j:Int) (h1:x = .int i) (h2:y = .int j) (h3:C i j) (h4:Q (g i j) H):rI C g x y H Q
inductive T4(g:Int->Int->V)(x y:V)(H:Hp)(Q:VK):Prop
 | mk (i j:Int) (h1:x = .int i) (h2:y = .int j) (h3:Q (g i j) H):T4 g x y H Q
def rU(g:Int->V):V->Hp->VK->Prop:=λx H Q=>∃ i,x = .int i/\Q (g i) H
section
variable{X:Cx}{a b c:Expr}{ta tb tc:TE}{pos:Pos}
theorem Zr(ha:PE X a ta)(hb:PE X b tb){pins:List (Addr × Obj)}{s:Shared}{σ:St}{H:Hp}{R:V->V->Hp->Prop}(I:Inv X pins σ H s)
 (h:ta σ H λx H1=>tb σ H1 λy H2=>R x y H2) {Q:Value->Shared->Prop} {f:Value->Value->Sem Value}
 (hf:∀ v u s2 x y H2,Inv X pins σ H2 s2->RelV x v->RelV y u->R x y H2->wpAny (model X.prog X.w) X.A (f v u) Q X.xe s2) :
 wpAny (model X.prog X.w) X.A (eval a X.env) (λv s₁=>wpAny (model X.prog X.w) X.A (eval b X.env) (λu s₂=>wpAny (model X.prog X.w) X.A (f v u) Q X.xe s₂) X.xe s₁) X.xe s:=by
 refine gv (ha pins s σ H _ I h) λv s1 ⟨x,H1,I1,r1,q1⟩=>?_
 refine gv (hb pins s1 σ H1 _ I1 q1) λu s2 ⟨y,H2,I2,r2,q2⟩=>?_
 exact hf v u s2 x y H2 I2 r1 r2 q2
theorem aS{op:Operator}{r:R2}(ho:vI X (binaryOp op) r)(ha:PE X a ta)(hb:PE X b tb):PE X (.BinOp a op b pos) (Wb r ta tb):=by
 intro pins s σ H Q I h
 exact wpAny_BinOp (Zr ha hb I h λv u s2 x y H2 I2 rx ry q=>ho pins s2 σ H2 x y v u Q I2 rx ry q)
theorem abU{op:UnaryOp}{r:V->Hp->VK->Prop}(ho:UnR X (unaryOp op) r)(ha:PE X a ta):PE X (.UnaryOp op a pos) (tUn r ta):=by
 intro pins s σ H Q I h
 exact UnaryOp_ (gv (ha pins s σ H _ I h) λv s1 ⟨x,H1,I1,r1,q1⟩=>ho pins s1 σ H1 x v Q I1 r1 q1)
theorem opI{f:Value->Value->Sem Value}{C:Int->Int->Prop}{g:Int->Int->Int}
 (rule:∀ (i j:Int) (t u:Tok) (s:Shared) (Q:Value->Shared->Prop) (E:Value->Shared->Prop),C i j->Q (.int (g i j) s.toks) { s with toks:=s.toks + 1 }->wpAny (model X.prog X.w) X.A (f (.int i t) (.int j u)) Q E s) :
 vI X f (rI C λi j=>.int (g i j)):=by
 intro pins s σ H x y v u Q I rx ry h
 obtain⟨i,j,rfl,rfl,hc,q⟩:=h
 obtain⟨t,rfl⟩:=rx
 obtain⟨t',rfl⟩:=ry
 exact rule i j t t' s _ _ hc ⟨.int (g i j),H,I.tok _,⟨_,rfl⟩,q⟩
theorem Wq{f:Value->Value->Sem Value}{g:Int->Int->Int}
 (rule:∀ (i j:Int) (t u:Tok) (s:Shared) (Q:Value->Shared->Prop) (E:Value->Shared->Prop),Q (.int (g i j) s.toks) { s with toks:=s.toks + 1 }->wpAny (model X.prog X.w) X.A (f (.int i t) (.int j u)) Q E s) :
 vI X f (T4 λi j=>.int (g i j)):=by
 intro pins s σ H x y v u Q I rx ry h
 obtain⟨i,j,rfl,rfl,q⟩:=h
 obtain⟨t,rfl⟩:=rx
 obtain⟨t',rfl⟩:=ry
 exact rule i j t t' s _ _ ⟨.int (g i j),H,I.tok _,⟨_,rfl⟩,q⟩
theorem Wr{f:Value->Value->Sem Value}{g:Int->Int->Bool}
 (rule:∀ (i j:Int) (t u:Tok) (s:Shared) (Q:Value->Shared->Prop) (E:Value->Shared->Prop),Q (.bool (g i j)) s->wpAny (model X.prog X.w) X.A (f (.int i t) (.int j u)) Q E s) :
 vI X f (T4 λi j=>.bl (g i j)):=by
 intro pins s σ H x y v u Q I rx ry h
 obtain⟨i,j,rfl,rfl,q⟩:=h
 obtain⟨t,rfl⟩:=rx
 obtain⟨t',rfl⟩:=ry
 exact rule i j t t' s _ _ ⟨.bl (g i j),H,I,rfl,q⟩
def afG(i j:Int):Prop:=0 < j/\j < 1073741824
def abV(i j:Int):Prop:=0<=j/\j<=1000000/\i.natAbs < 2 ^ 64
def Zs(i j:Int):Prop:=(-(2 ^ 64) < i/\i < 2 ^ 64)∨(-(2 ^ 64) < j/\j < 2 ^ 64)
theorem Zs.ok{i j:Int}(h:Zs i j):IntMulOk i j:=by
 rcases h with ⟨h1,h2⟩ | ⟨h1,h2⟩
 ·exact .of_left (intBits_le_64 h1 h2)
 ·exact .of_right (intBits_le_64 h1 h2)
theorem OA(k:Nat):(0:Int)<=2 ^ k:=by
 rw[two_pow_cast]
 exact Int.natCast_nonneg _
theorem fJ:vI X (binaryOp .Add) (T4 λi j=>.int (i + j)):=Wq λ_ _ _ _ _ _ _ q=>add_int q
theorem Gf:vI X (binaryOp .Sub) (T4 λi j=>.int (i - j)):=Wq λ_ _ _ _ _ _ _ q=>sub_int q
theorem OB:vI X (binaryOp .Mult) (rI Zs λi j=>.int (i * j)):=opI λ_ _ _ _ _ _ _ hc q=>mul_int q hc.ok
theorem eV:vI X (binaryOp .FloorDiv) (rI afG λi j=>.int (i / j)):=opI λi j _ _ _ _ _ hc q=>by
 have h1:(0:Int) < j:=hc.1
 have h2:j < 1073741824:=hc.2
 exact floordiv_int (by lia) (by rw[Int.fdiv_eq_ediv_of_nonneg i (by lia)]; exact q) (.inl (PyProof.noPylong_small (by lia)))
theorem dQ:vI X (binaryOp .Mod) (rI (λ_ j=>0 < j) λi j=>.int (i % j)):=opI λi j _ _ _ _ _ hc q=>by
 have h1:(0:Int) < j:=hc
 exact mod_int' (by lia) (by rw[Int.fmod_eq_emod_of_nonneg i (by lia)]; exact q)
theorem T5:vI X (binaryOp .Pow) (rI abV λi j=>.int (i ^ j.toNat)):=opI λ_ _ _ _ _ _ _ hc q=>pow_int_small hc.1 hc.2.1 hc.2.2 q
theorem Zt:vI X (binaryOp .LShift) (rI abV λi j=>.int (i * 2 ^ j.toNat)):=opI λ_ _ _ _ _ _ _ hc q=>lshift_int_small hc.1 hc.2.1 hc.2.2 q
theorem T6:vI X (binaryOp .RShift) (rI (λ_ j=>0<=j) λi j=>.int (i / 2 ^ j.toNat)):=opI λi j _ _ _ _ _ hc q =>
 rshift_int hc (by rw[Int.fdiv_eq_ediv_of_nonneg i (OA _)]; exact q)
theorem OC:vI X (binaryOp .BitAnd) (T4 λi j=>.int (Builtin.bitAnd i j)):=Wq λ_ _ _ _ _ _ _ q=>and_int q
theorem abW:vI X (binaryOp .BitOr) (T4 λi j=>.int (Builtin.bitOr i j)):=Wq λ_ _ _ _ _ _ _ q=>or_int q
theorem unI{f:Value->Sem Value}{g:Int->Int}
 (rule:∀ (i:Int) (t:Tok) (s:Shared) (Q:Value->Shared->Prop) (E:Value->Shared->Prop),Q (.int (g i) s.toks) { s with toks:=s.toks + 1 }->wpAny (model X.prog X.w) X.A (f (.int i t)) Q E s) :
 UnR X f (rU λi=>.int (g i)):=by
 intro pins s σ H x v Q I rx h
 obtain⟨i,rfl,q⟩:=h
 obtain⟨t,rfl⟩:=rx
 exact rule i t s _ _ ⟨.int (g i),H,I.tok _,⟨_,rfl⟩,q⟩
theorem Zu:UnR X (unaryOp .USub) (rU λi=>.int (-i)):=unI λ_ _ _ _ _ q=>neg_int q
end
noncomputable def Zv:V->V->Bool
 | .eU,.eU=>true | .eU,.int _=>true | .int _,.eU=>true | .eU,.bl _=>true | .bl _,.eU=>true | .eU,.str _=>true | .str _,.eU=>true
 | .int _,.int _=>true | .bl _,.bl _=>true | .str _,.str _=>true | .P8 _,.P8 _=>true
 | .int _,.str _=>true | .str _,.int _=>true | .bl _,.str _=>true | .str _,.bl _=>true
 | _,_=>false
inductive rEq(x y:V)(H:Hp)(Q:VK):Prop
 | mk (a:Zv x y=true) (b:Q (.bl (decide (x=y))) H):rEq x y H Q
inductive rNe(x y:V)(H:Hp)(Q:VK):Prop
 | mk (a:Zv x y=true) (b:Q (.bl (!decide (x=y))) H):rNe x y H Q
theorem Qd{i j:Int}:decide (V.int i=V.int j)=(i == j):=by
 rw[gR]
 simp
theorem T7{i j:Bool}:decide (V.bl i=V.bl j)=(i == j):=by
 rw[gR]
 simp
theorem Qe{i j:Str}:decide (V.str i=V.str j)=(i == j):=by
 rw[gR]
 simp
theorem Qf{i j:Array UInt8}:decide (V.P8 i=V.P8 j)=(i.toList == j.toList):=by
 rw[gR]
 cases i
 cases j
 simp
section
variable{X:Cx}{a b c:Expr}{ta tb tc:TE}{pos:Pos}
theorem dw{pins:List (Addr × Obj)}{σ:St}{H:Hp}{s:Shared}{Q:VK}{k k':Bool}(I:Inv X pins σ H s)(q:Q (.bl k) H)(e:k=k'):EP X pins σ Q (.bool k') s:=by
 subst e
 exact⟨.bl k,H,I,rfl,q⟩
theorem yO:vI X (compareOp .Eq) rEq:=by
 intro pins s σ H x y v u Q I rx ry h
 obtain⟨hs,q⟩:=h
 cases x with
 | eU =>
  cases rx
  cases y with
  | eU=>cases ry; exact PySem.EqNone.eq_none_none (dw I q (by simp))
  | bl j=>cases ry; exact PySem.EqNone.eq_none_bool (dw I q (by simp))
  | int j=>obtain⟨t',rfl⟩:=ry; exact PySem.EqNone.eq_none_int (dw I q (by simp))
  | str j=>obtain⟨t',rfl⟩:=ry; exact PySem.EqNone.eq_none_str (dw I q (by simp))
  | _=>exact absurd (show false=true from hs) aB
 | bl i =>
  cases rx
  cases y with
  | eU=>cases ry; exact PySem.EqNone.eq_bool_none (dw I q (by simp))
  | bl j=>cases ry; exact eq_bool (dw I q T7)
  | str j=>obtain⟨t',rfl⟩:=ry; exact PySem.EqMixed.eq_bool_str (dw I q (by simp))
  | _=>exact absurd (show false=true from hs) aB
 | int i =>
  obtain⟨t,rfl⟩:=rx
  cases y with
  | eU=>cases ry; exact PySem.EqNone.eq_int_none (dw I q (by simp))
  | int j=>obtain⟨t',rfl⟩:=ry; exact eq_int (dw I q Qd)
  | str j=>obtain⟨t',rfl⟩:=ry; exact PySem.EqMixed.eq_int_str (dw I q (by simp))
  | _=>exact absurd (show false=true from hs) aB
 | str i =>
  obtain⟨t,rfl⟩:=rx
  cases y with
  | eU=>cases ry; exact PySem.EqNone.eq_str_none (dw I q (by simp))
  | bl j=>cases ry; exact PySem.EqMixed.eq_str_bool (dw I q (by simp))
  | int j=>obtain⟨t',rfl⟩:=ry; exact PySem.EqMixed.eq_str_int (dw I q (by simp))
  | str j=>obtain⟨t',rfl⟩:=ry; exact eq_str (dw I q Qe)
  | _=>exact absurd (show false=true from hs) aB
 | P8 i =>
  obtain⟨t,rfl⟩:=rx
  cases y with
  | P8 j=>obtain⟨t',rfl⟩:=ry; exact PySem.W.eq_bytes (dw I q Qf)
  | _=>exact absurd (show false=true from hs) aB
 | _=>cases y <;> exact absurd (show false=true from hs) aB
theorem yP:vI X (compareOp .NotEq) rNe:=by
 intro pins s σ H x y v u Q I rx ry h
 obtain⟨hs,q⟩:=h
 cases x with
 | eU =>
  cases rx
  cases y with
  | eU=>cases ry; exact PySem.EqNone.ne_none_none (dw I q (by simp))
  | bl j=>cases ry; exact PySem.EqNone.ne_none_bool (dw I q (by simp))
  | int j=>obtain⟨t',rfl⟩:=ry; exact PySem.EqNone.ne_none_int (dw I q (by simp))
  | str j=>obtain⟨t',rfl⟩:=ry; exact PySem.EqNone.ne_none_str (dw I q (by simp))
  | _=>exact absurd (show false=true from hs) aB
 | bl i =>
  cases rx
  cases y with
  | eU=>cases ry; exact PySem.EqNone.ne_bool_none (dw I q (by simp))
  | bl j=>cases ry; exact ne_bool (dw I q (congrArg not T7))
  | str j=>obtain⟨t',rfl⟩:=ry; exact PySem.EqMixed.ne_bool_str (dw I q (by simp))
  | _=>exact absurd (show false=true from hs) aB
 | int i =>
  obtain⟨t,rfl⟩:=rx
  cases y with
  | eU=>cases ry; exact PySem.EqNone.ne_int_none (dw I q (by simp))
  | int j=>obtain⟨t',rfl⟩:=ry; exact ne_int (dw I q (congrArg not Qd))
  | str j=>obtain⟨t',rfl⟩:=ry; exact PySem.EqMixed.ne_int_str (dw I q (by simp))
  | _=>exact absurd (show false=true from hs) aB
 | str i =>
  obtain⟨t,rfl⟩:=rx
  cases y with
  | eU=>cases ry; exact PySem.EqNone.ne_str_none (dw I q (by simp))
  | bl j=>cases ry; exact PySem.EqMixed.ne_str_bool (dw I q (by simp))
  | int j=>obtain⟨t',rfl⟩:=ry; exact PySem.EqMixed.ne_str_int (dw I q (by simp))
  | str j=>obtain⟨t',rfl⟩:=ry; exact ne_str (dw I q (congrArg not Qe))
  | _=>exact absurd (show false=true from hs) aB
 | P8 i =>
  obtain⟨t,rfl⟩:=rx
  cases y with
  | P8 j=>obtain⟨t',rfl⟩:=ry; exact PySem.W.ne_bytes (dw I q (congrArg not Qf))
  | _=>exact absurd (show false=true from hs) aB
 | _=>cases y <;> exact absurd (show false=true from hs) aB
theorem tR:vI X (compareOp .Lt) (T4 λi j=>.bl (decide (i < j))):=Wr λ_ _ _ _ _ _ _ q=>lt_int q
theorem qG:vI X (compareOp .LtE) (T4 λi j=>.bl (decide (i<=j))):=Wr λ_ _ _ _ _ _ _ q=>le_int q
theorem Qg:vI X (compareOp .Gt) (T4 λi j=>.bl (decide (j < i))):=Wr λ_ _ _ _ _ _ _ q=>gt_int q
theorem abX:vI X (compareOp .GtE) (T4 λi j=>.bl (decide (j<=i))):=Wr λ_ _ _ _ _ _ _ q=>ge_int q
theorem T8:vI X (compareOp .Is) (λx y H Q=>y = .eU/\Q (.bl (decide (x = .eU))) H):=by
 intro pins s σ H x y v u Q I rx ry h
 obtain⟨rfl,q⟩:=h
 cases ry
 refine is_none_gen (dw I q ?_)
 cases x <;> first
  | (cases rx; rfl)
  | (obtain⟨t,rfl⟩:=rx; rfl)
theorem K0:vI X (compareOp .IsNot) (λx y H Q=>y = .eU/\Q (.bl (!decide (x = .eU))) H):=by
 intro pins s σ H x y v u Q I rx ry h
 obtain⟨rfl,q⟩:=h
 cases ry
 refine isnot_none_gen (dw I q ?_)
 cases x <;> first
  | (cases rx; rfl)
  | (obtain⟨t,rfl⟩:=rx; rfl)
theorem T9(b:Expr){op:CmpOp}(h:op≠.In:=by decide)(h2:op≠.NotIn:=by decide):behindInMarks op b=false:=by
 have e1:(op == CmpOp.In)=false:=by cases op <;> first | rfl | exact absurd rfl h
 have e2:(op == CmpOp.NotIn)=false:=by cases op <;> first | rfl | exact absurd rfl h2
 cases b <;> simp[behindInMarks,e1,e2]
theorem K1{op:CmpOp}{r:R2}(ho:vI X (compareOp op) r)(ha:PE X a ta)(hb:PE X b tb)(hm:behindInMarks op b=false):PE X (.Compare a [op] [b] pos) (Wb r ta tb):=by
 intro pins s σ H Q I h
 exact wpAny_Compare1 (Zr ha hb I h λv u s2 x y H2 I2 rx ry q=>ho pins s2 σ H2 x y v u Q I2 rx ry q) hm
def Ua(t:TE):TT:=λσ H Q=>t σ H (BlR Q)
theorem jf{op:CmpOp}{r:R2}(ho:vI X (compareOp op) r)(ha:PE X a ta)(hb:PE X b tb)(hm:behindInMarks op b=false):PT X (.Compare a [op] [b] pos) (Ua (Wb r ta tb)):=by
 intro pins s σ H Q I h
 refine wpAny_isTrue_Compare1 (gv (ha pins s σ H _ I h) λv s1 ⟨x,H1,I1,r1,q1⟩=>gv (hb pins s1 σ H1 _ I1 q1) λu s2 ⟨y,H2,I2,r2,q2⟩ =>
  gv (ho pins s2 σ H2 x y v u _ I2 r1 r2 q2) λc s3 ⟨z,H3,I3,r3,k,e,q3⟩=>?_) hm
 subst e
 cases r3
 exact wpAny_truthy_bool ⟨H3,I3,q3⟩
def Ub(r r':R2)(ta tb tc:TE):TE:=λσ H Q=>ta σ H λx H1=>tb σ H1 λy H2=>r x y H2 λz H3=>∃ k,z = .bl k /\
 (if k=true then tc σ H3 λw' H4=>r' y w' H4 Q else Q (.bl false) H3)
theorem Mm{op op':CmpOp}{r r':R2}(ho:vI X (compareOp op) r)(ho':vI X (compareOp op') r')(ha:PE X a ta)(hb:PE X b tb)(hc:PE X c tc)
 (hm:lastMarks [op,op'] [b,c]=false:=by with_unfolding_all rfl):PE X (.Compare a [op,op'] [b,c] pos) (Ub r r' ta tb tc):=by
 intro pins s σ H Q I h
 refine Compare_chain (gv (ha pins s σ H _ I h) λv s1 ⟨x,H1,I1,r1,q1⟩=>chain_link (gv (hb pins s1 σ H1 _ I1 q1) λu s2 ⟨y,H2,I2,r2,q2⟩ =>
  gv (ho pins s2 σ H2 x y v u _ I2 r1 r2 q2) λd s3 ⟨z,H3,I3,r3,k,e,q3⟩=>?_)) hm
 subst e
 cases r3
 refine wpAny_truthy_bool ?_
 cases k with
 | false=>exact ite_ff ⟨.bl false,H3,I3,rfl,q3⟩
 | true=>exact ite_tt (chain_last (gv (hc pins s3 σ H3 _ I3 q3) λw' s4 ⟨z',H4,I4,r4,q4⟩=>ho' pins s4 σ H4 y z' u w' Q I4 r2 r4 q4))
theorem jy{op op':CmpOp}{r r':R2}(ho:vI X (compareOp op) r)(ho':vI X (compareOp op') r')(ha:PE X a ta)(hb:PE X b tb)(hc:PE X c tc)
 (hm:lastMarks [op,op'] [b,c]=false:=by with_unfolding_all rfl):PT X (.Compare a [op,op'] [b,c] pos) (Ua (Ub r r' ta tb tc)):=by
 intro pins s σ H Q I h
 refine isTrue_chain (gv (ha pins s σ H _ I h) λv s1 ⟨x,H1,I1,r1,q1⟩=>test_link (gv (hb pins s1 σ H1 _ I1 q1) λu s2 ⟨y,H2,I2,r2,q2⟩ =>
  gv (ho pins s2 σ H2 x y v u _ I2 r1 r2 q2) λd s3 ⟨z,H3,I3,r3,k,e,q3⟩=>?_)) hm
 subst e
 cases r3
 refine wpAny_truthy_bool ?_
 cases k with
 | false =>
  obtain⟨k',e',q'⟩:=q3
  cases e'
  exact ite_ff ⟨H3,I3,q'⟩
 | true =>
  refine ite_tt (test_last (gv (hc pins s3 σ H3 _ I3 q3) λw' s4 ⟨z',H4,I4,r4,q4⟩=>gv (ho' pins s4 σ H4 y z' u w' _ I4 r2 r4 q4) λd' s5 ⟨z2,H5,I5,r5,k2,e2,q5⟩=>?_))
  subst e2
  cases r5
  exact wpAny_truthy_bool ⟨H5,I5,q5⟩
def Zw(K:af)(x:V)(H:Hp)(k:Bool):Prop :=
 match x with
 | .eU=>k=false
 | .bl b=>k=b
 | .int i=>k=(i != 0)
 | .str y=>y.length<=sizeLine/\k=((y.length:Int) != 0)
 | .P8 y=>y.size<=sizeLine/\k=((y.size:Int) != 0)
 | .ref p=>(∃ xs,bJ K H p xs/\k = !xs.isEmpty)∨(∃ xs,cH K H p xs/\k = !xs.isEmpty)∨∃ kvs,H p=some (.dK kvs)/\k = !kvs.isEmpty
 | _=>False
theorem OD{κ:Type}{kvs:List (κ × V)}{vs:List (κ × Value)}(r:KV kvs vs):(!vs.isEmpty) = !kvs.isEmpty:=by
 cases r <;> rfl
theorem Gg{xs:List V}{its:List Value}(r:bT xs its):(!its.toArray.isEmpty) = !xs.isEmpty:=by
 cases r <;> simp
theorem Gh:(sizeLine:Nat) < 2 ^ 63:=by rw[sizeLine_eq]; decide
theorem Zx:afF X (λx H Q=>∃ k,Zw X.K x H k/\Q k H):=by
 intro pins s σ H x v Q I rx h
 obtain⟨k,e,q⟩:=h
 have hl:=Gh
 have hs:sizeLine=16777216:=sizeLine_eq
 cases x with
 | eU =>
  cases rx
  have e':k=false:=e
  subst e'
  exact truthy_none ⟨H,I,q⟩
 | bl b =>
  cases rx
  have e':k=b:=e
  subst e'
  exact wpAny_truthy_bool ⟨H,I,q⟩
 | int i =>
  obtain⟨t,rfl⟩:=rx
  have e':k=(i != 0):=e
  subst e'
  exact PySem.P.truthy_int ⟨H,I,q⟩
 | str y =>
  obtain⟨t,rfl⟩:=rx
  obtain⟨hy,e'⟩ : y.length<=sizeLine/\k=((y.length:Int) != 0):=e
  subst e'
  exact PySem.P.truthy_str (by lia) ⟨H,I.tok _,q⟩
 | P8 y =>
  obtain⟨t,rfl⟩:=rx
  obtain⟨hy,e'⟩ : y.size<=sizeLine/\k=((y.size:Int) != 0):=e
  subst e'
  exact PySem.W.truthy_bytes (by lia) ⟨H,I.tok _,q⟩
 | ref p =>
  cases rx
  have e':(∃ xs,bJ X.K H p xs/\k = !xs.isEmpty)∨(∃ xs,cH X.K H p xs/\k = !xs.isEmpty)∨∃ kvs,H p=some (.dK kvs)/\k = !kvs.isEmpty:=e
  rcases e' with ⟨xs,hx,e'⟩ | ⟨xs,hx,e'⟩ | ⟨kvs,hx,e'⟩
  ·subst e'
   obtain⟨its,r,pl,hz⟩:=I.list hx
   have hlen:=r.length
   exact wpAny_truthy_list pl.isList (by simp only[aJ]; lia) ⟨H,I.tok _,by rw[Gg r]; exact q⟩
  ·subst e'
   obtain⟨its,r,pl,hz⟩:=I.tuple hx
   have hlen:=r.length
   exact truthy_tuple pl (by simp only[aJ]; lia) ⟨H,I.tok _,by rw[Gg r]; exact q⟩
  ·subst e'
   obtain⟨hz,hS,vs,r,m⟩ : kvs.length<=sizeLine/\(p == sysModules)=false/\∃ vs,KV kvs vs/\s.heap.DictOf (gD X.prog X.w) p vs:=I.hok p _ hx
   have hlen:kvs.length=vs.length:=Paired.length r
   exact wpAny_truthy_dict hS m (by lia) ⟨H,I.tok _,by rw[OD r]; exact q⟩
 | _=>exact (show False from e).elim
theorem Uc(ha:PE X a ta)(he:∀ whole,isTrue a X.env whole=(do let v <- whole; standAt a.pos; holding [v] (truthy v))) :
 PT X a (λσ H Q=>ta σ H λx H'=>∃ k,Zw X.K x H' k/\Q k H'):=by
 intro pins s σ H Q I h
 exact isTrue_plain (gv (ha pins s σ H _ I h) λv s1 ⟨x,H1,I1,r1,q1⟩=>Zx pins s1 σ H1 x v Q I1 r1 q1) (he _)
theorem vals1{x:V}{us:List Value}(r:bT [x] us):∃ u,us = [u]/\RelV x u:=by
 cases r with
 | cons r1 r2=>cases r2; exact⟨_,rfl,r1⟩
end
structure OE(h:Heap)(x dx C:Addr)(mA:Str->Option Value):Prop where
 obj:h.get? x=some (jq C dx)
 ns:h.Ns1 dx mA
 ne:dx≠x
theorem JG{h:Heap}{dx:Addr}{mA:Str->Option Value}(n:h.Ns1 dx mA):∃ od,h.get? dx=some od/\∀ name,PySem.W.lookIn name od=some (mA name):=by
 obtain⟨o,es,ep,ho,hd,hk,_,hm⟩:=n
 refine⟨o,ho,λname=>?_⟩
 have e:=hm name
 unfold nsFind findBy at e
 rw[<- Array.find?_toList] at e
 unfold PySem.W.lookIn
 rw[hd]
 dsimp only
 split
 ·rename_i y q
  rw[q] at e
  exact congrArg some e
 ·rename_i q
  rw[q] at e
  have a:es.toList.any (·.refKey)=false:=by
   rw[List.any_eq_false]
   intro y hy
   obtain⟨z,t,hkey⟩:=hk y (gB.mp hy)
   simp[DictEntry.refKey,hkey]
  have a':¬ es.toList.any (·.refKey)=true:=by rw[a]; exact aB
  rw[if_neg a']
  exact congrArg some e
theorem OE.look{h:Heap}{x dx C:Addr}{mA:Str->Option Value}(I:OE h x dx C mA):∃ od,PySem.W.InstAt h x (jq C dx) C (some od)/\∀ name,PySem.W.lookIn name od=some (mA name) :=
 let ⟨od,ho,hl⟩:=JG I.ns
 ⟨od,⟨I.obj,rfl,rfl,ho⟩,hl⟩
section
variable{prog:Program}{w:World}{A:Around}{E:Value->Shared->Prop}{s:Shared}{K:af}{x dx C f:Addr}{mA:Str->Option Value}{name:Str}{v:Value}
theorem get_map{expr:Bool}{Q:Value->Shared->Prop}(X:K.In s.heap)(I:OE s.heap x dx C mA)(hg:wJ K C name=true)(hh:ux K C=true)
 (ha:aE K (.ref C) name=some none) (hv:mA name=some v) (hv':PySem.W.handedIn v=true) (h:Q v { s with toks:=s.toks + 1 }) :
 wpAny (model prog w) A (getAttr (.ref x) name expr) Q E s:=by
 obtain⟨od,J,hl⟩:=I.look
 exact PySem.W.get_value X J (PySem.W.plainGet_of hg).1 (PySem.W.findObj_own hh ha rfl (by rw[hl,hv])) hv' h
theorem Ud{pl:Sem Bool}{Q:Value × List Value->Shared->Prop}(X:K.In s.heap)(I:OE s.heap x dx C mA)(hg:wJ K C name=true)
 (hf:aE K (.ref C) name=some (some (.ref f))) (ht:PySem.W.isFn K (.ref f)=true) (hv:mA name=none) (h:Q (.ref f,[.ref x]) s) :
 wpAny (model prog w) A (getMethod (.ref x) name pl) Q E s:=by
 obtain⟨od,J,hl⟩:=I.look
 exact PySem.W.method_fn X J (PySem.W.plainGet_of hg).1 (PySem.W.plainGet_of hg).2 hf (beq_iff_eq.mp ht) (by show (PySem.W.lookIn name od).map (·.isSome)=some false; rw[hl,hv]; rfl) h
theorem Ws{ns:List Str}{Q:Unit->Shared->Prop}(X:K.In s.heap)(I:OE s.heap x dx C mA)
 (hs:aE K (.ref C) "__setattr__" = some (some (.builtin "object.__setattr__"))) (hp:PySem.W.plainOver K C=true) (ht:PySem.W.takerIn K C name=some none) (hh:ux K C=true)
 (hw:PySem.Within mA ns) (hsz:ns.length<=sizeLine)
 (h:∀ h',OE h' x dx C (λy=>if y=name then some v else mA y)->Heap.SameBut dx s.heap h'->Q () { s with heap:=h',toks:=s.toks + 2 }) :
 wpAny (model prog w) A (setAttr (.ref x) name v) Q E s:=by
 obtain⟨od,J,hl⟩:=I.look
 refine PySem.W.set_plain X J hs (PySem.W.osa_open (s:={ s with toks:=s.toks + 1 }) (r:=none) X J hp ht λb=>?_)
 obtain⟨cd,hc,hd'⟩:=PySem.W.any_some hh
 have hx:s.heap.get? x=some ⟨.ref C,some dx,.plain,#[]⟩:=I.obj
 refine wpAny_bind (wpAny_pure (wpAny_bind (wpAny_bind (wpAny_loadPart hx (wpAny_bind (PySem.W.Looks.here (s:={ s with toks:=s.toks + 1 }) (PySem.W.looks_clsIn X hc) ?_))))))
 rw[hd']
 refine wpAny_pure (a:=some dx) (wpAny_bind (wpAny_pure (wpAny_bind ?_)))
 refine wpAny_nsSet1 (s:={ s with toks:=s.toks + 1 }) I.ns λh' hn2 hs2=>?_
 obtain⟨oD,esD,epD,hoD,hdD,hcD⟩:=hn2.count (PySem.Within.cons name v hw)
 refine wpAny_bind (wpAny_lookBehind hoD (by rw[hdD]; exact pastItsLine_dict (aH hcD (by rw[bE]; lia))) ?_)
 exact wpAny_pure (h _ ⟨(hs2.2 _ (bK I.ne)).trans I.obj,hn2,I.ne⟩ hs2)
theorem Ue{R:Result->Shared->Prop}{vs:List Value}{kw:List (Str × Value)}(X:K.In s.heap)(hm:PySem.W.makesIn K C=true)
 (hi:aE K (.ref C) "__init__" = some (some (.ref f))) (hf:PySem.W.typeIn K (.ref f)=some (.type "function"))
 (h:codeAny (model prog w) (A.under (.builtin "type.__call__" ⟨.ref C :: vs,kw⟩)) (.call (.ref f) ⟨.ref (s.heap.objs.size + 1) :: vs,kw⟩) (PySem.W.InitBack (s.heap.objs.size + 1) R)
  { s with heap:=(s.heap.push fO).push (jq C s.heap.objs.size) }) :
 codeAny (model prog w) A (.call (.ref C) ⟨vs,kw⟩) R s:=by
 obtain⟨hh,g,d,t,os⟩:=s
 exact PySem.W.make_core (PySem.W.makes_of X hm) (PySem.W.looks_findIn X hi) (λself=>PySem.W.bind_fn X self hf) (.inl rfl) h
end
noncomputable def yG(f:Str)(v:V):List (Str × V)->List (Str × V)
 | []=>[(f,v)]
 | (g,x) :: r=>if g=f then (g,v) :: r else (g,x) :: yG f v r
theorem EA(f g:Str)(v:V):∀ fs:List (Str × V),(yG f v fs).lookup g=if g=f then some v else fs.lookup g
 | []=>by
  show pS g [(f,v)]=_
  by_cases h:g=f
  ·have hb:(g == f)=true:=beq_iff_eq.mpr h
   simp only[pS,hb,if_pos h]
  ·have hb:(g == f)=false:=beq_eq_false_iff_ne.mpr h
   simp only[pS,hb,if_neg h]
 | (k,x) :: r=>by
  have ih:=EA f g v r
  rw[show yG f v ((k,x) :: r)=(if k=f then (k,v) :: r else (k,x) :: yG f v r) from rfl]
  by_cases hk:k=f
  ·rw[if_pos hk]
   by_cases h:g=k
   ·have hb:(g == k)=true:=beq_iff_eq.mpr h
    simp only[pS,hb,if_pos (h.trans hk)]
   ·have hb:(g == k)=false:=beq_eq_false_iff_ne.mpr h
    simp only[pS,hb,if_neg (λe:g=f=>h (e.trans hk.symm))]
  ·rw[if_neg hk]
   by_cases h:g=k
   ·have hb:(g == k)=true:=beq_iff_eq.mpr h
    simp only[pS,hb,if_neg (λe:g=f=>hk (h.symm.trans e))]
   ·have hb:(g == k)=false:=beq_eq_false_iff_ne.mpr h
    simp only[pS,hb]
    exact ih
theorem DA(f:Str)(v:V):∀ fs:List (Str × V),f∈(yG f v fs).map (·.1)/\∀ g,g∈fs.map (·.1)->g∈(yG f v fs).map (·.1)
 | []=>⟨by simp[yG],λg h=>by simp at h⟩
 | (k,x) :: r=>by
  obtain⟨i1,i2⟩:=DA f v r
  rw[show yG f v ((k,x) :: r)=(if k=f then (k,v) :: r else (k,x) :: yG f v r) from rfl]
  by_cases hk:k=f
  ·rw[if_pos hk]
   subst hk
   exact⟨by simp,λg h=>by simpa using h⟩
  ·rw[if_neg hk]
   refine⟨?_,λg h=>?_⟩
   ·rw[ck]
    exact bu _ i1
   ·rw[ck] at h ⊢
    rcases bA.mp h with e | e
    ·exact bA.mpr (.inl e)
    ·exact bu _ (i2 g e)
theorem EB(f:Str)(v:V):∀ fs:List (Str × V),(yG f v fs).length<=fs.length + 1
 | []=>by simp[yG]
 | (k,x) :: r=>by
  have ih:=EB f v r
  rw[show yG f v ((k,x) :: r)=(if k=f then (k,v) :: r else (k,x) :: yG f v r) from rfl]
  by_cases hk:k=f
  ·rw[if_pos hk,bE,bE]; lia
  ·rw[if_neg hk,bE,bE]; lia
theorem AJ.some_of{v:V}{o:Option Value}(r:AJ (some v) o):∃ u,o=some u/\RelV v u:=by
 cases o with
 | none=>exact (show False from r).elim
 | some u=>exact⟨u,rfl,r⟩
theorem AJ.none_of{o:Option Value}(r:AJ none o):o=none:=by
 cases o with
 | none=>rfl
 | some u=>exact (show False from r).elim
theorem RH{v:V}{u:Value}(r:RelV v u):PySem.W.handedIn u=true:=by
 cases v with
 | eU=>cases (show u=Value.none from r); rfl
 | bl b=>cases (show u=Value.bool b from r); rfl
 | int i=>obtain⟨t,e⟩:=(show ∃ t,u=Value.int i t from r); cases e; rfl
 | str x=>obtain⟨t,e⟩:=(show ∃ t,u=Value.str x t from r); cases e; rfl
 | P8 b=>obtain⟨t,e⟩:=(show ∃ t,u=Value.bytes b t from r); cases e; rfl
 | Zd b=>obtain⟨t,e⟩:=(show ∃ t,u=Value.float b t from r); cases e; rfl
 | ref a=>cases (show u=Value.ref a from r); rfl
 | ty n=>cases (show u=Value.type n from r); rfl
section
variable{P:Program}{w:World}{H H':Hp}{h h':Heap}{a C dx:Addr}{fs fs':List (Str × V)}
theorem FN(hok:yK P w H h)(e:H a=some (.ins C dx fs)):∃ mA,OE h a dx C mA/\(∀ f,AJ (fs.lookup f) (mA f))/\PySem.Within mA (fs.map (·.1))/\fs.length<=1000/\H dx=some (.own a):=by
 obtain⟨d,z,ne,ob,mA,n,r,q⟩:=(show fh P w H h a (.ins C dx fs) from hok a _ e)
 exact⟨mA,⟨ob,n,ne⟩,r,q,z,d⟩
end
structure IJ(K:af)(C:Addr):Prop where
 pg:wJ K C Str.empty=true
 hd:ux K C=true
 po:PySem.W.plainOver K C=true
 sa:aE K (.ref C) "__setattr__" = some (some (.builtin "object.__setattr__"))
theorem IJ.get{K:af}{C:Addr}(c:IJ K C)(f:Str):wJ K C f=true:=c.pg
def cT(K:af)(C:Addr)(f:Str):Prop:=aE K (.ref C) f=some none
theorem cT.abY{K:af}{C:Addr}{f:Str}(n:cT K C f):PySem.W.takerIn K C f=some none:=by
 unfold PySem.W.takerIn
 rw[show aE K (.ref C) f=some none from n]
 rfl
structure K2(K:af)(C:Addr)(m:Str)(f:Addr):Prop where
 at_:aE K (.ref C) m=some (some (.ref f))
 fn:PySem.W.isFn K (.ref f)=true
 kp:dD K (.ref f)=true
section
variable{X:Cx}{pins:List (Addr × Obj)}{σ:St}{H:Hp}{s:Shared}{a C dx:Addr}{fs:List (Str × V)}{f:Str}{v:V}{A:Around}{E:Value->Shared->Prop}
theorem OF{b:Bool}{Q:Value->Shared->Prop}(I:Inv X pins σ H s)(e:H a=some (.ins C dx fs))(c:IJ X.K C)(n:cT X.K C f)(l:fs.lookup f=some v)
 (h:∀ u s',Inv X pins σ H s'->RelV v u->Q u s'):wpAny (model X.prog X.w) A (getAttr (.ref a) f b) Q E s:=by
 obtain⟨mA,O,r,_,_,_⟩:=FN I.hok e
 obtain⟨u,hu,ru⟩:=AJ.some_of (v:=v) (o:=mA f) (by rw[<- l]; exact r f)
 exact get_map I.Cd O (c.get f) c.hd n hu (RH ru) (h u _ (I.tok _) ru)
theorem Gi{m:Str}{g:Addr}{pl:Sem Bool}{Q:Value × List Value->Shared->Prop}(I:Inv X pins σ H s)(e:H a=some (.ins C dx fs))(c:IJ X.K C)(k:K2 X.K C m g)(l:fs.lookup m=none)
 (h:Q (.ref g,[.ref a]) s):wpAny (model X.prog X.w) A (getMethod (.ref a) m pl) Q E s:=by
 obtain⟨mA,O,r,_,_,_⟩:=FN I.hok e
 have hn:mA m=none:=AJ.none_of (by rw[<- l]; exact r m)
 exact Ud I.Cd O (c.get m) k.at_ k.fn hn h
theorem OG{y:V}{u:Value}{Q:Unit->Shared->Prop}(I:Inv X pins σ H s)(e:H a=some (.ins C dx fs))(c:IJ X.K C)(n:cT X.K C f)(hl:fs.length < 1000)(ry:RelV y u)
 (h:∀ s',Inv X pins σ (upd H a (.ins C dx (yG f y fs))) s'->Q () s'):wpAny (model X.prog X.w) A (setAttr (.ref a) f u) Q E s:=by
 obtain⟨mA,O,r,wi,_,ho⟩:=FN I.hok e
 have hz:(fs.map (·.1)).length<=sizeLine:=by rw[ah,sizeLine_eq]; lia
 refine Ws I.Cd O c.sa c.po n.abY c.hd wi hz λh' O' sb=>h _ ?_
 have hd:∃ o,h'.get? dx=some o:=let ⟨o,_,_,e',_⟩:=O'.ns; ⟨o,e'⟩
 refine I.write (x:=a) (e:=dx) (by rw[e]; exact kM) (.inr ho) (λb q hb z=>(sb.2 b hb).trans z) hd ?_
 refine⟨by rw[aD O.ne]; exact ho,?_,O.ne,O'.obj,_,O'.ns,λg=>?_,λg hg=>?_⟩
 ·have:=EB f y fs; lia
 ·show AJ ((yG f y fs).lookup g) (if g=f then some u else mA g)
  rw[EA]
  by_cases q:g=f
  ·rw[if_pos q,if_pos q]; exact ry
  ·rw[if_neg q,if_neg q]; exact r g
 ·by_cases q:g=f
  ·rw[q]; exact (DA f y fs).1
  ·refine (DA f y fs).2 g (wi g λz=>hg ?_)
   show (if g=f then some u else mA g)=none
   rw[if_neg q]; exact z
theorem Inv.made(I:Inv X pins σ H s):Inv X pins σ (upd (upd H s.heap.objs.size (.own (s.heap.objs.size + 1))) (s.heap.objs.size + 1) (.ins C s.heap.objs.size []))
 { s with heap:=(s.heap.push fO).push (jq C s.heap.objs.size) }:=by
 have e1:(s.heap.push fO).get? s.heap.objs.size=some fO:=Heap.get?_push_size s.heap rfl
 have e2:((s.heap.push fO).push (jq C s.heap.objs.size)).get? (s.heap.objs.size + 1)=some (jq C s.heap.objs.size):=by
  have:=Heap.get?_push_size (s.heap.push fO) (o:=jq C s.heap.objs.size) rfl
  rwa [Heap.size_push] at this
 have e3:(s.heap.push fO).Ns s.heap.objs.size (λ_=>none):=⟨fO,#[],_,e1,rfl,(λe he=>absurd he (by simp)),λ_=>rfl⟩
 have I1:=I.laid (a:=s.heap.objs.size) (o:=.own (s.heap.objs.size + 1)) (h':=s.heap.push fO) (t':=s.toks) (λb u q=>Heap.get?_push_of_some _ q) (au _) ⟨_,e1⟩
 refine I1.laid (a:=s.heap.objs.size + 1) (o:=.ins C s.heap.objs.size []) (t':=s.toks) (λb u q=>Heap.get?_push_of_some _ q) (Nat.le_of_eq (Heap.size_push _ _)) ?_
 have ne:s.heap.objs.size≠s.heap.objs.size + 1:=bw (Nat.lt_succ_self _)
 refine⟨by rw[aD ne,ao],br _,ne,e2,λ_=>none,(Heap.Ns1.of_empty e3).at λo q=>Heap.get?_push_of_some _ q,λ_=>kM,λy hy=>absurd rfl hy⟩
theorem Wt{prog:Program}{w:World}{env:Env}{e:Expr}{f:Str}{pos:Pos}{s:Shared}{Q:Value->Shared->Prop}(hb:attributeBase e f env (eval e env)=eval e env)
 (h:wpAny (model prog w) A (eval e env) (λo s₁=>wpAny (model prog w) A (getAttr o f true) Q E s₁) E s):wpAny (model prog w) A (eval (.Attribute e f pos) env) Q E s :=
 Attribute_any_ h (by rw[arm_eval_Attribute,hb])
end
inductive abZ(K:af)(f:Str)(Q:VK)(x:V)(H1:Hp):Prop
 | mk (a C dx:Addr) (fs:List (Str × V)) (v:V) (h1:x = .ref a) (h2:H1 a=some (.ins C dx fs)) (h3:IJ K C) (h4:cT K C f) (h5:fs.lookup f=some v) (h6:Q v H1):abZ K f Q x H1
def Gj(K:af)(ta:TE)(f:Str):TE:=λσ H Q=>ta σ H (abZ K f Q)
def afH(K:af)(ta tv:TE)(f:Str):TS:=λD σ H=>tv σ H λy H1=>ta σ H1 λx H2=>∃ a C dx fs,x = .ref a/\H2 a=some (.ins C dx fs)/\IJ K C/\cT K C f/\fs.length < 1000 /\
 D.nx σ (upd H2 a (.ins C dx (yG f y fs)))
section
variable{X:Cx}{o e value:Expr}{f:Str}{pos pos' tpos:Pos}{ta tv:TE}
theorem aO(he:PE X e ta)(hb:attributeBase e f X.env (eval e X.env)=eval e X.env):PE X (.Attribute e f pos) (Gj X.K ta f):=by
 intro pins s σ H Q I h
 refine Wt hb (gv (he pins s σ H _ I h) λu s1 ⟨x,H1,I1,rx,a,C,dx,fs,v,ex,ea,c,n,l,q⟩=>?_)
 subst ex
 obtain rfl:u=Value.ref a:=rx
 exact OF I1 ea c n l λu' s2 I2 ru=>⟨v,H1,I2,ru,q⟩
theorem fj(ha:PE X o ta)(hv:PE X value tv)(hs:swapsWith value (some (.Attribute o f pos')) pos.line X.env=pure false):PS X (.Assign [.Attribute o f pos'] value pos) (afH X.K ta tv f):=by
 intro pins s σ H D I h
 refine plainObj_wpAny_Assign_Attribute (gv (hv pins s σ H _ I h) λu s1 ⟨y,H1,I1,ry,q⟩=>gv (ha pins s1 σ H1 _ I1 q) λov s2 ⟨x,H2,I2,rx,a,C,dx,fs,ex,ea,c,n,l,q2⟩=>?_) hs
 subst ex
 obtain rfl:ov=Value.ref a:=rx
 exact OG I2 ea c n l ry λs3 I3=>⟨σ,_,I3,q2⟩
end
section
variable{X:Cx}{pins:List (Addr × Obj)}{σ:St}{H:Hp}{s:Shared}{A:Around}{E:Value->Shared->Prop}{Q:Value->Shared->Prop}{c:Value}{b:Bool}
inductive DB(K:af)(H:Hp):V->Value->Prop where
 | eU:DB K H .eU (.type "NoneType")
 | bl (x:Bool):DB K H (.bl x) (.type "bool")
 | int (i:Int):DB K H (.int i) (.type "int")
 | str (x:Str):DB K H (.str x) (.type "str")
 | Zd (x:UInt64):DB K H (.Zd x) (.type "float")
 | lst {a:Addr} {xs:List V} (e:H a=some (.lst xs)):DB K H (.ref a) (.type "list")
 | Am {a:Addr} {o:Obj} {xs:List V} (e:H a=some (.Am o (.lst xs))):DB K H (.ref a) (.type "list")
 | tup {a:Addr} {xs:List V} (e:H a=some (.tup xs)):DB K H (.ref a) (.type "tuple")
 | dK {a:Addr} {kvs:List (Key × V)} (e:H a=some (.dK kvs)):DB K H (.ref a) (.type "dict")
 | dT {a:Addr} {kvs:List (List Key × V)} (e:H a=some (.dT kvs)):DB K H (.ref a) (.type "dict")
 | ins {a C dx:Addr} {fs:List (Str × V)} (e:H a=some (.ins C dx fs)) (cl:IJ K C) (ha:aE K (.ref C) "__class__" = some (some (.builtin "object.__class__")))
  (hn:PySem.W.specialIn K (.builtin "object.__class__") "__get__" = some (some (.builtin "getset_descriptor.__get__"))) (htk:PySem.W.takesIn K (.builtin "object.__class__")=some true)
  (hm:PySem.W.mroIn K C (.type "object")=some true):DB K H (.ref a) (.ref C)
theorem RI{x:V}{u t:Value}(I:Inv X pins σ H s)(rx:RelV x u)(ty:DB X.K H x t)(e:PySem.W.kitOne X.K t c=some b)(h:∀ tk,Q (.bool b) { s with toks:=tk }) :
 wpAny (model X.prog X.w) A (call (.builtin "isinstance") [u,c]) Q E s:=by
 cases ty with
 | eU=>cases (show u=Value.none from rx); exact dX PySem.W.kitx_none I.Cd kM e (λz=>nomatch z) h
 | bl y=>cases (show u=Value.bool y from rx); exact dX PySem.W.kitx_bool I.Cd kM e (λz=>nomatch z) h
 | int i=>obtain⟨t,q⟩:=(show ∃ t,u=Value.int i t from rx); cases q; exact dX PySem.W.kitx_int I.Cd kM e (λz=>nomatch z) h
 | str y=>obtain⟨t,q⟩:=(show ∃ t,u=Value.str y t from rx); cases q; exact dX PySem.W.kitx_str I.Cd kM e (λz=>nomatch z) h
 | Zd y=>obtain⟨t,q⟩:=(show ∃ t,u=Value.float y t from rx); cases q; exact dX PySem.W.kitx_float I.Cd kM e (λz=>nomatch z) h
 | @lst a xs ea =>
  cases (show u=Value.ref a from rx)
  obtain⟨_,_,n,_,h1⟩:=(show fh X.prog X.w H s.heap a (.lst xs) from I.hok a _ ea)
  exact dX PySem.W.kitx_list I.Cd ⟨_,h1,rfl⟩ e (λz=>nomatch z) h
 | @Am a ob xs ea =>
  cases (show u=Value.ref a from rx)
  obtain⟨_,_,_,n,_,h1⟩:=(show fh X.prog X.w H s.heap a (.Am ob (.lst xs)) from I.hok a _ ea)
  exact dX PySem.W.kitx_list I.Cd ⟨_,h1,rfl⟩ e (λz=>nomatch z) h
 | @tup a xs ea =>
  cases (show u=Value.ref a from rx)
  obtain⟨_,_,_,p⟩:=(show fh X.prog X.w H s.heap a (.tup xs) from I.hok a _ ea)
  obtain⟨o,h1,h2,_⟩:=p
  exact dX PySem.W.kitx_tuple I.Cd ⟨o,h1,h2⟩ e (λz=>nomatch z) h
 | @dK a kvs ea =>
  cases (show u=Value.ref a from rx)
  obtain⟨_,_,vs,_,p⟩:=(show fh X.prog X.w H s.heap a (.dK kvs) from I.hok a _ ea)
  obtain⟨o,es,ep,h1,h2,_⟩:=p
  exact dX PySem.W.kitx_dict I.Cd ⟨o,h1,h2.1⟩ e (λz=>nomatch z) h
 | @dT a kvs ea =>
  cases (show u=Value.ref a from rx)
  obtain⟨_,_,xs,_,o,es,ep,h1,h2,_⟩:=(show fh X.prog X.w H s.heap a (.dT kvs) from I.hok a _ ea)
  exact dX PySem.W.kitx_dict I.Cd ⟨o,h1,h2.1⟩ e (λz=>nomatch z) h
 | @ins a C dx fs ea cl ha hn htk hm =>
  cases (show u=Value.ref a from rx)
  obtain⟨mA,O,_⟩:=FN I.hok ea
  obtain⟨od,J,_⟩:=O.look
  exact dX (PySem.W.kitx_own (cl.get _) cl.hd ha hn htk hm) I.Cd J e (λz=>nomatch z) h
end
structure jz(k:Nat)(A:Around):Prop where
 hd:A.handled=none
 dp:A.depth + 3 * k + 5 < recursionLimit
 un:A.units + 16 * k + 200 < cLine
theorem jz.mono{j k:Nat}{A:Around}(r:jz k A)(h:j<=k):jz j A:=⟨r.hd,by have:=r.dp; lia,by have:=r.un; lia⟩
theorem jz.deeper{k:Nat}{A:Around}(r:jz (k + 1) A)(env:Env):jz k (A.deeper env) :=
 ⟨r.hd,by have:=r.dp; show A.depth + 1 + 3 * k + 5 < _; lia,by have:=r.un; show A.units + 3 + 16 * k + 200 < _; lia⟩
theorem OH{A:Around}{C:Addr}{us:List Value}{kw:List (Str × Value)}:(A.under (.builtin "type.__call__" ⟨.ref C :: us,kw⟩)).depth=A.depth + 1:=by
 first | rfl | simp[Around.under,Code.weight,Code.isCreation,Code.isGuard,Code.isCaller,Code.frames,Code.isFrame,guardIds]
theorem OI{A:Around}{C:Addr}{us:List Value}{kw:List (Str × Value)}:(A.under (.builtin "type.__call__" ⟨.ref C :: us,kw⟩)).units=A.units + 1:=by
 first | rfl | simp[Around.under,Code.cUnits,Code.frames,Code.isFrame]
theorem jz.make{k:Nat}{A:Around}(r:jz (k + 1) A)(C:Addr)(us:List Value)(kw:List (Str × Value)):jz k (A.under (.builtin "type.__call__" ⟨.ref C :: us,kw⟩)) :=
 ⟨r.hd,by have:=r.dp; rw[OH]; lia,by have:=r.un; rw[OI]; lia⟩
theorem jz.depth{k:Nat}{A:Around}(r:jz k A):A.depth < recursionLimit:=by have:=r.dp; lia
theorem jz.units{k:Nat}{A:Around}(r:jz k A):A.units + 64 < cLine:=by have:=r.un; lia
def Cn:TA:=λ_ H Q=>Q [] H
def fZ(ta:TE)(tr:TA):TA:=λσ H Q=>ta σ H λx H1=>tr σ H1 λxs H2=>Q (x :: xs) H2
section
variable{X:Cx}{e:Expr}{es:List Expr}{te:TE}{t:TA}{pos:Pos}
theorem fK:PA X [] Cn:=λ_ _ _ _ H Q I h=>Calls.spliced_nil ⟨[],H,I,.nil,h⟩
theorem Wu(ha:PE X e te)(hr:PA X es t)(hs:starEach (e :: es) X.env=(false,eval e X.env) :: starEach es X.env:=by rfl):PA X (e :: es) (fZ te t):=by
 intro pos pins s σ H Q I h
 rw[hs]
 show wpAny _ _ (spliced ((false,eval e X.env) :: backTo pos (starEach es X.env))) _ _ s
 refine Calls.spliced_cons (gv (ha pins s σ H _ I h) λu s1 ⟨x,H1,I1,r1,q1⟩=>?_)
 exact gv (hr pos pins s1 σ H1 _ I1 q1) λus s2 ⟨xs,H2,I2,r2,q2⟩=>⟨x :: xs,H2,I2,.cons r1 r2,q2⟩
def afI(t:TA):TE:=λσ H Q=>t σ H λxs H1=>xs.length<=sizeLine/\∀ p,H1 p=none->Q (.ref p) (upd H1 p (.tup xs))
def afJ(t:TA):TE:=λσ H Q=>t σ H λxs H1=>xs.length<=sizeLine/\∀ p,H1 p=none->Q (.ref p) (upd H1 p (.lst xs))
theorem f6{x1}(h:PA X es t):PE X (.Tuple es x1 pos) (afI t):=by
 intro pins s σ H Q I hq
 refine wpAny_Tuple_spliced (gv (h pos pins s σ H _ I hq) λus s1 ⟨xs,H1,I1,r,z,q⟩=>⟨by rw[<- r.length]; exact z,?_⟩)
 have hf:H1 s1.heap.objs.size=none:=I1.hok.fresh (au _)
 refine⟨.ref s1.heap.objs.size,upd H1 s1.heap.objs.size (.tup xs),I1.laid (t':=s1.toks) (λb u e=>Heap.get?_push_of_some _ e) (au _) ?_,rfl,q _ hf⟩
 exact⟨z,us,r,⟨_,Heap.get?_push_size _ rfl,rfl,_,rfl⟩⟩
theorem gx(h:PA X es t):PE X (.List es pos) (afJ t):=by
 intro pins s σ H Q I hq
 refine wpAny_List_spliced (gv (h pos pins s σ H _ I hq) λus s1 ⟨xs,H1,I1,r,z,q⟩=>⟨by rw[<- r.length]; exact z,?_⟩)
 have hf:H1 s1.heap.objs.size=none:=I1.hok.fresh (au _)
 refine⟨.ref s1.heap.objs.size,upd H1 s1.heap.objs.size (.lst xs),I1.laid (t':=s1.toks) (λb u e=>Heap.get?_push_of_some _ e) (au _) ?_,rfl,q _ hf⟩
 exact⟨z,us,0,r,Heap.get?_push_size _ rfl⟩
end
abbrev Sp:=List V->Hp->VK->XK->Prop
abbrev RJ:=List Env->Hp->Shared->XK->Value->Shared->Prop
structure OJ(P:Program)(w:World)(K:af)(mg:Str->Option Value)(base:Heap)(A:Around)(outer:List Env)(s:Shared)(H:Hp):Prop where
 frames:A.frames=some outer
 mod:Mod K mg base
 bs:∀ b o,base.get? b=some o->s.heap.get? b=some o/\H b=none
 Wa:base.objs.size<=s.heap.objs.size
 Cf:s.heap.FunFrames base outer
 XY:∀ b∈frs outer,H b=none
 hok:yK P w H s.heap
 bare:AllBare s.gens
def CE(outer:List Env)(P:Program)(w:World)(H:Hp)(s:Shared)(Q:VK)(u:Value)(s':Shared):Prop :=
 ∃ v H',s'.os=s.os/\AllBare s'.gens/\Un (frs outer) [] H H' s.heap s'.heap/\yK P w H' s'.heap/\RelV v u/\Q v H'
def CR(CX:RJ)(outer:List Env)(P:Program)(w:World)(H:Hp)(s:Shared)(Q:VK)(E:XK)(r:Result)(s':Shared):Prop :=
 match r with
 | .ok (.ret u)=>CE outer P w H s Q u s'
 | .ok _=>False
 | .error e=>CX outer H s E e s'
structure bV(P:Program)(w:World)(K:af)(mg:Str->Option Value)(base:Heap)(CX:RJ)(k:Nat)(f:Addr)(fd:FuncData)(ps:List Str)(sp:Sp):Prop where
 len:∀ vs H Q E,sp vs H Q E->vs.length=ps.length
 run:∀ (A:Around) (outer:List Env) (s:Shared) (H:Hp) (args:Args) (us:List Value) (vs:List V) (Q:VK) (E:XK),jz k A->OJ P w K mg base A outer s H->BindsTo s fd args (ps.zip us)->bT vs us->sp vs H Q E ->
  codeAny (model P w) A (.call (.ref f) args) (CR CX outer P w H s Q E) s
theorem OJ.make{P:Program}{w:World}{K:af}{mg:Str->Option Value}{base:Heap}{A:Around}{outer:List Env}{s:Shared}{H:Hp}(e:OJ P w K mg base A outer s H)(C:Addr)(us:List Value)(kw:List (Str × Value)) :
 OJ P w K mg base (A.under (.builtin "type.__call__" ⟨.ref C :: us,kw⟩)) outer s H:=⟨by first | exact e.frames | (simpa [Around.under,Code.envs,Code.isFrame,pushEnvs] using e.frames),e.mod,e.bs,e.Wa,e.Cf,e.XY,e.hok,e.bare⟩
section
variable{X:Cx}{pins:List (Addr × Obj)}{σ:St}{H:Hp}{s s':Shared}
theorem Inv.ab0(I:Inv X pins σ H s):OJ X.prog X.w X.K X.mg X.base X.A X.stack s H :=
 ⟨I.ok.frames,I.ok.mod,I.bs,aH I.ok.Wa I.sz,I.stack,I.KS,I.hok,I.bare⟩
theorem Inv.after{Q:VK}{u:Value}(I:Inv X pins σ H s)(h:CE X.stack X.prog X.w H s Q u s'):EP X pins σ Q u s':=by
 obtain⟨v,H',os,bare,un,hok,r,q⟩:=h
 obtain⟨hh,g,d,t,os'⟩:=s'
 obtain rfl:os'=s.os:=os
 exact⟨v,H',I.call (h':=hh) (g':=g) (d':=d) (t':=t) (ch:=[]) un hok bare (λb z=>absurd z (by simp)),r,q⟩
end
def Yg(sp:Sp)(Bh:List V)(E:XK)(t:TA):TE:=λσ H Q=>t σ H λvs H1=>sp (vs++Bh) H1 Q E
inductive Yh(C:Addr)(m:Str)(sp:Sp)(Bh:List V)(E:XK)(t:TA)(σ:St)(Q:VK)(x:V)(H1:Hp):Prop
 | mk (a dx:Addr) (fs:List (Str × V)) (h1:x = .ref a) (h2:H1 a=some (.ins C dx fs)) (h3:fs.lookup m=none) (h4:t σ H1 λvs H2=>sp (x :: (vs++Bh)) H2 Q E):Yh C m sp Bh E t σ Q x H1
def ED(C:Addr)(m:Str)(sp:Sp)(Bh:List V)(E:XK)(ta:TE)(t:TA):TE:=λσ H Q=>ta σ H (Yh C m sp Bh E t σ Q)
def Ug(C:Addr)(sp:Sp)(Bh:List V)(E:XK)(t:TA):TE:=λσ H Q=>t σ H λvs H1=>∀ x dx,H1 x=none->H1 dx=none->dx≠x ->
 sp (.ref x :: (vs++Bh)) (upd (upd H1 dx (.own x)) x (.ins C dx [])) (λv H2=>v = .eU/\Q (.ref x) H2) E
def Binds(K:af)(fd:FuncData)(ps:List Str)(ds:List Value):Prop :=
 ∀ (s:Shared) (us:List Value),K.In s.heap->(us++ds).length=ps.length->BindsTo s fd ⟨us,[]⟩ (ps.zip (us++ds))
theorem Binds.all{K:af}{fd:FuncData}{ps:List Str}(h:∀ us:List Value,us.length=ps.length->bindArgs fd ⟨us,[]⟩=pure (ps.zip us)):Binds K fd ps []:=λs us _ hl=>by
 rw[gQ] at hl ⊢
 exact .of_eq (h us hl)
def rQ(CX:RJ)(X:Cx)(E:XK):Prop:=∀ (pins:List (Addr × Obj)) (σ:St) (H:Hp) (s:Shared) (e:Value) (s':Shared),Inv X pins σ H s->CX X.stack H s E e s'->X.xe e s'
section
variable{X:Cx}{CX:RJ}{k:Nat}{f C:Addr}{fd:FuncData}{ps:List Str}{sp:Sp}{Bh:List V}{ds:List Value}{E:XK}{x m:Str}{p pos apos:Pos}{e o:Expr}{es:List Expr}{ta:TE}{t:TA}
theorem K3{pins:List (Addr × Obj)}{σ:St}{H:Hp}{s:Shared}{Q:VK}{us:List Value}{vs:List V}(F:bV X.prog X.w X.K X.mg X.base CX k f fd ps sp)(hr:jz k X.A)(hb:Binds X.K fd ps ds)(hd:bT Bh ds)(hx:rQ CX X E)
 (I:Inv X pins σ H s) (r:bT vs us) (h:sp (vs++Bh) H Q E):wpAny (model X.prog X.w) X.A (call (.ref f) us) (EP X pins σ Q) X.xe s:=by
 have r2:bT (vs++Bh) (us++ds):=r.append hd
 have hl:(us++ds).length=ps.length:=by rw[<- r2.length]; exact F.len _ _ _ _ h
 refine wpAny_call (codeAny_mono (F.run X.A X.stack s H ⟨us,[]⟩ (us++ds) (vs++Bh) Q E hr I.ab0 (hb s us I.Cd hl) r2 h) λr s' hq=>?_)
 cases r with
 | error e=>exact hx pins σ H s e s' I hq
 | ok fl =>
  cases fl with
  | ret u=>exact I.after hq
  | next=>exact jw hq
  | brk=>exact jw hq
  | cont=>exact jw hq
theorem An(F:bV X.prog X.w X.K X.mg X.base CX k f fd ps sp)(hr:jz k X.A)(hg:Gl X x)(hm:X.mg x=some (.ref f))(hk:dD X.K (.ref f)=true)(hb:Binds X.K fd ps ds)(hd:bT Bh ds)(hx:rQ CX X E)
 (ha:PA X (e :: es) t) (hdb:(x == ("__debug__" : Str))=false:=by decide) (he:starEach (e :: es) X.env=(false,eval e X.env) :: starEach es X.env:=by rfl) (hpl:(backTo pos (starEach es X.env)).any (·.1)=false:=by rfl) :
 PE X (.Call (.Name x p) (e :: es) [] pos) (Yg sp Bh E t):=by
 intro pins s σ H Q I h
 refine wpAny_Call_Name_kw (Ci I hg hm ?_ hdb)
 refine PySem.W.callWith_K (h₀:=X.base) I.ok.mod.Zf hk (gv (ha pos pins s σ H _ I h) λus s1 ⟨vs,H1,I1,r,q⟩=>⟨I1.Cd,?_⟩) he hpl
 exact K3 F hr hb hd hx I1 r q
theorem qL{pl:Sem Bool}(he:PE X o ta)(c:IJ X.K C)(hm:K2 X.K C m f)(F:bV X.prog X.w X.K X.mg X.base CX k f fd ps sp)(hr:jz k X.A)(hb:Binds X.K fd ps ds)(hd:bT Bh ds)(hx:rQ CX X E)(ha:PA X (e :: es) t)
 (hst:starEach (e :: es) X.env=(false,eval e X.env) :: starEach es X.env:=by rfl) (hpl:(backTo pos (starEach es X.env)).any (·.1)=false:=by rfl)
 (ht:eval (.Call (.Attribute o m apos) (e :: es) [] pos) X.env=(do
  let ov <- eval o X.env
  standAt apos.atName
  let (f,first) <- holding [ov] (getMethod ov m pl)
  callWith pos f first (backTo pos (starEach (e :: es) X.env)) (backToKw pos (keywordEach [] X.env))):=by rfl) :
 PE X (.Call (.Attribute o m apos) (e :: es) [] pos) (ED C m sp Bh E ta t):=by
 intro pins s σ H Q I h
 refine PySem.W.methodCall_KW (pl:=pl) (gv (he pins s σ H _ I h) λu s1 ⟨x,H1,I1,rx,a,dx,fs,ex,ea,l,q⟩=>?_) ht
 subst ex
 obtain rfl:u=Value.ref a:=rx
 refine Gi I1 ea c hm l ?_
 refine PySem.W.callWith_K (first:=[.ref a]) (h₀:=X.base) I.ok.mod.Zf hm.kp (gv (ha pos pins s1 σ H1 _ I1 q) λus s2 ⟨vs,H2,I2,r,q2⟩=>⟨I2.Cd,?_⟩) hst hpl
 exact K3 (us:=.ref a :: us) (vs:=.ref a :: vs) F hr hb hd hx I2 (.cons rfl r) q2
theorem ki{pl:Sem Bool}(he:PE X o ta)(c:IJ X.K C)(hm:K2 X.K C m f)(F:bV X.prog X.w X.K X.mg X.base CX k f fd ps sp)(hr:jz k X.A)(hb:Binds X.K fd ps ds)(hd:bT Bh ds)(hx:rQ CX X E)
 (ht:eval (.Call (.Attribute o m apos) [] [] pos) X.env=(do
  let ov <- eval o X.env
  standAt apos.atName
  let (f,first) <- holding [ov] (getMethod ov m pl)
  callWith pos f first (backTo pos (starEach [] X.env)) (backToKw pos (keywordEach [] X.env))):=by rfl) :
 PE X (.Call (.Attribute o m apos) [] [] pos) (ED C m sp Bh E ta Cn):=by
 intro pins s σ H Q I h
 refine PySem.W.methodCall_KW (pl:=pl) (gv (he pins s σ H _ I h) λu s1 ⟨x,H1,I1,rx,a,dx,fs,ex,ea,l,q⟩=>?_) ht
 subst ex
 obtain rfl:u=Value.ref a:=rx
 refine Gi I1 ea c hm l ?_
 exact PySem.W.callWith_K0 (first:=[.ref a]) I1.Cd hm.kp (K3 (us:=[.ref a]) (vs:=[.ref a]) F hr hb hd hx I1 (.cons rfl .nil) q)
structure Mk(K:af)(C f:Addr):Prop where
 makes:PySem.W.makesIn K C=true
 init:aE K (.ref C) "__init__" = some (some (.ref f))
 fn:PySem.W.isFn K (.ref f)=true
 kp:dD K (.ref C)=true
theorem Mn{pins:List (Addr × Obj)}{σ:St}{H:Hp}{s:Shared}{Q:VK}{us:List Value}{vs:List V}(M:Mk X.K C f)(F:bV X.prog X.w X.K X.mg X.base CX k f fd ps sp)(hr:jz (k + 1) X.A)(hb:Binds X.K fd ps ds)(hd:bT Bh ds)
 (hx:rQ CX X E) (I:Inv X pins σ H s) (r:bT vs us)
 (h:∀ x dx,H x=none->H dx=none->dx≠x->sp (.ref x :: (vs++Bh)) (upd (upd H dx (.own x)) x (.ins C dx [])) (λv H2=>v = .eU/\Q (.ref x) H2) E) :
 wpAny (model X.prog X.w) X.A (call (.ref C) us) (EP X pins σ Q) X.xe s:=by
 have hq:=h (s.heap.objs.size + 1) s.heap.objs.size (I.hok.fresh (dc _)) (I.hok.fresh (au _)) (bw (Nat.lt_succ_self _))
 have I2:=Inv.made (C:=C) I
 have r2:bT (V.ref (s.heap.objs.size + 1) :: (vs++Bh)) (Value.ref (s.heap.objs.size + 1) :: (us++ds)):=.cons rfl (r.append hd)
 have hl:(Value.ref (s.heap.objs.size + 1) :: us++ds).length=ps.length:=by
  have e:=r2.length
  rw[F.len _ _ _ _ hq] at e
  exact e.symm
 refine wpAny_call (Ue (f:=f) I.Cd M.makes M.init (beq_iff_eq.mp M.fn) (codeAny_mono (F.run _ X.stack _ _ ⟨Value.ref (s.heap.objs.size + 1) :: us,[]⟩ (Value.ref (s.heap.objs.size + 1) :: (us++ds)) _ _ E (hr.make C us [])
  (I2.ab0.make C us []) (hb _ (Value.ref (s.heap.objs.size + 1) :: us) I2.Cd hl) r2 hq) λr s' hq'=>?_))
 cases r with
 | error e=>exact hx pins σ _ _ e s' I2 hq'
 | ok fl =>
  cases fl with
  | ret u =>
   obtain⟨v,H',I3,rv,ev,q3⟩:=I2.after hq'
   subst ev
   exact⟨rv,⟨V.ref (s.heap.objs.size + 1),H',I3,rfl,q3⟩⟩
  | next=>exact jw hq'
  | brk=>exact jw hq'
  | cont=>exact jw hq'
theorem Qh(M:Mk X.K C f)(F:bV X.prog X.w X.K X.mg X.base CX k f fd ps sp)(hr:jz (k + 1) X.A)(hg:Gl X x)(hm:X.mg x=some (.ref C))(hb:Binds X.K fd ps ds)(hd:bT Bh ds)(hx:rQ CX X E)
 (ha:PA X (e :: es) t) (hdb:(x == ("__debug__" : Str))=false:=by decide) (he:starEach (e :: es) X.env=(false,eval e X.env) :: starEach es X.env:=by rfl) (hpl:(backTo pos (starEach es X.env)).any (·.1)=false:=by rfl) :
 PE X (.Call (.Name x p) (e :: es) [] pos) (Ug C sp Bh E t):=by
 intro pins s σ H Q I h
 refine wpAny_Call_Name_kw (Ci I hg hm ?_ hdb)
 refine PySem.W.callWith_K (h₀:=X.base) I.ok.mod.Zf M.kp (gv (ha pos pins s σ H _ I h) λus s1 ⟨vs,H1,I1,r,q⟩=>⟨I1.Cd,?_⟩) he hpl
 exact Mn M F hr hb hd hx I1 r q
theorem Uh(M:Mk X.K C f)(F:bV X.prog X.w X.K X.mg X.base CX k f fd ps sp)(hr:jz (k + 1) X.A)(hg:Gl X x)(hm:X.mg x=some (.ref C))(hb:Binds X.K fd ps ds)(hd:bT Bh ds)(hx:rQ CX X E)
 (hdb:(x == ("__debug__" : Str))=false:=by decide):PE X (.Call (.Name x p) [] [] pos) (Ug C sp Bh E Cn):=by
 intro pins s σ H Q I h
 refine wpAny_Call_Name_kw (Ci I hg hm ?_ hdb)
 exact PySem.W.callWith_K0 I.Cd M.kp (Mn (us:=[]) M F hr hb hd hx I .nil h)
end
structure aG(N P:List Str)(sc:Scope):Prop where
 kind:sc.kind = .function
 co:sc.isCoroutine=false
 gen:sc.isGenerator=false
 nd:N.Nodup
 pre:N.take P.length=P
 par:∀ x∈P,sc.names.lookup x=some .local∨sc.names.lookup x=some .cell
 Zy:∀ y∈sc.names,y.2≠.free
theorem JH{kindOf:Str->Option NameKind}{x:Str}:∀ {binds:List (Str × Value)} {m:Str->Option Value},(∀ v,(x,v) ∉ binds)->bindL kindOf binds m x=m x
 | [],_,_=>rfl
 | (n,v) :: r,m,h=>by
  unfold bindL
  rw[JH λw hw=>h w (bu _ hw)]
  split
  ·have:x≠n:=by rintro rfl; exact h v b6
   simp[this]
  ·rfl
theorem JI{kindOf:Str->Option NameKind}{x:Str}:∀ {binds:List (Str × Value)} {m:Str->Option Value},(∀ v,(x,v) ∉ binds)->bindC kindOf binds m x=m x
 | [],_,_=>rfl
 | (n,v) :: r,m,h=>by
  unfold bindC
  rw[JI λw hw=>h w (bu _ hw)]
  split
  ·rfl
  ·have:x≠n:=by rintro rfl; exact h v b6
   simp[this]
theorem JJ{kindOf:Str->Option NameKind}{x:Str}{v:Value}:∀ {P:List Str} {vs:List Value} {i:Nat} {m:Str->Option Value},P.Nodup->P[i]?=some x->vs[i]?=some v->kindOf x=some .local ->
 bindL kindOf (P.zip vs) m x=some v
 | [],_,_,_,_,h,_,_=>by simp at h
 | _ :: _,[],_,_,_,_,h,_=>by simp at h
 | p :: P,w :: vs,0,m,nd,h1,h2,hk=>by
  simp at h1 h2; subst h1; subst h2
  show bindL kindOf ((p,w) :: P.zip vs) m p=_
  unfold bindL
  rw[JH λv hv=>(rJ.mp nd).1 (List.of_mem_zip hv).1,if_pos hk]
  simp
 | p :: P,w :: vs,i + 1,m,nd,h1,h2,hk=>by
  show bindL kindOf ((p,w) :: P.zip vs) m x=_
  unfold bindL
  exact JJ (i:=i) (rJ.mp nd).2 (by simpa using h1) (by simpa using h2) hk
theorem JK{kindOf:Str->Option NameKind}{x:Str}{v:Value}:∀ {P:List Str} {vs:List Value} {i:Nat} {m:Str->Option Value},P.Nodup->P[i]?=some x->vs[i]?=some v->kindOf x≠some .local ->
 bindC kindOf (P.zip vs) m x=some v
 | [],_,_,_,_,h,_,_=>by simp at h
 | _ :: _,[],_,_,_,_,h,_=>by simp at h
 | p :: P,w :: vs,0,m,nd,h1,h2,hk=>by
  simp at h1 h2; subst h1; subst h2
  show bindC kindOf ((p,w) :: P.zip vs) m p=_
  unfold bindC
  rw[JI λv hv=>(rJ.mp nd).1 (List.of_mem_zip hv).1,if_neg hk]
  simp
 | p :: P,w :: vs,i + 1,m,nd,h1,h2,hk=>by
  show bindC kindOf ((p,w) :: P.zip vs) m x=_
  unfold bindC
  exact JK (i:=i) (rJ.mp nd).2 (by simpa using h1) (by simpa using h2) hk
noncomputable def start(N:List Str)(vs:List V):St:=vs.map some++aY (N.length - vs.length) none
noncomputable def nN(CX:RJ)(P:Program)(w:World)(K:af)(mg:Str->Option Value)(base:Heap)(N:List Str)(qual:Str)(scope:Scope)(f:Addr)(cd:Value)(A:Around)(outer:List Env)(s:Shared)(H:Hp)(E:XK):Cx where
 prog:=P
 w:=w
 K:=K
 mg:=mg
 base:=base
 A:=A.deeper (envOfC qual scope s.heap.objs.size f cd)
 N:=N
 s₀:=s
 H₀:=H
 env:=envOfC qual scope s.heap.objs.size f cd
 outer:=outer
 stack:=envOfC qual scope s.heap.objs.size f cd :: outer
 ex:=[]
 calm:=true
 fn:=λ_=>true
 pn:=[]
 xe:=λe s'=>wpAny (model P w) (A.deeper (envOfC qual scope s.heap.objs.size f cd)) (leaving (envOfC qual scope s.heap.objs.size f cd) e) (λ_ s''=>CX outer H s E e s'') (λe' s''=>CX outer H s E e' s'') s'
theorem Mp{sc:Scope}{n:Nat}{x:Str}(h:sc.names.lookup x=some .cell):∃ c,(cellsFrom n sc.names []).lookup x=some c:=by
 have q:=PySem.W.cellsFrom_some sc.names n [] (.inl h)
 exact Option.isSome_iff_exists.mp q
theorem RK{CX:RJ}{P:Program}{w:World}{K:af}{mg:Str->Option Value}{base:Heap}{N ps:List Str}{qual:Str}{scope:Scope}{f:Addr}{cd:Value}{A:Around}{outer:List Env}{s s1:Shared}{H:Hp}{E:XK}{us:List Value}{vs:List V}
 (S:aG N ps scope) (hd:A.handled=none) (e0:OJ P w K mg base A outer s H) (hl:vs.length=ps.length) (r:bT vs us)
 (x:InCallC s s.heap.objs.size (bindL (envOfC qual scope s.heap.objs.size f cd).kindOf (ps.zip us) λ_=>none) (cellsFrom (s.heap.objs.size + 1) scope.names []) (bindC (envOfC qual scope s.heap.objs.size f cd).kindOf (ps.zip us) λ_=>none) s1) :
 Inv (nN CX P w K mg base N qual scope f cd A outer s H E) [] (start N vs) H s1:=by
 have hpl:ps.length<=N.length:=by have:=congrArg List.length S.pre; rw[bO] at this; lia
 obtain⟨h1,tk,rfl,hk⟩:=x.done
 have noA:∀ b:Addr,b ∉ (nN CX P w K mg base N qual scope f cd A outer s H E).ex:=λb z=>absurd (show b∈([]:List Addr) from z) (by simp)
 refine⟨⟨e0.mod,S.kind,rfl,rfl,au _,λy z c h1 h2=>?_,λy hy=>?_,λy c _ h=>?_,λ_=>hd,Around.frames_deeper e0.frames,.inr ⟨rfl,rfl⟩,λb z=>absurd z (noA b),e0.bs,e0.Wa,λb _ _=>noA b,λb z=>absurd z (noA b),e0.Cf,e0.XY⟩,
  rfl,e0.bare,Un.kept hk,⟨_,x.toInCall.ns,λi y v h1 h2 h3=>?_⟩,λy c h=>⟨_,x.cell y c h⟩,e0.hok.fresh (au _),λy c h=>?_,λp hp=>absurd (show p∈([]:List (Addr × Obj)) from hp) (by simp),e0.hok.kept hk,?_⟩
 ·exact name_of_addr x.apart (pR h1) (pR h2)
 ·have hy:scope.names.lookup y=some .cell∨scope.names.lookup y=some .free:=hy
  rcases hy with hy | hy
  ·exact Mp hy
  ·exact absurd rfl (S.Zy _ (pR hy))
 ·exact iL (x.above y c (pR h))
 ·have hi:i < vs.length:=by
   unfold start at h2
   by_cases hi:i < vs.length
   ·exact hi
   ·rw[bX (by simpa using hi)] at h2
    rw[List.getElem?_replicate] at h2
    split at h2 <;> cases h2
  have ha:vs[i]?=some v:=by
   unfold start at h2
   rw[bU (by simpa using hi),aj] at h2
   cases e:vs[i]? with
   | none=>rw[e] at h2; cases h2
   | some a=>rw[e] at h2; cases h2; rfl
  obtain⟨u,hu,rv⟩:=r.get ha
  have hp:ps[i]?=some y:=by
   rw[<- S.pre,List.getElem?_take_of_lt (by lia)]; exact h1
  have ndP:ps.Nodup:=by rw[<- S.pre]; exact S.nd.sublist (List.take_sublist _ _)
  refine⟨u,rv,?_⟩
  rcases S.par y (aI hp) with k | k
  ·exact .inl ⟨k,JJ ndP hp hu k⟩
  ·obtain⟨c,e⟩:=Mp (n:=s.heap.objs.size + 1) k
   refine .inr ⟨.inl k,c,e,?_⟩
   have q:=x.cell y c e
   rw[JK ndP hp hu (by show scope.names.lookup y≠_; rw[k]; decide)] at q
   exact q
 ·exact e0.hok.fresh (iL (x.above y c (pR h)))
 ·unfold start
  show _=N.length
  rw[av,ah,List.length_replicate]
  lia
theorem Ui{CX:RJ}{P:Program}{w:World}{K:af}{mg:Str->Option Value}{base:Heap}{k:Nat}{f:Addr}{name qual:Str}{params:Arguments}{body:List Stmt}{scope:Scope}{dV kV doc pm cdv ct oc:Value}{an od:Option Addr}
 {osl:Array (Option Value)} {N ps:List Str} {sp:Sp} (lk:K.lookup f=some ⟨oc,od,.func (dU name qual params body scope dV kV doc pm an cdv ct),osl⟩) (hcd:i9 K cdv qual=true) (S:aG N ps scope)
 (len:∀ vs H Q E,sp vs H Q E->vs.length=ps.length)
 (hbody:∀ (A:Around) (outer:List Env) (s:Shared) (H:Hp) (vs:List V) (Q:VK) (E:XK),jz k (A.deeper (envOfC qual scope s.heap.objs.size f cdv))->sp vs H Q E ->
  ∃ t,jn (nN CX P w K mg base N qual scope f cdv A outer s H E) body t/\t { nx:=λ_ H'=>Q .eU H',rt:=Q } (start N vs) H) :
 bV P w K mg base CX (k + 1) f (dU name qual params body scope dV kV doc pm an cdv ct) ps sp:=by
 refine⟨len,λA outer s H args us vs Q E hr e0 hb r Tf=>?_⟩
 have hl:=len _ _ _ _ Tf
 have KX:K.In s.heap:=e0.mod.Zf.keeps λb o e=>(e0.bs b o e).1
 have lim:s.heap.NoLimit:=e0.mod.nolimit.keeps λb o e=>(e0.bs b o e).1
 have hkind:∀ y∈ps.zip us,scope.names.lookup y.1=some .local∨(scope.names.lookup y.1=some .cell/\((cellsFrom (s.heap.objs.size + 1) scope.names []).lookup y.1).isSome=true):=λ⟨n,v⟩ hy=>by
  rcases S.par n (List.of_mem_zip hy).1 with q | q
  ·exact .inl q
  ·exact .inr ⟨q,PySem.W.cellsFrom_some _ _ _ (.inl q)⟩
 refine codeAny_call_function hr.depth (KX _ _ lk) rfl S.co S.gen rfl (PySem.W.codeRec_of KX hcd) (hb _ _ _ _ ?_)
 refine wpAny_newFunctionEnv_cells S.kind hkind λenv he s1 x=>?_
 subst he
 refine⟨lim.keeps x.toInCall.keep,codeAny_func ?_⟩
 obtain⟨t,ht,hq⟩:=hbody A outer s H vs Q E (hr.deeper _) Tf
 have I:Inv (nN CX P w K mg base N qual scope f cdv A outer s H E) [] (start N vs) H s1:=RK S hr.hd e0 hl r x
 refine wpAny_mono (ht [] s1 (start N vs) H _ I hq) (λfl s' hs=>?_) λe s' hs=>hs
 have fin:∀ {σ':St} {H':Hp} {v:V} {u:Value},Inv (nN CX P w K mg base N qual scope f cdv A outer s H E) [] σ' H' s'->RelV v u->Q v H'->CE outer P w H s Q u s' :=
  λ{σ' H' v u} J rv q=>⟨v,H',J.os,J.bare,J.base,J.hok,rv,q⟩
 cases fl with
 | ret u =>
  obtain⟨v,σ',H',J,rv,q⟩:=hs
  exact fin J rv q
 | next =>
  obtain⟨σ',H',J,q⟩:=hs
  exact fin (v:=V.eU) (u:=Value.none) J rfl q
 | brk =>
  obtain⟨_,_,_,q⟩:=hs
  exact jw q
 | cont =>
  obtain⟨_,_,_,q⟩:=hs
  exact jw q
section
variable{X:Cx}{x:Str}{p pos:Pos}{e:Expr}{es:List Expr}{t:TA}{id T:String}{r:List V->Hp->VK->Prop}
def tCB(r:List V->Hp->VK->Prop)(t:TA):TE:=λσ H Q=>t σ H λvs H1=>r vs H1 Q
theorem Mq(hc:rP X (.builtin id) r)(hg:Gl X x)(hm:X.mg x=none)(hv:bootBuiltins x=some (.builtin id))(ha:PA X (e :: es) t)(hn:x≠"__name__" := by decide)(hdb:(x == ("__debug__" : Str))=false:=by decide)
 (he:starEach (e :: es) X.env=(false,eval e X.env) :: starEach es X.env:=by rfl) (hpl:(backTo pos (starEach es X.env)).any (·.1)=false:=by rfl):PE X (.Call (.Name x p) (e :: es) [] pos) (tCB r t):=by
 intro pins s σ H Q I h
 refine wpAny_Call_Name_kw (Ga I hg hm hv ?_ hn hdb)
 exact PyProof.Rows.callWith_builtin1 (gv (ha pos pins s σ H _ I h) λus s1 ⟨vs,H1,I1,r1,q1⟩=>hc pins s1 σ H1 vs us Q I1 r1 q1) he hpl
theorem iZ(hc:rP X (.type T) r)(hg:Gl X x)(hm:X.mg x=none)(hv:bootBuiltins x=some (.type T))(ha:PA X (e :: es) t)(hn:x≠"__name__" := by decide)(hdb:(x == ("__debug__" : Str))=false:=by decide)
 (he:starEach (e :: es) X.env=(false,eval e X.env) :: starEach es X.env:=by rfl) (hpl:(backTo pos (starEach es X.env)).any (·.1)=false:=by rfl):PE X (.Call (.Name x p) (e :: es) [] pos) (tCB r t):=by
 intro pins s σ H Q I h
 refine wpAny_Call_Name_kw (Ga I hg hm hv ?_ hn hdb)
 exact PyProof.Rows.callWith_type1 (gv (ha pos pins s σ H _ I h) λus s1 ⟨vs,H1,I1,r1,q1⟩=>hc pins s1 σ H1 vs us Q I1 r1 q1) he hpl
end
end L2
namespace HT
open PySem PyProof.Rows
theorem Mr(A:Around)(s:Shared)(a:Int)(t:Tok)(c:Int)(u:Tok):∃ e,SeqAt.EqAt A s (.int a t) (.int c u) e/\(e=true↔a=c) :=
 ⟨(a == c),SeqAt.EqAt.int_int a t c u,by simp⟩
theorem Uj(A:Around)(s:Shared)(a:Int)(t:Tok)(c:Int)(u:Tok)(prog:Program)(w:World)(E:Value->Shared->Prop)(Q:Value->Shared->Prop)(h:Q (.bool (decide (a < c))) s) :
 wpAny (model prog w) A (richCompare .Lt (.int a t) (.int c u)) Q E s :=
 (PyProof.Rows.lt_int h:wpAny (model prog w) A (compareOp .Lt (.int a t) (.int c u)) Q E s)
section
open PySem.SeqAt
open PySem.AutoSeq1 (wpAny_loadPart')
open PySem.MeetsSeq PySem.MeetsSeq2 PySem.MeetsSeq3
end
section
variable{prog:Program}{w:World}{A:Around}{E:Value->Shared->Prop}{s:Shared}
theorem Wv{t b:Addr}{vs ws:List Value}{Q:Value->Shared->Prop}(ht:IsTup s.heap t vs.toArray)(hb:IsTup s.heap b ws.toArray)(hv:vs≠[])
 (h1:ws = []->Q (.ref t) s) (h2:ws≠[]->Q (.ref s.heap.objs.size) { s with heap:=s.heap.push { cls:=.type "tuple",data:=.seq (vs++ws).toArray } })
 (hsz:vs.length + ws.length<=sizeLine):wpAny (model prog w) A (binaryOp .Add (.ref t) (.ref b)) Q E s:=by
 obtain⟨⟨cls,dd,data,sl⟩,ho,hc,n,hd⟩:=id ht
 obtain⟨⟨afK,dd2,data2,sl2⟩,ho2,hc2,n2,hd2⟩:=id hb
 simp only at hc hd hc2 hd2
 subst hc hd hc2 hd2
 have e:vs.toArray++ws.toArray=(vs++ws).toArray:=by simp
 by_cases hw:ws = []
 ·exact concat_meets ⟨_,ho,rfl⟩ ⟨_,ho2,rfl⟩ noFill_tuple_add seq_tuple_add PySem.F.slot_tuple_add PySem.F.entry_tuple_add (PySem.F.args_tuple_add_2 _ _)
   (tuple_addW1 t b vs.toArray ws.toArray n n2 dd dd2 sl sl2 (by simpa using hv) (by simp[hw])) ⟨ho,ho2,h1 hw⟩
 ·refine concat_meets ⟨_,ho,rfl⟩ ⟨_,ho2,rfl⟩ noFill_tuple_add seq_tuple_add PySem.F.slot_tuple_add PySem.F.entry_tuple_add (PySem.F.args_tuple_add_2 _ _)
   (tuple_addW2 t b vs.toArray ws.toArray n n2 dd dd2 sl sl2 (by simpa using hv) (by simpa using hw) (by rw[aJ,aJ]; exact hsz)) ⟨ho,ho2,?_⟩
  rw[e]
  exact h2 hw
noncomputable def kP(n d:Nat):Option Int->Nat
 | none=>d
 | some v=>if v < 0 then (v + (n:Int)).toNat else min v.toNat n
theorem Qi(n d k:Nat):kP n d (some (k:Int))=min k n:=by
 show (if (k:Int) < 0 then ((k:Int) + (n:Int)).toNat else min (k:Int).toNat n)=min k n
 rw[if_neg (by lia),eO]
theorem Zz(n d:Nat)(hd:d<=n)(o:Option Int):kP n d o<=n:=by
 cases o with
 | none=>exact hd
 | some v =>
  show (if v < 0 then (v + (n:Int)).toNat else min v.toNat n)<=n
  by_cases hv:v < 0
  ·rw[if_pos hv]; lia
  ·rw[if_neg hv]; exact Nat.min_le_right _ _
theorem Qj(v:Int)(n d:Nat):(if v < 0 then max (v + (n:Int)) 0 else min v (n:Int))=((kP n d (some v):Nat):Int):=by
 show (if v < 0 then max (v + (n:Int)) 0 else min v (n:Int))=(((if v < 0 then (v + (n:Int)).toNat else min v.toNat n):Nat):Int)
 by_cases hv:v < 0
 ·simp only[if_pos hv]; lia
 ·simp only[if_neg hv]; lia
theorem OL(lo hi:Option Int)(n:Nat):Builtin.Slice.sliceAdjust lo hi 1 (n:Int)=(((kP n 0 lo:Nat):Int),((kP n n hi:Nat):Int)):=by
 have h1:¬ ((1:Int) < 0):=by lia
 unfold Builtin.Slice.sliceAdjust
 simp only[h1,if_false]
 refine Prod.ext ?_ ?_
 ·cases lo with
  | none=>rfl
  | some v=>exact Qj v n 0
 ·cases hi with
  | none=>rfl
  | some v=>exact Qj v n n
theorem OM(i j:Nat):Builtin.Slice.slicePlaces (i:Int) (j:Int) 1=j - i:=by
 unfold Builtin.Slice.slicePlaces
 have h1:(1:Int) > 0:=by lia
 simp only[h1,if_true,Int.ediv_one]
 split <;> lia
theorem Gk{v:Value}{o:Option Int}{Q:Option Int->Shared->Prop}(p:IsPart v o)(h:Q o s):wpAny (model prog w) A (Builtin.Slice.slicePartIndex v) Q E s:=by
 cases p with
 | none=>exact slicePart_none h
 | int i t=>exact slicePart_int h
theorem DC{sl:Addr}{vl vu:Value}{lo hi:Option Int}{n:Nat}{Q:Int × Int × Nat->Shared->Prop}(hs:s.heap.IsSliceOf sl vl vu .none)(pl:IsPart vl lo)(pu:IsPart vu hi)
 (h:Q (((kP n 0 lo:Nat):Int),1,kP n n hi - kP n 0 lo) s):wpAny (model prog w) A (Builtin.Slice.sliceApplied (.ref sl) (pure (n:Int))) Q E s:=by
 obtain⟨os,hos,hcs,hds⟩:=id hs
 unfold Builtin.Slice.sliceApplied Builtin.Slice.sliceFields
 refine wpAny_bind (wpAny_bind (wpAny_field hos hds (x:=vl) rfl (wpAny_bind (wpAny_field hos hds (x:=vu) rfl (wpAny_bind (wpAny_field hos hds (x:=.none) rfl (wpAny_pure ?_)))))))
 refine wpAny_bind (slicePart_none ?_)
 show wpAny _ _ (if ((1:Int) == 0)=true then _ else _) _ _ s
 rw[if_neg (by decide)]
 refine wpAny_bind (Gk pl (wpAny_bind (Gk pu (wpAny_bind (wpAny_pure ?_)))))
 show wpAny _ _ (match Builtin.Slice.sliceAdjust lo hi 1 (n:Int) with | (lo,hi)=>pure (lo,(1:Int),Builtin.Slice.slicePlaces lo hi 1)) _ _ s
 rw[OL lo hi n]
 show wpAny _ _ (pure (((kP n 0 lo:Nat):Int),(1:Int),Builtin.Slice.slicePlaces ((kP n 0 lo:Nat):Int) ((kP n n hi:Nat):Int) 1)) _ _ s
 rw[OM]
 exact wpAny_pure h
theorem Uk(xs:Array Value)(i k:Nat):((aq k).filterMap λ(m:Nat)=>xs[((i:Int) + (m:Int) * 1).toNat]?).toArray=((xs.toList.drop i).take k).toArray:=by
 have e:(λ(m:Nat)=>xs[((i:Int) + (m:Int) * 1).toNat]?)=λm=>xs[i + m]?:=by
  funext m
  have:((i:Int) + (m:Int) * 1).toNat=i + m:=by lia
  rw[this]
 rw[e]
 have:=pick_run xs i k
 rw[List.filterMap_map] at this
 have e2:((λx=>xs[x]?) ∘ λx=>i + x)=λm=>xs[i + m]?:=rfl
 rw[e2] at this
 rw[this]
theorem Co{t sl:Addr}{items:Array Value}{vl vu:Value}{lo hi:Option Int}{Q:Value->Shared->Prop}(ht:IsTup s.heap t items)(hs:s.heap.IsSliceOf sl vl vu .none)(pl:IsPart vl lo)(pu:IsPart vu hi)
 (hw:¬ (kP items.size 0 lo=0/\kP items.size items.size hi=items.size))
 (h:Q (.ref s.heap.objs.size) { s with heap:=s.heap.push { cls:=.type "tuple",data:=.seq ((items.toList.drop (kP items.size 0 lo)).take (kP items.size items.size hi - kP items.size 0 lo)).toArray } })
 (hsz:items.size<=sizeLine):wpAny (model prog w) A (getItem (.ref t) (.ref sl)) Q E s:=by
 have Qk:sizeOk (.seq ((items.toList.drop (kP items.size 0 lo)).take (kP items.size items.size hi - kP items.size 0 lo)).toArray):=by
  show ((items.toList.drop (kP items.size 0 lo)).take (kP items.size items.size hi - kP items.size 0 lo)).toArray.size<=sizeLine
  rw[aJ,bO,List.length_drop,aN]
  lia
 have hj:kP items.size items.size hi<=items.size:=Zz _ _ (au _) hi
 obtain⟨os,hos,hcs,hds⟩:=id hs
 have hTs:s.TypeIs (.ref sl) "slice" := ⟨os,hos,hcs⟩
 unfold getItem
 try with_reducible refine wpAny_holding ?_
 first | refine wpAny_bind (wpAny_pure ?_) | skip
 refine wpAny_bind (wpAny_sequenceKey ht.typeIs (by decide) ?_)
 refine wpAny_bind (wpAny_callSpecial?_slot (name:=Str.ofString "__getitem__") ht.typeIs uy
  (wpAny_call_entry uy ht.typeIs entry_tuple_getitem ?_ (args_tuple_getitem _ _)))
 show wpAny _ _ (Builtin.Tuple.tupleItemsOf (.ref t) >>= _) _ _ s
 refine wpAny_bind (tupleItemsOf_ ht ?_)
 refine wpAny_bind (wpAny_typeOf hTs ?_)
 rw[if_pos (by decide)]
 refine wpAny_bind (DC hs pl pu ?_)
 have hno:¬ ((((kP items.size 0 lo:Nat):Int) == 0 && (1:Int) == 1 && (kP items.size items.size hi - kP items.size 0 lo) == items.size)=true):=by
  intro q
  rw[dF,dF] at q
  have q1:((kP items.size 0 lo:Nat):Int)=0:=eq_of_beq q.1.1
  have q2:kP items.size items.size hi - kP items.size 0 lo=items.size:=eq_of_beq q.2
  exact hw ⟨by lia,by lia⟩
 show wpAny _ _ (if (((kP items.size 0 lo:Nat):Int) == 0 && (1:Int) == 1 && (kP items.size items.size hi - kP items.size 0 lo) == items.size)=true then _ else _) _ _ s
 rw[if_neg hno,Uk]
 first
  | exact wpAny_bind (m:=Builtin.Tuple.tupleExact _) (wpAny_newObj_type (wpAny_pure ⟨_,rfl,wpAny_pure h⟩) Qk)
  | exact wpAny_bind (m:=Builtin.Tuple.tupleExact _) (wpAny_newObj_type (wpAny_bind (wpAny_pure (wpAny_pure ⟨_,rfl,wpAny_pure h⟩))) Qk)
  | exact wpAny_bind (wpAny_bind (m:=Builtin.Tuple.tupleExact _) (wpAny_newObj_type (wpAny_pure (wpAny_pure ⟨_,rfl,wpAny_pure h⟩)) Qk))
  | exact wpAny_bind (wpAny_bind (m:=Builtin.Tuple.tupleExact _) (wpAny_newObj_type (wpAny_pure ⟨_,rfl,wpAny_pure h⟩) Qk))
end
end HT
namespace L2
open PySem PySem.Spec PyProof.Rows
abbrev TO:=St->Hp->(Option Int->Hp->Prop)->Prop
def PO(X:Cx)(e:Option Expr)(t:TO):Prop :=
 ∀ (pins:List (Addr × Obj)) (s:Shared) (σ:St) (H:Hp) (Q:Option Int->Hp->Prop),Inv X pins σ H s->t σ H Q ->
  wpAny (model X.prog X.w) X.A (evalPart e X.env) (λu s'=>∃ o H',Inv X pins σ H' s'/\IsPart u o/\Q o H') X.xe s
def Ww:TO:=λ_ H Q=>Q none H
inductive Yi(Q:Option Int->Hp->Prop)(x:V)(H1:Hp):Prop
 | mk (i:Int) (a:x = .int i) (b:Q (some i) H1):Yi Q x H1
def ab2(t:TE):TO:=λσ H Q=>t σ H (Yi Q)
theorem intsAre_of{ns:List Int}:∀ {us:List Value},bT (ns.map V.int) us->IntsAre us ns:=by
 induction ns with
 | nil=>intro us r; rw[List.map_nil] at r; cases r; exact .nil
 | cons n ns ih =>
  intro us r
  rw[ck] at r
  cases r with
  | cons r1 r2 =>
   obtain⟨t,e⟩:=r1
   subst e
   exact .cons n t (ih r2)
section
variable{X:Cx}{e:Expr}{te:TE}{lo hi:Option Expr}{tl th:TO}{pos p2:Pos}
theorem K4:PO X none Ww:=by
 intro pins s σ H Q I h
 rw[evalPart_none]
 exact wpAny_pure ⟨none,H,I,.none,h⟩
theorem tS(h:PE X e te):PO X (some e) (ab2 te):=by
 intro pins s σ H Q I hw
 rw[evalPart_some]
 refine gv (h pins s σ H _ I hw) λu s1 ⟨x,H1,I1,r1,q1⟩=>?_
 obtain⟨i,rfl,q⟩:=q1
 obtain⟨t,rfl⟩:=r1
 exact⟨some i,H1,I1,.int i t,q⟩
def SlR(X:Cx)(r:V->Option Int->Option Int->Hp->VK->Prop):Prop :=
 ∀ (pins:List (Addr × Obj)) (s:Shared) (σ:St) (H:Hp) (x:V) (v vl vu:Value) (lo hi:Option Int) (sl:Addr) (Q:VK),Inv X pins σ H s->RelV x v->s.heap.IsSliceOf sl vl vu .none->IsPart vl lo->IsPart vu hi->r x lo hi H Q ->
  ∃ T id,typeLookup (.type T) "__getitem__" = pure (some (.builtin id))/\s.TypeIs v T/\wpAny (model X.prog X.w) X.A (getItem v (.ref sl)) (EP X pins σ Q) X.xe s
def tSl(r:V->Option Int->Option Int->Hp->VK->Prop)(te:TE)(tl th:TO):TE:=λσ H Q=>te σ H λx H1=>tl σ H1 λl H2=>th σ H2 λu H3=>r x l u H3 Q
theorem yQ{r:V->Option Int->Option Int->Hp->VK->Prop}(hr:SlR X r)(he:PE X e te)(hl:PO X lo tl)(hu:PO X hi th):PE X (.Subscript e (.Slice lo hi none p2) pos) (tSl r te tl th):=by
 intro pins s σ H Q I h
 refine Subscript_ (gv (he pins s σ H _ I h) λv s1 ⟨x,H1,I1,r1,q1⟩=>?_)
 refine wpAny_Slice (gv (hl pins s1 σ H1 _ I1 q1) λvl s2 ⟨l,H2,I2,pl,q2⟩=>gv (hu pins s2 σ H2 _ I2 q2) λvu s3 ⟨u,H3,I3,pu,q3⟩=>?_)
 rw[evalPart_none]
 refine wpAny_pure ?_
 have I4:Inv X pins σ H3 { s3 with heap:=s3.heap.push { cls:=.type "slice",data:=.fields #[vl,vu,.none] } }:=I3.kept (t':=s3.toks) λb ob q=>Heap.get?_push_of_some _ q
 obtain⟨T,id,hT,ht,hg⟩:=hr pins { s3 with heap:=s3.heap.push { cls:=.type "slice",data:=.fields #[vl,vu,.none] } } σ H3 x v vl vu l u s3.heap.objs.size Q I4 r1 (Heap.IsSliceOf.new ..) pl pu q3
 show wpAny (model X.prog X.w) X.A (subscriptTail e (.Slice lo hi none p2) v (.ref s3.heap.objs.size)) (EP X pins σ Q) X.xe { s3 with heap:=s3.heap.push { cls:=.type "slice",data:=.fields #[vl,vu,.none] } }
 exact tail_any (ops:=[.ref s3.heap.objs.size,v]) ht hT hg (by with_unfolding_all rfl)
noncomputable def Ff(xs:List V)(lo hi:Option Int):List V:=(xs.drop (HT.kP xs.length 0 lo)).take (HT.kP xs.length xs.length hi - HT.kP xs.length 0 lo)
theorem EE(xs:List V)(lo hi:Option Int):(Ff xs lo hi).length<=xs.length:=by
 unfold Ff
 rw[bO,List.length_drop]
 lia
def afM(K:af):V->Option Int->Option Int->Hp->VK->Prop:=λx lo hi H Q=>∃ a xs,x = .ref a/\cH K H a xs /\
 ¬ (HT.kP xs.length 0 lo=0/\HT.kP xs.length xs.length hi=xs.length)/\∀ p,H p=none->Q (.ref p) (upd H p (.tup (Ff xs lo hi)))
theorem K5:SlR X (afM X.K):=by
 intro pins s σ H x v vl vu lo hi sl Q I rx hs pl pu h
 obtain⟨a,xs,rfl,hx,hw,q⟩:=h
 cases rx
 obtain⟨its,r,ht,hz⟩:=I.tuple hx
 have hlen:its.toArray.size=xs.length:=by rw[aJ]; exact r.length.symm
 refine⟨"tuple",_,uy.lookup,ht.typeIs,?_⟩
 refine HT.Co ht hs pl pu (by rw[hlen]; exact hw) ?_ (by rw[hlen]; exact hz)
 rw[hlen]
 refine⟨.ref s.heap.objs.size,_,I.laid (t':=s.toks) (o:=.tup (Ff xs lo hi)) (λb ob q=>Heap.get?_push_of_some _ q) (au _) ?_,rfl,q _ (I.hok.fresh (au _))⟩
 exact⟨aH (EE xs lo hi) hz,_,(r.drop (HT.kP xs.length 0 lo)).take (HT.kP xs.length xs.length hi - HT.kP xs.length 0 lo),IsTup.new _ _⟩
def Yj(K:af):R2:=λx y H Q=>∃ a b xs ys,x = .ref a/\y = .ref b/\cH K H a xs/\cH K H b ys/\xs≠[]/\xs.length + ys.length<=sizeLine /\
 (ys = []->Q (.ref a) H)/\(ys≠[]->∀ p,H p=none->Q (.ref p) (upd H p (.tup (xs++ys))))
theorem bT.K6{xs:List V}{us:List Value}(r:bT xs us):us = []↔xs = []:=by
 cases r with
 | nil=>simp
 | cons _ _=>simp
theorem Wx:vI X (binaryOp .Add) (Yj X.K):=by
 intro pins s σ H x y v u Q I rx ry h
 obtain⟨a,b,xs,ys,rfl,rfl,ha,hb,hx,hz,q1,q2⟩:=h
 cases rx
 cases ry
 obtain⟨its,r1,p1,_⟩:=I.tuple ha
 obtain⟨its2,r2,p2,_⟩:=I.tuple hb
 refine HT.Wv p1 p2 (λz=>hx (r1.K6.mp z)) (λz=>⟨.ref a,H,I,rfl,q1 (r2.K6.mp z)⟩) (λz=>?_) (by rw[<- r1.length,<- r2.length]; exact hz)
 refine⟨.ref s.heap.objs.size,_,I.laid (t':=s.toks) (o:=.tup (xs++ys)) (λb ob q=>Heap.get?_push_of_some _ q) (au _) ?_,rfl,q2 (λw=>z (r2.K6.mpr w)) _ (I.hok.fresh (au _))⟩
 exact⟨by rw[av]; exact hz,_,r1.append r2,IsTup.new _ _⟩
end
noncomputable def Wy(n:Nat)(i:Int):Option Nat:=if 0<=i then (if i < n then some i.toNat else none) else if -(n:Int)<=i then some (i + n).toNat else none
noncomputable def IK{α:Type}(xs:List α)(i:Int):Option α:=(Wy xs.length i).bind λj=>xs[j]?
theorem K7{n:Nat}{i:Int}{j:Nat}(h:Wy n i=some j):seqIndex? i n=some j/\j < n/\-(n:Int)<=i/\i < n:=by
 unfold Wy at h
 by_cases h0:0<=i
 ·rw[if_pos h0] at h
  by_cases h1:i < n
  ·rw[if_pos h1] at h
   have e:i.toNat=j:=aP h
   exact⟨by rw[seqIndex_of h0 h1,e],by lia,by lia,h1⟩
  ·rw[if_neg h1] at h; cases h
 ·rw[if_neg h0] at h
  by_cases h1 : -(n:Int)<=i
  ·rw[if_pos h1] at h
   have e:(i + n).toNat=j:=aP h
   exact⟨by rw[seqIndex_neg (by lia) h1,e],by lia,h1,by lia⟩
  ·rw[if_neg h1] at h; cases h
theorem Ql{α:Type}{xs:List α}{i:Int}{v:α}(h:IK xs i=some v):∃ j,seqIndex? i xs.length=some j/\xs[j]?=some v/\j < xs.length/\-(xs.length:Int)<=i/\i < xs.length:=by
 unfold IK at h
 cases e:Wy xs.length i with
 | none=>rw[e] at h; cases h
 | some j =>
  rw[e] at h
  obtain⟨h1,h2,h3,h4⟩:=K7 e
  exact⟨j,h1,h,h2,h3,h4⟩
theorem dG{α:Type}{xs:List α}{j:Nat}{v:α}(h:xs[j]?=some v):IK xs (j:Int)=some v:=by
 have hj:j < xs.length:=(ai.mp h).1
 have e:Wy xs.length (j:Int)=some j:=by
  unfold Wy
  rw[if_pos (by lia),if_pos (by lia)]; simp
 unfold IK; rw[e]; exact h
def Cq(b:Expr):Prop:=∀ o i,subscripted b false o i=operate [o,i] (getItem o i)
def IxR(X:Cx)(r:R2):Prop :=
 ∀ (value slice:Expr) (pins:List (Addr × Obj)) (s:Shared) (σ:St) (H:Hp) (x y:V) (v u:Value) (Q:VK),Inv X pins σ H s->RelV x v->RelV y u->r x y H Q ->
  subscripted slice false v u=operate [v,u] (getItem v u)->wpAny (model X.prog X.w) X.A (subscriptTail value slice v u) (EP X pins σ Q) X.xe s
def MtR(X:Cx)(id:String)(r:V->List V->Hp->VK->Prop):Prop :=
 ∀ (pins:List (Addr × Obj)) (s:Shared) (σ:St) (H:Hp) (x:V) (xs:List V) (v:Value) (us:List Value) (Q:VK),Inv X pins σ H s->RelV x v->bT xs us->r x xs H Q ->
  wpAny (model X.prog X.w) X.A (call (.builtin id) (v :: us)) (EP X pins σ Q) X.xe s
section
variable{X:Cx}{a b:Expr}{ta tb:TE}{pos:Pos}
theorem Qm{r:R2}(hr:IxR X r)(ha:PE X a ta)(hb:PE X b tb)(hs:Cq b):PE X (.Subscript a b pos) (Wb r ta tb):=by
 intro pins s σ H Q I h
 exact Subscript_ (Zr ha hb I h λv u s2 x y H2 I2 rx ry q=>hr a b pins s2 σ H2 x y v u Q I2 rx ry q (hs _ _))
inductive RL(K:af)(x y:V)(H:Hp)(Q:VK):Prop
 | mk (p:Addr) (xs:List V) (i:Int) (v:V) (h1:x = .ref p) (h2:y = .int i) (h3:bJ K H p xs) (h4:IK xs i=some v) (h5:Q v H):RL K x y H Q
inductive RN(K:af)(x y:V)(H:Hp)(Q:VK):Prop
 | mk (p:Addr) (xs:List V) (i:Int) (v:V) (h1:x = .ref p) (h2:y = .int i) (h3:cH K H p xs) (h4:IK xs i=some v) (h5:Q v H):RN K x y H Q
theorem Qn:IxR X (RL X.K):=by
 intro value slice pins s σ H x y v u Q I rx ry h hs
 obtain⟨p,xs,i,z,rfl,rfl,hq,he,q⟩:=h
 cases rx
 obtain⟨t,rfl⟩:=ry
 obtain⟨its,r,pl,hz⟩:=I.list hq
 obtain⟨j,h1,h2,h3,h4,h5⟩:=Ql he
 obtain⟨w,ew,rw'⟩:=r.get h2
 have hl:=r.length
 have hn:=Gh
 have fin:EP X pins σ Q w s:=⟨z,H,I,rw',q⟩
 by_cases h0:0<=i
 ·have hj:i.toNat=j:=by
   rw[seqIndex_of h0 h5] at h1
   exact aP h1
  exact item_listR pl.isList h0 (by lia) (by rw[hj]; simpa using ew) fin hs
 ·have hj:(i + (its.toArray.size:Int)).toNat=j:=by
   rw[seqIndex_neg (by lia) h4] at h1
   rw[aJ,<- hl]
   exact aP h1
  exact subscriptTail_builtinR (x:=w) pl.isList.typeIs slot_list_getitem.lookup
   (wpAny_getItem_list_neg (Q:=λr s'=>r=w/\EP X pins σ Q r s') pl.isList (by lia) (by rw[aJ] <;> lia) (by lia) (by rw[hj]; simpa using ew) ⟨rfl,fin⟩) hs
theorem Ul:IxR X (RN X.K):=by
 intro value slice pins s σ H x y v u Q I rx ry h hs
 obtain⟨p,xs,i,z,rfl,rfl,hq,he,q⟩:=h
 cases rx
 obtain⟨t,rfl⟩:=ry
 obtain⟨its,r,pl,hz⟩:=I.tuple hq
 obtain⟨j,h1,h2,h3,h4,h5⟩:=Ql he
 obtain⟨w,ew,rw'⟩:=r.get h2
 have hl:=r.length
 have hn:=Gh
 have fin:EP X pins σ Q w s:=⟨z,H,I,rw',q⟩
 exact subscriptTail_builtinR (x:=w) pl.typeIs slot_tuple_getitem.lookup
  (getItem_tuple (j:=j) (Q:=λr s'=>r=w/\EP X pins σ Q r s') pl (by lia) (by lia) (by rw[aJ,<- hl]; exact h1) (by simpa using ew) ⟨rfl,fin⟩) hs
theorem ON(its:List Value)(n j:Nat)(u:Value):Obj.mapSeq (·.setIfInBounds j u) { cls:=.type "list",data:=.seq its.toArray n } = { cls:=.type "list",data:=.seq (its.set j u).toArray n }:=by
 simp[Obj.mapSeq]
theorem Inv.lst{pins:List (Addr × Obj)}{σ:St}{H:Hp}{s:Shared}{p:Addr}{xs:List V}(I:Inv X pins σ H s)(h:H p=some (.lst xs)) :
 ∃ (its:List Value) (n:Nat),bT xs its/\s.heap.get? p=some { cls:=.type "list",data:=.seq its.toArray n }/\xs.length<=sizeLine:=by
 obtain⟨z,its,n,r,e⟩:=I.hok p _ h
 exact⟨its,n,r,e,z⟩
theorem Inv.ZA{pins:List (Addr × Obj)}{σ:St}{H:Hp}{s:Shared}{p:Addr}{xs ys:List V}{its its':List Value}{n n':Nat}{f:Obj->Obj}(I:Inv X pins σ H s)(h:H p=some (.lst xs))
 (ho:s.heap.get? p=some { cls:=.type "list",data:=.seq its.toArray n }) (hf:f { cls:=.type "list",data:=.seq its.toArray n } = { cls:=.type "list",data:=.seq its'.toArray n' }) (r:bT ys its') (hz:ys.length<=sizeLine) (t:Nat) :
 Inv X pins σ (upd H p (.lst ys)) { s with heap:=s.heap.update p f,toks:=t }:=by
 have e:(s.heap.update p f).get? p=some { cls:=.type "list",data:=.seq its'.toArray n' }:=by
  rw[Heap.get?_update_self f ho (by rw[hf] <;> rfl),hf]
 refine I.write (x:=p) (e:=p) (by rw[h]; trivial) (.inl rfl) (λb u hb q=>(Heap.get?_update_other _ _ (bK hb)).trans q) ⟨_,e⟩ ?_
 exact⟨hz,its',n',r,e⟩
def ab4:V->V->V->Hp->(Hp->Prop)->Prop:=λo i v H Q=>∃ p xs k j,o = .ref p/\i = .int k/\H p=some (.lst xs)/\Wy xs.length k=some j/\Q (upd H p (.lst (xs.set j v)))
theorem set_list:abP X ab4:=by
 intro pins s σ H o i v ov iv u Q I ro ri rv h
 obtain⟨p,xs,k,j,rfl,rfl,hp,hj,q⟩:=h
 cases ro
 obtain⟨t,rfl⟩:=ri
 obtain⟨its,n,r,ho,hz⟩:=I.lst hp
 obtain⟨h1,h2,h3,h4⟩:=K7 hj
 have hl:=r.length
 have hn:=Gh
 have I':Inv X pins σ (upd H p (.lst (xs.set j v))) { s with heap:=s.heap.update p (Obj.mapSeq (·.setIfInBounds j u)) } :=
  I.ZA hp ho (ON its n j u) (r.set rv j) (by rw[bP]; exact hz) s.toks
 by_cases h0:0<=k
 ·have hk:k.toNat=j:=by
   rw[seqIndex_of h0 h4] at h1
   exact aP h1
  exact PySem.W.ki_setAt ho h0 (by lia) (by rw[aJ,<- hl]; exact h4) (by rw[hk]; exact⟨_,I',q⟩)
 ·have hk:(k + (its.toArray.size:Int)).toNat=j:=by
   rw[seqIndex_neg (by lia) h3] at h1
   rw[aJ,<- hl]
   exact aP h1
  exact PySem.W.ki_setBack ho (by lia) (by rw[aJ,<- hl]; exact h3) (by lia) (by rw[hk]; exact⟨_,I',q⟩)
theorem K8(lo hi:Option Int)(n:Nat):(sliceBounds lo hi none n).1=((HT.kP n 0 lo:Nat):Int)/\(sliceBounds lo hi none n).2.1=((HT.kP n n hi:Nat):Int)/\(sliceBounds lo hi none n).2.2=1:=by
 refine⟨?_,?_,rfl⟩
 ·cases lo with
  | none=>simp[sliceBounds,HT.kP]
  | some i =>
   simp only[sliceBounds,HT.kP,Option.getD_none,show (1:Int) > 0 by decide,if_true]
   by_cases h:i < 0
   ·simp only[h,if_true] <;> lia
   ·simp only[h,if_false] <;> lia
 ·cases hi with
  | none=>simp[sliceBounds,HT.kP]
  | some i =>
   simp only[sliceBounds,HT.kP,Option.getD_none,show (1:Int) > 0 by decide,if_true]
   by_cases h:i < 0
   ·simp only[h,if_true] <;> lia
   ·simp only[h,if_false] <;> lia
theorem IQ(its:List Value)(lo hi:Option Int):slicePick its.toArray lo hi none=((its.drop (HT.kP its.length 0 lo)).take (HT.kP its.length its.length hi - HT.kP its.length 0 lo)).toArray:=by
 obtain⟨h1,h2,h3⟩:=K8 lo hi its.toArray.size
 unfold slicePick
 rw[h1,h2,h3]
 simp only[sliceRange_one,pick_run,aJ] <;> rfl
def afO(K:af):V->Option Int->Option Int->Hp->VK->Prop:=λx lo hi H Q=>∃ a xs,x = .ref a/\bJ K H a xs/\∀ p,H p=none->Q (.ref p) (upd H p (.lst (Ff xs lo hi)))
theorem Wz:SlR X (afO X.K):=by
 intro pins s σ H x v vl vu lo hi sl Q I rx hs pl pu h
 obtain⟨a,xs,rfl,hx,q⟩:=h
 cases rx
 obtain⟨its,r,ht,hz⟩:=I.list hx
 have hlen:=r.length
 refine⟨"list",_,slot_list_getitem.lookup,ht.isList.typeIs,?_⟩
 refine wpAny_getItem_list_slice ht.isList hs pl pu .none (by simp) ?_ (by rw[aJ] <;> lia)
 rw[IQ,<- hlen]
 refine⟨.ref s.heap.objs.size,_,I.laid (t':=s.toks) (o:=.lst (Ff xs lo hi)) (λb ob q=>Heap.get?_push_of_some _ q) (au _) ?_,rfl,q _ (I.hok.fresh (au _))⟩
 exact⟨aH (EE xs lo hi) hz,_,0,(r.drop (HT.kP xs.length 0 lo)).take (HT.kP xs.length xs.length hi - HT.kP xs.length 0 lo),Heap.get?_push_size _ rfl⟩
noncomputable def ym:V->Bool
 | .eU=>true
 | .bl _=>true
 | .int _=>true
 | .str _=>true
 | _=>false
noncomputable def RO:V->V->Bool
 | .eU,.eU=>true
 | .bl a,.bl b=>a == b
 | .bl a,.int b=>(if a then 1 else 0) == b
 | .int a,.bl b=>a == (if b then 1 else 0)
 | .int a,.int b=>a == b
 | .str a,.str b=>a == b
 | _,_=>false
theorem ZC{A:Around}{s:Shared}{y x:V}{u v:Value}(ry:RelV y u)(rx:RelV x v)(fy:ym y=true)(fx:ym x=true):SeqAt.EqAt A s u v (RO y x):=by
 cases y with
 | eU =>
  cases ry
  cases x with
  | eU=>cases rx; exact SeqAt.EqAt.same _
  | bl b=>cases rx; exact SeqAt.EqAt.none_bool b
  | int b=>obtain⟨t,rfl⟩:=rx; exact SeqAt.EqAt.none_int b t
  | str b=>obtain⟨t,rfl⟩:=rx; exact SeqAt.EqAt.none_str b t
  | _=>exact absurd (show false=true from fx) aB
 | bl a =>
  cases ry
  cases x with
  | eU=>cases rx; exact SeqAt.EqAt.bool_none a
  | bl b=>cases rx; exact SeqAt.EqAt.bool_bool a b
  | int b=>obtain⟨t,rfl⟩:=rx; exact SeqAt.EqAt.bool_int a b t
  | str b=>obtain⟨t,rfl⟩:=rx; exact SeqAt.EqAt.bool_str a b t
  | _=>exact absurd (show false=true from fx) aB
 | int a =>
  obtain⟨t',rfl⟩:=ry
  cases x with
  | eU=>cases rx; exact SeqAt.EqAt.int_none a t'
  | bl b=>cases rx; exact SeqAt.EqAt.int_bool a t' b
  | int b=>obtain⟨t,rfl⟩:=rx; exact SeqAt.EqAt.int_int a t' b t
  | str b=>obtain⟨t,rfl⟩:=rx; exact SeqAt.EqAt.int_str a t' b t
  | _=>exact absurd (show false=true from fx) aB
 | str a =>
  obtain⟨t',rfl⟩:=ry
  cases x with
  | eU=>cases rx; exact SeqAt.EqAt.str_none a t'
  | bl b=>cases rx; exact SeqAt.EqAt.str_bool a t' b
  | int b=>obtain⟨t,rfl⟩:=rx; exact SeqAt.EqAt.str_int a t' b t
  | str b=>obtain⟨t,rfl⟩:=rx; exact SeqAt.EqAt.str_str a t' b t
  | _=>exact absurd (show false=true from fx) aB
 | _=>exact absurd (show false=true from fy) aB
noncomputable def OO(x:V)(u:Value):Bool:=match u with
 | .none=>RO .eU x
 | .bool b=>RO (.bl b) x
 | .int i _=>RO (.int i) x
 | .str z _=>RO (.str z) x
 | _=>false
theorem Um{x y:V}{u:Value}(r:RelV y u)(f:ym y=true):OO x u=RO y x:=by
 cases y with
 | eU=>cases r; rfl
 | bl b=>cases r; rfl
 | int i=>obtain⟨t,rfl⟩:=r; rfl
 | str z=>obtain⟨t,rfl⟩:=r; rfl
 | _=>exact absurd (show false=true from f) aB
theorem Cr{x:V}:∀ {xs:List V} {us:List Value},bT xs us->xs.all ym=true->us.any (OO x)=xs.any λy=>RO y x
 | _,_,.nil,_=>rfl
 | y :: xs,u :: us,.cons r t,f=>by
  rw[List.all_cons,dF] at f
  rw[nG,nG,Um r f.1,Cr t f.2]
theorem yR{A:Around}{s:Shared}{x:V}{v:Value}(rx:RelV x v)(fx:ym x=true):∀ {xs:List V} {us:List Value},bT xs us->xs.all ym=true->∀ u∈us,SeqAt.EqAt A s u v (OO x u)
 | _,_,.nil,_=>λu hu=>by cases hu
 | y :: xs,u :: us,.cons r t,f=>λu' hu=>by
  rw[List.all_cons,dF] at f
  rcases bA.mp hu with rfl | hu
  ·rw[Um r f.1]; exact ZC r rx f.1 fx
  ·exact yR rx fx t f.2 u' hu
noncomputable def JL(x:V)(xs:List V):Bool:=xs.any λy=>RO y x
inductive rIn(K:af)(neg:Bool)(x y:V)(H:Hp)(Q:VK):Prop
 | mk (p:Addr) (xs:List V) (h1:y = .ref p) (h2:bJ K H p xs∨cH K H p xs) (h3:ym x=true) (h4:xs.all ym=true) (h5:Q (.bl (if neg then !JL x xs else JL x xs)) H):rIn K neg x y H Q
theorem lP:vI X (compareOp .In) (rIn X.K false):=by
 intro pins s σ H x y v u Q I rx ry h
 obtain⟨p,xs,rfl,hq,fx,fs,q⟩:=h
 cases ry
 rcases hq with hq | hq
 ·obtain⟨its,r,pl,hz⟩:=I.list hq
  refine SeqAt.in_listAt (OO x) pl.isList (λw hw=>yR rx fx r fs w (by simpa using hw)) ⟨.bl _,H,I,rfl,?_⟩
  rw[show its.toArray.any (OO x)=its.any (OO x) by simp,Cr r fs]
  exact q
 ·obtain⟨its,r,pl,hz⟩:=I.tuple hq
  refine SeqAt.in_tupleAt (OO x) pl (λw hw=>yR rx fx r fs w (by simpa using hw)) ⟨.bl _,H,I,rfl,?_⟩
  rw[show its.toArray.any (OO x)=its.any (OO x) by simp,Cr r fs]
  exact q
theorem mh:vI X (compareOp .NotIn) (rIn X.K true):=by
 intro pins s σ H x y v u Q I rx ry h
 obtain⟨p,xs,rfl,hq,fx,fs,q⟩:=h
 cases ry
 rcases hq with hq | hq
 ·obtain⟨its,r,pl,hz⟩:=I.list hq
  refine SeqAt.notIn_listAt (OO x) pl.isList (λw hw=>yR rx fx r fs w (by simpa using hw)) ⟨.bl _,H,I,rfl,?_⟩
  rw[show its.toArray.any (OO x)=its.any (OO x) by simp,Cr r fs]
  exact q
 ·obtain⟨its,r,pl,hz⟩:=I.tuple hq
  refine SeqAt.notIn_tupleAt (OO x) pl (λw hw=>yR rx fx r fs w (by simpa using hw)) ⟨.bl _,H,I,rfl,?_⟩
  rw[show its.toArray.any (OO x)=its.any (OO x) by simp,Cr r fs]
  exact q
theorem K9:rP X (.builtin "len") (λxs H Q=>∃ p ys,xs = [.ref p]/\(bJ X.K H p ys∨cH X.K H p ys)/\Q (.int ys.length) H):=by
 intro pins s σ H xs us Q I r h
 obtain⟨p,ys,rfl,hq,q⟩:=h
 obtain⟨u,rfl,rx⟩:=vals1 r
 cases rx
 have hn:=Gh
 rcases hq with hq | hq
 ·obtain⟨its,r',pl,hz⟩:=I.list hq
  have hlen:=r'.length
  exact Calls.call_len_list pl.isList (by simp only[aJ] <;> lia) ⟨.int ys.length,H,I.tok _,⟨s.toks + 1,by rw[aJ,hlen]⟩,q⟩
 ·obtain⟨its,r',pl,hz⟩:=I.tuple hq
  have hlen:=r'.length
  exact len_tuple pl (by simp only[aJ] <;> lia) ⟨.int ys.length,H,I.tok _,⟨s.toks + 1,by rw[aJ,hlen]⟩,q⟩
theorem iC:rP X (.type "list") (λxs H Q=>∃ p ys,xs = [.ref p]/\(bJ X.K H p ys∨cH X.K H p ys)/\∀ l,H l=none->Q (.ref l) (upd H l (.lst ys))):=by
 intro pins s σ H xs us Q I r h
 obtain⟨p,ys,rfl,hq,q⟩:=h
 obtain⟨u,rfl,rx⟩:=vals1 r
 cases rx
 have fin:∀ (its:List Value),bT ys its->ys.length<=sizeLine->∀ (h':Heap) (c':Nat),(∀ b o',s.heap.get? b=some o'->h'.get? b=some o') ->
  h'.get? s.heap.objs.size=some { cls:=.type "list",dict:=none,data:=.seq its.toArray c',slots:=#[] }->EP X pins σ Q (.ref s.heap.objs.size) { s with heap:=h' }:=λits r' hz h' c' kp e =>
  ⟨.ref s.heap.objs.size,_,I.laid (t':=s.toks) kp (au _) (show fh X.prog X.w _ h' _ (.lst ys) from ⟨hz,its,c',r',e⟩),rfl,q _ (I.hok.fresh (au _))⟩
 rcases hq with hq | hq
 ·obtain⟨its,r',pl,hz⟩:=I.list hq
  have hlen:=r'.length
  obtain⟨o,ho,hc,n,hd⟩:=pl.isList
  exact call_list_seq p (.inl rfl) ho hc hd (λh' c' kp e=>fin its r' hz h' c' kp e) (by simp only[aJ] <;> lia)
 ·obtain⟨its,r',pl,hz⟩:=I.tuple hq
  have hlen:=r'.length
  obtain⟨o,ho,hc,n,hd⟩:=pl
  exact call_list_seq p (.inr rfl) ho hc hd (λh' c' kp e=>fin its r' hz h' c' kp e) (by simp only[aJ] <;> lia)
def tyV(K:af)(T:String)(x:V)(H:Hp):Prop:=match x with
 | .str _=>T = "str"
 | .int _=>T = "int"
 | .ref p=>(T = "list" /\ ∃ xs,bJ K H p xs)∨(T = "tuple" /\ ∃ o,K.lookup p=some o/\o.cls = .type "tuple" /\ o.dict=none) ∨
  (T = "dict" /\ ((∃ kvs,H p=some (.dK kvs))∨∃ kvs,H p=some (.dT kvs)))∨(T = "set" /\ ∃ S n,H p=some (.set S n))
 | _=>False
theorem Uo{pins:List (Addr × Obj)}{σ:St}{H:Hp}{s:Shared}{T:String}{x:V}{v:Value}(I:Inv X pins σ H s)(r:RelV x v)(ty:tyV X.K T x H) :
 s.TypeIs v T/\∀ a,v = .ref a->∃ ob,s.heap.get? a=some ob/\ob.dict=none:=by
 cases x with
 | str z =>
  obtain⟨t,rfl⟩:=r
  cases (show T = "str" from ty)
  exact⟨typeIs_str s z t,λ_ e=>nomatch e⟩
 | int i =>
  obtain⟨t,rfl⟩:=r
  cases (show T = "int" from ty)
  exact⟨typeIs_int s i t,λ_ e=>nomatch e⟩
 | ref p =>
  cases r
  rcases ty with ⟨rfl,xs,hq⟩ | ⟨rfl,o,hk,hc,hd⟩ | ⟨rfl,hk⟩ | ⟨rfl,S,n,hk⟩
  ·obtain⟨its,_,pl,_⟩:=I.list hq
   refine⟨pl.isList.typeIs,λa e=>?_⟩
   cases e
   obtain⟨o,n,e,c,hd,_⟩:=pl
   exact⟨o,e,hd⟩
  ·refine⟨⟨o,I.Cd p o hk,hc⟩,λa e=>?_⟩
   cases e
   exact⟨o,I.Cd _ o hk,hd⟩
  ·have z:∃ o,s.heap.get? p=some o/\o.ExactDict:=by
    rcases hk with ⟨kvs,hk⟩ | ⟨kvs,hk⟩
    ·obtain⟨_,_,_,_,o,_,_,e,ex,_⟩:=I.hok p _ hk
     exact⟨o,e,ex⟩
    ·obtain⟨_,_,_,_,o,_,_,e,ex,_⟩:=I.hok p _ hk
     exact⟨o,e,ex⟩
   obtain⟨o,e,ex⟩:=z
   refine⟨⟨o,e,ex.1⟩,λa e2=>?_⟩
   cases e2
   exact⟨o,e,ex.2.1⟩
  ·obtain⟨o,_,_,_,e,ex,_⟩:=I.hok p _ hk
   refine⟨⟨o,e,ex.1⟩,λa e2=>?_⟩
   cases e2
   exact⟨o,e,ex.2.1⟩
 | _=>exact jw ty
def afQ(K:af)(T:String)(r:V->List V->Hp->VK->Prop)(to:TE):TE:=λσ H Q=>to σ H λx H1=>tyV K T x H1/\r x [] H1 Q
def tBM(K:af)(T:String)(r:V->List V->Hp->VK->Prop)(to:TE)(t:TA):TE:=λσ H Q=>to σ H λx H1=>tyV K T x H1/\t σ H1 λxs H2=>r x xs H2 Q
variable{o e:Expr}{es:List Expr}{to:TE}{t:TA}{name:Str}{apos cpos:Pos}{T id:String}{r:V->List V->Hp->VK->Prop}
theorem ZD(pa:PlainAttrs T)(slot:Slot T name id)(hty:typeOf (.builtin id)=pure (.type "method_descriptor"))(hm:MtR X id r)(ho:PE X o to)
 (hbase:attributeBase o name X.env (eval o X.env)=eval o X.env:=by rfl) (hline:(apos.endLine == cpos.line)=true:=by rfl):PE X (.Call (.Attribute o name apos) [] [] cpos) (afQ X.K T r to):=by
 intro pins s σ H Q I h
 refine wpAny_Call_method0_late hbase hline (gv (ho pins s σ H _ I h) λv s1 ⟨x,H1,I1,r1,ty,q1⟩=>?_)
 obtain⟨h1,h2⟩:=Uo I1 r1 ty
 exact⟨T,id,pa,slot,hty,h1,h2,Calls.callWith_builtin rfl (PySem.evalArgs_none (hm pins s1 σ H1 x [] v [] Q I1 r1 .nil q1))⟩
theorem rR(pa:PlainAttrs T)(slot:Slot T name id)(hty:typeOf (.builtin id)=pure (.type "method_descriptor"))(hm:MtR X id r)(ho:PE X o to)(ha:PA X (e :: es) t)
 (hbase:attributeBase o name X.env (eval o X.env)=eval o X.env:=by rfl)
 (hfew:((backTo cpos (starEach (e :: es) X.env)).all (λx=>!x.1) && (backToKw cpos (keywordEach [] X.env)).all (λx=>x.1.isSome)
  && decide ((e :: es).length + ([]:List Keyword).length + (if ([]:List Keyword).isEmpty then 0 else 1) < 30))=true:=by rfl)
 (hline:(apos.endLine == cpos.line)=true:=by rfl) (hs:starEach (e :: es) X.env=(false,eval e X.env) :: starEach es X.env:=by rfl) (hplain:(backTo cpos (starEach es X.env)).any (·.1)=false:=by rfl) :
 PE X (.Call (.Attribute o name apos) (e :: es) [] cpos) (tBM X.K T r to t):=by
 intro pins s σ H Q I h
 refine wpAny_Call_method_late hbase hfew hline rfl (gv (ho pins s σ H _ I h) λv s1 ⟨x,H1,I1,r1,ty,q1⟩=>?_)
 obtain⟨h1,h2⟩:=Uo I1 r1 ty
 refine⟨T,id,pa,slot,hty,h1,h2,?_⟩
 have hA:=ha cpos pins s1 σ H1 _ I1 q1
 rw[hs] at hA ⊢
 refine Calls.callWith_builtin (by show (false || (backTo cpos (starEach es X.env)).any (·.1))=false; rw[hplain] <;> rfl) (Calls.evalArgs_plain ?_)
 exact gv hA λus s2 ⟨vs,H2,I2,r2,q2⟩=>hm pins s2 σ H2 x vs v us Q I2 r1 r2 q2
end
def MtM(X:Cx)(id:String)(r:V->List V->Hp->VK->Prop):Prop :=
 ∀ (pins:List (Addr × Obj)) (s:Shared) (σ:St) (H:Hp) (x:V) (xs:List V) (v:Value) (us:List Value) (Q:VK),Inv X pins σ H s->RelV x v->bT xs us->r x xs H Q ->
  wpAny (model X.prog X.w) X.A (call (.builtin id) (v :: us)) (EP X pins σ Q) X.xe s
theorem bT.one:∀ {x:V} {us:List Value},bT [x] us->∃ u,us = [u]/\RelV x u
 | _,_,.cons r .nil=>⟨_,rfl,r⟩
theorem bT.two:∀ {x y:V} {us:List Value},bT [x,y] us->∃ u v,us = [u,v]/\RelV x u/\RelV y v
 | _,_,_,.cons r (.cons q .nil)=>⟨_,_,rfl,r,q⟩
theorem bT.zero:∀ {us:List Value},bT [] us->us = []
 | _,.nil=>rfl
theorem bT.eraseIdx:∀ {xs:List V} {us:List Value} (i:Nat),bT xs us->bT (xs.eraseIdx i) (us.eraseIdx i)
 | _,_,_,.nil=>.nil
 | _,_,0,.cons _ t=>t
 | _,_,i + 1,.cons r t=>.cons r (bT.eraseIdx i t)
theorem bT.rep{xs:List V}{us:List Value}(h:bT xs us):∀ k:Nat,bT (aY k xs).flatten (aY k us).flatten
 | 0=>.nil
 | k + 1=>by
  rw[gP,gP,uC,uC]
  exact bT.append h (bT.rep h k)
theorem JM{α:Type}:∀ (l:List α) (i:Nat),(l.eraseIdx i).length<=l.length
 | [],_=>au _
 | _ :: _,0=>dc _
 | _ :: r,i + 1=>Nat.succ_le_succ (JM r i)
theorem foldl_rep(its:List Value):∀ (k:Nat) (acc:List Value),
 List.foldl (λx1 x2=>x1++x2) acc.toArray (aY k its.toArray)=(acc++(aY k its).flatten).toArray
 | 0,acc=>by simp
 | k + 1,acc=>by
  have e:acc.toArray++its.toArray=(acc++its).toArray:=by simp
  have e2:(acc++its)++(aY k its).flatten=acc++(aY (k + 1) its).flatten:=by
   rw[gP,uC,uD]
  rw[<- e2,<- foldl_rep its k (acc++its),<- e,gP,List.foldl_cons]
section
variable{X:Cx}{pins:List (Addr × Obj)}{σ:St}{H:Hp}{s:Shared}{l b:Addr}{xs ys zs:List V}
theorem Inv.ab5{its its':List Value}{n:Nat}{f:Array Value->Array Value}{t':Nat}(I:Inv X pins σ H s)(hH:H l=some (.lst xs))
 (e:s.heap.get? l=some { cls:=.type "list",data:=.seq its.toArray n }) (hf:f its.toArray=its'.toArray) (hv:bT ys its') (hz:ys.length<=sizeLine) :
 Inv X pins σ (upd H l (.lst ys)) { s with heap:=s.heap.update l (Obj.mapSeq f),toks:=t' }:=by
 have q:=PySem.IsL.update e f
 rw[hf] at q
 refine I.write (x:=l) (e:=l) (by rw[hH]; exact trivial) (.inl rfl) (λb' u hb hu=>(Heap.get?_update_other s.heap (Obj.mapSeq f) (bK hb)).trans hu) ⟨_,q⟩ ?_
 exact⟨hz,its',_,hv,q⟩
theorem Inv.ab6{its:List Value}{t':Nat}(I:Inv X pins σ H s)(hv:bT ys its)(hz:ys.length<=sizeLine) :
 Inv X pins σ (upd H s.heap.objs.size (.lst ys)) { s with heap:=s.heap.push { cls:=.type "list",data:=.seq its.toArray },toks:=t' } :=
 I.laid (λ_ _ q=>Heap.get?_push_of_some _ q) (au _) ⟨hz,its,0,hv,Heap.get?_push_size _ rfl⟩
theorem Inv.fresh(I:Inv X pins σ H s):H s.heap.objs.size=none:=I.hok.fresh (au _)
theorem Inv.Uq(I:Inv X pins σ H s)(hH:H l=some (.lst xs)):xs.length<=sizeLine/\∃ (its:List Value) (n:Nat),bT xs its/\xs.length=its.length/\s.heap.get? l=some { cls:=.type "list",data:=.seq its.toArray n }:=by
 obtain⟨z,its,n,r,e⟩:=I.hok l _ hH
 exact⟨z,its,n,r,r.length,e⟩
theorem Ur{n:Nat}(h:n<=sizeLine):Builtin.List.listTooLong n=false:=by
 unfold Builtin.List.listTooLong
 exact decide_eq_false (by lia)
end
section
variable{X:Cx}
inductive Qo(x:V)(vs:List V)(H:Hp)(Q:VK):Prop
 | mk (l:Addr) (xs:List V) (y:V) (h1:x = .ref l) (h2:vs = [y]) (h3:H l=some (.lst xs)) (h4:xs.length < sizeLine) (h5:Q .eU (upd H l (.lst (xs++[y])))):Qo x vs H Q
theorem eS:MtM X "list.append" Qo:=by
 intro pins s σ H x vs v us Q I rx rv h
 obtain⟨l,xs,y,rfl,rfl,hH,hz,q⟩:=h
 cases rx
 obtain⟨u,rfl,ru⟩:=rv.one
 obtain⟨z,its,n,r,hl,e⟩:=I.Uq hH
 refine call_meets F.slot_list_append ⟨_,e,rfl⟩ F.entry_list_append (F.args_list_append_2 _ _) (PySem.list_append l its.toArray n u (by rw[aJ]; lia)) ⟨e,?_⟩
 refine⟨.eU,_,I.ab5 (its':=its++[u]) hH e (by simp) (r.append (.cons ru .nil)) ?_,rfl,q⟩
 rw[av,List.length_singleton]
 lia
def ZE:V->List V->Hp->VK->Prop:=λx vs H Q=>∃ l xs i k y,x = .ref l/\vs = [.int i]/\H l=some (.lst xs)/\-(2 ^ 63)<=i/\i < 2 ^ 63/\seqIndex? i xs.length=some k/\xs[k]?=some y/\Q y (upd H l (.lst (xs.eraseIdx k)))
theorem Us:MtM X "list.pop" ZE:=by
 intro pins s σ H x vs v us Q I rx rv h
 obtain⟨l,xs,i,k,y,rfl,rfl,hH,h1,h2,hk,hy,q⟩:=h
 cases rx
 obtain⟨u,rfl,ru⟩:=rv.one
 obtain⟨t,rfl⟩:=ru
 obtain⟨z,its,n,r,hl,e⟩:=I.Uq hH
 obtain⟨w,hw,rw'⟩:=r.get hy
 refine call_meets F.slot_list_pop ⟨_,e,rfl⟩ F.entry_list_pop (F.args_list_pop_2 _ _)
  (MeetsSeq.list_pop_at l its.toArray n i t k w (fitsIndex_both h1 h2) (by rw[aJ,<- hl]; exact hk) (by rw[<- fY]; exact hw) (by rw[aJ]; lia)) ⟨e,?_⟩
 refine⟨y,_,I.ab5 (its':=its.eraseIdx k) hH e ?_ (r.eraseIdx k) ?_,rw',q⟩
 ·show its.toArray.eraseIdxIfInBounds k=(its.eraseIdx k).toArray
  rw[List.eraseIdxIfInBounds_toArray]
 ·have:=JM xs k
  lia
def afR:R2:=λx y H Q=>∃ l b xs zs,x = .ref l/\y = .ref b/\H l=some (.lst xs)/\H b=some (.lst zs)/\xs.length + zs.length<=sizeLine/\∀ p,H p=none->Q (.ref p) (upd H p (.lst (xs++zs)))
theorem ZF:vI X (binaryOp .Add) afR:=by
 intro pins s σ H x y v u Q I rx ry h
 obtain⟨l,b,xs,zs,rfl,rfl,hH,hB,hz,q⟩:=h
 cases rx
 cases ry
 obtain⟨z,its,n,r,hl,e⟩:=I.Uq hH
 obtain⟨z2,its2,n2,r2,hl2,e2⟩:=I.Uq hB
 refine PySem.P.add_list e e2 ?_ (by rw[aJ,aJ]; lia)
 have ea:its.toArray++its2.toArray=(its++its2).toArray:=by simp
 rw[ea]
 exact⟨.ref _,_,I.ab6 (t':=s.toks) (r.append r2) (by rw[av]; lia),rfl,q _ I.fresh⟩
def afS:R2:=λx y H Q=>∃ l k xs,x = .ref l/\y = .int k/\H l=some (.lst xs)/\-(2 ^ 63)<=k/\k < 2 ^ 63/\xs.length * k.toNat<=sizeLine /\
 ∀ p,H p=none->Q (.ref p) (upd H p (.lst (aY k.toNat xs).flatten))
theorem len_rep{α:Type}(xs:List α)(k:Nat):(aY k xs).flatten.length=k * xs.length:=by
 induction k with
 | zero=>simp
 | succ k ih=>rw[gP,uC,av,ih,Nat.succ_mul,Nat.add_comm]
theorem ZG:vI X (binaryOp .Mult) afS:=by
 intro pins s σ H x y v u Q I rx ry h
 obtain⟨l,k,xs,rfl,rfl,hH,h1,h2,hz,q⟩:=h
 cases rx
 obtain⟨t,rfl⟩:=ry
 obtain⟨z,its,n,r,hl,e⟩:=I.Uq hH
 have hlen:its.toArray.size * k.toNat<=sizeLine:=by rw[aJ,<- hl]; exact hz
 have hcap:¬ its.toArray.size * k.toNat > (2 ^ 63 - 1) / 8:=by
  have:(sizeLine:Nat)<=(2 ^ 63 - 1) / 8:=by decide
  lia
 have hfit:¬ (!Builtin.List.listFitsIndex k)=true:=by
  rw[fitsIndex_both h1 h2]
  exact aB
 have ab7:¬ Builtin.List.listTooLong (its.toArray.size * k.toNat)=true:=by
  rw[Ur hlen]
  exact aB
 have hnew:List.foldl (λx1 x2=>x1++x2) #[] (aY (if its.toArray.isEmpty=true then 0 else k.toNat) its.toArray)=(aY k.toNat its).flatten.toArray:=by
  have f0:∀ m:Nat,List.foldl (λx1 x2=>x1++x2) #[] (aY m its.toArray)=(aY m its).flatten.toArray:=λm=>by
   have:=foldl_rep its m []
   rw[List.nil_append] at this
   exact this
  rw[f0]
  cases its with
  | nil=>simp
  | cons a r'=>rw[if_neg (by simp)]
 refine wpAny_binaryOp_repeat_ref (T:="list") (U:="int") (by decide) ⟨_,e,rfl⟩ (λs'=>typeIs_int s' k t) noFill_list_mul F.fills_int_mul F.slot_int_rmul repeat_list F.slot_int_index.lookup
  (call_meets F.slot_int_rmul (typeIs_int s k t) F.entry_int_rmul (F.args_int_rmul_2 _ _) (int___rmul___int_list k t l its.toArray n)
   ⟨e,rfl,⟨_,e,rfl⟩,call_meets F.slot_list_mul ⟨_,e,rfl⟩ F.entry_list_mul (F.args_list_mul_2 _ _) (AutoListH.list___mul___list_int_3 l its.toArray n k t hfit hcap ab7) ⟨e,?_⟩⟩)
 rw[hnew]
 exact⟨.ref _,_,I.ab6 (t':=s.toks) (r.rep k.toNat) (by rw[len_rep,Nat.mul_comm]; exact hz),rfl,q _ I.fresh⟩
end
section
variable{κ:Type}[DecidableEq κ]
noncomputable def Cs(kvs:List (κ × V))(k:κ):Option V:=(kvs.find? λkv=>decide (kv.1=k)).map (·.2)
noncomputable def putK(kvs:List (κ × V))(k:κ)(v:V):List (κ × V) :=
 if (kvs.any λkv=>decide (kv.1=k))=true then kvs.map (λkv=>if kv.1=k then (kv.1,v) else kv) else kvs++[(k,v)]
theorem Ct{p:κ × V}{r:List (κ × V)}{k:κ}(e:p.1=k):Cs (p :: r) k=some p.2:=by simp[Cs,rL,e]
theorem Cu{p:κ × V}{r:List (κ × V)}{k:κ}(e:¬ p.1=k):Cs (p :: r) k=Cs r k:=by simp[Cs,rL,e]
theorem Ms(k:κ):∀ kvs:List (κ × V),(kvs.any λkv=>decide (kv.1=k))=(Cs kvs k).isSome
 | []=>rfl
 | p :: r=>by
  rw[nG]
  by_cases e:p.1=k
  ·simp only[Ct e,decide_eq_true e,Bool.true_or,Option.isSome_some]
  ·rw[Cu e,decide_eq_false e,Bool.false_or]; exact Ms k r
theorem EF(kvs:List (κ × V))(k:κ)(v:V):(putK kvs k v).length<=kvs.length + 1:=by
 unfold putK
 split
 ·rw[ah]; lia
 ·rw[av,bE,List.length_nil]; lia
theorem AJ.DE{o:Option V}{u:Option Value}(r:AJ o u):o.isSome=u.isSome:=by
 cases o with
 | none=>cases u with
  | none=>rfl
  | some _=>exact (show False from r).elim
 | some _=>cases u with
  | none=>exact (show False from r).elim
  | some _=>rfl
theorem AJ.getD{o:Option V}{u:Option Value}{d:V}{d':Value}(r:AJ o u)(rd:RelV d d'):RelV (o.getD d) (u.getD d'):=by
 cases o with
 | none=>cases u with
  | none=>exact rd
  | some _=>exact (show False from r).elim
 | some _=>cases u with
  | none=>exact (show False from r).elim
  | some _=>exact r
theorem KV.val{kvs:List (κ × V)}{vs:List (κ × Value)}(r:KV kvs vs)(k:κ):AJ (Cs kvs k) (valueAt vs k):=by
 unfold KV at r
 induction r with
 | nil=>exact kM
 | @cons p q ps qs h t ih =>
  obtain⟨h1,h2⟩:=h
  by_cases e:p.1=k
  ·have e':q.1=k:=h1.symm.trans e
   have b:valueAt (q :: qs) k=some q.2:=by simp[valueAt,rL,e']
   rw[Ct e,b]; exact h2
  ·have e':¬ q.1=k:=λz=>e (h1.trans z)
   have b:valueAt (q :: qs) k=valueAt qs k:=by simp[valueAt,rL,e']
   rw[Cu e,b]; exact ih
theorem KV.any{kvs:List (κ × V)}{vs:List (κ × Value)}(r:KV kvs vs)(k:κ):(kvs.any λkv=>decide (kv.1=k))=vs.any λkv=>decide (kv.1=k):=by
 unfold KV at r
 induction r with
 | nil=>rfl
 | cons h t ih=>rw[nG,nG,ih,h.1]
theorem KV.repl{kvs:List (κ × V)}{vs:List (κ × Value)}(r:KV kvs vs)(k:κ){y:V}{u:Value}(ry:RelV y u) :
 KV (kvs.map λkv=>if kv.1=k then (kv.1,y) else kv) (vs.map λkv=>if kv.1=k then (kv.1,u) else kv):=by
 unfold KV at r ⊢
 induction r with
 | nil=>exact .nil
 | @cons p q ps qs h t ih =>
  rw[ck,ck]
  refine .cons ?_ ih
  obtain⟨h1,h2⟩:=h
  by_cases e:p.1=k
  ·rw[if_pos e,if_pos (h1.symm.trans e)]; exact⟨h1,ry⟩
  ·rw[if_neg e,if_neg (λz=>e (h1.trans z))]; exact⟨h1,h2⟩
theorem KV.put{kvs:List (κ × V)}{vs:List (κ × Value)}(r:KV kvs vs)(k:κ){y:V}{u:Value}(ry:RelV y u):KV (putK kvs k y) (stored vs k u):=by
 unfold putK stored
 rw[r.any k]
 by_cases e:(vs.any λkv=>decide (kv.1=k))=true
 ·rw[if_pos e,if_pos e]; exact r.repl k ry
 ·rw[if_neg e,if_neg e]; exact Paired.snoc r ⟨rfl,ry⟩
theorem KV.length{kvs:List (κ × V)}{vs:List (κ × Value)}(r:KV kvs vs):kvs.length=vs.length:=Paired.length r
end
theorem Qp{P:Program}{w:World}{k:Key}{u:Value}(r:RelV (kV k) u):(gD P w).is k u=true:=by
 cases k with
 | inl i=>obtain⟨t,e⟩:=(show ∃ t,u=Value.int i t from r); subst e; exact Mf P w i t
 | inr x=>obtain⟨t,e⟩:=(show ∃ t,u=Value.str x t from r); subst e; exact Mg P w x t
theorem JN{P:Program}{w:World}:∀ {ks:List Key} {us:List Value},bT (ks.map kV) us->ItemsAre (gD P w) ks us
 | [],_,r=>by rw[List.map_nil] at r; cases r; exact .nil
 | k :: ks,_,r=>by
  rw[ck] at r
  cases r with
  | cons h t=>exact .cons (Qp h) (JN t)
abbrev KT(H:Hp):List (List Key × V)->List (List Key × Addr × Value)->Prop:=Paired λp q=>p.1=q.1/\H q.2.1=some (.tup (p.1.map kV))/\RelV p.2 q.2.2
theorem KT.val{H:Hp}{kvs:List (List Key × V)}{xs:List (List Key × Addr × Value)}(r:KT H kvs xs)(k:List Key):AJ (Cs kvs k) ((atKey xs k).map (·.2)):=by
 induction r with
 | nil=>exact kM
 | @cons p q ps qs h t ih =>
  obtain⟨h1,_,h2⟩:=h
  by_cases e:p.1=k
  ·have e':q.1=k:=h1.symm.trans e
   have b:atKey (q :: qs) k=some q.2:=by simp[atKey,rL,e']
   rw[Ct e,b]; exact h2
  ·have e':¬ q.1=k:=λz=>e (h1.trans z)
   have b:atKey (q :: qs) k=atKey qs k:=by simp[atKey,rL,e']
   rw[Cu e,b]; exact ih
theorem KT.repl{H:Hp}{kvs:List (List Key × V)}{xs:List (List Key × Addr × Value)}(r:KT H kvs xs)(k:List Key){y:V}{u:Value}(ry:RelV y u) :
 KT H (kvs.map λkv=>if kv.1=k then (kv.1,y) else kv) (xs.map (putAt k u)):=by
 induction r with
 | nil=>exact .nil
 | @cons p q ps qs h t ih =>
  rw[ck,ck]
  refine .cons ?_ ih
  obtain⟨h1,h2,h3⟩:=h
  unfold putAt
  by_cases e:p.1=k
  ·rw[if_pos e,if_pos (h1.symm.trans e)]; exact⟨h1,h2,ry⟩
  ·rw[if_neg e,if_neg (λz=>e (h1.trans z))]; exact⟨h1,h2,h3⟩
theorem KT.put{H:Hp}{kvs:List (List Key × V)}{xs:List (List Key × Addr × Value)}(r:KT H kvs xs)(k:List Key){b:Addr}{y:V}{u:Value}(hb:H b=some (.tup (k.map kV)))(ry:RelV y u) :
 KT H (putK kvs k y) (storedH xs k b u):=by
 have e:(kvs.any λkv=>decide (kv.1=k))=(atKey xs k).isSome:=by
  rw[Ms,(r.val k).DE,Option.isSome_map]
 unfold putK storedH
 rw[e]
 by_cases q:(atKey xs k).isSome=true
 ·rw[if_pos q,if_pos q]; exact r.repl k ry
 ·rw[if_neg q,if_neg q]; exact Paired.snoc r ⟨rfl,hb,ry⟩
theorem KT.keeps{H H':Hp}{kvs:List (List Key × V)}{xs:List (List Key × Addr × Value)}(r:KT H kvs xs)(ht:∀ b ys,H b=some (.tup ys)->H' b=some (.tup ys)):KT H' kvs xs :=
 Paired.Wm r λ_ _ z=>⟨z.1,ht _ _ z.2.1,z.2.2⟩
section
variable{P:Program}{w:World}{H:Hp}{h:Heap}{a:Addr}
theorem Yk{u:HO}(ok:yK P w H h)(e:Rd H a u):fh P w H h a u:=e.ok ok
theorem Qq{kvs:List (Key × V)}(ok:yK P w H h)(e:Rd H a (.dK kvs)):kvs.length<=sizeLine/\(a == sysModules)=false/\∃ vs,KV kvs vs/\h.DictOf (gD P w) a vs :=
 show fh P w H h a (.dK kvs) from Yk ok e
theorem ab8{kvs:List (Key × V)}(ok:yK P w H h)(e:H a=some (.dK kvs)):kvs.length<=sizeLine/\(a == sysModules)=false/\∃ vs,KV kvs vs/\h.DictOf (gD P w) a vs:=Qq ok (.inl e)
theorem La{ks:List Key}(ok:yK P w H h)(e:H a=some (.tup (ks.map kV))):(tupleKind (gD P w)).is h ks a:=by
 obtain⟨_,its,r,o,h1,h2,n,h3⟩:=(show fh P w H h a (.tup (ks.map kV)) from ok a _ e)
 exact⟨o,its.toArray,n,h1,h2,h3,by simpa using JN r⟩
theorem Qs{kvs:List (List Key × V)}(ok:yK P w H h)(e:Rd H a (.dT kvs)):kvs.length<=sizeLine/\(a == sysModules)=false /\
 ∃ xs,KT H kvs xs/\h.DictOfH (tupleKind (gD P w)) a xs:=by
 obtain⟨z,y,xs,r,o,es,ep,h1,h2,h3,h4,h5⟩:=(show fh P w H h a (.dT kvs) from Yk ok e)
 refine⟨z,y,xs,r,o,es,ep,h1,h2,h3,h4,λx hx=>?_,h5⟩
 have all:∀ {l:List (List Key × V)} {m:List (List Key × Addr × Value)},KT H l m->∀ x∈m,(tupleKind (gD P w)).is h x.1 x.2.1:=by
  intro l m q
  induction q with
  | nil=>intro x hx; exact nomatch hx
  | @cons p q ps qs hq t ih =>
   intro x hx
   rcases bA.mp hx with e | hx
   ·subst e
    exact La ok (by rw[<- hq.1]; exact hq.2.1)
   ·exact ih x hx
 exact all r x hx
theorem ab9{kvs:List (List Key × V)}(ok:yK P w H h)(e:H a=some (.dT kvs)):kvs.length<=sizeLine/\(a == sysModules)=false /\
 ∃ xs,KT H kvs xs/\h.DictOfH (tupleKind (gD P w)) a xs:=Qs ok (.inl e)
end
def IS(H:Hp)(a:Addr)(y:V)(r:Option V):Prop :=
 (∃ kvs k,Rd H a (.dK kvs)/\y=kV k/\r=Cs kvs k)∨∃ kvs k b,Rd H a (.dT kvs)/\y = .ref b/\H b=some (.tup (k.map kV))/\r=Cs kvs k
def Mt(H:Hp)(a:Addr)(y v:V)(H':Hp):Prop :=
 (∃ kvs k,H a=some (.dK kvs)/\y=kV k/\kvs.length < sizeLine/\H'=upd H a (.dK (putK kvs k v))) ∨
 ∃ kvs k b,H a=some (.dT kvs)/\y = .ref b/\H b=some (.tup (k.map kV))/\kvs.length < sizeLine/\H'=upd H a (.dT (putK kvs k v))
theorem IS.k{H:Hp}{a:Addr}{kvs:List (Key × V)}{k:Key}(e:H a=some (.dK kvs)):IS H a (kV k) (Cs kvs k):=.inl ⟨kvs,k,.inl e,rfl,rfl⟩
theorem IS.t{H:Hp}{a b:Addr}{kvs:List (List Key × V)}{k:List Key}(e:H a=some (.dT kvs))(eb:H b=some (.tup (k.map kV))):IS H a (.ref b) (Cs kvs k):=.inr ⟨kvs,k,b,.inl e,rfl,eb,rfl⟩
theorem Mt.k{H:Hp}{a:Addr}{kvs:List (Key × V)}{k:Key}{v:V}(e:H a=some (.dK kvs))(hl:kvs.length < sizeLine):Mt H a (kV k) v (upd H a (.dK (putK kvs k v))):=.inl ⟨kvs,k,e,rfl,hl,rfl⟩
theorem Mt.t{H:Hp}{a b:Addr}{kvs:List (List Key × V)}{k:List Key}{v:V}(e:H a=some (.dT kvs))(eb:H b=some (.tup (k.map kV)))(hl:kvs.length < sizeLine) :
 Mt H a (.ref b) v (upd H a (.dT (putK kvs k v))):=.inr ⟨kvs,k,b,e,rfl,eb,hl,rfl⟩
section
variable{X:Cx}{pins:List (Addr × Obj)}{σ:St}{H:Hp}{s:Shared}{a:Addr}{y v:V}{u r:Value}{o:Option V}{A:Around}{E:Value->Shared->Prop}
theorem Inv.big(I:Inv X pins σ H s):sysModules < s.heap.objs.size:=by
 have h:mainGlobals < s.heap.objs.size:=(I.mod.glob.keeps I.bk).lt
 exact Nat.lt_trans (by decide) h
theorem afT{Q:Value->Shared->Prop}(hu:A.units + 1 < cLine)(I:Inv X pins σ H s)(g:IS H a y o)(ry:RelV y u)(h:∀ s',Inv X pins σ H s'->Q (.bool o.isSome) s') :
 wpAny (model X.prog X.w) A (compareOp .In u (.ref a)) Q E s:=by
 rcases g with ⟨kvs,k,e,ey,l⟩ | ⟨kvs,k,b,e,ey,eb,l⟩
 ·subst ey
  obtain⟨z,hd,vs,rel,dd⟩:=Qq I.hok e
  refine wpAny_in_of (Qp ry) hd dd.mapOf ?_
  rw[<- (rel.val k).DE,<- l]
  exact h _ (I.tok _)
 ·subst ey
  cases (show u=Value.ref b from ry)
  obtain⟨z,hd,xs,rel,dd⟩:=Qs I.hok e
  refine wpAny_in_heap (tupleKind_room_in1 hu) (La I.hok eb) hd dd ?_
  have q:=(rel.val k).DE
  rw[Option.isSome_map] at q
  rw[<- q,<- l]
  exact h _ (I.tok _)
theorem Qt{h':Heap}{t':Nat}{ob:HO}(I:Inv X pins σ H s)(mu:Mh (H a))(hs:Heap.SameBut a s.heap h')(he:∃ q,h'.get? a=some q)(new:fh X.prog X.w (upd H a ob) h' a ob) :
 Inv X pins σ (upd H a ob) { s with heap:=h',toks:=t' } :=
 I.write (x:=a) (e:=a) mu (.inl rfl) (λb q hb z=>(hs.2 b hb).trans z) he new
theorem ZH{P:Program}{w:World}{H':Hp}{h':Heap}{kvs:List (Key × V)}{vs:List (Key × Value)}(z:kvs.length<=sizeLine)(hd:(a == sysModules)=false)(rel:KV kvs vs)(dd:h'.DictOf (gD P w) a vs) :
 fh P w H' h' a (.dK kvs):=⟨z,hd,vs,rel,dd⟩
theorem RP{H':Hp}{Q:Unit->Shared->Prop}(hu:A.units + 1 < cLine)(I:Inv X pins σ H s)(g:Mt H a y v H')(ry:RelV y u)(rv:RelV v r)(h:∀ s',Inv X pins σ H' s'->Q () s') :
 wpAny (model X.prog X.w) A (setItem (.ref a) u r) Q E s:=by
 rcases g with ⟨kvs,k,e,ey,l,eH⟩ | ⟨kvs,k,b,e,ey,eb,l,eH⟩
 ·subst ey eH
  obtain⟨z,hd,vs,rel,dd⟩:=ab8 I.hok e
  have hz:vs.length<=sizeLine:=by rw[<- rel.length]; exact z
  have hl:(putK kvs k v).length<=sizeLine:=by have:=EF kvs k v; lia
  refine wpAny_setItem_pairs (hsz:=hz) (Qp ry) dd λh' dd' hs=>h _ ?_
  have he:∃ q,h'.get? a=some q:=let ⟨q,_,_,hq,_⟩:=dd'; ⟨q,hq⟩
  exact Qt I (by rw[e]; exact kM) hs he (ZH hl hd (rel.put k rv) dd')
 ·subst ey eH
  cases (show u=Value.ref b from ry)
  obtain⟨z,hd,xs,rel,dd⟩:=ab9 I.hok e
  have hz:xs.length<=sizeLine:=by rw[<- Paired.length rel]; exact z
  have hl:(putK kvs k v).length<=sizeLine:=by have:=EF kvs k v; lia
  refine wpAny_setItem_heap (hsz:=hz) (tupleKind_room_in1 hu) (La I.hok eb) dd λh' dd' hs=>h _ ?_
  obtain⟨q,es,ep,hq,h2,h3,h4,_,h5⟩:=dd'
  refine Qt I (by rw[e]; exact kM) hs ⟨q,hq⟩ ⟨hl,hd,_,(rel.put k eb rv).keeps λc ys ec=>?_,q,es,ep,hq,h2,h3,h4,h5⟩
  rw[aD (lZ ec e (λz=>nomatch z))]
  exact ec
end
def afU(ty td:TE):TE:=λσ H Q=>ty σ H λy H1=>td σ H1 λx H2=>∃ a o,x = .ref a/\IS H2 a y o/\Q (.bl o.isSome) H2
def ace(td ty tv:TE):TS:=λD σ H=>tv σ H λv H1=>td σ H1 λx H2=>ty σ H2 λy H3=>∃ a H4,x = .ref a/\Mt H3 a y v H4/\D.nx σ H4
section
variable{X:Cx}{o i e value:Expr}{pos pos' tpos:Pos}{td ty tv:TE}
theorem ZI(hu:X.A.units + 1 < cLine)(hi:PE X i ty)(ho:PE X o td):PC X .In i o (afU ty td):=by
 intro pins s σ H Q I h
 refine gv (hi pins s σ H _ I h) λiv s1 ⟨y,H1,I1,ry,q1⟩=>gv (ho pins s1 σ H1 _ I1 q1) λu s2 ⟨x,H2,I2,rx,a,ov,ex,g,q2⟩=>?_
 subst ex
 obtain rfl:u=Value.ref a:=rx
 exact afT hu I2 g ry λs3 I3=>⟨.bl ov.isSome,H2,I3,rfl,q2⟩
theorem Qu(hu:X.A.units + 1 < cLine)(ho:PE X o td)(hi:PE X i ty)(hv:PE X value tv)(hs:swapsWith value (some (.Subscript o i pos')) pos.line X.env=pure false) :
 PS X (.Assign [.Subscript o i pos'] value pos) (ace td ty tv):=by
 intro pins s σ H D I h
 refine wpAny_Assign_Subscript (gv (hv pins s σ H _ I h) λr s1 ⟨v,H1,I1,rv,q1⟩=>gv (ho pins s1 σ H1 _ I1 q1) λu s2 ⟨x,H2,I2,rx,q2⟩=>gv (hi pins s2 σ H2 _ I2 q2) λiv s3 ⟨y,H3,I3,ry,a,H4,ex,g,q3⟩=>?_) hs
 subst ex
 obtain rfl:u=Value.ref a:=rx
 exact RP hu I3 g ry rv λs4 I4=>⟨σ,H4,I4,q3⟩
end
theorem Ut{P:Program}{w:World}{H:Hp}(h:Heap)(hb:sysModules < h.objs.size):fh P w H (h.push { cls:=.type "dict",data:=.dict #[] }) h.objs.size (.dK []) :=
 ⟨br _,beq_eq_false_iff_ne.mpr (bK (bw hb)),[],.nil,Heap.DictOf.new h⟩
theorem Uu{P:Program}{w:World}{H:Hp}(h:Heap)(hb:sysModules < h.objs.size):fh P w H (h.push { cls:=.type "dict",data:=.dict #[] }) h.objs.size (.dT []) :=
 ⟨br _,beq_eq_false_iff_ne.mpr (bK (bw hb)),[],.nil,_,#[],0,Heap.get?_push_size _ rfl,⟨rfl,rfl,rfl⟩,rfl,rfl,oW⟩
def ZJ:TE:=λ_ H Q=>∀ p,H p=none->Q (.ref p) (upd H p (.dK []))
def ZK:TE:=λ_ H Q=>∀ p,H p=none->Q (.ref p) (upd H p (.dT []))
section
variable{X:Cx}{pos:Pos}
theorem Uv:PE X (.Dict [] [] pos) ZJ:=λpins s σ H Q I h =>
 wpAny_Dict_empty ⟨.ref s.heap.objs.size,_,I.laid (a:=s.heap.objs.size) (o:=.dK []) (t':=s.toks) (λ_ _ q=>Heap.get?_push_of_some _ q) (au _) (Ut s.heap I.big),rfl,h _ (I.hok.fresh (au _))⟩
theorem Mu:PE X (.Dict [] [] pos) ZK:=λpins s σ H Q I h =>
 wpAny_Dict_empty ⟨.ref s.heap.objs.size,_,I.laid (a:=s.heap.objs.size) (o:=.dT []) (t':=s.toks) (λ_ _ q=>Heap.get?_push_of_some _ q) (au _) (Uu s.heap I.big),rfl,h _ (I.hok.fresh (au _))⟩
end
structure M1(X:Cx)(o:Expr)(m:Str)(apos:Pos)(e:Expr)(cpos:Pos):Prop where
 base:attributeBase o m X.env (eval o X.env)=eval o X.env
 few:((backTo cpos (starEach [e] X.env)).all (λx=>!x.1) && (backToKw cpos (keywordEach [] X.env)).all (λx=>x.1.isSome)
  && decide (([e]:List Expr).length + ([]:List Keyword).length + (if ([]:List Keyword).isEmpty then 0 else 1) < 30))=true
 line:(apos.endLine == cpos.line)=true
 trees:backTo cpos (starEach [e] X.env) = [(false,eval e X.env)]
def IsD(H:Hp)(a:Addr):Prop:=(∃ kvs,Rd H a (.dK kvs))∨∃ kvs,Rd H a (.dT kvs)
theorem ZL{X:Cx}{pins:List (Addr × Obj)}{σ:St}{H:Hp}{s:Shared}{a:Addr}(I:Inv X pins σ H s)(d:IsD H a) :
 s.TypeIs (.ref a) "dict" /\ (∀ b,Value.ref a = .ref b->∃ ob,s.heap.get? b=some ob/\ob.dict=none)/\(a == sysModules)=false:=by
 rcases d with ⟨kvs,e⟩ | ⟨kvs,e⟩
 ·obtain⟨_,hd,vs,_,dd⟩:=Qq I.hok e
  refine⟨dd.typeIs,λb q=>?_,hd⟩
  cases q
  obtain⟨ob,_,_,h1,h2,_⟩:=dd
  exact⟨ob,h1,h2.2.1⟩
 ·obtain⟨_,hd,xs,_,dd⟩:=Qs I.hok e
  refine⟨dd.typeIs,λb q=>?_,hd⟩
  cases q
  obtain⟨ob,_,_,h1,h2,_⟩:=dd
  exact⟨ob,h1,h2.2.1⟩
section
variable{X:Cx}{pins:List (Addr × Obj)}{σ:St}{H:Hp}{s:Shared}{a:Addr}{y d:V}{u r:Value}{o:Option V}{A:Around}{E:Value->Shared->Prop}
theorem ZM{Q:Value->Shared->Prop}(hu:A.units + 1 < cLine)(I:Inv X pins σ H s)(g:IS H a y o)(ry:RelV y u)(h:∀ w' s',Inv X pins σ H s'->RelV (o.getD .eU) w'->Q w' s') :
 wpAny (model X.prog X.w) A (call (.builtin "dict.get") [.ref a,u]) Q E s:=by
 rcases g with ⟨kvs,k,e,ey,l⟩ | ⟨kvs,k,b,e,ey,eb,l⟩
 ·subst ey
  obtain⟨z,hd,vs,rel,dd⟩:=Qq I.hok e
  refine call_meetsIn PySem.F.slot_dict_get dd.typeIs PySem.F.entry_dict_get (PySem.F.args_dict_get_2 _ _) (meets_dict_get (gD X.prog X.w) a (Qp ry) hd) ⟨_,dd.mapOf,h _ _ (I.tok _) ?_⟩
  rw[l]
  exact (rel.val k).getD rfl
 ·subst ey
  cases (show u=Value.ref b from ry)
  obtain⟨z,hd,xs,rel,dd⟩:=Qs I.hok e
  refine call_meetsIn PySem.F.slot_dict_get dd.typeIs PySem.F.entry_dict_get (PySem.F.args_dict_get_2 _ _) (meetsH_dict_get (tupleKind (gD X.prog X.w)) a b hd) ⟨tupleKind_room_in1 hu,k,xs,La I.hok eb,dd,h _ _ (I.tok _) ?_⟩
  rw[l]
  exact (rel.val k).getD rfl
end
def ZN(td ty:TE):TE:=λσ H Q=>td σ H λx H1=>∃ a,x = .ref a/\IsD H1 a/\ty σ H1 λy H2=>∃ o,IS H2 a y o/\Q (o.getD .eU) H2
section
variable{X:Cx}{o e f:Expr}{apos cpos:Pos}{td ty tx:TE}
theorem Uw(hu:X.A.units + 1 < cLine)(ho:PE X o td)(he:PE X e ty)(m:M1 X o "get" apos e cpos):PE X (.Call (.Attribute o "get" apos) [e] [] cpos) (ZN td ty):=by
 intro pins s σ H Q I h
 refine wpAny_Call_method m.base m.few m.line PySem.F.plainAttrs_dict PySem.F.slot_dict_get PySem.F.type_dict_get (gv (ho pins s σ H _ I h) λu s1 ⟨x,H1,I1,rx,a,ex,d,q1⟩=>?_)
 subst ex
 obtain rfl:u=Value.ref a:=rx
 obtain⟨t1,t2,_⟩:=ZL I1 d
 refine⟨t1,t2,?_⟩
 rw[m.trees]
 refine Calls.callWith_builtin rfl (Calls.evalArgs_plain (Calls.spliced_cons (gv (he pins s1 σ H1 _ I1 q1) λiv s2 ⟨y,H2,I2,ry,ov,g,q2⟩=>Calls.spliced_nil ?_)))
 exact ZM hu I2 g ry λw' s3 I3 rw'=>⟨_,H2,I3,rw',q2⟩
end
end L2
namespace Att
open PySem PySem.W PySem.Calls PyProof.Rows
theorem Fg{P:Params}{h:Heap}:∀ (ns:List Int) (vs:List Value),WellAll P h vs (ns.map WData.int)->IntsAre vs ns:=by
 intro ns
 induction ns with
 | nil =>
  intro vs w
  rw[List.map_nil] at w
  cases w
  exact .nil
 | cons n ns ih =>
  intro vs w
  rw[ck] at w
  cases w with
  | cons a b =>
   cases a
   exact .cons _ _ (ih _ b)
theorem RQ{l:OpenLaw}{n:Nat}(hn:l.most=some n){P:Params}{h:Heap}{args:List WData}{vals:List Value}
 (hpre:l.row.toRowW.claim.pre args=true) (hwl:WellAll P h vals args) :
 ∃ a vs ns,vals = [Value.ref a]/\args = [WData.list (ns.map WData.int)]/\h.get? a=some { cls:=.type "list",data:=.seq vs.toArray }/\IntsAre vs ns/\ns.length<=n:=by
 have hsh:WShape.hasAll [] args [.list .int]=true:=(pre_splitW hpre).1
 have hc:l.pre.holds [] { args:=args }=true:=(pre_splitW hpre).2
 obtain⟨d,r,rfl,h1,h2⟩:=hasAllW_cons hsh
 obtain rfl:=hasAllW_nil h2
 obtain⟨xs,rfl,h3⟩:=hasW_list h1
 obtain⟨ns,rfl⟩:=items_int h3
 have hlen:ns.length<=n:=by
  unfold OpenLaw.pre at hc
  have h4:(WTm.not (.lt (.lit (.int (n:Int))) (.len (.arg 0)))).holds [] { args:=[.list (ns.map .int)] }=true:=by
   have h4:=(holds_andW hc).1
   rw[hn] at h4
   exact h4
  have h5:=condW_of h4 (w_not (w_lt w_lit (w_len_list (w_arg rfl))))
  rw[ah] at h5
  refine Nat.le_of_not_lt λq=>?_
  have q':(n:Int) < ((ns.length:Nat):Int):=by lia
  first
   | (rw[decide_eq_true q'] at h5; exact absurd h5 (by decide))
   | (simp at h5; lia)
 cases hwl with
 | cons w1 w2 =>
  cases w2
  cases w1 with
  | list ho hall=>exact⟨_,_,ns,rfl,rfl,ho,Fg ns _ hall,hlen⟩
theorem RS(l:OpenLaw)(args:List WData):l.row.toRowW.claim.post args (.bool true) args=true :=
 postW_of (r:=l.row.toRowW) (X:=(true == true))
  (show WShape.has [] (.bool true) .bool=true by first | rfl | decide | simp[WShape.has,WShape.arms,WShape.armsAll])
  (show (WTm.eq .res (.lit (.bool true))).value [] { args:=args,res:=some (.bool true),after:=args }=some (.bool (true == true)) from w_eq_bool (w_res rfl) w_lit) rfl
theorem Mv{l:OpenLaw}{n:Nat}{q:Program}{loose:List Str}{XP:(Str->Option Value)->Heap->Prop}{YP:World->Heap->Prop}{d:DefRec}
 (hn:l.most=some n) (hdf:d.params.defaults = [])
 (call:∀ (w:World) (s₀ s₁:Shared) (mg mb:Str->Option Value) (fa:Addr) (o:Obj) (pm cd doc:Value) (a:Addr) (vs:List Value) (ns:List Int),
  Ground q loose [] XP w s₀ mg mb s₁.heap->YP w s₁.heap ->
  s₁.heap.get? fa=some o->o.data = .func (docDef d.name d.params d.body d.scope pm cd doc)->s₁.heap.CodeRec cd d.name->mg d.name=some (.ref fa) ->
  s₁.heap.get? a=some { cls:=.type "list",data:=.seq vs.toArray }->IntsAre vs ns->ns.length<=n->s₁.gens = #[] ->
  codeAny (model l.prog w) callerA (.call (.ref fa) ⟨[.ref a],[]⟩) (λr s'=>r = .ok (.ret (.bool true))/\OldK s₁.heap s'.heap/\s'.os=s₁.os/\AllBare s'.gens) s₁) :
 WalkO q loose XP YP l.row.toRowW d [] (λf vs=>PySem.call f vs):=by
 intro w s₀ s₁ mg mb G Y fa o pm cd doc dV kV ho hd hcd hD hmg hg args vals as hpre hlay hrd hwl hlo
 obtain rfl:dV = .none:=Dflts.none hD hdf
 obtain rfl:kV = .none:=Dflts.noKw hD
 obtain⟨a,vs,ns,rfl,rfl,hobj,hints,hlen⟩:=RQ hn hpre hwl
 refine enter_call (codeAny_mono (call w s₀ s₁ mg mb fa o pm cd doc a vs ns G Y ho (fd_plain hd) hcd hmg hobj hints hlen hg) λr s' hq=>?_)
 obtain⟨rfl,h2,h3,h4⟩:=hq
 exact⟨.inl ⟨.bool true,.bool true,[],rfl,λ_=>rfl,.bool true,RS l _,λ_=>⟨List.Pairwise.nil,λ_ hm=>(nomatch hm)⟩⟩,h2,h3,h4⟩
end Att
namespace L2
open PySem PySem.Spec PyProof.Rows
theorem JO:∀ {vs:List Value} {ns:List Int},IntsAre vs ns->bT (ns.map V.int) vs
 | _,_,.nil=>.nil
 | _,_,.cons n t h=>.cons ⟨t,rfl⟩ (JO h)
def ZO(H:Hp):Prop:=∀ b,H b=none∨∃ o xs,H b=some (.Am o (.lst xs))
theorem Ux{P:Program}{w:World}{K:af}{mg mb:Str->Option Value}{CX:RJ}{k:Nat}{fa a:Addr}{fd:FuncData}{x:Str}{sp:Sp}{s₁:Shared}{vs:List Value}{ns:List Int}
 (KX:K.In s₁.heap) (hns:s₁.heap.Ns mainGlobals mg) (hb:s₁.heap.Ns builtinsNs mb) (hbb:∀ x:Str,x≠"__name__" -> mb x=bootBuiltins x) (hlim:s₁.heap.NoLimit) (hg:s₁.gens = #[])
 (ha:s₁.heap.get? a=some { cls:=.type "list",data:=.seq vs.toArray }) (hi:IntsAre vs ns) (hl:ns.length<=sizeLine) (hr:jz k callerA)
 (F:∀ base:Heap,K.In base->base.Ns mainGlobals mg->bV P w K mg base CX k fa fd [x] sp) (hbind:∀ (s:Shared) (u:Value),BindsTo s fd ⟨[u],[]⟩ [(x,u)])
 (Tf:∀ H:Hp,ZO H->bJ K H a (ns.map V.int)->sp [.ref a] H (λv _=>v = .bl true) λ_ _ _=>False)
 (hCX:∀ H e s',CX [] H s₁ (λ_ _ _=>False) e s'->False) :
 codeAny (model P w) callerA (.call (.ref fa) ⟨[.ref a],[]⟩) (λr s'=>r = .ok (.ret (.bool true))/\OldK s₁.heap s'.heap/\s'.os=s₁.os/\AllBare s'.gens) s₁:=by
 have rv:=JO hi
 have afW:=hi.length
 have core:∀ H:Hp,ZO H->bJ K H a (ns.map V.int)->yK P w H s₁.heap->(∀ b,H b≠none->b=a)->(H a≠none->K.lookup a=none) ->
  codeAny (model P w) callerA (.call (.ref fa) ⟨[.ref a],[]⟩) (λr s'=>r = .ok (.ret (.bool true))/\OldK s₁.heap s'.heap/\s'.os=s₁.os/\AllBare s'.gens) s₁:=by
  intro H hO hS hok hA hK
  have Qv:∀ {b:Addr} {o:Obj},s₁.heap.get? b=some o->H b=none->(KR s₁.heap H).get? b=some o:=λe n=>Tu e n
  have noA:∀ {b:Addr} {o:Obj} {es:Array DictEntry} {ep:Nat},s₁.heap.get? b=some o->o.data = .dict es ep->H b=none:=λ{b o es ep} e d=>by
   cases q:H b with
   | none=>rfl
   | some u =>
    have e':b=a:=hA b (by rw[q]; simp)
    subst e'
    rw[ha] at e; cases e
    have d':Data.seq vs.toArray _=Data.dict es ep:=d
    cases d'
  have nsK:∀ {b:Addr} {m:Str->Option Value},s₁.heap.Ns b m->(KR s₁.heap H).Ns b m:=λ{b m} ⟨o,es,ep,e,d,r⟩=>⟨o,es,ep,Qv e (noA e d),d,r⟩
  have hKb:K.In (KR s₁.heap H):=λb o e=>Qv (KX b o e) (by
   cases q:H b with
   | none=>rfl
   | some u =>
    have e':b=a:=hA b (by rw[q]; simp)
    subst e'
    rw[hK (by rw[q]; simp)] at e; cases e)
  have hM:Mod K mg (KR s₁.heap H):=⟨hKb,nsK hns,⟨mb,nsK hb,hbb⟩,let ⟨mc,h1,h2⟩:=hlim; ⟨mc,nsK h1,h2⟩⟩
  have e0:OJ P w K mg (KR s₁.heap H) callerA [] s₁ H:=⟨rfl,hM,λb o e=>Wn e,Nat.le_of_eq (RB _ _),trivial,λb hb=>absurd (show b∈([]:List Addr) from hb) (by simp),hok,.of_eq hg⟩
  refine codeAny_mono ((F _ hKb (nsK hns)).run callerA [] s₁ H ⟨[.ref a],[]⟩ [.ref a] [.ref a] _ _ hr e0 (hbind s₁ (.ref a)) (.cons rfl .nil) (Tf H hO hS)) λr s' h=>?_
  cases r with
  | error e=>exact (hCX H e s' h).elim
  | ok fl =>
   cases fl with
   | next=>exact jw h
   | brk=>exact jw h
   | cont=>exact jw h
   | ret u =>
    obtain⟨v,H',os,bare,un,afX,r',q⟩:=h
    have q':v = .bl true:=q
    subst q'
    obtain rfl:u=Value.bool true:=r'
    refine⟨rfl,OldK.of_keep λb o e=>?_,os,bare⟩
    cases q:H b with
    | none=>exact un.keep b o e q (by intro z; exact absurd (show b∈([]:List Addr) from z) (by simp)) (by simp)
    | some u =>
     rcases hO b with z | ⟨ob,xs,z⟩
     ·rw[q] at z; cases z
     ·have z2:=un.AK b ob _ z
      obtain⟨e1,_⟩:=hok b _ z
      obtain⟨e2,_⟩:=afX b _ z2
      rw[e] at e1; cases e1
      exact e2
 cases hk:K.lookup a with
 | some o =>
  have e:=KX a o hk
  rw[ha] at e
  cases e
  refine core (λ_=>none) (λ_=>.inl rfl) (.inr ⟨_,vs.toArray,_,hk,rfl,rfl,rfl,by rw[aJ,afW]; exact hl,by simpa using rv⟩) (λb u z=>by have z':(none:Option HO)=some u:=z; cases z') (λb z=>absurd rfl z) λz=>absurd rfl z
 | none =>
  refine core (λb=>if b=a then some (.Am { cls:=.type "list",data:=.seq vs.toArray } (.lst (ns.map V.int))) else none) (λb=>?_) (.inl (.inr ⟨{ cls:=.type "list",data:=.seq vs.toArray },if_pos rfl⟩)) (λb u z=>?_) (λb z=>?_) λ_=>hk
  ·by_cases hb:b=a
   ·exact .inr ⟨_,_,if_pos hb⟩
   ·exact .inl (if_neg hb)
  ·by_cases hb:b=a
   ·have z':=(if_pos hb).symm.trans z
    cases z'
    subst hb
    exact⟨ha,by rw[ah]; exact hl,vs,_,rv,ha⟩
   ·have z':=(if_neg hb).symm.trans z
    cases z'
  ·by_cases hb:b=a
   ·exact hb
   ·exact absurd (if_neg hb) z
theorem WA{l:PySem.W.OpenLaw}{n k:Nat}{q:Program}{loose:List Str}{XP:(Str->Option Value)->Heap->Prop}{YP:World->Heap->Prop}{d:DefRec}{K:Params->af}{CX:World->RJ}{sp:World->Sp}{x:Str}
 (hn:l.most=some n) (hn2:n<=sizeLine) (hdf:d.params.defaults = []) (hr:jz k callerA)
 (hY:∀ (w:World) (h:Heap),YP w h->(K w.params).In h)
 (F:∀ (w:World) (mg:Str->Option Value) (fa:Addr) (h:Heap),(K w.params).In h->h.Ns mainGlobals mg->mg d.name=some (.ref fa) ->
  ∃ fd:FuncData,(∀ (s:Shared) (u:Value),BindsTo s fd ⟨[u],[]⟩ [(x,u)]) /\
   ∀ base:Heap,(K w.params).In base->base.Ns mainGlobals mg->bV l.prog w (K w.params) mg base (CX w) k fa fd [x] (sp w))
 (Tf:∀ (w:World) (H:Hp) (a:Addr) (ns:List Int),ns.length<=n->ZO H->bJ (K w.params) H a (ns.map V.int)->sp w [.ref a] H (λv _=>v = .bl true) λ_ _ _=>False)
 (hCX:∀ (w:World) (H:Hp) (s:Shared) (e:Value) (s':Shared),CX w [] H s (λ_ _ _=>False) e s'->False) :
 PySem.W.WalkO q loose XP YP l.row.toRowW d [] (λf vs=>PySem.call f vs):=by
 refine Att.Mv hn hdf λw s₀ s₁ mg mb fa o pm cd doc a vs ns G Y ho hd hcd hmg hobj hints hlen hg=>?_
 have KX:=hY w _ Y
 obtain⟨fd,hb,hF⟩:=F w mg fa _ KX G.T.g hmg
 exact Ux KX G.T.g G.T.b G.T.builtins G.T.nolimit hg hobj hints (aH hlen hn2) hr hF hb (λH hO hS=>Tf w H a ns hlen hO hS) λH e s'=>hCX w H s₁ e s'
noncomputable def inClass(s:Stmt)(j:Nat):Stmt:=match s with
 | .ClassDef _ _ _ body _ _ _ _ _ _ _=>body.getD j (.Pass ⟨0,0,0,0⟩)
 | _=>.Pass ⟨0,0,0,0⟩
noncomputable def jg(s:Stmt):Arguments:=match s with
 | .FunctionDef _ a _ _ _ _ _ _ _ _=>a
 | _=>{ posonlyargs:=[],args:=[],vararg:=none,kwonlyargs:=[],kw_defaults:=[],kwarg:=none,defaults:=[] }
noncomputable def fC(s:Stmt):List Stmt:=match s with
 | .FunctionDef _ _ b _ _ _ _ _ _ _=>b
 | _=>[]
noncomputable def ay(s:Stmt):Scope:=match s with
 | .FunctionDef _ _ _ _ _ _ sc _ _ _=>sc
 | _=>{ kind:=.function,names:=[],isGenerator:=false,isCoroutine:=false }
abbrev gO:RJ:=λ_ _ _ _ _ _=>False
abbrev E0:XK:=λ_ _ _=>False
theorem mj{X:Cx}:rQ gO X E0:=λ_ _ _ _ _ _ _ h=>h.elim
structure Om(K:af)(x qual:Str)(st:Stmt)(f:Addr)(fd:FuncData):Prop where
 ex:∃ (oc:Value) (od:Option Addr) (kV doc pm:Value) (an:Option Addr) (cdv ct:Value) (osl:Array (Option Value)),
  fd=dU x qual (jg st) (fC st) (ay st) .none kV doc pm an cdv ct/\K.lookup f=some ⟨oc,od,.func fd,osl⟩/\i9 K cdv qual=true
 kp:dD K (.ref f)=true
section
variable{P:Program}{w:World}{K:af}{mg:Str->Option Value}{base:Heap}
theorem Om.ok{x qual:Str}{st:Stmt}{f:Addr}{fd:FuncData}{N ps:List Str}{k:Nat}{sp:Sp}(F:Om K x qual st f fd)(S:aG N ps (ay st))(len:∀ vs H Q E,sp vs H Q E->vs.length=ps.length)
 (hbody:∀ (cdv:Value) (A:Around) (outer:List Env) (s:Shared) (H:Hp) (vs:List V) (Q:VK) (E:XK),jz k (A.deeper (envOfC qual (ay st) s.heap.objs.size f cdv))->sp vs H Q E ->
  ∃ t,jn (nN gO P w K mg base N qual (ay st) f cdv A outer s H E).X0 (fC st) t/\t { nx:=λ_ H'=>Q .eU H',rt:=Q } (start N vs) H):bV P w K mg base gO (k + 1) f fd ps sp:=by
 obtain⟨oc,od,kV,doc,pm,an,cdv,ct,osl,rfl,lk,hcd⟩:=F.ex
 refine Ui lk hcd S len λA outer s H vs Q E hr Tf=>?_
 obtain⟨t,h,q⟩:=hbody cdv A outer s H vs Q E hr Tf
 exact⟨t,h.X0,q⟩
theorem Om.binds{x qual:Str}{st:Stmt}{f:Addr}{fd:FuncData}{ps:List Str}(F:Om K x qual st f fd)
 (h:∀ (kV doc pm:Value) (an:Option Addr) (cdv ct:Value) (us:List Value),us.length=ps.length->bindArgs (dU x qual (jg st) (fC st) (ay st) .none kV doc pm an cdv ct) ⟨us,[]⟩=pure (ps.zip us)):Binds K fd ps []:=by
 obtain⟨oc,od,kV,doc,pm,an,cdv,ct,osl,rfl,lk,hcd⟩:=F.ex
 exact .all (h kV doc pm an cdv ct)
theorem Uy{x qual:Str}{st:Stmt}{f:Addr}{oc:Value}{od an:Option Addr}{osl:Array (Option Value)}{kV doc pm cdv ct:Value}(l:K.lookup f=some ⟨oc,od,.func (dU x qual (jg st) (fC st) (ay st) .none kV doc pm an cdv ct),osl⟩)
 (c:i9 K cdv qual=true) (k:dD K (.ref f)=true):Om K x qual st f (dU x qual (jg st) (fC st) (ay st) .none kV doc pm an cdv ct):=⟨⟨oc,od,kV,doc,pm,an,cdv,ct,osl,rfl,l,c⟩,k⟩
end
theorem Mw{A:Around}{k:Nat}(hr:jz k A):A.units + 1 < cLine:=aZ (bM (by decide:1<=64) _) hr.units
theorem bW{n:Nat}(h:n<=1000):n < sizeLine:=aZ h (by decide)
section
variable{X:Cx}
theorem pv(i:Nat){x:Str}{pos:Pos}(hN:X.N[i]?=some x:=by rfl)(hv:Vis X.env.scope x:=by first | exact Or.inl rfl | exact Or.inr (Or.inl rfl) | exact Or.inr (Or.inr rfl))(hd:(x == ("__debug__" : Str))=false:=by decide)
 (hcd:(x == ("__classdict__" : Str))=false:=by decide):PE X (.Name x pos) (KU i):=Zh hN hv hd hcd
end
theorem fk{A B:Prop}(h:B):if false=true then A else B:=by
 rw[if_neg aB]
 exact h
theorem eW{A B:Prop}(h:A):if true=true then A else B:=by
 rw[if_pos rfl]
 exact h
theorem jS{c A B:Prop}[Decidable c](h1:c->A)(h2:¬ c->B):if c then A else B:=by
 by_cases h:c
 ·rw[if_pos h]
  exact h1 h
 ·rw[if_neg h]
  exact h2 h
def aC(H H':Hp):Prop:=∀ b o,H b=some o->H' b=some o
theorem aC.refl(H:Hp):aC H H:=λ_ _ h=>h
theorem aC.trans{H H1 H2:Hp}(a:aC H H1)(b:aC H1 H2):aC H H2:=λc o h=>b c o (a c o h)
theorem aC.free{H H':Hp}(e:aC H H'){l:Addr}(h:H' l=Option.none):H l=Option.none:=by
 cases q:H l with
 | none=>rfl
 | some o =>
  rw[e l o q] at h
  cases h
theorem aC.seq{K:af}{H H':Hp}{a:Addr}{xs:List V}(e:aC H H')(h:bJ K H a xs):bJ K H' a xs:=by
 rcases h with (h | ⟨o,h⟩) | h
 ·exact .inl (.inl (e _ _ h))
 ·exact .inl (.inr ⟨o,e _ _ h⟩)
 ·exact .inr h
theorem RT{env:Env}{x:Str}{c:Addr}(h:env.cells.lookup x=some c):cellOf env x=pure c:=by
 unfold cellOf
 rw[h]
noncomputable def mq(env:Env):List (Str × NameKind)->List (Str × Addr)->List (Str × Addr)
 | [],cs=>cs
 | (n,k) :: r,cs=>mq env r (if k == .free then (n,(env.cells.lookup n).getD 0) :: cs else cs)
theorem Lb{env:Env}:∀ (ns:List (Str × NameKind)) (cs:List (Str × Addr)),(∀ n,(n,NameKind.free)∈ns->∃ c,env.cells.lookup n=some c) ->
 (forIn (m:=Sem) ns cs λx r=>match x with
  | (name,kind)=>if (kind == NameKind.free)=true then do let c <- cellOf env name; pure (jv ((name,c) :: r)) else pure (jv r))=pure (mq env ns cs)
 | [],cs,_=>rfl
 | (n,k) :: r,cs,h=>by
  rw[List.forIn_cons]
  by_cases hk:(k == NameKind.free)=true
  ·have ek:k = .free:=by simpa using hk
   obtain⟨c,e⟩:=h n (by rw[ek]; exact b6)
   simp only[hk,if_true,RT e]
   have q:=Lb r ((n,c) :: cs) λm hm=>h m (bu _ hm)
   show (forIn (m:=Sem) r ((n,c) :: cs) _)=pure (mq env r (if (k == .free)=true then (n,(env.cells.lookup n).getD 0) :: cs else cs))
   rw[if_pos hk,e]
   exact q
  ·simp only[hk]
   have q:=Lb r cs λm hm=>h m (bu _ hm)
   show (forIn (m:=Sem) r cs _)=pure (mq env r (if (k == .free)=true then (n,(env.cells.lookup n).getD 0) :: cs else cs))
   rw[if_neg hk]
   exact q
theorem AR{scope:Scope}{env:Env}(h:∀ n,(n,NameKind.free)∈scope.names->∃ c,env.cells.lookup n=some c):closureFor scope env=pure (mq env scope.names []):=by
 have e:=Lb scope.names [] h
 unfold closureFor
 show (forIn (m:=Sem) scope.names [] (λx r=>match x with
  | (name,kind)=>if (kind == NameKind.free)=true then do let c <- cellOf env name; pure (jv ((name,c) :: r)) else pure (jv r)) >>= λs=>pure s)=_
 rw[e]
 rfl
theorem k8{env:Env}{x:Str}{c:Addr}:∀ (ns:List (Str × NameKind)) (cs:List (Str × Addr)),(∀ n,(n,NameKind.free)∈ns->∃ c,env.cells.lookup n=some c)->(cs.lookup x=some c->env.cells.lookup x=some c) ->
 (mq env ns cs).lookup x=some c->env.cells.lookup x=some c
 | [],_,_,h0,h=>h0 h
 | (n,k) :: r,cs,hf,h0,h=>by
  unfold mq at h
  refine k8 r _ (λm hm=>hf m (bu _ hm)) (λq=>?_) h
  by_cases hk:(k == NameKind.free)=true
  ·have ek:k = .free:=by simpa using hk
   subst ek
   obtain⟨d,e⟩:=hf n b6
   rw[if_pos hk,e,eE] at q
   by_cases hx:(x == n)=true
   ·have ex:x=n:=by simpa using hx
    rw[hx] at q
    subst ex
    rw[e]; exact q
   ·simp only[hx] at q
    exact h0 q
  ·rw[if_neg hk] at q
   exact h0 q
theorem Bj{env:Env}{x:Str}:∀ (ns:List (Str × NameKind)) (cs:List (Str × Addr)),((cs.lookup x).isSome=true∨(x,NameKind.free)∈ns)->((mq env ns cs).lookup x).isSome=true
 | [],_,h=>h.elim id λz=>absurd z (by simp)
 | (n,k) :: r,cs,h=>by
  unfold mq
  refine Bj r _ ?_
  rcases h with h | h
  ·refine .inl ?_
   split
   ·rw[eE]
    split
    ·rfl
    ·exact h
   ·exact h
  ·rcases bA.mp h with e | h
   ·cases e
    refine .inl ?_
    rw[if_pos (show (NameKind.free == NameKind.free)=true from rfl),eE]
    simp
   ·exact .inr h
noncomputable def jA(cap:List (Option Nat))(σ:St):St:=cap.map λo=>o.bind λj=>(σ[j]?).join
noncomputable def lg(X:Cx)(scope:Scope)(N':List Str)(fp:List Addr)(pins:List (Addr × Obj))(s₃:Shared)(afY:Hp):Cx where
 prog:=X.prog
 w:=X.w
 K:=X.K
 mg:=X.mg
 base:=X.base
 A:=X.A
 N:=N'
 s₀:=s₃
 H₀:=afY
 env:=compEnvC scope (mq X.env scope.names []) s₃.heap.objs.size X.env
 outer:=X.stack
 stack:=X.stack
 ex:=fp
 fn:=λ_=>false
 calm:=X.calm
 pn:=X.pn++pins
 xe:=λ_ _=>False
structure jB(X:Cx)(scope:Scope)(N':List Str)(cap:List (Option Nat)):Prop where
 kind:scope.kind = .function
 OP:∀ y∈scope.names,y.2≠.cell
 loc:∀ y∈scope.names,y.2 = .local->scope.names.lookup y.1=some .local
 fr:∀ y∈scope.names,y.2 = .free->X.env.kindOf y.1=some .cell
 frl:∀ y∈scope.names,y.2 = .free->scope.names.lookup y.1=some .free
 nd:N'.Nodup
 len:cap.length=N'.length
 cap:∀ (i j:Nat) (x:Str),cap[i]?=some (some j)->N'[i]?=some x->X.N[j]?=some x/\(x,NameKind.free)∈scope.names
section
variable{X:Cx}{scope:Scope}{N':List Str}{cap:List (Option Nat)}{fp:List Addr}{pins:List (Addr × Obj)}{s:Shared}{σ:St}{H:Hp}
theorem jB.clos(S:jB X scope N' cap)(ok:X.Ok):∀ n,(n,NameKind.free)∈scope.names->∃ c,X.env.cells.lookup n=some c:=λn hn=>ok.has n (.inl (S.fr _ hn rfl))
theorem wM{env:Env}{x:Str}:∀ {names:List (Str × NameKind)} {k:NameKind},
 (names.map λ(n,k)=>if (k == NameKind.free && env.scope.kind == .function && env.kindOf n == some .cell) then (n,NameKind.cell) else (n,k)).lookup x=some k->k = .cell∨k = .free->(∀ y∈names,y.2≠.cell)->(x,NameKind.free)∈names
 | [],_,h,_,_=>by simp at h
 | (n,q) :: r,k,h,hk,hc=>by
  have h':pS x ((if (q == NameKind.free && env.scope.kind == .function && env.kindOf n == some .cell)=true then (n,NameKind.cell) else (n,q)) :: (r.map λ(n,k)=>if (k == NameKind.free && env.scope.kind == .function && env.kindOf n == some .cell) then (n,NameKind.cell) else (n,k)))=some k:=h
  by_cases hx:(x == n)=true
  ·have ex:x=n:=by simpa using hx
   subst ex
   by_cases hq:(q == NameKind.free && env.scope.kind == .function && env.kindOf x == some .cell)=true
   ·have:q = .free:=by
     rw[dF,dF] at hq
     simpa using hq.1.1
    subst this
    exact b6
   ·rw[if_neg hq,eE,hx] at h'
    have e:q=k:=aP h'
    subst e
    rcases hk with hk | hk
    ·exact absurd hk (hc _ b6)
    ·rw[hk]; exact b6
  ·have hx':(x == n)=false:=by simpa using hx
   refine bu _ (wM (env:=env) (k:=k) ?_ hk λy hy=>hc y (bu _ hy))
   split at h'
   ·rw[eE,hx'] at h'; exact h'
   ·rw[eE,hx'] at h'; exact h'
theorem Cv{env:Env}{x:Str}(hf:env.scope.kind = .function)(hx:env.kindOf x=some .cell):∀ {names:List (Str × NameKind)},names.lookup x=some .free ->
 (names.map λ(n,k)=>if (k == NameKind.free && env.scope.kind == .function && env.kindOf n == some .cell) then (n,NameKind.cell) else (n,k)).lookup x=some .cell
 | [],h=>by simp at h
 | (n,k) :: r,h=>by
  show pS x ((if (k == NameKind.free && env.scope.kind == .function && env.kindOf n == some .cell)=true then (n,NameKind.cell) else (n,k)) :: _)=_
  cases hxn:x == n with
  | true =>
   have e:x=n:=by simpa using hxn
   subst e
   simp only[eE,hxn] at h
   have ek:k = .free:=aP h
   subst ek
   rw[if_pos (by rw[hf,hx]; rfl),eE,hxn]
  | false =>
   simp only[eE,hxn] at h
   have ih:=Cv hf hx h
   split
   ·rw[eE,hxn]; exact ih
   ·rw[eE,hxn]; exact ih
theorem jB.ok(S:jB X scope N' cap)(I:Inv X pins σ H s)(hf:∀ b∈fp,Ck X pins H b)(hex:∀ b∈fp,∃ o,s.heap.get? b=some o):(lg X scope N' fp pins s H).Ok where
 mod:=I.ok.mod
 kind:=S.kind
 glob:=I.ok.glob
 blt:=I.ok.blt
 above:=au _
 inj:=λx y c h1 h2=>I.ok.inj x y c (k8 _ _ (S.clos I.ok) (λz=>by simp at z) h1) (k8 _ _ (S.clos I.ok) (λz=>by simp at z) h2)
 has:=λx hx=>by
  have hm:(x,NameKind.free)∈scope.names:=by
   rcases hx with hx | hx
   ·exact wM (env:=X.env) hx (.inl rfl) S.OP
   ·exact wM (env:=X.env) hx (.inr rfl) S.OP
  exact Option.isSome_iff_exists.mp (Bj scope.names [] (.inr hm))
 cab:=λx c h=>by cases h
 hd:=I.ok.hd
 frames:=I.ok.frames
 stk:=.inl rfl
 exf:=λb hb=>by
  obtain⟨o,e⟩:=hex b hb
  refine⟨bw (Heap.lt_size e),λx c h=>(hf b hb).2.2.2.2.1 x c (k8 _ _ (S.clos I.ok) (λz=>by simp at z) h)⟩
 bs:=I.bs
 Wa:=aH I.ok.Wa I.sz
 RC:=λb o e hb=>by
  rcases (hf b hb).2.2.2.1 with z | z
  ·exact I.ok.RC b o e z
  ·exact absurd (bx (Heap.lt_size e) (aH I.ok.Wa z)) (gJ _)
 Tv:=λb hb hs=>by
  rcases bA.mp (I.Dz b hs) with z | z
  ·exact (hf b hb).2.1 z
  ·exact (hf b hb).2.2.1 z
 Cf:=I.stack
 XY:=I.KS
theorem jB.look(S:jB X scope N' cap)(I:Inv X pins σ H s){h₁:Heap}{m:Str->Option Value}(cellK:∀ x c v,X.env.cells.lookup x=some c->s.heap.IsCell c v->h₁.IsCell c v)(i:Nat)(x:Str)(v:V)(h1:N'[i]?=some x)(h2:(jA cap σ)[i]?=some (some v)) :
 ∃ u,RelV v u/\Look (compEnvC scope (mq X.env scope.names []) s.heap.objs.size X.env) h₁ m x u:=by
 have Qw:∀ x c,(mq X.env scope.names []).lookup x=some c->X.env.cells.lookup x=some c:=λx c h=>k8 _ _ (S.clos I.ok) (λz=>by simp at z) h
 have h2':((cap[i]?).map λo=>o.bind λj=>(σ[j]?).join)=some (some v):=by
  have:=h2
  unfold jA at this
  rw[aj] at this
  exact this
 cases ec:cap[i]? with
 | none=>rw[ec] at h2'; cases h2'
 | some o =>
  cases o with
  | none=>rw[ec] at h2'; cases h2'
  | some j =>
   rw[ec] at h2'
   obtain⟨hN,hfree⟩:=S.cap i j x ec h1
   have RU:(σ[j]?).join=some v:=aP h2'
   have hv:σ[j]?=some (some v):=by
    cases ej:σ[j]? with
    | none=>rw[ej] at RU; cases RU
    | some y =>
     cases y with
     | none=>rw[ej] at RU; cases RU
     | some z =>
      rw[ej] at RU
      have e:z=v:=aP RU
      rw[e]
   have hkind:=S.fr _ hfree rfl
   obtain⟨m0,hn0,Mx⟩:=I.loc
   obtain⟨u,r,l⟩:=Mx j x v hN hv (.inr (.inl hkind))
   refine⟨u,r,?_⟩
   rcases l with ⟨hk,_⟩ | ⟨hk,c,hc,hcell⟩
   ·have z:X.env.kindOf x=some .cell:=hkind
    rw[hk] at z; cases z
   ·obtain⟨c',hc'⟩:=Option.isSome_iff_exists.mp (Bj (env:=X.env) (x:=x) scope.names [] (.inr hfree))
    have ecc:c'=c:=by
     have:=Qw x c' hc'
     rw[hc] at this
     exact (aP this).symm
    subst ecc
    exact .inr ⟨.inl (Cv I.ok.kind hkind (S.frl _ hfree rfl)),c',hc',cellK x c' _ hc hcell⟩
theorem jB.start(S:jB X scope N' cap)(I:Inv X pins σ H s)(hf:∀ b∈fp,Ck X pins H b)(hex:∀ b∈fp,∃ o,s.heap.get? b=some o){h₁:Heap}{tk:Nat}{m:Str->Option Value}(hns:h₁.Ns s.heap.objs.size m)
 (kp:∀ b o,s.heap.get? b=some o->h₁.get? b=some o):Inv (lg X scope N' fp pins s H) [] (jA cap σ) H { s with heap:=h₁,toks:=tk }:=by
 have Qw:∀ x c,(mq X.env scope.names []).lookup x=some c->X.env.cells.lookup x=some c:=λx c h=>k8 _ _ (S.clos I.ok) (λz=>by simp at z) h
 have cellK:∀ {c:Addr} {v:Option Value},s.heap.IsCell c v->h₁.IsCell c v:=λ{c v} ⟨o,e,d⟩=>⟨o,kp c o e,d⟩
 refine⟨S.ok I hf hex,rfl,I.bare,Un.kept kp,⟨m,hns,λi x v h1 h2 h3=>S.look I (λ_ _ _ _ z=>cellK z) i x v h1 h2⟩,λx c h=>?_,I.hok.fresh (au _),λx c h=>I.tQ x c (Qw x c h),λp hp=>?_,I.hok.kept kp,?_⟩
 ·obtain⟨v,z⟩:=I.cell x c (Qw x c h)
  exact⟨v,cellK z⟩
 ·have hp0:p∈(X.pn++pins)++[]:=hp
  have WB:p∈X.pn++pins:=by rw[gQ] at hp0; exact hp0
  obtain⟨e,n,ne,nf,d⟩:=I.pin p WB
  refine⟨kp _ _ e,n,bw (Heap.lt_size e),λz=>?_,d⟩
  rcases bA.mp (I.Dz p.1 z) with q | q
  ·exact ne q
  ·exact nf q
 ·unfold jA
  rw[ah]
  exact S.len
theorem jB.again(S:jB X scope N' cap)(I:Inv X pins σ H s)(hf:∀ b∈fp,Ck X pins H b){Yl:St}{H8:Hp}{s8:Shared}(I8:Inv (lg X scope N' fp pins s H) [] Yl H8 s8):Inv (lg X scope N' fp pins s H) [] (jA cap σ) H8 s8:=by
 obtain⟨m,hn,_⟩:=I8.loc
 refine⟨I8.ok,I8.os,I8.bare,I8.base,⟨m,hn,λi x v h1 h2 h3=>S.look I (λy c u hc hu=>?_) i x v h1 h2⟩,I8.cell,I8.free,I8.tQ,I8.pin,I8.hok,?_⟩
 ·obtain⟨o,e,d⟩:=hu
  obtain⟨sl,q⟩:=I8.base.any e (I.tQ y c hc) λhb=>(hf c hb).2.2.2.2.1 y c hc rfl
  exact⟨_,q,d⟩
 ·unfold jA
  rw[ah]
  exact S.len
theorem jB.back{H2 H':Hp}{s2 s3 s':Shared}{σ':St}{acc:Addr}{h'':Heap}(S:jB X scope N' cap)(I2:Inv X pins σ H2 s2)(hf:∀ b∈fp,Ck X pins H2 b){o:HO}
 (e3:s3.heap.objs.size=s2.heap.objs.size + 1) (k3:∀ b u,s2.heap.get? b=some u->s3.heap.get? b=some u) (ha:acc=s2.heap.objs.size) (o3:s3.os=s2.os)
 (I':Inv (lg X scope N' fp pins s3 (upd H2 acc o)) [] σ' H' s') (sb:Heap.SameBut s3.heap.objs.size s'.heap h''):Inv X pins σ H' { s' with heap:=h'' }:=by
 have u1:Un (frs X.stack) fp H2 (upd H2 acc o) s2.heap s3.heap:=Un.laid k3 (by rw[ha]; exact au _) (I2.hok.fresh (by rw[ha]; exact au _))
 have u2:Un (frs X.stack) fp H2 H' s2.heap s'.heap:=u1.trans I'.base
 have old:∀ b ob,s2.heap.get? b=some ob->b≠s3.heap.objs.size:=λb ob e=>by
  have:=Heap.lt_size e
  rw[e3]
  exact bw (Nat.lt_succ_of_lt this)
 have hC:H' s3.heap.objs.size=none:=I'.free
 have u3:Un (frs X.stack) fp H2 H' s2.heap h'' :=
  ⟨λb ob e n hb hx=>(sb.2 b (old b ob e)).trans (u2.keep b ob e n hb hx),λb ob e n hb hx=>by
   obtain⟨sl,q⟩:=u2.slot b ob e n hb hx
   exact⟨sl,(sb.2 b (old b ob e)).trans q⟩,u2.free,λb ob e hx=>by
   obtain⟨o',q⟩:=u2.there b ob e hx
   exact⟨o',(sb.2 b (old b ob e)).trans q⟩,u2.tups,u2.AK,u2.Ce⟩
 have hok:yK X.prog X.w H' h'':=λb ob e=>(I'.hok b ob e).stay (λc v hc q=>(sb.2 c (by
  rintro rfl
  rcases hc with z | z
  ·rw[<- z,hC] at e; cases e
  ·rw[hC] at z; cases z)).trans q) (λ_ q=>q) λ_ _ q=>q
 refine I2.XZ (s':={ s' with heap:=h'' }) (ch:=fp) (I'.os.trans o3) u3 hok I'.bare λb hb=>?_
 obtain⟨_,f1,_,f3,f4,f5⟩:=hf b hb
 exact⟨f3,f1,f4,f5⟩
def oq(X:Cx)(ifs:List Expr)(t:TT):Prop :=
 ∀ (pins:List (Addr × Obj)) (s:Shared) (σ:St) (H:Hp) (Q:Bool->Hp->Prop),Inv X pins σ H s->t σ H Q ->
  wpAny (model X.prog X.w) X.A (forIn ifs true λc r=>if r=true then do let ok <- isTrue c X.env (eval c X.env); pure (jv ok) else pure (jv r)) (TP X pins σ Q) X.xe s
def acf:TT:=λ_ H Q=>Q true H
theorem jT:oq X [] acf:=λ_ _ _ H _ I h=>wpAny_tests_nil ⟨H,I,h⟩
theorem qM{c:Expr}{t:TT}(h:PT X c t):oq X [c] t:=λpins s σ H Q I hq=>wpAny_tests_one (h pins s σ H Q I hq)
def Ym(wi:TI)(cap:List (Option Nat))(g:TG)(tc:TT)(te:TE):TE:=λσ H Q=>wi σ H λJ H1=>∀ acc,H1 acc=none->∃ W:Nat->Nat->Hp->Prop,(∃ m,W 0 m (upd H1 acc (.lst [])))/\∀ i m H,W i m H ->
 (J.stop i H/\Q (.ref acc) H)∨(J.go i H/\∀ x H',J.Ml i H x H'->g x (jA cap σ) H' λσ2 H2=>tc σ2 H2 λb H3=>if b=true then te σ2 H3 λy H4=>∃ xs,H4 acc=some (.lst xs)/\xs.length < sizeLine /\
  ∃ m',m' < m/\W (i + 1) m' (upd H4 acc (.lst (xs++[y]))) else ∃ m',m' < m/\W (i + 1) m' H3)
theorem RV{elt target iter:PySem.Expr}{ifs:List PySem.Expr}{scope:Scope}{pos:Pos}{it acc:Value}{env:Env}{prog:Program}{w:World}{A:Around}{s:Shared}{R:Result->Shared->Prop}(I:Nat->Shared->Prop)
 (turn:∀ n s,I n s->wpAny (model prog w) A (pyNext it) (λr s₁=>match r with
  | none=>R (.ok .next) s₁
  | some v=>wpAny (model prog w) A (letOwnedTupleGo target it v) (λ_ s₀=>wpAny (model prog w) A (assign target env v) (λ_ s₂ =>
   wpAny (model prog w) A (forIn ifs true λc r=>if r=true then do let ok <- isTrue c env (eval c env); pure (jv ok) else pure (jv r)) (λok s₃=>if ok=true then wpAny (model prog w) A (eval elt env) (λx s₄ =>
    wpAny (model prog w) A (call (.builtin "list.append") [acc,x]) (λ_ s₅=>∃ m,m < n/\I m s₅) (λ_ _=>False) s₄) (λ_ _=>False) s₃
    else ∃ m,m < n/\I m s₃) (λ_ _=>False) s₂)
   (λ_ _=>False) s₀) (λ_ _=>False) s₁) (λ_ _=>False) s)
 (n:Nat) (h:I n s):codeAny (model prog w) A (.compLoop (.ListComp elt [⟨target,iter,ifs,0⟩] scope pos) 0 it acc env) R s:=by
 refine codeAny_loop rfl I (λn s hI=>?_) n h
 show wpAny _ A ((compTurn (.ListComp elt [⟨target,iter,ifs,0⟩] scope pos) 0 it acc env).onRaise (λx=>do noteFrame x env; theTreesLotGoes x)) _ _ s
 refine wpAny_noted ?_
 rw[compTurn_list]
 refine wpAny_bind (wpAny_standAt (wpAny_bind (wpAny_mono (turn n s hI) (λr s₁ h₁=>?_) λ_ _ z=>z.elim)))
 cases r with
 | none=>exact wpAny_pure h₁
 | some v =>
  refine wpAny_bind (wpAny_mono h₁ (λ_ s₀ h₀'=>?_) λ_ _ z=>z.elim)
  refine wpAny_bind (wpAny_mono h₀' (λ_ s₂ h₂=>?_) λ_ _ z=>z.elim)
  refine wpAny_bind (wpAny_mono h₂ (λokb s₃ h₃=>?_) λ_ _ z=>z.elim)
  cases okb with
  | false=>exact wpAny_pure ⟨rfl,h₃⟩
  | true=>exact wpAny_bind (wpAny_bind (wpAny_mono h₃ (λx s₄ h₄=>wpAny_bind (wpAny_mono h₄ (λ_ s₅ h₅=>wpAny_pure (wpAny_pure ⟨rfl,h₅⟩)) λ_ _ z=>z.elim)) λ_ _ z=>z.elim))
theorem Gm{elt tg iter:Expr}{ifs:List Expr}{pos:Pos}{g:TG}{tc:TT}{te:TE}{Q:VK}{s2:Shared}{H2:Hp}{it:Addr}{tn:Nat->Heap->Prop}{J:It}{E:Value->Shared->Prop}{RR:Value->Addr->Result->Shared->Prop}
 (S:jB X scope N' cap) (hc:X.calm=true) (hg:∀ fp pins s H,PG (lg X scope N' fp pins s H) tg g) (hts:∀ fp pins s H,oq (lg X scope N' fp pins s H) ifs tc) (he:∀ fp pins s H,PE (lg X scope N' fp pins s H) elt te)
 (I2:Inv X pins σ H2 s2) (T:Turn X.prog X.w X.K tg J fp it tn) (st2:tn 0 s2.heap) (f2:∀ b∈fp,Ck X pins H2 b)
 (h:∀ acc,H2 acc=none->∃ W:Nat->Nat->Hp->Prop,(∃ m,W 0 m (upd H2 acc (.lst [])))/\∀ i m H,W i m H ->
  (J.stop i H/\Q (.ref acc) H)∨(J.go i H/\∀ x H',J.Ml i H x H'->g x (jA cap σ) H' λσ2 H2=>tc σ2 H2 λb H3=>if b=true then te σ2 H3 λy H4=>∃ xs,H4 acc=some (.lst xs)/\xs.length < sizeLine /\
   ∃ m',m' < m/\W (i + 1) m' (upd H4 acc (.lst (xs++[y]))) else ∃ m',m' < m/\W (i + 1) m' H3))
 (hRR:∀ C s' H',(∃ m,s'.heap.Ns C m)->(∀ h'',Heap.SameBut C s'.heap h''->Inv X pins σ H' { s' with heap:=h'' })->Q (.ref s2.heap.objs.size) H'->H' C=none->s2.heap.objs.size < C ->
  RR (.ref s2.heap.objs.size) C (.ok .next) s') :
 wpAny (model X.prog X.w) X.A (newList []) (λacc s₃=>wpAny (model X.prog X.w) X.A (newFunctionEnv scope X.env.globals (mq X.env scope.names []) [] X.env.qual none .none (some X.env)) (λcenv s₄ =>
  codeAny (model X.prog X.w) X.A (.compStart (.ListComp elt [⟨tg,iter,ifs,0⟩] scope pos) 0 (.ref it) acc { cenv with scope:=relabel scope X.env }) (RR acc cenv.locals) s₄) E s₃) E s2:=by
 refine wpAny_newObj_type (wpAny_newFunctionEnv S.OP (by intro y hy; simp at hy) (λh₁ OQ OR=>?_) S.kind)
 dsimp only at OQ OR ⊢
 have hfr:H2 s2.heap.objs.size=none:=I2.hok.fresh (au _)
 generalize hH3:s2.heap.push { cls:=.type "list",dict:=none,data:=.seq ([]:List Value).toArray }=h3 at OQ OR ⊢
 have e3:h3.objs.size=s2.heap.objs.size + 1:=by rw[<- hH3,Heap.size_push]
 have k3:∀ b u,s2.heap.get? b=some u->h3.get? b=some u:=λb u e=>by rw[<- hH3]; exact Heap.get?_push_of_some _ e
 have I3:Inv X pins σ (upd H2 s2.heap.objs.size (.lst [])) { s2 with heap:=h3,toks:=s2.toks }:=by
  refine I2.laid (t':=s2.toks) k3 (au _) ?_
  exact⟨br _,[],0,.nil,by rw[<- hH3]; exact Heap.get?_push_size _ rfl⟩
 have f3:∀ b∈fp,Ck X pins (upd H2 s2.heap.objs.size (.lst [])) b:=λb hb=>by
  obtain⟨o,e,_⟩:=T.obj _ _ st2 b hb
  exact⟨by rw[aD (bw (Heap.lt_size e))]; exact (f2 b hb).1,(f2 b hb).2⟩
 have ex3:∀ b∈fp,∃ o,h3.get? b=some o:=λb hb=>by
  obtain⟨o,e,_⟩:=T.obj _ _ st2 b hb
  exact⟨o,k3 b o e⟩
 have kp:∀ b o,h3.get? b=some o->h₁.get? b=some o:=λb o e=>OR.extBut b o (bw (Heap.lt_size e)) (Heap.get?_push_of_some _ e)
 have I4:=S.start (fp:=fp) (tk:=s2.toks + ([]:List (Str × Value)).length) I3 f3 ex3 OQ kp
 have IL:tn 0 h₁:=T.keep _ _ _ st2 λb _ o e=>kp b o (k3 b o e)
 obtain⟨W,⟨m0,w0⟩,turn⟩:=h s2.heap.objs.size hfr
 let X':=lg X scope N' fp pins { s2 with heap:=h3,toks:=s2.toks } (upd H2 s2.heap.objs.size (.lst []))
 have stat:∀ {JE:List (Addr × Obj)} {H':Hp},(∀ p∈JE,p.1 ∉ fp)->(∀ b∈fp,H' b=none)->∀ b∈fp,Ck X' JE H' b:=λ{JE H'} hpn hn b hb=>by
  obtain⟨o,e⟩:=ex3 b hb
  refine⟨hn b hb,bw (Heap.lt_size e),λz=>?_,.inl hb,λx c hx=>(f3 b hb).2.2.2.2.1 x c (k8 _ _ (S.clos I2.ok) (λz=>by simp at z) hx),λp hp=>?_⟩
  ·rcases bA.mp (I2.Dz b z) with q | q
   ·exact (f2 b hb).2.1 q
   ·exact (f2 b hb).2.2.1 q
  ·rcases bG.mp hp with q | q
   ·exact (f2 b hb).2.2.2.2.2 p q
   ·exact λz=>hpn p q (z ▸ hb)
 have loop:codeAny (model X.prog X.w) X.A (.compLoop (.ListComp elt [⟨tg,iter,ifs,0⟩] scope pos) 0 (.ref it) (.ref s2.heap.objs.size) X'.env) (RR (.ref s2.heap.objs.size) h3.objs.size) { s2 with heap:=h₁,toks:=s2.toks + ([]:List (Str × Value)).length }:=by
  refine RV (λn s'=>∃ i H',Inv X' [] (jA cap σ) H' s'/\tn i s'.heap/\(∀ b∈fp,H' b=none)/\W i n H') ?_ m0 ⟨0,_,I4,IL,λb hb=>(f3 b hb).1,w0⟩
  rintro n s5 ⟨i,H5,I5,Ol,fr5,w5⟩
  rcases turn i n H5 w5 with ⟨stop,qn⟩ | ⟨go,step⟩
  ·refine wpAny_mono (T.done X' rfl rfl rfl hc i [] s5 (jA cap σ) H5 (λ_ _=>False) I5 (stat (λ_ z=>absurd z (by simp)) fr5) Ol stop) (λr s6 ⟨hr,I6⟩=>?_) λ_ _ z=>z
   subst hr
   refine hRR _ s6 H5 ?_ (λh'' sb=>S.back I2 f2 (s3:={ s2 with heap:=h3,toks:=s2.toks }) e3 k3 rfl rfl I6 sb) qn I6.free (by rw[e3]; exact Nat.lt_succ_self _)
   obtain⟨m,hn,_⟩:=I6.loc
   exact⟨m,hn⟩
  ·refine wpAny_mono (T.item X' rfl rfl rfl hc i [] s5 (jA cap σ) H5 (λ_ _=>False) I5 (stat (λ_ z=>absurd z (by simp)) fr5) Ol go) (λr s6 ⟨u,hr,h6⟩=>?_) λ_ _ z=>z
   subst hr
   refine wpAny_mono h6 (λ_ s7 ⟨x,H7,I7,r7,y7,My,fr7⟩=>?_) λ_ _ z=>z
   have I7':=I7.pinned (stat (λ_ z=>absurd z (by simp)) fr7) (T.obj _ _ My)
   have again:∀ {Yl:St} {H8:Hp} {s8:Shared},Inv X' ([]++Ge fp s7.heap) Yl H8 s8->(∃ m',m' < n/\W (i + 1) m' H8)->∃ m,m < n/\∃ i H',Inv X' [] (jA cap σ) H' s8/\tn i s8.heap/\(∀ b∈fp,H' b=none)/\W i m H':=λ{Yl H8 s8} I8 n8=>by
    obtain⟨m',hm,w8⟩:=n8
    have pn:∀ b∈fp,∃ o,s7.heap.get? b=some o/\s8.heap.get? b=some o/\H8 b=none:=λb hb=>by
     obtain⟨o,e,d⟩:=T.obj _ _ My b hb
     have q:=I8.pin (b,o) (dg _ (dg _ (Bg hb e)))
     exact⟨o,e,q.1,q.2.1⟩
    refine⟨m',hm,i + 1,H8,S.again I3 f3 I8.Cm,T.keep _ _ _ My λb hb o e=>?_,λb hb=>?_,w8⟩
    ·obtain⟨o',e',q,_⟩:=pn b hb
     rw[e] at e'; cases e'
     exact q
    ·obtain⟨_,_,_,q⟩:=pn b hb
     exact q
   refine wpAny_mono (hg fp pins _ _ _ s7 (jA cap σ) H7 x u _ I7' r7 (step x H7 y7)) (λ_ s8 ⟨Yl,H8,I8,q8⟩=>?_) λ_ _ z=>z
   refine wpAny_mono (hts fp pins _ _ _ s8 Yl H8 _ I8 q8) (λb s9 ⟨H9,I9,q9⟩=>?_) λ_ _ z=>z
   cases b with
   | false=>exact again I9 q9
   | true =>
    refine wpAny_mono (he fp pins _ _ _ s9 Yl H9 _ I9 q9) (λu Dt ⟨y,Wc,I10,r10,xs,hx,hl,q10⟩=>?_) λ_ _ z=>z
    refine wpAny_mono (eS (X:=X') _ Dt Yl Wc (.ref s2.heap.objs.size) [y] (.ref s2.heap.objs.size) [u] (λ_ H'=>∃ m',m' < n/\W (i + 1) m' H') I10 rfl (.cons r10 .nil) ⟨_,xs,y,rfl,rfl,hx,hl,q10⟩) (λ_ s11 ⟨_,H11,I11,_,q11⟩=>again I11 q11) λ_ _ z=>z
 exact codeAny_compStart_list loop (T.self _ 0 _ _ _ IL loop)
theorem gu{elt tg iter:Expr}{ifs:List Expr}{pos:Pos}{wi:TI}{g:TG}{tc:TT}{te:TE}(S:jB X scope N' cap)(hc:X.calm=true)(hi:PI X tg iter wi)(hg:∀ fp pins s H,PG (lg X scope N' fp pins s H) tg g)
 (hts:∀ fp pins s H,oq (lg X scope N' fp pins s H) ifs tc) (he:∀ fp pins s H,PE (lg X scope N' fp pins s H) elt te) (hs:∀ x,foldedSetIterable iter X.env x=pure x:=by intro _; rfl) :
 PE X (.ListComp elt [⟨tg,iter,ifs,0⟩] scope pos) (Ym wi cap g tc te):=by
 intro pins s σ H Q I h
 rw[eval_ListComp]
 refine wpAny_comprehension_free (use:=none) rfl hs (AR (S.clos I.ok)) S.kind S.loc (gv (hi pins s σ H _ I h) λv s1 h1=>gv h1 λitv s2 h2=>?_)
 obtain⟨it,fp,tn,J,H2,e,I2,T,st2,f2,hW⟩:=h2
 subst e
 refine Gm (RR:=λacc C=>compPost (model X.prog X.w) X.A X.xe none (EP X pins σ Q) acc C) S hc hg hts he I2 T st2 f2 hW ?_
 intro C s' H' ⟨m,hn⟩ hI hq _ _
 exact⟨m,hn,λh'' sb=>⟨.ref s2.heap.objs.size,H',hI h'' sb,rfl,hq⟩⟩
theorem wN{elt tg iter:Expr}{ifs:List Expr}{pos:Pos}{wi:TI}{g:TG}{tc:TT}{te:TE}{i:Nat}{x:Str}{pos' spos:Pos}(hN:X.N.Nodup)(hix:X.N[i]?=some x)(hx:Loc X.env.scope x)(S:jB X scope N' cap)(hc:X.calm=true)
 (hi:PI X tg iter wi) (hg:∀ fp pins s H,PG (lg X scope N' fp pins s H) tg g)
 (hts:∀ fp pins s H,oq (lg X scope N' fp pins s H) ifs tc) (he:∀ fp pins s H,PE (lg X scope N' fp pins s H) elt te) (hs:∀ x,foldedSetIterable iter X.env x=pure x:=by intro _; rfl)
 (hsw:swapsWith (.ListComp elt [⟨tg,iter,ifs,0⟩] scope pos) (some (.Name x pos')) spos.line X.env=pure true:=by rfl) (hf:X.fn x=true∨X.env.scope.names.lookup x=some .local:=by first | exact .inl rfl | exact .inr rfl | assumption) :
 PS X (.Assign [.Name x pos'] (.ListComp elt [⟨tg,iter,ifs,0⟩] scope pos) spos) (Wp (Ym wi cap g tc te) (gM i)):=by
 intro pins s σ H D I h
 rw[exec_Assign_Name_used _ _ _ _ hsw]
 refine wpAny_bind (wpAny_standAt (wpAny_bind ?_))
 show wpAny _ X.A (do let _ <- comprehension (.ListComp elt [⟨tg,iter,ifs,0⟩] scope pos) scope X.env _ (newList []) false (eval iter X.env) (some (assign (.Name x pos') X.env))) _ _ s
 refine wpAny_bind (wpAny_mono (wpAny_comprehension_free (use:=some (assign (.Name x pos') X.env)) (Q:=λ_ s'=>SP X pins D .next s') rfl hs (AR (S.clos I.ok)) S.kind S.loc
  (gv (hi pins s σ H _ I h) λv s1 h1=>gv h1 λitv s2 h2=>?_)) (λ_ s' hq=>wpAny_pure (wpAny_pure hq)) λ_ _ e=>e)
 obtain⟨it,fp,tn,J,H2,e,I2,T,st2,f2,hW⟩:=h2
 subst e
 refine Gm (RR:=λacc C=>compPost (model X.prog X.w) X.A X.xe (some (assign (.Name x pos') X.env)) (λ_ s'=>SP X pins D .next s') acc C) (Q:=λx H1=>gM i x σ H1 D.nx) S hc hg hts he I2 T st2 f2 hW ?_
 intro C s' H' ⟨m,hn⟩ hI hq hC hlt
 have I':Inv X pins σ H' s':=hI s'.heap (.refl ..)
 show wpAny _ _ (assign (.Name x pos') X.env (.ref s2.heap.objs.size)) _ _ s'
 refine wpAny_assign_Name (JF (v:=.ref s2.heap.objs.size) I' hN hix hx rfl (λs6 I6 ⟨a,sb,ha⟩=>?_) hf)
 have lC:∀ b,b < s2.heap.objs.size->b≠C:=λb hb=>bw (Nat.lt_trans hb hlt)
 have haC:a≠C:=by
  rcases ha with z | z
  ·rw[z]; exact lC _ I2.lt
  ·obtain⟨_,q⟩:=I2.cell x a z
   exact lC _ q.lt
 refine⟨m,hn.sameBut sb (bK haC),λh' sb'=>⟨_,H',I6.turned (t':=s6.toks) (λb o hb e=>(sb'.2 b hb).trans e) hC (bK (lC _ I2.lt)) (.inr (aH I2.sz (iL hlt))) (λy c hc'=>?_) (λp hp=>?_),hq⟩⟩
 ·obtain⟨_,q⟩:=I2.cell y c hc'
  exact lC _ q.lt
 ·exact lC _ (Heap.lt_size (I2.pin p hp).1)
end
section
variable{X:Cx}
noncomputable def Ite(K:af)(a:Addr):It :=
 ⟨λi H=>∃ xs x,bJ K H a xs/\xs[i]?=some x,λi H x H'=>∃ p v,H p=none/\x = .ref p/\H'=upd H p (.tup [.int (i:Nat),v])/\∀ xs,bJ K H a xs->xs[i]?=some v,λi H=>∃ xs,bJ K H a xs/\xs.length<=i⟩
theorem RW{P:Program}{w:World}{K:af}{elts:List Expr}{x1}{pos:Pos}(a e it:Addr)(hne:e≠it) :
 Turn P w K (.Tuple elts x1 pos) (Ite K a) [e,it] e (λi h=>∃ old,IsEnum h e it (i:Nat) old/\h.IsListIter it a i) where
 mem:=by simp
 obj:=λi h ⟨old,st,li⟩ b hb=>by
  rcases bA.mp hb with z | hb
  ·subst z
   exact⟨_,st,λv z=>by
    have z':Data.fields _=Data.cell v:=z
    cases z'⟩
  ·have z:b=it:=by simpa using hb
   subst z
   obtain⟨o,e,c,d⟩:=li
   exact⟨o,e,λv z=>by rw[d] at z; cases z⟩
 keep:=λi h h' ⟨old,st,li⟩ k=>⟨old,k e (by simp) _ st,li.at λo q=>k it (by simp) o q⟩
 item:=by
  intro X hP hw hK hc i pins s σ H E I hf ⟨old,st,li⟩ hg
  subst hP hw hK
  obtain⟨xs,x,hq,hx⟩:=hg
  obtain⟨its,rv,p,hz⟩:=I.list hq
  obtain⟨u,hu,ru⟩:=rv.get hx
  refine wpAny_pyNext_enum_item st li p.isList (x:=u) (by simpa using hu) hne λh' eo li' tu sz kp=>?_
  refine⟨_,rfl,wpAny_letOwnedTupleGo_enum eo λh2 e2 sb2=>?_⟩
  have hfr:H s.heap.objs.size=none:=I.hok.fresh (au _)
  have nE:∀ b o,H b=some o->b≠e:=λb o q z=>by rw[z,(hf e (by simp)).1] at q; cases q
  have nI:∀ b o,H b=some o->b≠it:=λb o q z=>by rw[z,(hf it (by simp)).1] at q; cases q
  have L8:∀ b o,b≠e->b≠it->s.heap.get? b=some o->h2.get? b=some o:=λb o h1 h3 q=>(sb2.2 b h1).trans (kp b o h1 h3 q)
  have hes:e < s.heap.objs.size:=Heap.lt_size st
  have tu2:h2.get? s.heap.objs.size=some { cls:=.type "tuple",data:=.seq #[.int (i:Nat) s.toks,u] }:=(sb2.2 _ (Nat.ne_of_gt hes)).trans tu
  have li2:h2.IsListIter it a (i + 1):=li'.at λo q=>(sb2.2 it (bK hne)).trans q
  have RX:∀ b,b ∉ [e,it]->b≠e/\b≠it:=λb hb=>⟨λz=>hb (by simp[z]),λz=>hb (by simp[z])⟩
  have fre:∀ b∈[e,it],upd H s.heap.objs.size (.tup [.int (i:Nat),x]) b=none:=λb hb=>by
   obtain⟨o,q,_⟩ : ∃ o,s.heap.get? b=some o/\True:=by
    rcases bA.mp hb with z | hb
    ·subst z; exact⟨_,st,trivial⟩
    ·have z:b=it:=by simpa using hb
     subst z
     obtain⟨o,q,_⟩:=li
     exact⟨o,q,trivial⟩
   rw[aD (bw (Heap.lt_size q))]
   exact (hf b hb).1
  have I1:Inv X pins σ (upd H s.heap.objs.size (.tup [.int (i:Nat),x])) { s with heap:=h2,toks:=s.toks + 1 }:=by
   refine I.step (g':=s.gens) (d':=s.drawn) (ch:=[e,it]) (λb hb=>?_) (λb o _ _ hc q _=>L8 b o (RX b hc).1 (RX b hc).2 q) (λb o _ _ hc q _=>⟨o.slots,L8 b o (RX b hc).1 (RX b hc).2 q⟩)
    (λb o _ q n=>by rw[aD (bw (Heap.lt_size q))]; exact n) (λb o hc q=>⟨o,L8 b o (RX b hc).1 (RX b hc).2 q⟩) (λb xs q=>by rw[aD (aF q hfr)]; exact q) (λb o u q=>by rw[aD (aF q hfr)]; exact q)
    (λb ps q=>⟨#[],by rw[aD (aF q hfr),q]; simp⟩) (λm hm=>?_) (λb o q=>?_) I.bare
   ·obtain⟨_,f1,_,f3,f4,f5⟩:=hf b hb
    exact⟨f3,f1,f4,f5⟩
   ·obtain⟨o,es,ep,ho,r⟩:=hm
    exact⟨o,es,ep,L8 _ o (bK (hf e (by simp)).2.1) (bK (hf it (by simp)).2.1) ho,r⟩
   ·by_cases hb:b=s.heap.objs.size
    ·subst hb
     rw[ao] at q
     cases q
     exact⟨by show 2<=sizeLine; decide,[.int (i:Nat) s.toks,u],.cons ⟨_,rfl⟩ (.cons ru .nil),⟨_,tu2,rfl,_,rfl⟩⟩
    ·rw[aD hb] at q
     refine (I.hok b o q).stay (λc v hc r=>L8 c v ?_ ?_ r) (λc r=>by rw[aD (aF r hfr)]; exact r) λc xs r=>by rw[aD (aF r hfr)]; exact r
     ·rcases hc with z | z
      ·rw[z]; exact nE b o q
      ·exact nE c _ z
     ·rcases hc with z | z
      ·rw[z]; exact nI b o q
      ·exact nI c _ z
  refine⟨.ref s.heap.objs.size,_,I1,rfl,⟨_,x,hfr,rfl,rfl,λys hy=>by rw[I.Mj hy hq]; exact hx⟩,⟨u,?_,li2⟩,fre⟩
  have e2':IsEnum h2 e it ((i:Int) + 1) u:=e2
  show IsEnum h2 e it (((i + 1:Nat):Int)) u
  rw[Int.natCast_add]
  exact e2'
 done:=by
  intro X hP hw hK hc i pins s σ H E I hf ⟨old,st,li⟩ hg
  subst hP hw hK
  obtain⟨xs,hq,hx⟩:=hg
  obtain⟨its,rv,p,hz⟩:=I.list hq
  obtain⟨f0,f1,f2,f3,f4,f5⟩:=hf it (by simp)
  have hl:=rv.length
  exact wpAny_pyNext_enum_end (I.ok.hd hc) st li p.isList (by simp; lia) λh' eb=>⟨rfl,I.turned (t':=s.toks) (λb o hb q=>eb b o hb q) f0 f1 f3 f4 f5⟩
 self:=λ_ _ _ _ _ ⟨_,st,_⟩ h=>wpAny_pyIter_enum st h
def acj(K:af)(ta:TA):TI:=λσ H R=>ta σ H λvs H1=>∃ a xs,vs = [.ref a]/\bJ K H1 a xs/\R (Ite K a) H1
theorem WC{l:Expr}{ta:TA}{p pos:Pos}{elts:List Expr}{x1}{tpos:Pos}(hg:Gl X "enumerate")(hm:X.mg "enumerate" = none)(ha:PA X [l] ta)(hs:starEach [l] X.env = [(false,eval l X.env)]:=by rfl) :
 PI X (.Tuple elts x1 tpos) (.Call (.Name "enumerate" p) [l] [] pos) (acj X.K ta):=by
 intro pins s σ H R I h
 refine Call_ (Ga I hg hm boot_enumerate (PyProof.Rows.callWith_type1 (gv (ha pos pins s σ H _ I h) λus s1 ⟨vs,H1,I1,r1,q1⟩=>?_) hs rfl))
 obtain⟨a,xs,e,hq,q⟩:=q1
 subst e
 cases r1 with
 | cons r rr =>
  cases rr
  cases r
  obtain⟨its,rv,pl,hz⟩:=I1.list hq
  refine call_enumerate_list pl.isList λh' en li sz kp=>wpAny_pyIter_enum en ?_
  have I2:Inv X pins σ H1 { s1 with heap:=h',toks:=s1.toks }:=I1.kept kp
  have fr:∀ b,s1.heap.objs.size<=b->Ck X pins H1 b:=λb hb=>I1.TM hb (I1.hok.fresh hb)
  refine⟨s1.heap.objs.size + 1,[s1.heap.objs.size + 1,s1.heap.objs.size],_,_,H1,rfl,I2,RW a _ _ (Nat.succ_ne_self _),⟨.none,en,li⟩,λb hb=>?_,q⟩
  rcases bA.mp hb with z | hb
  ·subst z; exact fr _ (by lia)
  ·have z:b=s1.heap.objs.size:=by simpa using hb
   subst z; exact fr _ (by lia)
end
theorem aC.dB{K:af}{H H':Hp}{a:Addr}{xs:List V}(e:aC H H')(h:cH K H a xs):cH K H' a xs:=by
 rcases h with (h | ⟨o,h⟩) | h
 ·exact .inl (.inl (e _ _ h))
 ·exact .inl (.inr ⟨o,e _ _ h⟩)
 ·exact .inr h
theorem aC.new{H:Hp}{p:Addr}{o:HO}(h:H p=none):aC H (upd H p o):=λb u e=>by rw[aD (aF e h)]; exact e
theorem aC.out{H0 H:Hp}{p:Addr}{o:HO}(s:aC H0 H)(h:H0 p=none):aC H0 (upd H p o):=λb u e=>by rw[aD (aF e h)]; exact s b u e
mutual
def Rep(K:af)(H:Hp):PyData->V->Prop
 | .none,v=>v = .eU
 | .bool b,v=>v = .bl b
 | .int i,v=>v = .int i
 | .str x,v=>v = .str x
 | .list ds,v=>∃ a vs,v = .ref a/\bJ K H a vs/\b4 K H ds vs
 | .tuple ds,v=>∃ a vs,v = .ref a/\cH K H a vs/\b4 K H ds vs
 | .dict _,_=>False
def b4(K:af)(H:Hp):List PyData->List V->Prop
 | [],vs=>vs = []
 | d :: ds,vs=>∃ v r,vs=v :: r/\Rep K H d v/\b4 K H ds r
end
section
variable{K:af}{H H':Hp}
mutual
theorem Rep.mono(s:aC H H'):∀ {d:PyData} {v:V},Rep K H d v->Rep K H' d v
 | .none,_,h=>h
 | .bool _,_,h=>h
 | .int _,_,h=>h
 | .str _,_,h=>h
 | .list ds,_,⟨a,vs,e,q,r⟩=>⟨a,vs,e,s.seq q,b4.mono s r⟩
 | .tuple ds,_,⟨a,vs,e,q,r⟩=>⟨a,vs,e,s.dB q,b4.mono s r⟩
 | .dict _,_,h=>h
theorem b4.mono(s:aC H H'):∀ {ds:List PyData} {vs:List V},b4 K H ds vs->b4 K H' ds vs
 | [],_,h=>h
 | _ :: _,_,⟨v,r,e,q,t⟩=>⟨v,r,e,q.mono s,b4.mono s t⟩
end
theorem b4.length:∀ {ds:List PyData} {vs:List V},b4 K H ds vs->vs.length=ds.length
 | [],_,h=>by rw[h]; rfl
 | _ :: _,_,⟨v,r,e,_,t⟩=>by rw[e,bE,bE,b4.length t]
theorem b4.get:∀ {ds:List PyData} {vs:List V} {i:Nat} {d:PyData},b4 K H ds vs->ds[i]?=some d->∃ v,vs[i]?=some v/\Rep K H d v
 | [],_,_,_,_,e=>by simp at e
 | x :: ds,_,0,d,⟨v,r,e,q,t⟩,h=>by
  subst e
  have z:x=d:=by simpa using h
  subst z
  exact⟨v,rfl,q⟩
 | _ :: ds,_,i + 1,d,⟨v,r,e,q,t⟩,h=>by
  subst e
  obtain⟨y,h1,h2⟩:=b4.get (i:=i) (d:=d) t (by simpa using h)
  exact⟨y,by simpa using h1,h2⟩
theorem b4.snoc:∀ {ds:List PyData} {vs:List V} {d:PyData} {v:V},b4 K H ds vs->Rep K H d v->b4 K H (ds++[d]) (vs++[v])
 | [],_,_,v,h,q=>by rw[h]; exact⟨v,[],rfl,q,rfl⟩
 | _ :: _,_,_,_,⟨y,r,e,q,t⟩,p=>by subst e; exact⟨y,_,rfl,q,b4.snoc t p⟩
theorem jC:∀ ns:List Int,b4 K H (ns.map PyData.int) (ns.map V.int)
 | []=>rfl
 | n :: ns=>⟨.int n,_,rfl,rfl,jC ns⟩
theorem yS:∀ {ns:List Int} {vs:List V},b4 K H (ns.map PyData.int) vs->vs=ns.map V.int
 | [],_,h=>h
 | n :: ns,_,⟨v,r,e,q,t⟩=>by
  have q':v = .int n:=q
  rw[e,q',yS t]; rfl
theorem Rep.Gn{ns:List Int}{a:Addr}(h:cH K H a (ns.map V.int)):Rep K H (.tuple (ns.map .int)) (.ref a):=⟨a,_,rfl,h,jC ns⟩
theorem Rep.yU{ns:List Int}{v:V}(h:Rep K H (.tuple (ns.map .int)) v):∃ a,v = .ref a/\cH K H a (ns.map V.int):=by
 obtain⟨a,vs,e,q,r⟩:=h
 rw[yS r] at q
 exact⟨a,e,q⟩
end
section
variable{X:Cx}{pins:List (Addr × Obj)}{σ:St}{H:Hp}{s:Shared}
mutual
theorem Rep.reads(I:Inv X pins σ H s):∀ {d:PyData} {v:V} {u:Value},Rep X.K H d v->RelV v u->∃ as,Reads s.heap u d as
 | .none,_,_,h,r=>by cases h; cases r; exact⟨_,.none⟩
 | .bool b,_,_,h,r=>by cases h; cases r; exact⟨_,.bool b⟩
 | .int i,_,_,h,r=>by cases h; obtain⟨t,rfl⟩:=r; exact⟨_,.int i t⟩
 | .str x,_,_,h,r=>by cases h; obtain⟨t,rfl⟩:=r; exact⟨_,.str x t⟩
 | .list ds,_,_,⟨a,vs,e,q,t⟩,r=>by
  subst e
  cases r
  obtain⟨its,rv,⟨o,n,e1,e2,e3,e4⟩,_⟩:=I.list q
  obtain⟨as,ra⟩:=b4.reads I t rv
  exact⟨_,.list e1 e2 e4 (by simpa using ra)⟩
 | .tuple ds,_,_,⟨a,vs,e,q,t⟩,r=>by
  subst e
  cases r
  obtain⟨its,rv,⟨o,e1,e2,n,e4⟩,_⟩:=I.tuple q
  obtain⟨as,ra⟩:=b4.reads I t rv
  exact⟨_,.tuple e1 e2 e4 (by simpa using ra)⟩
 | .dict _,_,_,h,_=>h.elim
theorem b4.reads(I:Inv X pins σ H s):∀ {ds:List PyData} {vs:List V} {us:List Value},b4 X.K H ds vs->bT vs us->∃ as,ReadsAll s.heap us ds as
 | [],_,_,h,r=>by cases h; cases r; exact⟨_,.nil⟩
 | _ :: _,_,_,⟨v,w',e,q,t⟩,r=>by
  subst e
  cases r with
  | cons r1 r2 =>
   obtain⟨as,h1⟩:=q.reads I r1
   obtain⟨bs,h2⟩:=b4.reads I t r2
   exact⟨_,.cons h1 h2⟩
end
end
section
variable{X:Cx}
def af2(K:af)(u:Nat):R2:=λx y H Q=>∃ da db,Rep K H da x/\Rep K H db y/\da.canLay0=true/\db.canLay0=true/\u + min da.depth db.depth < cLine/\Q (.bl (PyData.eqv da db)) H
def af3(K:af)(u:Nat):R2:=λx y H Q=>∃ da db,Rep K H da x/\Rep K H db y/\da.canLay0=true/\db.canLay0=true/\u + min da.depth db.depth < cLine/\Q (.bl (!PyData.eqv da db)) H
theorem uF:vI X (compareOp .Eq) (af2 X.K X.A.units):=by
 intro pins s σ H x y v u Q I rx ry ⟨da,db,ha,hb,ca,cb,hu,q⟩
 obtain⟨as,ra⟩:=ha.reads I rx
 obtain⟨bs,rb⟩:=hb.reads I ry
 exact SeqAt.compareEq_reads ra rb ca cb hu ⟨.bl _,H,I,rfl,q⟩
theorem Lc:vI X (compareOp .NotEq) (af3 X.K X.A.units):=by
 intro pins s σ H x y v u Q I rx ry ⟨da,db,ha,hb,ca,cb,hu,q⟩
 obtain⟨as,ra⟩:=ha.reads I rx
 obtain⟨bs,rb⟩:=hb.reads I ry
 exact SeqAt.compareNe_reads ra rb ca cb hu ⟨.bl _,H,I,rfl,q⟩
theorem Gp:rP X (.builtin "isinstance") (λxs H Q=>∃ x n t b,xs = [x,.ty n]/\DB X.K H x t/\PySem.W.kitOne X.K t (.type n)=some b/\Q (.bl b) H):=by
 intro pins s σ H xs us Q I r ⟨x,n,t,b,e,ty,k,q⟩
 subst e
 obtain⟨u,w',e,ru,rw'⟩:=bT.two r
 subst e
 cases rw'
 exact RI I ru ty k λtk=>⟨.bl _,H,I.tok tk,rfl,q⟩
theorem RY(hc:X.calm=true):rP X (.type "set") (λxs H Q=>∃ (a:Addr) (ns:List Int),xs = [.ref a]/\bJ X.K H a (ns.map V.int)/\ns.length + 1 < scanBound /\
 ∀ p,H p=none->Q (.ref p) (upd H p (.set (λk'=>(firstMet (λi=>ns.getD i 0) ns.length).any (· == k')) (firstMet (λi=>ns.getD i 0) ns.length).length))):=by
 intro pins s σ H xs us Q I r ⟨a,ns,e,hq,hb,q⟩
 subst e
 obtain⟨u,e,ru⟩:=bT.one r
 subst e
 cases ru
 obtain⟨its,rv,p,hz⟩:=I.list hq
 have hl:=rv.length
 rw[ah] at hl
 have esz:its.toArray.size=ns.length:=by simp[hl]
 refine call_set_list (I.ok.hd hc) p.isList (ns:=ns) (by simpa using intsAre_of rv) (by rw[esz]; exact hb) λh' tk so kp=>?_
 rw[esz] at so
 exact⟨.ref s.heap.objs.size,_,I.laid (o:=.set (λk'=>(firstMet (λi=>ns.getD i 0) ns.length).any (· == k')) (firstMet (λi=>ns.getD i 0) ns.length).length) (λb o e=>kp b o (Heap.lt_size e) e) (au _) so,rfl,q _ (I.hok.fresh (au _))⟩
theorem RZ:rP X (.builtin "len") (λxs H Q=>∃ (a:Addr) (S:Int->Bool) (n:Nat),xs = [.ref a]/\H a=some (.set S n)/\Q (.int n) H):=by
 intro pins s σ H xs us Q I r ⟨a,S,n,e,hq,q⟩
 subst e
 obtain⟨u,e,ru⟩:=bT.one r
 subst e
 cases ru
 obtain⟨o,es,ep,t,e1,e2,e3,e4,e5,e6,e7,e8⟩:=(show s.heap.SetOf (intKind X.prog X.w) a S n from I.hok a _ hq)
 subst e8
 refine call_len_set e1 e2 e3 e7 ?_ ⟨.int _,H,I.tok _,⟨_,rfl⟩,q⟩
 have:es.size < 2 ^ 62:=bx e6 (by decide)
 lia
theorem R0(hc:X.calm=true):rP X (.builtin "min") (λxs H Q=>∃ (a:Addr) (ns:List Int),xs = [.ref a]/\bJ X.K H a (ns.map V.int)/\0 < ns.length/\∀ m,m∈ns->(∀ n∈ns,m<=n)->Q (.int m) H):=by
 intro pins s σ H xs us Q I r ⟨a,ns,e,hq,hne,q⟩
 subst e
 obtain⟨u,e,ru⟩:=bT.one r
 subst e
 cases ru
 obtain⟨its,rv,p,hz⟩:=I.list hq
 have hi:IntsAre its ns:=intsAre_of rv
 have hl:=p.isList
 obtain⟨xs,e⟩:=hi.allInts.items
 have hns:ns=xs.toList.map (·.1):=by
  rw[<- hi.numsOf,<- nums_intItems,<- e]
 have hsz:0 < xs.size:=by
  have h3:=hne; rw[hns,ah,aN] at h3; exact h3
 rw[e] at hl
 refine min_intList (I.ok.hd hc) hl hsz λv h' tk hv hk=>?_
 obtain⟨t,rfl⟩:=intItems_at hv
 obtain⟨h1,h2⟩:=argBest_lt (numAt xs) (xs.size - 1)
 refine⟨.int _,H,I.kept hk,⟨t,rfl⟩,q _ ?_ λa ha=>?_⟩
 ·rw[hns,numAt_eq]; exact getD_mem (by rw[ah,aN]; lia)
 ·rw[hns] at ha
  obtain⟨j,hj,rfl⟩:=mem_getD ha
  rw[ah,aN] at hj
  rw[<- numAt_eq]; exact h2 j (by lia)
end
noncomputable def Ld(scope Yn:Scope)(N0 N2:List Str)(cap:List (Option Nat)):Bool :=
 (scope.kind == .function) && (scope.names.all λy=>y.2 != .cell) && (scope.names.all λy=>y.2 != .local || scope.names.lookup y.1 == some .local) &&
 (scope.names.all λy=>y.2 != .free || Yn.names.lookup y.1 == some .cell) && (scope.names.all λy=>y.2 != .free || scope.names.lookup y.1 == some .free) && decide N2.Nodup && (cap.length == N2.length) &&
 ((aq cap.length).all λi=>match cap[i]?,N2[i]? with
   | some (some j),some x=>N0[j]? == some x && scope.names.any (λy=>y.1 == x && y.2 == .free)
   | _,_=>true)
theorem R1{X:Cx}{scope Yn:Scope}{N0 N2:List Str}{cap:List (Option Nat)}(hd:X.env.scope=Yn)(hN:X.N=N0)(h:Ld scope Yn N0 N2 cap=true):jB X scope N2 cap:=by
 unfold Ld at h
 simp only[dF] at h
 obtain⟨⟨⟨⟨⟨⟨⟨h1,h2⟩,h3⟩,h4⟩,h5⟩,h6⟩,h7⟩,h8⟩:=h
 rw[wL] at h2 h3 h4 h5 h8
 refine⟨by simpa using h1,λy hy e=>?_,λy hy e=>?_,λy hy e=>?_,λy hy e=>?_,of_decide_eq_true h6,by simpa using h7,λi j x e1 e2=>?_⟩
 ·have:=h2 y hy; rw[e] at this; exact absurd this (by decide)
 ·have:=h3 y hy; rw[e] at this; simpa using this
 ·have:=h4 y hy
  rw[e] at this
  show X.env.scope.names.lookup y.1=some .cell
  rw[hd]
  simpa using this
 ·have:=h5 y hy; rw[e] at this; simpa using this
 ·have hi:i < cap.length:=(ai.mp e1).1
  have q:=h8 i (fc.mpr hi)
  rw[e1,e2] at q
  simp only[dF] at q
  refine⟨by rw[hN]; simpa using q.1,?_⟩
  obtain⟨y,hy,z⟩:=gw.mp q.2
  simp only[dF] at z
  have e3:y.1=x:=by simpa using z.1
  have e4:y.2 = .free:=by simpa using z.2
  rw[<- e3,<- e4]
  exact hy
def CW(H1:Hp)(acc:Addr)(n:Nat)(P:Nat->List V->Hp->Prop):Nat->Nat->Hp->Prop :=
 λi m H=>m=n - i/\i<=n/\aC H1 H/\∃ ys,H acc=some (.lst ys)/\P i ys H
theorem fQ{J:It}{n:Nat}{cap:List (Option Nat)}{g:TG}{tc:TT}{te:TE}{σ:St}{Qr:Hp->Prop}{H1:Hp}{acc:Addr}(P:Nat->List V->Hp->Prop)(hacc:H1 acc=none)
 (go:∀ i H,i < n->aC H1 H->J.go i H) (stop:∀ H,aC H1 H->J.stop n H) (h0:P 0 [] (upd H1 acc (.lst [])))
 (step:∀ i ys H,i < n->aC H1 H->H acc=some (.lst ys)->P i ys H->∀ x H',J.Ml i H x H'->g x (jA cap σ) H' λσ2 H2=>tc σ2 H2 λb H3=>if b=true then te σ2 H3 λy H4=>∃ xs,H4 acc=some (.lst xs)/\xs.length < sizeLine /\
  ∃ m',m' < n - i/\CW H1 acc n P (i + 1) m' (upd H4 acc (.lst (xs++[y]))) else ∃ m',m' < n - i/\CW H1 acc n P (i + 1) m' H3)
 (fin:∀ ys H,aC H1 H->H acc=some (.lst ys)->P n ys H->Qr H) :
 ∃ W:Nat->Nat->Hp->Prop,(∃ m,W 0 m (upd H1 acc (.lst [])))/\∀ i m H,W i m H ->
  (J.stop i H/\Qr H)∨(J.go i H/\∀ x H',J.Ml i H x H'->g x (jA cap σ) H' λσ2 H2=>tc σ2 H2 λb H3=>if b=true then te σ2 H3 λy H4=>∃ xs,H4 acc=some (.lst xs)/\xs.length < sizeLine /\
   ∃ m',m' < m/\W (i + 1) m' (upd H4 acc (.lst (xs++[y]))) else ∃ m',m' < m/\W (i + 1) m' H3):=by
 refine⟨CW H1 acc n P,⟨n,rfl,br _,aC.new hacc,[],ao,h0⟩,?_⟩
 rintro i m H ⟨rfl,hi,s,ys,hy,p⟩
 by_cases hlt:i < n
 ·exact .inr ⟨go i H hlt s,step i ys H hlt s hy p⟩
 ·have e:i=n:=by lia
  subst e
  exact .inl ⟨stop H s,fin ys H s hy p⟩
theorem dZ{H1 H4:Hp}{acc:Addr}{n i:Nat}{P:Nat->List V->Hp->Prop}{ys:List V}{y:V}(hacc:H1 acc=none)(hi:i < n)(s:aC H1 H4)(hy:H4 acc=some (.lst ys))(hl:ys.length < sizeLine)(p:P (i + 1) (ys++[y]) (upd H4 acc (.lst (ys++[y])))) :
 ∃ xs,H4 acc=some (.lst xs)/\xs.length < sizeLine/\∃ m',m' < n - i/\CW H1 acc n P (i + 1) m' (upd H4 acc (.lst (xs++[y]))) :=
 ⟨ys,hy,hl,n - (i + 1),by lia,rfl,hi,s.out hacc,_,ao,p⟩
theorem i0{H1 H3:Hp}{acc:Addr}{n i:Nat}{P:Nat->List V->Hp->Prop}{ys:List V}(hi:i < n)(s:aC H1 H3)(hy:H3 acc=some (.lst ys))(p:P (i + 1) ys H3):∃ m',m' < n - i/\CW H1 acc n P (i + 1) m' H3 :=
 ⟨n - (i + 1),by lia,rfl,hi,s,_,hy,p⟩
theorem yV{K:af}{a:Addr}{xs:List V}{H1:Hp}(h:bJ K H1 a xs):∀ i H,i < xs.length->aC H1 H->(KZ K a).go i H:=λi H hi s=>⟨xs,xs[i],s.seq h,by simp[hi]⟩
theorem o6{K:af}{a:Addr}{xs:List V}{H1:Hp}(h:bJ K H1 a xs):∀ H,aC H1 H->(KZ K a).stop xs.length H:=λH s=>⟨xs,s.seq h,au _⟩
theorem ZP{K:af}{a:Addr}{xs:List V}{H1:Hp}(h:bJ K H1 a xs):∀ i H,i < xs.length->aC H1 H->(Ite K a).go i H:=λi H hi s=>⟨xs,xs[i],s.seq h,by simp[hi]⟩
theorem Uz{K:af}{a:Addr}{xs:List V}{H1:Hp}(h:bJ K H1 a xs):∀ H,aC H1 H->(Ite K a).stop xs.length H:=λH s=>⟨xs,s.seq h,au _⟩
theorem yW{lo:Int}{n:Nat}{H1:Hp}:∀ i H,i < n->aC H1 H->(TR lo n).go i H:=λi H hi s=>hi
theorem pe{lo:Int}{n:Nat}{H1:Hp}:∀ H,aC H1 H->(TR lo n).stop n H:=λH s=>au n
noncomputable def hide(H:Hp)(l:Addr):Hp:=λb=>if b=l then none else H b
theorem ZQ{α:Type}{xs:List α}{i:Int}{v:α}(h0:0<=i)(h:xs[i.toNat]?=some v):IK xs i=some v:=by
 obtain⟨k,rfl⟩:=Int.eq_ofNat_of_zero_le h0
 exact dG (by simpa using h)
theorem UA{ns:List Int}{i:Int}(h0:0<=i)(h:i < ns.length):IK (ns.map V.int) i=some (.int (ns.getD i.toNat 0)):=by
 have hk:i.toNat < ns.length:=by lia
 refine ZQ h0 ?_
 rw[aj,az,aa hk]
 rfl
section
variable{X:Cx}
theorem UB(K:af)(h:X.K=K):IxR X (RL K):=by subst h; exact Qn
theorem WD(K:af)(h:X.K=K):IxR X (RN K):=by subst h; exact Ul
theorem Bk(K:af)(h:X.K=K):vI X (compareOp .In) (rIn K false):=by subst h; exact lP
theorem FO(K:af)(h:X.K=K){e:Expr}{f:Str}{pos:Pos}{ta:TE}(he:PE X e ta)(hb:attributeBase e f X.env (eval e X.env)=eval e X.env):PE X (.Attribute e f pos) (Gj K ta f):=by subst h; exact aO he hb
theorem Qx(K:af)(h:X.K=K){es:List Expr}{k:Nat}{pos:Pos}{t:Zl}{n:Nat}(hc:X.calm=true)(h':om X es t)(hn:(assignEach es X.env).length=n:=by rfl)
 (hst:(assignEach es X.env).findIdx? (·.1)=none:=by rfl):PG X (.Tuple es k pos) (Zn K n t):=by subst h; exact Ow hc h' hn hst
theorem R3:rP X (.builtin "isinstance") (λxs H Q=>∃ (a:Addr) (ys:List V) (n:String) (b:Bool),xs = [.ref a,.ty n]/\bJ X.K H a ys/\PySem.W.kitOne X.K (.type "list") (.type n)=some b/\Q (.bl b) H):=by
 intro pins s σ H xs us Q I r ⟨a,ys,n,b,e,hq,k,q⟩
 subst e
 obtain⟨u,w',e,ru,rw'⟩:=bT.two r
 subst e
 cases rw'
 cases ru
 obtain⟨its,rv,⟨o,n',h1,h2,_⟩,_⟩:=I.list hq
 exact dX PySem.W.kitx_list I.Cd ⟨o,h1,h2⟩ k (λz=>nomatch z) λtk=>⟨.bl _,H,I.tok tk,rfl,q⟩
noncomputable def dJ:Expr->Bool
 | .Starred _ _=>false
 | _=>true
theorem Mz{e:Expr}{es:List Expr}{env:Env}(h:dJ e=true):starEach (e :: es) env=(false,eval e env) :: starEach es env:=by
 cases e <;> first | rfl | (exact Bool.noConfusion h) | simp[starEach]
theorem mw{e:Expr}{es:List Expr}{te:TE}{t:TA}(ha:PE X e te)(hr:PA X es t)(hs:dJ e=true:=by rfl):PA X (e :: es) (fZ te t):=Wu ha hr (Mz hs)
theorem WE{bs:List Bool}{us:List Value}(r:bT (bs.map V.bl) us){i:Nat}{v:Value}(h:us[i]?=some v):v = .bool (bs.getD i true):=by
 have hl:=r.length
 rw[ah] at hl
 have hi:i < us.length:=(ai.mp h).1
 have e:(bs.map V.bl)[i]?=some (.bl (bs.getD i true)):=by
  rw[aj,aa (by lia),az,aa (by lia)]; rfl
 obtain⟨u,hu,ru⟩:=r.get e
 rw[h] at hu
 cases hu
 exact ru
theorem range_all(bs:List Bool):((aq bs.length).all λi=>bs.getD i true)=bs.all id:=by
 rw[gR,wL,wL]
 constructor
 ·intro h x hx
  obtain⟨i,hi,e⟩:=List.getElem_of_mem hx
  have:=h i (fc.mpr hi)
  rw[az,aa hi,e] at this
  exact this
 ·intro h i hi
  have hi:=fc.mp hi
  have:=h bs[i] (aL hi)
  rw[az,aa hi]
  exact this
theorem UC(hc:X.calm=true):rP X (.builtin "all") (λxs H Q=>∃ (a:Addr) (bs:List Bool),xs = [.ref a]/\bJ X.K H a (bs.map V.bl)/\Q (.bl (bs.all id)) H):=by
 intro pins s σ H xs us Q I r ⟨a,bs,e,hq,q⟩
 subst e
 obtain⟨u,e,ru⟩:=bT.one r
 subst e
 cases ru
 obtain⟨its,rv,p,hz⟩:=I.list hq
 have hl:=rv.length
 rw[ah] at hl
 refine call_all_walk (wpAny_pyIter_list p.isList ?_)
 have hlt:a < s.heap.objs.size:=by obtain⟨o,n,e,_⟩:=p; exact Heap.lt_size e
 refine⟨s.heap.objs.size,_,_,_,_,_,λi=>bs.getD i true,rfl,Walks.list (A:=X.A.in1) (show X.A.in1.handled=none from I.ok.hd hc) _ a (bw hlt) its.toArray,⟨⟨_,Heap.get?_push_size _ rfl,rfl,rfl⟩,p.isList.at λo e=>Heap.get?_push_of_some _ e⟩,?_,λh' tk hk=>?_⟩
 ·intro i v s Q E hP hQ
  have e:=WE rv (show its[i]?=some v by simpa using hP)
  subst e
  exact wpAny_truthy_bool hQ
 ·have e:(aq its.toArray.size).all (λi=>bs.getD i true)=bs.all id:=by
   rw[show its.toArray.size=bs.length by simp[hl]]
   exact range_all bs
  rw[e]
  exact⟨.bl _,H,I.kept (t':=tk) λb o e=>hk b o (by
   intro z
   have:b=s.heap.objs.size:=by simpa using z
   exact absurd (Heap.lt_size e) (by rw[this]; exact gJ _)) (Heap.get?_push_of_some _ e),rfl,q⟩
end
end L2
namespace Gr
abbrev Ps:=List (Int × Int)
def yX(ps:Ps)(k:Nat)(x y:Int):Prop:=ps[k]?=some (x,y)∨ps[k]?=some (y,x)
theorem Bl{α:Type}{xs:List α}{x:α}(h:xs.Nodup)(hx:x ∉ xs):(xs++[x]).Nodup:=by
 rw[uA]
 refine⟨h,by simp,λa ha b hb=>?_⟩
 have:b=x:=by simpa using hb
 rw[this]
 exact λe=>hx (e ▸ ha)
noncomputable def ends(ps:Ps):List Int:=ps.flatMap λp=>[p.1,p.2]
end Gr
namespace L2
open PySem Gr
noncomputable abbrev two(a b:Int):List V:=[.int a,.int b]
def UD(K:af)(ta:TE):TT:=λσ H Q=>ta σ H λx H'=>∃ k,Zw K x H' k/\Q k H'
theorem R4{X:Cx}{a:Expr}{ta:TE}(ha:PE X a ta)(he:∀ whole,isTrue a X.env whole=(do let v <- whole; standAt a.pos; holding [v] (truthy v))):PT X a (UD X.K ta):=Uc ha he
end L2
namespace L2
open PySem PySem.Spec PyProof.Rows
section
variable{X:Cx}
theorem MA:rP X (.type "range") (λxs H Q=>∃ j:Int,xs = [.int j]/\∀ p,H p=none->Q (.ref p) (upd H p (.Tt 0 j))):=by
 intro pins s σ H xs us Q I r ⟨j,e,q⟩
 subst e
 obtain⟨u,e,ru⟩:=bT.one r
 subst e
 obtain⟨t,rfl⟩:=ru
 refine call_range_1 ⟨.ref s.heap.objs.size,_,I.laid (a:=s.heap.objs.size) (o:=.Tt 0 j) (λb o e=>Heap.get?_push_of_some _ e) (au _) ?_,rfl,q _ (I.hok.fresh (au _))⟩
 exact⟨_,_,_,Heap.get?_push_size _ rfl⟩
theorem OT{acc:Array Value}{n:Nat}(hl:acc.size=n)(h:∀ (i:Nat) (v:Value),acc[i]?=some v->∃ t,v=Value.int (0 + (i:Int) * 1) t):bT ((aq n).map λk=>V.int (k:Nat)) acc.toList:=by
 have key:∀ (us:List Value) (m:Nat),(∀ (i:Nat) (v:Value),us[i]?=some v->∃ t,v=Value.int ((m + i:Nat):Int) t)->bT ((List.range' m us.length).map λk=>V.int (k:Nat)) us:=by
  intro us
  induction us with
  | nil=>intro m _; exact .nil
  | cons u us ih =>
   intro m hh
   rw[bE,List.range'_succ,ck]
   refine .cons (hh 0 u rfl) (ih (m + 1) λi v e=>?_)
   obtain⟨t,q⟩:=hh (i + 1) v (by simpa using e)
   exact⟨t,by rw[q]; congr 1; lia⟩
 have:=key acc.toList 0 λi v e=>by
  obtain⟨t,q⟩:=h i v (by simpa using e)
  exact⟨t,by rw[q]; congr 1; lia⟩
 rw[aN,hl,<- List.range_eq_range'] at this
 exact this
theorem OU(hc:X.calm=true):rP X (.type "list") (λxs H Q=>∃ (p:Addr) (j:Nat),xs = [.ref p]/\H p=some (.Tt 0 j)/\j<=1000/\∀ l,H l=none->Q (.ref l) (upd H l (.lst ((aq j).map λk=>.int (k:Nat))))):=by
 intro pins s σ H xs us Q I r ⟨p,j,e,hp,hj,q⟩
 subst e
 obtain⟨u,e,ru⟩:=bT.one r
 subst e
 cases ru
 obtain⟨t,u,v,hr⟩:=(show fh X.prog X.w H s.heap p (.Tt 0 j) from I.hok p _ hp)
 refine call_list_range (I.ok.hd hc) (n:=j) hr (small_one (by lia) (by lia) (by lia) (by lia)) (by rw[rangeSize_one]; split <;> lia) (by lia) λh' tk acc' c' hk hS hi=>?_
 obtain⟨hsz,hit⟩:=hi
 have hv:=OT hsz hit
 refine⟨.ref s.heap.objs.size,_,I.laid (a:=s.heap.objs.size) (o:=.lst ((aq j).map λk=>.int (k:Nat))) hk (au _) ⟨?_,acc'.toList,c',hv,by simpa using hS⟩,rfl,q _ (I.hok.fresh (au _))⟩
 rw[ah,bH]
 exact iL (bW hj)
end
end L2
namespace Gr
end Gr
namespace L2
open PySem PySem.Spec PyProof.Rows
def WG(h:Heap)(e T:Addr)(cls fl:Value):Prop :=
 ∃ oe vs oT ts,h.get? e=some oe/\oe.cls=cls/\oe.dict=none/\oe.data = .fields vs/\vs[1]?=some (.ref T)/\T≠e/\h.get? T=some oT/\oT.data = .fields ts/\ts[3]?=some fl
structure JP(F R:List Addr)(h h':Heap):Prop where
 keep:∀ b o,b ∉ F->b ∉ R->h.get? b=some o->h'.get? b=some o
 slot:∀ b o,b∈F->b ∉ R->h.get? b=some o->∃ sl,h'.get? b=some { o with slots:=sl }
theorem JP.mono{F R R':List Addr}{h h':Heap}(t:JP F R h h')(hs:∀ b∈R,b∈R'):JP F R' h h' :=
 ⟨λb o h1 h2 e=>t.keep b o h1 (λz=>h2 (hs b z)) e,λb o h1 h2 e=>t.slot b o h1 (λz=>h2 (hs b z)) e⟩
theorem JP.trans{F R:List Addr}{h h1 h2:Heap}(a:JP F R h h1)(b:JP F R h1 h2):JP F R h h2 :=
 ⟨λc o q1 q2 e=>b.keep c o q1 q2 (a.keep c o q1 q2 e),λc o q1 q2 e=>by
  obtain⟨sl,e1⟩:=a.slot c o q1 q2 e
  obtain⟨sl2,e2⟩:=b.slot c _ q1 q2 e1
  exact⟨sl2,e2⟩⟩
theorem JP.ack{F:List Addr}{h:Heap}{a:Addr}{g:Obj->Obj}:JP F [a] h (h.update a g) :=
 ⟨λb o _ h2 e=>(Heap.get?_update_other _ _ (λz=>h2 (by simp[z]))).trans e,λb o _ h2 e=>⟨o.slots,(Heap.get?_update_other _ _ (λz=>h2 (by simp[z]))).trans e⟩⟩
theorem R6{f:Array Value->Array Value}{o:Obj}:(Obj.mapFields f o).dict=o.dict:=by
 obtain⟨c,d,da,sl⟩:=o
 cases da <;> rfl
section
variable{M:Model}{A:Around}{E:Value->Shared->Prop}{s:Shared}{base:Heap}{env:Env}{outer:List Env}{L e:Addr}
theorem Gq(hl:s.heap.FunFrames base (env :: outer)){oe:Obj}{vs:Array Value}(he:s.heap.get? e=some oe)(hd:oe.data = .fields vs):e ∉ frs (env :: outer):=λhm=>by
 obtain⟨_,o,ho,hnf⟩:=hl.mem hm
 rw[he] at ho
 cases ho
 exact hnf vs hd
theorem JQ{oe:Obj}{vs:Array Value}{head:Value}{b1:Bool}{Q:Unit->Shared->Prop}(hfr:A.frames=some (env :: outer))(hl:s.heap.FunFrames base (env :: outer))(hf:env.frame=some L)
 (he:s.heap.get? e=some oe) (hdc:oe.dict=none) (hd:oe.data = .fields vs) (hsz:1 < vs.size)
 (h:∀ h',WG h' e s.heap.objs.size oe.cls (rawInt L)->JP (frs (env :: outer)) [e] s.heap h'->Q () { s with heap:=h' }) :
 wpAny M A (do let fv <- frameOf env; let pl <- entryPlaceOf L b1; let tb <- EntryCells.newEntry head fv .none (rawInt L) .none pl; setField (.ref e) 1 tb) Q E s:=by
 have hne:=Gq hl he hd
 refine wpAny_bind (wpAny_frameOf_fun hfr hl hf λg1 so=>?_)
 obtain⟨so1,so2,so3⟩:=so
 refine wpAny_bind (wpAny_entryPlaceOf λpl okp=>?_)
 unfold EntryCells.newEntry newFields
 refine wpAny_bind (wpAny_newObj_type ?_ (okp.sizeOk5 _ _ _ _ _))
 have q1:g1.get? e=some oe:=(so2 e hne).trans he
 have nTe:g1.objs.size≠e:=Nat.ne_of_gt (Heap.lt_size q1)
 refine wpAny_setField (Heap.get?_push_of_some _ q1) hd hsz (h _ ?_ ?_)
 ·have hd':=Obj.data_mapFields hd (·.setIfInBounds 1 (Value.ref g1.objs.size))
  have qT:=(Heap.get?_update_other _ (Obj.mapFields (·.setIfInBounds 1 (Value.ref g1.objs.size))) (bK nTe)).trans (Heap.get?_push_size g1 (o:={ cls:=.type "traceback",dict:=none,data:=.fields ([head,.ref L,.none,rawInt L,.none]++(if pl.isEmpty then aY 6 Value.none else pl)).toArray }) rfl)
  rw[<- so1]
  refine⟨_,_,_,_,Heap.get?_update_self _ (Heap.get?_push_of_some _ q1) (Obj.isFreed_of_fields hd'),Obj.cls_mapFields _ _,?_,hd',?_,nTe,qT,rfl,?_⟩
  ·rw[R6]
   exact hdc
  ·simp[hsz]
  ·rcases okp with rfl | ⟨_,_,_,_,_,_,_,rfl⟩ <;> simp
 ·refine⟨λb o h1 h2 eb=>?_,λb o h1 h2 eb=>?_⟩
  ·rw[Heap.get?_update_other _ _ (λz=>h2 (by simp[z]))]
   exact Heap.get?_push_of_some _ ((so2 b h1).trans eb)
  ·obtain⟨sl,q⟩:=so3 b o eb
   refine⟨sl,?_⟩
   rw[Heap.get?_update_other _ _ (λz=>h2 (by simp[z]))]
   exact Heap.get?_push_of_some _ q
theorem OV{oe:Obj}{vs:Array Value}{Q:Unit->Shared->Prop}(hfr:A.frames=some (env :: outer))(hl:s.heap.FunFrames base (env :: outer))(hf:env.frame=some L)
 (he:s.heap.get? e=some oe) (hdc:oe.dict=none) (hd:oe.data = .fields vs) (h1:vs[1]?=some .none)
 (h:∀ h',WG h' e s.heap.objs.size oe.cls (rawInt L)->JP (frs (env :: outer)) [e] s.heap h'->Q () { s with heap:=h' }):wpAny M A (noteFrame (.ref e) env) Q E s:=by
 unfold noteFrame
 simp only[hf]
 refine wpAny_bind (wpAny_field he hd h1 ?_)
 rw[if_neg (by decide)]
 exact JQ hfr hl hf he hdc hd (iB.mp h1).1 h
theorem R7{T:Addr}{cls:Value}{Q:Unit->Shared->Prop}(hfr:A.frames=some (env :: outer))(hl:s.heap.FunFrames base (env :: outer))(hf:env.frame=some L)(fl:WG s.heap e T cls .none)
 (h:∀ h',WG h' e s.heap.objs.size cls (rawInt L)->JP (frs (env :: outer)) [e,T] s.heap h'->Q () { s with heap:=h' }):wpAny M A (noteFrame (.ref e) env) Q E s:=by
 obtain⟨oe,vs,oT,ts,he,hc,hdc,hd,h1,nT,hT,ZR,h3⟩:=fl
 subst hc
 unfold noteFrame
 simp only[hf]
 refine wpAny_bind (wpAny_field he hd h1 ?_)
 rw[if_pos (by simp)]
 refine wpAny_bind (wpAny_field hT ZR h3 ?_)
 rw[if_neg (by simp[rawInt])]
 refine wpAny_bind (wpAny_setField hT ZR (iB.mp h3).1 ?_)
 have nTf:=Gq (e:=T) hl hT ZR
 have hsz:(s.heap.update T (Obj.mapFields (·.setIfInBounds 3 Value.none))).objs.size=s.heap.objs.size:=Heap.size_after_update ..
 have other:∀ b,b≠T->(s.heap.update T (Obj.mapFields (·.setIfInBounds 3 Value.none))).get? b=s.heap.get? b:=λb hb=>Heap.get?_update_other _ _ (bK hb)
 refine JQ (s:={ s with heap:=s.heap.update T (Obj.mapFields (·.setIfInBounds 3 Value.none)) }) (base:=base) hfr (hl.of_keeps λb o hb hnf=>⟨o,(other b λz=>?_).trans hb,rfl⟩) hf ((other e (bK nT)).trans he) hdc hd (iB.mp h1).1 λh' f' t'=>?_
 ·rw[z,hT] at hb
  cases hb
  exact hnf ts ZR
 ·have f2:WG h' e s.heap.objs.size oe.cls (rawInt L):=hsz ▸ f'
  exact h h' f2 ((JP.ack.mono (by simp)).trans (t'.mono (by simp)))
theorem EH{T:Addr}{cls fl:Value}{Q:Unit->Shared->Prop}(f:WG s.heap e T cls fl)(h:∀ h',WG h' e T cls .none->(∀ F,JP F [T] s.heap h')->h'.objs.size=s.heap.objs.size->Q () { s with heap:=h' }) :
 wpAny M A (setFlight (.ref e) none) Q E s:=by
 obtain⟨oe,vs,oT,ts,he,hc,hdc,hd,h1,nT,hT,ZR,h3⟩:=f
 have hs3:3 < ts.size:=(iB.mp h3).1
 unfold setFlight
 refine wpAny_bind (wpAny_field he hd h1 ?_)
 rw[if_pos (by simp)]
 refine wpAny_setField hT ZR hs3 (h _ ?_ (λF=>JP.ack) (Heap.size_after_update ..))
 have acm:=Obj.data_mapFields ZR (·.setIfInBounds 3 ((none:Option Addr).elim Value.none λf=>rawInt f))
 exact⟨oe,vs,_,_,(Heap.get?_update_other _ _ nT).trans he,hc,hdc,hd,h1,nT,Heap.get?_update_self _ hT (Obj.isFreed_of_fields acm),acm,by simp[hs3]⟩
end
theorem fh.there{P:Program}{w:World}{H:Hp}{h:Heap}{a:Addr}:∀ {o:HO},fh P w H h a o->∃ ob,h.get? a=some ob
 | .lst _,⟨_,_,_,_,e⟩=>⟨_,e⟩
 | .tup _,⟨_,_,_,o,e,_⟩=>⟨o,e⟩
 | .dK _,⟨_,_,_,_,o,_,_,e,_⟩=>⟨o,e⟩
 | .dT _,⟨_,_,_,_,o,_,_,e,_⟩=>⟨o,e⟩
 | .set _ _,⟨o,_,_,_,e,_⟩=>⟨o,e⟩
 | .ins _ _ _,⟨_,_,_,e,_⟩=>⟨_,e⟩
 | .own _,e=>e
 | .xd _,⟨_,n,_⟩=>let ⟨o,e,_⟩:=JG n; ⟨o,e⟩
 | .met _ _,e=>⟨_,e⟩
 | .Tt _ _,⟨_,_,_,e⟩=>⟨_,e⟩
 | .Am o _,⟨e,_⟩=>⟨o,e⟩
 | .XX _,e=>⟨_,e⟩
 | .ext _,⟨_,e,_⟩=>e
theorem yK.trn{P:Program}{w:World}{H:Hp}{h h':Heap}{F R:List Addr}(ok:yK P w H h)(t:JP F R h h')(hF:∀ b∈F,H b=none)(hR:∀ b∈R,H b=none):yK P w H h':=λa o e =>
 (ok a o e).stay (λb u hb q=>t.keep b u (λz=>by
  have:=hF b z
  rcases hb with rfl | hb
  ·rw[e] at this; cases this
  ·rw[hb] at this; cases this) (λz=>by
  have:=hR b z
  rcases hb with rfl | hb
  ·rw[e] at this; cases this
  ·rw[hb] at this; cases this) q) (λ_ q=>q) λ_ _ q=>q
def Rec(X:Cx)(pins:List (Addr × Obj))(H:Hp)(b:Addr):Prop :=
 H b=none/\b≠X.env.locals/\b ∉ X.fs/\X.s₀.heap.get? b=none/\(∀ x c,X.env.cells.lookup x=some c->c≠b)/\∀ p∈X.pn++pins,p.1≠b
section
variable{X:Cx}{pins:List (Addr × Obj)}{σ:St}{H H':Hp}{s:Shared}{h':Heap}
theorem Inv.WH(I:Inv X pins σ H s)(hex:X.ex = []){b:Addr}(hn:H' b=none)(hb:s.heap.get? b=none):Rec X pins H' b:=by
 refine⟨hn,λz=>?_,λz=>?_,?_,λx c e z=>?_,λp hp z=>?_⟩
 ·obtain⟨m,⟨o,_,_,ho,_⟩,_⟩:=I.loc
  rw[<- z,hb] at ho; cases ho
 ·obtain⟨_,o,ho,_⟩:=I.Cf.mem z
  rw[hb] at ho; cases ho
 ·cases q:X.s₀.heap.get? b with
  | none=>rfl
  | some o =>
   obtain⟨o',e⟩:=I.base.there b o q (by rw[hex]; simp)
   rw[hb] at e; cases e
 ·obtain⟨v,o,ho,_⟩:=I.cell x c e
  rw[z,hb] at ho; cases ho
 ·have:=(I.pin p hp).1
  rw[z,hb] at this; cases this
theorem Inv.MB(I:Inv X pins σ H s)(hex:X.ex = []):Rec X pins H s.heap.objs.size:=by
 refine I.WH hex (I.hok.fresh (au _)) ?_
 cases q:s.heap.get? s.heap.objs.size with
 | none=>rfl
 | some o=>exact absurd (Heap.lt_size q) (gJ _)
theorem Inv.trn{R:List Addr}{t':Nat}(I:Inv X pins σ H s)(hR:∀ b∈R,Rec X pins H b)(t:JP (frs X.stack) R s.heap h'):Inv X pins σ H { s with heap:=h',toks:=t' }:=by
 have hFn:∀ b∈frs X.stack,H b=none:=λb hb=>I.KS b hb
 have any:∀ b o,b ∉ R->s.heap.get? b=some o->∃ sl,h'.get? b=some { o with slots:=sl }:=λb o hr e=>by
  by_cases hb:b∈frs X.stack
  ·exact t.slot b o hb hr e
  ·exact⟨o.slots,t.keep b o hb hr e⟩
 have Yo:∀ b o,b≠X.env.locals->b ∉ X.fs->b ∉ R->s.heap.get? b=some o->h'.get? b=some o:=λb o hL hb hr e =>
  t.keep b o (λz=>(bA.mp (I.Dz b z)).elim hL hb) hr e
 have neL:∀ b o,X.s₀.heap.get? b=some o->b≠X.env.locals:=λb o e=>bw (bx (Heap.lt_size e) I.ok.above)
 have neR:∀ b o,X.s₀.heap.get? b=some o->b ∉ R:=λb o e z=>by rw[(hR b z).2.2.2.1] at e; cases e
 have cellK:∀ x c,X.env.cells.lookup x=some c->∀ v,s.heap.IsCell c v->h'.IsCell c v:=λx c e v ⟨o,ho,hd⟩=>by
  obtain⟨sl,q⟩:=any c o (λz=>(hR c z).2.2.2.2.1 x c e rfl) ho
  exact⟨_,q,hd⟩
 refine⟨I.ok,I.os,I.bare,⟨λb o e n hb hx=>?_,λb o e n hb hx=>?_,I.base.free,λb o e hx=>?_,I.base.tups,I.base.AK,I.base.Ce⟩,?_,λx c e=>?_,I.free,I.tQ,λp hp=>?_,I.hok.trn t hFn (λb hb=>(hR b hb).1),I.len⟩
 ·exact Yo b o (neL b o e) hb (neR b o e) (I.base.keep b o e n hb hx)
 ·obtain⟨sl,e1⟩:=I.base.slot b o e n hb hx
  obtain⟨sl',e2⟩:=any b _ (neR b o e) e1
  exact⟨sl',e2⟩
 ·obtain⟨o',e1⟩:=I.base.there b o e hx
  obtain⟨sl,e2⟩:=any b _ (neR b o e) e1
  exact⟨_,e2⟩
 ·obtain⟨m,⟨o,es,ep,ho,r⟩,hl⟩:=I.loc
  obtain⟨sl,q⟩:=any _ o (λz=>(hR _ z).2.1 rfl) ho
  refine⟨m,⟨_,es,ep,q,r⟩,λi x v e1 e2 e3=>?_⟩
  obtain⟨u,ru,l⟩:=hl i x v e1 e2 e3
  refine⟨u,ru,?_⟩
  rcases l with l | ⟨k,c,e,z⟩
  ·exact .inl l
  ·exact .inr ⟨k,c,e,cellK x c e _ z⟩
 ·obtain⟨v,z⟩:=I.cell x c e
  exact⟨v,cellK x c e v z⟩
 ·obtain⟨e,n,ne,nf,d⟩:=I.pin p hp
  exact⟨Yo p.1 p.2 ne nf (λz=>(hR p.1 z).2.2.2.2.2 p hp rfl) e,n,ne,nf,d⟩
end
def XP(X:Cx)(pins:List (Addr × Obj))(σ:St)(E:XK)(e:Value)(s':Shared):Prop :=
 ∃ ea T cls H',e = .ref ea/\Inv X pins σ H' s'/\WG s'.heap ea T cls .none/\Rec X pins H' ea/\Rec X pins H' T/\E cls none H'
def Du(P:Program)(w:World):RJ:=λouter H s E e s' =>
 ∃ ea T cls H',e = .ref ea/\s'.os=s.os/\AllBare s'.gens/\Un (frs outer) [] H H' s.heap s'.heap/\yK P w H' s'.heap/\WG s'.heap ea T cls .none/\s.heap.get? ea=none/\s.heap.get? T=none/\H' ea=none/\H' T=none/\E cls none H'
theorem acp{X:Cx}{pins:List (Addr × Obj)}{σ:St}{H:Hp}{s s':Shared}{E:XK}{e:Value}(I:Inv X pins σ H s)(hex:X.ex = [])(h:Du X.prog X.w X.stack H s E e s'):XP X pins σ E e s':=by
 obtain⟨ea,T,cls,H',he,os,bare,un,hok,fl,n1,n2,h1,h2,q⟩:=h
 exact⟨ea,T,cls,H',he,I.XZ (ch:=[]) os un hok bare (λb z=>absurd z (by simp)),fl,I.WH hex h1 n1,I.WH hex h2 n2,q⟩
theorem UE{X:Cx}{pins:List (Addr × Obj)}{σ:St}{H:Hp}{s:Shared}{R:List Addr}{h':Heap}(I:Inv X pins σ H s)(hex:X.ex = [])(hR:∀ b∈R,Rec X pins H b)(t:JP (frs X.stack) R s.heap h'):Un X.fs [] X.H₀ H X.s₀.heap h':=by
 have:=(I.trn (t':=s.toks) hR t).base
 rw[hex] at this
 exact this
section
variable{P:Program}{w:World}{K:af}{mg:Str->Option Value}{base:Heap}{N:List Str}{qual:Str}{scope:Scope}{f:Addr}{cd:Value}{A:Around}{outer:List Env}{s0:Shared}{H0:Hp}{E:XK}
theorem acq{pins:List (Addr × Obj)}{σ:St}{e:Value}{s:Shared}(h:XP (nN (Du P w) P w K mg base N qual scope f cd A outer s0 H0 E) pins σ E e s):(nN (Du P w) P w K mg base N qual scope f cd A outer s0 H0 E).xe e s:=by
 obtain⟨ea,T,cls,H',rfl,I,fl,r1,r2,q⟩:=h
 show wpAny _ _ (leaving _ (.ref ea)) _ _ s
 unfold leaving
 refine wpAny_bind (R7 (base:=base) I.ok.frames I.stack rfl fl λh1 f1 t1=>?_)
 refine EH f1 λh2 f2 t2 sz=>?_
 have rn:=I.MB rfl
 have hR:∀ b∈[ea,T,s.heap.objs.size],Rec (nN (Du P w) P w K mg base N qual scope f cd A outer s0 H0 E) pins H' b:=by
  intro b hb
  simp only[bA,List.not_mem_nil,or_false] at hb
  rcases hb with z | z | z
  ·rw[z]; exact r1
  ·rw[z]; exact r2
  ·rw[z]; exact rn
 have t12:JP (frs (nN (Du P w) P w K mg base N qual scope f cd A outer s0 H0 E).stack) [ea,T,s.heap.objs.size] s.heap h2:=(t1.mono (by simp)).trans ((t2 _).mono (by simp))
 have J:=I.trn (t':=s.toks) hR t12
 exact⟨ea,_,cls,H',rfl,I.os,I.bare,UE I rfl hR t12,J.hok,f2,r1.2.2.2.1,rn.2.2.2.1,r1.1,rn.1,q⟩
theorem Qy:rQ (Du P w) (nN (Du P w) P w K mg base N qual scope f cd A outer s0 H0 E) E:=λpins σ H s e s' I h=>acq (acp I rfl h)
theorem Om.okX{x qual:Str}{st:Stmt}{f:Addr}{fd:FuncData}{N ps:List Str}{k:Nat}{sp:Sp}(F:Om K x qual st f fd)(S:aG N ps (ay st))(len:∀ vs H Q E,sp vs H Q E->vs.length=ps.length)
 (hbody:∀ (cdv:Value) (A:Around) (outer:List Env) (s:Shared) (H:Hp) (vs:List V) (Q:VK) (E:XK),jz k (A.deeper (envOfC qual (ay st) s.heap.objs.size f cdv))->sp vs H Q E ->
  ∃ t,jn (nN (Du P w) P w K mg base N qual (ay st) f cdv A outer s H E) (fC st) t/\t { nx:=λ_ H'=>Q .eU H',rt:=Q } (start N vs) H):bV P w K mg base (Du P w) (k + 1) f fd ps sp:=by
 obtain⟨oc,od,kV,doc,pm,an,cdv,ct,osl,rfl,lk,hcd⟩:=F.ex
 exact Ui lk hcd S len λA outer s H vs Q E hr Tf=>hbody cdv A outer s H vs Q E hr Tf
end
theorem JR{P:Program}{w:World}{X:Cx}:rQ (Du P w) X E0:=λ_ _ _ _ _ _ _ h=>by
 obtain⟨_,_,_,_,_,_,_,_,_,_,_,_,_,_,q⟩:=h
 exact q.elim
abbrev acs:List Value:=[.type "ValueError",.type "Exception",.type "BaseException",.type "object"]
structure UG(K:af)(C:Addr):Prop where
 ex:PySem.W.excIn K C acs "ValueError.__new__" = true
 ga:aE K (.ref C) "__getattribute__" = some (some (.builtin "BaseException.__getattribute__"))
 gb:aE K (.ref C) "__getattr__" = some none
 hd:ux K C=true
 ca:aE K (.ref C) "__class__" = some (some (.builtin "object.__class__"))
 cg:PySem.W.specialIn K (.builtin "object.__class__") "__get__" = some (some (.builtin "getset_descriptor.__get__"))
 ct:PySem.W.takesIn K (.builtin "object.__class__")=some true
 mo:PySem.W.mroIn K C (.type "object")=some true
 mb:PySem.W.mroIn K C (.type "BaseException")=some true
theorem WI{K:af}{h:Heap}{C:Addr}{bmB:List Value}{nw:String}(X:K.In h)(q:PySem.W.excIn K C bmB nw=true) :
 ∃ bm N nm qn bs hc sn su ab col dd k0 k1 k2 k3 k5 mN,h.get? C=some (excClassObj nm qn C N bs bm hc sn su ab col dd k0 k1 k2 k3 k5 nw)/\h.Ns N mN/\mN "__init__" = none/\OwnTail h bmB bm/\bm.contains (.type "BaseException")=bmB.contains (.type "BaseException"):=by
 unfold PySem.W.excIn at q
 split at q
 ·rename_i dd cd sl ho
  obtain⟨nm,bs,mro,ns,qn,hc,sn,su,ab,col,del⟩:=cd
  obtain⟨sl⟩:=sl
  split at q
  ·rename_i D bm k0 k1 k2 k3 n k5 hm hs
   simp only[dF,beq_iff_eq,Bool.not_eq_true'] at q
   obtain⟨⟨⟨⟨⟨e1,e2⟩,e3⟩,e4⟩,e5⟩,e6⟩:=q
   dsimp only at hm hs e3 e5 e6
   subst e1 e2 hm hs e3
   have T:=PySem.W.tail_of_in X e4
   exact⟨bm,ns,nm,qn,bs,hc,sn,su,ab,col,dd,k0,k1,k2,k3,k5,h.nsMap ns,X _ _ ho,.of_isNs (PySem.W.isNs_of_in X e5),PySem.W.nsMap_none_of_in X e5 e6,T,T.hasType rfl⟩
  ·cases q
 ·cases q
section
variable{P:Program}{w:World}{K:af}{mg:Str->Option Value}{base:Heap}{N:List Str}{qual:Str}{scope:Scope}{f:Addr}{cd:Value}{A:Around}{outer:List Env}{s0:Shared}{H0:Hp}{E:XK}
theorem raised{pins:List (Addr × Obj)}{σ:St}{H:Hp}{s:Shared}{h':Heap}{e C:Addr}{vs:List Value}(I:Inv (nN (Du P w) P w K mg base N qual scope f cd A outer s0 H0 E) pins σ H s)(hm:Heap.MadeExcOf s.heap h' e (.ref C) vs)
 (q:E (.ref C) none H):(nN (Du P w) P w K mg base N qual scope f cd A outer s0 H0 E).xe (.ref e) { s with heap:=h' }:=by
 have hHe:H e=none:=by
  cases z:H e with
  | none=>rfl
  | some o =>
   obtain⟨ob,eo⟩:=(I.hok e o z).there
   rw[hm.new] at eo; cases eo
 have r1:=I.WH rfl hHe hm.new
 have I1:Inv (nN (Du P w) P w K mg base N qual scope f cd A outer s0 H0 E) pins σ H { s with heap:=h' }:=I.kept (t':=s.toks) hm.keeps
 obtain⟨t,he,_,_⟩:=hm.there
 show wpAny _ _ (leaving _ (.ref e)) _ _ _
 unfold leaving
 refine wpAny_bind (OV (base:=base) I1.ok.frames I1.stack rfl he rfl rfl rfl λh1 f1 t1=>?_)
 refine EH f1 λh2 f2 t2 sz=>?_
 have rn:=I1.MB rfl
 have hR:∀ b∈[e,h'.objs.size],Rec (nN (Du P w) P w K mg base N qual scope f cd A outer s0 H0 E) pins H b:=by
  intro b hb
  simp only[bA,List.not_mem_nil,or_false] at hb
  rcases hb with z | z
  ·rw[z]; exact r1
  ·rw[z]; exact rn
 have t12:JP (frs (nN (Du P w) P w K mg base N qual scope f cd A outer s0 H0 E).stack) [e,h'.objs.size] h' h2:=(t1.mono (by simp)).trans ((t2 _).mono (by simp))
 have J:=I1.trn (t':=s.toks) hR t12
 exact⟨e,_,.ref C,H,rfl,I.os,I.bare,UE I1 rfl hR t12,J.hok,f2,r1.2.2.2.1,rn.2.2.2.1,r1.1,rn.1,q⟩
theorem Cw{x:Str}{C:Addr}{a:Expr}{np cpos pos:Pos}{te:TE}(hg:Gl (nN (Du P w) P w K mg base N qual scope f cd A outer s0 H0 E) x)(hm:mg x=some (.ref C))(hx:UG K C)(hh:A.handled=none)
 (ha:PE (nN (Du P w) P w K mg base N qual scope f cd A outer s0 H0 E) a te) (hdb:(x == ("__debug__" : Str))=false:=by decide)
 (tr:backTo cpos (starEach [a] (nN (Du P w) P w K mg base N qual scope f cd A outer s0 H0 E).env) = [(false,eval a (nN (Du P w) P w K mg base N qual scope f cd A outer s0 H0 E).env)]:=by rfl) :
 PS (nN (Du P w) P w K mg base N qual scope f cd A outer s0 H0 E) (.Raise (some (.Call (.Name x np) [a] [] cpos)) none pos) (λ_ σ H=>te σ H λ_ H1=>E (.ref C) none H1):=by
 intro pins s σ H D I h
 obtain⟨bm,Nn,nm,qn,bs,hc,sn,su,ab,col,dd,k0,k1,k2,k3,k5,mN,hC,hN,hni,T,hb⟩:=WI I.ok.mod.Zf hx.ex
 refine wpAny_Raise_call_subT (C:=C) (nm:=nm) (q:=qn) (N:=Nn) (bs:=bs) (bm:=bm) (hdct:=hc) (sn:=sn) (sub:=su) (ab:=ab) (col:=col) (dd:=dd) (k0:=k0) (k1:=k1) (k2:=k2) (k3:=k3) (k5:=k5) PySem.F.excBase_ValueError (by rw[hb]; decide) hh (by rw[tr]; rfl) hni (Ci I hg hm ⟨rfl,?_⟩ hdb)
 rw[tr]
 refine Calls.evalArgs_plain (Calls.spliced_cons (gv (ha pins s σ H _ I h) λv s1 ⟨y,H1,I1,ry,q1⟩=>Calls.spliced_nil ?_))
 exact⟨rfl,by show 1<=sizeLine; decide,I1.bk _ _ hC,hN.keeps I1.bk,T.keeps I1.bk,λh' e hmd=>raised I1 hmd q1⟩
end
end L2
namespace RM
structure Row where
 hd:Int
 co:Int
 ho:Int
 by_:Int
deriving DecidableEq
theorem Row.ext'{r s:Row}(h1:r.hd=s.hd)(h2:r.co=s.co)(h3:r.ho=s.ho)(h4:r.by_=s.by_):r=s:=by
 cases r; cases s; simp_all
def lt(r s:Row):Prop:=r.hd < s.hd∨(r.hd=s.hd/\(r.co < s.co∨(r.co=s.co/\(r.ho < s.ho∨(r.ho=s.ho/\r.by_ < s.by_)))))
instance (r s:Row):Decidable (lt r s):=by unfold lt; infer_instance
def le(r s:Row):Prop:=¬ lt s r
instance (r s:Row):Decidable (le r s):=by unfold le; infer_instance
theorem le_refl(r:Row):le r r:=by unfold le lt; lia
theorem ZS{a b c:Int}{N1 N2 N3:Prop}(h:¬ N1->¬ N2->¬ N3)(h1:¬ (b < a∨(b=a/\N1)))(h2:¬ (c < b∨(c=b/\N2))):¬ (c < a∨(c=a/\N3)):=by
 have n1:a<=b:=Int.not_lt.mp λy=>h1 (.inl y)
 have n2:b<=c:=Int.not_lt.mp λy=>h2 (.inl y)
 intro z
 rcases z with z | ⟨z,n⟩
 ·exact Int.not_lt.mpr (qF n1 n2) z
 ·subst z
  have e:=Int.le_antisymm n1 n2
  subst e
  exact h (λy=>h1 (.inr ⟨rfl,y⟩)) (λy=>h2 (.inr ⟨rfl,y⟩)) n
theorem le_trans{r s t:Row}(h1:le r s)(h2:le s t):le r t :=
 ZS (ZS (ZS λa b=>Int.not_lt.mpr (qF (Int.not_lt.mp a) (Int.not_lt.mp b)))) h1 h2
theorem Yp{r s:Row}(h:lt r s):le r s:=by unfold le lt at *; lia
structure Net where
 n:Nat
 nm:Nat->Int
 a:Nat->Nat
 b:Nat->Nat
 c:Nat->Int
 live:List Nat
 inj:∀ i j,i < n->j < n->nm i=nm j->i=j
 ab:∀ k∈live,a k < n/\b k < n/\a k≠b k
 c1:∀ k∈live,1<=c k
section
variable(N:Net)
def Gs(k h g:Nat):Prop:=k∈N.live/\((N.a k=h/\N.b k=g)∨(N.b k=h/\N.a k=g))
noncomputable def own(h:Nat):Row:=⟨N.nm h,0,0,-1⟩
noncomputable def over(k:Nat)(r:Row):Row:=⟨r.hd,r.co + N.c k,r.ho + 1,k⟩
end
variable{N:Net}
theorem Gs.symm{k h g:Nat}(e:Gs N k h g):Gs N k g h:=⟨e.1,e.2.elim (λz=>.inr ⟨z.2,z.1⟩) λz=>.inl ⟨z.2,z.1⟩⟩
theorem Gs.lt{k h g:Nat}(e:Gs N k h g):h < N.n/\g < N.n/\h≠g:=by
 obtain⟨hk,e⟩:=e
 obtain⟨h1,h2,h3⟩:=N.ab k hk
 rcases e with ⟨rfl,rfl⟩ | ⟨rfl,rfl⟩
 ·exact⟨h1,h2,h3⟩
 ·exact⟨h2,h1,bK h3⟩
theorem Gs.cost{k h g:Nat}(e:Gs N k h g):1<=N.c k:=N.c1 k e.1
structure UH(cut:Int)(R:Nat->Row)(h:Nat)(d:Row):Prop where
 one:d=own N h∨∃ k g,Gs N k h g/\(R g).ho + 1 < cut/\d=over N k (R g)
 own:le d (RM.own N h)
 all:∀ k g,Gs N k h g->(R g).ho + 1 < cut->le d (over N k (R g))
def Sane(N:Net)(R:Nat->Row):Prop:=∀ h,h < N.n->0<=(R h).ho/\(R h).ho < N.n
noncomputable def upd(R:Nat->Row)(h:Nat)(d:Row):Nat->Row:=λx=>if x=h then d else R x
structure iO(N:Net)(R:Nat->Row)(k h g:Nat):Prop where
 yX:Gs N k h g
 cut:(R g).ho + 1 < N.n
 eq:R h=over N k (R g)
theorem Gs.far{k h g g':Nat}(a:Gs N k h g)(a':Gs N k h g'):g=g':=by
 obtain⟨hk,e⟩:=a
 obtain⟨_,e'⟩:=a'
 have:=(N.ab k hk).2.2
 lia
section
variable{R:Nat->Row}{k h g:Nat}
theorem iO.ho(t:iO N R k h g):(R h).ho=(R g).ho + 1:=by rw[t.eq]; rfl
theorem iO.by(t:iO N R k h g):(R h).by_=k:=by rw[t.eq]; rfl
theorem iO.uniq{k' g':Nat}(t:iO N R k h g)(u:iO N R k' h g'):k=k'/\g=g':=by
 have h1:=t.by
 have h2:=u.by
 have e:k=k':=by lia
 subst e
 exact⟨rfl,t.yX.far u.yX⟩
theorem iO.one{h' g':Nat}(t:iO N R k h g)(u:iO N R k h' g'):h=h'/\g=g':=by
 obtain⟨hk,e⟩:=t.yX
 obtain⟨_,e'⟩:=u.yX
 have h1:=t.ho
 have h2:=u.ho
 have e3:h=h'∨(h=g'/\g=h'):=by
  rcases e with ⟨rfl,rfl⟩ | ⟨rfl,rfl⟩ <;> rcases e' with ⟨rfl,rfl⟩ | ⟨rfl,rfl⟩ <;> simp
 rcases e3 with e3 | ⟨e3,e4⟩
 ·subst e3
  exact⟨rfl,t.yX.far u.yX⟩
 ·subst e3 e4
  lia
end
end RM
namespace RM
variable{N:Net}
end RM
namespace L2
open PySem PySem.Spec PyProof.Rows
inductive MC:List Value->List Value->Bool->Prop
 | nil:MC [] [] false
 | ne {a c:Int} {t u:Tok} {vs ws:List Value} (h:a≠c):MC (.int a t :: vs) (.int c u :: ws) (decide (a < c))
 | eq {a:Int} {t u:Tok} {vs ws:List Value} {r:Bool} (h:MC vs ws r):MC (.int a t :: vs) (.int a u :: ws) r
section
open PySem.SeqAt
open PySem.AutoSeq1 (wpAny_loadPart')
open PySem.MeetsSeq PySem.MeetsSeq2 PySem.MeetsSeq3
theorem OW(l b:Addr)(items items2:Array Value)(n n2:Nat)(dd dd2:Option Addr)(sl sl2:Array (Option Value))(r:Bool)(hi:MC items.toList items2.toList r)(hsz:items.size=items2.size) :
 Meets (Builtin.«tuple.__lt__» ⟨[.ref l,.ref b],[]⟩)
  (λ_ R s=>s.heap.get? l=some { cls:=.type "tuple",dict:=dd,data:=.seq items n,slots:=sl }/\s.heap.get? b=some { cls:=.type "tuple",dict:=dd2,data:=.seq items2 n2,slots:=sl2 } /\
   R (.ok (.ret (.bool r))) s) :=
 .of_wp λprog w A R s h=>by
  obtain⟨hp,g,d,tk,os⟩:=s; obtain⟨hl,hb,h⟩:=h
  have f2:=AutoSeq1.sub_tuple_tuple
  wp_walk using wpAny_loadPart' hl,wpAny_loadPart' hb,wpAny_forIn_list _ (λrest b s'=>b.1=none/\s' = ⟨hp,g,d,tk,os⟩/\∃ (vs ws:List Value),rest=vs.zip ws/\MC vs ws r) _
  case turn =>
   rintro⟨y,x⟩ rest b s' ⟨hb',rfl,vs,ws,hz,hx⟩
   cases hx with
   | nil=>rw[List.zip_nil_left] at hz; cases hz
   | @ne a c t u vs ws hne =>
    rw[List.zip_cons_cons] at hz
    injection hz with hyx hrest
    injection hyx with hy hx
    subst hy hx
    obtain⟨e,he,hiff⟩:=HT.Mr A.in1 ⟨hp,g,d,tk,os⟩ a t c u
    refine wpAny_bind (he prog w _ _ ?_)
    cases e with
    | true=>exact absurd (hiff.mp rfl) hne
    | false =>
     have Ma:=HT.Uj A.in1 ⟨hp,g,d,tk,os⟩ a t c u prog w
     wp_walk using Ma
     exact⟨_,rfl,by simpa using h⟩
   | @eq a t u vs ws r' hx' =>
    rw[List.zip_cons_cons] at hz
    injection hz with hyx hrest
    injection hyx with hy hx
    subst hy hx
    obtain⟨e,he,hiff⟩:=HT.Mr A.in1 ⟨hp,g,d,tk,os⟩ a t a u
    refine wpAny_bind (he prog w _ _ ?_)
    cases e with
    | true =>
     wp_walk
     exact⟨rfl,rfl,_,_,hrest,hx'⟩
    | false=>exact absurd (hiff.mpr rfl) aB
  case fin =>
   rintro⟨b1,b2⟩ s' ⟨hb',rfl,vs,ws,hz,hx⟩
   simp only at hb'
   subst hb'
   cases hx with
   | nil =>
    have hv:decide (items.size < items2.size)=false:=decide_eq_false (by lia)
    rw[<- hv] at h
    wp_walk
    exact⟨_,rfl,by simpa [Builtin.Tuple.tupleCompareSizes] using h⟩
   | ne=>rw[List.zip_cons_cons] at hz; cases hz
   | eq=>rw[List.zip_cons_cons] at hz; cases hz
  case h =>
   exact⟨rfl,rfl,items.toList,items2.toList,rfl,hi⟩
end
theorem WJ{prog:Program}{w:World}{A:Around}{E:Value->Shared->Prop}{s:Shared}{l b:Addr}{items items2:Array Value}{r:Bool}{Q:Value->Shared->Prop}(hl:IsTup s.heap l items)(hb:IsTup s.heap b items2)(hi:MC items.toList items2.toList r)(hsz:items.size=items2.size)
 (hu:A.units < cLine) (h:Q (.bool r) s):wpAny (model prog w) A (compareOp .Lt (.ref l) (.ref b)) Q E s:=by
 obtain⟨⟨cls,dd,data,sl⟩,ho,hc,n,hd⟩:=id hl
 obtain⟨⟨afK,dd2,data2,sl2⟩,ho2,hc2,n2,hd2⟩:=id hb
 simp only at hc hd hc2 hd2
 subst hc hd hc2 hd2
 exact richCompare_meets_room (op:=.Lt) ⟨_,ho,rfl⟩ ⟨_,ho2,rfl⟩ PySem.F.slot_tuple_lt PySem.F.entry_tuple_lt (PySem.F.args_tuple_lt_2 _ _) (OW l b items items2 n n2 dd dd2 sl sl2 r hi hsz)
  ⟨ho,ho2,show Value.bool r≠Value.notImplemented/\Q (.bool r) s from ⟨(λx=>nomatch x),h⟩⟩ hu
inductive Gu:List V->List V->Bool->Prop
 | nil:Gu [] [] false
 | ne {a c:Int} {vs ws:List V} (h:a≠c):Gu (.int a :: vs) (.int c :: ws) (decide (a < c))
 | eq {a:Int} {vs ws:List V} {r:Bool} (h:Gu vs ws r):Gu (.int a :: vs) (.int a :: ws) r
theorem Gu.vals{vs ws:List V}{r:Bool}(h:Gu vs ws r):∀ {us us':List Value},bT vs us->bT ws us'->MC us us' r:=by
 induction h with
 | nil=>intro us us' r1 r2; cases r1; cases r2; exact .nil
 | ne h =>
  intro us us' r1 r2
  cases r1 with
  | cons q1 _ =>
   cases r2 with
   | cons q2 _ =>
    obtain⟨t,rfl⟩:=q1
    obtain⟨u,rfl⟩:=q2
    exact .ne h
 | eq _ ih =>
  intro us us' r1 r2
  cases r1 with
  | cons q1 t1 =>
   cases r2 with
   | cons q2 t2 =>
    obtain⟨t,rfl⟩:=q1
    obtain⟨u,rfl⟩:=q2
    exact .eq (ih t1 t2)
section
variable{X:Cx}
def af5(K:af):R2:=λx y H Q=>∃ a b xs ys r,x = .ref a/\y = .ref b/\cH K H a xs/\cH K H b ys/\xs.length=ys.length/\Gu xs ys r/\Q (.bl r) H
theorem ZT(hu:X.A.units < cLine):vI X (compareOp .Lt) (af5 X.K):=by
 intro pins s σ H x y v u Q I rx ry h
 obtain⟨a,b,xs,ys,r,rfl,rfl,ha,hb,hl,hx,q⟩:=h
 cases rx
 cases ry
 obtain⟨its,r1,p1,_⟩:=I.tuple ha
 obtain⟨its2,r2,p2,_⟩:=I.tuple hb
 exact WJ p1 p2 (hx.vals r1 r2) (by rw[aJ,aJ,<- r1.length,<- r2.length]; exact hl) hu ⟨.bl r,H,I,rfl,q⟩
end
end L2
namespace RM
open PySem L2
noncomputable def lW(b:Int):V:=if b < 0 then .eU else .int b
noncomputable abbrev cR(r:Row):List V:=[.int r.hd,.int r.co,.int r.ho,lW r.by_]
theorem bC{b:Int}(h:b < 0):lW b = .eU:=if_pos h
theorem be{b:Int}(h:0<=b):lW b = .int b:=if_neg (by lia)
end RM
namespace L2
open PySem PySem.Spec PyProof.Rows
end L2
namespace L2
open PySem PySem.Spec PyProof.Rows RM
end L2
namespace L2
open PySem PySem.Spec PyProof.Rows
section
variable{X:Cx}
def af6(K:af):R2:=λx y H Q=>∃ da db,Rep K H da x/\Rep K H db y/\da.canLay0=true/\db.canLay0=true/\da.depth<=64/\Q (.bl (PyData.eqv da db)) H
theorem WK(K:af)(hK:X.K=K)(hu:X.A.units + 64 < cLine):vI X (compareOp .Eq) (af6 K):=by
 subst hK
 intro pins s σ H x y v u Q I rx ry ⟨da,db,ha,hb,ca,cb,hd,q⟩
 exact uF pins s σ H x y v u Q I rx ry ⟨da,db,ha,hb,ca,cb,aZ (bM (aH (c9 _ _) hd) _) hu,q⟩
end
end L2
namespace RM
open PySem L2
noncomputable def Tg(b:Int):PyData:=if b < 0 then .none else .int b
noncomputable def pU(r:Row):PyData:=.tuple [.int r.hd,.int r.co,.int r.ho,Tg r.by_]
theorem WL{K:af}{H:Hp}(b:Int):Rep K H (Tg b) (lW b):=by
 unfold Tg lW
 by_cases h:b < 0
 ·rw[if_pos h,if_pos h]; rfl
 ·rw[if_neg h,if_neg h]; rfl
theorem pq{K:af}{H:Hp}{p:Addr}{r:Row}(h:cH K H p (cR r)):Rep K H (pU r) (.ref p) :=
 ⟨p,_,rfl,h,_,_,rfl,rfl,_,_,rfl,rfl,_,_,rfl,rfl,_,_,rfl,WL _,rfl⟩
theorem pC(r:Row):(pU r).canLay0=true:=by
 show (true && (true && (true && ((Tg r.by_).canLay0 && true))))=true
 unfold Tg
 split <;> rfl
theorem Ao(r:Row):(pU r).depth=1:=by
 show max 0 (max 0 (max 0 (max (Tg r.by_).depth 0))) + 1=1
 unfold Tg
 split <;> rfl
theorem Gv{r s:Row}(hr : -1<=r.by_)(hs : -1<=s.by_):PyData.eqv (pU r) (pU s)=decide (r=s):=by
 have e:PyData.eqv (pU r) (pU s)=((r.hd == s.hd) && ((r.co == s.co) && ((r.ho == s.ho) && (PyData.eqv (Tg r.by_) (Tg s.by_) && true)))):=rfl
 rw[e]
 have eb:PyData.eqv (Tg r.by_) (Tg s.by_)=decide (r.by_=s.by_):=by
  unfold Tg
  by_cases h1:r.by_ < 0 <;> by_cases h2:s.by_ < 0
  ·rw[if_pos h1,if_pos h2]
   exact (decide_eq_true (by lia)).symm
  ·rw[if_pos h1,if_neg h2]
   exact (decide_eq_false (by lia)).symm
  ·rw[if_neg h1,if_pos h2]
   exact (decide_eq_false (by lia)).symm
  ·rw[if_neg h1,if_neg h2]
   show (r.by_ == s.by_)=_
   by_cases h3:r.by_=s.by_
   ·rw[decide_eq_true h3,h3]; exact beq_self_eq_true _
   ·rw[decide_eq_false h3]; exact beq_eq_false_iff_ne.mpr h3
 rw[eb]
 by_cases h:r=s
 ·subst h
  simp
 ·rw[decide_eq_false h]
  have:¬ (r.hd=s.hd/\r.co=s.co/\r.ho=s.ho/\r.by_=s.by_):=λz=>h (Row.ext' z.1 z.2.1 z.2.2.1 z.2.2.2)
  simp only[Bool.and_true]
  by_cases h1:r.hd=s.hd
  ·by_cases h2:r.co=s.co
   ·by_cases h3:r.ho=s.ho
    ·have h4:¬ r.by_=s.by_:=λz=>this ⟨h1,h2,h3,z⟩
     simp[h4]
    ·simp[h3]
   ·simp[h2]
  ·simp[h1]
noncomputable def JS(n:Nat)(R:Nat->Row):PyData:=.list ((aq n).map λi=>pU (R i))
theorem EI{K:af}{H:Hp}:∀ {ps:List Addr} {rs:List Row},ps.length=rs.length->(∀ (i:Nat) p r,ps[i]?=some p->rs[i]?=some r->cH K H p (cR r))->b4 K H (rs.map pU) (ps.map V.ref)
 | [],[],_,_=>rfl
 | p :: ps,r :: rs,e,h=>⟨_,_,rfl,pq (h 0 p r rfl rfl),EI (by simpa using e) λi p' r' a b=>h (i + 1) p' r' a b⟩
 | [],_ :: _,e,_=>by simp at e
 | _ :: _,[],e,_=>by simp at e
theorem DF(n:Nat)(R:Nat->Row):(JS n R).canLay0=true:=by
 show PyData.canLayAll0 ((aq n).map λi=>pU (R i))=true
 induction (aq n) with
 | nil=>rfl
 | cons x xs ih =>
  show ((pU (R x)).canLay0 && PyData.canLayAll0 (xs.map λi=>pU (R i)))=true
  rw[pC,ih]; rfl
theorem OX(n:Nat)(R:Nat->Row):(JS n R).depth<=2:=by
 show PyData.depthAll ((aq n).map λi=>pU (R i)) + 1<=2
 have:PyData.depthAll ((aq n).map λi=>pU (R i))<=1:=by
  induction (aq n) with
  | nil=>exact (by decide:(0:Nat)<=1)
  | cons x xs ih =>
   show max (pU (R x)).depth (PyData.depthAll (xs.map λi=>pU (R i)))<=1
   rw[Ao]
   lia
 lia
end RM
namespace L2
open PySem PySem.Spec PyProof.Rows
end L2
namespace RM
open PySem L2
theorem WM{r s:Row}(h:r.hd=s.hd->r.co=s.co->r.ho=s.ho->¬ lt r s):Gu [.int r.hd,.int r.co,.int r.ho] [.int s.hd,.int s.co,.int s.ho] (decide (lt r s)):=by
 obtain⟨r1,r2,r3,r4⟩:=r
 obtain⟨s1,s2,s3,s4⟩:=s
 dsimp only at h
 have fin:∀ {b b':Bool} {vs ws},Gu vs ws b->b=b'->Gu vs ws b':=λh e=>e ▸ h
 by_cases h1:r1=s1
 ·subst h1
  by_cases h2:r2=s2
  ·subst h2
   by_cases h3:r3=s3
   ·subst h3
    exact fin (.eq (.eq (.eq .nil))) (decide_eq_false (h rfl rfl rfl)).symm
   ·exact fin (.eq (.eq (.ne h3))) (by unfold lt; simp[h3])
  ·exact fin (.eq (.ne h2)) (by unfold lt; simp[h2])
 ·exact fin (.ne h1) (by unfold lt; simp[h1])
end RM
namespace L2
open PySem PySem.Spec PyProof.Rows
end L2
set_option maxHeartbeats 4000000
namespace TW
open PySem L2 PyProof.Rows
open RM (cR lW bC be)
seal L2.PE L2.PA L2.PT L2.PW L2.PS L2.jn L2.PG L2.om L2.PI L2.oq
structure UI(n:Int)(a b c d e:Int):Prop where
 a0:0<=a
 a1:a < n
 b0:0<=b
 b1:b < n
 ab:a≠b
 c1:1<=c
 d1:1<=d
 d4:d<=4
 e1:1<=e
 e7:e<=7
noncomputable abbrev acu(a b c d e:Int):List V:=[.int a,.int b,.int c,.int d,.int e]
structure R5 where
 a:Int
 b:Int
 c:Int
 d:Int
 e:Int
noncomputable abbrev R5.vs(r:R5):List V:=acu r.a r.b r.c r.d r.e
noncomputable abbrev R5.ns(r:R5):List Int:=[r.a,r.b,r.c,r.d,r.e]
noncomputable def R5.D(r:R5):PyData:=.tuple (r.ns.map .int)
abbrev R5.Ok(n:Int)(r:R5):Prop:=UI n r.a r.b r.c r.d r.e
def Gw(K:af)(H:Hp)(l:Addr)(rs:List R5):Prop:=Rep K H (.list (rs.map R5.D)) (.ref l)
section
variable{K:af}{H H':Hp}{l:Addr}{rs:List R5}
theorem Gw.mono(s:aC H H')(h:Gw K H l rs):Gw K H' l rs:=Rep.mono s h
theorem Gw.at(h:Gw K H l rs):∃ vs,bJ K H l vs/\vs.length=rs.length/\∀ (i:Nat) r,rs[i]?=some r->∃ p,vs[i]?=some (.ref p)/\cH K H p r.vs:=by
 obtain⟨a,vs,e,q,r⟩:=h
 cases e
 refine⟨vs,q,by rw[r.length,ah],λi x hx=>?_⟩
 obtain⟨v,h1,h2⟩:=r.get (i:=i) (d:=x.D) (by rw[aj,hx]; rfl)
 obtain⟨p,e,h3⟩:=Rep.yU (ns:=x.ns) h2
 subst e
 exact⟨p,h1,h3⟩
end
theorem Gx:∀ (ns:List Int),ns.Nodup->(firstMet (λi=>ns.getD i 0) ns.length).length=ns.length:=by
 intro ns hn
 have e:(aq ns.length).map (λi=>ns.getD i 0)=ns:=by
  apply pQ
  ·simp
  ·intro i h1 h2
   simp at h1
   simp[az,h1]
 have key:∀ (xs acc:List Int),(acc++xs).Nodup->xs.foldl step_dedup acc=acc++xs:=by
  intro xs
  induction xs with
  | nil=>intro acc _; simp
  | cons x xs ih =>
   intro acc h
   have hx:x ∉ acc:=λhm=>by
    rw[uA] at h
    exact h.2.2 x hm x (by simp) rfl
   have e1:step_dedup acc x=acc++[x]:=by
    unfold step_dedup
    simp[hx]
   rw[List.foldl_cons,e1,ih _ (by simpa using h)]
   simp
 unfold firstMet
 rw[e,key ns [] (by simpa using hn)]
 simp
theorem cY{f:Str}{v:V}:∀ {fs:List (Str × V)} {names:List Str},fs.map (·.1)=names->names.contains f=false->yG f v fs=fs++[(f,v)]
 | [],_,_,_=>rfl
 | (g,u) :: r,_,e,h=>by
  subst e
  rw[ck,List.contains_cons,Bool.or_eq_false_iff] at h
  have hn:¬ g=f:=λz=>by
   have:=h.1
   rw[z] at this
   simp at this
  show (if g=f then (g,v) :: r else (g,u) :: yG f v r)=_
  rw[if_neg hn,cY rfl h.2]
  rfl
theorem Aq{K:af}{H H':Hp}{p C dx:Addr}{fs:List (Str × V)}{a:Addr}{xs:List V}(k:∀ b o,H b=some o->b≠p->H' b=some o)(hp:H p=some (.ins C dx fs))(h:bJ K H a xs):bJ K H' a xs:=by
 rcases h with (h | ⟨o,h⟩) | h
 ·exact .inl (.inl (k _ _ h (lZ h hp (by intro z; cases z))))
 ·exact .inl (.inr ⟨o,k _ _ h (lZ h hp (by intro z; cases z))⟩)
 ·exact .inr h
theorem WN{K:af}{H H':Hp}{p C dx:Addr}{fs:List (Str × V)}{a:Addr}{xs:List V}(k:∀ b o,H b=some o->b≠p->H' b=some o)(hp:H p=some (.ins C dx fs))(h:cH K H a xs):cH K H' a xs:=by
 rcases h with (h | ⟨o,h⟩) | h
 ·exact .inl (.inl (k _ _ h (lZ h hp (by intro z; cases z))))
 ·exact .inl (.inr ⟨o,k _ _ h (lZ h hp (by intro z; cases z))⟩)
 ·exact .inr h
mutual
theorem WO{K:af}{H H':Hp}{p C dx:Addr}{fs:List (Str × V)}(k:∀ b o,H b=some o->b≠p->H' b=some o)(hp:H p=some (.ins C dx fs)):∀ {d:PyData} {v:V},Rep K H d v->Rep K H' d v
 | .none,_,h=>h
 | .bool _,_,h=>h
 | .int _,_,h=>h
 | .str _,_,h=>h
 | .list ds,_,⟨a,vs,e,q,r⟩=>⟨a,vs,e,Aq k hp q,jD k hp r⟩
 | .tuple ds,_,⟨a,vs,e,q,r⟩=>⟨a,vs,e,WN k hp q,jD k hp r⟩
 | .dict _,_,h=>h
theorem jD{K:af}{H H':Hp}{p C dx:Addr}{fs:List (Str × V)}(k:∀ b o,H b=some o->b≠p->H' b=some o)(hp:H p=some (.ins C dx fs)):∀ {ds:List PyData} {vs:List V},b4 K H ds vs->b4 K H' ds vs
 | [],_,h=>h
 | _ :: _,_,⟨v,r,e,q,t⟩=>⟨v,r,e,WO k hp q,jD k hp t⟩
end
noncomputable abbrev af7(ln lr:Addr)(n m:Nat):List (Str × V):=[("house_names",.ref ln),("rope_tuples",.ref lr),("size",.int n),("many",.int m)]
structure cN(K:af)(C:Addr)(H:Hp)(p ln lr:Addr)(ns:List Int)(rs:List R5):Prop where
 ob:∃ dx,H p=some (.ins C dx (af7 ln lr ns.length rs.length))
 nl:H ln=some (.lst (ns.map V.int))
 rl:∃ vs,H lr=some (.lst vs)/\b4 K H (rs.map R5.D) vs
section
variable{K:af}{C:Addr}{H H':Hp}{p ln lr:Addr}{ns:List Int}{rs:List R5}
theorem cN.mono(s:aC H H')(h:cN K C H p ln lr ns rs):cN K C H' p ln lr ns rs:=by
 obtain⟨⟨dx,h1⟩,h2,vs,h3,h4⟩:=h
 exact⟨⟨dx,s _ _ h1⟩,s _ _ h2,vs,s _ _ h3,h4.mono s⟩
end
theorem Le(a x:Int):RO (.int a) (.int x)=decide (x=a):=by
 show (a == x)=decide (x=a)
 by_cases e:x=a
 ·rw[decide_eq_true e,e]; exact beq_self_eq_true a
 ·rw[decide_eq_false e]; exact beq_eq_false_iff_ne.mpr (bK e)
theorem rS(x:Int)(xs:List Int):JL (.int x) (xs.map V.int)=decide (x∈xs):=by
 unfold JL
 induction xs with
 | nil=>simp
 | cons y ys ih =>
  rw[ck,nG,ih,Le]
  by_cases h1:x=y
  ·subst h1; simp
  ·by_cases h2:x∈ys
   ·simp[h1,h2]
   ·simp[h1,h2]
theorem rE(xs:List Int):(xs.map V.int).all ym=true:=by
 rw[wL]
 intro v hv
 obtain⟨x,_,rfl⟩:=bL.mp hv
 rfl
noncomputable def above(xs:List Int)(x:Int):Nat:=(xs.filter λy=>decide (x<=y)).length
theorem UJ{xs:List Int}{x:Int}(h:x∈xs):above xs (x + 1) < above xs x:=by
 unfold above
 induction xs with
 | nil=>cases h
 | cons y ys ih =>
  have mono:(ys.filter λy=>decide (x + 1<=y)).length<=(ys.filter λy=>decide (x<=y)).length:=by
   clear ih h
   induction ys with
   | nil=>simp
   | cons z zs ih2 =>
    simp only[fz]
    by_cases h1:x + 1<=z
    ·rw[if_pos (by simpa using h1),if_pos (by simp; lia)]; simp; exact ih2
    ·rw[if_neg (by simpa using h1)]
     split
     ·simp; lia
     ·exact ih2
  simp only[fz]
  by_cases hy:x=y
  ·subst hy
   rw[if_neg (by simp; lia),if_pos (by simp)]
   simp; lia
  ·have h2:x∈ys:=by
    rcases bA.mp h with e | e
    ·exact absurd e hy
    ·exact e
   have:=ih h2
   by_cases h1:x + 1<=y
   ·rw[if_pos (by simpa using h1),if_pos (by simp; lia)]; simp; exact this
   ·rw[if_neg (by simpa using h1),if_neg (by simp; lia)]; exact this
theorem WQ{n x y:Int}(hn:2<=n):0<=x % n/\x % n < n/\0<=(x % n + 1 + y % (n - 1)) % n/\(x % n + 1 + y % (n - 1)) % n < n/\x % n≠(x % n + 1 + y % (n - 1)) % n:=by
 have h1:=bN x (show n≠0 by lia)
 have h2:=bR x (show 0 < n by lia)
 have h3:=bN y (show n - 1≠0 by lia)
 have h4:=bR y (show 0 < n - 1 by lia)
 have h5:=bN (x % n + 1 + y % (n - 1)) (show n≠0 by lia)
 have h6:=bR (x % n + 1 + y % (n - 1)) (show 0 < n by lia)
 refine⟨h1,h2,h5,h6,?_⟩
 generalize x % n=a at *
 generalize y % (n - 1)=b at *
 by_cases hlt:a + 1 + b < n
 ·rw[Int.emod_eq_of_lt (by lia) hlt]; lia
 ·rw[<- Int.sub_emod_right,Int.emod_eq_of_lt (by lia) (by lia)]; lia
theorem ZU{c:TT}{t u r:TS}{D:Ends}{σ:L2.St}{H:Hp}(J:L2.St->Hp->Prop)(hn:∀ σ H,J σ H->r D σ H)(h:(∀ σ H,J σ H->r D σ H)->TH c t u { D with nx:=r D } σ H):Tz (TH c t u) r D σ H:=h hn
theorem UK{K:af}{a:Addr}{xs:List V}{H1:Hp}(h:cH K H1 a xs):∀ i H,i < xs.length->aC H1 H->(Itt K a).go i H:=λi H hi s=>⟨xs,xs[i],s.dB h,by simp[hi]⟩
theorem MD{K:af}{a:Addr}{xs:List V}{H1:Hp}(h:cH K H1 a xs):∀ H,aC H1 H->(Itt K a).stop xs.length H:=λH s=>⟨xs,s.dB h,au _⟩
structure DG(n m:Nat)(r:RM.Row):Prop where
 hd:0<=r.hd
 co:0<=r.co
 ho:0<=r.ho/\r.ho < n
 by_:r.by_ = -1∨(0<=r.by_/\r.by_ < m)
noncomputable abbrev aV(ks:List Nat):List V:=ks.map λk=>V.int (k:Nat)
theorem gK(ks:List Nat)(k:Nat):aV (ks++[k])=aV ks++[V.int (k:Nat)]:=by
 unfold aV
 rw[aT]
 rfl
theorem WR{K:af}{H:Hp}{q a:Addr}{xs ys:List V}{o:HO}(hq:H q=some (.lst xs))(h:cH K H a ys):cH K (upd H q o) a ys:=by
 rcases h with (h | ⟨ob,h⟩) | h
 ·exact .inl (.inl (by rw[aD (lZ h hq (by intro z; cases z))]; exact h))
 ·exact .inl (.inr ⟨ob,by rw[aD (lZ h hq (by intro z; cases z))]; exact h⟩)
 ·exact .inr h
noncomputable def aK(ns:List Int)(rs:List R5)(live:List Nat)(nd:ns.Nodup)(ok:∀ r∈rs,r.Ok ns.length)(hl:∀ k∈live,k < rs.length):RM.Net where
 n:=ns.length
 nm i:=ns.getD i 0
 a k:=((rs[k]?).map λr=>r.a.toNat).getD 0
 b k:=((rs[k]?).map λr=>r.b.toNat).getD 0
 c k:=((rs[k]?).map λr=>r.c).getD 0
 live:=live
 inj i j hi hj e:=by
  have e1:ns.getD i 0=ns[i]:=by simp[az,hi]
  have e2:ns.getD j 0=ns[j]:=by simp[az,hj]
  have e:ns[i]=ns[j]:=by rw[<- e1,<- e2]; exact e
  exact (List.getElem?_inj hi nd).mp (by rw[aa hi,aa hj,e])
 ab k hk:=by
  have h:=hl k hk
  have o:=ok _ (aL h)
  simp only[aa h,Option.map_some,Option.getD_some]
  have h1:=o.a0; have h2:=o.a1; have h3:=o.b0; have h4:=o.b1; have h5:=o.ab
  exact⟨by lia,by lia,by lia⟩
 c1 k hk:=by
  have h:=hl k hk
  have o:=ok _ (aL h)
  simp only[aa h,Option.map_some,Option.getD_some]
  exact o.c1
def j6(K:af)(H:Hp)(l:Addr)(n:Nat)(R:Nat->RM.Row):Prop:=∃ ps:List Addr,bJ K H l (ps.map V.ref)/\ps.length=n/\∀ (i:Nat) p,ps[i]?=some p->cH K H p (cR (R i))
theorem j6.mono{K:af}{H H':Hp}{l:Addr}{n:Nat}{R:Nat->RM.Row}(s:aC H H')(h:j6 K H l n R):j6 K H' l n R:=by
 obtain⟨ps,h1,h2,h3⟩:=h
 exact⟨ps,s.seq h1,h2,λi p e=>s.dB (h3 i p e)⟩
theorem gU:∀ ns:List Int,PyData.canLayAll0 (ns.map .int)=true
 | []=>rfl
 | n :: ns=>by
  show (PyData.canLay0 (.int n) && PyData.canLayAll0 (ns.map .int))=true
  rw[gU ns]; rfl
theorem rF:∀ ns:List Int,PyData.depthAll (ns.map .int)=0
 | []=>rfl
 | n :: ns=>by
  show max (PyData.depth (.int n)) (PyData.depthAll (ns.map .int))=0
  rw[rF ns]; rfl
section
variable{ns:List Int}{rs:List R5}{live:List Nat}{nd:ns.Nodup}{ok:∀ r∈rs,r.Ok ns.length}{hl:∀ k∈live,k < rs.length}
def uG(n m:Nat)(R:Nat->RM.Row):Prop:=∀ i,i < n->DG n m (R i)
theorem uG.ZV{m:Nat}{R:Nat->RM.Row}(h:uG ns.length m R):RM.Sane (aK ns rs live nd ok hl) R:=λi hi=>(h i hi).ho
theorem WS{R:Nat->RM.Row}{h:Nat}{d:RM.Row}(hR:uG ns.length rs.length R)(hh:h < ns.length)(h0:∀ x∈ns,0<=x)(i:RM.UH (N:=aK ns rs live nd ok hl) ns.length R h d):DG ns.length rs.length d:=by
 rcases i.one with e | ⟨k,g,a,c,e⟩
 ·rw[e]
  have en:(aK ns rs live nd ok hl).nm h=ns[h]:=by show ns.getD h 0=_; simp[az,hh]
  refine⟨?_,j5 _,⟨j5 _,?_⟩,.inl rfl⟩
  ·show 0<=(aK ns rs live nd ok hl).nm h
   rw[en]
   exact h0 _ (aL hh)
  ·show (0:Int) < ns.length
   lia
 ·have f:=hR g a.lt.2.1
  have c1:=a.cost
  have hk:k < rs.length:=hl k a.1
  rw[e]
  refine⟨f.hd,?_,⟨?_,c⟩,.inr ⟨?_,?_⟩⟩
  ·show 0<=(R g).co + (aK ns rs live nd ok hl).c k
   have:=f.co
   lia
  ·show 0<=(R g).ho + 1
   have:=f.ho.1
   lia
  ·show (0:Int)<=(k:Nat); lia
  ·show ((k:Nat):Int) < (rs.length:Nat); lia
end
theorem DG.by1{n m:Nat}{r:RM.Row}(h:DG n m r) : -1<=r.by_:=by have:=h.by_; lia
noncomputable def isAt(rs:List R5)(h:Int)(i:Nat):Bool:=match rs[i]? with | some r=>decide (h=r.a) || decide (h=r.b) | none=>false
noncomputable def Th(rs:List R5)(h:Int)(n:Nat):List Nat:=(aq n).filter (isAt rs h)
theorem ME(rs:List R5)(h:Int)(n:Nat):Th rs h (n + 1)=Th rs h n++(if isAt rs h n then [n] else []):=by
 unfold Th
 rw[ju,iN]
 congr 1
 by_cases h':isAt rs h n=true
 ·rw[if_pos h']; simp[h']
 ·rw[if_neg h']; simp[h']
theorem WT(rs:List R5)(h:Int)(n:Nat):(Th rs h n).length<=n:=by
 have:=bB (isAt rs h) (aq n)
 rw[bH] at this
 exact this
theorem ZW(x a b:Int):JL (V.int x) [V.int a,V.int b]=(decide (x=a) || decide (x=b)):=by
 show (RO (.int a) (.int x) || (RO (.int b) (.int x) || false))=_
 rw[Le,Le,Bool.or_false]
theorem d7(ks:List Nat):aV ks=(ks.map λk:Nat=>(k:Int)).map V.int:=by
 unfold aV
 rw[cu]
 rfl
theorem rT(x:Nat)(xs:List Nat):JL (.int (x:Nat)) (aV xs)=decide (x∈xs):=by
 rw[d7,rS]
 by_cases h:x∈xs
 ·rw[decide_eq_true h]
  exact decide_eq_true (bL.mpr ⟨x,h,rfl⟩)
 ·rw[decide_eq_false h]
  refine decide_eq_false λz=>h ?_
  obtain⟨y,hy,e⟩:=bL.mp z
  have:y=x:=by lia
  exact this ▸ hy
theorem jU(xs:List Nat):(aV xs).all ym=true:=by rw[d7]; exact rE _
theorem UL(rs:List R5)(h:Int)(n:Nat):(Th rs h n).Pairwise (· < ·):=List.Pairwise.filter _ tO
theorem WU{ks:List Nat}(h:ks.Pairwise (· < ·)){j:Nat}(hj:j < ks.length){k:Nat}(hk:k∈ks.take j):k < ks[j]:=by
 obtain⟨i,hi,e⟩:=List.getElem_of_mem hk
 rw[bO] at hi
 rw[List.getElem_take] at e
 rw[<- e]
 exact jc.mp h i j (by lia) hj (by lia)
theorem Ar{rs:List R5}{h:Int}{n k:Nat}:k∈Th rs h n↔k < n/\isAt rs h k=true:=by
 unfold Th
 rw[cS,fc]
section
variable{ns:List Int}{rs:List R5}{live:List Nat}{nd:ns.Nodup}{ok:∀ r∈rs,r.Ok ns.length}{hl:∀ k∈live,k < rs.length}
noncomputable def iP(r:R5)(h:Nat):Nat:=(if (h:Int)=r.a then r.b else r.a).toNat
theorem wO{k h g:Nat}(hk:k∈live):RM.Gs (aK ns rs live nd ok hl) k h g↔isAt rs (h:Int) k=true/\g=iP (rs[k]'(hl k hk)) h:=by
 have hlt:=hl k hk
 have o:=ok _ (aL hlt)
 have e1:rs[k]?=some rs[k]:=aa hlt
 have ea:(aK ns rs live nd ok hl).a k=rs[k].a.toNat:=by show ((rs[k]?).map λr=>r.a.toNat).getD 0=_; rw[e1]; rfl
 have eb:(aK ns rs live nd ok hl).b k=rs[k].b.toNat:=by show ((rs[k]?).map λr=>r.b.toNat).getD 0=_; rw[e1]; rfl
 unfold RM.Gs isAt iP
 rw[ea,eb,e1]
 dsimp only
 generalize rs[k]=r at o
 have h1:=o.a0; have h2:=o.b0; have h3:=o.ab
 constructor
 ·rintro⟨_,⟨q1,q2⟩ | ⟨q1,q2⟩⟩
  ·have z:(h:Int)=r.a:=by lia
   rw[if_pos z]
   exact⟨by simp[z],q2.symm⟩
  ·have z:(h:Int)=r.b:=by lia
   rw[if_neg (by lia)]
   exact⟨by simp[z],q2.symm⟩
 ·rintro⟨q1,q2⟩
  refine⟨hk,?_⟩
  have q1:(h:Int)=r.a∨(h:Int)=r.b:=by simpa using q1
  by_cases z:(h:Int)=r.a
  ·rw[if_pos z] at q2
   exact .inl ⟨by lia,q2.symm⟩
  ·rw[if_neg z] at q2
   exact .inr ⟨by lia,q2.symm⟩
end
theorem j6.data{K:af}{H:Hp}{l:Addr}{n:Nat}{R:Nat->RM.Row}(h:j6 K H l n R):Rep K H (RM.JS n R) (.ref l):=by
 obtain⟨ps,h1,h2,h3⟩:=h
 refine⟨l,_,rfl,h1,?_⟩
 have:=RM.EI (K:=K) (H:=H) (ps:=ps) (rs:=(aq n).map R) (by rw[ah,bH]; exact h2) (λi p r e1 e2=>by
  rw[aj] at e2
  have hi:i < n:=by have:=(ai.mp e1).1; lia
  rw[fP hi] at e2
  cases e2
  exact h3 i p e1)
 rw[cu] at this
 exact this
theorem UM(ns:List Int)(a b:Nat):∃ cs:List Int,Ff (ns.map V.int) (some (a:Int)) (some (b:Int))=cs.map V.int/\cs.length<=b - a:=by
 refine⟨(ns.drop (HT.kP ns.length 0 (some (a:Int)))).take (HT.kP ns.length ns.length (some (b:Int)) - HT.kP ns.length 0 (some (a:Int))),?_,?_⟩
 ·unfold Ff
  rw[ah,List.map_take,List.map_drop]
 ·rw[HT.Qi,HT.Qi,bO,List.length_drop]
  lia
theorem wQ{α:Type}{xs:List α}{x y:α}{j:Nat}(h:(xs++[x])[j]?=some y):xs[j]?=some y∨(j=xs.length/\y=x):=by
 by_cases hj:j < xs.length
 ·rw[bU hj] at h
  exact .inl h
 ·have:=(ai.mp h).1
  rw[av] at this
  have e:j=xs.length:=by have:j < xs.length + 1:=this; lia
  subst e
  rw[bX (au _),lX] at h
  cases h
  exact .inr ⟨rfl,rfl⟩
theorem Cy{n i:Nat}(h:i < n):Wy n (i:Int)=some i:=by
 unfold Wy
 rw[if_pos (by lia),if_pos (by lia)]
 simp
section
variable{ns:List Int}{rs:List R5}{live:List Nat}{nd:ns.Nodup}{ok:∀ r∈rs,r.Ok ns.length}{hl:∀ k∈live,k < rs.length}
theorem Yq{k:Nat}(h:k < rs.length):(aK ns rs live nd ok hl).c k=rs[k].c:=by
 show ((rs[k]?).map λr=>r.c).getD 0=_
 rw[aa h]; rfl
end
end TW
namespace TW
open PySem L2 PyProof.Rows
theorem b5{a b:TS}{D:Ends}{σ:L2.St}{H:Hp}(h:∀ N:L2.St->Hp->Prop,(∀ σ' H',b D σ' H'->N σ' H')->a { D with nx:=N } σ H):Tz a b D σ H:=h _ λ_ _ x=>x
theorem wR{K:af}{H:Hp}{Q:VK}{p:Addr}{xs:List V}{i:Int}{v:V}(h:bJ K H p xs)(e:IK xs i=some v)(k:Q v H):RL K (.ref p) (.int i) H Q:=⟨p,xs,i,v,rfl,rfl,h,e,k⟩
theorem FP{K:af}{σ:L2.St}{H:Hp}{Q:VK}{p:Addr}{xs:List V}{i:Int}{v:V}(h:cH K H p xs)(e:IK xs i=some v)(k:Q v H):tC (.int i) σ H λy H2=>RN K (.ref p) y H2 Q:=⟨p,xs,i,v,rfl,rfl,h,e,k⟩
theorem ou{c:TT}{t u r:TS}{D:Ends}{σ:L2.St}{H:Hp}(J:L2.St->Hp->Prop)(hn:∀ σ H,J σ H->r D σ H)(h:∀ N:L2.St->Hp->Prop,(∀ σ H,J σ H->N σ H)->TH c t u { D with nx:=N } σ H):Tz (TH c t u) r D σ H:=h _ hn
theorem Gy{lo:Int}{n:Nat}{g:TG}{tb:TS}{D:Ends}{σ:L2.St}{H:Hp}(Pv:Nat->L2.St->Hp->Prop)(h0:Pv 0 σ H)
 (hs:∀ i σ H (N:L2.St->Hp->Prop),(∀ σ' H',Pv (i + 1) σ' H'->N σ' H')->i < n->Pv i σ H->g (.int (lo + i)) σ H λσ2 H2=>tb { D with nx:=N,ct:=N,bk:=D.nx } σ2 H2) (hd:∀ σ H,Pv n σ H->D.nx σ H) :
 ∃ W:Nat->Nat->L2.St->Hp->Prop,(∃ m,W 0 m σ H)/\∀ i m σ H,W i m σ H ->
  ((TR lo n).stop i H/\D.nx σ H)∨((TR lo n).go i H/\∃ N:L2.St->Hp->Prop,(∀ σ' H',N σ' H'->∃ m',m' < m/\W (i + 1) m' σ' H')/\∀ x H',(TR lo n).Ml i H x H'->g x σ H' λσ2 H2=>tb { D with nx:=N,ct:=N,bk:=D.nx } σ2 H2) :=
 nM Pv h0 (λi σ H hi p=>hs i σ H _ (λ_ _ x=>x) hi p) hd
theorem As{K:af}{a:Addr}{xs:List V}{g:TG}{tb:TS}{D:Ends}{σ:L2.St}{H:Hp}(Pv:Nat->L2.St->Hp->Prop)(h0:Pv 0 σ H)(hl:∀ i σ H,i<=xs.length->Pv i σ H->bJ K H a xs)
 (hs:∀ i x σ H (N:L2.St->Hp->Prop),(∀ σ' H',Pv (i + 1) σ' H'->N σ' H')->xs[i]?=some x->Pv i σ H->g x σ H λσ2 H2=>tb { D with nx:=N,ct:=N,bk:=D.nx } σ2 H2) (hd:∀ σ H,Pv xs.length σ H->D.nx σ H) :
 ∃ W:Nat->Nat->L2.St->Hp->Prop,(∃ m,W 0 m σ H)/\∀ i m σ H,W i m σ H ->
  ((KZ K a).stop i H/\D.nx σ H)∨((KZ K a).go i H/\∃ N:L2.St->Hp->Prop,(∀ σ' H',N σ' H'->∃ m',m' < m/\W (i + 1) m' σ' H')/\∀ x H',(KZ K a).Ml i H x H'->g x σ H' λσ2 H2=>tb { D with nx:=N,ct:=N,bk:=D.nx } σ2 H2) :=
 rO Pv h0 hl (λi x σ H hi p=>hs i x σ H _ (λ_ _ x=>x) hi p) hd
end TW
namespace TW
open PySem L2 PyProof.Rows
open RM (cR lW bC be)
seal L2.PE L2.PA L2.PT L2.PW L2.PS L2.jn L2.PG L2.om L2.PI L2.oq
section
open Classical
noncomputable def yY(N:RM.Net)(R:Nat->RM.Row)(h:Nat):Option (Nat × Nat) :=
 if e:∃ p:Nat × Nat,RM.iO N R p.1 h p.2 then some (choose e) else none
end
theorem tT{N:RM.Net}{R:Nat->RM.Row}{h k g:Nat}:yY N R h=some (k,g)↔RM.iO N R k h g:=by
 unfold yY
 constructor
 ·intro e
  split at e
  ·rename_i q
   have:=Classical.choose_spec q
   rw[aP e] at this
   exact this
  ·cases e
 ·intro t
  have q:∃ p:Nat × Nat,RM.iO N R p.1 h p.2:=⟨(k,g),t⟩
  rw[dif_pos q]
  have u:=Classical.choose_spec q
  obtain⟨e1,e2⟩:=u.uniq t
  exact congrArg some (Prod.ext e1 e2)
theorem MF{N:RM.Net}{R:Nat->RM.Row}{h:Nat}(q:∀ k g,¬ RM.iO N R k h g):yY N R h=none:=by
 cases e:yY N R h with
 | none=>rfl
 | some p=>exact absurd (tT.mp e) (q p.1 p.2)
def uH(K:af)(H:Hp)(v:V):Option (Nat × Nat)->Prop
 | none=>v = .eU
 | some p=>∃ t,v = .ref t/\cH K H t [.int (p.1:Nat),.int (p.2:Nat)]
theorem uH.mono{K:af}{H H':Hp}{v:V}{o:Option (Nat × Nat)}(s:aC H H')(h:uH K H v o):uH K H' v o:=by
 cases o with
 | none=>exact h
 | some p =>
  obtain⟨t,e,q⟩:=h
  exact⟨t,e,s.dB q⟩
theorem uH.lst{K:af}{H:Hp}{v:V}{o:Option (Nat × Nat)}{l:Addr}{xs:List V}{ob:HO}(hl:H l=some (.lst xs))(h:uH K H v o):uH K (upd H l ob) v o:=by
 cases o with
 | none=>exact h
 | some p =>
  obtain⟨t,e,q⟩:=h
  exact⟨t,e,WR hl q⟩
def ZX(K:af)(H:Hp)(l:Addr)(n:Nat)(u:Nat->Option (Nat × Nat)):Prop:=∃ vs:List V,H l=some (.lst vs)/\vs.length=n/\∀ (i:Nat) v,vs[i]?=some v->uH K H v (u i)
section
variable{ns:List Int}{rs:List R5}{live:List Nat}{nd:ns.Nodup}{ok:∀ r∈rs,r.Ok ns.length}{hl:∀ k∈live,k < rs.length}
theorem UN{R:Nat->RM.Row}{k h:Nat}(hk:k∈live):(∃ g,RM.iO (aK ns rs live nd ok hl) R k h g)↔isAt rs (h:Int) k=true/\(R (iP (rs[k]'(hl k hk)) h)).ho + 1 < ns.length/\R h=RM.over (aK ns rs live nd ok hl) k (R (iP (rs[k]'(hl k hk)) h)):=by
 constructor
 ·rintro⟨g,t⟩
  obtain⟨q1,q2⟩:=(wO hk).mp t.yX
  subst q2
  exact⟨q1,t.cut,t.eq⟩
 ·rintro⟨q1,q2,q3⟩
  exact⟨_,(wO hk).mpr ⟨q1,rfl⟩,q2,q3⟩
theorem ZY{R:Nat->RM.Row}{k h g:Nat}(t:RM.iO (aK ns rs live nd ok hl) R k h g):g=iP (rs[k]'(hl k t.yX.1)) h:=((wO t.yX.1).mp t.yX).2
theorem OY{k h:Nat}(hk:k < rs.length)(ok:∀ r∈rs,r.Ok ns.length):iP rs[k] h < ns.length:=by
 have o:=ok _ (aL hk)
 have h1:=o.a0; have h2:=o.a1; have h3:=o.b0; have h4:=o.b1
 unfold iP
 split <;> lia
theorem Qz{k h:Nat}(hk:k < rs.length)(ok:∀ r∈rs,r.Ok ns.length):(if (h:Int)=rs[k].a then rs[k].b else rs[k].a)=((iP rs[k] h:Nat):Int):=by
 have o:=ok _ (aL hk)
 have h1:=o.a0; have h2:=o.b0
 unfold iP
 split <;> lia
end
theorem af8{x y z i:Int}(lo hi:Int)(hx:lo<=x/\x<=hi)(hy:lo<=y/\y<=hi)(hz:lo<=z/\z<=hi)(h0:0<=i)(h3:i < 3):∃ w,(lo<=w/\w<=hi)/\IK [V.int x,V.int y,V.int z] i=some (.int w):=by
 have:i=0∨i=1∨i=2:=by lia
 rcases this with rfl | rfl | rfl
 ·exact⟨x,hx,rfl⟩
 ·exact⟨y,hy,rfl⟩
 ·exact⟨z,hz,rfl⟩
theorem WV(xs:List Nat):JL .eU (aV xs)=false:=by
 unfold JL
 rw[Bool.eq_false_iff]
 intro h
 obtain⟨x,hx,e⟩:=gw.mp h
 obtain⟨y,_,rfl⟩:=bL.mp hx
 cases e
end TW
namespace L2
open PySem PySem.Spec PyProof.Rows
theorem Lf{us:List Value}{ns:List Int}(h:IntsAre us ns):bT (ns.map V.int) us:=by
 induction h with
 | nil=>exact .nil
 | cons n t _ ih=>exact .cons ⟨t,rfl⟩ ih
section
variable{X:Cx}
def WW(K:af):List V->Hp->VK->Prop:=λxs H Q=>∃ (a:Addr) (ns:List Int),xs = [.ref a]/\bJ K H a (ns.map V.int)/\ns.length < 64/\∀ l (ns':List Int),H l=none->ns'.Perm ns->ns'.Pairwise (·<=·)->Q (.ref l) (upd H l (.lst (ns'.map V.int)))
theorem yZ:rP X (.builtin "sorted") (WW X.K):=by
 intro pins s σ H xs us Q I r ⟨a,ns,e,hq,h64,q⟩
 subst e
 obtain⟨u,e,ru⟩:=bT.one r
 subst e
 cases ru
 obtain⟨its,rv,p,hz⟩:=I.list hq
 have hi:IntsAre its ns:=intsAre_of rv
 have hlen:=IntsAre.length hi
 refine sorted_ints (vs:=its) p.isList hi (by lia) λout ns' a1 a2 a3=>?_
 obtain⟨e,he⟩:=sortedAll_at s.heap its out
 refine⟨.ref (s.heap.objs.size + 1),_,I.laid (a:=s.heap.objs.size + 1) (o:=.lst (ns'.map V.int)) (t':=s.toks) (λb o e=>sortedAll_old e) (dc _) ⟨?_,out.toList,e,Lf a1,?_⟩,rfl,q _ ns' (I.hok.fresh (dc _)) a2 a3⟩
 ·rw[ah,a2.length_eq]
  exact iL (bW (by lia))
 ·rw[he]
end
end L2
namespace TW
open PySem L2 PyProof.Rows
open RM (cR lW bC be)
seal L2.PE L2.PA L2.PT L2.PW L2.PS L2.jn L2.PG L2.om L2.PI L2.oq
theorem JT:∀ {xs ys:List Nat},xs.Pairwise (· < ·)->ys.Pairwise (· < ·)->(∀ k,k∈xs↔k∈ys)->xs=ys
 | [],[],_,_,_=>rfl
 | [],y :: ys,_,_,h=>absurd ((h y).mpr b6) (by simp)
 | x :: xs,[],_,_,h=>absurd ((h x).mp b6) (by simp)
 | x :: xs,y :: ys,hx,hy,h=>by
  have Yr:=rH.mp hx
  have hy1:=rH.mp hy
  have e:x=y:=by
   rcases bA.mp ((h x).mp b6) with z | z
   ·exact z
   ·rcases bA.mp ((h y).mpr b6) with w | w
    ·exact w.symm
    ·have:=hy1.1 x z
     have:=Yr.1 y w
     lia
  subst e
  rw[JT Yr.2 hy1.2 λk=>?_]
  constructor
  ·intro z
   rcases bA.mp ((h k).mp (bu _ z)) with w | w
   ·have:=Yr.1 k z; lia
   ·exact w
  ·intro z
   rcases bA.mp ((h k).mpr (bu _ z)) with w | w
   ·have:=hy1.1 k z; lia
   ·exact w
theorem iO.lt{N:RM.Net}{R:Nat->RM.Row}{k h g:Nat}(t:RM.iO N R k h g):h < N.n/\g < N.n:=⟨t.yX.lt.1,t.yX.lt.2.1⟩
def mz(N:RM.Net)(R:Nat->RM.Row)(os:List Nat):Prop:=os.Pairwise (· < ·)/\∀ k,k∈os↔∃ h g,RM.iO N R k h g
theorem mz.uniq{N:RM.Net}{R:Nat->RM.Row}{xs ys:List Nat}(a:mz N R xs)(b:mz N R ys):xs=ys:=JT a.1 b.1 λk=>(a.2 k).trans (b.2 k).symm
theorem MG{ks:List Nat}{ms:List Int}(p:ms.Perm (ks.map λk:Nat=>(k:Int)))(pw:ms.Pairwise (·<=·))(nd:ks.Nodup):∃ os:List Nat,ms.map V.int=aV os/\os.Pairwise (· < ·)/\(∀ k,k∈os↔k∈ks)/\os.length=ks.length:=by
 have nn:∀ m∈ms,∃ k:Nat,m=(k:Int)/\k∈ks:=λm hm=>by
  obtain⟨k,hk,e⟩:=bL.mp (p.mem_iff.mp hm)
  exact⟨k,e.symm,hk⟩
 have e1:(ms.map Int.toNat).map (λk:Nat=>(k:Int))=ms:=by
  rw[cu]
  conv=>rhs; rw[<- uB ms]
  apply dh
  intro m hm
  obtain⟨k,e,_⟩:=nn m hm
  rw[e]
  rfl
 have ndm:ms.Nodup:=by
  refine p.nodup_iff.mpr ?_
  unfold List.Nodup
  rw[List.pairwise_map]
  exact nd.imp λh e=>h (by lia)
 refine⟨ms.map Int.toNat,?_,?_,λk=>?_,by rw[ah,p.length_eq,ah]⟩
 ·rw[d7,e1]
 ·rw[List.pairwise_map]
  have both:=List.pairwise_and_iff.mpr ⟨pw,ndm⟩
  refine List.Pairwise.imp_of_mem (λ{a b} ha hb h=>?_) both
  obtain⟨x,ex,_⟩:=nn a ha
  obtain⟨y,ey,_⟩:=nn b hb
  have h1:=h.1
  have h2:=h.2
  lia
 ·constructor
  ·intro hk
   obtain⟨m,hm,e⟩:=bL.mp hk
   obtain⟨y,ey,hy⟩:=nn m hm
   rw[ey] at e
   have:y=k:=by rw[<- e]; rfl
   exact this ▸ hy
  ·intro hk
   have:((k:Nat):Int)∈ms:=p.mem_iff.mpr (bL.mpr ⟨k,hk,rfl⟩)
   exact bL.mpr ⟨_,this,rfl⟩
end TW
namespace TW
open PySem L2 PyProof.Rows Gr
open RM (cR lW bC be)
end TW
namespace L2
open PySem PySem.Calls PySem.Spec PyProof.Rows PyProof.V PySem.W
end L2
namespace Gr
end Gr
namespace TW
open PySem L2 PyProof.Rows Gr
end TW
namespace L2
open PySem PySem.Calls PySem.Spec PyProof.Rows PyProof.V PySem.W
end L2
namespace TW
open PySem L2 PyProof.Rows Gr
end TW
namespace TW
open PySem L2 PyProof.Rows
noncomputable def stand(b:List Bool):List Nat:=(aq b.length).filter λk=>b.getD k false
theorem gV{b:List Bool}{k:Nat}:k∈stand b↔b[k]?=some true:=by
 unfold stand
 rw[cS,fc,az]
 constructor
 ·rintro⟨h1,h2⟩
  rw[aa h1] at h2 ⊢
  simpa using h2
 ·intro h
  have h1:=(ai.mp h).1
  exact⟨h1,by rw[h]; rfl⟩
theorem rV(b:List Bool):(stand b).Pairwise (· < ·):=List.Pairwise.filter _ tO
theorem R8(b:List Bool):(stand b).length<=b.length:=by
 have:=bB (λk=>b.getD k false) (aq b.length)
 rw[bH] at this
 exact this
theorem Cz:∀ {xs ys:List Nat},xs.Pairwise (· < ·)->ys.Pairwise (· < ·)->(∀ k,k∈xs↔k∈ys)->xs=ys
 | [],[],_,_,_=>rfl
 | [],y :: ys,_,_,h=>absurd ((h y).mpr (by simp)) (by simp)
 | x :: xs,[],_,_,h=>absurd ((h x).mp (by simp)) (by simp)
 | x :: xs,y :: ys,hx,hy,h=>by
  rw[rH] at hx hy
  have e:x=y:=by
   have h1:=(h x).mp (by simp)
   have h2:=(h y).mpr (by simp)
   rw[bA] at h1 h2
   rcases h1 with h1 | h1
   ·exact h1
   ·rcases h2 with h2 | h2
    ·exact h2.symm
    ·have:=hx.1 _ h2
     have:=hy.1 _ h1
     lia
  subst e
  rw[Cz hx.2 hy.2 λk=>?_]
  constructor
  ·intro hk
   rcases bA.mp ((h k).mp (bu _ hk)) with rfl | z
   ·exact absurd (hx.1 _ hk) (gJ _)
   ·exact z
  ·intro hk
   rcases bA.mp ((h k).mpr (bu _ hk)) with rfl | z
   ·exact absurd (hy.1 _ hk) (gJ _)
   ·exact z
theorem Gz{b:List Bool}{k:Nat}:(stand b).filter (λj=>decide (j≠k))=stand (b.set k false):=by
 refine Cz (List.Pairwise.filter _ (rV b)) (rV _) λj=>?_
 rw[cS,gV,gV,cV]
 by_cases e:k=j
 ·subst e
  simp
 ·rw[if_neg e]
  simp[bK e]
theorem R9{b:List Bool}{k:Nat}{xs:List Nat}(hk:b[k]?=some false)(hp:xs.Perm (stand b++[k]))(hs:xs.Pairwise (·<=·)):xs=stand (b.set k true):=by
 have hn:(stand b++[k]).Nodup:=by
  rw[uA]
  refine⟨(rV b).imp λz=>bw z,by simp,λx hx y hy=>?_⟩
  have:y=k:=by simpa using hy
  subst this
  intro e
  subst e
  rw[gV,hk] at hx
  cases hx
 have hx:=(hp.nodup_iff).mpr hn
 have hl:xs.Pairwise (· < ·):=(hs.and hx).imp λz=>Nat.lt_of_le_of_ne z.1 z.2
 refine Cz hl (rV _) λj=>?_
 have hlt:=(ai.mp hk).1
 rw[hp.mem_iff,bG,gV,gV,cV,bz]
 by_cases e:k=j
 ·subst e
  rw[if_pos rfl,if_pos hlt]
  simp
 ·rw[if_neg e]
  simp[bK e]
theorem OZ(n:Nat):stand (aY n true)=aq n:=by
 refine Cz (rV _) tO λj=>?_
 rw[gV,List.getElem?_replicate,fc]
 by_cases h:j < n
 ·simp[h]
 ·simp[h]
theorem Sa{b:List Bool}:stand b = []↔∀ x∈b,x=false:=by
 constructor
 ·intro h x hx
  obtain⟨k,hk⟩:=jm hx
  cases x with
  | false=>rfl
  | true =>
   have:=gV.mpr hk
   rw[h] at this
   cases this
 ·intro h
  cases e:stand b with
  | nil=>rfl
  | cons k r =>
   have:k∈stand b:=by rw[e]; simp
   have:=h _ (aI (gV.mp this))
   cases this
theorem Lg{w:List Nat}{xs:List Int}(hp:xs.Perm (w.map λk:Nat=>(k:Int)))(hs:xs.Pairwise (·<=·)):∃ zs:List Nat,xs=zs.map (λk:Nat=>(k:Int))/\zs.Perm w/\zs.Pairwise (·<=·):=by
 have e:xs=(xs.map Int.toNat).map λk:Nat=>(k:Int):=by
  rw[cu]
  refine Eq.symm ((dh λx hx=>?_).trans (uB xs))
  obtain⟨k,_,rfl⟩:=bL.mp (hp.mem_iff.mp hx)
  rfl
 refine⟨xs.map Int.toNat,e,?_,?_⟩
 ·have:=hp.map Int.toNat
  rw[cu] at this
  have ff:(Int.toNat ∘ λk:Nat=>(k:Int))=id:=rfl
  rw[ff,uB] at this
  exact this
 ·rw[List.pairwise_map]
  exact hs.imp λz=>Int.toNat_le_toNat z
theorem ZZ(k:Nat):(aY k [V.bl true]).flatten=(aY k true).map V.bl:=by
 induction k with
 | zero=>rfl
 | succ k ih=>rw[gP,uC,ih,gP]; rfl
def Z0(rs:List R5)(bs:List (List Bool)):Prop:=bs.length=rs.length/\∀ (i:Nat) r b,rs[i]?=some r->bs[i]?=some b->(b.length:Int)=r.d
theorem Z0.set{rs:List R5}{bs:List (List Bool)}{i k:Nat}{b:List Bool}{x:Bool}(h:Z0 rs bs)(hb:bs[i]?=some b):Z0 rs (bs.set i (b.set k x)):=by
 refine⟨by rw[bP]; exact h.1,λj r b' e1 e2=>?_⟩
 rw[cV] at e2
 by_cases z:i=j
 ·subst z
  rw[if_pos rfl,if_pos (ai.mp hb).1] at e2
  cases e2
  rw[bP]
  exact h.2 i r b e1 hb
 ·rw[if_neg z] at e2
  exact h.2 j r b' e1 e2
theorem Z0.at{rs:List R5}{bs:List (List Bool)}{i:Nat}{r:R5}(h:Z0 rs bs)(hr:rs[i]?=some r):∃ b,bs[i]?=some b/\(b.length:Int)=r.d:=by
 have:=(ai.mp hr).1
 exact⟨_,aa (by have:=h.1; lia),h.2 i r _ hr (aa (by have:=h.1; lia))⟩
structure tU(C:Addr)(H:Hp)(p tp lu:Addr)(ws:List (List Nat)):Prop where
 ob:∃ dx,H p=some (.ins C dx [("town",.ref tp),("upright",.ref lu)])
 up:∃ ls:List Addr,H lu=some (.lst (ls.map V.ref))/\ls.length=ws.length/\∀ (i:Nat) l w,ls[i]?=some l->ws[i]?=some w->H l=some (.lst (aV w))
section
variable{C:Addr}{H H':Hp}{p tp lu:Addr}{ws:List (List Nat)}
theorem tU.mono(s:aC H H')(h:tU C H p tp lu ws):tU C H' p tp lu ws:=by
 obtain⟨⟨dx,h1⟩,ls,h2,h3,h4⟩:=h
 exact⟨⟨dx,s _ _ h1⟩,ls,s _ _ h2,h3,λi l w a b=>s _ _ (h4 i l w a b)⟩
theorem vJ{w:List Nat}{ls:List Addr}{i:Nat}{l:Addr}(e:ls[i]?=some l):aV w≠ls.map V.ref:=by
 intro z
 have h1:(aV w)[i]?=some (V.ref l):=by rw[z,aj,e]; rfl
 rw[aj] at h1
 cases h2:w[i]? with
 | none=>rw[h2] at h1; cases h1
 | some k=>rw[h2] at h1; cases h1
theorem tU.ne(h:tU C H p tp lu ws):p≠lu:=by
 obtain⟨⟨dx,h1⟩,ls,h2,_⟩:=h
 exact lZ h1 h2 (by intro z; cases z)
theorem tU.put{i:Nat}{q:Addr}{w:List Nat}{ls:List Addr}(h:tU C H p tp lu ws)(e:H lu=some (.lst (ls.map V.ref)))(hq:H q=some (.lst (aV w)))(hi:i < ws.length)(k:∀ b u,H b=some u->b≠lu->H' b=some u)(hu:H' lu=some (.lst ((ls.map V.ref).set i (.ref q)))):tU C H' p tp lu (ws.set i w):=by
 have hne:=h.ne
 obtain⟨⟨dx,h1⟩,ls',h2,h3,h4⟩:=h
 rw[e] at h2
 have z:=HO.lst.inj (aP h2)
 have z:ls=ls':=by
  have:=congrArg (List.map λv=>match v with | V.ref a=>a | _=>0) z
  rw[cu,cu] at this
  have ff:((λv=>match v with | V.ref a=>a | _=>0) ∘ V.ref)=(id:Addr->Addr):=rfl
  rw[ff,uB,uB] at this
  exact this
 subst z
 have hl:i < ls.length:=by lia
 have nq:q≠lu:=by
  refine lZ hq e λz=>?_
  exact vJ (aa hl) (HO.lst.inj z)
 refine⟨⟨dx,k _ _ h1 hne⟩,ls.set i q,by rw[hu,List.map_set],by rw[bP,bP,h3],λj l w' a b=>?_⟩
 rw[cV] at a b
 by_cases ej:i=j
 ·subst ej
  rw[if_pos rfl,if_pos hl] at a
  rw[if_pos rfl,if_pos hi] at b
  cases a
  cases b
  exact k _ _ hq nq
 ·rw[if_neg ej] at a b
  have hj:=h4 j l w' a b
  exact k _ _ hj (lZ hj e λz=>vJ a (HO.lst.inj z))
structure Wd(H:Hp)(ls:Addr)(i6:List Addr)(bs:List (List Bool)):Prop where
 at_:H ls=some (.lst (i6.map V.ref))
 len:i6.length=bs.length
 nd:i6.Nodup
 it:∀ (i:Nat) l b,i6[i]?=some l->bs[i]?=some b->H l=some (.lst (b.map V.bl))
theorem Wd.mono{ls:Addr}{i6:List Addr}{bs:List (List Bool)}(s:aC H H')(h:Wd H ls i6 bs):Wd H' ls i6 bs:=⟨s _ _ h.at_,h.len,h.nd,λi l b x y=>s _ _ (h.it i l b x y)⟩
theorem Wd.put{ls:Addr}{i6:List Addr}{bs:List (List Bool)}{i:Nat}{l:Addr}{b:List Bool}(h:Wd H ls i6 bs)(hi:i6[i]?=some l)(k:∀ c u,H c=some u->c≠l->H' c=some u)(hl:H' l=some (.lst (b.map V.bl)))(hne:ls≠l):Wd H' ls i6 (bs.set i b):=by
 refine⟨k _ _ h.at_ hne,by rw[bP,h.len],h.nd,λj l' b' x y=>?_⟩
 have hib:i < bs.length:=by rw[<- h.len]; exact (ai.mp hi).1
 rw[cV] at y
 by_cases e:i=j
 ·subst e
  rw[if_pos rfl,if_pos hib] at y
  cases y
  rw[hi] at x
  cases x
  exact hl
 ·rw[if_neg e] at y
  refine k _ _ (h.it j l' b' x y) λz=>e ?_
  subst z
  have h1:=ai.mp hi
  have h2:=ai.mp x
  obtain⟨a1,a2⟩:=h1
  obtain⟨c1,c2⟩:=h2
  exact (List.getElem_inj h.nd).mp (a2.trans c2.symm)
theorem cN.but{K:af}{C C' dx:Addr}{fs:List (Str × V)}{tp ln lr:Addr}{ns:List Int}{rs:List R5}(h:cN K C H tp ln lr ns rs)(k:∀ b o,H b=some o->b≠p->H' b=some o)(hp:H p=some (.ins C' dx fs))(ne:tp≠p):cN K C H' tp ln lr ns rs:=by
 obtain⟨⟨d,h1⟩,h2,vs,h3,h4⟩:=h
 exact⟨⟨d,k _ _ h1 ne⟩,k _ _ h2 (lZ h2 hp (by intro z; cases z)),vs,k _ _ h3 (lZ h3 hp (by intro z; cases z)),jD k hp h4⟩
end
end TW
namespace L2
open PySem PySem.Spec PyProof.Rows
section
variable{X:Cx}
theorem Sb(K:af)(hK:X.K=K){a:Expr}{ta:TE}(ha:PE X a ta)(he:∀ whole,isTrue a X.env whole=(do let v <- whole; standAt a.pos; holding [v] (truthy v))):PT X a (UD K ta):=by
 subst hK
 exact R4 ha he
end
end L2
namespace TW
open PySem L2 PyProof.Rows
noncomputable def lQ(e:Int)(g:Nat):Bool:=decide (e / 2 ^ g % 2=1)
theorem MH{e z:Int}{g:Nat}(h1:1<=e)(h7:e<=7)(hz:([1,2,4]:List Int)[g]?=some z):(!decide (Builtin.bitAnd e z=0))=lQ e g:=by
 have hg:g=0∨g=1∨g=2:=by
  have:=(ai.mp hz).1
  simp at this
  lia
 have he:e=1∨e=2∨e=3∨e=4∨e=5∨e=6∨e=7:=by lia
 rcases hg with rfl | rfl | rfl <;> cases hz <;> rcases he with rfl | rfl | rfl | rfl | rfl | rfl | rfl <;> decide +kernel
theorem acv{g:Nat}(h:g < 3):∃ z,([1,2,4]:List Int)[g]?=some z:=⟨_,aa (by simpa using h)⟩
noncomputable def isLive(rs:List R5)(ws:List (List Nat))(g i:Nat):Bool:=match rs[i]?,ws[i]? with | some r,some w=>(!w.isEmpty) && lQ r.e g | _,_=>false
noncomputable def pV(rs:List R5)(ws:List (List Nat))(g n:Nat):List Nat:=(aq n).filter (isLive rs ws g)
theorem lR(rs:List R5)(ws:List (List Nat))(g n:Nat):pV rs ws g (n + 1)=pV rs ws g n++(if isLive rs ws g n=true then [n] else []):=by
 unfold pV
 rw[ju,iN]
 congr 1
 by_cases h:isLive rs ws g n=true
 ·rw[if_pos h,fz,if_pos h]; rfl
 ·rw[if_neg h,fz,if_neg h]; rfl
theorem Bm(rs:List R5)(ws:List (List Nat))(g n:Nat):(pV rs ws g n).length<=n:=by
 have:=bB (isLive rs ws g) (aq n)
 rw[bH] at this
 exact this
theorem DH(b:List Bool):b.any id = !(stand b).isEmpty:=by
 cases e:stand b with
 | nil =>
  have:=Sa.mp e
  have:b.any id=false:=by
   rw[Bool.eq_false_iff]
   intro z
   obtain⟨x,hx,hx'⟩:=gw.mp z
   rw[this x hx] at hx'
   cases hx'
  rw[this]
  rfl
 | cons k r =>
  have hk:k∈stand b:=by rw[e]; simp
  have:=gV.mp hk
  have:b.any id=true:=gw.mpr ⟨true,aI this,rfl⟩
  rw[this]
  rfl
end TW
namespace L2
open PySem PySem.Spec PyProof.Rows
structure Ys(K:af)(C:Addr)(m:Str)(f:Addr):Prop where
 hg:PySem.W.specialIn K (.ref C) "__getattribute__" = some (some (.builtin "type.__getattribute__"))
 hr:PySem.W.readsIn K C (.type "type")=true
 md:PySem.W.findCls K (.ref C) (.type "type") m=some (.val (.ref f))
 kp:dD K (.ref f)=true
section
variable{X:Cx}
theorem DI{e:Expr}{t u:TE}(h1:PE X e t)(h2:PE X e u):PE X e (λσ H Q=>t σ H Q∨u σ H Q):=λpins s σ H Q I h=>h.elim (h1 pins s σ H Q I) (h2 pins s σ H Q I)
end
def acw(C:Addr)(sp:Sp)(Bh:List V)(E:XK)(ta:TE)(t:TA):TE:=λσ H Q=>ta σ H λx H1=>x = .ref C/\t σ H1 λvs H2=>sp (vs++Bh) H2 Q E
section
variable{X:Cx}{CX:RJ}{k:Nat}{f C:Addr}{fd:FuncData}{ps:List Str}{sp:Sp}{Bh:List V}{ds:List Value}{E:XK}{x m:Str}{p pos apos:Pos}{e o:Expr}{es:List Expr}{ta:TE}{t:TA}
theorem O0{pl:Sem Bool}(he:PE X o ta)(c:Ys X.K C m f)
 (F:bV X.prog X.w X.K X.mg X.base CX k f fd ps sp) (hr:jz k X.A) (hb:Binds X.K fd ps ds) (hd:bT Bh ds) (hx:rQ CX X E) (ha:PA X (e :: es) t)
 (hst:starEach (e :: es) X.env=(false,eval e X.env) :: starEach es X.env:=by rfl) (hpl:(backTo pos (starEach es X.env)).any (·.1)=false:=by rfl)
 (ht:eval (.Call (.Attribute o m apos) (e :: es) [] pos) X.env=(do
  let ov <- eval o X.env
  standAt apos.atName
  let (f,first) <- holding [ov] (getMethod ov m pl)
  callWith pos f first (backTo pos (starEach (e :: es) X.env)) (backToKw pos (keywordEach [] X.env))):=by rfl) :
 PE X (.Call (.Attribute o m apos) (e :: es) [] pos) (acw C sp Bh E ta t):=by
 intro pins s σ H Q I h
 refine PySem.W.methodCall_KW (pl:=pl) (gv (he pins s σ H _ I h) λu s1 ⟨x,H1,I1,rx,ex,q⟩=>?_) ht
 subst ex
 obtain rfl:u=Value.ref C:=rx
 refine PySem.W.method_cls I1.Cd c.hg (PySem.W.cls_value I1.Cd c.hr c.md rfl ?_)
 have I2:=I1.tok (s1.toks + 1)
 refine PySem.W.callWith_K (first:=[]) (h₀:=X.base) I.ok.mod.Zf c.kp (gv (ha pos pins _ σ H1 _ I2 q) λus s2 ⟨vs,H2,I3,r,q2⟩=>⟨I3.Cd,?_⟩) hst hpl
 exact K3 (us:=us) (vs:=vs) F hr hb hd hx I3 r q2
end
end L2
namespace TW
open PySem L2 PyProof.Rows
theorem JU{b:Bool}{A B:Prop}(e:b=false)(h:B):if b=true then A else B:=by subst e; exact fk h
theorem acy{b:Bool}{A B:Prop}(e:b=true)(h:A):if b=true then A else B:=by subst e; exact eW h
inductive EJ(cL c1 cA:Addr)(H:Hp)(a:Addr)(s to:Int):Int->Prop
 | bare (dx:Addr) (h:H a=some (.ins cL dx [("sender",.int s)])):EJ cL c1 cA H a s to 0
 | one (dx:Addr) (h:H a=some (.ins c1 dx [("sender",.int s),("to",.int to)])):EJ cL c1 cA H a s to 1
 | all (dx:Addr) (h:H a=some (.ins cA dx [("sender",.int s)])):EJ cL c1 cA H a s to 2
section
variable{cL c1 cA:Addr}{H H':Hp}{a lh q:Addr}{s to k:Int}{xs:List V}
theorem EJ.mono(h:EJ cL c1 cA H a s to k)(e:aC H H'):EJ cL c1 cA H' a s to k:=by
 cases h with
 | bare dx h=>exact .bare dx (e _ _ h)
 | one dx h=>exact .one dx (e _ _ h)
 | all dx h=>exact .all dx (e _ _ h)
end
end TW
namespace L2
open PySem PySem.W PyProof.Rows
section
variable{n:Nat}{r:Nat->Int}{cmp:Nat->Nat->(Bool->Shared->Prop)->Shared->Prop}{s:Shared}
variable(hc:∀ i j C,i < n->j < n->C (decide (r i < r j)) s->cmp i j C s)
include hc
end
end L2
namespace L2
open PySem PySem.W PySem.Spec PyProof.Rows
abbrev T3:=Int × Int × Int
noncomputable def CA(x y:T3):Bool:=decide (x.1 < y.1) || (decide (x.1=y.1) && (decide (x.2.1 < y.2.1) || (decide (x.2.1=y.2.1) && decide (x.2.2 < y.2.2))))
theorem wU{x y:T3}:CA x y=true↔x.1 < y.1∨(x.1=y.1/\(x.2.1 < y.2.1∨(x.2.1=y.2.1/\x.2.2 < y.2.2))):=by
 unfold CA
 simp[Bool.or_eq_true,dF]
theorem Sd{x y z:T3}(a:CA x y=true)(b:CA y z=true):CA x z=true:=by
 rw[wU] at *
 lia
theorem WX(x:T3):CA x x=false:=by
 rw[Bool.eq_false_iff]
 intro z
 rw[wU] at z
 lia
theorem le3{x y z:T3}(a:CA x y=false)(b:CA z y=true):CA z x=true:=by
 have a':¬ CA x y=true:=by rw[a]; exact aB
 rw[wU] at *
 lia
noncomputable def EK(ts:List T3)(x:T3):Int:=((ts.filter λz=>CA z x).length:Nat)
theorem filter_le{α:Type}{p q:α->Bool}:∀ {l:List α},(∀ z,p z=true->q z=true)->(l.filter p).length<=(l.filter q).length
 | [],_=>au _
 | a :: l,h=>by
  have ih:=filter_le (l:=l) h
  rw[fz,fz]
  by_cases hp:p a=true
  ·rw[if_pos hp,if_pos (h a hp),bE,bE]; lia
  ·rw[if_neg hp]
   split
   ·rw[bE]; lia
   ·exact ih
theorem filter_lt{α:Type}{p q:α->Bool}{x:α}:∀ {l:List α},(∀ z,p z=true->q z=true)->x∈l->p x=false->q x=true->(l.filter p).length < (l.filter q).length
 | a :: l,h,hx,h1,h2=>by
  rw[fz,fz]
  rcases bA.mp hx with rfl | hx
  ·rw[if_neg (by rw[h1]; exact aB),if_pos h2,bE]
   have:=filter_le (l:=l) h
   lia
  ·have ih:=filter_lt h hx h1 h2
   by_cases hp:p a=true
   ·rw[if_pos hp,if_pos (h a hp),bE,bE]; lia
   ·rw[if_neg hp]
    split
    ·rw[bE]; lia
    ·exact ih
theorem MJ{ts:List T3}{x y:T3}(hx:x∈ts):decide (EK ts x < EK ts y)=CA x y:=by
 unfold EK
 cases e:CA x y with
 | true =>
  refine decide_eq_true ?_
  have:=filter_lt (l:=ts) (p:=λz=>CA z x) (q:=λz=>CA z y) (x:=x) (λz hz=>Sd hz e) hx (WX x) e
  lia
 | false =>
  refine decide_eq_false ?_
  have:=filter_le (l:=ts) (p:=λz=>CA z y) (q:=λz=>CA z x) (λz hz=>le3 e hz)
  lia
noncomputable abbrev t3V(x:T3):List V:=[.int x.1,.int x.2.1,.int x.2.2]
def Oo(h:Heap)(v:Value)(x:T3):Prop:=∃ (q:Addr) (o:Obj) (n:Nat) (t1 t2 t3:Tok),v = .ref q/\h.get? q=some o/\o.cls = .type "tuple" /\ o.data = .seq #[.int x.1 t1,.int x.2.1 t2,.int x.2.2 t3] n
section
variable{prog:Program}{w:World}{A:Around}{s:Shared}
theorem Z1{E:Value->Shared->Prop}{u v:Value}{x y:T3}{C:Bool->Shared->Prop}(hu:Oo s.heap u x)(hv:Oo s.heap v y)(k:C (CA x y) s):wpAny (model prog w) A (keyLt' (tuples' true) u v) C E s:=by
 obtain⟨p,o,n,t1,t2,t3,rfl,h1,c1,d1⟩:=hu
 obtain⟨q,o',n',u1,u2,u3,rfl,h2,c2,d2⟩:=hv
 refine kat_lt h1 d1 h2 d2 ?_
 refine kat_cons (wpAny_eqBool_int (kat_go (λe0=>kat_yes ?_) λe0=>kat_no (oneLt_int ?_)))
 case refine_2 =>
  have n0:¬ x.1=y.1:=by simpa using e0
  have e:CA x y=decide (x.1 < y.1):=by unfold CA; rw[decide_eq_false n0]; simp
  rw[<- e]; exact k
 have e0:x.1=y.1:=by simpa using e0
 refine kat_cons (wpAny_eqBool_int (kat_go (λe1=>kat_yes ?_) λe1=>kat_no (kat_one _ _ (lt_int ?_))))
 case refine_2 =>
  have n0:¬ x.2.1=y.2.1:=by simpa using e1
  have e:CA x y=decide (x.2.1 < y.2.1):=by rw[gR,wU,decide_eq_true_eq]; lia
  rw[<- e]; exact k
 have e1:x.2.1=y.2.1:=by simpa using e1
 refine kat_cons (wpAny_eqBool_int (kat_go (λe2=>kat_yes (kat_nil ?_)) λe2=>kat_no (kat_one _ _ (lt_int ?_))))
 ·have e2:x.2.2=y.2.2:=by simpa using e2
  have e:CA x y=false:=by
   rw[Bool.eq_false_iff]
   intro z
   rw[wU] at z
   lia
  rw[e] at k; exact k
 ·have e:CA x y=decide (x.2.2 < y.2.2):=by rw[gR,wU,decide_eq_true_eq]; lia
  rw[<- e]; exact k
theorem GA{h:Heap}:∀ {vs:List Value} {ts:List T3},vs.length=ts.length->(∀ (i:Nat) v x,vs[i]?=some v->ts[i]?=some x->Oo h v x)->∃ fs,KatTups h vs fs/\fs.length=vs.length/\∀ f∈fs,∃ i t,f=Value.int i t
 | [],[],_,_=>⟨[],trivial,rfl,λ_ hf=>absurd hf (by simp)⟩
 | v :: vs,x :: ts,hl,h=>by
  obtain⟨fs,a,b,c⟩:=GA (vs:=vs) (ts:=ts) (by simpa using hl) λi v x e1 e2=>h (i + 1) v x (by simpa using e1) (by simpa using e2)
  obtain⟨q,o,n,t1,t2,t3,rfl,h1,c1,d1⟩:=h 0 v x rfl rfl
  refine⟨.int x.1 t1 :: fs,KatTups.cons h1 c1 d1 rfl a,by simp[b],λf hf=>?_⟩
  rcases bA.mp hf with rfl | hf
  ·exact⟨_,_,rfl⟩
  ·exact c f hf
end
section
variable{prog:Program}{w:World}{A:Around}{s:Shared}{E:Value->Shared->Prop}
theorem UO{d:Addr}{v:Value}{c:Nat}{P:PySem.Fin->Shared->Prop}(hd:s.heap.get? d=some (seqObj "list" [v].toArray c))(k:P (.done (.ret .none)) { s with heap:=sortedHeap s.heap d [v] #[v] }) :
 wpAny (model prog w) A (Builtin.«list.sort» ⟨[.ref d],[]⟩) P E s:=by
 have hlt:d < s.heap.objs.size:=Heap.lt_size hd
 rw[list_sort_plain]
 refine wpAny_bind (listItems_at hd rfl (wpAny_bind (listUpdate_at hd rfl ?_)))
 have h1:∃ c1,(s.heap.update d (Obj.mapSeq λ_=>#[])).get? d=some (seqObj "list" #[] c1):=⟨_,get?_update_seq hd (λ_=>#[])⟩
 obtain⟨c1,h1⟩:=h1
 refine wpAny_bind (seqEpoch_at h1 rfl (wpAny_bind (wpAny_newTuple (wpAny_bind (wpAny_newList (wpAny_holding ?_))))))
 have hsz:(s.heap.update d (Obj.mapSeq λ_=>#[])).objs.size=s.heap.objs.size:=Heap.size_update _ _ _
 have h6:(((s.heap.update d (Obj.mapSeq λ_=>#[])).push (seqObj "tuple" [v].toArray 0)).push (seqObj "list" #[] 0)).get? d=some (seqObj "list" #[] c1) :=
  Heap.get?_push_of_some _ (Heap.get?_push_of_some _ h1)
 show wpAny (model prog w) A _ P E { s with heap:=((s.heap.update d (Obj.mapSeq λ_=>#[])).push (seqObj "tuple" [v].toArray 0)).push (seqObj "list" #[] 0) }
 have ht:[v].toArray.size < 2:=by simp
 have hv:(arrOf (SortSt.mk' general' (#[v].zip #[v]) #[] 7 none)).map (·.2) = #[v]:=by
  show (#[v].zip #[v]).map (·.2) = #[v]
  simp
 dsimp only
 rw[if_pos ht,if_pos ht]
 refine wpAny_bind (wpAny_pure ?_)
 rw[StateT.run_pure]
 refine wpAny_bind (wpAny_pure (wpAny_bind (seqEpoch_at h6 rfl (wpAny_bind (listUpdate_at h6 rfl ?_ (hsz2:=?_))))))
 ·simp only[bne_self_eq_false,Bool.false_eq_true,if_false]
  refine wpAny_pure ?_
  rw[hv]
  exact k
 ·show ((arrOf (SortSt.mk' general' (#[v].zip #[v]) #[] 7 none)).map (·.2)).size<=sizeLine + 1
  rw[hv]
  show 1<=sizeLine + 1
  exact Nat.le_add_left _ _
theorem O6{l:Addr}{v:Value}{Q:Value->Shared->Prop}(hl:s.heap.IsList l [v].toArray)(k:Q (.ref (s.heap.objs.size + 1)) { s with heap:=sortedAll s.heap [v] #[v] }):wpAny (model prog w) A (call (.builtin "sorted") [.ref l]) Q E s:=by
 refine Calls.call_function_entry kind_sorted plain_sorted entry_sorted (args_sorted1 _) ?_
 unfold Builtin.«sorted»
 refine wpAny_bind (m:=checkCount "sorted" 1 1 _) (wpAny_pure (wpAny_bind (collect_list hl (wpAny_bind (wpAny_newList ?_)))))
 have hz:((s.heap.push (seqObj "list" #[] 0)).update s.heap.objs.size (Obj.mapSeq (·++[v].toArray))).objs.size=s.heap.objs.size + 1:=(Heap.size_update _ _ _).trans (size_push' _ _)
 have ho:(((s.heap.push (seqObj "list" #[] 0)).update s.heap.objs.size (Obj.mapSeq (·++[v].toArray))).push (seqObj "list" [v].toArray 0)).get? (s.heap.objs.size + 1)=some (seqObj "list" [v].toArray 0):=hz ▸ Heap.get?_push_size _ rfl
 show wpAny _ _ _ _ _ { s with heap:=((s.heap.push (seqObj "list" #[] 0)).update s.heap.objs.size (Obj.mapSeq (·++[v].toArray))).push (seqObj "list" [v].toArray 0) }
 rw[hz]
 exact wpAny_bind (wpAny_holding (wpAny_call_entry slot_list_sort ⟨_,ho,rfl⟩ entry_list_sort (UO ho ⟨_,rfl,wpAny_pure ⟨_,rfl,k⟩⟩) (args_list_sort _)))
end
def gy(K:af)(H:Hp)(qs:List Addr)(ts:List T3):Prop:=qs.length=ts.length/\∀ (i:Nat) q t,qs[i]?=some q->ts[i]?=some t->cH K H q (t3V t)
theorem gy.mono{K:af}{H H':Hp}{qs:List Addr}{ts:List T3}(s:aC H H')(h:gy K H qs ts):gy K H' qs ts:=⟨h.1,λi q t a b=>s.dB (h.2 i q t a b)⟩
def qN(ts:List T3):Prop:=∀ (i j:Nat) (x y:T3),i < j->ts[i]?=some x->ts[j]?=some y->CA y x=false
section
variable{X:Cx}
theorem QA:∀ {qs:List Addr} {its:List Value},bT (qs.map V.ref) its->its=qs.map Value.ref
 | [],_,r=>by cases r; rfl
 | q :: qs,_,r=>by
  cases r with
  | cons h t =>
   have h:_=Value.ref q:=h
   rw[h,QA t]
   rfl
theorem JV:∀ qs:List Addr,bT (qs.map V.ref) (qs.map Value.ref)
 | []=>.nil
 | q :: qs=>.cons rfl (JV qs)
theorem map_getD{α:Type}(d:α):∀ l:List α,(aq l.length).map (λi=>l.getD i d)=l:=λl=>by
 apply pQ
 ·simp
 ·intro i h1 h2
  simp at h1
  simp[h1]
end
section
variable{X:Cx}{pins:List (Addr × Obj)}{σ:St}{H:Hp}{s:Shared}
theorem Inv.af9{d:Addr}{o:Obj}{u:HO}(I:Inv X pins σ H s)(hd:H d=some (.Am o u))(h0:∀ o' u',X.H₀ d≠some (.Am o' u')):Inv X pins σ (upd H d u) s:=by
 have ne:∀ b v,H b=some v->(∀ o' u',v≠.Am o' u')->b≠d:=λb v e hv z=>by
  rw[z,hd] at e
  cases e
  exact hv _ _ rfl
 have eU:∀ b,H b=none->(upd H d u) b=none:=λb e=>by
  rw[aD (λz=>by rw[z,hd] at e; cases e)]
  exact e
 have ho:∀ b y,H b=some (.own y)->(upd H d u) b=some (.own y):=λb y e=>by rw[aD (ne b _ e (by intro _ _ z; cases z))]; exact e
 have ht:∀ b xs,H b=some (.tup xs)->(upd H d u) b=some (.tup xs):=λb xs e=>by rw[aD (ne b _ e (by intro _ _ z; cases z))]; exact e
 refine⟨I.ok,I.os,I.bare,⟨I.base.keep,I.base.slot,λb o' e n hx=>eU b (I.base.free b o' e n hx),I.base.there,λb xs e=>ht b xs (I.base.tups b xs e),λb o' u' e=>?_,λb ps e=>?_⟩,I.loc,I.cell,eU _ I.free,λx c e=>eU c (I.tQ x c e),λp hp=>?_,λb v e=>?_,I.len⟩
 ·have e1:=I.base.AK b o' u' e
  rw[aD (λz=>h0 o' u' (by rw[<- z]; exact e))]
  exact e1
 ·obtain⟨more,e1⟩:=I.base.Ce b ps e
  exact⟨more,by rw[aD (ne b _ e1 (by intro _ _ z; cases z))]; exact e1⟩
 ·obtain⟨a,b,c⟩:=I.pin p hp
  exact⟨a,eU _ b,c⟩
 ·by_cases hb:b=d
  ·subst hb
   rw[ao] at e
   cases e
   obtain⟨_,q⟩:=I.hok b _ hd
   exact q.stay (λc v _ r=>r) (λc r=>ho c _ r) ht
  ·rw[aD hb] at e
   exact (I.hok b v e).stay (λc v _ r=>r) (λc r=>ho c _ r) ht
def acz(t:TE):TE:=λσ H Q=>∃ d kvs,H d=some (.dT kvs)/\t σ H λv H1=>∃ o,H1 d=some (.Am o (.dT kvs))/\Q v (upd H1 d (.dT kvs))
theorem WY{e:Expr}{t:TE}(h:PE X e t):PE X e (acz t):=by
 intro pins s σ H Q I ⟨d,kvs,hd,q⟩
 refine gv (h pins s σ H _ I q) λv s1 ⟨x,H1,I1,r1,o,e1,q1⟩=>⟨x,_,I1.af9 e1 (λo' u' z=>?_),r1,q1⟩
 have:=I.base.AK d o' u' z
 rw[hd] at this
 cases this
end
section
variable{prog:Program}{w:World}{A:Around}{E:Value->Shared->Prop}{s:Shared}{d v it:Addr}{od:Obj}{es:Array DictEntry}{ep:Nat}
theorem O7{Q:Value->Shared->Prop}(lo:(d == sysModules)=false)(h1:s.heap.get? d=some od)(h2:od.ExactDict)(h3:od.data = .dict es ep)
 (k:Q (.ref s.heap.objs.size) { s with heap:=s.heap.push { cls:=.type "dict_items",data:=.fields #[.ref d] } }):wpAny (model prog w) A (call (.builtin "dict.items") [.ref d]) Q E s:=by
 have ty:s.TypeIs (.ref d) "dict" := ⟨od,h1,h2.1⟩
 refine wpAny_call_entry F.slot_dict_items ty F.entry_dict_items ?_ (F.args_dict_items_1 _)
 unfold Builtin.«dict.items» Builtin.Dict.noArgs Builtin.Dict.showsAll
 refine wpAny_bind (wpAny_bind (wpAny_notOrdered_dict ty (wpAny_pure ?_)))
 rw[if_neg (by rw[lo]; exact aB)]
 exact wpAny_bind (wpAny_pure (wpAny_bind (wpAny_newObj_type (wpAny_pure ⟨_,rfl,k⟩))))
theorem O9{Q:Value->Shared->Prop}(hv:s.heap.IsItemsView v d)(h1:s.heap.get? d=some od)(h3:od.data = .dict es ep)
 (k:Q (.ref s.heap.objs.size) { s with heap:=s.heap.push { cls:=.type "dict_itemiterator",data:=.fields #[.none,.bool false,.ref d,.int 0 0,.int es.size 0,.int ep 0,.none,.none] } }):wpAny (model prog w) A (pyIter (.ref v)) Q E s:=by
 obtain⟨vo,g1,g2,g3⟩:=id hv
 have own:Builtin.Dict_items.ownsTuple "dict_itemiterator" = true:=by decide
 refine wpAny_pyIter_slot hv.typeIs F.slot_dict_items_iter (wpAny_call_entry F.slot_dict_items_iter hv.typeIs F.entry_dict_items_iter ?_ (F.args_dict_items_iter_1 _))
 unfold Builtin.«dict_items.__iter__» Builtin.Dict_items.dictOf Builtin.Dict_items.newIterator
 refine wpAny_bind (wpAny_pure (wpAny_bind (wpAny_bind (wpAny_field g1 g3 (x:=.ref d) rfl (wpAny_pure (wpAny_bind (wpAny_bind (wpAny_dictEntries h1 h3 (wpAny_bind (wpAny_dictEpoch h1 h3 ?_))))))))))
 simp only[own,if_true]
 refine wpAny_newObj_type (wpAny_pure ⟨_,rfl,"dict_itemiterator",_,⟨_,Heap.get?_push_size _ rfl,rfl⟩,F.slot_dict_itemiterator_next.lookup,?_⟩) ?_
 ·simpa [rawInt,Builtin.Dict_items.ownedTupleFields] using k
 ·simp[sizeOk,Builtin.Dict_items.ownedTupleFields,sizeLine_eq]
theorem Pa{i:Nat}{en:DictEntry}{ok ov:Value}{Q:Option Value->Shared->Prop}(hi:IsItemIter s.heap it d i es.size ep ok ov)(h1:s.heap.get? d=some od)(h3:od.data = .dict es ep)(he:es[i]?=some en)
 (k:∀ h',IsItemIterOut h' it d (i + 1) es.size ep en.key en.val s.heap.objs.size->h'.get? s.heap.objs.size=some { cls:=.type "tuple",data:=.seq #[en.key,en.val] }->h'.objs.size=s.heap.objs.size + 1 ->
  (∀ b o,b≠it->s.heap.get? b=some o->h'.get? b=some o)->Q (some (.ref s.heap.objs.size)) { s with heap:=h' }):wpAny (model prog w) A (pyNext (.ref it)) Q E s:=by
 obtain⟨h,g,dr,tk,os⟩:=s
 have ty:Shared.TypeIs ⟨h,g,dr,tk,os⟩ (.ref it) "dict_itemiterator" := ⟨_,hi,rfl⟩
 have own:Builtin.Dict_items.ownsTuple "dict_itemiterator" = true:=by decide
 obtain⟨hlt,hen⟩:=iB.mp he
 unfold pyNext
 refine wpAny_bind (wpAny_attempt (wpAny_callSpecial?_slot (name:=Str.ofString "__next__") ty F.slot_dict_itemiterator_next (wpAny_call_entry F.slot_dict_itemiterator_next ty F.entry_dict_itemiterator_next ?_ (F.args_dict_itemiterator_next_1 _))))
 refine wpAny_bind (wpAny_pure (wpAny_bind (wpAny_bind (wpAny_bind (wpAny_typeNameOfWhole_itemiter ty (wpAny_pure (wpAny_bind (wpAny_fieldsOf hi rfl ?_))))))))
 simp only[own,if_true]
 have nn:¬ (Value.ref d == Value.none)=true:=aB
 have ne1:¬ (i:Int) < 0:=by lia
 show wpAny (model prog w) A.in1 (if (Value.ref d == Value.none)=true then _ else _) _ _ _
 rw[if_neg nn]
 refine wpAny_bind (wpAny_pure (wpAny_bind (wpAny_dictEntries h1 h3 ?_)))
 rw[if_neg (by simp)]
 refine wpAny_bind (wpAny_pure (wpAny_bind (wpAny_dictEpoch h1 h3 ?_)))
 rw[if_neg (by simp)]
 refine wpAny_pure ?_
 simp only[ne1,if_false,eO,he]
 refine wpAny_bind (wpAny_bind (wpAny_typeNameOfWhole_itemiter ty (wpAny_pure (wpAny_bind (wpAny_isOneOf_itemiter ty ?_)))))
 have t0:(rawInt ((i:Int) + 1))=Value.int ((i + 1:Nat):Int) 0:=by
  show Value.int ((i:Int) + 1) 0=_
  rw[show ((i + 1:Nat):Int)=(i:Int) + 1 by lia]
 show wpAny _ _ (setField (.ref it) 3 (rawInt ((i:Int) + 1)) >>= _) _ _ ⟨h,g,dr,tk,os⟩
 rw[t0]
 refine wpAny_bind (wpAny_setField_rec hi (by simp) λh4 g4 sb4=>wpAny_bind (wpAny_holding ?_))
 have g4:IsItemIter h4 it d (i + 1) es.size ep ok ov:=g4
 have sb4:Heap.SameBut it h h4:=sb4
 have ty4:Shared.TypeIs ⟨h4,g,dr,tk,os⟩ (.ref it) "dict_itemiterator" := ⟨_,g4,rfl⟩
 have z4:h4.objs.size=h.objs.size:=sb4.1
 have ilt:it < h.objs.size:=Heap.lt_size hi
 refine wpAny_bind (wpAny_isOneOf_itemiter ty4 (wpAny_bind (wpAny_isOneOf_itemiter ty4 ?_)))
 show wpAny _ _ (Builtin.Dict_items.pairFromOwner (.ref it) 6 en.key en.val) _ _ ⟨h4,g,dr,tk,os⟩
 unfold Builtin.Dict_items.pairFromOwner
 refine wpAny_bind (wpAny_newTuple ?_)
 obtain⟨h5,e5⟩ : ∃ h5,h4.push { cls:=.type "tuple",data:=.seq #[en.key,en.val] }=h5:=⟨_,rfl⟩
 have g5:IsItemIter h5 it d (i + 1) es.size ep ok ov:=e5 ▸ Heap.get?_push_of_some _ g4
 have tu5:h5.get? h.objs.size=some { cls:=.type "tuple",data:=.seq #[en.key,en.val] }:=by
  rw[<- e5,<- z4]
  exact Heap.get?_push_size _ rfl
 have z5:h5.objs.size=h.objs.size + 1:=by rw[<- e5,Heap.size_push,z4]
 have k5:∀ b o,b≠it->h.get? b=some o->h5.get? b=some o:=λb o hb q=>e5 ▸ Heap.get?_push_of_some _ (sb4.extBut b o hb q)
 show wpAny _ _ (Builtin.Dict_items.ownedTupleIsFree (.ref it) >>= _) _ _ ⟨h4.push { cls:=.type "tuple",data:=.seq #[en.key,en.val] },g,dr,tk,os⟩
 rw[e5,z4]
 unfold Builtin.Dict_items.ownedTupleIsFree
 refine wpAny_bind (wpAny_bind (wpAny_field g5 rfl (x:=.none) rfl (wpAny_pure ?_)))
 simp only[if_true]
 refine wpAny_bind (wpAny_field g5 rfl (x:=ok) rfl (wpAny_bind (wpAny_field g5 rfl (x:=ov) rfl ?_)))
 refine wpAny_bind (wpAny_setField_rec g5 (by simp) λh6 g6 sb6=>?_)
 have g6:IsItemIter h6 it d (i + 1) es.size ep en.key ov:=g6
 refine wpAny_bind (wpAny_setField_rec g6 (by simp) λh7 g7 sb7=>?_)
 have g7:IsItemIter h7 it d (i + 1) es.size ep en.key en.val:=g7
 refine wpAny_bind (wpAny_setField_rec g7 (by simp) λh8 g8 sb8=>?_)
 have g8:IsItemIterOut h8 it d (i + 1) es.size ep en.key en.val h.objs.size:=g8
 refine wpAny_bind (wpAny_setField_rec g8 (by simp) λh9 g9 sb9=>?_)
 have g9:IsItemIterOut h9 it d (i + 1) es.size ep en.key en.val h.objs.size:=g9
 have s6:Heap.SameBut it h5 h6:=sb6
 have s7:Heap.SameBut it h6 h7:=sb7
 have s8:Heap.SameBut it h7 h8:=sb8
 have s9:Heap.SameBut it h8 h9:=sb9
 have k9:∀ b o,b≠it->h5.get? b=some o->h9.get? b=some o:=λb o hb q=>s9.extBut b o hb (s8.extBut b o hb (s7.extBut b o hb (s6.extBut b o hb q)))
 refine wpAny_bind (wpAny_letGo (wpAny_pure (wpAny_pure ⟨_,rfl,wpAny_pure (k h9 g9 (k9 _ _ (Nat.ne_of_gt ilt) tu5) ?_ λb o hb q=>k9 b o hb (k5 b o hb q))⟩)))
 show h9.objs.size=h.objs.size + 1
 rw[s9.1,s8.1,s7.1,s6.1,z5]
theorem Se{i:Nat}{ok ov:Value}{Q:Option Value->Shared->Prop}(hh:A.handled=none)(hi:IsItemIter s.heap it d i es.size ep ok ov)(h1:s.heap.get? d=some od)(h3:od.data = .dict es ep)(he:es.size<=i)
 (k:∀ h',Heap.ExtBut it s.heap h'->Q none { s with heap:=h' }):wpAny (model prog w) A (pyNext (.ref it)) Q E s:=by
 have ty:s.TypeIs (.ref it) "dict_itemiterator" := ⟨_,hi,rfl⟩
 have own:Builtin.Dict_items.ownsTuple "dict_itemiterator" = true:=by decide
 have nn:¬ (Value.ref d == Value.none)=true:=aB
 have ne1:¬ (i:Int) < 0:=by lia
 unfold pyNext
 refine wpAny_bind (wpAny_attempt (wpAny_callSpecial?_slot (name:=Str.ofString "__next__") ty F.slot_dict_itemiterator_next (wpAny_call_entry F.slot_dict_itemiterator_next ty F.entry_dict_itemiterator_next ?_ (F.args_dict_itemiterator_next_1 _))))
 refine wpAny_bind (wpAny_pure (wpAny_bind (wpAny_bind (wpAny_bind (wpAny_typeNameOfWhole_itemiter ty (wpAny_pure (wpAny_bind (wpAny_fieldsOf hi rfl ?_))))))))
 simp only[own,if_true]
 show wpAny (model prog w) A.in1 (if (Value.ref d == Value.none)=true then _ else _) _ _ _
 rw[if_neg nn]
 refine wpAny_bind (wpAny_pure (wpAny_bind (wpAny_dictEntries h1 h3 ?_)))
 rw[if_neg (by simp)]
 refine wpAny_bind (wpAny_pure (wpAny_bind (wpAny_dictEpoch h1 h3 ?_)))
 rw[if_neg (by simp)]
 refine wpAny_pure ?_
 simp only[ne1,if_false,eO,Array.getElem?_eq_none he]
 refine wpAny_bind (wpAny_bind (wpAny_typeNameOfWhole_itemiter ty (wpAny_pure ?_)))
 show wpAny _ _ (setField (.ref it) 2 .none >>= _) _ _ s
 refine wpAny_bind (wpAny_setField hi rfl (by simp) ?_)
 unfold newExc newTuple raiseNew
 refine wpAny_bind (wpAny_bind (wpAny_newObj_type (wpAny_bind (m:=firstArgMember _ _) (wpAny_of_eq (a:=Value.none) rfl (wpAny_newObj_type (wpAny_bind (wpAny_handled ?_)) (by size_fits)))) (by size_fits)))
 rw[show A.in1.handled=none from hh]
 refine wpAny_bind (wpAny_pure (wpAny_throw ?_))
 refine wpAny_bind ?_
 refine wpAny_isInstance (T:="StopIteration") (b:=true) ⟨_,Heap.get?_push_size _ rfl,rfl⟩ isSubtype_stop ?_
 have up:=(Heap.SameBut.update s.heap it (Obj.mapFields λx=>x.setIfInBounds 2 Value.none)).extBut
 exact wpAny_pure (k _ ((up.push _).push _))
end
noncomputable def GB(v d:Addr):HO:=.ext λh=>h.IsItemsView v d
section
variable{X:Cx}
def Z2:V->List V->Hp->VK->Prop:=λx vs H Q=>∃ d kvs,x = .ref d/\vs = []/\H d=some (.dT kvs)/\∀ v,H v=none->Q (.ref v) (upd H v (GB v d))
theorem UP:MtR X "dict.items" Z2:=by
 intro pins s σ H x vs v us Q I rx rv h
 obtain⟨d,kvs,rfl,rfl,hd,q⟩:=h
 cases rx
 have hus:=rv.zero
 subst hus
 obtain⟨z,lo,xs,rel,o,es,ep,h1,h2,h3,_⟩:=(show fh X.prog X.w H s.heap d (.dT kvs) from I.hok d _ hd)
 refine O7 lo h1 h2 h3 ⟨.ref s.heap.objs.size,_,I.laid (a:=s.heap.objs.size) (o:=GB s.heap.objs.size d) (t':=s.toks) (λb o e=>Heap.get?_push_of_some _ e) (au _) ⟨⟨_,Heap.get?_push_size _ rfl,rfl,rfl⟩,⟨_,Heap.get?_push_size _ rfl⟩,λg1 g2 ⟨o',a1,a2,a3⟩ k=>⟨o',k _ a1,a2,a3⟩⟩,rfl,q _ (I.hok.fresh (au _))⟩
noncomputable def Itx(d:Addr)(o:Obj)(kvs:List (List Key × V)):It :=
 ⟨λi H=>H d=some (.Am o (.dT kvs))/\i < kvs.length,
  λi H x H'=>∃ p kb k v,H p=none/\x = .ref p/\H'=upd H p (.tup [.ref kb,v])/\kvs[i]?=some (k,v)/\H kb=some (.tup (k.map kV)),
  λi H=>H d=some (.Am o (.dT kvs))/\kvs.length<=i⟩
theorem GC{α β:Type}{F:α->β->Prop}:∀ {l₁:List α} {l₂:List β},Paired F l₁ l₂->∀ {i:Nat} {a:α},l₁[i]?=some a->∃ b,l₂[i]?=some b/\F a b
 | _,_,.cons h t,0,a,e=>by cases e; exact⟨_,rfl,h⟩
 | _,_,.cons h t,i + 1,a,e=>GC t (by simpa using e)
theorem Pb{P:Program}{w:World}{K:af}{elts:List Expr}{x1}{pos:Pos}(d it:Addr){o:Obj}{es:Array DictEntry}{ep:Nat}{kvs:List (List Key × V)}(ho:o.data = .dict es ep) :
 Turn P w K (.Tuple elts x1 pos) (Itx d o kvs) [it] it (λi h=>∃ ok ov,IsItemIter h it d i es.size ep ok ov) where
 mem:=by simp
 obj:=λi h ⟨ok,ov,st⟩ b hb=>by
  have e:b=it:=by simpa using hb
  subst e
  exact⟨_,st,λv z=>by
   have z':Data.fields _=Data.cell v:=z
   cases z'⟩
 keep:=λi h h' ⟨ok,ov,st⟩ k=>⟨ok,ov,k it (by simp) _ st⟩
 item:=by
  intro X hP hw hK hc i pins s σ H E I hf ⟨ok,ov,st⟩ hg
  subst hP hw hK
  obtain⟨e,hlt⟩:=hg
  obtain⟨g1,z,lo,xs,rel,o',es',ep',g2,g3,g4,g5,g6⟩:=(show fh X.prog X.w H s.heap d (.Am o (.dT kvs)) from I.hok d _ e)
  rw[g1] at g2; cases g2
  rw[ho] at g4; cases g4
  obtain⟨f0,f1,f2,f3,f4,f5⟩:=hf it (by simp)
  obtain⟨⟨k2,kb,u⟩,hx,hk1,hk2,Z3⟩:=GC rel (aa hlt)
  have he:es[i]?=some (entryOfKey (tupleKind (gD X.prog X.w)) (k2,kb,u)):=by
   rw[<- fY,g5,aj,hx]
   rfl
  refine Pa st g1 ho he λh' io tu sz kp=>⟨_,rfl,wpAny_letOwnedTupleGo_items io λhh e2 sb2=>?_⟩
  have hfr:H s.heap.objs.size=none:=I.hok.fresh (au _)
  have lt:it < s.heap.objs.size:=Heap.lt_size st
  have L8:∀ b q,b≠it->s.heap.get? b=some q->hh.get? b=some q:=λb q hb r=>(sb2.2 b hb).trans (kp b q hb r)
  have nit:∀ b q,H b=some q->b≠it:=λb q r z=>by rw[z,f0] at r; cases r
  have tu2:hh.get? s.heap.objs.size=some { cls:=.type "tuple",data:=.seq #[.ref kb,u] }:=(sb2.2 _ (Nat.ne_of_gt lt)).trans tu
  have I1:Inv X pins σ (upd H s.heap.objs.size (.tup [.ref kb,kvs[i].2])) { s with heap:=hh,toks:=s.toks }:=by
   refine I.step (g':=s.gens) (d':=s.drawn) (ch:=[it]) (λb hb=>?_) (λb q _ _ hc r _=>L8 b q (λz=>hc (by simp[z])) r) (λb q _ _ hc r _=>⟨q.slots,L8 b q (λz=>hc (by simp[z])) r⟩)
    (λb q _ r n=>by rw[aD (bw (Heap.lt_size r))]; exact n) (λb q hc r=>⟨q,L8 b q (λz=>hc (by simp[z])) r⟩) (λb ys r=>by rw[aD (aF r hfr)]; exact r) (λb q y r=>by rw[aD (aF r hfr)]; exact r)
    (λb ps r=>⟨#[],by rw[aD (aF r hfr),r]; simp⟩) (λm hm=>?_) (λb q r=>?_) I.bare
   ·have e:b=it:=by simpa using hb
    subst e
    exact⟨f3,f1,f4,f5⟩
   ·obtain⟨q,es2,ep2,hq,r⟩:=hm
    exact⟨q,es2,ep2,L8 _ q (bK f1) hq,r⟩
   ·by_cases hb:b=s.heap.objs.size
    ·subst hb
     rw[ao] at r
     cases r
     exact⟨by show 2<=sizeLine; decide,[.ref kb,u],.cons rfl (.cons Z3 .nil),⟨_,tu2,rfl,_,rfl⟩⟩
    ·rw[aD hb] at r
     refine (I.hok b q r).stay (λc y hc t=>?_) (λc t=>by rw[aD (aF t hfr)]; exact t) λc ys t=>by rw[aD (aF t hfr)]; exact t
     rcases hc with e | e
     ·rw[e] at t ⊢; exact L8 b y (nit b q r) t
     ·exact L8 c y (nit c _ e) t
  refine⟨.ref s.heap.objs.size,_,I1,rfl,⟨_,kb,kvs[i].1,kvs[i].2,hfr,rfl,rfl,aa hlt,hk2⟩,⟨_,_,e2⟩,λb hb=>?_⟩
  have e:b=it:=by simpa using hb
  subst e
  rw[aD (bw lt)]
  exact f0
 done:=by
  intro X hP hw hK hc i pins s σ H E I hf ⟨ok,ov,st⟩ hg
  subst hP hw hK
  obtain⟨e,hle⟩:=hg
  obtain⟨g1,z,lo,xs,rel,o',es',ep',g2,g3,g4,g5,g6⟩:=(show fh X.prog X.w H s.heap d (.Am o (.dT kvs)) from I.hok d _ e)
  rw[g1] at g2; cases g2
  rw[ho] at g4; cases g4
  obtain⟨f0,f1,f2,f3,f4,f5⟩:=hf it (by simp)
  have hl:es.size=kvs.length:=by
   have:=congrArg List.length g5
   rw[ah,<- Paired.length rel] at this
   simpa using this
  exact Se (I.ok.hd hc) st g1 ho (by lia) λh' eb=>⟨rfl,I.turned (t':=s.toks) (λb o hb e=>eb b o hb e) f0 f1 f3 f4 f5⟩
 self:=λ_ _ _ _ _ ⟨_,_,st⟩ h=>kcp_self st h
def Z4(td:TE):TI:=λσ H R=>td σ H λx H1=>∃ v d kvs,x = .ref v/\H1 v=some (GB v d)/\H1 d=some (.dT kvs)/\∀ o,R (Itx d o kvs) (upd H1 d (.Am o (.dT kvs)))
theorem UQ{l:Expr}{td:TE}{elts:List Expr}{x1}{tpos:Pos}(hl:PE X l td):PI X (.Tuple elts x1 tpos) l (Z4 td):=by
 intro pins s σ H R I h
 refine gv (hl pins s σ H _ I h) λv s1 ⟨x,H1,I1,r1,q1⟩=>?_
 obtain⟨w',d,kvs,e,hv,hd,q⟩:=q1
 subst e
 cases r1
 obtain⟨z,lo,xs,rel,o,es,ep,g1,g3,g4,g5⟩:=(show fh X.prog X.w H1 s1.heap d (.dT kvs) from I1.hok d _ hd)
 obtain⟨iv,_,_⟩:=(show fh X.prog X.w H1 s1.heap w' (GB w' d) from I1.hok w' _ hv)
 have I2:Inv X pins σ (upd H1 d (.Am o (.dT kvs))) s1:=I1.write (t':=s1.toks) (h':=s1.heap) (x:=d) (e:=d) (by rw[hd]; exact kM) (.inl rfl) (λb u _ q=>q) ⟨o,g1⟩ ⟨g1,z,lo,xs,Paired.Wm rel λp q y=>⟨y.1,by rw[aD (lZ y.2.1 hd (by intro z; cases z))]; exact y.2.1,y.2.2⟩,o,es,ep,g1,g3,g4,g5⟩
 have hn:(upd H1 d (.Am o (.dT kvs))) s1.heap.objs.size=none:=by
  rw[aD (bK (bw (Heap.lt_size g1)))]; exact I1.hok.fresh (au _)
 refine O9 iv g1 g4 ?_
 refine⟨s1.heap.objs.size,[s1.heap.objs.size],_,_,_,rfl,I2.kept (t':=s1.toks) λb o e=>Heap.get?_push_of_some _ e,Pb d _ g4,⟨_,_,Heap.get?_push_size _ rfl⟩,λb hb=>?_,q o⟩
 have e:b=s1.heap.objs.size:=by simpa using hb
 subst e
 exact I2.TM (au _) hn
theorem Z5{d:Addr}{o:Obj}{kvs:List (List Key × V)}{H1:Hp}(h:H1 d=some (.Am o (.dT kvs))):∀ i H,i < kvs.length->aC H1 H->(Itx d o kvs).go i H:=λi H hi s=>⟨s _ _ h,hi⟩
theorem UR{d:Addr}{o:Obj}{kvs:List (List Key × V)}{H1:Hp}(h:H1 d=some (.Am o (.dT kvs))):∀ H,aC H1 H->(Itx d o kvs).stop kvs.length H:=λH s=>⟨s _ _ h,au _⟩
end
end L2
namespace L2
theorem US{X:Cx}(K:af)(hK:X.K=K):vI X (PySem.binaryOp .Add) (Yj K):=by
 subst hK
 exact Wx
end L2
namespace TW
open PySem L2 PyProof.Rows
theorem Lh{xs ys:List T3}(h:xs.Perm ys)(hx:qN xs)(hy:qN ys):xs=ys:=by
 have anti:∀ a b:T3,CA a b=false->CA b a=false->a=b:=λa b h1 h2=>by
  have n1:¬ CA a b=true:=by rw[h1]; exact aB
  have n2:¬ CA b a=true:=by rw[h2]; exact aB
  rw[wU] at n1 n2
  obtain⟨a1,a2,a3⟩:=a
  obtain⟨b1,b2,b3⟩:=b
  have e1:a1=b1:=by simp at n1 n2; lia
  subst e1
  have e2:a2=b2:=by simp at n1 n2; lia
  subst e2
  have e3:a3=b3:=by simp at n1 n2; lia
  rw[e3]
 have px:∀ {l:List T3},qN l->l.Pairwise λa b=>CA b a=false:=λ{l} hl=>by
  rw[jc]
  intro i j hi hj hij
  exact hl i j _ _ hij (aa hi) (aa hj)
 exact List.Perm.eq_of_pairwise (λa b _ _ h1 h2=>anti a b h2 h1) (px hx) (px hy) h
noncomputable def iz(t:T3):List Key × V:=([.inl t.1,.inl t.2.1],.int t.2.2)
noncomputable abbrev keyOf(h c:Int):List Key:=[.inl h,.inl c]
def gE(ts:List T3):Prop:=(ts.map λt=>(t.1,t.2.1)).Nodup
noncomputable def Bo(ts:List T3)(h c:Int):Option Int:=(ts.find? λt=>decide (t.1=h/\t.2.1=c)).map λt=>t.2.2
noncomputable def put3(ts:List T3)(h c r:Int):List T3:=(ts.filter λt=>!decide (t.1=h/\t.2.1=c))++[(h,c,r)]
theorem UT{ts:List T3}(n:gE ts){h c r:Int}:gE (put3 ts h c r):=by
 unfold gE put3
 rw[aT,uA]
 refine⟨?_,by simp,λx hx y hy=>?_⟩
 ·exact List.Nodup.sublist ((List.filter_sublist).map _) n
 ·obtain⟨t,ht,rfl⟩:=bL.mp hx
  have h2:=(cS.mp ht).2
  have e:y=(h,c):=by simpa using hy
  rw[e]
  intro z
  have z1:t.1=h/\t.2.1=c:=⟨(Prod.mk.inj z).1,(Prod.mk.inj z).2⟩
  simp[z1] at h2
theorem nO(t:T3)(h c:Int):(iz t).1=keyOf h c↔t.1=h/\t.2.1=c:=by
 unfold iz keyOf
 constructor
 ·intro e
  have e1:=(List.cons.inj e).1
  have e2:=(List.cons.inj (List.cons.inj e).2).1
  exact⟨Sum.inl.inj e1,Sum.inl.inj e2⟩
 ·rintro⟨rfl,rfl⟩
  rfl
theorem GD:∀ (ts:List T3) (h c:Int),Cs (ts.map iz) (keyOf h c)=(Bo ts h c).map V.int
 | [],h,c=>rfl
 | t :: ts,h,c=>by
  rw[ck]
  by_cases e:t.1=h/\t.2.1=c
  ·rw[Ct ((nO t h c).mpr e)]
   unfold Bo
   rw[List.find?_cons_of_pos (by simp[e])]
   rfl
  ·rw[Cu (λz=>e ((nO t h c).mp z)),GD ts h c]
   unfold Bo
   rw[List.find?_cons_of_neg (by rw[decide_eq_false e]; exact aB)]
noncomputable def CB(h c r:Int)(t:T3):T3:=if t.1=h/\t.2.1=c then (h,c,r) else t
theorem UU(h c r:Int)(t:T3):((CB h c r t).1,(CB h c r t).2.1)=(t.1,t.2.1):=by
 unfold CB
 split
 ·rename_i e
  show (h,c)=(t.1,t.2.1)
  rw[e.1,e.2]
 ·rfl
theorem JW{h c r:Int}:∀ {ts:List T3},gE ts->(∃ t∈ts,t.1=h/\t.2.1=c)->(ts.map (CB h c r)).Perm (put3 ts h c r)
 | [],_,⟨_,h,_⟩=>by cases h
 | t :: ts,n,hx=>by
  have n':gE ts:=(rJ.mp n).2
  have nt:=(rJ.mp n).1
  unfold put3
  by_cases e:t.1=h/\t.2.1=c
  ·have no:∀ u∈ts,¬ (u.1=h/\u.2.1=c):=λu hu z=>nt (bL.mpr ⟨u,hu,Prod.ext (z.1.trans e.1.symm) (z.2.trans e.2.symm)⟩)
   have e1:ts.map (CB h c r)=ts:=by
    refine (dh λu hu=>?_).trans (uB ts)
    unfold CB
    rw[if_neg (no u hu)]
    rfl
   have e2:ts.filter (λu=>!decide (u.1=h/\u.2.1=c))=ts:=List.filter_eq_self.mpr λu hu=>by rw[decide_eq_false (no u hu)]; rfl
   rw[ck,e1,fz,if_neg (by simp[e]),e2]
   have e3:CB h c r t=(h,c,r):=by unfold CB; rw[if_pos e]
   rw[e3]
   exact (List.perm_append_comm (l₁:=[(h,c,r)]) (l₂:=ts))
  ·have e3:CB h c r t=t:=by unfold CB; rw[if_neg e]
   rw[ck,e3,fz,if_pos (by rw[decide_eq_false e]; rfl)]
   refine List.Perm.cons t (JW n' ?_)
   obtain⟨u,hu,z⟩:=hx
   rcases bA.mp hu with rfl | hu
   ·exact absurd z e
   ·exact⟨u,hu,z⟩
theorem JX{xs ys:List T3}(hp:xs.Perm ys)(h c r:Int):(put3 xs h c r).Perm (put3 ys h c r):=(hp.filter _).append_right _
theorem Pc{ts ks:List T3}{h c r:Int}(hp:ts.Perm ks)(n:gE ts):∃ ts',putK (ts.map iz) (keyOf h c) (V.int r)=ts'.map iz/\ts'.Perm (put3 ks h c r)/\gE ts':=by
 unfold putK
 by_cases a:((ts.map iz).any λkv=>decide (kv.1=keyOf h c))=true
 ·rw[if_pos a]
  refine⟨ts.map (CB h c r),?_,?_,?_⟩
  ·rw[cu,cu]
   refine dh λt _=>?_
   show (if (iz t).1=keyOf h c then ((iz t).1,V.int r) else iz t)=iz (CB h c r t)
   unfold CB
   by_cases e:t.1=h/\t.2.1=c
   ·rw[if_pos ((nO t h c).mpr e),if_pos e,(nO t h c).mpr e]
    rfl
   ·rw[if_neg (λz=>e ((nO t h c).mp z)),if_neg e]
  ·refine (JW n ?_).trans (JX hp h c r)
   obtain⟨kv,h1,h2⟩:=gw.mp a
   obtain⟨t,ht,rfl⟩:=bL.mp h1
   exact⟨t,ht,(nO t h c).mp (of_decide_eq_true h2)⟩
  ·unfold gE
   rw[cu]
   have:((λt:T3=>(t.1,t.2.1)) ∘ CB h c r)=λt:T3=>(t.1,t.2.1):=funext λt=>UU h c r t
   rw[this]
   exact n
 ·rw[if_neg a]
  have no:∀ t∈ts,¬ (t.1=h/\t.2.1=c):=λt ht z=>a (gw.mpr ⟨iz t,bL.mpr ⟨t,ht,rfl⟩,decide_eq_true ((nO t h c).mpr z)⟩)
  have e:put3 ts h c r=ts++[(h,c,r)]:=by
   unfold put3
   rw[List.filter_eq_self.mpr λu hu=>by rw[decide_eq_false (no u hu)]; rfl]
  refine⟨ts++[(h,c,r)],by rw[aT]; rfl,e ▸ JX hp h c r,e ▸ UT n⟩
structure pW(C:Addr)(H:Hp)(p d:Addr)(ts:List T3):Prop where
 ob:∃ dx,H p=some (.ins C dx [("kept",.ref d)])
 di:H d=some (.dT (ts.map iz))
theorem pW.mono{C:Addr}{H H':Hp}{p d:Addr}{ts:List T3}(s:aC H H')(h:pW C H p d ts):pW C H' p d ts:=by
 obtain⟨⟨dx,h1⟩,h2⟩:=h
 exact⟨⟨dx,s _ _ h1⟩,s _ _ h2⟩
def Z6(K:af)(H:Hp)(l:Addr)(ts:List T3):Prop:=∃ qs:List Addr,H l=some (.lst (qs.map V.ref))/\gy K H qs ts
def tV(u:HO):Prop:=∀ xs,u≠.tup xs/\∀ o,u≠.Am o (.tup xs)
theorem jE{ys:List V}:tV (.lst ys):=λxs=>⟨λe=>(by cases e),λo e=>(by cases e)⟩
theorem acB{kvs:List (List Key × V)}:tV (.dT kvs):=λxs=>⟨λe=>(by cases e),λo e=>(by cases e)⟩
theorem Z7{o:Obj}{kvs:List (List Key × V)}:tV (.Am o (.dT kvs)):=λxs=>⟨λe=>(by cases e),λo e=>(by cases e)⟩
theorem mC{C dx:Addr}{fs:List (Str × V)}:tV (.ins C dx fs):=λxs=>⟨λe=>(by cases e),λo e=>(by cases e)⟩
theorem cH.past{K:af}{H H':Hp}{z a:Addr}{u:HO}{xs:List V}(hz:H z=some u)(nt:tV u)(keep:∀ b v,H b=some v->b≠z->H' b=some v)(h:cH K H a xs):cH K H' a xs:=by
 rcases h with (h | ⟨o,h⟩) | h
 ·exact .inl (.inl (keep _ _ h λe=>by subst e; rw[hz] at h; exact (nt xs).1 (aP h)))
 ·exact .inl (.inr ⟨o,keep _ _ h λe=>by subst e; rw[hz] at h; exact (nt xs).2 o (aP h)⟩)
 ·exact .inr h
theorem gy.past{K:af}{H H':Hp}{z:Addr}{u:HO}{qs:List Addr}{ts:List T3}(hz:H z=some u)(nt:tV u)(keep:∀ b v,H b=some v->b≠z->H' b=some v)(h:gy K H qs ts):gy K H' qs ts :=
 ⟨h.1,λi q t a b=>cH.past hz nt keep (h.2 i q t a b)⟩
theorem bZ{H:Hp}{z:Addr}{o:HO}:∀ b v,H b=some v->b≠z->(upd H z o) b=some v:=λb v e nb=>by rw[aD nb]; exact e
theorem gy.snoc{K:af}{H:Hp}{qs:List Addr}{ts:List T3}{q:Addr}{t:T3}(h:gy K H qs ts)(hq:cH K H q (t3V t)):gy K H (qs++[q]) (ts++[t]):=by
 refine⟨by rw[av,av,h.1]; rfl,λi a u ha hu=>?_⟩
 by_cases z:i < qs.length
 ·rw[bU z] at ha
  rw[bU (h.1 ▸ z)] at hu
  exact h.2 i a u ha hu
 ·have e:i=qs.length:=by
   have:=(ai.mp ha).1
   rw[av] at this
   have:i < qs.length + 1:=this
   lia
  subst e
  rw[lY] at ha
  rw[h.1,lY] at hu
  cases ha
  cases hu
  exact hq
theorem gy.nil{K:af}{H:Hp}:gy K H [] []:=⟨rfl,λi q t hq=>by cases hq⟩
noncomputable def two(f:Bool->Addr):List V:=[.ref (f false),.ref (f true)]
theorem Pd{H:Hp}{a b:Addr}{u v:HO}(ha:H a=some u)(hb:H b=some v)(n:u≠v):a≠b:=λe=>by
 subst e
 rw[ha] at hb
 exact n (aP hb)
structure Keeps(K:af)(H:Hp)(lk:Addr)(kk:Bool->Addr)(ks:Bool->List T3):Prop where
 hk:H lk=some (.lst (two kk))
 Kp:∀ b,Z6 K H (kk b) (ks b)
 nk:∀ b,kk b≠lk
end TW
namespace L2
open PySem PySem.W PySem.Spec PyProof.Rows
end L2
namespace TW
open PySem L2 PyProof.Rows
theorem MK{J:It}{n:Nat}{cap:List (Option Nat)}{g:TG}{tc:TT}{te:TE}{σ:L2.St}{Qr:Hp->Prop}{H1:Hp}{acc:Addr}(it:Nat->V)(f:Nat->Option V)(hacc:H1 acc=none)
 (go:∀ i H,i < n->aC H1 H->J.go i H) (stop:∀ H,aC H1 H->J.stop n H) (Ml:∀ i H x H',i < n->aC H1 H->J.Ml i H x H'->H'=H/\x=it i) (hn:n<=1000)
 (step:∀ (i:Nat) (H:Hp) (R:V->Hp->Prop) (S:Hp->Prop),i < n->aC H1 H->(∀ y H',aC H H'->f i=some y->R y H')->(∀ H',aC H H'->f i=none->S H') ->
  g (it i) (jA cap σ) H λσ2 H2=>tc σ2 H2 λb H3=>if b=true then te σ2 H3 R else S H3)
 (fin:∀ H,aC H1 H->H acc=some (.lst ((aq n).filterMap f))->Qr H) :
 ∃ W:Nat->Nat->Hp->Prop,(∃ m,W 0 m (upd H1 acc (.lst [])))/\∀ i m H,W i m H ->
  (J.stop i H/\Qr H)∨(J.go i H/\∀ x H',J.Ml i H x H'->g x (jA cap σ) H' λσ2 H2=>tc σ2 H2 λb H3=>if b=true then te σ2 H3 λy H4=>∃ xs,H4 acc=some (.lst xs)/\xs.length < sizeLine /\
   ∃ m',m' < m/\W (i + 1) m' (upd H4 acc (.lst (xs++[y]))) else ∃ m',m' < m/\W (i + 1) m' H3):=by
 have hlen:∀ i,((aq i).filterMap f).length<=i:=λi=>by
  have:=List.length_filterMap_le f (aq i)
  rwa [bH] at this
 refine fQ (n:=n) (λi ys _=>ys=(aq i).filterMap f) hacc go stop rfl ?_ ?_
 ·rintro i ys H hi s hy rfl x H' hx
  obtain⟨rfl,rfl⟩:=Ml i H x H' hi s hx
  have e:(aq (i + 1)).filterMap f=(aq i).filterMap f++(f i).toList:=by
   rw[ju,List.filterMap_append]
   cases h:f i <;> simp[h]
  refine step i H' _ _ hi s (λy H4 s4 hf=>?_) (λH3 s3 hf=>?_)
  ·refine dZ hacc hi (s.trans s4) (s4 _ _ hy) (bW (aH (hlen i) (aH (iL hi) hn))) ?_
   show _=(aq (i + 1)).filterMap f
   rw[e,hf]
   rfl
  ·refine i0 hi (s.trans s3) (s3 _ _ hy) ?_
   show _=(aq (i + 1)).filterMap f
   rw[e,hf]
   simp
 ·rintro ys H s hy rfl
  exact fin H s hy
theorem qO{α β:Type}:∀ (xs:List α) (F:α->Option β),(aq xs.length).filterMap (λi=>xs[i]?.bind F)=xs.filterMap F
 | [],F=>rfl
 | x :: xs,F=>by
  have e:((λi:Nat=>(x :: xs)[i]?.bind F) ∘ Nat.succ)=λi=>xs[i]?.bind F:=funext λi=>by simp
  rw[bE,List.range_succ_eq_map,dj,List.filterMap_map,e,qO xs F,dj]
  rfl
theorem Sf{K:af}{l acc:Addr}{xs:List Int}{cap:List (Option Nat)}{g:TG}{tc:TT}{te:TE}{σ:L2.St}{Qr:Hp->Prop}{H1:Hp}(F:Int->Option V)(hacc:H1 acc=none)(hl:bJ K H1 l (xs.map V.int))(hn:xs.length<=1000)
 (step:∀ (x:Int) (H:Hp) (R:V->Hp->Prop) (S:Hp->Prop),x∈xs->aC H1 H->(∀ y H',aC H H'->F x=some y->R y H')->(∀ H',aC H H'->F x=none->S H') ->
  g (.int x) (jA cap σ) H λσ2 H2=>tc σ2 H2 λb H3=>if b=true then te σ2 H3 R else S H3)
 (fin:∀ H,aC H1 H->H acc=some (.lst (xs.filterMap F))->Qr H) :
 ∃ W:Nat->Nat->Hp->Prop,(∃ m,W 0 m (upd H1 acc (.lst [])))/\∀ i m H,W i m H ->
  ((KZ K l).stop i H/\Qr H)∨((KZ K l).go i H/\∀ x H',(KZ K l).Ml i H x H'->g x (jA cap σ) H' λσ2 H2=>tc σ2 H2 λb H3=>if b=true then te σ2 H3 λy H4=>∃ xs,H4 acc=some (.lst xs)/\xs.length < sizeLine /\
    ∃ m',m' < m/\W (i + 1) m' (upd H4 acc (.lst (xs++[y]))) else ∃ m',m' < m/\W (i + 1) m' H3):=by
 have hL:(xs.map V.int).length=xs.length:=ah _
 refine MK (n:=xs.length) (λi=>(xs.map V.int).getD i .eU) (λi=>xs[i]?.bind F) hacc (λi H hi s=>yV hl i H (by rw[hL]; exact hi) s) (λH s=>by have:=o6 hl H s; rwa [hL] at this) (λi H x H' hi s hx=>?_) hn (λi H R S hi s h1 h2=>?_) (λH s hy=>fin H s (by rw[<- qO]; exact hy))
 ·obtain⟨rfl,hx⟩:=hx
  have hx:=hx _ (s.seq hl)
  exact⟨rfl,by rw[az,hx]; rfl⟩
 ·have e:(xs.map V.int).getD i .eU=V.int xs[i]:=by rw[az,aj,aa hi]; rfl
  have e2:xs[i]?=some xs[i]:=aa hi
  rw[e]
  refine step _ H R S (aL hi) s (λy H' s' hf=>h1 y H' s' ?_) (λH' s' hf=>h2 H' s' ?_)
  ·show xs[i]?.bind F=_
   rw[e2]
   exact hf
  ·show xs[i]?.bind F=_
   rw[e2]
   exact hf
theorem Sg(xs:List Int)(f:Int->Bool):xs.filterMap (λx=>if f x=true then some (V.int x) else none)=(xs.filter f).map V.int:=by
 induction xs with
 | nil=>rfl
 | cons x xs ih =>
  by_cases h:f x=true
  ·rw[rM h,ck,<- ih,dj]; simp only[h,if_true]
  ·rw[rN h,<- ih,dj]; simp only[h]; rfl
theorem rW{K:af}{l acc:Addr}{xs:List Int}{cap:List (Option Nat)}{g:TG}{tc:TT}{te:TE}{σ:L2.St}{Qr:Hp->Prop}{H1:Hp}(f:Int->Bool)(hacc:H1 acc=none)(hl:bJ K H1 l (xs.map V.int))(hn:xs.length<=1000)
 (step:∀ (x:Int) (H:Hp) (R:V->Hp->Prop) (S:Hp->Prop),x∈xs->aC H1 H->(∀ H',aC H H'->f x=true->R (.int x) H')->(∀ H',aC H H'->f x=false->S H') ->
  g (.int x) (jA cap σ) H λσ2 H2=>tc σ2 H2 λb H3=>if b=true then te σ2 H3 R else S H3)
 (fin:∀ H,aC H1 H->H acc=some (.lst ((xs.filter f).map V.int))->Qr H) :
 ∃ W:Nat->Nat->Hp->Prop,(∃ m,W 0 m (upd H1 acc (.lst [])))/\∀ i m H,W i m H ->
  ((KZ K l).stop i H/\Qr H)∨((KZ K l).go i H/\∀ x H',(KZ K l).Ml i H x H'->g x (jA cap σ) H' λσ2 H2=>tc σ2 H2 λb H3=>if b=true then te σ2 H3 λy H4=>∃ xs,H4 acc=some (.lst xs)/\xs.length < sizeLine /\
    ∃ m',m' < m/\W (i + 1) m' (upd H4 acc (.lst (xs++[y]))) else ∃ m',m' < m/\W (i + 1) m' H3):=by
 refine Sf (λx=>if f x=true then some (V.int x) else none) hacc hl hn (λx H R S hx s h1 h2=>step x H R S hx s (λH' s' hf=>h1 _ H' s' (if_pos hf)) (λH' s' hf=>h2 H' s' (if_neg (by rw[hf]; exact aB)))) (λH s hy=>fin H s (by rw[<- Sg]; exact hy))
def Yt(u:HO):Prop:=∀ xs,u≠.lst xs/\∀ o,u≠.Am o (.lst xs)
theorem UW{C dx:Addr}{fs:List (Str × V)}:Yt (.ins C dx fs):=λxs=>⟨λe=>(by cases e),λo e=>(by cases e)⟩
theorem bJ.past{K:af}{H H':Hp}{z a:Addr}{u:HO}{xs:List V}(hz:H z=some u)(nt:Yt u)(keep:∀ b v,H b=some v->b≠z->H' b=some v)(h:bJ K H a xs):bJ K H' a xs:=by
 rcases h with (h | ⟨o,h⟩) | h
 ·exact .inl (.inl (keep _ _ h λe=>by subst e; rw[hz] at h; exact (nt xs).1 (aP h)))
 ·exact .inl (.inr ⟨o,keep _ _ h λe=>by subst e; rw[hz] at h; exact (nt xs).2 o (aP h)⟩)
 ·exact .inr h
noncomputable def Fi(c:Option Int):V:=(c.map V.int).getD .eU
theorem CC(i:Int)(c:Option Int):Zv (.int i) (Fi c)=true:=by cases c <;> rfl
theorem UX(c:Option Int):ym (Fi c)=true:=by cases c <;> rfl
theorem GF(xs:List Int):JL .eU (xs.map V.int)=false:=by
 unfold JL
 rw[List.any_map,List.any_eq_false]
 intro x _
 show ¬ (RO (.int x) .eU)=true
 simp[RO]
noncomputable def rX(c:Option Int)(r:Int):Bool:=!decide (V.int r=Fi c)
noncomputable def We(ts:List T3)(so:Option Int)(mD:Int)(cO:Option Int)(os hs:List Int):List Int :=
 match so with
 | none=>os.filter (rX cO)
 | some to=>if to∈hs then [] else match Bo ts mD to with
  | some r=>if r∈os then [r].filter (rX cO) else os.filter (rX cO)
  | none=>os.filter (rX cO)
noncomputable def GG(s to k c:Int):Bool:=if k=1 then decide (V.int c=V.int to) else if k=2 then !decide (V.int c=V.int s) else false
noncomputable def Au(to k:Int):Option Int:=if k=1 then some to else none
theorem made{H:Hp}{x dx C:Addr}{fs:List (Str × V)}(hx:H x=none)(hdx:H dx=none)(hne:dx≠x):aC H (upd (upd (upd H dx (.own x)) x (.ins C dx [])) x (.ins C dx fs)):=by
 rw[KQ]
 exact (aC.new hdx).trans (aC.new (by rw[aD (bK hne)]; exact hx))
theorem neT{b:Bool}(h:¬ b=true):b=false:=by
 cases b
 ·rfl
 ·exact absurd rfl h
end TW
namespace TX
open PySem PySem.StrLaws PySem.Builtin PySem.Builtin.Str
noncomputable abbrev cs(x:Str):List Nat:=x.cps.toList
end TX
namespace TX
open PySem PySem.StrLaws PySem.Builtin PySem.Builtin.Str PySem.NumText
end TX
namespace TX
open PySem PySem.StrLaws PySem.Builtin PySem.Builtin.Str
end TX
namespace L2
open PySem PySem.W PySem.Spec PyProof.Rows
theorem GH{α β:Type}{f g:α->Option β}:∀ {l:List α},(∀ x∈l,f x=g x)->l.filterMap f=l.filterMap g
 | [],_=>rfl
 | x :: l,h=>by
  rw[dj,dj,h x (b6 ..),GH λy hy=>h y (bu _ hy)]
theorem Sh{α:Type}(xs:List α):((aq xs.length).map (λk=>xs.length - 1 - k)).filterMap (λi=>xs.toArray[i]?)=xs.reverse:=by
 have h1:(aq xs.length).map (λk=>xs.length - 1 - k)=(aq xs.length).reverse:=by
  refine pQ (by simp) λi h1 h2=>?_
  simp at h1 h2
  simp[List.getElem_reverse]
 rw[h1,List.filterMap_reverse]
 congr 1
 refine List.ext_getElem? λi=>?_
 have h2:(aq xs.length).filterMap (λi=>xs.toArray[i]?)=xs:=by
  have:=TW.qO xs (λx=>some x)
  rw[List.filterMap_some] at this
  refine Eq.trans (GH λi hi=>?_) this
  rw[List.getElem?_toArray]
  cases xs[i]? <;> rfl
 rw[h2]
theorem GI(its:List Value):slicePick its.toArray none none (some (-1))=its.reverse.toArray:=by
 unfold slicePick
 congr 1
 have e:sliceBounds none none (some (-1)) its.toArray.size=((its.length:Int) - 1,-1,-1):=by
  simp[sliceBounds]
 rw[e,<- Sh its]
 congr 1
 unfold sliceRange
 by_cases h:its.length=0
 ·simp[h]
 ·have h1:((its.length:Int) - 1) > -1:=by lia
  have e2:((its.length:Int) - 1 - -1 - -1 - 1) / (- -1)=(its.length:Int):=by
   have:((its.length:Int) - 1 - -1 - -1 - 1)=(its.length:Int):=by lia
   rw[this]
   show (its.length:Int) / 1=_
   exact Int.ediv_one _
  simp only[show ¬ ((-1:Int) > 0) by decide,if_false,h1,if_true,e2,eO]
  refine dh λk hk=>?_
  have:=fc.mp hk
  lia
section
variable{X:Cx}
def Z8(K:af)(te:TE)(ts:TO):TE:=λσ H Q=>te σ H λx H1=>ts σ H1 λo H2=>∃ a xs,x = .ref a/\o=some (-1)/\bJ K H2 a xs/\∀ p,H2 p=none->Q (.ref p) (upd H2 p (.lst xs.reverse))
theorem Si{xs:List V}{us:List Value}(h:bT xs us):bT xs.reverse us.reverse:=by
 induction h with
 | nil=>exact .nil
 | cons r t ih =>
  rw[List.reverse_cons,List.reverse_cons]
  exact ih.append (.cons r .nil)
theorem ML{e st:Expr}{te:TE}{ts:TO}{p2 pos:Pos}(he:PE X e te)(hs:PO X (some st) ts):PE X (.Subscript e (.Slice none none (some st) p2) pos) (Z8 X.K te ts):=by
 intro pins s σ H Q I h
 refine Subscript_ (gv (he pins s σ H _ I h) λv s1 ⟨x,H1,I1,r1,q1⟩=>?_)
 refine wpAny_Slice ?_
 rw[evalPart_none]
 refine wpAny_pure ?_
 refine wpAny_pure ?_
 refine gv (hs pins s1 σ H1 _ I1 q1) λvs s2 ⟨o,H2,I2,po,a,xs,e1,e2,hq,q⟩=>?_
 subst e1 e2
 cases r1
 have I4:Inv X pins σ H2 { s2 with heap:=s2.heap.push { cls:=.type "slice",data:=.fields #[.none,.none,vs] } }:=I2.kept (t':=s2.toks) λb ob q=>Heap.get?_push_of_some _ q
 obtain⟨its,r,ht,hz⟩:=I4.list hq
 have hlen:=r.length
 show wpAny (model X.prog X.w) X.A (subscriptTail e (.Slice none none (some st) p2) (.ref a) (.ref s2.heap.objs.size)) (EP X pins σ Q) X.xe { s2 with heap:=s2.heap.push { cls:=.type "slice",data:=.fields #[.none,.none,vs] } }
 refine tail_any (ops:=[.ref a,.ref s2.heap.objs.size]) ht.isList.typeIs slot_list_getitem.lookup ?_ (by with_unfolding_all rfl)
 refine wpAny_getItem_list_slice ht.isList (Heap.IsSliceOf.new ..) .none .none po (by simp) ?_ (by rw[aJ] <;> lia)
 rw[GI]
 refine⟨.ref _,_,I4.laid (t':=s2.toks) (o:=.lst xs.reverse) (λb ob q=>Heap.get?_push_of_some _ q) (au _) ?_,rfl,q _ (I4.hok.fresh (au _))⟩
 exact⟨by rw[List.length_reverse]; exact hz,its.reverse,0,Si r,Heap.get?_push_size _ rfl⟩
end
end L2
namespace TW
open PySem L2 PyProof.Rows
theorem QB{K:af}{l acc:Addr}{xs:List V}{cap:List (Option Nat)}{g:TG}{tc:TT}{te:TE}{σ:L2.St}{Qr:Hp->Prop}{H1:Hp}(f:Nat->Option V)(hacc:H1 acc=none)(hl:bJ K H1 l xs)(hn:xs.length<=1000)
 (step:∀ (i:Nat) (x:V) (H:Hp) (R:V->Hp->Prop) (S:Hp->Prop),xs[i]?=some x->aC H1 H->(∀ y H',aC H H'->f i=some y->R y H')->(∀ H',aC H H'->f i=none->S H') ->
  g x (jA cap σ) H λσ2 H2=>tc σ2 H2 λb H3=>if b=true then te σ2 H3 R else S H3)
 (fin:∀ H,aC H1 H->H acc=some (.lst ((aq xs.length).filterMap f))->Qr H) :
 ∃ W:Nat->Nat->Hp->Prop,(∃ m,W 0 m (upd H1 acc (.lst [])))/\∀ i m H,W i m H ->
  ((KZ K l).stop i H/\Qr H)∨((KZ K l).go i H/\∀ x H',(KZ K l).Ml i H x H'->g x (jA cap σ) H' λσ2 H2=>tc σ2 H2 λb H3=>if b=true then te σ2 H3 λy H4=>∃ xs,H4 acc=some (.lst xs)/\xs.length < sizeLine /\
    ∃ m',m' < m/\W (i + 1) m' (upd H4 acc (.lst (xs++[y]))) else ∃ m',m' < m/\W (i + 1) m' H3):=by
 refine MK (n:=xs.length) (λi=>xs.getD i .eU) f hacc (yV hl) (o6 hl) (λi H x H' hi s hx=>?_) hn (λi H R S hi s h1 h2=>?_) fin
 ·obtain⟨rfl,hx⟩:=hx
  have hx:=hx _ (s.seq hl)
  exact⟨rfl,by rw[az,hx]; rfl⟩
 ·have e:xs.getD i .eU=xs[i]:=by rw[az,aa hi]; rfl
  rw[e]
  exact step i _ H R S (aa hi) s h1 h2
theorem GJ{α β:Type}(xs:List α)(h:α->β):(aq xs.length).filterMap (λi=>xs[i]?.map h)=xs.map h:=by
 have e:∀ l:List α,l.filterMap (λx=>some (h x))=l.map h:=λl=>by
  induction l with
  | nil=>rfl
  | cons a l ih=>rw[dj,ih]; rfl
 rw[<- e,<- qO xs (λx=>some (h x))]
 refine GH λi _=>?_
 cases xs[i]? <;> rfl
inductive Role where
 | cQ | cy | cP | fN (i:Nat) | tW | rows (g:Nat) | iD | book (g:Nat) | eF (g:Nat)
 | bg | groups | jh | handed (c:Nat) | cE | bS (i:Nat) | letter (i:Nat) | done (i:Nat) | aQ (i:Nat) | d8
 deriving DecidableEq
structure uI(H:Hp)(loc:Role->Addr)(ob:Role->Option HO):Prop where
 get:∀ r o,ob r=some o->H (loc r)=some o
 inj:∀ r q,ob r≠none->ob q≠none->loc r=loc q->r=q
noncomputable def gF(ob:Role->Option HO)(r:Role)(o:HO):Role->Option HO:=λq=>if q=r then some o else ob q
noncomputable def pX(loc:Role->Addr)(r:Role)(a:Addr):Role->Addr:=λq=>if q=r then a else loc q
theorem cW{ob:Role->Option HO}{r:Role}{o:HO}:gF ob r o r=some o:=if_pos rfl
theorem b9{ob:Role->Option HO}{r q:Role}{o:HO}(h:q≠r):gF ob r o q=ob q:=if_neg h
theorem eT{loc:Role->Addr}{r:Role}{a:Addr}:pX loc r a r=a:=if_pos rfl
theorem d9{loc:Role->Addr}{r q:Role}{a:Addr}(h:q≠r):pX loc r a q=loc q:=if_neg h
def Fp(loc:Role->Addr)(ob:Role->Option HO)(b:Addr):Prop:=∃ r,ob r≠none/\loc r=b
section
variable{H H':Hp}{loc:Role->Addr}{ob:Role->Option HO}
theorem uI.mono(h:uI H loc ob)(s:aC H H'):uI H' loc ob:=⟨λr o e=>s _ _ (h.get r o e),h.inj⟩
theorem uI.keep(h:uI H loc ob)(k:∀ b o,H b=some o->Fp loc ob b->H' b=some o):uI H' loc ob :=
 ⟨λr o e=>k _ _ (h.get r o e) ⟨r,by rw[e]; exact aM o,rfl⟩,h.inj⟩
theorem uI.set(h:uI H loc ob){r:Role}(hr:ob r≠none)(o:HO):uI (upd H (loc r) o) loc (gF ob r o):=by
 have hs:∀ q,gF ob r o q≠none->ob q≠none:=λq hq=>by
  by_cases e:q=r
  ·rw[e]; exact hr
  ·rw[b9 e] at hq; exact hq
 refine⟨λq u e=>?_,λq q' h1 h2 e=>h.inj q q' (hs q h1) (hs q' h2) e⟩
 by_cases z:q=r
 ·subst z
  rw[cW] at e
  cases e
  exact ao
 ·rw[b9 z] at e
  rw[aD (λw=>z (h.inj q r (by rw[e]; exact aM u) hr w))]
  exact h.get q u e
theorem uI.new(h:uI H loc ob){p:Addr}(hp:H p=none)(r:Role)(o:HO):uI (upd H p o) (pX loc r p) (gF ob r o):=by
 have ne:∀ q,q≠r->ob q≠none->loc q≠p:=λq hq hob e=>by
  cases ho:ob q with
  | none=>exact hob ho
  | some u =>
   have:=h.get q u ho
   rw[e,hp] at this
   cases this
 refine⟨λq u e=>?_,λq q' h1 h2 e=>?_⟩
 ·by_cases z:q=r
  ·subst z
   rw[cW] at e
   cases e
   rw[eT]
   exact ao
  ·rw[b9 z] at e
   rw[d9 z,aD (ne q z (by rw[e]; exact aM u))]
   exact h.get q u e
 ·by_cases z:q=r
  ·by_cases z':q'=r
   ·rw[z,z']
   ·rw[z,eT,d9 z'] at e
    rw[b9 z'] at h2
    exact absurd e.symm (ne q' z' h2)
  ·by_cases z':q'=r
   ·rw[z',eT,d9 z] at e
    rw[b9 z] at h1
    exact absurd e (ne q z h1)
   ·rw[d9 z,d9 z'] at e
    rw[b9 z] at h1
    rw[b9 z'] at h2
    exact h.inj q q' h1 h2 e
theorem uI.UY(h:uI H loc ob){p:Addr}{r:Role}{o:HO}{b:Addr}(hb:Fp (pX loc r p) (gF ob r o) b):Fp loc ob b∨b=p:=by
 obtain⟨q,h1,h2⟩:=hb
 by_cases z:q=r
 ·rw[z,eT] at h2
  exact .inr h2.symm
 ·rw[b9 z] at h1
  rw[d9 z] at h2
  exact .inl ⟨q,h1,h2⟩
theorem GK{r:Role}(hr:ob r≠none){o:HO}{b:Addr}:Fp loc (gF ob r o) b↔Fp loc ob b:=by
 constructor
 ·rintro⟨q,h1,h2⟩
  refine⟨q,?_,h2⟩
  by_cases z:q=r
  ·rw[z]; exact hr
  ·rw[b9 z] at h1; exact h1
 ·rintro⟨q,h1,h2⟩
  refine⟨q,?_,h2⟩
  by_cases z:q=r
  ·rw[z,cW]; exact aM o
  ·rw[b9 z]; exact h1
end
inductive AL where
 | post (h:Nat) | acC (h r:Nat) | hand (h c:Nat) | send (h r w:Nat) | twice (h r:Nat) | UZ (h r:Nat)
noncomputable def AL.vs:AL->List V
 | .post h=>[.str "post",.int h]
 | .acC h r=>[.str "come",.int h,.int r]
 | .hand h c=>[.str "hand",.int h,.int c]
 | .send h r w=>[.str "send",.int h,.int r,.int w]
 | .twice h r=>[.str "twice",.int h,.int r]
 | .UZ h r=>[.str "lost",.int h,.int r]
structure LS where
 s:Nat
 to:Nat
 kd:Int
 grp:Nat
 old:Bool
 done:List Nat
 aQ:List AL
structure Cp where
 l:Nat
 r:Nat
 w:Nat
 h:Nat
noncomputable def Cp.vs(c:Cp):List V:=[.int c.l,.int c.r,.int c.w,.int c.h]
structure NS where
 ws:List (List Nat)
 R:Nat->Nat->RM.Row
 ts:Nat->List T3
 bg:List Nat
 groups:List Nat
 had:List (List Nat)
 ls:List LS
 cps:List Cp
structure TQ where
 rq:Nat->List Addr
 dq:Nat->List Addr
 cq:List Addr
structure NC where
 cQ:Addr
 str:Addr
 book:Addr
 post:Addr
 akm:Addr
 let1:Addr
 acD:Addr
noncomputable def qP(c:NC)(dx:Addr)(l:LS):HO:=if l.kd=1 then .ins c.let1 dx [("sender",.int l.s),("to",.int l.to)] else .ins c.acD dx [("sender",.int l.s)]
noncomputable def desc(c:NC)(dx:Role->Addr)(tp:Addr)(loc:Role->Addr)(q:TQ)(s:NS):Role->Option HO
 | .cQ=>some (.ins c.cQ (dx .cQ) [("town",.ref tp),("strands",.ref (loc .cy)),("rows_by_group",.ref (loc .tW)),("books",.ref (loc .iD)),("homes",.ref (loc .bg)),("groups",.ref (loc .groups)),("handed",.ref (loc .jh)),("letters",.ref (loc .cE)),("copies",.ref (loc .d8))])
 | .cy=>some (.ins c.str (dx .cy) [("town",.ref tp),("upright",.ref (loc .cP))])
 | .cP=>some (.lst ((aq s.ws.length).map λi=>.ref (loc (.fN i))))
 | .fN i=>s.ws[i]?.map λw=>.lst (aV w)
 | .tW=>some (.lst ((aq 3).map λg=>.ref (loc (.rows g))))
 | .rows g=>if g < 3 then some (.lst ((q.rq g).map V.ref)) else none
 | .iD=>some (.lst ((aq 3).map λg=>.ref (loc (.book g))))
 | .book g=>if g < 3 then some (.ins c.book (dx (.book g)) [("kept",.ref (loc (.eF g)))]) else none
 | .eF g=>if g < 3 then some (.dT ((s.ts g).map iz)) else none
 | .bg=>some (.lst (aV s.bg))
 | .groups=>some (.lst (aV s.groups))
 | .jh=>some (.lst ((aq s.had.length).map λi=>.ref (loc (.handed i))))
 | .handed i=>s.had[i]?.map λw=>.lst (aV w)
 | .cE=>some (.lst ((aq s.ls.length).map λi=>.ref (loc (.bS i))))
 | .bS i=>s.ls[i]?.map λl=>.ins c.post (dx (.bS i)) [("letter",.ref (loc (.letter i))),("group",.int l.grp),("old",.bl l.old),("done_at",.ref (loc (.done i))),("deeds",.ref (loc (.aQ i)))]
 | .letter i=>s.ls[i]?.map λl=>qP c (dx (.letter i)) l
 | .done i=>s.ls[i]?.map λl=>.dK (l.done.map λh:Nat=>(fW (h:Int),.bl true))
 | .aQ i=>s.ls[i]?.map λl=>.lst ((q.dq i).map V.ref)
 | .d8=>some (.lst (q.cq.map V.ref))
mutual
noncomputable def MM:PyData->Bool
 | .none=>true
 | .bool _=>true
 | .int _=>true
 | .str _=>true
 | .list _=>false
 | .tuple ds=>DJ ds
 | .dict _=>true
noncomputable def DJ:List PyData->Bool
 | []=>true
 | d :: ds=>MM d && DJ ds
end
structure dR(K:af)(H:Hp)(qs:List Addr)(xs:List (List V)):Prop where
 len:qs.length=xs.length
 at':∀ (i:Nat) q x,qs[i]?=some q->xs[i]?=some x->cH K H q x
theorem dR.mono{K:af}{H H':Hp}{qs:List Addr}{xs:List (List V)}(h:dR K H qs xs)(k:∀ b x,cH K H b x->cH K H' b x):dR K H' qs xs:=⟨h.len,λi q x a b=>k _ _ (h.at' i q x a b)⟩
noncomputable def f9(n:Nat)(R:Nat->RM.Row):List (List V):=(aq n).map λi=>RM.cR (R i)
structure mE(K:af)(H:Hp)(n:Nat)(q:TQ)(s:NS):Prop where
 rows:∀ g,g < 3->dR K H (q.rq g) (f9 n (s.R g))
 aQ:∀ i l,s.ls[i]?=some l->dR K H (q.dq i) (l.aQ.map AL.vs)
 cps:dR K H q.cq (s.cps.map Cp.vs)
theorem mE.mono{K:af}{H H':Hp}{n:Nat}{q:TQ}{s:NS}(h:mE K H n q s)(k:∀ b x,cH K H b x->cH K H' b x):mE K H' n q s :=
 ⟨λg hg=>(h.rows g hg).mono k,λi l e=>(h.aQ i l e).mono k,h.cps.mono k⟩
def c5(K:af)(c:NC)(H:Hp)(F:Addr->Prop)(p tp:Addr)(n:Nat)(s:NS):Prop :=
 ∃ loc dx q,loc .cQ=p/\uI H loc (desc c dx tp loc q s)/\(∀ b,F b↔Fp loc (desc c dx tp loc q s) b)/\mE K H n q s
structure Step(H:Hp)(F:Addr->Prop)(H':Hp)(F':Addr->Prop):Prop where
 kp:∀ b o,H b=some o->¬ F b->H' b=some o
 fr:∀ b,F' b->F b∨H b=none
theorem Pe{c:NC}{dx:Role->Addr}{tp:Addr}{loc:Role->Addr}{q:TQ}{s:NS}{r:Role}{o:HO}(h:desc c dx tp loc q s r=some o):tV o:=by
 have key:∀ {α:Type} {f:α->HO} {x:Option α},(∀ a,tV (f a))->x.map f=some o->tV o:=λ{α f x} hf e=>by
  cases x with
  | none=>cases e
  | some a=>cases e; exact hf a
 have ins:∀ {C d:Addr} {fs:List (Str × V)},tV (.ins C d fs):=mC
 cases r <;> simp only[desc] at h
 all_goals first
  | (cases h; exact mC)
  | (cases h; exact jE)
  | exact key (λ_=>jE) h
  | exact key (λ_=>mC) h
  | (split at h
     ·cases h; first | exact jE | exact mC | exact acB
     ·cases h)
  | (refine key (λl=>?_) h; unfold qP; split <;> exact mC)
  | (refine key (λl=>?_) h; exact λxs=>⟨λe=>(by cases e),λo e=>(by cases e)⟩)
section
variable{K:af}{c:NC}{CT:Addr}{H H':Hp}{F F':Addr->Prop}{p tp ln lr:Addr}{n:Nat}{s s':NS}{ns:List Int}{rs:List R5}
theorem c5.mono(h:c5 K c H F p tp n s)(e:aC H H'):c5 K c H' F p tp n s:=by
 obtain⟨loc,dx,q,h1,h2,h3,h4⟩:=h
 exact⟨loc,dx,q,h1,h2.mono e,h3,h4.mono λb x=>e.dB⟩
theorem c5.U0(h:c5 K c H F p tp n s){b:Addr}{o:HO}(hb:F b)(e:H b=some o):tV o:=by
 obtain⟨loc,dx,q,h1,h2,h3,h4⟩:=h
 obtain⟨r,hr,rfl⟩:=(h3 b).mp hb
 cases ho:desc c dx tp loc q s r with
 | none=>exact absurd ho hr
 | some u =>
  have:=h2.get r u ho
  rw[e] at this
  cases this
  exact Pe ho
theorem c5.there(h:c5 K c H F p tp n s){b:Addr}(hb:F b):∃ o,H b=some o:=by
 obtain⟨loc,dx,q,h1,h2,h3,h4⟩:=h
 obtain⟨r,hr,rfl⟩:=(h3 b).mp hb
 cases ho:desc c dx tp loc q s r with
 | none=>exact absurd ho hr
 | some u=>exact⟨u,h2.get r u ho⟩
theorem c5.tup(h:c5 K c H F p tp n s)(kp:∀ b o,H b=some o->¬ F b->H' b=some o){b:Addr}{x:List V}(e:cH K H b x):cH K H' b x:=by
 rcases e with (e | ⟨o,e⟩) | e
 ·exact .inl (.inl (kp _ _ e λz=>(h.U0 z e x).1 rfl))
 ·exact .inl (.inr ⟨o,kp _ _ e λz=>(h.U0 z e x).2 o rfl⟩)
 ·exact .inr e
theorem c5.keep(h:c5 K c H F p tp n s)(kp:∀ b o,H b=some o->F b->H' b=some o)(kt:∀ b x,cH K H b x->cH K H' b x):c5 K c H' F p tp n s:=by
 obtain⟨loc,dx,q,h1,h2,h3,h4⟩:=h
 exact⟨loc,dx,q,h1,h2.keep λb o e z=>kp b o e ((h3 b).mpr z),h3,h4.mono kt⟩
end
mutual
theorem Rep.tups{K:af}{H H':Hp}(kt:∀ b x,cH K H b x->cH K H' b x):∀ {d:PyData} {v:V},MM d=true->Rep K H d v->Rep K H' d v
 | .none,_,_,h=>h
 | .bool _,_,_,h=>h
 | .int _,_,_,h=>h
 | .str _,_,_,h=>h
 | .list _,_,f,_=>by simp[MM] at f
 | .tuple ds,_,f,⟨a,vs,e,q,r⟩=>⟨a,vs,e,kt _ _ q,b4.tups kt f r⟩
 | .dict _,_,_,h=>h
theorem b4.tups{K:af}{H H':Hp}(kt:∀ b x,cH K H b x->cH K H' b x):∀ {ds:List PyData} {vs:List V},DJ ds=true->b4 K H ds vs->b4 K H' ds vs
 | [],_,_,h=>h
 | d :: ds,_,f,⟨v,r,e,q,t⟩=>by
  have f:(MM d && DJ ds)=true:=f
  rw[dF] at f
  exact⟨v,r,e,Rep.tups kt f.1 q,b4.tups kt f.2 t⟩
end
theorem GL:∀ rs:List R5,DJ (rs.map R5.D)=true
 | []=>rfl
 | r :: rs=>by
  show (MM r.D && DJ (rs.map R5.D))=true
  rw[GL rs]
  rfl
section
variable{K:af}{c:NC}{CT:Addr}{H H':Hp}{F F':Addr->Prop}{p tp ln lr:Addr}{n:Nat}{s s':NS}{ns:List Int}{rs:List R5}
theorem cN.keep(h:cN K CT H tp ln lr ns rs)(k1:∀ b o,H b=some o->b=tp∨b=ln∨b=lr->H' b=some o)(kt:∀ b x,cH K H b x->cH K H' b x):cN K CT H' tp ln lr ns rs:=by
 obtain⟨⟨dx,h1⟩,h2,vs,h3,h4⟩:=h
 exact⟨⟨dx,k1 _ _ h1 (.inl rfl)⟩,k1 _ _ h2 (.inr (.inl rfl)),vs,k1 _ _ h3 (.inr (.inr rfl)),b4.tups kt (GL rs) h4⟩
structure NW(K:af)(c:NC)(CT:Addr)(H:Hp)(F:Addr->Prop)(p tp ln lr:Addr)(ns:List Int)(rs:List R5)(s:NS):Prop where
 cQ:c5 K c H F p tp ns.length s
 qQ:cN K CT H tp ln lr ns rs
 o1:¬ F tp
 o2:¬ F ln
 o3:¬ F lr
theorem NW.mono(h:NW K c CT H F p tp ln lr ns rs s)(e:aC H H'):NW K c CT H' F p tp ln lr ns rs s:=⟨h.cQ.mono e,h.qQ.mono e,h.o1,h.o2,h.o3⟩
theorem NW.done(h:NW K c CT H F p tp ln lr ns rs s)(st:Step H F H' F')(hn:c5 K c H' F' p tp ns.length s'):NW K c CT H' F' p tp ln lr ns rs s':=by
 have kt:∀ b x,cH K H b x->cH K H' b x:=λb x=>h.cQ.tup st.kp
 obtain⟨⟨dx,h1⟩,h2,vs,h3,h4⟩:=id h.qQ
 have nf:∀ b o,H b=some o->¬ F b->¬ F' b:=λb o e nb z=>by
  rcases st.fr b z with w | w
  ·exact nb w
  ·rw[e] at w; cases w
 refine⟨hn,h.qQ.keep (λb o e q=>st.kp b o e ?_) kt,nf _ _ h1 h.o1,nf _ _ h2 h.o2,nf _ _ h3 h.o3⟩
 rcases q with rfl | rfl | rfl
 ·exact h.o1
 ·exact h.o2
 ·exact h.o3
theorem Step.refl'(e:aC H H'):Step H F H' F:=⟨λb o q _=>e _ _ q,λb z=>.inl z⟩
theorem Step.trans{H'':Hp}{F'':Addr->Prop}(a:Step H F H' F')(b:Step H' F' H'' F''):Step H F H'' F'':=by
 refine⟨λx o e nf=>b.kp x o (a.kp x o e nf) λz=>?_,λx z=>?_⟩
 ·rcases a.fr x z with w | w
  ·exact nf w
  ·rw[e] at w; cases w
 ·rcases b.fr x z with w | w
  ·exact a.fr x w
  ·by_cases q:F x
   ·exact .inl q
   ·refine .inr ?_
    cases hx:H x with
    | none=>rfl
    | some o =>
     have:=a.kp x o hx q
     rw[this] at w
     cases w
end
theorem uI.join{H:Hp}{l1 l2:Role->Addr}{o1 o2:Role->Option HO}(a:uI H l1 o1)(b:uI H l2 o2)(ap:∀ r q,o1 r≠none->o2 q≠none->l1 r≠l2 q) :
 uI H (λr=>if (o2 r).isSome=true then l2 r else l1 r) (λr=>if (o2 r).isSome=true then o2 r else o1 r):=by
 have ne:∀ {r},(o2 r).isSome=true->o2 r≠none:=λ{r} h e=>by rw[e] at h; cases h
 refine⟨λr o e=>?_,λr q h1 h2 e=>?_⟩
 ·by_cases z:(o2 r).isSome=true
  ·rw[if_pos z] at e ⊢
   exact b.get r o e
  ·rw[if_neg z] at e ⊢
   exact a.get r o e
 ·by_cases z:(o2 r).isSome=true
  ·by_cases z':(o2 q).isSome=true
   ·simp only[z,z',if_true] at h1 h2 e
    exact b.inj r q h1 h2 e
   ·simp only[z,z',if_true,if_false] at h1 h2 e
    exact absurd e.symm (ap q r (by simpa using h2) (ne z))
  ·by_cases z':(o2 q).isSome=true
   ·simp only[z,z',if_true,if_false] at h1 h2 e
    exact absurd e (ap r q (by simpa using h1) (ne z'))
   ·simp only[z,z',if_false] at h1 h2 e
    exact a.inj r q (by simpa using h1) (by simpa using h2) e
structure Fj(H0 H:Hp)(p:Addr)(loc:Role->Addr)(ob:Role->Option HO):Prop where
 own:uI H loc ob
 np:loc .cQ=p
 hn:ob .cQ≠none
 kp:∀ b o,H0 b=some o->b≠p->H b=some o
 fr:∀ b,Fp loc ob b->b=p∨H0 b=none
section
variable{H0 H H':Hp}{p:Addr}{loc:Role->Addr}{ob:Role->Option HO}
theorem Fj.free(h:Fj H0 H p loc ob){a:Addr}(ha:H a=none):H0 a=none:=by
 cases e:H0 a with
 | none=>rfl
 | some o =>
  by_cases z:a=p
  ·exfalso
   cases ho:ob .cQ with
   | none=>exact h.hn ho
   | some u =>
    have:=h.own.get .cQ u ho
    rw[h.np,<- z,ha] at this
    cases this
  ·have:=h.kp a o e z
   rw[ha] at this
   cases this
theorem Fj.new(h:Fj H0 H p loc ob){a:Addr}(ha:H a=none){r:Role}(hr:r≠.cQ)(o:HO):Fj H0 (upd H a o) p (pX loc r a) (gF ob r o):=by
 refine⟨h.own.new ha r o,by rw[d9 (bK hr)]; exact h.np,by rw[b9 (bK hr)]; exact h.hn,λb u e n=>?_,λb hb=>?_⟩
 ·have:=h.kp b u e n
  rw[aD (aF this ha)]
  exact this
 ·rcases h.own.UY hb with z | rfl
  ·exact h.fr b z
  ·exact .inr (h.free ha)
theorem Fj.put(h:Fj H0 H p loc ob)(o:HO):Fj H0 (upd H p o) p loc (gF ob .cQ o):=by
 have e:=h.own.set (r:=.cQ) h.hn o
 rw[h.np] at e
 refine⟨e,h.np,by rw[cW]; exact aM o,λb u q n=>?_,λb hb=>h.fr b ((GK h.hn).mp hb)⟩
 rw[aD n]
 exact h.kp b u q n
theorem uI.add{H H':Hp}{loc:Role->Addr}{ob:Role->Option HO}(h:uI H loc ob)(s:aC H H'){a:Addr}(ha:H a=none){o:HO}(e:H' a=some o)(r:Role):uI H' (pX loc r a) (gF ob r o):=by
 have h1:=h.new ha r o
 refine⟨λq u eq=>?_,h1.inj⟩
 by_cases z:q=r
 ·subst z
  rw[cW] at eq
  cases eq
  rw[eT]
  exact e
 ·rw[b9 z] at eq
  rw[d9 z]
  exact s _ _ (h.get q u eq)
theorem Fj.add(h:Fj H0 H p loc ob)(s:aC H H'){a:Addr}(ha:H a=none){o:HO}(e:H' a=some o){r:Role}(hr:r≠.cQ):Fj H0 H' p (pX loc r a) (gF ob r o):=by
 have h1:=h.new ha hr o
 exact⟨h.own.add s ha e r,h1.np,h1.hn,λb u q n=>s _ _ (h.kp b u q n),h1.fr⟩
theorem Fj.Z9(h:Fj H0 H p loc ob){r:Role}(hr:ob r≠none)(nr:r≠.cQ)(o:HO):Fj H0 (upd H (loc r) o) p loc (gF ob r o):=by
 refine⟨h.own.set hr o,h.np,by rw[b9 (bK nr)]; exact h.hn,λb u e n=>?_,λb hb=>h.fr b ((GK hr).mp hb)⟩
 have nl:b≠loc r:=λz=>by
  rcases h.fr (loc r) ⟨r,hr,rfl⟩ with w | w
  ·exact n (z.trans w)
  ·rw[z,w] at e; cases e
 rw[aD nl]
 exact h.kp b u e n
theorem Fj.ext{loc':Role->Addr}{QC:Role->Option HO}(h:Fj H0 H p loc ob)(h1:∀ r,ob r=QC r)(h2:∀ r,ob r≠none->loc r=loc' r):Fj H0 H p loc' QC:=by
 have e:ob=QC:=funext h1
 subst e
 refine⟨⟨λr o e=>?_,λr q a b e=>h.own.inj r q a b ?_⟩,?_,h.hn,h.kp,λb hb=>?_⟩
 ·rw[<- h2 r (by rw[e]; exact aM o)]
  exact h.own.get r o e
 ·rw[h2 r a,h2 q b]
  exact e
 ·rw[<- h2 .cQ h.hn]
  exact h.np
 ·obtain⟨r,a,e⟩:=hb
  exact h.fr b ⟨r,a,(h2 r a).trans e⟩
theorem Fj.join{l2:Role->Addr}{o2:Role->Option HO}(h:Fj H0 H p loc ob)(b:uI H' l2 o2)(n2:o2 .cQ=none)(fresh:∀ r,o2 r≠none->H (l2 r)=none)(s:aC H H') :
 Fj H0 H' p (λr=>if (o2 r).isSome=true then l2 r else loc r) (λr=>if (o2 r).isSome=true then o2 r else ob r):=by
 refine⟨(h.own.mono s).join b λr q h1 h2 e=>?_,?_,?_,λb o e n=>s _ _ (h.kp b o e n),λx hx=>?_⟩
 ·cases ho:ob r with
  | none=>exact h1 ho
  | some u =>
   have:=h.own.get r u ho
   rw[e,fresh q h2] at this
   cases this
 ·show (if (o2 .cQ).isSome=true then _ else _)=p
  rw[n2]
  exact h.np
 ·show (if (o2 .cQ).isSome=true then _ else _)≠none
  rw[n2]
  exact h.hn
 ·obtain⟨r,h1,h2⟩:=hx
  by_cases z:(o2 r).isSome=true
  ·simp only[z,if_true] at h1 h2
   rw[<- h2]
   exact .inr (h.free (fresh r h1))
  ·simp only[z,if_false] at h1 h2
   exact h.fr x ⟨r,by simpa using h1,by simpa using h2⟩
end
noncomputable def yH(ns:List Int)(i:Nat):RM.Row:=⟨ns.getD i 0,0,0,-1⟩
noncomputable def S0(ns:List Int)(rs:List R5)(cl:List (Nat × Nat)):NS where
 ws:=rs.map λr=>aq r.d.toNat
 R:=λ_=>yH ns
 ts:=λ_=>[]
 bg:=cl.map (·.1)
 groups:=cl.map (·.2)
 had:=cl.map λ_=>[]
 ls:=[]
 cps:=[]
noncomputable def Sj(C dx tp lu:Addr)(ls:List Addr)(ws:List (List Nat)):Role->Option HO
 | .cy=>some (.ins C dx [("town",.ref tp),("upright",.ref lu)])
 | .cP=>some (.lst (ls.map V.ref))
 | .fN i=>ws[i]?.map λw=>.lst (aV w)
 | _=>none
noncomputable def WZ(sp lu:Addr)(ls:List Addr):Role->Addr
 | .cy=>sp
 | .cP=>lu
 | .fN i=>ls.getD i 0
 | _=>0
theorem aaa{H:Hp}{C sp dx tp lu:Addr}{ls:List Addr}{ws:List (List Nat)}(h1:H sp=some (.ins C dx [("town",.ref tp),("upright",.ref lu)]))(h2:H lu=some (.lst (ls.map V.ref)))(hl:ls.length=ws.length)
 (h3:∀ (i:Nat) l w,ls[i]?=some l->ws[i]?=some w->H l=some (.lst (aV w))) (nd:ls.Nodup) (nu:lu ∉ ls):uI H (WZ sp lu ls) (Sj C dx tp lu ls ws):=by
 have at':∀ {i:Nat},Sj C dx tp lu ls ws (.fN i)≠none->∃ (hi:i < ls.length),WZ sp lu ls (.fN i)=ls[i]:=λ{i} h=>by
  have hi:i < ls.length:=by
   rw[hl]
   by_cases z:i < ws.length
   ·exact z
   ·exact absurd (show (ws[i]?.map λw=>HO.lst (aV w))=none by rw[iM (by lia)]; rfl) h
  refine⟨hi,?_⟩
  show ls.getD i 0=ls[i]
  rw[az,aa hi]
  rfl
 have wl:∀ {i:Nat} (hi:i < ls.length),∃ w,H ls[i]=some (.lst (aV w)):=λ{i} hi=>⟨ws[i]'(hl ▸ hi),h3 i _ _ (aa hi) (aa (hl ▸ hi))⟩
 have d1:sp≠lu:=Pd h1 h2 (λe=>by cases e)
 have d2:∀ {i:Nat} (hi:i < ls.length),sp≠ls[i]:=λ{i} hi=>by
  obtain⟨w,hw⟩:=wl hi
  exact Pd h1 hw (λe=>by cases e)
 have d3:∀ {i:Nat} (hi:i < ls.length),lu≠ls[i]:=λ{i} hi e=>nu (e ▸ aL hi)
 refine⟨λr o e=>?_,λr q e1 e2 e=>?_⟩
 ·cases r <;> first | (cases e; done) | skip
  case cy=>cases e; exact h1
  case cP=>cases e; exact h2
  case fN i =>
   obtain⟨hi,el⟩:=at' (i:=i) (by rw[e]; exact aM o)
   have hw:=aa (hl ▸ hi:i < ws.length)
   have e:(ws[i]?.map λw=>HO.lst (aV w))=some o:=e
   rw[hw] at e
   cases e
   rw[el]
   exact h3 i _ _ (aa hi) hw
 ·cases r <;> first | exact absurd rfl e1 | skip
  all_goals cases q <;> first | exact absurd rfl e2 | rfl | skip
  case cy.cP=>exact absurd e d1
  case cy.fN i =>
   obtain⟨hi,el⟩:=at' e2
   exact absurd (e.trans el) (d2 hi)
  case cP.cy=>exact absurd e.symm d1
  case cP.fN i =>
   obtain⟨hi,el⟩:=at' e2
   exact absurd (e.trans el) (d3 hi)
  case fN.cy i =>
   obtain⟨hi,el⟩:=at' e1
   exact absurd (e.symm.trans el) (d2 hi)
  case fN.cP i =>
   obtain⟨hi,el⟩:=at' e1
   exact absurd (e.symm.trans el) (d3 hi)
  case fN.fN i j =>
   obtain⟨hi,el⟩:=at' e1
   obtain⟨hj,el'⟩:=at' e2
   rw[el,el'] at e
   have q:ls[i]?=ls[j]?:=by rw[aa hi,aa hj,e]
   have:=(List.getElem?_inj hi nd).mp q
   rw[this]
structure fq(ns:List Int)(rs:List R5):Prop where
 nd:ns.Nodup
 ok:∀ r∈rs,r.Ok ns.length
 n1:1<=ns.length
 n10:ns.length<=10
 m20:rs.length<=20
 pos:∀ x∈ns,0<=x
structure y9(ns:List Int)(rs:List R5)(s:NS):Prop where
 wl:s.ws.length=rs.length
 w4:∀ w∈s.ws,w.length<=4
 fit:∀ g,g < 3->uG ns.length rs.length (s.R g)
noncomputable abbrev EL(rs:List R5)(ws:List (List Nat))(g:Nat):List Nat:=pV rs ws g rs.length
theorem vK{rs:List R5}{ws:List (List Nat)}{g:Nat}:∀ k∈EL rs ws g,k < rs.length:=λk hk=>fc.mp (cS.mp hk).1
noncomputable def CD(ns:List Int)(rs:List R5)(o:fq ns rs)(ws:List (List Nat))(g:Nat):RM.Net:=aK ns rs (EL rs ws g) o.nd o.ok vK
section
variable{K:af}{c:NC}{CT:Addr}{H H':Hp}{loc dx:Role->Addr}{q:TQ}{p tp ln lr:Addr}{n:Nat}{s:NS}{ns:List Int}{rs:List R5}
theorem uI.strAt(O:uI H loc (desc c dx tp loc q s)):tU c.str H (loc .cy) tp (loc .cP) s.ws:=by
 refine⟨⟨dx .cy,O.get .cy _ rfl⟩,(aq s.ws.length).map λi=>loc (.fN i),?_,by rw[ah,bH],λi l w e1 e2=>?_⟩
 ·have:=O.get .cP _ rfl
  rw[this,cu]
  rfl
 ·have hi:=(ai.mp e2).1
  rw[aj,fP hi] at e1
  cases e1
  exact O.get (.fN i) _ (by show (s.ws[i]?.map _)=_; rw[e2]; rfl)
theorem uI.Li(O:uI H loc (desc c dx tp loc q s)){g:Nat}(hg:g < 3):pW c.book H (loc (.book g)) (loc (.eF g)) (s.ts g) :=
 ⟨⟨dx (.book g),O.get (.book g) _ (if_pos hg)⟩,O.get (.eF g) _ (if_pos hg)⟩
theorem ly{f:Nat->V}{m g:Nat}(h:g < m):IK ((aq m).map f) (g:Int)=some (f g):=dG (by rw[aj,fP h]; rfl)
theorem dR.GN{l:Addr}{qs:List Addr}{R:Nat->RM.Row}(h:dR K H qs (f9 n R))(hl:bJ K H l (qs.map V.ref)):j6 K H l n R:=by
 have e:qs.length=n:=by rw[h.len]; simp[f9]
 refine⟨qs,hl,e,λi p hp=>h.at' i p _ hp ?_⟩
 have hi:=(ai.mp hp).1
 unfold f9
 rw[aj,fP (by lia)]
 rfl
theorem vL{xs:List Nat}{i:Nat}(h:i < xs.length):IK (aV xs) (i:Int)=some (.int (xs[i]:Nat)):=dG (by rw[aj,aa h]; rfl)
end
noncomputable def gz{α:Type}(f:Nat->α)(i:Nat)(v:α):Nat->α:=λg=>if g=i then v else f g
theorem cJ{α:Type}{f:Nat->α}{i:Nat}{v:α}:gz f i v i=v:=if_pos rfl
theorem eK{α:Type}{f:Nat->α}{i g:Nat}{v:α}(h:g≠i):gz f i v g=f g:=if_neg h
theorem uI.ext{H:Hp}{loc loc':Role->Addr}{ob QC:Role->Option HO}(h:uI H loc ob)(h1:∀ r,ob r=QC r)(h2:∀ r,ob r≠none->loc r=loc' r):uI H loc' QC/\∀ b,Fp loc ob b↔Fp loc' QC b:=by
 have e:ob=QC:=funext h1
 subst e
 refine⟨⟨λr o e=>?_,λr q a b e=>h.inj r q a b ?_⟩,λb=>⟨λ⟨r,a,e⟩=>⟨r,a,(h2 r a).symm.trans e⟩,λ⟨r,a,e⟩=>⟨r,a,(h2 r a).trans e⟩⟩⟩
 ·rw[<- h2 r (by rw[e]; exact aM o)]
  exact h.get r o e
 ·rw[h2 r a,h2 q b]
  exact e
section
variable{K:af}{c:NC}{H H':Hp}{F:Addr->Prop}{loc dx:Role->Addr}{q:TQ}{p tp:Addr}{n g:Nat}{s:NS}
theorem Pf(hp:loc .cQ=p)(O:uI H loc (desc c dx tp loc q s))(hF:∀ b,F b↔Fp loc (desc c dx tp loc q s) b)(hT:mE K H n q s)(hg:g < 3){d' U1:Addr}(hd:H d'=none)
 (h1:H' (loc (.book g))=some (.ins c.book U1 [("kept",.ref d')])) (h2:H' d'=some (.dT [])) (kp:∀ b o,H b=some o->b≠loc (.book g)->H' b=some o) :
 ∃ F',c5 K c H' F' p tp n { s with ts:=gz s.ts g [] }/\Step H F H' F':=by
 have nb:desc c dx tp loc q s (.book g)≠none:=by
  show (if g < 3 then some _ else none)≠none
  rw[if_pos hg]
  exact aM _
 have U3:F (loc (.book g)):=(hF _).mpr ⟨.book g,nb,rfl⟩
 have kF:∀ b o,H b=some o->¬ F b->H' b=some o:=λb o e z=>kp b o e λw=>z (w ▸ U3)
 have N0:c5 K c H F p tp n s:=⟨loc,dx,q,hp,O,hF,hT⟩
 have O1:=O.set nb (.ins c.book U1 [("kept",.ref d')])
 have ndb:d'≠loc (.book g):=λz=>by
  have:=N0.there U3
  obtain⟨o,e⟩:=this
  rw[z,e] at hd
  cases hd
 have hd1:(upd H (loc (.book g)) (.ins c.book U1 [("kept",.ref d')])) d'=none:=by rw[aD ndb]; exact hd
 have O2:=O1.new hd1 (.eF g) (.dT [])
 have O3:uI H' (pX loc (.eF g) d') (gF (gF (desc c dx tp loc q s) (.book g) (.ins c.book U1 [("kept",.ref d')])) (.eF g) (.dT [])):=by
  refine O2.keep λb o e _=>?_
  by_cases z:b=d'
  ·rw[z,ao] at e
   cases e
   rw[z]
   exact h2
  ·rw[aD z] at e
   by_cases z2:b=loc (.book g)
   ·rw[z2,ao] at e
    cases e
    rw[z2]
    exact h1
   ·rw[aD z2] at e
    exact kp b o e z2
 obtain⟨O4,F4⟩:=O3.ext (QC:=desc c (λr=>if r = .book g then U1 else dx r) tp (pX loc (.eF g) d') q { s with ts:=gz s.ts g [] }) (loc':=pX loc (.eF g) d') (λr=>by
  cases r <;> first | rfl | skip
  ·rename_i k
   show gF (desc c dx tp loc q s) (.book g) _ (.book k)=(if k < 3 then some (HO.ins c.book (if Role.book k = .book g then U1 else dx (.book k)) [("kept",.ref (pX loc (.eF g) d' (.eF k)))]) else none)
   by_cases z:k=g
   ·subst z
    rw[cW,if_pos hg,if_pos rfl,eT]
   ·have z':Role.book k≠.book g:=λe=>z (by cases e; rfl)
    have z'':Role.eF k≠.eF g:=λe=>z (by cases e; rfl)
    rw[b9 z',if_neg z',d9 z'']
    rfl
  ·rename_i k
   show gF (gF (desc c dx tp loc q s) (.book g) _) (.eF g) _ (.eF k)=(if k < 3 then some (HO.dT ((gz s.ts g [] k).map iz)) else none)
   by_cases z:k=g
   ·subst z
    rw[cW,if_pos hg,cJ]
    rfl
   ·have z'':Role.eF k≠.eF g:=λe=>z (by cases e; rfl)
    rw[b9 z'',eK z]
    rfl) (λr _=>rfl)
 refine⟨Fp _ _,⟨_,_,q,?_,O4,λb=>Iff.rfl,⟨λk hk=>(hT.rows k hk).mono λb x=>N0.tup kF,λi l e=>(hT.aQ i l e).mono λb x=>N0.tup kF,hT.cps.mono λb x=>N0.tup kF⟩⟩,kF,λb hb=>?_⟩
 ·rw[d9 (λz=>by cases z)]
  exact hp
 ·rcases O1.UY ((F4 b).mpr hb) with z | rfl
  ·exact .inl ((hF b).mpr ((GK nb).mp z))
  ·exact .inr hd
theorem W0(hp:loc .cQ=p)(O:uI H loc (desc c dx tp loc q s))(hF:∀ b,F b↔Fp loc (desc c dx tp loc q s) b)(hT:mE K H n q s)(hg:g < 3){x:Nat}(hx:x < n){a:Addr}{d:RM.Row}(ha:cH K H a (RM.cR d)) :
 ∃ F',c5 K c (upd H (loc (.rows g)) (.lst (((q.rq g).map V.ref).set x (.ref a)))) F' p tp n { s with R:=gz s.R g (RM.upd (s.R g) x d) }/\Step H F (upd H (loc (.rows g)) (.lst (((q.rq g).map V.ref).set x (.ref a)))) F':=by
 have nb:desc c dx tp loc q s (.rows g)≠none:=by
  show (if g < 3 then some _ else none)≠none
  rw[if_pos hg]
  exact aM _
 have U3:F (loc (.rows g)):=(hF _).mpr ⟨.rows g,nb,rfl⟩
 have kF:∀ b o,H b=some o->¬ F b->(upd H (loc (.rows g)) (.lst (((q.rq g).map V.ref).set x (.ref a)))) b=some o:=λb o e z=>by
  have nw:b≠loc (.rows g):=λw=>z (w ▸ U3)
  rw[aD nw]
  exact e
 have N0:c5 K c H F p tp n s:=⟨loc,dx,q,hp,O,hF,hT⟩
 have kt:∀ {b x},cH K H b x->_:=λ{b x} e=>N0.tup kF (b:=b) (x:=x) e
 have O1:=O.set nb (.lst (((q.rq g).map V.ref).set x (.ref a)))
 obtain⟨O4,F4⟩:=O1.ext (QC:=desc c dx tp loc { q with rq:=gz q.rq g ((q.rq g).set x a) } { s with R:=gz s.R g (RM.upd (s.R g) x d) }) (loc':=loc) (λr=>by
  cases r <;> first | rfl | skip
  rename_i k
  show gF (desc c dx tp loc q s) (.rows g) _ (.rows k)=(if k < 3 then some (HO.lst ((gz q.rq g ((q.rq g).set x a) k).map V.ref)) else none)
  by_cases z:k=g
  ·subst z
   rw[cW,if_pos hg,cJ,List.map_set]
  ·rw[b9 (λe=>z (by cases e; rfl)),eK z]
   rfl) (λr _=>rfl)
 refine⟨Fp _ _,⟨loc,dx,_,hp,O4,λb=>Iff.rfl,⟨λk hk=>?_,λi l e=>(hT.aQ i l e).mono λb x=>kt,hT.cps.mono λb x=>kt⟩⟩,kF,λb hb=>.inl ((hF b).mpr ((GK nb).mp ((F4 b).mpr hb)))⟩
 show dR K _ (gz q.rq g ((q.rq g).set x a) k) (f9 n (gz s.R g (RM.upd (s.R g) x d) k))
 by_cases z:k=g
 ·subst z
  rw[cJ,cJ]
  have h0:=hT.rows k hk
  have hl:(q.rq k).length=n:=by rw[h0.len]; simp[f9]
  refine⟨by rw[bP,hl]; simp[f9],λi b v e1 e2=>?_⟩
  have hi:=(ai.mp e1).1
  rw[bP,hl] at hi
  unfold f9 at e2
  rw[aj,fP hi] at e2
  cases e2
  rw[cV] at e1
  by_cases w:x=i
  ·subst w
   rw[if_pos rfl,if_pos (by rw[hl]; exact hi)] at e1
   cases e1
   have:RM.upd (s.R k) x d x=d:=by unfold RM.upd; rw[if_pos rfl]
   show cH K _ a (RM.cR (RM.upd (s.R k) x d x))
   rw[this]
   exact kt ha
  ·rw[if_neg w] at e1
   have:RM.upd (s.R k) x d i=s.R k i:=by unfold RM.upd; rw[if_neg (bK w)]
   show cH K _ b (RM.cR (RM.upd (s.R k) x d i))
   rw[this]
   exact kt (h0.at' i b _ e1 (by unfold f9; rw[aj,fP hi]; rfl))
 ·rw[eK z,eK z]
  exact (hT.rows k hk).mono λb x=>kt
end
section
variable{K:af}{c:NC}{H H':Hp}{F:Addr->Prop}{loc dx:Role->Addr}{q:TQ}{p tp:Addr}{n j:Nat}{s:NS}
theorem MN(hp:loc .cQ=p)(O:uI H loc (desc c dx tp loc q s))(hF:∀ b,F b↔Fp loc (desc c dx tp loc q s) b)(hT:mE K H n q s)(hj:j < s.ws.length){a:Addr}{w:List Nat}{ls:List Addr}(hu:H (loc .cP)=some (.lst (ls.map V.ref)))(ha:H a=none)
 (h1:H' a=some (.lst (aV w))) (h2:H' (loc .cP)=some (.lst ((ls.map V.ref).set j (.ref a)))) (kp:∀ b o,H b=some o->b≠loc .cP->H' b=some o) :
 ∃ F',c5 K c H' F' p tp n { s with ws:=s.ws.set j w }/\Step H F H' F':=by
 have nb:desc c dx tp loc q s .cP≠none:=aM _
 have U3:F (loc .cP):=(hF _).mpr ⟨.cP,nb,rfl⟩
 have kF:∀ b o,H b=some o->¬ F b->H' b=some o:=λb o e z=>kp b o e λw=>z (w ▸ U3)
 have N0:c5 K c H F p tp n s:=⟨loc,dx,q,hp,O,hF,hT⟩
 have els:ls.map V.ref=(aq s.ws.length).map λi=>V.ref (loc (.fN i)):=by
  have:=O.get .cP _ rfl
  rw[hu] at this
  exact HO.lst.inj (aP this)
 have O1:=O.set nb (.lst ((ls.map V.ref).set j (.ref a)))
 have nau:a≠loc .cP:=λz=>by
  obtain⟨o,e⟩:=N0.there U3
  rw[z,e] at ha
  cases ha
 have ha1:(upd H (loc .cP) (.lst ((ls.map V.ref).set j (.ref a)))) a=none:=by rw[aD nau]; exact ha
 have O2:=O1.new ha1 (.fN j) (.lst (aV w))
 have O3:uI H' (pX loc (.fN j) a) (gF (gF (desc c dx tp loc q s) .cP (.lst ((ls.map V.ref).set j (.ref a)))) (.fN j) (.lst (aV w))):=by
  refine O2.keep λb o e _=>?_
  by_cases z:b=a
  ·rw[z,ao] at e
   cases e
   rw[z]
   exact h1
  ·rw[aD z] at e
   by_cases z2:b=loc .cP
   ·rw[z2,ao] at e
    cases e
    rw[z2]
    exact h2
   ·rw[aD z2] at e
    exact kp b o e z2
 obtain⟨O4,F4⟩:=O3.ext (QC:=desc c dx tp (pX loc (.fN j) a) q { s with ws:=s.ws.set j w }) (loc':=pX loc (.fN j) a) (λr=>by
  cases r <;> first | rfl | skip
  ·show some (HO.lst ((ls.map V.ref).set j (.ref a)))=some (HO.lst ((aq (s.ws.set j w).length).map λi=>V.ref (pX loc (.fN j) a (.fN i))))
   rw[els,bP]
   congr 2
   refine pQ (by simp) λi e1 e2=>?_
   simp only[bP,ah,bH] at e1
   rw[List.getElem_set]
   by_cases z:j=i
   ·subst z
    simp[eT]
   ·have z':Role.fN i≠.fN j:=λe=>z (by cases e; rfl)
    simp[z,d9 z']
  ·rename_i i
   show gF (gF (desc c dx tp loc q s) .cP _) (.fN j) _ (.fN i)=((s.ws.set j w)[i]?.map λw=>HO.lst (aV w))
   by_cases z:i=j
   ·subst z
    rw[cW,cV,if_pos rfl,if_pos hj]
    rfl
   ·rw[b9 (λe=>z (by cases e; rfl)),cV,if_neg (bK z)]
    rfl) (λr _=>rfl)
 refine⟨Fp _ _,⟨_,dx,q,?_,O4,λb=>Iff.rfl,⟨λk hk=>(hT.rows k hk).mono λb x=>N0.tup kF,λi l e=>(hT.aQ i l e).mono λb x=>N0.tup kF,hT.cps.mono λb x=>N0.tup kF⟩⟩,kF,λb hb=>?_⟩
 ·rw[d9 (λz=>by cases z)]
  exact hp
 ·rcases O1.UY ((F4 b).mpr hb) with z | rfl
  ·exact .inl ((hF b).mpr ((GK nb).mp z))
  ·exact .inr ha
theorem Pg(hp:loc .cQ=p)(O:uI H loc (desc c dx tp loc q s))(hF:∀ b,F b↔Fp loc (desc c dx tp loc q s) b)(hT:mE K H n q s){l:Addr}{qs:List Addr}{cps:List Cp}(hl:H l=some (.lst (qs.map V.ref)))(nl:¬ F l)(hq:dR K H qs (cps.map Cp.vs)) :
 ∃ F',c5 K c (upd H p (.ins c.cQ (dx .cQ) [("town",.ref tp),("strands",.ref (loc .cy)),("rows_by_group",.ref (loc .tW)),("books",.ref (loc .iD)),("homes",.ref (loc .bg)),("groups",.ref (loc .groups)),("handed",.ref (loc .jh)),("letters",.ref (loc .cE)),("copies",.ref l)])) F' p tp n { s with cps:=cps } /\
  (∀ b o,H b=some o->b≠p->(upd H p (.ins c.cQ (dx .cQ) [("town",.ref tp),("strands",.ref (loc .cy)),("rows_by_group",.ref (loc .tW)),("books",.ref (loc .iD)),("homes",.ref (loc .bg)),("groups",.ref (loc .groups)),("handed",.ref (loc .jh)),("letters",.ref (loc .cE)),("copies",.ref l)])) b=some o)/\F p/\∀ b,F' b->F b∨b=l:=by
 generalize eo:HO.ins c.cQ (dx .cQ) [("town",.ref tp),("strands",.ref (loc .cy)),("rows_by_group",.ref (loc .tW)),("books",.ref (loc .iD)),("homes",.ref (loc .bg)),("groups",.ref (loc .groups)),("handed",.ref (loc .jh)),("letters",.ref (loc .cE)),("copies",.ref l)]=o1
 have nb:desc c dx tp loc q s .cQ≠none:=aM _
 have hpF:F p:=(hF _).mpr ⟨.cQ,nb,hp⟩
 have N0:c5 K c H F p tp n s:=⟨loc,dx,q,hp,O,hF,hT⟩
 have kp:∀ b o,H b=some o->b≠p->(upd H p o1) b=some o:=λb o e z=>by rw[aD z]; exact e
 have kt:∀ {b x},cH K H b x->cH K (upd H p o1) b x:=λ{b x} e=>N0.tup (λb o e z=>kp b o e λw=>z (w ▸ hpF)) e
 have O1:=O.set nb o1
 rw[hp] at O1
 have nlp:l≠p:=λz=>nl (z ▸ hpF)
 have O2:uI (upd H p o1) (pX loc .d8 l) (gF (gF (desc c dx tp loc q s) .cQ o1) .d8 (.lst (qs.map V.ref))):=by
  refine⟨λr o e=>?_,λr r' a b e=>?_⟩
  ·by_cases z:r = .d8
   ·subst z
    rw[cW] at e
    cases e
    rw[eT]
    exact kp _ _ hl nlp
   ·rw[b9 z] at e
    rw[d9 z]
    exact O1.get r o e
  ·have acF:∀ {r:Role},r≠.d8->gF (desc c dx tp loc q s) .cQ o1 r≠none->loc r≠l:=λ{r} z h e=>by
    refine nl ((hF _).mpr ⟨r,?_,e⟩)
    by_cases w:r = .cQ
    ·rw[w]; exact nb
    ·rw[b9 w] at h; exact h
   by_cases z:r = .d8
   ·by_cases z':r' = .d8
    ·rw[z,z']
    ·rw[z,eT,d9 z'] at e
     rw[b9 z'] at b
     exact absurd e.symm (acF z' b)
   ·by_cases z':r' = .d8
    ·rw[z',eT,d9 z] at e
     rw[b9 z] at a
     exact absurd e (acF z a)
    ·rw[d9 z,d9 z'] at e
     rw[b9 z] at a
     rw[b9 z'] at b
     exact O1.inj r r' a b e
 obtain⟨O4,F4⟩:=O2.ext (QC:=desc c dx tp (pX loc .d8 l) { q with cq:=qs } { s with cps:=cps }) (loc':=pX loc .d8 l) (λr=>by
  subst eo
  cases r <;> rfl) (λr _=>rfl)
 refine⟨Fp _ _,⟨_,dx,_,?_,O4,λb=>Iff.rfl,⟨λk hk=>(hT.rows k hk).mono λb x=>kt,λi l e=>(hT.aQ i l e).mono λb x=>kt,hq.mono λb x=>kt⟩⟩,kp,hpF,λb hb=>?_⟩
 ·rw[d9 (λz=>by cases z)]
  exact hp
 ·obtain⟨r,h1,h2⟩:=(F4 b).mpr hb
  by_cases z:r = .d8
  ·rw[z,eT] at h2
   exact .inr h2.symm
  ·rw[d9 z] at h2
   rw[b9 z] at h1
   refine .inl ((hF b).mpr ⟨r,?_,h2⟩)
   by_cases w:r = .cQ
   ·rw[w]; exact nb
   ·rw[b9 w] at h1; exact h1
end
end TW
namespace TW
open PySem L2 PyProof.Rows
open Classical in
noncomputable def Off(H:Hp)(F:Addr->Prop):Hp:=λb=>if F b then none else H b
section
variable{K:af}{c:NC}{CT:Addr}{H H':Hp}{F F' F1 F2 G:Addr->Prop}{p tp ln lr:Addr}{n:Nat}{s:NS}{ns:List Int}{rs:List R5}
theorem jF{b:Addr}{o:HO}(h:Off H F b=some o):¬ F b/\H b=some o:=by
 unfold Off at h
 by_cases z:F b
 ·rw[if_pos z] at h; cases h
 ·rw[if_neg z] at h; exact⟨z,h⟩
theorem mF{b:Addr}{o:HO}(z:¬ F b)(h:H b=some o):Off H F b=some o:=by
 unfold Off
 rw[if_neg z]
 exact h
theorem bY:aC (Off H F) H:=λb o e=>(jF e).2
theorem rY(st:Step H F H' F'):aC (Off H F) (Off H' F'):=λb o e=>by
 obtain⟨h1,h2⟩:=jF e
 refine mF (λz=>?_) (st.kp b o h2 h1)
 rcases st.fr b z with w | w
 ·exact h1 w
 ·rw[h2] at w; cases w
theorem gf(e:aC H H'):aC (Off H F) (Off H' F):=rY (Step.refl' e)
theorem QD{z:Addr}{o:HO}(nz:¬ F z):Off (upd H z o) F=upd (Off H F) z o:=by
 funext b
 by_cases e:b=z
 ·subst e
  rw[ao]
  exact mF nz ao
 ·rw[aD e]
  unfold Off
  rw[aD e]
theorem cN.nw(hT:cN K CT (Off H G) tp ln lr ns rs)(N:c5 K c H F p tp ns.length s)(sub:∀ b,F b->G b):NW K c CT H F p tp ln lr ns rs s:=by
 obtain⟨⟨dx,h1⟩,h2,vs,h3,h4⟩:=id hT
 exact⟨N,hT.mono bY,λz=>(jF h1).1 (sub _ z),λz=>(jF h2).1 (sub _ z),λz=>(jF h3).1 (sub _ z)⟩
end
def IT(K:af)(H:Hp)(l:Addr)(rs:List R5):Prop:=∃ qs:List Addr,H l=some (.lst (qs.map V.ref))/\dR K H qs (rs.map R5.vs)
theorem IT.keep{K:af}{H H':Hp}{l:Addr}{rs:List R5}(h:IT K H l rs)(k:∀ o,H l=some o->H' l=some o)(kt:∀ b x,cH K H b x->cH K H' b x):IT K H' l rs:=by
 obtain⟨qs,h1,h2⟩:=h
 exact⟨qs,k _ h1,h2.mono kt⟩
theorem IT.Yu{K:af}{H:Hp}{l:Addr}:∀ {rs:List R5} {qs:List Addr},dR K H qs (rs.map R5.vs)->b4 K H (rs.map R5.D) (qs.map V.ref)
 | [],[],_=>rfl
 | [],_ :: _,h=>by cases h.len
 | _ :: _,[],h=>by cases h.len
 | r :: rs,q :: qs,h=>⟨.ref q,qs.map V.ref,rfl,Rep.Gn (ns:=r.ns) (h.at' 0 q _ rfl rfl),IT.Yu (l:=l) ⟨Nat.succ.inj h.len,λi p x a b=>h.at' (i + 1) p x a b⟩⟩
theorem QE{F G:Addr->Prop}{H:Hp}(h:∀ b,F b->G b):aC (Off H G) (Off H F):=λb o e=>mF (λz=>(jF e).1 (h b z)) (jF e).2
theorem U4{H H0 H':Hp}{F:Addr->Prop}{p:Addr}(t:aC H H0)(np:H p=none)(kp:∀ b o,H0 b=some o->b≠p->H' b=some o)(fr:∀ b,F b->b=p∨H0 b=none):aC H (Off H' F):=λb o e=>mF (λz=>by
 rcases fr b z with rfl | w
 ·rw[e] at np; cases np
 ·rw[t _ _ e] at w; cases w) (kp b o (t b o e) (aF e np))
end TW
namespace L2
open PySem PySem.Spec PyProof.Rows
structure Lj(K:af)(x qual:Str)(st:Stmt)(f:Addr)(fd:FuncData)(dv:Value):Prop where
 ex:∃ (oc:Value) (od:Option Addr) (T:Addr) (o:Obj) (n:Nat) (kV doc pm:Value) (an:Option Addr) (cdv ct:Value) (osl:Array (Option Value)),
  fd=dU x qual (jg st) (fC st) (ay st) (.ref T) kV doc pm an cdv ct/\K.lookup f=some ⟨oc,od,.func fd,osl⟩/\i9 K cdv qual=true/\K.lookup T=some o/\o.data = .seq #[dv] n
 kp:dD K (.ref f)=true
section
variable{P:Program}{w:World}{K:af}{mg:Str->Option Value}{base:Heap}
theorem Lj.ok{x qual:Str}{st:Stmt}{f:Addr}{fd:FuncData}{dv:Value}{N ps:List Str}{k:Nat}{sp:Sp}(F:Lj K x qual st f fd dv)(S:aG N ps (ay st))(len:∀ vs H Q E,sp vs H Q E->vs.length=ps.length)
 (hbody:∀ (cdv:Value) (A:Around) (outer:List Env) (s:Shared) (H:Hp) (vs:List V) (Q:VK) (E:XK),jz k (A.deeper (envOfC qual (ay st) s.heap.objs.size f cdv))->sp vs H Q E ->
  ∃ t,jn (nN gO P w K mg base N qual (ay st) f cdv A outer s H E).X0 (fC st) t/\t { nx:=λ_ H'=>Q .eU H',rt:=Q } (start N vs) H):bV P w K mg base gO (k + 1) f fd ps sp:=by
 obtain⟨oc,od,T,o,n,kV,doc,pm,an,cdv,ct,osl,rfl,lk,hcd,_⟩:=F.ex
 refine Ui lk hcd S len λA outer s H vs Q E hr Tf=>?_
 obtain⟨t,h,q⟩:=hbody cdv A outer s H vs Q E hr Tf
 exact⟨t,h.X0,q⟩
theorem Lj.binds{x qual:Str}{st:Stmt}{f:Addr}{fd:FuncData}{dv:Value}{ps:List Str}{ds:List Value}{m:Nat}(F:Lj K x qual st f fd dv)(hm:m + ds.length=ps.length)
 (h:∀ (T:Addr) (kV doc pm:Value) (an:Option Addr) (cdv ct:Value) (us:List Value),us.length=m ->
  ∃ k,bindArgs (dU x qual (jg st) (fC st) (ay st) (.ref T) kV doc pm an cdv ct) ⟨us,[]⟩=seqItems? (.ref T) >>= k/\k (some #[dv])=pure (ps.zip (us++ds))):Binds K fd ps ds:=by
 obtain⟨oc,od,T,o,n,kV,doc,pm,an,cdv,ct,osl,rfl,lk,hcd,lt,ho⟩:=F.ex
 intro s us hK hl
 obtain⟨k,h1,h2⟩:=h T kV doc pm an cdv ct us (by rw[av] at hl; lia)
 exact PySem.W.binds_K hK rfl lt ho h1 h2
theorem QF{x qual:Str}{st:Stmt}{f T:Addr}{o:Obj}{n:Nat}{dv:Value}{oc:Value}{od an:Option Addr}{osl:Array (Option Value)}{kV doc pm cdv ct:Value}(l:K.lookup f=some ⟨oc,od,.func (dU x qual (jg st) (fC st) (ay st) (.ref T) kV doc pm an cdv ct),osl⟩)
 (c:i9 K cdv qual=true) (k:dD K (.ref f)=true) (lt:K.lookup T=some o) (ho:o.data = .seq #[dv] n):Lj K x qual st f (dU x qual (jg st) (fC st) (ay st) (.ref T) kV doc pm an cdv ct) dv:=⟨⟨oc,od,T,o,n,kV,doc,pm,an,cdv,ct,osl,rfl,l,c,lt,ho⟩,k⟩
end
end L2
namespace TW
open PySem L2 PyProof.Rows
structure jV(K:af)(c:NC)(H:Hp)(F:Addr->Prop)(loc dx:Role->Addr)(q:TQ)(p tp:Addr)(n:Nat)(s:NS):Prop where
 hp:loc .cQ=p
 own:uI H loc (desc c dx tp loc q s)
 fp:∀ b,F b↔Fp loc (desc c dx tp loc q s) b
 tup:mE K H n q s
section
variable{K:af}{c:NC}{H H':Hp}{F:Addr->Prop}{loc dx:Role->Addr}{q:TQ}{p tp:Addr}{n:Nat}{s:NS}
theorem jV.cQ(h:jV K c H F loc dx q p tp n s):c5 K c H F p tp n s:=⟨loc,dx,q,h.hp,h.own,h.fp,h.tup⟩
theorem jV.mono(h:jV K c H F loc dx q p tp n s)(e:aC H H'):jV K c H' F loc dx q p tp n s:=⟨h.hp,h.own.mono e,h.fp,h.tup.mono λb x=>e.dB⟩
theorem Av(X:jV K c H F loc dx q p tp n s){r:Role}(hr:desc c dx tp loc q s r≠none){o:HO}{q':TQ}{s':NS}
 (he:∀ x,gF (desc c dx tp loc q s) r o x=desc c dx tp loc q' s' x) (hT':(∀ b x,cH K H b x->cH K (upd H (loc r) o) b x)->mE K (upd H (loc r) o) n q' s') :
 jV K c (upd H (loc r) o) F loc dx q' p tp n s'/\Step H F (upd H (loc r) o) F:=by
 obtain⟨hp,O,hF,hT⟩:=X
 have U3:F (loc r):=(hF _).mpr ⟨r,hr,rfl⟩
 have N0:c5 K c H F p tp n s:=⟨loc,dx,q,hp,O,hF,hT⟩
 have kF:∀ b u,H b=some u->¬ F b->(upd H (loc r) o) b=some u:=λb u e z=>bZ b u e λw=>z (w ▸ U3)
 obtain⟨O4,F4⟩:=(O.set hr o).ext (QC:=desc c dx tp loc q' s') (loc':=loc) he (λx _=>rfl)
 exact⟨⟨hp,O4,λb=>(hF b).trans ((GK hr).symm.trans (F4 b)),hT' λb x=>N0.tup kF⟩,kF,λb z=>.inl z⟩
theorem jd{ls:List LS}{i k:Nat}{l':LS}(hi:i < ls.length):(ls.set i l')[k]?=if k=i then some l' else ls[k]?:=by
 rw[cV]
 by_cases z:i=k
 ·subst z
  rw[if_pos rfl,if_pos hi,if_pos rfl]
 ·rw[if_neg z,if_neg (bK z)]
noncomputable def mG(c:NC)(dx:Role->Addr)(loc:Role->Addr)(i:Nat)(l:LS):HO:=.ins c.post (dx (.bS i)) [("letter",.ref (loc (.letter i))),("group",.int l.grp),("old",.bl l.old),("done_at",.ref (loc (.done i))),("deeds",.ref (loc (.aQ i)))]
theorem W1(X:jV K c H F loc dx q p tp n s){i:Nat}{l:LS}(hl:s.ls[i]?=some l) :
 jV K c (upd H (loc (.bS i)) (mG c dx loc i { l with old:=true })) F loc dx q p tp n { s with ls:=s.ls.set i { l with old:=true } }/\Step H F (upd H (loc (.bS i)) (mG c dx loc i { l with old:=true })) F:=by
 have hi:=(ai.mp hl).1
 refine Av X (r:=.bS i) (q':=q) (by show (s.ls[i]?.map _)≠none; rw[hl]; exact aM _) (λx=>?_) (λkt=>⟨λg hg=>(X.tup.rows g hg).mono kt,λk l' e=>?_,X.tup.cps.mono kt⟩)
 ·cases x <;> first | rfl | skip
  ·show some _=some (HO.lst ((aq (s.ls.set i _).length).map _))
   rw[bP]
  all_goals rename_i k
  ·show gF (desc c dx tp loc q s) (.bS i) _ (.bS k)=((s.ls.set i _)[k]?.map λl=>mG c dx loc k l)
   rw[jd hi]
   by_cases z:k=i
   ·subst z
    rw[cW,if_pos rfl]
    rfl
   ·rw[b9 (λe=>z (by cases e; rfl)),if_neg z]
    rfl
  ·show (s.ls[k]?.map λl=>qP c (dx (.letter k)) l)=((s.ls.set i _)[k]?.map λl=>qP c (dx (.letter k)) l)
   rw[jd hi]
   by_cases z:k=i
   ·subst z
    rw[if_pos rfl,hl]
    rfl
   ·rw[if_neg z]
  ·show (s.ls[k]?.map λl=>HO.dK (l.done.map λh:Nat=>(fW (h:Int),.bl true)))=((s.ls.set i _)[k]?.map λl=>HO.dK (l.done.map λh:Nat=>(fW (h:Int),.bl true)))
   rw[jd hi]
   by_cases z:k=i
   ·subst z
    rw[if_pos rfl,hl]
    rfl
   ·rw[if_neg z]
  ·show (s.ls[k]?.map λ_=>HO.lst ((q.dq k).map V.ref))=((s.ls.set i _)[k]?.map λ_=>HO.lst ((q.dq k).map V.ref))
   rw[jd hi]
   by_cases z:k=i
   ·subst z
    rw[if_pos rfl,hl]
    rfl
   ·rw[if_neg z]
 ·have e:(s.ls.set i _)[k]?=some l':=e
  rw[jd hi] at e
  by_cases z:k=i
  ·subst z
   rw[if_pos rfl] at e
   cases e
   exact (X.tup.aQ k l hl).mono kt
  ·rw[if_neg z] at e
   exact (X.tup.aQ k l' e).mono kt
theorem U5(X:jV K c H F loc dx q p tp n s){i:Nat}{l:LS}(hl:s.ls[i]?=some l)(ds:List Nat) :
 jV K c (upd H (loc (.done i)) (.dK (ds.map λh:Nat=>(fW (h:Int),.bl true)))) F loc dx q p tp n { s with ls:=s.ls.set i { l with done:=ds } }/\Step H F (upd H (loc (.done i)) (.dK (ds.map λh:Nat=>(fW (h:Int),.bl true)))) F:=by
 have hi:=(ai.mp hl).1
 refine Av X (r:=.done i) (q':=q) (by show (s.ls[i]?.map _)≠none; rw[hl]; exact aM _) (λx=>?_) (λkt=>⟨λg hg=>(X.tup.rows g hg).mono kt,λk l' e=>?_,X.tup.cps.mono kt⟩)
 ·cases x <;> first | rfl | skip
  ·show some _=some (HO.lst ((aq (s.ls.set i _).length).map _))
   rw[bP]
  all_goals rename_i k
  ·show (s.ls[k]?.map λl=>mG c dx loc k l)=((s.ls.set i _)[k]?.map λl=>mG c dx loc k l)
   rw[jd hi]
   by_cases z:k=i
   ·subst z
    rw[if_pos rfl,hl]
    rfl
   ·rw[if_neg z]
  ·show (s.ls[k]?.map λl=>qP c (dx (.letter k)) l)=((s.ls.set i _)[k]?.map λl=>qP c (dx (.letter k)) l)
   rw[jd hi]
   by_cases z:k=i
   ·subst z
    rw[if_pos rfl,hl]
    rfl
   ·rw[if_neg z]
  ·show gF (desc c dx tp loc q s) (.done i) _ (.done k)=((s.ls.set i _)[k]?.map λl=>HO.dK (l.done.map λh:Nat=>(fW (h:Int),.bl true)))
   rw[jd hi]
   by_cases z:k=i
   ·subst z
    rw[cW,if_pos rfl]
    rfl
   ·rw[b9 (λe=>z (by cases e; rfl)),if_neg z]
    rfl
  ·show (s.ls[k]?.map λ_=>HO.lst ((q.dq k).map V.ref))=((s.ls.set i _)[k]?.map λ_=>HO.lst ((q.dq k).map V.ref))
   rw[jd hi]
   by_cases z:k=i
   ·subst z
    rw[if_pos rfl,hl]
    rfl
   ·rw[if_neg z]
 ·have e:(s.ls.set i _)[k]?=some l':=e
  rw[jd hi] at e
  by_cases z:k=i
  ·subst z
   rw[if_pos rfl] at e
   cases e
   exact (X.tup.aQ k l hl).mono kt
  ·rw[if_neg z] at e
   exact (X.tup.aQ k l' e).mono kt
theorem za(X:jV K c H F loc dx q p tp n s){i:Nat}{l:LS}(hl:s.ls[i]?=some l){a:Addr}{d:AL}(ha:cH K H a d.vs) :
 jV K c (upd H (loc (.aQ i)) (.lst ((q.dq i).map V.ref++[.ref a]))) F loc dx { q with dq:=gz q.dq i (q.dq i++[a]) } p tp n { s with ls:=s.ls.set i { l with aQ:=l.aQ++[d] } }/\Step H F (upd H (loc (.aQ i)) (.lst ((q.dq i).map V.ref++[.ref a]))) F:=by
 have hi:=(ai.mp hl).1
 refine Av X (r:=.aQ i) (q':={ q with dq:=gz q.dq i (q.dq i++[a]) }) (by show (s.ls[i]?.map _)≠none; rw[hl]; exact aM _) (λx=>?_) (λkt=>⟨λg hg=>(X.tup.rows g hg).mono kt,λk l' e=>?_,X.tup.cps.mono kt⟩)
 ·cases x <;> first | rfl | skip
  ·show some _=some (HO.lst ((aq (s.ls.set i _).length).map _))
   rw[bP]
  all_goals rename_i k
  ·show (s.ls[k]?.map λl=>mG c dx loc k l)=((s.ls.set i _)[k]?.map λl=>mG c dx loc k l)
   rw[jd hi]
   by_cases z:k=i
   ·subst z
    rw[if_pos rfl,hl]
    rfl
   ·rw[if_neg z]
  ·show (s.ls[k]?.map λl=>qP c (dx (.letter k)) l)=((s.ls.set i _)[k]?.map λl=>qP c (dx (.letter k)) l)
   rw[jd hi]
   by_cases z:k=i
   ·subst z
    rw[if_pos rfl,hl]
    rfl
   ·rw[if_neg z]
  ·show (s.ls[k]?.map λl=>HO.dK (l.done.map λh:Nat=>(fW (h:Int),.bl true)))=((s.ls.set i _)[k]?.map λl=>HO.dK (l.done.map λh:Nat=>(fW (h:Int),.bl true)))
   rw[jd hi]
   by_cases z:k=i
   ·subst z
    rw[if_pos rfl,hl]
    rfl
   ·rw[if_neg z]
  ·show gF (desc c dx tp loc q s) (.aQ i) _ (.aQ k)=((s.ls.set i _)[k]?.map λ_=>HO.lst ((gz q.dq i (q.dq i++[a]) k).map V.ref))
   rw[jd hi]
   by_cases z:k=i
   ·subst z
    rw[cW,if_pos rfl,cJ,aT]
    rfl
   ·rw[b9 (λe=>z (by cases e; rfl)),if_neg z,eK z]
    rfl
 ·show dR K _ (gz q.dq i (q.dq i++[a]) k) _
  have e:(s.ls.set i _)[k]?=some l':=e
  rw[jd hi] at e
  by_cases z:k=i
  ·subst z
   rw[if_pos rfl] at e
   cases e
   rw[cJ]
   show dR K _ _ ((l.aQ++[d]).map AL.vs)
   rw[aT]
   have h0:=(X.tup.aQ k l hl).mono kt
   refine⟨by rw[av,av,h0.len]; rfl,λj b x e1 e2=>?_⟩
   rcases wQ e1 with e1 | ⟨rfl,rfl⟩
   ·have hj:=(ai.mp e1).1
    rw[bU (by rw[<- h0.len]; exact hj)] at e2
    exact h0.at' j b x e1 e2
   ·rw[h0.len,bX (au _)] at e2
    rw[lX] at e2
    cases e2
    exact kt _ _ ha
  ·rw[if_neg z] at e
   rw[eK z]
   exact (X.tup.aQ k l' e).mono kt
theorem QG(X:jV K c H F loc dx q p tp n s){qs:List Addr}{cps:List Cp}(hq:dR K H qs (cps.map Cp.vs)) :
 jV K c (upd H (loc .d8) (.lst (qs.map V.ref))) F loc dx { q with cq:=qs } p tp n { s with cps:=cps }/\Step H F (upd H (loc .d8) (.lst (qs.map V.ref))) F :=
 Av X (r:=.d8) (q':={ q with cq:=qs }) (aM _) (λx=>by cases x <;> rfl) (λkt=>⟨λg hg=>(X.tup.rows g hg).mono kt,λk l e=>(X.tup.aQ k l e).mono kt,hq.mono kt⟩)
theorem U6(X:jV K c H F loc dx q p tp n s){i:Nat}(hi:i < s.had.length)(hd:List Nat) :
 jV K c (upd H (loc (.handed i)) (.lst (aV hd))) F loc dx q p tp n { s with had:=s.had.set i hd }/\Step H F (upd H (loc (.handed i)) (.lst (aV hd))) F:=by
 refine Av X (r:=.handed i) (q':=q) (by show (s.had[i]?.map _)≠none; rw[aa hi]; exact aM _) (λx=>?_) (λkt=>⟨λg hg=>(X.tup.rows g hg).mono kt,λk l e=>(X.tup.aQ k l e).mono kt,X.tup.cps.mono kt⟩)
 cases x <;> first | rfl | skip
 ·show some _=some (HO.lst ((aq (s.had.set i _).length).map _))
  rw[bP]
 ·rename_i k
  show gF (desc c dx tp loc q s) (.handed i) _ (.handed k)=((s.had.set i hd)[k]?.map λw=>HO.lst (aV w))
  rw[cV]
  by_cases z:k=i
  ·subst z
   rw[cW,if_pos rfl,if_pos hi]
   rfl
  ·rw[b9 (λe=>z (by cases e; rfl)),if_neg (bK z)]
   rfl
end
theorem U7{α:Type}{xs:List α}{i:Nat}{x:α}(h:xs[i]?=some x):xs.set i x=xs:=by
 obtain⟨hi,rfl⟩:=ai.mp h
 exact List.set_getElem_self hi
noncomputable def yI(c:NC)(Dv Lk la da ea:Addr)(n:Nat)(l:LS):Role->Option HO
 | .bS i=>if i=n then some (.ins c.post Dv [("letter",.ref la),("group",.int l.grp),("old",.bl l.old),("done_at",.ref da),("deeds",.ref ea)]) else none
 | .letter i=>if i=n then some (qP c Lk l) else none
 | .done i=>if i=n then some (.dK (l.done.map λh:Nat=>(fW (h:Int),.bl true))) else none
 | .aQ i=>if i=n then some (.lst []) else none
 | _=>none
noncomputable def newL(pa la da ea:Addr):Role->Addr
 | .bS _=>pa
 | .letter _=>la
 | .done _=>da
 | .aQ _=>ea
 | _=>0
section
variable{K:af}{c:NC}{H H':Hp}{F:Addr->Prop}{loc dx:Role->Addr}{q:TQ}{p tp:Addr}{n:Nat}{s:NS}
theorem aac{Dv Lk pa la da ea:Addr}{l:LS}(h1:H pa=some (.ins c.post Dv [("letter",.ref la),("group",.int l.grp),("old",.bl l.old),("done_at",.ref da),("deeds",.ref ea)]))(h2:H la=some (qP c Lk l))(h3:H da=some (.dK (l.done.map λh:Nat=>(fW (h:Int),.bl true))))(h4:H ea=some (.lst []))
 (d1:pa≠la) (d2:pa≠da) (d3:pa≠ea) (d4:la≠da) (d5:la≠ea) (d6:da≠ea):uI H (newL pa la da ea) (yI c Dv Lk la da ea n l):=by
 have one:∀ {i:Nat} {o:HO} {o':HO},(if i=n then some o else none)=some o'->o=o'/\i=n:=λ{i o o'} e=>by
  by_cases z:i=n
  ·rw[if_pos z] at e; cases e; exact⟨rfl,z⟩
  ·rw[if_neg z] at e; cases e
 have acG:∀ {i:Nat} {o:HO},(if i=n then some o else none)≠none->i=n:=λ{i o} e=>by
  by_cases z:i=n
  ·exact z
  ·rw[if_neg z] at e; exact absurd rfl e
 refine⟨λr o e=>?_,λr q' a b e=>?_⟩
 ·cases r <;> first | (cases e; done) | skip
  ·rw[<- (one e).1]; exact h1
  ·rw[<- (one e).1]; exact h2
  ·rw[<- (one e).1]; exact h3
  ·rw[<- (one e).1]; exact h4
 ·cases r <;> first | exact absurd rfl a | skip
  all_goals cases q' <;> first | exact absurd rfl b | skip
  all_goals first
   | (rw[acG a,acG b]; done)
   | exact absurd e d1
   | exact absurd e.symm d1
   | exact absurd e d2
   | exact absurd e.symm d2
   | exact absurd e d3
   | exact absurd e.symm d3
   | exact absurd e d4
   | exact absurd e.symm d4
   | exact absurd e d5
   | exact absurd e.symm d5
   | exact absurd e d6
   | exact absurd e.symm d6
theorem U8(hp:loc .cQ=p)(O:uI H loc (desc c dx tp loc q s))(hF:∀ b,F b↔Fp loc (desc c dx tp loc q s) b)(hT:mE K H n q s){Dv Lk pa la da ea:Addr}{l:LS}(hd:l.aQ = [])
 (h1:H pa=some (.ins c.post Dv [("letter",.ref la),("group",.int l.grp),("old",.bl l.old),("done_at",.ref da),("deeds",.ref ea)])) (h2:H la=some (qP c Lk l)) (h3:H da=some (.dK (l.done.map λh:Nat=>(fW (h:Int),.bl true)))) (h4:H ea=some (.lst []))
 (d1:pa≠la) (d2:pa≠da) (d3:pa≠ea) (d4:la≠da) (d5:la≠ea) (d6:da≠ea) (n1:¬ F pa) (n2:¬ F la) (n3:¬ F da) (n4:¬ F ea) :
 ∃ F',c5 K c (upd H (loc .cE) (.lst (((aq s.ls.length).map λi=>.ref (loc (.bS i)))++[.ref pa]))) F' p tp n { s with ls:=s.ls++[l] } /\
  (∀ b o,H b=some o->¬ F b->(upd H (loc .cE) (.lst (((aq s.ls.length).map λi=>.ref (loc (.bS i)))++[.ref pa]))) b=some o)/\∀ b,F' b->F b∨b=pa∨b=la∨b=da∨b=ea:=by
 have agb:=aac (n:=s.ls.length) (c:=c) h1 h2 h3 h4 d1 d2 d3 d4 d5 d6
 have N0:c5 K c H F p tp n s:=⟨loc,dx,q,hp,O,hF,hT⟩
 have nb:desc c dx tp loc q s .cE≠none:=aM _
 have U3:F (loc .cE):=(hF _).mpr ⟨.cE,nb,rfl⟩
 have out:∀ r,yI c Dv Lk la da ea s.ls.length l r≠none->¬ F (newL pa la da ea r):=λr h=>by
  cases r <;> first | exact absurd rfl h | assumption
 have kF:∀ b o,H b=some o->¬ F b->(upd H (loc .cE) (.lst (((aq s.ls.length).map λi=>.ref (loc (.bS i)))++[.ref pa]))) b=some o:=λb u e z=>bZ b u e λw=>z (w ▸ U3)
 have kt:∀ b x,cH K H b x->cH K _ b x:=λb x=>N0.tup kF
 have J:=O.join agb λr q' a b e=>out q' b (e ▸ (hF _).mpr ⟨r,a,rfl⟩)
 have S:=J.set (r:=.cE) nb (.lst (((aq s.ls.length).map λi=>V.ref (loc (.bS i)))++[.ref pa]))
 have at':∀ {k:Nat},k≠s.ls.length->(s.ls++[l])[k]?=s.ls[k]?:=λ{k} z=>by
  by_cases w:k < s.ls.length
  ·exact bU w
  ·rw[iM (by rw[av]; show s.ls.length + 1<=k; lia),iM (by lia)]
 have atn:(s.ls++[l])[s.ls.length]?=some l:=by rw[bX (au _),lX]; rfl
 obtain⟨O4,F4⟩:=S.ext (QC:=desc c (λr=>if r = .bS s.ls.length then Dv else if r = .letter s.ls.length then Lk else dx r) tp (λr=>if (yI c Dv Lk la da ea s.ls.length l r).isSome=true then newL pa la da ea r else loc r) { q with dq:=gz q.dq s.ls.length [] } { s with ls:=s.ls++[l] })
  (loc':=λr=>if (yI c Dv Lk la da ea s.ls.length l r).isSome=true then newL pa la da ea r else loc r) (λr=>by
   cases r <;> first | rfl | skip
   ·
    show some _=some (HO.lst ((aq (s.ls++[l]).length).map _))
    rw[av]
    show _=some (HO.lst ((aq (s.ls.length + 1)).map _))
    rw[ju,aT]
    congr 2
    congr 1
    ·refine dh λi hi=>?_
     have z:i≠s.ls.length:=by have:=fc.mp hi; lia
     simp[yI,z]
    ·simp[yI,newL]
   all_goals rename_i k
   all_goals by_cases z:k=s.ls.length
   all_goals first | subst z | skip
   all_goals rw[b9 (λe=>by cases e)]
   ·simp[yI,newL,desc,atn]
   ·have:=at' z
    simp[yI,newL,desc,z,this]
   ·simp[yI,newL,desc,atn]
   ·have:=at' z
    simp[yI,newL,desc,z,this]
   ·simp[yI,newL,desc,atn]
   ·have:=at' z
    simp[yI,newL,desc,z,this]
   ·simp[yI,newL,desc,atn,cJ]
   ·have:=at' z
    simp[yI,newL,desc,z,this,eK z]) (λr _=>rfl)
 refine⟨Fp _ _,⟨λr=>if (yI c Dv Lk la da ea s.ls.length l r).isSome=true then newL pa la da ea r else loc r,_,_,hp,O4,λb=>Iff.rfl,⟨λg hg=>(hT.rows g hg).mono kt,λk l' e=>?_,hT.cps.mono kt⟩⟩,kF,λb hb=>?_⟩
 ·have e:(s.ls++[l])[k]?=some l':=e
  show dR K _ (gz q.dq s.ls.length [] k) _
  by_cases z:k=s.ls.length
  ·subst z
   rw[atn] at e
   cases e
   rw[cJ,hd]
   exact⟨rfl,λi b x e=>by cases e⟩
  ·rw[at' z] at e
   rw[eK z]
   exact (hT.aQ k l' e).mono kt
 ·obtain⟨r,a,e⟩:=(GK (ob:=λr=>if (yI c Dv Lk la da ea s.ls.length l r).isSome=true then yI c Dv Lk la da ea s.ls.length l r else desc c dx tp loc q s r) (r:=.cE) nb).mp ((F4 b).mpr hb)
  by_cases z:(yI c Dv Lk la da ea s.ls.length l r).isSome=true
  ·simp only[z,if_true] at e
   subst e
   right
   cases r <;> first | (cases z; done) | skip
   ·exact .inl rfl
   ·exact .inr (.inl rfl)
   ·exact .inr (.inr (.inl rfl))
   ·exact .inr (.inr (.inr rfl))
  ·simp only[z,if_false] at a e
   exact .inl ((hF b).mpr ⟨r,by simpa using a,by simpa using e⟩)
end
theorem QH(a b x y:Int):PyData.eqv (.tuple (([a,b]:List Int).map .int)) (.tuple (([x,y]:List Int).map .int))=decide (a=x/\b=y):=by
 show (PyData.eqv (.int a) (.int x) && (PyData.eqv (.int b) (.int y) && true))=_
 show ((a == x) && ((b == y) && true))=_
 rw[Bool.and_true,gR]
 simp
section
variable{K:af}{c:NC}{H H':Hp}{F:Addr->Prop}{loc dx:Role->Addr}{q:TQ}{p tp:Addr}{n:Nat}{s:NS}
theorem jV.past(X:jV K c H F loc dx q p tp n s){z:Addr}{u:HO}(hz:H z=some u)(nt:tV u)(nF:¬ F z)(kp:∀ b v,H b=some v->b≠z->H' b=some v):jV K c H' F loc dx q p tp n s :=
 ⟨X.hp,X.own.keep λb o e y=>kp b o e λw=>nF (w ▸ (X.fp b).mpr y),X.fp,X.tup.mono λb x=>cH.past hz nt kp⟩
end
noncomputable def Wf(i x:Nat)(c:Cp):Bool:=decide (c.r=i/\c.w=x)
noncomputable def c6(s:NS)(i:Nat)(d:AL):NS:=match s.ls[i]? with | some l=>{ s with ls:=s.ls.set i { l with aQ:=l.aQ++[d] } } | none=>s
theorem fR{s:NS}{i:Nat}{d:AL}{l:LS}(h:s.ls[i]?=some l):c6 s i d = { s with ls:=s.ls.set i { l with aQ:=l.aQ++[d] } }:=by
 unfold c6
 rw[h]
noncomputable def vM(i x:Nat)(s:NS)(c:Cp):NS:=if Wf i x c=true then c6 s c.l (.UZ c.h i) else s
noncomputable def iQ(s:NS)(i x:Nat)(m:Nat):NS:=(s.cps.take m).foldl (vM i x) s
noncomputable def CF(s:NS)(i x:Nat):NS:={ iQ s i x s.cps.length with cps:=s.cps.filter λc=>!Wf i x c }
theorem MO{s:NS}{i:Nat}{d:AL}:(c6 s i d).ls.length=s.ls.length:=by
 unfold c6
 cases s.ls[i]? with
 | none=>rfl
 | some l=>exact bP
theorem Sk{i x:Nat}{s:NS}{c:Cp}:(vM i x s c).ls.length=s.ls.length:=by
 unfold vM
 split
 ·exact MO
 ·rfl
theorem MP{s:NS}{i:Nat}{d:AL}:(c6 s i d).cps=s.cps:=by
 unfold c6
 cases s.ls[i]? <;> rfl
theorem Sm{i x:Nat}{s:NS}{c:Cp}:(vM i x s c).cps=s.cps:=by
 unfold vM
 split
 ·exact MP
 ·rfl
theorem JY{i x:Nat}:∀ {cs:List Cp} {s:NS},(cs.foldl (vM i x) s).ls.length=s.ls.length
 | [],_=>rfl
 | c :: cs,s=>by rw[List.foldl_cons,JY,Sk]
theorem JZ{i x:Nat}:∀ {cs:List Cp} {s:NS},(cs.foldl (vM i x) s).cps=s.cps
 | [],_=>rfl
 | c :: cs,s=>by rw[List.foldl_cons,JZ,Sm]
theorem wV{s:NS}{i x:Nat}:iQ s i x 0=s:=by unfold iQ; rw[List.take_zero]; rfl
theorem wW{s:NS}{i x m:Nat}(h:m < s.cps.length):iQ s i x (m + 1)=vM i x (iQ s i x m) s.cps[m]:=by
 unfold iQ
 rw[fH h,List.foldl_append]
 rfl
theorem J0{s:NS}{i x m:Nat}:(iQ s i x m).ls.length=s.ls.length:=JY
theorem Sn{s:NS}{i x m:Nat}:(iQ s i x m).cps=s.cps:=JZ
theorem J1{α:Type}{f:α->Bool}{xs:List α}{i:Nat}(hi:i < xs.length):(xs.take (i + 1)).filter f=(xs.take i).filter f++if f xs[i]=true then [xs[i]] else []:=by
 rw[fH hi,iN]
 congr 1
 cases e:f xs[i]
 ·rw[if_neg (by decide),rN (by rw[e]; decide)]; rfl
 ·rw[if_pos rfl,rM e]; rfl
theorem dR.snoc{K:af}{H:Hp}{qs:List Addr}{xs:List (List V)}{a:Addr}{x:List V}(h:dR K H qs xs)(ha:cH K H a x):dR K H (qs++[a]) (xs++[x]):=by
 refine⟨by rw[av,av,h.len]; rfl,λj b y e1 e2=>?_⟩
 rcases wQ e1 with e1 | ⟨rfl,rfl⟩
 ·have hj:=(ai.mp e1).1
  rw[bU (by rw[<- h.len]; exact hj)] at e2
  exact h.at' j b y e1 e2
 ·rw[h.len,bX (au _),lX] at e2
  cases e2
  exact ha
end TW
namespace RM
variable{N:Net}{S:Nat->Row}
end RM
namespace Gr
end Gr
namespace L2
open PySem PySem.Spec PyProof.Rows
section
variable{X:Cx}{pos:Pos}
theorem sS(i:Nat){x:Str}{e:Expr}{te:TE}{pos':Pos}{ps:List Str}{sc:Scope}(S:aG X.N ps sc)(he:PE X e te)(hi:X.N[i]?=some x:=by rfl)(hx:Loc X.env.scope x:=by first | exact Or.inl rfl | exact Or.inr rfl)(hs:swapsWith e (some (.Name x pos')) pos.line X.env=pure false:=by rfl)(hf:X.fn x=true∨X.env.scope.names.lookup x=some .local:=by first | exact .inl rfl | exact .inr rfl | assumption) :
 PS X (.Assign [.Name x pos'] e pos) (Wp te (gM i)):=Zo S.nd hi hx he hs hf
theorem gS(i:Nat){x:Str}(hN:X.N.Nodup)(hi:X.N[i]?=some x:=by rfl)(hx:Loc X.env.scope x:=by first | exact Or.inl rfl | exact Or.inr rfl)(hf:X.fn x=true∨X.env.scope.names.lookup x=some .local:=by first | exact .inl rfl | exact .inr rfl | assumption):PG X (.Name x pos) (gM i):=Qc hN hi hx hf
theorem gT(i:Nat){x:Str}{ps:List Str}{sc:Scope}(S:aG X.N ps sc)(hi:X.N[i]?=some x:=by rfl)(hx:Loc X.env.scope x:=by first | exact Or.inl rfl | exact Or.inr rfl)(hf:X.fn x=true∨X.env.scope.names.lookup x=some .local:=by first | exact .inl rfl | exact .inr rfl | assumption):PG X (.Name x pos) (gM i):=Qc S.nd hi hx hf
theorem oR{e:Expr}{te:TE}(he:PE X e te):jn X [.Return (some e) pos] (Zj te):=aW (TF he)
theorem oB{b j pos'}:jn X [.Return (some (.Constant (.bool b) j pos')) pos] (Zj (tC (.bl b))):=aW (TF Ez)
theorem oE{e:Expr}{te:TE}(he:PE X e te)(hs:swapsWith e none pos.line X.env=pure false:=by rfl):jn X [.Expr e pos] (Yb te):=aW (dY he hs)
theorem fV{e1:Expr}{t1:TE}(h1:PE X e1 t1)(s1:dJ e1=true:=by rfl):PA X [e1] (fZ t1 Cn):=(mw h1 fK s1)
theorem mH{e1 e2:Expr}{t1 t2:TE}(h1:PE X e1 t1)(h2:PE X e2 t2)(s1:dJ e1=true:=by rfl)(s2:dJ e2=true:=by rfl):PA X [e1,e2] (fZ t1 (fZ t2 Cn)):=(mw h1 (mw h2 fK s2) s1)
theorem J2{e1 e2 e3:Expr}{t1 t2 t3:TE}(h1:PE X e1 t1)(h2:PE X e2 t2)(h3:PE X e3 t3)(s1:dJ e1=true:=by rfl)(s2:dJ e2=true:=by rfl)(s3:dJ e3=true:=by rfl):PA X [e1,e2,e3] (fZ t1 (fZ t2 (fZ t3 Cn))):=(mw h1 (mw h2 (mw h3 fK s3) s2) s1)
theorem Yv{e1 e2 e3 e4:Expr}{t1 t2 t3 t4:TE}(h1:PE X e1 t1)(h2:PE X e2 t2)(h3:PE X e3 t3)(h4:PE X e4 t4)(s1:dJ e1=true:=by rfl)(s2:dJ e2=true:=by rfl)(s3:dJ e3=true:=by rfl)(s4:dJ e4=true:=by rfl):PA X [e1,e2,e3,e4] (fZ t1 (fZ t2 (fZ t3 (fZ t4 Cn)))):=(mw h1 (mw h2 (mw h3 (mw h4 fK s4) s3) s2) s1)
theorem aN5{e1 e2 e3 e4 e5:Expr}{t1 t2 t3 t4 t5:TE}(h1:PE X e1 t1)(h2:PE X e2 t2)(h3:PE X e3 t3)(h4:PE X e4 t4)(h5:PE X e5 t5)(s1:dJ e1=true:=by rfl)(s2:dJ e2=true:=by rfl)(s3:dJ e3=true:=by rfl)(s4:dJ e4=true:=by rfl)(s5:dJ e5=true:=by rfl):PA X [e1,e2,e3,e4,e5] (fZ t1 (fZ t2 (fZ t3 (fZ t4 (fZ t5 Cn))))):=(mw h1 (mw h2 (mw h3 (mw h4 (mw h5 fK s5) s4) s3) s2) s1)
theorem aN6{e1 e2 e3 e4 e5 e6:Expr}{t1 t2 t3 t4 t5 t6:TE}(h1:PE X e1 t1)(h2:PE X e2 t2)(h3:PE X e3 t3)(h4:PE X e4 t4)(h5:PE X e5 t5)(h6:PE X e6 t6)(s1:dJ e1=true:=by rfl)(s2:dJ e2=true:=by rfl)(s3:dJ e3=true:=by rfl)(s4:dJ e4=true:=by rfl)(s5:dJ e5=true:=by rfl)(s6:dJ e6=true:=by rfl):PA X [e1,e2,e3,e4,e5,e6] (fZ t1 (fZ t2 (fZ t3 (fZ t4 (fZ t5 (fZ t6 Cn)))))):=(mw h1 (mw h2 (mw h3 (mw h4 (mw h5 (mw h6 fK s6) s5) s4) s3) s2) s1)
theorem aN7{e1 e2 e3 e4 e5 e6 e7:Expr}{t1 t2 t3 t4 t5 t6 t7:TE}(h1:PE X e1 t1)(h2:PE X e2 t2)(h3:PE X e3 t3)(h4:PE X e4 t4)(h5:PE X e5 t5)(h6:PE X e6 t6)(h7:PE X e7 t7)(s1:dJ e1=true:=by rfl)(s2:dJ e2=true:=by rfl)(s3:dJ e3=true:=by rfl)(s4:dJ e4=true:=by rfl)(s5:dJ e5=true:=by rfl)(s6:dJ e6=true:=by rfl)(s7:dJ e7=true:=by rfl):PA X [e1,e2,e3,e4,e5,e6,e7] (fZ t1 (fZ t2 (fZ t3 (fZ t4 (fZ t5 (fZ t6 (fZ t7 Cn))))))):=(mw h1 (mw h2 (mw h3 (mw h4 (mw h5 (mw h6 (mw h7 fK s7) s6) s5) s4) s3) s2) s1)
theorem kO{N ps:List Str}{Yn scope:Scope}(S:aG N ps Yn)(N2:List Str)(cap:List (Option Nat))(hd:X.env.scope=Yn:=by rfl)(hN:X.N=N:=by rfl)(h:Ld scope Yn N N2 cap=true:=by decide +kernel):jB X scope N2 cap:=R1 hd hN h
end
section
variable{X:Cx}{a b tg iter:Expr}{ta tb:TE}{pos:Pos}{op:CmpOp}{r:R2}{body:List Stmt}{wi:TI}{g:TG}{ts:TS}
theorem xL(ha:PE X a ta)(hb:PE X b tb)(hs:Cq b:=by exact λ_ _=>rfl):PE X (.Subscript a b pos) (Wb (RL X.K) ta tb):=Qm Qn ha hb hs
theorem xT(ha:PE X a ta)(hb:PE X b tb)(hs:Cq b:=by exact λ_ _=>rfl):PE X (.Subscript a b pos) (Wb (RN X.K) ta tb):=Qm Ul ha hb hs
theorem yL(K:af)(ha:PE X a ta)(hb:PE X b tb)(hK:X.K=K:=by rfl)(hs:Cq b:=by exact λ_ _=>rfl):PE X (.Subscript a b pos) (Wb (RL K) ta tb):=Qm (UB K hK) ha hb hs
theorem yT(K:af)(ha:PE X a ta)(hb:PE X b tb)(hK:X.K=K:=by rfl)(hs:Cq b:=by exact λ_ _=>rfl):PE X (.Subscript a b pos) (Wb (RN K) ta tb):=Qm (WD K hK) ha hb hs
theorem qE(ho:vI X (compareOp op) r)(ha:PE X a ta)(hb:PE X b tb)(h1:op≠.In:=by decide)(h2:op≠.NotIn:=by decide):PE X (.Compare a [op] [b] pos) (Wb r ta tb):=K1 ho ha hb (T9 b h1 h2)
theorem qT(ho:vI X (compareOp op) r)(ha:PE X a ta)(hb:PE X b tb)(h1:op≠.In:=by decide)(h2:op≠.NotIn:=by decide):PT X (.Compare a [op] [b] pos) (Ua (Wb r ta tb)):=jf ho ha hb (T9 b h1 h2)
theorem fS(hi:PI X tg iter wi)(hg:PG X tg g)(hb:jn X body ts)(hp:PassesOwn (model X.prog X.w) X.A X.env X.xe:=by exact PassesOwn.never)(hc:X.calm=true:=by rfl)(hs:∀ x,foldedSetIterable iter X.env x=pure x:=by intro _; rfl):PS X (.For tg iter body [] pos) (abS wi g ts):=Zq hp hc hi hg hb hs
end
section
variable{X:Cx}{x:Str}{p pos:Pos}{e:Expr}{es:List Expr}{te:TE}{t:TA}{id:String}{r:List V->Hp->VK->Prop}
theorem cB(hc:rP X (.builtin id) r)(hm:X.mg x=none)(hv:bootBuiltins x=some (.builtin id))(ha:PA X (e :: es) t)(hg:Gl X x:=by rfl)(hn:x≠"__name__" := by decide)(hdb:(x == ("__debug__" : Str))=false:=by decide)
 (he:starEach (e :: es) X.env=(false,eval e X.env) :: starEach es X.env:=by rfl) (hpl:(backTo pos (starEach es X.env)).any (·.1)=false:=by rfl):PE X (.Call (.Name x p) (e :: es) [] pos) (tCB r t):=Mq hc hg hm hv ha hn hdb he hpl
theorem lS(hm:X.mg "len" = none)(ha:PE X e te)(hg:Gl X "len" := by rfl)(hns:dJ e=true:=by rfl)(he:starEach [e] X.env=(false,eval e X.env) :: starEach [] X.env:=by rfl)(hpl:(backTo pos (starEach [] X.env)).any (·.1)=false:=by rfl) :
 PE X (.Call (.Name "len" p) [e] [] pos) (tCB (λxs H Q=>∃ p ys,xs = [.ref p]/\(bJ X.K H p ys∨cH X.K H p ys)/\Q (.int ys.length) H) (fZ te Cn)):=Mq K9 hg hm PySem.boot_len (mw ha fK hns) (by decide) (by decide) he hpl
end
theorem iR{N P:List Str}{sc:Scope}(h1:sc.kind = .function:=by rfl)(h2:sc.isCoroutine=false:=by rfl)(h3:sc.isGenerator=false:=by rfl)(h4:N.Nodup:=by decide +kernel)(h5:N.take P.length=P:=by rfl)(h6:∀ x∈P,sc.names.lookup x=some .local∨sc.names.lookup x=some .cell:=by decide +kernel)(h7:∀ y∈sc.names,y.2≠.free:=by decide +kernel):aG N P sc:=⟨h1,h2,h3,h4,h5,h6,h7⟩
structure mJ(K:af)(mg:Str->Option Value)(x key:Str)(st:Stmt)(f:Addr)(d:FuncData)(ps:List Str):Prop where
 F:Om K x key st f d
 B:Binds K d ps []
 g:mg x=some (.ref f)
structure gW(K:af)(C:Addr)(x key:Str)(st:Stmt)(f:Addr)(d:FuncData)(ps:List Str):Prop where
 F:Om K x key st f d
 B:Binds K d ps []
 m:K2 K C x f
structure MQ(K:af)(C:Addr)(key:Str)(st:Stmt)(f:Addr)(d:FuncData)(ps:List Str):Prop where
 F:Om K "__init__" key st f d
 B:Binds K d ps []
 M:Mk K C f
def EG(K:af)(mg:Str->Option Value)(x key:Str)(st:Stmt)(f:Addr):Prop:=∃ d,Om K x key st f d/\mg x=some (.ref f)
def EM(K:af)(C:Addr)(x key:Str)(st:Stmt)(f:Addr):Prop:=∃ d,Om K x key st f d/\K2 K C x f
structure EC(K:af)(C:Addr):Prop where
 c:IJ K C
 Yw:PySem.W.makesIn K C=true
 kc:dD K (.ref C)=true
section
variable{K:af}{h:Heap}{mg:Str->Option Value}{x key:Str}{st:Stmt}{C f:Addr}{oc:Value}{od an:Option Addr}{osl:Array (Option Value)}{kV doc pm cdv ct:Value}
theorem exG(X:K.In h)(G:h.Ns mainGlobals mg)(a:bF K mainGlobals x=some (some (.ref f)))(l:K.lookup f=some ⟨oc,od,.func (dU x key (jg st) (fC st) (ay st) .none kV doc pm an cdv ct),osl⟩)(c:i9 K cdv key=true)(k:dD K (.ref f)=true):EG K mg x key st f:=⟨_,Uy l c k,cK X G a⟩
theorem exM(a:aE K (.ref C) x=some (some (.ref f)))(i:PySem.W.isFn K (.ref f)=true)(l:K.lookup f=some ⟨oc,od,.func (dU x key (jg st) (fC st) (ay st) .none kV doc pm an cdv ct),osl⟩)(c:i9 K cdv key=true)(k:dD K (.ref f)=true):EM K C x key st f:=⟨_,Uy l c k,⟨a,i,k⟩⟩
theorem Yx(h1:wJ K C Str.empty=true)(h2:ux K C=true)(h3:PySem.W.plainOver K C=true)(h4:aE K (.ref C) "__setattr__" = some (some (.builtin "object.__setattr__")))(h5:PySem.W.makesIn K C=true)(h6:dD K (.ref C)=true):EC K C:=⟨⟨h1,h2,h3,h4⟩,h5,h6⟩
end
section
variable{X:Cx}{k k':Nat}{f C:Addr}{fd:FuncData}{ps:List Str}{sp:Sp}{x m key:Str}{st:Stmt}{p pos apos:Pos}{e o:Expr}{es:List Expr}{ta:TE}{t:TA}
theorem cG(F:bV X.prog X.w X.K X.mg X.base gO k f fd ps sp)(hr:jz k' X.A)(c:mJ X.K X.mg x key st f fd ps)(ha:PA X (e :: es) t)(hle:k<=k':=by decide)(hg:Gl X x:=by rfl)
 (hdb:(x == ("__debug__" : Str))=false:=by decide) (he:starEach (e :: es) X.env=(false,eval e X.env) :: starEach es X.env:=by rfl) (hpl:(backTo pos (starEach es X.env)).any (·.1)=false:=by rfl) :
 PE X (.Call (.Name x p) (e :: es) [] pos) (Yg sp [] E0 t):=An F (hr.mono hle) hg c.g c.F.kp c.B .nil mj ha hdb he hpl
theorem cM{pl:Sem Bool}(ho:PE X o ta)(c:IJ X.K C)(u:gW X.K C m key st f fd ps)(F:bV X.prog X.w X.K X.mg X.base gO k f fd ps sp)(hr:jz k' X.A)(ha:PA X (e :: es) t)(hle:k<=k':=by decide)
 (hst:starEach (e :: es) X.env=(false,eval e X.env) :: starEach es X.env:=by rfl) (hpl:(backTo pos (starEach es X.env)).any (·.1)=false:=by rfl)
 (ht:eval (.Call (.Attribute o m apos) (e :: es) [] pos) X.env=(do
  let ov <- eval o X.env
  standAt apos.atName
  let (f,first) <- holding [ov] (getMethod ov m pl)
  callWith pos f first (backTo pos (starEach (e :: es) X.env)) (backToKw pos (keywordEach [] X.env))):=by rfl) :
 PE X (.Call (.Attribute o m apos) (e :: es) [] pos) (ED C m sp [] E0 ta t):=qL ho c u.m F (hr.mono hle) u.B .nil mj ha hst hpl ht
theorem cI(u:MQ X.K C key st f fd ps)(F:bV X.prog X.w X.K X.mg X.base gO k f fd ps sp)(hr:jz k' X.A)(hm:X.mg x=some (.ref C))(ha:PA X (e :: es) t)(hle:k + 1<=k':=by decide)(hg:Gl X x:=by rfl)
 (hdb:(x == ("__debug__" : Str))=false:=by decide) (he:starEach (e :: es) X.env=(false,eval e X.env) :: starEach es X.env:=by rfl) (hpl:(backTo pos (starEach es X.env)).any (·.1)=false:=by rfl) :
 PE X (.Call (.Name x p) (e :: es) [] pos) (Ug C sp [] E0 t):=Qh u.M F (hr.mono hle) hg hm u.B .nil mj ha hdb he hpl
end
section
variable{P:Program}{w:World}{K:af}{mg:Str->Option Value}{base:Heap}
theorem Om.jo{x qual:Str}{st:Stmt}{f:Addr}{fd:FuncData}{N ps:List Str}{k:Nat}{sp:Sp}(F:Om K x qual st f fd)(S:aG N ps (ay st))
 (hb:∀ {cdv:Value} {A:Around} {outer:List Env} {s:Shared} {vs:List V} (H:Hp) (Q:VK) (E:XK),jz k (A.deeper (envOfC qual (ay st) s.heap.objs.size f cdv))->sp vs H Q E ->
  ∃ t,jn (nN gO P w K mg base N qual (ay st) f cdv A outer s H E).X0 (fC st) t/\t { nx:=λ_ H'=>Q .eU H',rt:=Q } (start N vs) H) (len:∀ vs H Q E,sp vs H Q E->vs.length=ps.length:=by intro _ _ _ _ h; cases h; subst_vars; rfl):bV P w K mg base gO (k + 1) f fd ps sp:=F.ok S len λ_ _ _ _ H _ Q E hr h=>hb H Q E hr h
theorem Om.So{x qual:Str}{st:Stmt}{f:Addr}{fd:FuncData}{N ps:List Str}{k:Nat}{sp:Sp}(F:Om K x qual st f fd)(S:aG N ps (ay st))
 (hb:∀ {cdv:Value} {A:Around} {outer:List Env} {s:Shared} {vs:List V} (H:Hp) (Q:VK) (E:XK),jz k (A.deeper (envOfC qual (ay st) s.heap.objs.size f cdv))->sp vs H Q E ->
  ∃ t,jn (nN (Du P w) P w K mg base N qual (ay st) f cdv A outer s H E) (fC st) t/\t { nx:=λ_ H'=>Q .eU H',rt:=Q } (start N vs) H) (len:∀ vs H Q E,sp vs H Q E->vs.length=ps.length:=by intro _ _ _ _ h; cases h; subst_vars; rfl):bV P w K mg base (Du P w) (k + 1) f fd ps sp:=F.okX S len λ_ _ _ _ H _ Q E hr h=>hb H Q E hr h
theorem Lj.jo{x qual:Str}{st:Stmt}{f:Addr}{fd:FuncData}{dv:Value}{N ps:List Str}{k:Nat}{sp:Sp}(F:Lj K x qual st f fd dv)(S:aG N ps (ay st))
 (hb:∀ {cdv:Value} {A:Around} {outer:List Env} {s:Shared} {vs:List V} (H:Hp) (Q:VK) (E:XK),jz k (A.deeper (envOfC qual (ay st) s.heap.objs.size f cdv))->sp vs H Q E ->
  ∃ t,jn (nN gO P w K mg base N qual (ay st) f cdv A outer s H E).X0 (fC st) t/\t { nx:=λ_ H'=>Q .eU H',rt:=Q } (start N vs) H) (len:∀ vs H Q E,sp vs H Q E->vs.length=ps.length:=by intro _ _ _ _ h; cases h; subst_vars; rfl):bV P w K mg base gO (k + 1) f fd ps sp:=F.ok S len λ_ _ _ _ H _ Q E hr h=>hb H Q E hr h
end
end L2
namespace L2
open PySem PySem.W PySem.Spec PyProof.Rows
noncomputable def W6:Bool->Keyed->Array Keyed->Nat->Nat->Nat->StateT SortSt Sem (Option Nat):=sortPriv% PySem.Builtin.gallop
noncomputable def U9:Array Keyed->Array Keyed->StateT SortSt Sem (Array Keyed):=sortPriv% PySem.Builtin.mergeLo
noncomputable def Va:Array Keyed->Array Keyed->StateT SortSt Sem (Array Keyed):=sortPriv% PySem.Builtin.mergeHi
section
variable{prog:Program}{w:World}{A:Around}{E:Value->Shared->Prop}{s:Shared}{κ:SortKind}{a₀:Array Keyed}{r:Keyed->Int}
def Sq(prog:Program)(w:World)(A:Around)(s:Shared)(κ:SortKind)(a₀:Array Keyed)(r:Keyed->Int):Prop :=
 ∀ x y,x∈a₀->y∈a₀->∀ (E:Value->Shared->Prop) (C:Bool->Shared->Prop),C (decide (r x < r y)) s->wpAny (model prog w) A (keyLt' κ x.1 y.1) C E s
theorem wlt{st:SortSt}{x y:Keyed}{Q:Option Bool->SortSt->Prop}(hc:Sq prog w A s κ a₀ r)(hk:kindOf st=κ)(hx:x∈a₀)(hy:y∈a₀)(h:Q (some (decide (r x < r y))) st):wpS (model prog w) A E s (lt' x y) Q st:=by
 rw[lt'_eq]
 refine wpS_bind (wpS_get ?_)
 rw[hk]
 refine wpS_bind (wpS_lift (wpAny_attempt (hc _ _ hx hy _ _ ⟨rfl,?_⟩)))
 exact wpS_pure h
theorem jG{st:SortSt}{a:Array Keyed}{i:Nat}{x:Keyed}{Q:Keyed->SortSt->Prop}(e:a[i]?=some x)(h:Q x st):wpS (model prog w) A E s (elem' a i) Q st:=by
 rw[elem'_eq,e]
 exact wpS_pure h
noncomputable def Aw(l:Bool)(u v:Int):Bool:=if l then decide (u < v) else !decide (v < u)
theorem Vb{st:SortSt}{l:Bool}{key x:Keyed}{a:Array Keyed}{i:Nat}{Q:Option Bool->SortSt->Prop}(hc:Sq prog w A s κ a₀ r)(hk:kindOf st=κ)(hx:x∈a₀)(hy:key∈a₀)(e:a[i]?=some x)
 (h:Q (some (Aw l (r x) (r key))) st):wpS (model prog w) A E s (do let x <- elem' a i; if l=true then lt' x key else do let b <- lt' key x; pure (b.map (!·))) Q st:=by
 refine wpS_bind (jG e ?_)
 cases l
 ·exact wpS_bind (wlt hc hk hy hx (wpS_pure h))
 ·exact wlt hc hk hx hy h
def Sl(a₀ a:Array Keyed)(r:Keyed->Int)(b n:Nat)(f:Nat->Int):Prop:=∀ i,i < n->∃ x,a[b + i]?=some x/\x∈a₀/\r x=f i
def Up(f:Nat->Int)(n:Nat):Prop:=∀ i j,i<=j->j < n->f i<=f j
theorem Vc{l:Bool}{f:Nat->Int}{v:Int}{n:Nat}(h:Up f n):∀ i j,i<=j->j < n->Aw l (f j) v=true->Aw l (f i) v=true:=λi j a b c=>by
 have:=h i j a b
 unfold Aw at *
 cases l <;> simp at * <;> lia
theorem Yy{st:SortSt}{B:Nat->Bool}{n lo hi:Nat}{g:Nat->Option (Option Nat) × Nat × Nat->StateT SortSt Sem (ForInStep (Option (Option Nat) × Nat × Nat))}{Q:Option (Option Nat) × Nat × Nat->SortSt->Prop}
 (g0:∀ x p q R,q<=p->R (.done (none,p,q)) st->wpS (model prog w) A E s (g x (none,p,q)) R st)
 (g1:∀ x p q R,p < q->q<=n->R (.yield (if B (p + (q - p) / 2)=true then (none,p + (q - p) / 2 + 1,q) else (none,p,p + (q - p) / 2))) st->wpS (model prog w) A E s (g x (none,p,q)) R st)
 (dn:∀ i j,i<=j->j < n->B j=true->B i=true) (hle:lo<=hi) (hn:hi<=n) (hlo:∀ i,i < lo->B i=true) (hhi:∀ i,hi<=i->i < n->B i=false)
 (h:∀ k,k<=n->(∀ i,i < k->B i=true)->(∀ i,k<=i->i < n->B i=false)->Q (none,k,k) st):wpS (model prog w) A E s (forIn [0:n] (none,lo,hi) g) Q st:=by
 refine wpS_forRange (I:=λx c st'=>st'=st/\∃ p q,c=(none,p,q)/\p<=q/\q<=n/\q - p<=n - x/\(∀ i,i < p->B i=true)/\∀ i,q<=i->i < n->B i=false) ?_ ?_ ⟨rfl,lo,hi,rfl,hle,hn,by lia,hlo,hhi⟩
 ·rintro x c st' _ hx ⟨rfl,p,q,rfl,h1,h2,h3,h4,h5⟩
  by_cases e:q<=p
  ·refine g0 _ _ _ _ e ?_
   have:q=p:=by lia
   subst this
   exact h q h2 h4 h5
  ·refine g1 _ _ _ _ (by lia) h2 ?_
   cases b:B (p + (q - p) / 2)
   ·exact⟨rfl,p,_,rfl,by lia,by lia,by lia,h4,λi a c=>by
     cases e2:B i with
     | false=>rfl
     | true=>rw[dn _ i a c e2] at b; cases b⟩
   ·exact⟨rfl,_,q,rfl,by lia,by lia,by lia,λi a=>dn i _ (by lia) (by lia) b,h5⟩
 ·rintro c st' ⟨rfl,p,q,rfl,h1,h2,h3,h4,h5⟩
  have:q=p:=by lia
  subst this
  exact h q h2 h4 h5
theorem Ss{st:SortSt}{l:Bool}{key:Keyed}{a:Array Keyed}{base n hint:Nat}{f:Nat->Int}{Q:Option Nat->SortSt->Prop}(hc:Sq prog w A s κ a₀ r)(hk:kindOf st=κ)(hkey:key∈a₀)(hs:Sl a₀ a r base n f)(hu:Up f n)(hh:hint < n)
 (h:∀ k,k<=n->(∀ i,i < k->Aw l (f i) (r key)=true)->(∀ i,k<=i->i < n->Aw l (f i) (r key)=false)->Q (some k) st):wpS (model prog w) A E s (W6 l key a base n hint) Q st:=by
 have dn:=Vc (l:=l) (v:=r key) hu
 have dn':∀ i j,i<=j->j < n->Aw l (f i) (r key)=false->Aw l (f j) (r key)=false:=λi j a b c=>by
  cases e:Aw l (f j) (r key) with
  | false=>rfl
  | true=>rw[dn i j a b e] at c; cases c
 obtain⟨x0,e0,m0,v0⟩:=hs hint hh
 refine wpS_bind (Vb hc hk m0 hkey e0 ?_)
 rw[v0]
 dsimp only
 cases b0:Aw l (f hint) (r key)
 all_goals (simp only[if_true,Bool.false_eq_true,if_false])
 ·refine wpS_bind (wpS_mono (wpS_forRange (I:=λx c st'=>st'=st/\∃ p q,c=(none,p,q)/\p < q/\x < q/\p<=hint/\Aw l (f (hint - p)) (r key)=false)
   (Q:=λc st'=>st'=st/\∃ p q,c=(none,p,q)/\p < q/\p<=hint/\Aw l (f (hint - p)) (r key)=false/\(hint + 1<=q∨Aw l (f (hint - q)) (r key)=true)) ?_ ?_ ?_) ?k1)
  ·rintro x c st' _ hx ⟨rfl,p,q,rfl,h1,h2,h3,h4⟩
   dsimp only
   by_cases hge:q ≥ hint + 1
   ·rw[if_pos hge]
    exact wpS_pure ⟨rfl,p,q,rfl,h1,h3,h4,.inl hge⟩
   ·rw[if_neg hge]
    obtain⟨x1,e1,m1,v1⟩:=hs (hint - q) (by lia)
    refine wpS_bind (Vb hc hk m1 hkey e1 ?_)
    rw[v1]
    dsimp only
    cases b1:Aw l (f (hint - q)) (r key)
    ·simp only[Bool.false_eq_true,if_false]
     exact wpS_pure ⟨rfl,q,_,rfl,by lia,by lia,by lia,b1⟩
    ·simp only[if_true]
     exact wpS_pure ⟨rfl,p,q,rfl,h1,h3,h4,.inr b1⟩
  ·rintro c st' ⟨rfl,p,q,rfl,h1,h2,h3,h4⟩
   exact⟨rfl,p,q,rfl,h1,h3,h4,.inl (by lia)⟩
  ·exact⟨rfl,0,1,rfl,by lia,by lia,by lia,b0⟩
  case k1 =>
  rintro c st' ⟨rfl,p,q,rfl,h1,h3,h4,h5⟩
  dsimp only
  refine wpS_bind (Yy (B:=λi=>Aw l (f i) (r key)) (λx p q R hpq k=>?_) (λx p q R hpq hq k=>?_) dn (by lia) (by lia) (λi hi=>?_) (λi a b=>dn' _ i a b h4) λk a b c=>wpS_pure (h k a b c))
  case refine_1=>dsimp only; rw[if_pos hpq]; exact wpS_pure k
  case refine_2 =>
   dsimp only
   rw[if_neg (by lia)]
   obtain⟨x1,e1,m1,v1⟩:=hs (p + (q - p) / 2) (by lia)
   refine wpS_bind (Vb hc hk m1 hkey e1 ?_)
   rw[v1]
   dsimp only at k ⊢
   cases z:Aw l (f (p + (q - p) / 2)) (r key) <;> rw[z] at k <;> exact wpS_pure k
  rcases h5 with h5 | h5
  ·lia
  ·exact dn i _ (by lia) (by lia) h5
 ·refine wpS_bind (wpS_mono (wpS_forRange (I:=λx c st'=>st'=st/\∃ p q,c=(none,p,q)/\p < q/\x < q/\hint + p < n/\Aw l (f (hint + p)) (r key)=true)
   (Q:=λc st'=>st'=st/\∃ p q,c=(none,p,q)/\p < q/\hint + p < n/\Aw l (f (hint + p)) (r key)=true/\(n - hint<=q∨Aw l (f (hint + q)) (r key)=false)) ?_ ?_ ?_) ?k1)
  ·rintro x c st' _ hx ⟨rfl,p,q,rfl,h1,h2,h3,h4⟩
   dsimp only
   by_cases hge:q ≥ n - hint
   ·rw[if_pos hge]
    exact wpS_pure ⟨rfl,p,q,rfl,h1,h3,h4,.inl hge⟩
   ·rw[if_neg hge]
    obtain⟨x1,e1,m1,v1⟩:=hs (hint + q) (by lia)
    refine wpS_bind (Vb hc hk m1 hkey e1 ?_)
    rw[v1]
    dsimp only
    cases b1:Aw l (f (hint + q)) (r key)
    ·exact wpS_pure ⟨rfl,p,q,rfl,h1,h3,h4,.inr b1⟩
    ·exact wpS_pure ⟨rfl,q,_,rfl,by lia,by lia,by lia,b1⟩
  ·rintro c st' ⟨rfl,p,q,rfl,h1,h2,h3,h4⟩
   exact⟨rfl,p,q,rfl,h1,h3,h4,.inl (by lia)⟩
  ·exact⟨rfl,0,1,rfl,by lia,by lia,by lia,b0⟩
  case k1 =>
  rintro c st' ⟨rfl,p,q,rfl,h1,h3,h4,h5⟩
  dsimp only
  refine wpS_bind (Yy (B:=λi=>Aw l (f i) (r key)) (λx p q R hpq k=>?_) (λx p q R hpq hq k=>?_) dn (by lia) (by lia) (λi hi=>dn i _ (by lia) h3 h4) (λi a b=>?_) λk a b c=>wpS_pure (h k a b c))
  case refine_1=>dsimp only; rw[if_pos hpq]; exact wpS_pure k
  case refine_2 =>
   dsimp only
   rw[if_neg (by lia)]
   obtain⟨x1,e1,m1,v1⟩:=hs (p + (q - p) / 2) (by lia)
   refine wpS_bind (Vb hc hk m1 hkey e1 ?_)
   rw[v1]
   dsimp only at k ⊢
   cases z:Aw l (f (p + (q - p) / 2)) (r key) <;> rw[z] at k <;> exact wpS_pure k
  rcases h5 with h5 | h5
  ·lia
  ·exact dn' _ i (by lia) b h5
structure MI(r:Keyed->Int)(T out X Y:List Keyed):Prop where
 p:(out++(X++Y)).Perm T
 so:out.Pairwise λx y=>r x<=r y
 sx:X.Pairwise λx y=>r x<=r y
 sy:Y.Pairwise λx y=>r x<=r y
 le:∀ x∈out,∀ y∈X++Y,r x<=r y
theorem MI.swap{T out X Y:List Keyed}(h:MI r T out X Y):MI r T out Y X:=⟨((List.perm_append_comm).append_left out).trans h.p,h.so,h.sy,h.sx,λx hx y hy=>h.le x hx y (by simp only[bG] at *; exact hy.symm)⟩
theorem MI.a{T out X Y:List Keyed}{x y:Keyed}(h:MI r T out (x :: X) (y :: Y))(hxy:r x<=r y):MI r T (out++[x]) X (y :: Y):=by
 have s1:=rH.mp h.sx
 have s2:=rH.mp h.sy
 refine⟨by simpa using h.p,nJ.mpr ⟨h.so,by simp,λu hu v hv=>?_⟩,s1.2,h.sy,λu hu v hv=>?_⟩
 ·rw[bz] at hv; subst hv
  exact h.le u hu v (by simp)
 ·rcases bG.mp hu with hu | hu
  ·exact h.le u hu v (by simp at hv ⊢; exact .inr hv)
  ·rw[bz] at hu; subst hu
   rcases bG.mp hv with hv | hv
   ·exact s1.1 v hv
   ·rcases bA.mp hv with rfl | hv
    ·exact hxy
    ·exact qF hxy (s2.1 v hv)
theorem MI.as{T Y:List Keyed}{y:Keyed}:∀ {out X Z:List Keyed},MI r T out (Z++X) (y :: Y)->(∀ x∈Z,r x<=r y)->MI r T (out++Z) X (y :: Y)
 | out,X,[],h,_=>by simpa using h
 | out,X,z :: Z,h,hz=>by
  have:=MI.as (Z:=Z) (MI.a h (hz z (by simp))) λx hx=>hz x (by simp[hx])
  simpa using this
theorem MI.fin{T out X:List Keyed}(h:MI r T out X []):(out++X).Perm T/\(out++X).Pairwise λx y=>r x<=r y :=
 ⟨by simpa using h.p,nJ.mpr ⟨h.so,h.sx,λu hu v hv=>h.le u hu v (by simp[hv])⟩⟩
theorem MI.last{T out Y:List Keyed}{x:Keyed}(h:MI r T out [x] Y)(hl:∀ y∈Y,r y<=r x):(out++Y++[x]).Perm T/\(out++Y++[x]).Pairwise λx y=>r x<=r y:=by
 refine⟨((List.perm_append_comm (l₁:=Y) (l₂:=[x])).append_left out).trans h.p |> (by simpa using ·),nJ.mpr ⟨nJ.mpr ⟨h.so,h.sy,λu hu v hv=>h.le u hu v (by simp[hv])⟩,by simp,λu hu v hv=>?_⟩⟩
 rw[bz] at hv; subst hv
 rcases bG.mp hu with hu | hu
 ·exact h.le u hu v (by simp)
 ·exact hl u hu
theorem drop_cons{a:Array Keyed}{i:Nat}(h:i < a.size):a.toList.drop i=a[i] :: a.toList.drop (i + 1):=by
 rw[oZ (by simpa using h)]; simp
theorem drop_take{a:Array Keyed}{i k:Nat}:a.toList.drop i=(a.extract i (i + k)).toList++a.toList.drop (i + k):=by
 rw[Array.toList_extract,oY]
 rw[show i + k - i=k by lia,<- List.drop_drop,vH]
theorem FQ{a:Array Keyed}{i:Nat}:(a.extract i a.size).toList=a.toList.drop i:=by
 rw[Array.toList_extract,oY,fM (by simp)]
theorem Vd{α β:Type}{G:Prop}{C P:α->β->Prop}(h:(∀ x y,C x y->P x y)->G)(k:∀ x y,C x y->P x y):G:=h k
theorem acK{α:Type}{G:Prop}{P:α->Prop}(h:(∀ x,P x)->G)(k:∀ x,P x):G:=h k
noncomputable def fv(r:Keyed->Int)(a:Array Keyed)(b i:Nat):Int:=((a[b + i]?).map r).getD 0
theorem nH{a:Array Keyed}{b i:Nat}(h:b + i < a.size):fv r a b i=r (a[b + i]):=by unfold fv; rw[getElem?_pos a (b + i) h]; rfl
theorem MR{a:Array Keyed}{b n:Nat}(m:∀ x∈a,x∈a₀)(h:b + n<=a.size):Sl a₀ a r b n (fv r a b):=λi hi=>⟨a[b + i],getElem?_pos a _ (by lia),m _ (bI _),(nH (by lia)).symm⟩
abbrev Fk(r:Keyed->Int)(l:List Keyed):Prop:=l.Pairwise λx y=>r x<=r y
theorem Fk.le{a:Array Keyed}{i j:Nat}(h:Fk r a.toList)(hij:i<=j)(hj:j < a.size):r a[i]<=r a[j]:=by
 by_cases e:i=j
 ·subst e; exact j5 _
 ·have:=jc.mp h i j (by simpa using (by lia:i < a.size)) (by simpa using hj) (by lia)
  simpa using this
theorem QI{a:Array Keyed}{b n:Nat}(hs:Fk r a.toList)(h:b + n<=a.size):Up (fv r a b) n:=λi j hij hj=>by
 rw[nH (by lia),nH (by lia)]
 exact hs.le (by lia) (by lia)
theorem QJ{a:Array Keyed}{i k:Nat}{x:Keyed}(h:x∈(a.extract i (i + k)).toList)(hk:i + k<=a.size):∃ j,∃ h:j < k,x=a[i + j]:=by
 obtain⟨j,hj,e⟩:=Array.mem_iff_getElem.mp (gB.mp h)
 rw[lO] at hj
 exact⟨j,by lia,by rw[<- e,fX]⟩
noncomputable abbrev setG(st:SortSt)(g:Nat):SortSt:=SortSt.mk' (kindOf st) (arrOf st) (pendingOf st) g (failedOf st)
theorem agc{st:SortSt}{a b:Array Keyed}{Q:Array Keyed->SortSt->Prop}(hc:Sq prog w A s κ a₀ r)(hk:kindOf st=κ)(ma:∀ x∈a,x∈a₀)(mb:∀ x∈b,x∈a₀)(sa:Fk r a.toList)(sb:Fk r b.toList)
 (ha:0 < a.size) (hb:0 < b.size) (h0:r b[0]<=r a[0]) (hl:∀ y∈b,r y<=r a[a.size - 1])
 (h:∀ out g,out.toList.Perm (a.toList++b.toList)->Fk r out.toList->Q out (setG st g)):wpS (model prog w) A E s (U9 a b) Q st:=by
 have DK:∀ {out:Array Keyed} {ia ib:Nat},MI r (a.toList++b.toList) out.toList (a.toList.drop ia) (b.toList.drop ib)->(ib=b.size∨ia=a.size)->(out++a.extract ia a.size++b.extract ib b.size).toList.Perm (a.toList++b.toList)/\Fk r (out++a.extract ia a.size++b.extract ib b.size).toList:=λ{out ia ib} m e=>by
  rw[cF,cF,FQ,FQ]
  rcases e with e | e
  ·subst e
   rw[tP (l:=b.toList) (by simp)] at m ⊢
   rw[gQ]
   exact m.fin
  ·subst e
   rw[tP (l:=a.toList) (by simp)] at m ⊢
   rw[gQ]
   exact m.swap.fin
 have fin2:∀ {out:Array Keyed} {ia ib:Nat},MI r (a.toList++b.toList) out.toList (a.toList.drop ia) (b.toList.drop ib)->ia + 1=a.size->(out++b.extract ib b.size++a.extract ia a.size).toList.Perm (a.toList++b.toList)/\Fk r (out++b.extract ib b.size++a.extract ia a.size).toList:=λ{out ia ib} m e=>by
  rw[cF,cF,FQ,FQ]
  have e1:a.toList.drop ia = [a[a.size - 1]]:=by
   rw[drop_cons (by lia),tP (by simp; lia)]
   congr 2
   lia
  rw[e1] at m ⊢
  exact m.last λy hy=>hl y (by simpa using List.mem_of_mem_drop hy)
 have pB:∀ {out:Array Keyed} {ia ib:Nat} (h1:ia < a.size) (h2:ib < b.size),MI r (a.toList++b.toList) out.toList (a.toList.drop ia) (b.toList.drop ib)->r b[ib]<=r a[ia]->MI r (a.toList++b.toList) (out.push b[ib]).toList (a.toList.drop ia) (b.toList.drop (ib + 1)):=λ{out ia ib} h1 h2 m e=>by
  rw[drop_cons h1,drop_cons h2] at m
  rw[uE,drop_cons h1]
  exact (m.swap.a e).swap
 have pA:∀ {out:Array Keyed} {ia ib:Nat} (h1:ia < a.size) (h2:ib < b.size),MI r (a.toList++b.toList) out.toList (a.toList.drop ia) (b.toList.drop ib)->r a[ia]<=r b[ib]->MI r (a.toList++b.toList) (out.push a[ia]).toList (a.toList.drop (ia + 1)) (b.toList.drop ib):=λ{out ia ib} h1 h2 m e=>by
  rw[drop_cons h1,drop_cons h2] at m
  rw[uE,drop_cons h2]
  exact m.a e
 have tA:∀ {out:Array Keyed} {ia ib k:Nat} (h1:ia + k<=a.size) (h2:ib < b.size),MI r (a.toList++b.toList) out.toList (a.toList.drop ia) (b.toList.drop ib)->(∀ j,(h:j < k)->r a[ia + j]<=r b[ib])->MI r (a.toList++b.toList) (out++a.extract ia (ia + k)).toList (a.toList.drop (ia + k)) (b.toList.drop ib):=λ{out ia ib k} h1 h2 m e=>by
  rw[drop_take (k:=k),drop_cons h2] at m
  rw[cF,drop_cons h2]
  refine m.as λx hx=>?_
  obtain⟨j,hj,rfl⟩:=QJ hx h1
  exact e j hj
 have tB:∀ {out:Array Keyed} {ia ib k:Nat} (h1:ia < a.size) (h2:ib + k<=b.size),MI r (a.toList++b.toList) out.toList (a.toList.drop ia) (b.toList.drop ib)->(∀ j,(h:j < k)->r b[ib + j]<=r a[ia])->MI r (a.toList++b.toList) (out++b.extract ib (ib + k)).toList (a.toList.drop ia) (b.toList.drop (ib + k)):=λ{out ia ib k} h1 h2 m e=>by
  rw[drop_take (a:=b) (k:=k),drop_cons h1] at m
  rw[cF,drop_cons h1]
  refine (m.swap.as λx hx=>?_).swap
  obtain⟨j,hj,rfl⟩:=QJ hx h2
  exact e j hj
 have m0:MI r (a.toList++b.toList) (#[]:Array Keyed).toList (a.toList.drop 0) (b.toList.drop 0):=⟨by simp,by simp,by simpa using sa,by simpa using sb,λx hx=>by simp at hx⟩
 have m1:=pB ha hb m0 h0
 refine wpS_bind (wpS_lift (wpAny_rule ⟨rfl,?_⟩))
 refine wpS_bind (jG (getElem?_pos b 0 hb) ?_)
 dsimp only
 by_cases e1:1=b.size
 ·rw[if_pos (by simp[<- e1])]
  exact wpS_pure (h _ (gallopOf st) (DK m1 (.inl e1)).1 (DK m1 (.inl e1)).2)
 rw[if_neg (by simpa using e1)]
 by_cases e2:0 + 1=a.size
 ·rw[if_pos (by simp[<- e2])]
  exact wpS_pure (h _ (gallopOf st) (fin2 m1 e2).1 (fin2 m1 e2).2)
 rw[if_neg (by simpa using e2)]
 refine wpS_bind (wpS_get ?_)
 refine wpS_bind (wpS_mono (wpS_forRange (I:=λx c st'=>∃ out ia ib mg g,c=(none,out,ia,ib,mg)/\st'=setG st g/\MI r (a.toList++b.toList) out.toList (a.toList.drop ia) (b.toList.drop ib)/\ia + 1 < a.size/\ib < b.size/\x < ia + ib)
  (Q:=λc st'=>∃ res g t,c=(some res,t)/\st'=setG st g/\res.toList.Perm (a.toList++b.toList)/\Fk r res.toList) ?_ ?_ ⟨_,_,_,_,gallopOf st,rfl,rfl,m1,by lia,by lia,by lia⟩) ?_)
 ·rintro x c st' _ hx ⟨out,ia,ib,mg,g,rfl,rfl,m,h1,h2,h3⟩
  dsimp only
  refine wpS_bind (wpS_mono (wpS_forRange (I:=λy c st''=>∃ out ja jb ac bc,c=(none,out,ja,jb,ac,bc)/\st''=setG st g/\MI r (a.toList++b.toList) out.toList (a.toList.drop ja) (b.toList.drop jb)/\ja + 1 < a.size/\jb < b.size/\ia + ib + y<=ja + jb)
   (Q:=λc st''=>st''=setG st g/\((∃ res t,c=(some res,t)/\res.toList.Perm (a.toList++b.toList)/\Fk r res.toList)∨∃ out ja jb ac bc,c=(none,out,ja,jb,ac,bc)/\MI r (a.toList++b.toList) out.toList (a.toList.drop ja) (b.toList.drop jb)/\ja + 1 < a.size/\jb < b.size/\ia + ib < ja + jb)) ?_ ?_ ⟨_,_,_,_,_,rfl,rfl,m,h1,h2,by lia⟩) ?_)
  ·rintro y c st'' _ hy ⟨out,ja,jb,ac,bc,rfl,rfl,m,h1,h2,h3⟩
   dsimp only
   refine wpS_bind (jG (getElem?_pos b jb h2) (wpS_bind (jG (getElem?_pos a ja (by lia)) (wpS_bind (wlt hc hk (mb _ (bI _)) (ma _ (bI _)) ?_)))))
   dsimp only
   by_cases hlt:r b[jb] < r a[ja]
   ·rw[if_pos (decide_eq_true hlt)]
    have m':=pB (by lia) h2 m (by lia)
    refine wpS_bind (jG (getElem?_pos b jb h2) ?_)
    by_cases e:jb + 1=b.size
    ·rw[if_pos (by simp[e])]
     exact wpS_pure ⟨rfl,.inl ⟨_,_,rfl,DK m' (.inl e)⟩⟩
    rw[if_neg (by simpa using e)]
    by_cases e3:bc + 1 ≥ mg
    ·rw[if_pos e3]
     exact wpS_pure ⟨rfl,.inr ⟨_,_,_,_,_,rfl,m',h1,by lia,by lia⟩⟩
    ·rw[if_neg e3]
     exact wpS_pure ⟨_,_,_,_,_,rfl,rfl,m',h1,by lia,by lia⟩
   ·rw[if_neg (by simpa using hlt)]
    have m':=pA (by lia) h2 m (by lia)
    refine wpS_bind (jG (getElem?_pos a ja (by lia)) ?_)
    by_cases e:ja + 1 + 1=a.size
    ·rw[if_pos (by simp[e])]
     exact wpS_pure ⟨rfl,.inl ⟨_,_,rfl,fin2 m' e⟩⟩
    rw[if_neg (by simpa using e)]
    by_cases e3:ac + 1 ≥ mg
    ·rw[if_pos e3]
     exact wpS_pure ⟨rfl,.inr ⟨_,_,_,_,_,rfl,m',by lia,by lia,by lia⟩⟩
    ·rw[if_neg e3]
     exact wpS_pure ⟨_,_,_,_,_,rfl,rfl,m',by lia,by lia,by lia⟩
  ·rintro c st'' ⟨out,ja,jb,ac,bc,rfl,rfl,m,h1,h2,h3⟩
   lia
  rintro c st'' ⟨rfl,⟨res,t,rfl,p1,p2⟩ | ⟨out,ja,jb,ac,bc,rfl,m,h1,h2,h3'⟩⟩
  ·exact wpS_pure ⟨_,_,_,rfl,rfl,p1,p2⟩
  dsimp only
  refine wpS_bind (wpS_lift (wpAny_rule ⟨rfl,?_⟩))
  refine wpS_bind (wpS_mono (wpS_forRange (I:=λy c st''=>∃ out ka kb mg ac bc g,c=(none,out,ka,kb,mg,ac,bc)/\st''=setG st g/\MI r (a.toList++b.toList) out.toList (a.toList.drop ka) (b.toList.drop kb)/\ka + 1 < a.size/\kb < b.size/\ja + jb<=ka + kb)
   (Q:=λc st''=>∃ g,st''=setG st g/\((∃ res t,c=(some res,t)/\res.toList.Perm (a.toList++b.toList)/\Fk r res.toList)∨∃ out ka kb mg ac bc,c=(none,out,ka,kb,mg,ac,bc)/\MI r (a.toList++b.toList) out.toList (a.toList.drop ka) (b.toList.drop kb)/\ka + 1 < a.size/\kb < b.size/\ja + jb<=ka + kb)) ?_ ?_ ⟨_,_,_,_,_,_,_,rfl,rfl,m,h1,h2,by lia⟩) ?_)
  ·rintro y c st'' _ hy ⟨out,ka,kb,mg,ac,bc,g,rfl,rfl,m,h1,h2,h3⟩
   dsimp only
   refine acK (α:=Nat) (λK=>by
    by_cases hm:mg > 1
    ·rw[if_pos hm]
     generalize mg - 1=mg'
     exact K mg'
    ·rw[if_neg hm]
     exact K mg) ?_
   intro mg
   refine wpS_bind (wpS_modify (wpS_bind (jG (getElem?_pos b kb h2) (wpS_bind (Ss (st:=setG st mg) hc hk (mb _ (bI _)) (MR ma (by lia)) (QI sa (by lia)) (by lia) λk hk1 hk2 Z3=>?_)))))
   dsimp only
   refine Vd (α:=Array Keyed) (β:=Nat) (C:=λo i=>MI r (a.toList++b.toList) o.toList (a.toList.drop i) (b.toList.drop kb)/\i + 1 < a.size/\ka<=i/\∀ h:i < a.size,r b[kb]<=r a[i]) (λK=>by
    have lo:∀ j,(h:j < k)->r a[ka + j]<=r b[kb]:=λj hj=>by
     have:=hk2 j hj
     rw[nH (by lia)] at this
     simpa [Aw] using this
    have hi:∀ h:ka + k < a.size,r b[kb]<=r a[ka + k]:=λhh=>by
     have:=Z3 k (au _) (by lia)
     rw[nH hh] at this
     simp[Aw] at this
     lia
    have m':=tA (by lia) h2 m lo
    by_cases hk0:k > 0
    ·rw[if_pos hk0]
     by_cases e:ka + k + 1=a.size
     ·rw[if_pos (by simp[e])]
      exact wpS_pure ⟨_,rfl,.inl ⟨_,_,rfl,fin2 m' e⟩⟩
     rw[if_neg (by simpa using e)]
     by_cases e:ka + k=a.size
     ·rw[if_pos (by simp[e])]
      exact wpS_pure ⟨_,rfl,.inl ⟨_,_,rfl,DK m' (.inr e)⟩⟩
     rw[if_neg (by simpa using e)]
     have hk':ka<=ka + k:=by lia
     have Ve:ka + k + 1 < a.size:=by lia
     generalize out++a.extract ka (ka + k)=out' at m' ⊢
     generalize ka + k=ka' at m' hi hk' Ve ⊢
     exact K out' ka' ⟨m',Ve,hk',hi⟩
    ·rw[if_neg hk0]
     obtain rfl:k=0:=by lia
     exact K out ka ⟨m,h1,au _,hi⟩) ?_
   rintro out ia ⟨m,h1,agd,hge⟩
   have m':=pB (by lia) h2 m (hge (by lia))
   refine wpS_bind (jG (getElem?_pos b kb h2) ?_)
   by_cases e:kb + 1=b.size
   ·rw[if_pos (by simp[e])]
    exact wpS_pure ⟨_,rfl,.inl ⟨_,_,rfl,DK m' (.inl e)⟩⟩
   rw[if_neg (by simpa using e)]
   refine wpS_bind (jG (getElem?_pos a ia (by lia)) (wpS_bind (Ss (st:=setG st mg) hc hk (ma _ (bI _)) (MR mb (by lia)) (QI sb (by lia)) (by lia) λk2 hj1 hj2 hj3=>?_)))
   dsimp only
   generalize out.push b[kb]=out at m' ⊢
   refine Vd (α:=Array Keyed) (β:=Nat) (C:=λo i=>MI r (a.toList++b.toList) o.toList (a.toList.drop ia) (b.toList.drop i)/\kb + 1<=i/\i < b.size/\∀ h:i < b.size,r a[ia]<=r b[i]) (λK=>by
    have lo:∀ j,(h:j < k2)->r b[kb + 1 + j]<=r a[ia]:=λj hj=>by
     have:=hj2 j hj
     rw[nH (by lia)] at this
     simp[Aw] at this
     lia
    have hi:∀ h:kb + 1 + k2 < b.size,r a[ia]<=r b[kb + 1 + k2]:=λhh=>by
     have:=hj3 k2 (au _) (by lia)
     rw[nH hh] at this
     simpa [Aw] using this
    have Xa:=tB (by lia) (by lia) m' lo
    by_cases hk0:k2 > 0
    ·rw[if_pos hk0]
     by_cases e:kb + 1 + k2=b.size
     ·rw[if_pos (by simp[e])]
      exact wpS_pure ⟨_,rfl,.inl ⟨_,_,rfl,DK Xa (.inl e)⟩⟩
     rw[if_neg (by simpa using e)]
     have hk':kb + 1<=kb + 1 + k2:=by lia
     have Ve:kb + 1 + k2 < b.size:=by lia
     generalize out++b.extract (kb + 1) (kb + 1 + k2)=out' at Xa ⊢
     generalize kb + 1 + k2=kb' at Xa hi hk' Ve ⊢
     exact K out' kb' ⟨Xa,hk',Ve,hi⟩
    ·rw[if_neg hk0]
     obtain rfl:k2=0:=by lia
     exact K out (kb + 1) ⟨m',au _,by lia,hi⟩) ?_
   rintro out ib ⟨m,hb1,hb2,hge⟩
   have m':=pA (by lia) hb2 m (hge hb2)
   refine wpS_bind (jG (getElem?_pos a ia (by lia)) ?_)
   by_cases e:ia + 1 + 1=a.size
   ·rw[if_pos (by simp[e])]
    exact wpS_pure ⟨_,rfl,.inl ⟨_,_,rfl,fin2 m' e⟩⟩
   rw[if_neg (by simpa using e)]
   by_cases e7:(decide (k < 7) && decide (k2 < 7))=true
   ·rw[if_pos e7]
    exact wpS_pure ⟨_,rfl,.inr ⟨_,_,_,_,_,_,rfl,m',by lia,by lia,by lia⟩⟩
   ·rw[if_neg e7]
    exact wpS_pure ⟨_,_,_,_,_,_,_,rfl,rfl,m',by lia,by lia,by lia⟩
  ·rintro c st'' ⟨out,ka,kb,mg,ac,bc,g,rfl,rfl,m,h1,h2,h3⟩
   exact⟨_,rfl,.inr ⟨_,_,_,_,_,_,rfl,m,h1,h2,h3⟩⟩
  rintro c st'' ⟨g,rfl,⟨res,t,rfl,p1,p2⟩ | ⟨out,ka,kb,mg,ac,bc,rfl,m,h1,h2,h3'⟩⟩
  ·exact wpS_pure ⟨_,_,_,rfl,rfl,p1,p2⟩
  dsimp only
  exact wpS_bind (wpS_modify (wpS_pure ⟨_,_,_,_,_,rfl,rfl,m,h1,h2,by lia⟩))
 ·rintro c st' ⟨out,ia,ib,mg,g,rfl,rfl,m,h1,h2,h3⟩
  lia
 ·rintro c st' ⟨res,g,t,rfl,rfl,p1,p2⟩
  exact wpS_pure (h _ _ p1 p2)
theorem gh{a:Array Keyed}{i:Nat}(h0:0 < i)(h:i<=a.size):(a.toList.take i).reverse=a[i - 1] :: (a.toList.take (i - 1)).reverse:=by
 obtain⟨j,rfl⟩ : ∃ j,i=j + 1:=⟨i - 1,by lia⟩
 rw[fH (by rw[aN]; lia),j4]
 simp
theorem EN{a:Array Keyed}{i j:Nat}(h:i<=j):(a.toList.take j).reverse=((a.extract i j).reverse).toList++(a.toList.take i).reverse:=by
 rw[Array.toList_reverse,<- j4,Array.toList_extract,oY]
 congr 1
 rw[show j=i + (j - i) by lia,List.take_add,show i + (j - i) - i=j - i by lia]
theorem CG{a:Array Keyed}{i:Nat}:(a.extract 0 i).toList=a.toList.take i:=by
 rw[Array.toList_extract,oY]; simp
theorem MS{a:Array Keyed}{i k:Nat}{x:Keyed}(h:x∈((a.extract i k).reverse).toList)(hk:k<=a.size):∃ j,∃ h:j < k,i<=j/\x=a[j]:=by
 have h:x∈a.extract i k:=Array.mem_reverse.mp (gB.mp h)
 obtain⟨j,hj,e⟩:=Array.mem_iff_getElem.mp h
 rw[lO] at hj
 exact⟨i + j,by lia,by lia,by rw[<- e,fX]⟩
theorem Ll{T l:List Keyed}(h:l.Perm T/\l.Pairwise λx y=>-r x<=-r y):l.reverse.Perm T/\Fk r l.reverse :=
 ⟨(List.reverse_perm l).trans h.1,List.pairwise_reverse.mpr (h.2.imp λz=>by lia)⟩
theorem age{st:SortSt}{a b:Array Keyed}{Q:Array Keyed->SortSt->Prop}(hc:Sq prog w A s κ a₀ r)(hk:kindOf st=κ)(ma:∀ x∈a,x∈a₀)(mb:∀ x∈b,x∈a₀)(sa:Fk r a.toList)(sb:Fk r b.toList)
 (ha:0 < a.size) (hb:0 < b.size) (h0:∀ x∈a,r b[0]<=r x) (hl:r b[b.size - 1]<=r a[a.size - 1])
 (h:∀ out g,out.toList.Perm (a.toList++b.toList)->Fk r out.toList->Q out (setG st g)):wpS (model prog w) A E s (Va a b) Q st:=by
 have DK:∀ {out:Array Keyed} {na nb:Nat},MI (λx=>-r x) (a.toList++b.toList) out.toList (a.toList.take na).reverse (b.toList.take nb).reverse->(nb=0∨na=0)->(a.extract 0 na++b.extract 0 nb++out.reverse).toList.Perm (a.toList++b.toList)/\Fk r (a.extract 0 na++b.extract 0 nb++out.reverse).toList:=λ{out na nb} m e=>by
  rw[cF,cF,CG,CG,Array.toList_reverse]
  rcases e with e | e
  ·subst e
   have:=Ll m.fin
   rw[j4,List.reverse_reverse] at this
   simpa using this
  ·subst e
   have:=Ll m.swap.fin
   rw[j4,List.reverse_reverse] at this
   simpa using this
 have fin2:∀ {out:Array Keyed} {na nb:Nat},MI (λx=>-r x) (a.toList++b.toList) out.toList (a.toList.take na).reverse (b.toList.take nb).reverse->nb=1->(b.extract 0 nb++a.extract 0 na++out.reverse).toList.Perm (a.toList++b.toList)/\Fk r (b.extract 0 nb++a.extract 0 na++out.reverse).toList:=λ{out na nb} m e=>by
  rw[cF,cF,CG,CG,Array.toList_reverse]
  subst e
  have e1:(b.toList.take 1).reverse = [b[0]]:=by rw[gh (by lia) hb]; simp
  have e2:b.toList.take 1 = [b[0]]:=by rw[<- List.reverse_reverse (b.toList.take 1),e1]; rfl
  rw[e1] at m
  rw[e2]
  have:=Ll (m.swap.last λy hy=>Int.neg_le_neg (h0 y (by simpa using List.mem_of_mem_take (List.mem_reverse.mp hy))))
  rw[j4,j4,List.reverse_reverse] at this
  simpa using this
 have pB:∀ {out:Array Keyed} {na nb:Nat} (h1:0 < na) (Bp:na<=a.size) (h2:0 < nb) (h2':nb<=b.size),MI (λx=>-r x) (a.toList++b.toList) out.toList (a.toList.take na).reverse (b.toList.take nb).reverse->r a[na - 1]<=r b[nb - 1]->MI (λx=>-r x) (a.toList++b.toList) (out.push b[nb - 1]).toList (a.toList.take na).reverse (b.toList.take (nb - 1)).reverse:=λ{out na nb} h1 Bp h2 h2' m e=>by
  rw[gh h1 Bp,gh h2 h2'] at m
  rw[uE,gh h1 Bp]
  exact (m.swap.a (Int.neg_le_neg e)).swap
 have pA:∀ {out:Array Keyed} {na nb:Nat} (h1:0 < na) (Bp:na<=a.size) (h2:0 < nb) (h2':nb<=b.size),MI (λx=>-r x) (a.toList++b.toList) out.toList (a.toList.take na).reverse (b.toList.take nb).reverse->r b[nb - 1]<=r a[na - 1]->MI (λx=>-r x) (a.toList++b.toList) (out.push a[na - 1]).toList (a.toList.take (na - 1)).reverse (b.toList.take nb).reverse:=λ{out na nb} h1 Bp h2 h2' m e=>by
  rw[gh h1 Bp,gh h2 h2'] at m
  rw[uE,gh h2 h2']
  exact m.a (Int.neg_le_neg e)
 have tA:∀ {out:Array Keyed} {na nb k:Nat} (h1:k<=na) (Bp:na<=a.size) (h2:0 < nb) (h2':nb<=b.size),MI (λx=>-r x) (a.toList++b.toList) out.toList (a.toList.take na).reverse (b.toList.take nb).reverse->(∀ j,k<=j->(h:j < na)->r b[nb - 1]<=r a[j])->MI (λx=>-r x) (a.toList++b.toList) (out++(a.extract k na).reverse).toList (a.toList.take k).reverse (b.toList.take nb).reverse:=λ{out na nb k} h1 Bp h2 h2' m e=>by
  rw[EN h1,gh h2 h2'] at m
  rw[cF,gh h2 h2']
  refine m.as λx hx=>?_
  obtain⟨j,hj,hj2,rfl⟩:=MS hx Bp
  exact Int.neg_le_neg (e j hj2 hj)
 have tB:∀ {out:Array Keyed} {na nb k:Nat} (h1:0 < na) (Bp:na<=a.size) (h2:k<=nb) (h2':nb<=b.size),MI (λx=>-r x) (a.toList++b.toList) out.toList (a.toList.take na).reverse (b.toList.take nb).reverse->(∀ j,k<=j->(h:j < nb)->r a[na - 1]<=r b[j])->MI (λx=>-r x) (a.toList++b.toList) (out++(b.extract k nb).reverse).toList (a.toList.take na).reverse (b.toList.take k).reverse:=λ{out na nb k} h1 Bp h2 h2' m e=>by
  rw[EN (a:=b) h2,gh h1 Bp] at m
  rw[cF,gh h1 Bp]
  refine (m.swap.as λx hx=>?_).swap
  obtain⟨j,hj,hj2,rfl⟩:=MS hx h2'
  exact Int.neg_le_neg (e j hj2 hj)
 have m0:MI (λx=>-r x) (a.toList++b.toList) (#[]:Array Keyed).toList (a.toList.take a.size).reverse (b.toList.take b.size).reverse:=by
  rw[fM (by simp),fM (by simp)]
  exact⟨by simpa using (List.reverse_perm _).append (List.reverse_perm _),by simp,List.pairwise_reverse.mpr (sa.imp λz=>by lia),List.pairwise_reverse.mpr (sb.imp λz=>by lia),λx hx=>by simp at hx⟩
 have m1:=pA ha (au _) hb (au _) m0 hl
 refine wpS_bind (wpS_lift (wpAny_rule ⟨rfl,?_⟩))
 refine wpS_bind (jG (getElem?_pos a (a.size - 1) (by lia)) ?_)
 dsimp only
 by_cases e1:a.size - 1=0
 ·rw[if_pos (by simp[e1])]
  exact wpS_pure (h _ (gallopOf st) (DK m1 (.inr e1)).1 (DK m1 (.inr e1)).2)
 rw[if_neg (by simpa using e1)]
 by_cases e2:b.size=1
 ·rw[if_pos (by simp[e2])]
  exact wpS_pure (h _ (gallopOf st) (fin2 m1 e2).1 (fin2 m1 e2).2)
 rw[if_neg (by simpa using e2)]
 refine wpS_bind (wpS_get ?_)
 refine wpS_bind (wpS_mono (wpS_forRange (I:=λx c st'=>∃ na nb out mg g,c=(none,na,nb,out,mg)/\st'=setG st g/\MI (λx=>-r x) (a.toList++b.toList) out.toList (a.toList.take na).reverse (b.toList.take nb).reverse/\0 < na/\na<=a.size/\1 < nb/\nb<=b.size/\na + nb + x < a.size + b.size)
  (Q:=λc st'=>∃ res g t,c=(some res,t)/\st'=setG st g/\res.toList.Perm (a.toList++b.toList)/\Fk r res.toList) ?_ ?_ ⟨_,_,_,_,gallopOf st,rfl,rfl,m1,by lia,by lia,by lia,by lia,by lia⟩) ?_)
 ·rintro x c st' _ hx ⟨na,nb,out,mg,g,rfl,rfl,m,h1,Bp,h2,h2',h3⟩
  dsimp only
  refine wpS_bind (wpS_mono (wpS_forRange (I:=λy c st''=>∃ ja jb out ac bc,c=(none,ja,jb,out,ac,bc)/\st''=setG st g/\MI (λx=>-r x) (a.toList++b.toList) out.toList (a.toList.take ja).reverse (b.toList.take jb).reverse/\0 < ja/\ja<=a.size/\1 < jb/\jb<=b.size/\ja + jb + y<=na + nb)
   (Q:=λc st''=>st''=setG st g/\((∃ res t,c=(some res,t)/\res.toList.Perm (a.toList++b.toList)/\Fk r res.toList)∨∃ ja jb out ac bc,c=(none,ja,jb,out,ac,bc)/\MI (λx=>-r x) (a.toList++b.toList) out.toList (a.toList.take ja).reverse (b.toList.take jb).reverse/\0 < ja/\ja<=a.size/\1 < jb/\jb<=b.size/\ja + jb < na + nb)) ?_ ?_ ⟨_,_,_,_,_,rfl,rfl,m,h1,Bp,h2,h2',by lia⟩) ?_)
  ·rintro y c st'' _ hy ⟨ja,jb,out,ac,bc,rfl,rfl,m,h1,Bp,h2,h2',h3⟩
   dsimp only
   refine wpS_bind (jG (getElem?_pos b (jb - 1) (by lia)) (wpS_bind (jG (getElem?_pos a (ja - 1) (by lia)) (wpS_bind (wlt hc hk (mb _ (bI _)) (ma _ (bI _)) ?_)))))
   dsimp only
   by_cases hlt:r b[jb - 1] < r a[ja - 1]
   ·rw[if_pos (decide_eq_true hlt)]
    have m':=pA h1 Bp (by lia) h2' m (by lia)
    refine wpS_bind (jG (getElem?_pos a (ja - 1) (by lia)) ?_)
    by_cases e:ja - 1=0
    ·rw[if_pos (by simp[e])]
     exact wpS_pure ⟨rfl,.inl ⟨_,_,rfl,DK m' (.inr e)⟩⟩
    rw[if_neg (by simpa using e)]
    by_cases e3:ac + 1 ≥ mg
    ·rw[if_pos e3]
     exact wpS_pure ⟨rfl,.inr ⟨_,_,_,_,_,rfl,m',by lia,by lia,h2,h2',by lia⟩⟩
    ·rw[if_neg e3]
     exact wpS_pure ⟨_,_,_,_,_,rfl,rfl,m',by lia,by lia,h2,h2',by lia⟩
   ·rw[if_neg (by simpa using hlt)]
    have m':=pB h1 Bp (by lia) h2' m (by lia)
    refine wpS_bind (jG (getElem?_pos b (jb - 1) (by lia)) ?_)
    by_cases e:jb - 1=1
    ·rw[if_pos (by simp[e])]
     exact wpS_pure ⟨rfl,.inl ⟨_,_,rfl,fin2 m' e⟩⟩
    rw[if_neg (by simpa using e)]
    by_cases e3:bc + 1 ≥ mg
    ·rw[if_pos e3]
     exact wpS_pure ⟨rfl,.inr ⟨_,_,_,_,_,rfl,m',h1,Bp,by lia,by lia,by lia⟩⟩
    ·rw[if_neg e3]
     exact wpS_pure ⟨_,_,_,_,_,rfl,rfl,m',h1,Bp,by lia,by lia,by lia⟩
  ·rintro c st'' ⟨ja,jb,out,ac,bc,rfl,rfl,m,h1,Bp,h2,h2',h3⟩
   lia
  rintro c st'' ⟨rfl,⟨res,t,rfl,p1,p2⟩ | ⟨ja,jb,out,ac,bc,rfl,m,h1,Bp,h2,h2',h3'⟩⟩
  ·exact wpS_pure ⟨_,_,_,rfl,rfl,p1,p2⟩
  dsimp only
  refine wpS_bind (wpS_lift (wpAny_rule ⟨rfl,?_⟩))
  refine wpS_bind (wpS_mono (wpS_forRange (I:=λy c st''=>∃ ka kb out mg ac bc g,c=(none,ka,kb,out,mg,ac,bc)/\st''=setG st g/\MI (λx=>-r x) (a.toList++b.toList) out.toList (a.toList.take ka).reverse (b.toList.take kb).reverse/\0 < ka/\ka<=a.size/\1 < kb/\kb<=b.size/\ka + kb<=ja + jb)
   (Q:=λc st''=>∃ g,st''=setG st g/\((∃ res t,c=(some res,t)/\res.toList.Perm (a.toList++b.toList)/\Fk r res.toList)∨∃ ka kb out mg ac bc,c=(none,ka,kb,out,mg,ac,bc)/\MI (λx=>-r x) (a.toList++b.toList) out.toList (a.toList.take ka).reverse (b.toList.take kb).reverse/\0 < ka/\ka<=a.size/\1 < kb/\kb<=b.size/\ka + kb<=ja + jb)) ?_ ?_ ⟨_,_,_,_,_,_,_,rfl,rfl,m,h1,Bp,h2,h2',by lia⟩) ?_)
  ·rintro y c st'' _ hy ⟨ka,kb,out,mg,ac,bc,g,rfl,rfl,m,h1,Bp,h2,h2',h3⟩
   dsimp only
   refine acK (α:=Nat) (λK=>by
    by_cases hm:mg > 1
    ·rw[if_pos hm]
     generalize mg - 1=mg'
     exact K mg'
    ·rw[if_neg hm]
     exact K mg) ?_
   intro mg
   refine wpS_bind (wpS_modify (wpS_bind (jG (getElem?_pos b (kb - 1) (by lia)) (wpS_bind (Ss (st:=setG st mg) hc hk (mb _ (bI _)) (MR ma (by lia)) (QI sa (by lia)) (by lia) λk hk1 hk2 Z3=>?_)))))
   dsimp only
   refine Vd (α:=Array Keyed) (β:=Nat) (C:=λo i=>MI (λx=>-r x) (a.toList++b.toList) o.toList (a.toList.take i).reverse (b.toList.take kb).reverse/\0 < i/\i<=ka/\∀ (h:0 < i) (h':i<=a.size),r a[i - 1]<=r b[kb - 1]) (λK=>by
    have lo:∀ j,k<=j->(h:j < ka)->r b[kb - 1]<=r a[j]:=λj hj hj'=>by
     have:=Z3 j hj hj'
     rw[nH (by lia)] at this
     simp[Aw] at this
     lia
    have hi:∀ (h:0 < k) (h':k<=a.size),r a[k - 1]<=r b[kb - 1]:=λhh hh'=>by
     have:=hk2 (k - 1) (by lia)
     rw[nH (by lia)] at this
     simpa [Aw] using this
    have m':=tA hk1 Bp (by lia) h2' m lo
    by_cases hk0:ka - k > 0
    ·rw[if_pos hk0]
     by_cases e:k=0
     ·rw[if_pos (by simp[e])]
      exact wpS_pure ⟨_,rfl,.inl ⟨_,_,rfl,DK m' (.inr e)⟩⟩
     rw[if_neg (by simpa using e)]
     generalize out++(a.extract k ka).reverse=out' at m' ⊢
     have aae:0 < k:=by lia
     obtain⟨k',hkk⟩ : ∃ k',k'=k:=⟨_,rfl⟩
     rw[<- hkk]
     exact K out' k' ⟨hkk ▸ m',hkk ▸ aae,hkk ▸ hk1,hkk ▸ hi⟩
    ·rw[if_neg hk0]
     have e:k=ka:=by lia
     subst e
     exact K out k ⟨m,h1,au _,hi⟩) ?_
   rintro out ia ⟨m,h1,agd,hge⟩
   have m':=pB h1 (by lia) (by lia) h2' m (hge h1 (by lia))
   refine wpS_bind (jG (getElem?_pos b (kb - 1) (by lia)) ?_)
   by_cases e:kb - 1=1
   ·rw[if_pos (by simp[e])]
    exact wpS_pure ⟨_,rfl,.inl ⟨_,_,rfl,fin2 m' e⟩⟩
   rw[if_neg (by simpa using e)]
   refine wpS_bind (jG (getElem?_pos a (ia - 1) (by lia)) (wpS_bind (Ss (st:=setG st mg) hc hk (ma _ (bI _)) (MR mb (by lia)) (QI sb (by lia)) (by lia) λk2 hj1 hj2 hj3=>?_)))
   dsimp only
   generalize out.push b[kb - 1]=out at m' ⊢
   refine Vd (α:=Array Keyed) (β:=Nat) (C:=λo i=>MI (λx=>-r x) (a.toList++b.toList) o.toList (a.toList.take ia).reverse (b.toList.take i).reverse/\1 < i/\i<=kb - 1/\∀ (h:0 < i) (h':i<=b.size),r b[i - 1]<=r a[ia - 1]) (λK=>by
    have lo:∀ j,k2<=j->(h:j < kb - 1)->r a[ia - 1]<=r b[j]:=λj hj hj'=>by
     have:=hj3 j hj hj'
     rw[nH (by lia)] at this
     simpa [Aw] using this
    have hi:∀ (h:0 < k2) (h':k2<=b.size),r b[k2 - 1]<=r a[ia - 1]:=λhh hh'=>by
     have:=hj2 (k2 - 1) (by lia)
     rw[nH (by lia)] at this
     simp[Aw] at this
     lia
    have Xa:=tB h1 (by lia) hj1 (by lia) m' lo
    by_cases hk0:kb - 1 - k2 > 0
    ·rw[if_pos hk0]
     by_cases e:k2=1
     ·rw[if_pos (by simp[e])]
      exact wpS_pure ⟨_,rfl,.inl ⟨_,_,rfl,fin2 Xa e⟩⟩
     rw[if_neg (by simpa using e)]
     by_cases e:k2=0
     ·rw[if_pos (by simp[e])]
      exact wpS_pure ⟨_,rfl,.inl ⟨_,_,rfl,DK Xa (.inl e)⟩⟩
     rw[if_neg (by simpa using e)]
     generalize out++(b.extract k2 (kb - 1)).reverse=out' at Xa ⊢
     have aae:1 < k2:=by lia
     obtain⟨k',hkk⟩ : ∃ k',k'=k2:=⟨_,rfl⟩
     rw[<- hkk]
     exact K out' k' ⟨hkk ▸ Xa,hkk ▸ aae,hkk ▸ hj1,hkk ▸ hi⟩
    ·rw[if_neg hk0]
     have e4:k2=kb - 1:=by lia
     subst e4
     exact K out (kb - 1) ⟨m',by lia,by lia,hi⟩) ?_
   rintro out ib ⟨m,hb1,hb2,hge⟩
   have m':=pA h1 (by lia) (by lia) (by lia) m (hge (by lia) (by lia))
   refine wpS_bind (jG (getElem?_pos a (ia - 1) (by lia)) ?_)
   by_cases e:ia - 1=0
   ·rw[if_pos (by simp[e])]
    exact wpS_pure ⟨_,rfl,.inl ⟨_,_,rfl,DK m' (.inr e)⟩⟩
   rw[if_neg (by simpa using e)]
   by_cases e7:(decide (ka - ia < 7) && decide (kb - 1 - ib < 7))=true
   ·rw[if_pos e7]
    exact wpS_pure ⟨_,rfl,.inr ⟨_,_,_,_,_,_,rfl,m',by lia,by lia,by lia,by lia,by lia⟩⟩
   ·rw[if_neg e7]
    exact wpS_pure ⟨_,_,_,_,_,_,_,rfl,rfl,m',by lia,by lia,by lia,by lia,by lia⟩
  ·rintro c st'' ⟨ka,kb,out,mg,ac,bc,g,rfl,rfl,m,h1,Bp,h2,h2',h3⟩
   exact⟨_,rfl,.inr ⟨_,_,_,_,_,_,rfl,m,h1,Bp,h2,h2',h3⟩⟩
  rintro c st'' ⟨g,rfl,⟨res,t,rfl,p1,p2⟩ | ⟨ka,kb,out,mg,ac,bc,rfl,m,h1,Bp,h2,h2',h3'⟩⟩
  ·exact wpS_pure ⟨_,_,_,rfl,rfl,p1,p2⟩
  dsimp only
  exact wpS_bind (wpS_modify (wpS_pure ⟨_,_,_,_,_,rfl,rfl,m,h1,Bp,h2,h2',by lia⟩))
 ·rintro c st' ⟨na,nb,out,mg,g,rfl,rfl,m,h1,Bp,h2,h2',h3⟩
  lia
 ·rintro c st' ⟨res,g,t,rfl,rfl,p1,p2⟩
  exact wpS_pure (h _ _ p1 p2)
theorem acL{α:Type}{G:Prop}{C P:α->Prop}(h:(∀ x,C x->P x)->G)(k:∀ x,C x->P x):G:=h k
def Kp(a a':Array Keyed)(lo hi:Nat):Prop:=a'.Perm a/\∀ k,k < lo∨hi<=k->a'[k]?=a[k]?
theorem Kp.refl{a:Array Keyed}{lo hi:Nat}:Kp a a lo hi:=⟨Array.Perm.refl _,λ_ _=>rfl⟩
theorem Kp.trans{a b c:Array Keyed}{lo hi:Nat}(h:Kp a b lo hi)(h':Kp b c lo hi):Kp a c lo hi:=⟨h'.1.trans h.1,λk z=>(h'.2 k z).trans (h.2 k z)⟩
theorem Kp.size{a b:Array Keyed}{lo hi:Nat}(h:Kp a b lo hi):b.size=a.size:=h.1.size_eq
theorem Kp.mem{a b:Array Keyed}{lo hi:Nat}(h:Kp a b lo hi)(m:∀ x∈a,x∈a₀):∀ x∈b,x∈a₀:=λx hx=>m x ((h.1.mem_iff).mp hx)
theorem Lm{a:Array Keyed}{i j lo hi:Nat}(hj:j<=a.size)(h1:lo<=i)(h2:j<=hi):Kp a (mirror a i j ((j - i) / 2)) lo hi:=⟨mirror_perm _ _ _ _,λk z=>by rw[getElem?_mirror_all hj,if_neg (by lia)]⟩
theorem Ln{a:Array Keyed}{i j lo k:Nat}(hj:lo + j<=a.size):fv r (mirror a (lo + i) (lo + j) ((lo + j - (lo + i)) / 2)) lo k=if i<=k/\k < j then fv r a lo (i + j - 1 - k) else fv r a lo k:=by
 unfold fv
 rw[getElem?_mirror_all hj]
 by_cases h:i<=k/\k < j
 ·rw[if_pos h,if_pos (by lia),show lo + i + (lo + j) - 1 - (lo + k)=lo + (i + j - 1 - k) by lia]
 ·rw[if_neg h,if_neg (by lia)]
theorem J3{st:SortSt}{lo i j:Nat}{Q:Option Bool->SortSt->Prop}(hc:Sq prog w A s κ a₀ r)(hk:kindOf st=κ)(m:∀ x∈arrOf st,x∈a₀)(hi:lo + i < (arrOf st).size)(hj:lo + j < (arrOf st).size)
 (h:Q (some (decide (fv r (arrOf st) lo i < fv r (arrOf st) lo j))) st):wpS (model prog w) A E s (ltAt' (lo + i) (lo + j)) Q st:=by
 rw[nH hi,nH hj] at h
 refine wpS_bind (wpS_get (wpS_bind (jG (getElem?_pos (arrOf st) (lo + i) hi) (wpS_bind (jG (getElem?_pos (arrOf st) (lo + j) hj) (wlt hc hk (m _ (bI _)) (m _ (bI _)) h))))))
def Dn(f:Nat->Int)(n:Nat):Prop:=∀ i j,i<=j->j < n->f j<=f i
theorem Up.next{f:Nat->Int}{n:Nat}(h:Up f n)(h1:1<=n)(e:f (n - 1)<=f n):Up f (n + 1):=λi j a b=>by
 by_cases z:j=n
 ·subst z
  by_cases z2:i=j
  ·subst z2; exact j5 _
  ·exact qF (h i (j - 1) (by lia) (by lia)) e
 ·exact h i j a (by lia)
theorem Dn.next{f:Nat->Int}{n:Nat}(h:Dn f n)(h1:1<=n)(e:f n<=f (n - 1)):Dn f (n + 1):=λi j a b=>by
 by_cases z:j=n
 ·subst z
  by_cases z2:i=j
  ·subst z2; exact j5 _
  ·exact qF e (h i (j - 1) (by lia) (by lia))
 ·exact h i j a (by lia)
theorem Up.eq{f g:Nat->Int}{n:Nat}(h:Up f n)(e:∀ i,i < n->g i=f i):Up g n:=λi j a b=>by rw[e i (by lia),e j b]; exact h i j a b
theorem Dn.eq{f g:Nat->Int}{n:Nat}(h:Dn f n)(e:∀ i,i < n->g i=f i):Dn g n:=λi j a b=>by rw[e i (by lia),e j b]; exact h i j a b
theorem acM{st:SortSt}{lo n0 nrem:Nat}{g:Nat->Option (Option Nat) × Nat->StateT SortSt Sem (ForInStep (Option (Option Nat) × Nat))}{R:Option (Option Nat) × Nat->SortSt->Prop}
 (h1:1<=n0) (hn:n0<=nrem) (hu:Up (fv r (arrOf st) lo) n0)
 (g1:∀ x n R,1<=n->n < nrem->R (if fv r (arrOf st) lo n < fv r (arrOf st) lo (n - 1) then .done (none,n) else .yield (none,n + 1)) st->wpS (model prog w) A E s (g x (none,n)) R st)
 (h:∀ n,n0<=n->n<=nrem->Up (fv r (arrOf st) lo) n->(n < nrem->fv r (arrOf st) lo n < fv r (arrOf st) lo (n - 1))->R (none,n) st):wpS (model prog w) A E s (forIn [n0:nrem] (none,n0) g) R st:=by
 refine wpS_forRange (I:=λx c st'=>st'=st/\c=(none,x)/\Up (fv r (arrOf st) lo) x) ?_ ?_ ⟨rfl,rfl,hu⟩
 ·rintro x c st' Yr hx ⟨rfl,rfl,hu⟩
  refine g1 _ _ _ (by lia) hx ?_
  by_cases e:fv r (arrOf st') lo x < fv r (arrOf st') lo (x - 1)
  ·rw[if_pos e]
   exact h x Yr (by lia) hu λ_=>e
  ·rw[if_neg e]
   exact⟨rfl,rfl,hu.next (by lia) (by lia)⟩
 ·rintro c st' ⟨rfl,rfl,hu⟩
  rw[show max n0 nrem=nrem by lia] at hu ⊢
  exact h nrem hn (au _) hu λz=>by lia
theorem aaf{st:SortSt}{lo nrem:Nat}{Q:Option Nat->SortSt->Prop}(hc:Sq prog w A s κ a₀ r)(hk:kindOf st=κ)(m:∀ x∈arrOf st,x∈a₀)(h1:1<=nrem)(hz:lo + nrem<=(arrOf st).size)
 (h:∀ n a,1<=n->n<=nrem->Kp (arrOf st) a lo (lo + nrem)->Up (fv r a lo) n->Q (some n) (setArr st a)):wpS (model prog w) A E s (countRun' lo nrem) Q st:=by
 refine wpS_bind (acM (r:=r) (lo:=lo) (au _) h1 (λi j a b=>by rw[show i=j by lia]; exact j5 _) (λx n R a b k=>?_) λn a b hu hx=>?_)
 ·dsimp only
  rw[show lo + n - 1=lo + (n - 1) by lia]
  refine wpS_bind (J3 hc hk m (by lia) (by lia) ?_)
  dsimp only
  split at k <;> rename_i z
  ·rw[if_pos (decide_eq_true z)]; exact wpS_pure k
  ·rw[if_neg (by simpa using z)]; exact wpS_pure k
 dsimp only
 by_cases e:n=nrem
 ·rw[if_pos (by simp[e])]
  exact wpS_pure (h n _ a b Kp.refl hu)
 rw[if_neg (by simpa using e)]
 have hx:=hx (by lia)
 refine acL (α:=Array Keyed) (C:=λo=>Kp (arrOf st) o lo (lo + nrem)/\Dn (fv r o lo) (n + 1)) (λK=>by
  by_cases hn:n > 1
  ·rw[if_pos hn,show lo + n - 1=lo + (n - 1) by lia]
   refine wpS_bind (J3 (i:=0) hc hk m (by lia) (by lia) ?_)
   dsimp only
   by_cases z:fv r (arrOf st) lo 0 < fv r (arrOf st) lo (n - 1)
   ·rw[if_pos (decide_eq_true z)]
    exact wpS_pure (h n _ a b Kp.refl hu)
   rw[if_neg (by simpa using z)]
   refine wpS_bind (wpS_modify ?_)
   have hkp:Kp (arrOf st) (mirror (arrOf st) lo (lo + n) ((lo + n - lo) / 2)) lo (lo + nrem):=Lm (by lia) (au _) (by lia)
   have hfv:∀ k,fv r (mirror (arrOf st) lo (lo + n) ((lo + n - lo) / 2)) lo k=fv r (arrOf st) lo k:=λk=>by
    have:=Ln (r:=r) (a:=arrOf st) (i:=0) (j:=n) (lo:=lo) (k:=k) (by lia)
    rw[Nat.add_zero] at this
    rw[this]
    split
    ·rename_i y
     have a1:=hu 0 (0 + n - 1 - k) (by lia) (by lia)
     have a2:=hu (0 + n - 1 - k) (n - 1) (by lia) (by lia)
     have a3:=hu 0 k (by lia) (by lia)
     have a4:=hu k (n - 1) (by lia) (by lia)
     lia
    ·rfl
   have hdn:Dn (fv r (mirror (arrOf st) lo (lo + n) ((lo + n - lo) / 2)) lo) (n + 1):=by
    refine Dn.eq (f:=fv r (arrOf st) lo) (Dn.next (λi j c d=>?_) (by lia) (by lia)) λi _=>hfv i
    have a1:=hu 0 i (by lia) (by lia)
    have a2:=hu j (n - 1) (by lia) (by lia)
    have a3:=hu i (n - 1) (by lia) (by lia)
    have a4:=hu 0 j (by lia) (by lia)
    lia
   show wpS _ _ _ _ _ _ (setArr st (mirror (arrOf st) lo (lo + n) ((lo + n - lo) / 2)))
   generalize mirror (arrOf st) lo (lo + n) ((lo + n - lo) / 2)=o at hkp hdn ⊢
   exact K o ⟨hkp,hdn⟩
  ·rw[if_neg hn]
   have e1:n=1:=by lia
   have:Dn (fv r (arrOf st) lo) (n + 1):=Dn.next (λi j c d=>by rw[show i=j by lia]; exact j5 _) (by lia) (by lia)
   have key:=K (arrOf st) ⟨Kp.refl,this⟩
   exact key) ?_
 rintro o ⟨hkp,hdn⟩
 refine wpS_bind (wpS_lift (wpAny_rule ⟨rfl,?_⟩))
 have hsz:∀ {o:Array Keyed},Kp (arrOf st) o lo (lo + nrem)->o.size=(arrOf st).size:=λz=>z.size
 refine wpS_bind (wpS_mono (wpS_forRange (I:=λx c st'=>∃ o q,st'=setArr st o/\c=(none,x,q)/\x<=nrem/\q + 1<=x/\Kp (arrOf st) o lo (lo + nrem)/\Dn (fv r o lo) x/\∀ i,x - (q + 1)<=i->i < x->fv r o lo i=fv r o lo (x - 1))
  (Q:=λc st'=>∃ o q x,st'=setArr st o/\c=(none,x,q)/\1<=x/\x<=nrem/\q + 1<=x/\Kp (arrOf st) o lo (lo + nrem)/\Dn (fv r o lo) x/\∀ i,x - (q + 1)<=i->i < x->fv r o lo i=fv r o lo (x - 1)) ?_ ?_ ⟨o,0,rfl,rfl,by lia,by lia,hkp,hdn,λi c d=>by rw[show i=n + 1 - 1 by lia]⟩) ?_)
 ·rintro x c st' Yr hx ⟨o,q,rfl,rfl,hxn,hq,hkp,hdn,heq⟩
  have hs:=hsz hkp
  have hm:∀ x∈arrOf (setArr st o),x∈a₀:=hkp.mem m
  dsimp only
  rw[show lo + x - 1=lo + (x - 1) by lia]
  refine wpS_bind (J3 hc hk hm (by show _ < o.size; lia) (by show _ < o.size; lia) ?_)
  dsimp only
  by_cases z:fv r o lo x < fv r o lo (x - 1)
  ·rw[if_pos (decide_eq_true z)]
   by_cases Xb:q > 0
   ·rw[if_pos Xb]
    refine wpS_bind (wpS_modify (wpS_pure ?_))
    have e1:lo + x - (q + 1)=lo + (x - (q + 1)):=by lia
    have hfv:∀ k,fv r (mirror o (lo + (x - (q + 1))) (lo + x) ((lo + x - (lo + (x - (q + 1)))) / 2)) lo k=fv r o lo k:=λk=>by
     rw[Ln (by lia)]
     split
     ·rw[heq _ (by lia) (by lia),heq k (by lia) (by lia)]
     ·rfl
    refine⟨mirror o (lo + x - (q + 1)) (lo + x) ((lo + x - (lo + x - (q + 1))) / 2),0,rfl,rfl,by lia,by lia,hkp.trans (Lm (by lia) (by lia) (by lia)),?_,λi c d=>by rw[show i=x + 1 - 1 by lia]⟩
    rw[e1]
    exact (hdn.next (by lia) (by lia)).eq λi _=>hfv i
   ·rw[if_neg Xb]
    exact wpS_pure ⟨o,0,rfl,rfl,by lia,by lia,hkp,hdn.next (by lia) (by lia),λi c d=>by rw[show i=x + 1 - 1 by lia]⟩
  ·rw[if_neg (by simpa using z)]
   refine wpS_bind (J3 hc hk hm (by show _ < o.size; lia) (by show _ < o.size; lia) ?_)
   dsimp only
   by_cases z2:fv r o lo (x - 1) < fv r o lo x
   ·rw[if_pos (decide_eq_true z2)]
    exact wpS_pure ⟨o,q,x,rfl,rfl,by lia,by lia,hq,hkp,hdn,heq⟩
   ·rw[if_neg (by simpa using z2)]
    refine wpS_pure ⟨o,q + 1,rfl,rfl,by lia,by lia,hkp,hdn.next (by lia) (by lia),λi c d=>?_⟩
    rw[show x + 1 - 1=x by lia]
    by_cases e5:i=x
    ·rw[e5]
    ·rw[heq i (by lia) (by lia)]; lia
 ·rintro c st' ⟨o,q,rfl,rfl,hxn,hq,hkp,hdn,heq⟩
  exact⟨o,q,_,rfl,rfl,by lia,hxn,hq,hkp,hdn,heq⟩
 rintro c st' ⟨o,q,x,rfl,rfl,Yr,hxn,hq,hkp,hdn,heq⟩
 dsimp only
 refine acL (α:=Array Keyed) (C:=λo=>Kp (arrOf st) o lo (lo + nrem)/\Dn (fv r o lo) x) (λK=>by
  have hs:=hsz hkp
  by_cases Xb:q > 0
  ·rw[if_pos Xb]
   refine wpS_bind (wpS_modify ?_)
   have e1:lo + x - (q + 1)=lo + (x - (q + 1)):=by lia
   have hfv:∀ k,fv r (mirror o (lo + (x - (q + 1))) (lo + x) ((lo + x - (lo + (x - (q + 1)))) / 2)) lo k=fv r o lo k:=λk=>by
    rw[Ln (by lia)]
    split
    ·rw[heq _ (by lia) (by lia),heq k (by lia) (by lia)]
    ·rfl
   have Ph:Kp (arrOf st) (mirror o (lo + (x - (q + 1))) (lo + x) ((lo + x - (lo + (x - (q + 1)))) / 2)) lo (lo + nrem):=hkp.trans (Lm (by lia) (by lia) (by lia))
   have acO:=hdn.eq λi (_:i < x)=>hfv i
   show wpS _ _ _ _ _ _ (setArr st (mirror o (lo + x - (q + 1)) (lo + x) ((lo + x - (lo + x - (q + 1))) / 2)))
   rw[e1]
   generalize mirror o (lo + (x - (q + 1))) (lo + x) ((lo + x - (lo + (x - (q + 1)))) / 2)=o' at Ph acO ⊢
   exact K o' ⟨Ph,acO⟩
  ·rw[if_neg Xb]
   exact K o ⟨hkp,hdn⟩) ?_
 rintro o ⟨hkp,hdn⟩
 have hs:=hsz hkp
 refine wpS_bind (wpS_modify ?_)
 have Ph:Kp (arrOf st) (mirror o lo (lo + x) ((lo + x - lo) / 2)) lo (lo + nrem):=hkp.trans (Lm (by lia) (by lia) (by lia))
 have hup:Up (fv r (mirror o lo (lo + x) ((lo + x - lo) / 2)) lo) x:=λi j c d=>by
  have:=λk=>Ln (r:=r) (a:=o) (i:=0) (j:=x) (lo:=lo) (k:=k) (by lia)
  simp only[Nat.add_zero] at this
  rw[this i,this j,if_pos (by lia),if_pos (by lia)]
  exact hdn _ _ (by lia) (by lia)
 show wpS _ _ _ _ _ _ (setArr st (mirror o lo (lo + x) ((lo + x - lo) / 2)))
 generalize mirror o lo (lo + x) ((lo + x - lo) / 2)=o at Ph hup ⊢
 have hs:=hsz Ph
 have hm:∀ x∈arrOf (setArr st o),x∈a₀:=Ph.mem m
 refine wpS_bind (acM (st:=setArr st o) (r:=r) (lo:=lo) Yr hxn hup (λy n R a b k=>?_) λn' a' b' hu' _=>wpS_pure (h n' o (by lia) b' Ph hu'))
 dsimp only
 rw[show lo + n - 1=lo + (n - 1) by lia]
 refine wpS_bind (J3 hc hk hm (by show _ < o.size; lia) (by show _ < o.size; lia) ?_)
 dsimp only
 split at k <;> rename_i z
 ·rw[if_pos (decide_eq_true z)]; exact wpS_pure k
 ·rw[if_neg (by simpa using z)]; exact wpS_pure k
theorem aag{a:Array Keyed}{k l lo hi:Nat}(hs:k < a.size)(h1:lo<=l)(hl:l<=k)(h2:k < hi):Kp a (bubble a k (k - l)) lo hi:=⟨bubble_perm _ _ _,λi z=>by rw[getElem?_bubble hs _ (by lia),if_neg (by lia),if_neg (by lia)]⟩
theorem Vf{a:Array Keyed}{k l lo i:Nat}(hs:lo + k < a.size)(hl:l<=k):fv r (bubble a (lo + k) (lo + k - (lo + l))) lo i=if i=l then fv r a lo k else if l < i/\i<=k then fv r a lo (i - 1) else fv r a lo i:=by
 unfold fv
 rw[getElem?_bubble hs _ (by lia)]
 by_cases e:i=l
 ·rw[if_pos e,if_pos (by lia)]
 ·rw[if_neg e,if_neg (by lia)]
  by_cases e2:l < i/\i<=k
  ·rw[if_pos e2,if_pos (by lia),show lo + i - 1=lo + (i - 1) by lia]
  ·rw[if_neg e2,if_neg (by lia)]
theorem acP{st:SortSt}{lo n ok:Nat}{Q:Bool->SortSt->Prop}(hc:Sq prog w A s κ a₀ r)(hk:kindOf st=κ)(m:∀ x∈arrOf st,x∈a₀)(hn:lo + n<=(arrOf st).size)(hok:ok<=n)(hu:Up (fv r (arrOf st) lo) ok)
 (h:∀ a,Kp (arrOf st) a lo (lo + n)->Up (fv r a lo) n->Q true (setArr st a)):wpS (model prog w) A E s (binarySort' lo n ok) Q st:=by
 refine wpS_bind (wpS_mono (wpS_forRange (I:=λk c st'=>∃ a,st'=setArr st a/\c=(none,())/\Kp (arrOf st) a lo (lo + n)/\Up (fv r a lo) (min k n))
  (Q:=λc st'=>∃ a,st'=setArr st a/\c=(none,())/\Kp (arrOf st) a lo (lo + n)/\Up (fv r a lo) n) ?_ ?_ ⟨arrOf st,rfl,rfl,Kp.refl,λi j c d=>?_⟩) ?_)
 ·rintro k c st' hk1 hkn ⟨a,rfl,rfl,hkp,hu⟩
  rw[show min k n=k by lia] at hu
  have hs:=hkp.size
  have hm:∀ x∈arrOf (setArr st a),x∈a₀:=hkp.mem m
  refine wpS_bind (wpS_mono (wpS_forRange (I:=λx c st'=>st'=setArr st a/\∃ p q,c=(none,p,q)/\p<=q/\q<=k/\q - p<=k - x/\(∀ i,i < p->fv r a lo i<=fv r a lo k)/\∀ i,q<=i->i < k->fv r a lo k < fv r a lo i)
   (Q:=λc st'=>st'=setArr st a/\∃ p,c=(none,p,p)/\p<=k/\(∀ i,i < p->fv r a lo i<=fv r a lo k)/\∀ i,p<=i->i < k->fv r a lo k < fv r a lo i) ?_ ?_ ⟨rfl,0,k,rfl,by lia,by lia,by lia,λi c=>by lia,λi c d=>by lia⟩) ?_)
  ·rintro x c st' _ hx ⟨rfl,p,q,rfl,h1,h2,h3,h4,h5⟩
   dsimp only
   by_cases hge:p ≥ q
   ·rw[if_pos hge]
    have:q=p:=by lia
    subst this
    exact wpS_pure ⟨rfl,q,rfl,h2,h4,h5⟩
   ·rw[if_neg hge]
    refine wpS_bind (J3 hc hk hm (by show _ < a.size; lia) (by show _ < a.size; lia) ?_)
    dsimp only
    by_cases z:fv r a lo k < fv r a lo ((p + q) / 2)
    ·rw[if_pos (decide_eq_true z)]
     refine wpS_pure ⟨rfl,p,_,rfl,by lia,by lia,by lia,h4,λi c d=>?_⟩
     have:=hu ((p + q) / 2) i c d
     lia
    ·rw[if_neg (by simpa using z)]
     refine wpS_pure ⟨rfl,_,q,rfl,by lia,by lia,by lia,λi c=>?_,h5⟩
     have:=hu i ((p + q) / 2) (by lia) (by lia)
     lia
  ·rintro c st' ⟨rfl,p,q,rfl,h1,h2,h3,h4,h5⟩
   have:q=p:=by lia
   subst this
   exact⟨rfl,q,rfl,h2,h4,h5⟩
  ·rintro c st' ⟨rfl,p,rfl,h2,h4,h5⟩
   dsimp only
   refine wpS_bind (wpS_modify (wpS_pure ⟨bubble a (lo + k) (lo + k - (lo + p)),rfl,rfl,hkp.trans (aag (by lia) (by lia) (by lia) (by lia)),?_⟩))
   rw[show min (k + 1) n=k + 1 by lia]
   intro i j hij hj
   rw[Vf (by lia) h2,Vf (by lia) h2]
   repeat' split
   all_goals first
    | (exfalso; lia)
    | exact j5 _
    | exact h4 _ (by lia)
    | exact Int.le_of_lt (h5 _ (by lia) (by lia))
    | exact hu _ _ (by lia) (by lia)
 ·rintro c st' ⟨a,rfl,rfl,hkp,hu⟩
  rw[show min (max (max ok 1) n) n=n by lia] at hu
  exact⟨a,rfl,rfl,hkp,hu⟩
 ·by_cases h1:ok=0
  ·rw[show i=j by lia]; exact j5 _
  ·exact hu i j c (by lia)
 ·rintro c st' ⟨a,rfl,rfl,hkp,hu⟩
  exact wpS_pure (h a hkp hu)
theorem Vg{sa:Nat}:∀ (l:List Keyed) (o:Nat) (a:Array Keyed),sa + o + l.length<=a.size->((l.zipIdx o).foldl (λa (x:Keyed × Nat)=>match x with | (p,j)=>a.setIfInBounds (sa + j) p) a).toList=a.toList.take (sa + o)++l++a.toList.drop (sa + o + l.length)
 | [],o,a,h=>by simp
 | x :: l,o,a,h=>by
  simp only[bE] at h
  rw[List.zipIdx_cons,List.foldl_cons]
  dsimp only
  rw[Vg l (o + 1) _ (by rw[Array.size_setIfInBounds]; lia),Array.toList_setIfInBounds]
  have hl:sa + o < a.toList.length:=by rw[aN]; lia
  rw[List.set_eq_take_append_cons_drop,if_pos hl]
  have ht:(a.toList.take (sa + o)).length=sa + o:=by rw[bO]; lia
  rw[List.take_append,List.drop_append,ht,show sa + (o + 1) - (sa + o)=1 by lia,show sa + (o + 1) + l.length - (sa + o)=l.length + 1 by lia,fM (by rw[ht]; lia),tP (l:=a.toList.take (sa + o)) (by rw[ht]; lia)]
  simp[List.drop_drop]
  congr 1
  lia
theorem Xc{a a' g:Array Keyed}{t:Nat}(h:a'.toList=a.toList.take t++g.toList++a.toList.drop (t + g.size))(ht:t + g.size<=a.size)(p:Nat):a'[p]?=if p < t then a[p]? else if p < t + g.size then g[p - t]? else a[p]?:=by
 have hl:(a.toList.take t).length=t:=by rw[bO,aN]; lia
 rw[<- fY,h,uD]
 by_cases h1:p < t
 ·rw[if_pos h1,bU (by rw[hl]; exact h1),List.getElem?_take_of_lt h1,fY]
 ·rw[if_neg h1,bX (by rw[hl]; lia),hl]
  by_cases h2:p < t + g.size
  ·rw[if_pos h2,bU (by rw[aN]; lia),fY]
  ·rw[if_neg h2,bX (by rw[aN]; lia),aN,List.getElem?_drop,show t + g.size + (p - t - g.size)=p by lia,fY]
theorem Vh{a:Array Keyed}{b n:Nat}(h:Up (fv r a b) n)(hz:b + n<=a.size):Fk r (a.extract b (b + n)).toList:=by
 refine jc.mpr λi j hi hj hij=>?_
 rw[aN,lO] at hi hj
 rw[Array.getElem_toList,Array.getElem_toList,fX,fX]
 have:=h i j (by lia) (by lia)
 rwa [nH (by lia),nH (by lia)] at this
theorem wX{a:Array Keyed}{i j:Nat}{x:Keyed}(h:x∈a.extract i j):∃ p,∃ hp:p < a.size,i<=p/\p < j/\x=a[p]:=by
 obtain⟨q,hq,e⟩:=Array.mem_iff_getElem.mp h
 rw[lO] at hq
 exact⟨i + q,by lia,by lia,by lia,by rw[<- e,fX]⟩
theorem agf{st:SortSt}{i sa na pa sb nb pb:Nat}{Q:Bool->SortSt->Prop}(hc:Sq prog w A s κ a₀ r)(hk:kindOf st=κ)(m:∀ x∈arrOf st,x∈a₀)(hf:failedOf st=none)(e1:(pendingOf st)[i]?=some (sa,na,pa))(e2:(pendingOf st)[i + 1]?=some (sb,nb,pb))
 (hsb:sb=sa + na) (h1:0 < na) (h2:0 < nb) (hz:sb + nb<=(arrOf st).size) (s1:Up (fv r (arrOf st) sa) na) (s2:Up (fv r (arrOf st) sb) nb)
 (h:∀ a g,Kp (arrOf st) a sa (sb + nb)->Up (fv r a sa) (na + nb)->Q true (SortSt.mk' (kindOf st) a (((pendingOf st).setIfInBounds i (sa,na + nb,pa)).eraseIdxIfInBounds (i + 1)) g none)):wpS (model prog w) A E s (mergeAt' i) Q st:=by
 rcases st with ⟨kd,a,pd,g0,fl⟩
 have hf:fl=none:=hf
 subst hf
 have hk:kd=κ:=hk
 have e1:pd[i]?=some (sa,na,pa):=e1
 have e2:pd[i + 1]?=some (sb,nb,pb):=e2
 have m:∀ x∈a,x∈a₀:=m
 have hz:sb + nb<=a.size:=hz
 have s1:Up (fv r a sa) na:=s1
 have s2:Up (fv r a sb) nb:=s2
 have h:∀ a' g,Kp a a' sa (sb + nb)->Up (fv r a' sa) (na + nb)->Q true (SortSt.mk' kd a' ((pd.setIfInBounds i (sa,na + nb,pa)).eraseIdxIfInBounds (i + 1)) g none):=h
 refine wpS_bind (wpS_get ?_)
 dsimp only
 rw[e1,e2]
 dsimp only
 refine wpS_bind (m:=modify λ_=>SortSt.mk' kd a ((pd.setIfInBounds i (sa,na + nb,pa)).eraseIdxIfInBounds (i + 1)) g0 none) (wpS_modify ?_)
 generalize (pd.setIfInBounds i (sa,na + nb,pa)).eraseIdxIfInBounds (i + 1)=pn at h ⊢
 have sl:∀ b n,b + n<=a.size->Sl a₀ a r b n (fv r a b):=λb n hb=>MR m hb
 refine wpS_bind (jG (getElem?_pos a sb (by lia)) (wpS_bind (Ss (st:=SortSt.mk' kd a pn g0 none) hc hk (m _ (bI _)) (sl sa na (by lia)) s1 h1 λk hk1 hk2 Z3=>?_)))
 dsimp only
 have lo:∀ j,j < k->fv r a sa j<=r a[sb]:=λj hj=>by
  have:=hk2 j hj
  simpa [Aw] using this
 have hi:∀ j,k<=j->j < na->r a[sb] < fv r a sa j:=λj hj hj'=>by
  have:=Z3 j hj hj'
  simpa [Aw] using this
 have b0:fv r a sb 0=r a[sb]:=nH (by lia)
 have one:(∀ i,i < na->fv r a sa i<=fv r a sb 0)->Up (fv r a sa) (na + nb):=λz i j hij hj=>by
  have sh:∀ j,na<=j->fv r a sa j=fv r a sb (j - na):=λj hj=>by unfold fv; rw[show sb + (j - na)=sa + j by lia]
  by_cases hi1:i < na
  ·by_cases hj1:j < na
   ·exact s1 i j hij hj1
   ·rw[sh j (by lia)]
    exact qF (z i hi1) (s2 0 _ (by lia) (by lia))
  ·rw[sh i (by lia),sh j (by lia)]
   exact s2 _ _ (by lia) (by lia)
 by_cases ek:na - k=0
 ·rw[if_pos (by simp[ek])]
  exact wpS_pure (h a _ Kp.refl (one λi hi'=>by rw[b0]; exact lo i (by lia)))
 rw[if_neg (by simpa using ek)]
 have el:sa + k + (na - k) - 1=sa + (na - 1):=by lia
 rw[el]
 refine wpS_bind (jG (getElem?_pos a (sa + (na - 1)) (by lia)) (wpS_bind (Ss (st:=SortSt.mk' kd a pn g0 none) hc hk (m _ (bI _)) (sl sb nb (by lia)) s2 (by lia) λk2 hj1 hj2 hj3=>?_)))
 dsimp only
 have la:r a[sa + (na - 1)]=fv r a sa (na - 1):=(nH (by lia)).symm
 rw[la] at hj2 hj3
 have lo2:∀ j,j < k2->fv r a sb j < fv r a sa (na - 1):=λj hj=>by
  have:=hj2 j hj
  simpa [Aw] using this
 have hi2:∀ j,k2<=j->j < nb->fv r a sa (na - 1)<=fv r a sb j:=λj hj hj'=>by
  have:=hj3 j hj hj'
  simpa [Aw] using this
 by_cases ek2:k2=0
 ·rw[if_pos (by simp[ek2])]
  exact wpS_pure (h a _ Kp.refl (one λi hi'=>qF (s1 i (na - 1) (by lia) (by lia)) (hi2 0 (by lia) (by lia))))
 rw[if_neg (by simpa using ek2)]
 have zx:(a.extract (sa + k) sb).size=na - k:=by rw[lO]; lia
 have zy:(a.extract sb (sb + k2)).size=k2:=by rw[lO]; lia
 have mx:∀ x∈a.extract (sa + k) sb,∃ p,k<=p/\p < na/\r x=fv r a sa p:=λx hx=>by
  obtain⟨p,hp,c,d,rfl⟩:=wX hx
  refine⟨p - sa,by lia,by lia,?_⟩
  unfold fv
  rw[show sa + (p - sa)=p by lia,getElem?_pos a p hp]
  rfl
 have my:∀ x∈a.extract sb (sb + k2),∃ p,p < k2/\r x=fv r a sb p:=λx hx=>by
  obtain⟨p,hp,c,d,rfl⟩:=wX hx
  refine⟨p - sb,by lia,?_⟩
  unfold fv
  rw[show sb + (p - sb)=p by lia,getElem?_pos a p hp]
  rfl
 have m1:∀ x∈a.extract (sa + k) sb,x∈a₀:=λx hx=>by obtain⟨p,hp,_,_,rfl⟩:=wX hx; exact m _ (bI _)
 have m2:∀ x∈a.extract sb (sb + k2),x∈a₀:=λx hx=>by obtain⟨p,hp,_,_,rfl⟩:=wX hx; exact m _ (bI _)
 have u1:Up (fv r a (sa + k)) (na - k):=λi j c d=>by
  have:=s1 (k + i) (k + j) (by lia) (by lia)
  unfold fv at *
  rwa [<- Nat.add_assoc,<- Nat.add_assoc] at this
 have t1:Fk r (a.extract (sa + k) sb).toList:=by
  have:=Vh u1 (by lia)
  rwa [show sa + k + (na - k)=sb by lia] at this
 have t2:Fk r (a.extract sb (sb + k2)).toList:=Vh (λi j c d=>s2 i j c (by lia)) (by lia)
 have xl:∀ hh,r ((a.extract (sa + k) sb)[(a.extract (sa + k) sb).size - 1]'hh)=fv r a sa (na - 1):=λhh=>by
  rw[fX,<- la]
  congr 2
  lia
 have y0:∀ hh,r ((a.extract sb (sb + k2))[0]'hh)=r a[sb]:=λhh=>by rw[fX]; rfl
 have fin:∀ (mg:Array Keyed) (g:Nat),mg.toList.Perm ((a.extract (sa + k) sb).toList++(a.extract sb (sb + k2)).toList)->Fk r mg.toList ->
  Q true (SortSt.mk' kd (mg.toList.zipIdx.foldl (λa (x:Keyed × Nat)=>match x with | (p,j)=>a.setIfInBounds (sa + k + j) p) a) pn g none):=λmg g hp hs=>by
  have hmz:mg.size=na - k + k2:=by
   have:=hp.length_eq
   rw[av,aN,aN,aN,zx,zy] at this
   exact this
  have hmm:∀ x∈mg,x∈a.extract (sa + k) sb∨x∈a.extract sb (sb + k2):=λx hx=>by
   have:=(hp.mem_iff).mp (gB.mpr hx)
   rw[bG,gB,gB] at this
   exact this
  have hl:=Vg (sa:=sa + k) mg.toList 0 a (by rw[aN]; lia)
  generalize (mg.toList.zipIdx.foldl (λa (x:Keyed × Nat)=>match x with | (p,j)=>a.setIfInBounds (sa + k + j) p) a)=a' at hl ⊢
  rw[Nat.add_zero,aN] at hl
  have hg:=Xc hl (by lia)
  have fl:∀ j,j < k->fv r a' sa j=fv r a sa j:=λj hj=>by unfold fv; rw[hg,if_pos (by lia)]
  have fr:∀ j,k + (na - k + k2)<=j->fv r a' sa j=fv r a sb (j - na):=λj hj=>by unfold fv; rw[hg,if_neg (by lia),if_neg (by lia),show sb + (j - na)=sa + j by lia]
  have fm:∀ j,k<=j->(hj:j - k < mg.size)->fv r a' sa j=r mg[j - k]:=λj hj hj'=>by
   unfold fv
   rw[hg,if_neg (by lia),if_pos (by lia),show sa + j - (sa + k)=j - k by lia,getElem?_pos mg (j - k) hj']
   rfl
  have mlo:∀ x∈mg,∀ j,j < k->fv r a sa j<=r x:=λx hx j hj=>by
   rcases hmm x hx with z | z
   ·obtain⟨p,c,d,e⟩:=mx x z
    rw[e]; exact s1 j p (by lia) d
   ·obtain⟨p,c,e⟩:=my x z
    rw[e]
    have:=s2 0 p (by lia) (by lia)
    have:=lo j hj
    lia
  have mhi:∀ x∈mg,∀ j,k2<=j->j < nb->r x<=fv r a sb j:=λx hx j hj hj'=>by
   rcases hmm x hx with z | z
   ·obtain⟨p,c,d,e⟩:=mx x z
    rw[e]
    exact qF (s1 p (na - 1) (by lia) (by lia)) (hi2 j hj hj')
   ·obtain⟨p,c,e⟩:=my x z
    rw[e]
    exact s2 p j (by lia) hj'
  refine h a' g ⟨Array.perm_iff_toList_perm.mpr ?_,λp z=>?_⟩ λi j hij hj=>?_
  ·have ea:a.toList=a.toList.take (sa + k)++((a.extract (sa + k) sb).toList++(a.extract sb (sb + k2)).toList)++a.toList.drop (sa + k + mg.size):=by
    have d1:=drop_take (a:=a) (i:=sa + k) (k:=na - k)
    have d2:=drop_take (a:=a) (i:=sb) (k:=k2)
    rw[show sa + k + (na - k)=sb by lia] at d1
    rw[show sa + k + mg.size=sb + k2 by lia,uD,uD,<- d2,<- d1,vH]
   rw[hl]
   refine List.Perm.trans ?_ (List.Perm.of_eq ea.symm)
   exact (hp.append_left _).append_right _
  ·rw[hg]
   by_cases c1:p < sa + k
   ·rw[if_pos c1]
   ·rw[if_neg c1,if_neg (by lia)]
  ·by_cases ci:i < k
   ·rw[fl i ci]
    by_cases cj:j < k
    ·rw[fl j cj]; exact s1 i j hij (by lia)
    ·by_cases cj2:j - k < mg.size
     ·rw[fm j (by lia) cj2]; exact mlo _ (bI _) i ci
     ·rw[fr j (by lia)]
      have:=s2 0 (j - na) (by lia) (by lia)
      have:=lo i ci
      lia
   ·by_cases ci2:i - k < mg.size
    ·rw[fm i (by lia) ci2]
     by_cases cj2:j - k < mg.size
     ·rw[fm j (by lia) cj2]; exact Fk.le hs (by lia) cj2
     ·rw[fr j (by lia)]; exact mhi _ (bI _) _ (by lia) (by lia)
    ·rw[fr i (by lia),fr j (by lia)]
     exact s2 _ _ (by lia) (by lia)
 have le0:∀ x∈a.extract (sa + k) sb,r a[sb]<=r x:=λx hx=>by
  obtain⟨p,c,d,e⟩:=mx x hx
  rw[e]; exact Int.le_of_lt (hi p c d)
 have lel:∀ x∈a.extract sb (sb + k2),r x<=fv r a sa (na - 1):=λx hx=>by
  obtain⟨p,c,e⟩:=my x hx
  rw[e]; exact Int.le_of_lt (lo2 p c)
 by_cases hle:na - k<=k2
 ·rw[if_pos hle]
  refine wpS_bind (agc (st:=SortSt.mk' kd a pn g0 none) hc hk m1 m2 t1 t2 (by lia) (by lia) (by rw[y0]; exact le0 _ (bI _)) (λy hy=>by rw[xl]; exact lel y hy) λout g hp hs=>?_)
  exact wpS_bind (wpS_modify (wpS_bind (wpS_get (wpS_pure (fin out g hp hs)))))
 ·rw[if_neg hle]
  refine wpS_bind (age (st:=SortSt.mk' kd a pn g0 none) hc hk m1 m2 t1 t2 (by lia) (by lia) (λx hx=>by rw[y0]; exact le0 x hx) (by rw[xl]; exact lel _ (bI _)) λout g hp hs=>?_)
  exact wpS_bind (wpS_modify (wpS_bind (wpS_get (wpS_pure (fin out g hp hs)))))
def Ch(r:Keyed->Int)(a:Array Keyed):Nat->List (Nat × Nat × Nat)->Nat->Prop
 | lo,[],hi=>lo=hi
 | lo,(s,n,_) :: t,hi=>s=lo/\0 < n/\Up (fv r a s) n/\Ch r a (s + n) t hi
theorem Ch.len{a:Array Keyed}{hi:Nat}:∀ {L:List (Nat × Nat × Nat)} {lo:Nat},Ch r a lo L hi->lo + L.length<=hi
 | [],lo,h=>by have h:lo=hi:=h; simp; lia
 | (s,n,p) :: t,lo,h=>by
  have:=Ch.len h.2.2.2
  have h1:s=lo:=h.1
  have h2:0 < n:=h.2.1
  rw[bE]
  lia
theorem Ch.app{a:Array Keyed}{hi:Nat}{M:List (Nat × Nat × Nat)}:∀ {L:List (Nat × Nat × Nat)} {lo:Nat},Ch r a lo (L++M) hi->∃ mid,Ch r a lo L mid/\Ch r a mid M hi
 | [],lo,h=>⟨lo,rfl,h⟩
 | (s,n,p) :: t,lo,h=>by
  obtain⟨mid,x,y⟩:=Ch.app h.2.2.2
  exact⟨mid,⟨h.1,h.2.1,h.2.2.1,x⟩,y⟩
theorem Ch.join{a:Array Keyed}{mid hi:Nat}{M:List (Nat × Nat × Nat)}:∀ {L:List (Nat × Nat × Nat)} {lo:Nat},Ch r a lo L mid->Ch r a mid M hi->Ch r a lo (L++M) hi
 | [],lo,h,k=>by have h:lo=mid:=h; subst h; exact k
 | (s,n,p) :: t,lo,h,k=>⟨h.1,h.2.1,h.2.2.1,Ch.join h.2.2.2 k⟩
theorem Ch.congr{a a':Array Keyed}{hi:Nat}:∀ {L:List (Nat × Nat × Nat)} {lo:Nat},Ch r a lo L hi->(∀ k,lo<=k->k < hi->a'[k]?=a[k]?)->Ch r a' lo L hi
 | [],lo,h,_=>h
 | (s,n,p) :: t,lo,h,e=>by
  have h1:s=lo:=h.1
  have:=Ch.len h.2.2.2
  exact⟨h.1,h.2.1,h.2.2.1.eq λi hi'=>by unfold fv; rw[e _ (by lia) (by lia)],Ch.congr h.2.2.2 λk c d=>e k (by lia) d⟩
theorem Ch.pw{a:Array Keyed}{hi:Nat}:∀ {L M:List (Nat × Nat × Nat)} {lo:Nat},Ch r a lo L hi->L.map (λt=>(t.1,t.2.1))=M.map (λt=>(t.1,t.2.1))->Ch r a lo M hi
 | [],[],lo,h,_=>h
 | (s,n,p) :: t,(s',n',p') :: t',lo,h,e=>by
  simp only[ck,List.cons.injEq,Prod.mk.injEq] at e
  obtain⟨⟨rfl,rfl⟩,e⟩:=e
  exact⟨h.1,h.2.1,h.2.2.1,Ch.pw h.2.2.2 e⟩
 | [],_ :: _,_,_,e=>by simp at e
 | _ :: _,[],_,_,e=>by simp at e
theorem J4{α:Type}{x y v:α}{M:List α}:∀ {L:List α},((L++x :: y :: M).set L.length v).eraseIdx (L.length + 1)=L++v :: M
 | []=>rfl
 | z :: L=>by
  have:=J4 (x:=x) (y:=y) (v:=v) (M:=M) (L:=L)
  simpa using this
def SI(κ:SortKind)(a₀:Array Keyed)(r:Keyed->Int)(st:SortSt)(lo:Nat):Prop:=kindOf st=κ/\(arrOf st).Perm a₀/\failedOf st=none/\Ch r (arrOf st) 0 (pendingOf st).toList lo
theorem SI.mem{st:SortSt}{lo:Nat}(h:SI κ a₀ r st lo):∀ x∈arrOf st,x∈a₀:=λx hx=>(h.2.1.mem_iff).mp hx
theorem Vi{st:SortSt}{lo i:Nat}{Q:Bool->SortSt->Prop}(hc:Sq prog w A s κ a₀ r)(hS:SI κ a₀ r st lo)(hlo:lo<=a₀.size)(hi:i + 1 < (pendingOf st).size)
 (h:∀ st',SI κ a₀ r st' lo->(pendingOf st').size + 1=(pendingOf st).size->(∀ k,lo<=k->(arrOf st')[k]?=(arrOf st)[k]?)->Q true st'):wpS (model prog w) A E s (mergeAt' i) Q st:=by
 obtain⟨hk,hp,hf,hch⟩:=hS
 obtain⟨⟨sa,na,pa⟩,e1⟩ : ∃ x,(pendingOf st)[i]?=some x:=⟨_,getElem?_pos (pendingOf st) i (by lia)⟩
 obtain⟨⟨sb,nb,pb⟩,e2⟩ : ∃ x,(pendingOf st)[i + 1]?=some x:=⟨_,getElem?_pos (pendingOf st) (i + 1) hi⟩
 have eL:(pendingOf st).toList=(pendingOf st).toList.take i++(sa,na,pa) :: (sb,nb,pb) :: (pendingOf st).toList.drop (i + 2):=by
  rw[<- fY] at e1 e2
  obtain⟨g1,g1'⟩:=ai.mp e1
  obtain⟨g2,g2'⟩:=ai.mp e2
  rw[<- g1',<- g2',<- oZ,<- oZ,vH]
 have hlen:((pendingOf st).toList.take i).length=i:=by rw[bO,aN]; lia
 rw[eL] at hch
 obtain⟨mid,c1,c2⟩:=hch.app
 obtain⟨q1,q2,q3,q4,q5,q6,q7⟩:=c2
 have z1:=Ch.len q7
 have hsz:=hp.size_eq
 have z0:=Ch.len c1
 refine agf hc hk (λx hx=>(hp.mem_iff).mp hx) hf e1 e2 q4 q2 q5 (by lia) q3 q6 λa g kp up=>?_
 have er:(((pendingOf st).setIfInBounds i (sa,na + nb,pa)).eraseIdxIfInBounds (i + 1)).toList=(pendingOf st).toList.take i++(sa,na + nb,pa) :: (pendingOf st).toList.drop (i + 2):=by
  rw[Array.toList_eraseIdxIfInBounds,Array.toList_setIfInBounds]
  have:=J4 (x:=(sa,na,pa)) (y:=(sb,nb,pb)) (v:=(sa,na + nb,pa)) (M:=(pendingOf st).toList.drop (i + 2)) (L:=(pendingOf st).toList.take i)
  rw[hlen,<- eL] at this
  exact this
 refine h _ ⟨hk,kp.1.trans hp,rfl,?_⟩ ?_ λk hk'=>kp.2 k (by lia)
 ·show Ch r a 0 _ lo
  rw[show pendingOf (SortSt.mk' (kindOf st) a (((pendingOf st).setIfInBounds i (sa,na + nb,pa)).eraseIdxIfInBounds (i + 1)) g none)=(((pendingOf st).setIfInBounds i (sa,na + nb,pa)).eraseIdxIfInBounds (i + 1)) from rfl,er]
  refine Ch.join (mid:=mid) (c1.congr λk _ d=>kp.2 k (by lia)) ⟨q1,by lia,up,?_⟩
  rw[show sa + (na + nb)=sb + nb by lia]
  exact q7.congr λk d _=>kp.2 k (by lia)
 ·show (((pendingOf st).setIfInBounds i (sa,na + nb,pa)).eraseIdxIfInBounds (i + 1)).size + 1=_
  rw[<- aN,er]
  simp[hlen]
  lia
theorem acQ{st:SortSt}{Q:Unit->SortSt->Prop}(hc:Sq prog w A s κ a₀ r)(hS:SI κ a₀ r st 0)(h1:0 < a₀.size)(h:∀ st',(arrOf st').Perm a₀->failedOf st'=none->Up (fv r (arrOf st') 0) a₀.size->Q () st'):wpS (model prog w) A E s sortRuns' Q st:=by
 have hz:(arrOf st).size=a₀.size:=hS.2.1.size_eq
 refine wpS_bind (wpS_get ?_)
 dsimp only
 rw[show (arrOf st).size=_ from hz]
 generalize (sortPriv% PySem.Builtin.minRun) a₀.size a₀.size 0=mr
 refine wpS_bind (wpS_mono (wpS_forRange (I:=λx c st'=>∃ lo,c=(none,lo)/\SI κ a₀ r st' lo/\lo<=a₀.size/\x<=lo) (Q:=λc st'=>c=(none,a₀.size)/\SI κ a₀ r st' a₀.size) ?_ ?_ ⟨0,rfl,hS,by lia,by lia⟩) ?_)
 ·rintro x c st' _ hx ⟨lo,rfl,hI,hlo,hxl⟩
  dsimp only
  by_cases hge:lo ≥ a₀.size
  ·rw[if_pos hge]
   have:lo=a₀.size:=by lia
   subst this
   exact wpS_pure ⟨rfl,hI⟩
  rw[if_neg hge]
  have hz':(arrOf st').size=a₀.size:=hI.2.1.size_eq
  refine wpS_bind (aaf hc hI.1 hI.mem (by lia) (by lia) λn a hn1 hn2 kp up=>?_)
  dsimp only
  have IU:SI κ a₀ r (setArr st' a) lo:=⟨hI.1,kp.1.trans hI.2.1,hI.2.2.1,hI.2.2.2.congr λk _ d=>kp.2 k (by lia)⟩
  have up2:Up (fv r (arrOf (setArr st' a)) lo) n:=up
  generalize setArr st' a=st2 at IU up2 ⊢
  refine Vd (α:=SortSt) (β:=Nat) (C:=λst n=>SI κ a₀ r st lo/\0 < n/\lo + n<=a₀.size/\Up (fv r (arrOf st) lo) n) (λK=>by
   by_cases hmr:n < mr
   ·rw[if_pos hmr]
    refine wpS_bind (wpS_lift (wpAny_rule ⟨rfl,?_⟩))
    have hz2:(arrOf st2).size=a₀.size:=IU.2.1.size_eq
    obtain⟨fo,hfo⟩ : ∃ fo,fo=min (a₀.size - lo) mr:=⟨_,rfl⟩
    rw[<- hfo]
    refine wpS_bind (acP hc IU.1 IU.mem (by lia) (by lia) up2 λa L8 Xd=>?_)
    rw[if_neg (by simp)]
    have Mb:SI κ a₀ r (setArr st2 a) lo:=⟨IU.1,L8.1.trans IU.2.1,IU.2.2.1,IU.2.2.2.congr λk _ d=>L8.2 k (by lia)⟩
    have up4:Up (fv r (arrOf (setArr st2 a)) lo) fo:=Xd
    generalize setArr st2 a=st3 at Mb up4 ⊢
    exact K st3 fo ⟨Mb,by lia,by lia,up4⟩
   ·rw[if_neg hmr]
    obtain⟨n',hn⟩ : ∃ n',n'=n:=⟨_,rfl⟩
    rw[<- hn]
    exact K st2 n' ⟨IU,by lia,by lia,hn ▸ up2⟩) ?_
  rintro st2 n ⟨IU,hn1,hn2,up2⟩
  refine wpS_bind (wpS_get ?_)
  have fin:∀ st3,SI κ a₀ r st3 lo->Up (fv r (arrOf st3) lo) n->SI κ a₀ r (setPending st3 ((pendingOf st3).push (lo,n,0))) (lo + n):=λst3 Mb Xd=>⟨Mb.1,Mb.2.1,Mb.2.2.1,by
   show Ch r (arrOf st3) 0 ((pendingOf st3).push (lo,n,0)).toList (lo + n)
   rw[uE]
   exact Mb.2.2.2.join ⟨rfl,hn1,Xd,rfl⟩⟩
  cases hb:(pendingOf st2).back? with
  | none =>
   exact wpS_bind (wpS_modify (wpS_pure ⟨_,rfl,fin st2 IU up2,hn2,by lia⟩))
  | some t =>
   obtain⟨s1,n1,p1⟩:=t
   dsimp only
   generalize (sortPriv% PySem.Builtin.power) a₀.size (2 * s1 + n1) (2 * s1 + n1 + n1 + n) a₀.size=pw
   refine wpS_bind (wpS_mono (wpS_forRange (I:=λ_ c st'=>c=(none,())/\SI κ a₀ r st' lo/\Up (fv r (arrOf st') lo) n) (Q:=λc st'=>c=(none,())/\SI κ a₀ r st' lo/\Up (fv r (arrOf st') lo) n) ?_ (λc st' z=>z) ⟨rfl,IU,up2⟩) ?_)
   ·rintro y c st3 _ _ ⟨rfl,Mb,Xd⟩
    refine wpS_bind (wpS_get ?_)
    by_cases hs:(pendingOf st3).size > 1
    ·rw[if_pos hs]
     obtain⟨⟨f1,f2,older⟩,hx⟩ : ∃ x,(pendingOf st3)[(pendingOf st3).size - 2]?=some x:=⟨_,getElem?_pos (pendingOf st3) _ (by lia)⟩
     rw[show (pendingOf st3)[(pendingOf st3).size - 2]?=_ from hx]
     dsimp only
     by_cases ho:older<=pw
     ·rw[if_pos ho]
      exact wpS_pure ⟨rfl,Mb,Xd⟩
     rw[if_neg ho]
     refine wpS_bind (Vi hc Mb (by lia) (by show (pendingOf st3).size - 2 + 1 < (pendingOf st3).size; lia) λIL hI4 _ ke=>?_)
     rw[if_neg (by simp)]
     exact wpS_pure ⟨rfl,hI4,Xd.eq λi _=>by unfold fv; rw[ke _ (by lia)]⟩
    ·rw[if_neg hs]
     exact wpS_pure ⟨rfl,Mb,Xd⟩
   ·rintro c st3 ⟨rfl,Mb,Xd⟩
    dsimp only
    refine wpS_bind (wpS_modify (wpS_bind (wpS_modify (wpS_pure ⟨_,rfl,fin (setPending st3 ((pendingOf st3).modify ((pendingOf st3).size - 1) λx=>(x.fst,x.2.fst,pw))) ⟨Mb.1,Mb.2.1,Mb.2.2.1,Mb.2.2.2.pw ?_⟩ Xd,hn2,by lia⟩))))
    show _=((pendingOf st3).modify ((pendingOf st3).size - 1) λx=>(x.fst,x.2.fst,pw)).toList.map _
    rw[<- Array.toList_map,<- Array.toList_map]
    congr 1
    apply Array.ext
    ·simp
    ·intro i h1 h2
     simp[Array.getElem_modify]
     split <;> simp
 ·rintro c st' ⟨lo,rfl,hI,hlo,hxl⟩
  rw[show max 0 a₀.size=a₀.size by lia] at hxl
  have:lo=a₀.size:=by lia
  subst this
  exact⟨rfl,hI⟩
 rintro c st' ⟨rfl,hI⟩
 dsimp only
 have l0:=Ch.len hI.2.2.2
 rw[aN] at l0
 refine wpS_bind (wpS_mono (wpS_forRange (I:=λx c st'=>c=(none,())/\SI κ a₀ r st' a₀.size/\(pendingOf st').size + x<=a₀.size) (Q:=λc st'=>c=(none,())/\SI κ a₀ r st' a₀.size/\(pendingOf st').size<=1) ?_ ?_ ⟨rfl,hI,by lia⟩) ?_)
 ·rintro x c st2 _ hx ⟨rfl,IU,hpx⟩
  refine wpS_bind (wpS_get ?_)
  by_cases hs:(pendingOf st2).size<=1
  ·rw[if_pos hs]
   exact wpS_pure ⟨rfl,IU,hs⟩
  rw[if_neg hs]
  refine wpS_bind (Vi hc IU (au _) ?_ λst3 Mb hz3 _=>?_)
  ·have key:∀ (c:Prop) [Decidable c],(if c then (pendingOf st2).size - 2 - 1 else (pendingOf st2).size - 2) + 1 < (pendingOf st2).size:=λc _=>by split <;> lia
   exact key _
  ·rw[if_neg (by simp)]
   exact wpS_pure ⟨rfl,Mb,by lia⟩
 ·rintro c st2 ⟨rfl,IU,hpx⟩
  exact⟨rfl,IU,by lia⟩
 rintro c st2 ⟨rfl,IU,hp1⟩
 refine wpS_pure (h st2 IU.2.1 IU.2.2.1 ?_)
 have hch:=IU.2.2.2
 have hl:(pendingOf st2).toList.length<=1:=by rw[aN]; exact hp1
 generalize (pendingOf st2).toList=L at hch hl
 match L,hch,hl with
 | [],hch,_=>have:0=a₀.size:=hch; lia
 | [(s1,n1,p1)],⟨q1,q2,q3,q4⟩,_ =>
  have q4:s1 + n1=a₀.size:=q4
  subst q1
  rw[<- q4,Nat.zero_add]
  exact q3
 | _ :: _ :: _,_,hl=>simp at hl
end
theorem Pj{n:Nat}(h:n<=100000):n < sizeLine:=aZ h (by decide)
section
variable{prog:Program}{w:World}{A:Around}{E:Value->Shared->Prop}{s:Shared}{κ:SortKind}{r:Keyed->Int}
def Keeps(h h':Heap)(d:Addr):Prop:=∀ b o,b≠d->h.get? b=some o->h'.get? b=some o
theorem Vj{d:Addr}{vs:List Value}{c:Nat}{P:PySem.Fin->Shared->Prop}(hd:s.heap.get? d=some (seqObj "list" vs.toArray c))(h2:2<=vs.length)(hz:vs.length<=sizeLine)
 (hK:∀ h',Keeps s.heap h' d->∀ Q:SortKind->Shared->Prop,Q κ { s with heap:=h' }->wpAny (model prog w) A (keyKind' vs.toArray) Q E { s with heap:=h' })
 (hC:∀ h',Keeps s.heap h' d->Sq prog w A { s with heap:=h' } κ (pairsOf vs) r)
 (k:∀ out:Array Keyed,out.Perm (pairsOf vs)->Up (fv r out 0) vs.length->P (.done (.ret .none)) { s with heap:=sortedHeap s.heap d vs (out.map (·.2)) }) :
 wpAny (model prog w) A (Builtin.«list.sort» ⟨[.ref d],[]⟩) P E s:=by
 have hlt:d < s.heap.objs.size:=Heap.lt_size hd
 rw[list_sort_plain]
 refine wpAny_bind (listItems_at hd rfl (wpAny_bind (listUpdate_at hd rfl ?_)))
 obtain⟨c1,h1⟩ : ∃ c1,(s.heap.update d (Obj.mapSeq λ_=>#[])).get? d=some (seqObj "list" #[] c1):=⟨_,get?_update_seq hd (λ_=>#[])⟩
 refine wpAny_bind (seqEpoch_at h1 rfl (wpAny_bind (wpAny_newTuple (wpAny_bind (wpAny_newList (wpAny_holding ?_))))))
 have h6:(((s.heap.update d (Obj.mapSeq λ_=>#[])).push (seqObj "tuple" vs.toArray 0)).push (seqObj "list" #[] 0)).get? d=some (seqObj "list" #[] c1) :=
  Heap.get?_push_of_some _ (Heap.get?_push_of_some _ h1)
 have kp:Keeps s.heap (((s.heap.update d (Obj.mapSeq λ_=>#[])).push (seqObj "tuple" vs.toArray 0)).push (seqObj "list" #[] 0)) d:=λb o hb e =>
  Heap.get?_push_of_some _ (Heap.get?_push_of_some _ (Heap.get?_update_of_ne _ (bK hb) e))
 show wpAny (model prog w) A _ P E { s with heap:=((s.heap.update d (Obj.mapSeq λ_=>#[])).push (seqObj "tuple" vs.toArray 0)).push (seqObj "list" #[] 0) }
 dsimp only
 have ht:¬ vs.toArray.size < 2:=by simp; lia
 rw[if_neg ht,if_neg ht]
 refine wpAny_bind (hK _ kp _ ?_)
 refine wpAny_bind (wpAny_mono (acQ (a₀:=pairsOf vs) (κ:=κ) (r:=r) (st:=SortSt.mk' κ (vs.toArray.zip vs.toArray) #[] 7 none) (Q:=λ_ st'=>(arrOf st').Perm (pairsOf vs)/\failedOf st'=none/\Up (fv r (arrOf st') 0) (pairsOf vs).size) (hC _ kp) ⟨rfl,Array.Perm.refl _,rfl,rfl⟩ (by rw[pairsOf_size]; lia) λst' a1 a2 a3=>⟨a1,a2,a3⟩) ?_ λ_ _ e=>e)
 rintro⟨⟨⟩,st'⟩ s' ⟨rfl,hp,hf,hs⟩
 dsimp only
 refine wpAny_bind (seqEpoch_at h6 rfl ?_)
 refine wpAny_bind (listUpdate_at h6 rfl ?_ (hsz2:=by refine aH (Nat.le_of_eq ((Array.size_map ..).trans (hp.size_eq.trans (pairsOf_size _)))) ?_; lia))
 rw[hf]
 simp only[bne_self_eq_false,Bool.false_eq_true,if_false]
 rw[pairsOf_size] at hs
 exact wpAny_pure (k _ hp hs)
theorem Pk{l:Addr}{vs:List Value}{Q:Value->Shared->Prop}(hl:s.heap.IsList l vs.toArray)(h2:2<=vs.length)(hz:vs.length<=sizeLine)
 (hK:∀ (A:Around) (E:Value->Shared->Prop) h',(∀ b o,s.heap.get? b=some o->h'.get? b=some o)->∀ Q:SortKind->Shared->Prop,Q κ { s with heap:=h' }->wpAny (model prog w) A (keyKind' vs.toArray) Q E { s with heap:=h' })
 (hC:∀ (A:Around) h',(∀ b o,s.heap.get? b=some o->h'.get? b=some o)->Sq prog w A { s with heap:=h' } κ (pairsOf vs) r)
 (k:∀ out:Array Keyed,out.Perm (pairsOf vs)->Up (fv r out 0) vs.length->Q (.ref (s.heap.objs.size + 1)) { s with heap:=sortedAll s.heap vs (out.map (·.2)) }):wpAny (model prog w) A (call (.builtin "sorted") [.ref l]) Q E s:=by
 refine Calls.call_function_entry kind_sorted plain_sorted entry_sorted (args_sorted1 _) ?_
 unfold Builtin.«sorted»
 refine wpAny_bind (m:=checkCount "sorted" 1 1 _) (wpAny_pure (wpAny_bind (collect_list hl (hsz:=hz) (wpAny_bind (wpAny_newList ?_)))))
 have hz':((s.heap.push (seqObj "list" #[] 0)).update s.heap.objs.size (Obj.mapSeq (·++vs.toArray))).objs.size=s.heap.objs.size + 1:=(Heap.size_update _ _ _).trans (size_push' _ _)
 have ho:(((s.heap.push (seqObj "list" #[] 0)).update s.heap.objs.size (Obj.mapSeq (·++vs.toArray))).push (seqObj "list" vs.toArray 0)).get? (s.heap.objs.size + 1)=some (seqObj "list" vs.toArray 0):=hz' ▸ Heap.get?_push_size _ rfl
 have kp:∀ {h'},Keeps (((s.heap.push (seqObj "list" #[] 0)).update s.heap.objs.size (Obj.mapSeq (·++vs.toArray))).push (seqObj "list" vs.toArray 0)) h' (s.heap.objs.size + 1)->∀ b o,s.heap.get? b=some o->h'.get? b=some o:=λ{h'} K b o e=>by
  have hb:b < s.heap.objs.size:=Heap.lt_size e
  exact K b o (bw (Nat.lt_succ_of_lt hb)) (Heap.get?_push_of_some _ (Heap.get?_update_of_ne _ (Nat.ne_of_gt hb) (Heap.get?_push_of_some _ e)))
 show wpAny _ _ _ _ _ { s with heap:=((s.heap.push (seqObj "list" #[] 0)).update s.heap.objs.size (Obj.mapSeq (·++vs.toArray))).push (seqObj "list" vs.toArray 0) }
 rw[hz']
 exact wpAny_bind (wpAny_holding (wpAny_call_entry slot_list_sort ⟨_,ho,rfl⟩ entry_list_sort (Vj (κ:=κ) (r:=r) ho h2 hz (λh' K=>hK _ _ h' (kp K)) (λh' K=>hC _ h' (kp K)) λout a b=>⟨_,rfl,wpAny_pure ⟨_,rfl,k out a b⟩⟩) (args_list_sort _)))
end
section
variable{X:Cx}
def Vk(K:af):List V->Hp->VK->Prop:=λxs H Q=>∃ (a:Addr) (qs:List Addr) (ts:List T3),xs = [.ref a]/\bJ K H a (qs.map V.ref)/\gy K H qs ts/\ts.length < 2000 /\
 ∀ l (Dw:List Addr) (ts':List T3),H l=none->ts'.Perm ts->qN ts'->gy K H Dw ts'->Q (.ref l) (upd H l (.lst (Dw.map V.ref)))
noncomputable def zb(h:Heap)(v:Value):T3:=by
 classical exact if e:∃ x,Oo h v x then e.choose else (0,0,0)
theorem Oo.uniq{h:Heap}{v:Value}{x y:T3}(a:Oo h v x)(b:Oo h v y):x=y:=by
 obtain⟨q,o,n,t1,t2,t3,rfl,h1,c1,d1⟩:=a
 obtain⟨q',o',n',u1,u2,u3,e,h2,c2,d2⟩:=b
 cases e
 rw[h1] at h2
 cases h2
 have:=d1.symm.trans d2
 simp only[Data.seq.injEq,Array.mk.injEq,List.cons.injEq,Value.int.injEq] at this
 exact Prod.ext this.1.1.1 (Prod.ext this.1.2.1.1 this.1.2.2.1.1)
theorem CH{h:Heap}{v:Value}{x:T3}(a:Oo h v x):zb h v=x:=by
 have e:∃ x,Oo h v x:=⟨x,a⟩
 unfold zb
 rw[dif_pos e]
 exact e.choose_spec.uniq a
theorem Oo.keep{h h':Heap}{v:Value}{x:T3}(k:∀ b o,h.get? b=some o->h'.get? b=some o)(a:Oo h v x):Oo h' v x:=by
 obtain⟨q,o,n,t1,t2,t3,rfl,h1,c1,d1⟩:=a
 exact⟨q,o,n,t1,t2,t3,rfl,k _ _ h1,c1,d1⟩
theorem Lo:rP X (.builtin "sorted") (Vk X.K):=by
 intro pins s σ H xs us Q I r ⟨a,qs,ts,e,hq,ht,hB,q⟩
 subst e
 obtain⟨u,e,ru⟩:=bT.one r
 subst e
 cases ru
 obtain⟨its,rv,p,hz⟩:=I.list hq
 have agg:=QA rv
 subst agg
 have hlen:=ht.1
 by_cases h0:ts.length=0
 ·have e1:qs = []:=rK.mp (by lia)
  subst e1
  have e2:ts = []:=rK.mp h0
  subst e2
  refine yZ pins s σ H [V.ref a] [Value.ref a] Q I (.cons rfl .nil) ⟨a,[],rfl,hq,by decide,λl ns' hl hp _=>?_⟩
  have:ns' = []:=List.Perm.eq_nil hp
  subst this
  exact q l [] [] hl (List.Perm.refl _) (λi j x y _ h=>by simp at h) ⟨rfl,λi q t h=>by simp at h⟩
 by_cases h1:ts.length=1
 ·obtain⟨q0,e1⟩ : ∃ q0,qs = [q0]:=List.length_eq_one_iff.mp (by lia)
  subst e1
  refine O6 (v:=.ref q0) p.isList ?_
  obtain⟨e,he⟩:=sortedAll_at s.heap [.ref q0] #[.ref q0]
  refine⟨.ref (s.heap.objs.size + 1),_,I.laid (a:=s.heap.objs.size + 1) (o:=.lst [.ref q0]) (t':=s.toks) (λb o e=>sortedAll_old e) (dc _) ⟨?_,[.ref q0],e,.cons rfl .nil,he⟩,rfl,q _ [q0] ts (I.hok.fresh (dc _)) (List.Perm.refl _) (λi j x y hij Bp h2'=>?_) ht⟩
  ·show 1<=sizeLine
   decide
  ·have:=(ai.mp h2').1
   lia
 have mk:∀ {q0:Addr} {x:T3},cH X.K H q0 (t3V x)->Oo s.heap (.ref q0) x:=λ{q0 x} hs=>by
  obtain⟨jt,rj,tp,_⟩:=I.tuple hs
  obtain⟨o,ho,hc,n,hd⟩:=tp
  cases rj with
  | cons x1 r1=>cases r1 with
   | cons x2 r2=>cases r2 with
    | cons x3 r3 =>
     cases r3
     obtain⟨t1,rfl⟩:=x1
     obtain⟨t2,rfl⟩:=x2
     obtain⟨t3,rfl⟩:=x3
     exact⟨q0,o,n,t1,t2,t3,rfl,ho,hc,hd⟩
 have acS:∀ q0∈qs,∃ x∈ts,Oo s.heap (.ref q0) x/\cH X.K H q0 (t3V x):=λq0 Xb=>by
  obtain⟨i,hi,e⟩:=List.mem_iff_getElem.mp Xb
  have hs:=ht.2 i q0 (ts[i]'(by lia)) (by rw[aa hi,e]) (aa _)
  exact⟨ts[i],aL _,mk hs,hs⟩
 have acT:∀ {h':Heap},(∀ b o,s.heap.get? b=some o->h'.get? b=some o)->∀ (i:Nat) v x,(qs.map Value.ref)[i]?=some v->ts[i]?=some x->Oo h' v x:=λ{h'} kp i v x e1 e2=>by
  rw[aj] at e1
  cases e3:qs[i]? with
  | none=>rw[e3] at e1; cases e1
  | some q0 =>
   rw[e3] at e1
   cases e1
   exact (mk (ht.2 i q0 x e3 e2)).keep kp
 refine Pk (κ:=tuples' true) (r:=λx=>EK ts (zb s.heap x.1)) (vs:=qs.map Value.ref) p.isList (by rw[ah]; lia) (by rw[ah]; exact iL (Pj (by lia))) (λA' E' h' kp Q' k=>?_) (λA' h' kp x y hx hy E' C k=>?_) λout hp hu=>?_
 ·obtain⟨fs,kt,fl,fi⟩:=GA (h:=h') (vs:=qs.map Value.ref) (ts:=ts) (by rw[ah]; exact hlen) (acT kp)
  refine kat_kind (s:={ s with heap:=h' }) (T:=.type "int") kt (by rw[fl,ah]; lia) (λf hf=>?_) rfl ?_
  ·obtain⟨i,t,rfl⟩:=fi f hf
   exact Looks.of_pure rfl
  have agh:(Value.type "int" != Value.type "tuple")=true:=by decide
  rw[agh]
  exact k
 ·have mem:∀ x∈pairsOf (qs.map Value.ref),∃ z∈ts,Oo s.heap x.1 z:=λx hx=>by
   have:=gB.mpr hx
   rw[pairsOf_toList] at this
   obtain⟨q0,Xb,e⟩:=bL.mp (mem_zip_self this).2
   obtain⟨z,hz,tz,_⟩:=acS q0 Xb
   exact⟨z,hz,e ▸ tz⟩
  obtain⟨zx,mx,tx⟩:=mem x hx
  obtain⟨zy,my,ty⟩:=mem y hy
  refine Z1 (tx.keep kp) (ty.keep kp) ?_
  have k:C (decide (EK ts (zb s.heap x.1) < EK ts (zb s.heap y.1))) { s with heap:=h' }:=k
  rw[CH tx,CH ty,MJ mx] at k
  exact k
 ·obtain⟨e,he⟩:=sortedAll_at s.heap (qs.map Value.ref) (out.map (·.2))
  have hpl:(out.toList.map (·.2)).Perm (qs.map Value.ref):=by
   have:=(Array.perm_iff_toList_perm.mp hp).map (·.2)
   rw[pairsOf_toList] at this
   refine this.trans (List.Perm.of_eq ?_)
   exact List.map_snd_zip (au _)
  have hfs:∀ x∈out.toList,x.1=x.2/\x.1∈qs.map Value.ref:=λx hx=>by
   have:=(Array.perm_iff_toList_perm.mp hp).mem_iff.mp hx
   rw[pairsOf_toList] at this
   exact mem_zip_self this
  obtain⟨Dw,eq'⟩ : ∃ Dw:List Addr,out.toList.map (·.2)=Dw.map Value.ref:=by
   have:∀ l:List Value,(∀ v∈l,∃ q,v=Value.ref q)->∃ Dw:List Addr,l=Dw.map Value.ref:=λl=>by
    induction l with
    | nil=>exact λ_=>⟨[],rfl⟩
    | cons v l ih =>
     intro h
     obtain⟨Dw,e⟩:=ih λv hv=>h v (.tail _ hv)
     obtain⟨q,rfl⟩:=h v (.head _)
     exact⟨q :: Dw,by rw[e]; rfl⟩
   refine this _ λv hv=>?_
   obtain⟨q,_,e⟩:=bL.mp (hpl.mem_iff.mp hv)
   exact⟨q,e.symm⟩
  have eo:(out.map (·.2)).toList=Dw.map Value.ref:=by rw[Array.toList_map]; exact eq'
  have hpq:Dw.Perm qs:=by
   rw[eq'] at hpl
   have:=hpl.map λv=>match v with | Value.ref q=>q | _=>0
   rw[cu,cu] at this
   exact uB qs ▸ uB Dw ▸ this
  have Yz:ts=qs.map λq=>zb s.heap (.ref q):=by
   apply pQ
   ·rw[ah]; exact hlen.symm
   ·intro i h1 h2
    rw[List.getElem_map]
    exact (CH (acT (h':=s.heap) (λ_ _ e=>e) i _ _ (by rw[aj,aa (by lia)]; rfl) (aa h1))).symm
  refine⟨.ref (s.heap.objs.size + 1),_,I.laid (a:=s.heap.objs.size + 1) (o:=.lst (Dw.map V.ref)) (t':=s.toks) (λb o e=>sortedAll_old e) (dc _) ⟨?_,(out.map (·.2)).toList,e,eo ▸ JV Dw,he⟩,rfl,q _ Dw (Dw.map λq=>zb s.heap (.ref q)) (I.hok.fresh (dc _)) ?_ (λi j x y hij e1 e2=>?_) ⟨by rw[ah],λi q0 t0 e1 e2=>?_⟩⟩
  ·rw[ah,hpq.length_eq]
   exact iL (Pj (by lia))
  ·rw[Yz]
   exact hpq.map _
  ·have hlo:out.size=qs.length:=by
    have:=hp.size_eq
    rw[pairsOf_size,ah] at this
    exact this
   have hql:Dw.length=qs.length:=hpq.length_eq
   have hj:j < Dw.length:=by
    have:=(ai.mp e2).1
    rwa [ah] at this
   have val:∀ (p:Nat) (z:T3),p < Dw.length->(Dw.map λq=>zb s.heap (.ref q))[p]?=some z->z∈ts/\fv (λx=>EK ts (zb s.heap x.1)) out 0 p=EK ts z:=λp z WB e=>by
    rw[aj,aa WB] at e
    have ez:zb s.heap (.ref Dw[p])=z:=aP e
    have J5:0 + p < out.size:=by lia
    rw[nH J5]
    have h1:(out[0 + p]).1 = .ref Dw[p]:=by
     have hm:out[0 + p]∈out.toList:=by simp
     rw[(hfs _ hm).1]
     have:(out.toList.map (·.2))[p]'(by rw[ah,aN]; lia)=(Dw.map Value.ref)[p]'(by rw[ah]; exact WB):=by simp only[eq']
     rw[List.getElem_map,List.getElem_map,Array.getElem_toList] at this
     simpa using this
    refine⟨?_,by rw[h1,ez]⟩
    rw[<- ez,Yz]
    exact bL.mpr ⟨_,hpq.mem_iff.mp (aL WB),rfl⟩
   obtain⟨m1,v1⟩:=val i x (by lia) e1
   obtain⟨m2,v2⟩:=val j y hj e2
   have:=hu i j (by lia) (by rw[ah]; lia)
   rw[v1,v2] at this
   rw[<- MJ (ts:=ts) m2]
   exact decide_eq_false (by lia)
  ·have hi:=(ai.mp e1).1
   rw[aj,e1] at e2
   have e3:zb s.heap (.ref q0)=t0:=aP e2
   obtain⟨z,_,tz,sz⟩:=acS q0 (hpq.mem_iff.mp (aI e1))
   rw[<- e3,CH tz]
   exact sz
end
end L2
namespace gi
open PySem L2
noncomputable def top (i:Nat):Stmt:=PySem.Challenge.pw_knotless_k29_falls_in_the_net.main.body.getD i (.Pass ⟨0,0,0,0⟩)
noncomputable abbrev uJ:Stmt:=(inClass (top 2) 0)
noncomputable abbrev wY:Stmt:=(inClass (top 2) 1)
noncomputable abbrev wZ:Stmt:=(inClass (top 2) 2)
noncomputable abbrev w6:Stmt:=(inClass (top 2) 3)
noncomputable abbrev uK:Stmt:=(inClass (top 2) 4)
noncomputable abbrev DL:Stmt:=(top 4)
noncomputable abbrev Bq:Stmt:=(top 5)
noncomputable abbrev pY:Stmt:=(inClass (top 16) 0)
noncomputable abbrev rZ:Stmt:=(inClass (top 16) 1)
noncomputable abbrev r6:Stmt:=(inClass (top 16) 2)
noncomputable abbrev pZ:Stmt:=(inClass (top 16) 3)
noncomputable abbrev r8:Stmt:=(inClass (top 17) 0)
noncomputable abbrev uL:Stmt:=(inClass (top 17) 1)
noncomputable abbrev uM:Stmt:=(inClass (top 17) 2)
noncomputable abbrev r9:Stmt:=(inClass (top 17) 3)
noncomputable abbrev uN:Stmt:=(inClass (top 18) 0)
noncomputable abbrev DM:Stmt:=(top 20)
noncomputable abbrev Lp:Stmt:=(top 21)
noncomputable abbrev Vl:Stmt:=(top 22)
noncomputable abbrev Vm:Stmt:=(top 24)
noncomputable abbrev Lq:Stmt:=(top 25)
noncomputable abbrev DN:Stmt:=(top 27)
noncomputable abbrev Lr:Stmt:=(top 28)
noncomputable abbrev uO:Stmt:=(inClass (top 35) 0)
noncomputable abbrev zc:Stmt:=(inClass (top 35) 1)
noncomputable abbrev zd:Stmt:=(inClass (top 35) 2)
noncomputable abbrev p5:Stmt:=(inClass (top 35) 3)
noncomputable abbrev se:Stmt:=(inClass (top 35) 4)
noncomputable abbrev ze:Stmt:=(inClass (top 35) 5)
noncomputable abbrev uP:Stmt:=(top 36)
noncomputable abbrev uQ:Stmt:=(top 37)
noncomputable abbrev w9:Stmt:=(top 38)
noncomputable abbrev zf:Stmt:=(top 39)
noncomputable abbrev nP:Stmt:=(inClass (top 41) 0)
noncomputable abbrev sf:Stmt:=(inClass (top 41) 1)
noncomputable abbrev uR:Stmt:=(inClass (top 41) 2)
noncomputable abbrev lz:Stmt:=(inClass (top 41) 3)
noncomputable abbrev lA:Stmt:=(inClass (top 41) 4)
noncomputable abbrev sj:Stmt:=(inClass (top 41) 5)
noncomputable abbrev Br:Stmt:=(top 42)
noncomputable abbrev uS:Stmt:=(top 43)
noncomputable abbrev p6:Stmt:=(inClass (top 46) 0)
noncomputable abbrev xg:Stmt:=(inClass (top 47) 0)
noncomputable abbrev Bs:Stmt:=(inClass (top 47) 1)
noncomputable abbrev Bt:Stmt:=(inClass (top 47) 2)
noncomputable abbrev zg:Stmt:=(inClass (top 47) 3)
noncomputable abbrev zh:Stmt:=(inClass (top 47) 4)
noncomputable abbrev xh:Stmt:=(inClass (top 47) 6)
noncomputable abbrev Bu:Stmt:=(inClass (top 47) 7)
noncomputable abbrev Bv:Stmt:=(inClass (top 47) 8)
noncomputable abbrev DO:Stmt:=(inClass (top 47) 9)
noncomputable abbrev iE:Stmt:=(inClass (top 47) 13)
noncomputable abbrev xj:Stmt:=(inClass (top 47) 14)
noncomputable abbrev eX:Stmt:=(inClass (top 47) 15)
noncomputable abbrev uT:Stmt:=(inClass (top 47) 17)
noncomputable abbrev p7:Stmt:=(inClass (top 47) 18)
noncomputable abbrev nQ:Stmt:=(inClass (top 47) 19)
noncomputable abbrev Bw:Stmt:=(inClass (top 47) 20)
noncomputable abbrev mK:Stmt:=(inClass (top 47) 21)
noncomputable abbrev p8:Stmt:=(inClass (top 47) 22)
noncomputable abbrev gX:Stmt:=(inClass (top 47) 23)
noncomputable abbrev mL:Stmt:=(inClass (top 47) 24)
noncomputable abbrev lB:Stmt:=(inClass (top 47) 25)
noncomputable abbrev nR:Stmt:=(inClass (top 47) 26)
noncomputable abbrev xm:Stmt:=(top 48)
noncomputable abbrev p9:Stmt:=(top 49)
noncomputable abbrev zj:Stmt:=(top 51)
noncomputable abbrev DP:Stmt:=(top 52)
noncomputable abbrev GO:Stmt:=(top 53)
noncomputable abbrev DQ:Stmt:=(top 54)
noncomputable abbrev DR:Stmt:=(top 55)
noncomputable abbrev zk:Stmt:=(top 56)
noncomputable abbrev GP:Stmt:=(top 57)
noncomputable abbrev Bx:Stmt:=(top 58)
noncomputable abbrev DS:Stmt:=(top 59)
noncomputable abbrev GQ:Stmt:=(top 60)
noncomputable abbrev Vn:Stmt:=(top 61)
theorem GR:aG ["self"] ["self"] (ay uJ):=iR
theorem IV:aG ["self","house","caller","rope"] ["self","house","caller","rope"] (ay wY):=iR
theorem IW:aG ["self","house","caller"] ["self","house","caller"] (ay wZ):=iR
theorem AS:aG ["self"] ["self"] (ay w6):=iR
theorem vN:(["noted","rope"]:List Str).Nodup:=by decide +kernel
theorem GS:aG ["self"] ["self"] (ay uK):=iR
theorem By:aG ["book","letter","house","came","open_here","here","handed"] ["book","letter","house","came","open_here","here"] (ay DL):=iR
theorem IX:(["caller","letter"]:List Str).Nodup:=by decide +kernel
theorem tX:aG ["book","sought","house","came","open_here","here","noted","leading"] ["book","sought","house","came","open_here","here"] (ay Bq):=iR
theorem GU:(["rope","came"]:List Str).Nodup:=by decide +kernel
theorem DT:aG ["self","sender"] ["self","sender"] (ay pY):=iR
theorem Fl:aG ["self","caller"] ["self","caller"] (ay rZ):=iR
theorem Fo:aG ["self"] ["self"] (ay r6):=iR
theorem DU:aG ["self"] ["self"] (ay pZ):=iR
theorem Fq:aG ["self","sender","to"] ["self","sender","to"] (ay r8):=iR
theorem GV:aG ["self","caller"] ["self","caller"] (ay uL):=iR
theorem GW:aG ["self"] ["self"] (ay uM):=iR
theorem Ft:aG ["self"] ["self"] (ay r9):=iR
theorem GX:aG ["self","caller"] ["self","caller"] (ay uN):=iR
theorem Pn:aG ["town","house"] ["town","house"] (ay DM):=iR
theorem MT:aG ["town","row","rope","hops"] ["town","row","rope"] (ay Lp):=iR
theorem GY:aG ["town","live","rows","house","least","rope","made"] ["town","live","rows","house"] (ay Vl):=iR
theorem Vo:aG ["town","live","rows"] ["town","live","rows"] (ay Vm):=iR
theorem Su:(["house","live","rows","town"]:List Str).Nodup:=by decide +kernel
theorem MU:aG ["town","live","rows"] ["town","live","rows"] (ay Lq):=iR
theorem MV:(["up"]:List Str).Nodup:=by decide +kernel
theorem BA:aG ["town","live","rows","house","joined"] ["town","live","rows","house"] (ay DN):=iR
theorem IY:(["rope","joined"]:List Str).Nodup:=by decide +kernel
theorem GZ:aG ["town","live","rows","house","rope","other"] ["town","live","rows","house"] (ay Lr):=iR
theorem G0:aG ["self","names","ropes"] ["self","names","ropes"] (ay uO):=iR
theorem Ls:aG ["self","house"] ["self","house"] (ay zc):=iR
theorem Lu:aG ["self","number"] ["self","number"] (ay zd):=iR
theorem vO:aG ["self","house"] ["self","house"] (ay p5):=iR
theorem qH:(["number","rope","house"]:List Str).Nodup:=by decide +kernel
theorem yo:aG ["self","rope","house","ends"] ["self","rope","house"] (ay se):=iR
theorem Lv:aG ["self","rope","group"] ["self","rope","group"] (ay ze):=iR
theorem G1:aG ["names"] ["names"] (ay uP):=iR
theorem zl:aG ["size","ropes","rope"] ["size","ropes"] (ay uQ):=iR
theorem IZ:aG ["size","rope"] ["size","rope"] (ay w9):=iR
theorem Lw:aG ["size","one","other"] ["size","one","other"] (ay zf):=iR
theorem tY:aG ["self","town"] ["self","town"] (ay nP):=iR
theorem zm:(["rope","town"]:List Str).Nodup:=by decide +kernel
theorem qc:aG ["self","rope","wire","ahead"] ["self","rope","wire"] (ay sf):=iR
theorem BB:(["each","wire"]:List Str).Nodup:=by decide +kernel
theorem zo:aG ["self","rope","wire","ahead"] ["self","rope","wire"] (ay uR):=iR
theorem AM:aG ["self","rope"] ["self","rope"] (ay lz):=iR
theorem qI:aG ["self","rope","number","stand"] ["self","rope","number"] (ay lA):=iR
theorem yp:aG ["self","group"] ["self","group"] (ay sj):=iR
theorem BC:(["rope","group","self"]:List Str).Nodup:=by decide +kernel
theorem MW:aG ["town","rope"] ["town","rope"] (ay Br):=iR
theorem G2:aG ["group"] ["group"] (ay uS):=iR
theorem DV:aG ["self","letter","group"] ["self","letter","group"] (ay p6):=iR
theorem i7:aG ["self","town","callers"] ["self","town","callers"] (ay xg):=iR
theorem DW:(["bit","town"]:List Str).Nodup:=by decide +kernel
theorem DY:(["bit"]:List Str).Nodup:=by decide +kernel
theorem DZ:(["caller"]:List Str).Nodup:=by decide +kernel
theorem D0:(["caller"]:List Str).Nodup:=by decide +kernel
theorem D3:(["caller"]:List Str).Nodup:=by decide +kernel
theorem MX:aG ["self","group"] ["self","group"] (ay Bs):=iR
theorem MY:aG ["self","group"] ["self","group"] (ay Bt):=iR
theorem Lx:aG ["self","group"] ["self","group"] (ay zg):=iR
theorem Ly:aG ["self","group"] ["self","group"] (ay zh):=iR
theorem I0:aG ["self","house","group"] ["self","house","group"] (ay xh):=iR
theorem zp:aG ["self","house","group","ahead","row"] ["self","house","group"] (ay Bu):=iR
theorem EO:aG ["self","rope","wire","ended"] ["self","rope","wire"] (ay Bv):=iR
theorem G3:aG ["self","rope","wire","began"] ["self","rope","wire"] (ay DO):=iR
theorem tZ:aG ["self","sender","to","letter","number","house"] ["self","sender","to"] (ay iE):=iR
theorem Ja:aG ["self"] ["self"] (ay xj):=iR
theorem gj:aG ["self","at","landed","number","rope","house","posted","fate"] ["self","at"] (ay eX):=iR
theorem G4:aG ["self","posted","rope","house"] ["self","posted","rope","house"] (ay uT):=iR
theorem dO:aG ["self","number","house","came","posted","group","open_here","here","found","caller","rope"] ["self","number","house","came"] (ay p7):=iR
theorem mO:aG ["self","house","group","there"] ["self","house","group"] (ay nQ):=iR
theorem zq:(["caller","self","there"]:List Str).Nodup:=by decide +kernel
theorem zu:aG ["self","number","house","rope","posted","wire"] ["self","number","house","rope"] (ay Bw):=iR
theorem lD:aG ["self","rope","wire","left","flown"] ["self","rope","wire"] (ay mK):=iR
theorem vP:aG ["self","group","posted"] ["self","group"] (ay p8):=iR
theorem kj:aG ["self","rope","group"] ["self","rope"] (ay gX):=iR
theorem BD:aG ["self","house"] ["self","house"] (ay mL):=iR
theorem AN:aG ["self","caller"] ["self","caller"] (ay lB):=iR
theorem CI:aG ["self","sender","to"] ["self","sender","to"] (ay nR):=iR
theorem AU:aG ["town"] ["town"] (ay xm):=iR
theorem D4:(["house","town"]:List Str).Nodup:=by decide +kernel
theorem vQ:aG ["town","callers","caller"] ["town","callers"] (ay p9):=iR
theorem Lz:aG ["_law_script","_law_k"] ["_law_script","_law_k"] (ay zj):=iR
theorem Po:aG ["_law_found"] ["_law_found"] (ay DP):=iR
theorem J6:aG ["_law_found","_law_ought"] ["_law_found","_law_ought"] (ay GO):=iR
theorem LA:(["_law_one"]:List Str).Nodup:=by decide +kernel
theorem lE:aG ["_law_script","_law_size","_law_names_here","_law_k","_law_cell","_law_name"] ["_law_script","_law_size"] (ay DQ):=iR
theorem cZ:aG ["_law_script","_law_size","_law_group","_law_ropes_here","_law_many","_law_k","_law_cell","_law_one","_law_other","_law_rest","_law_cost","_law_lets"] ["_law_script","_law_size","_law_group"] (ay DR):=iR
theorem jW:aG ["_law_script","_law_size","_law_group","_law_callers_here","_law_most","_law_k","_law_cell","_law_place"] ["_law_script","_law_size","_law_group"] (ay zk):=iR
theorem J7:aG ["_law_ropes_here","_law_stood","_law_group"] ["_law_ropes_here","_law_stood","_law_group"] (ay GP):=iR
theorem LB:(["_law_k","_law_group","_law_ropes_here","_law_stood"]:List Str).Nodup:=by decide +kernel
theorem zv:aG ["_law_net","_law_size","_law_group","_law_turn","_law_house"] ["_law_net","_law_size","_law_group"] (ay Bx):=iR
theorem jH:aG ["_law_ropes_here","_law_live_here","_law_rows","_law_found","_law_rope","_law_one","_law_other","_law_cost","_law_low","_law_high"] ["_law_ropes_here","_law_live_here","_law_rows"] (ay DS):=iR
theorem vR:aG ["_law_net","_law_ropes_here","_law_stood","_law_rows","_law_notes","_law_rope","_law_ends","_law_group","_law_live_here","_law_ought"] ["_law_net","_law_ropes_here","_law_stood","_law_rows","_law_notes","_law_rope","_law_ends"] (ay GQ):=iR
theorem gY:aG ["_law_script","_law_size","_law_group","_law_ropes_here","_law_callers_here","_law_net","_law_rope","_law_stood","_law_cell","_law_turn","_law_wire","_law_rows","_law_notes","_law_was","_law_told","_law_changed"] ["_law_script"] (ay Vn):=iR
theorem Sv:(["_law_rope"]:List Str).Nodup:=by decide +kernel
theorem Sw:(["_law_one","_law_net"]:List Str).Nodup:=by decide +kernel
theorem Sx:(["_law_one","_law_net"]:List Str).Nodup:=by decide +kernel
set_option genInjectivity false in
structure Ad where
 (ko mP mQ mR kq vS sq dH jI gk fL jJ kr ku jK kB vU CJ MZ M0 xo vV CK kC pD pF iS jL pG kD kE mS pH gZ jM kG gm gn jN sr kH iT mT sA sC pI pJ mU sD sE vW mV kI iU ic sF gG iV dP gH gp ie mW iW pK vX zw vY vZ pL zz sG wc zA M2:Addr)
 (ow qR qS qU oz Ax xq kQ mX mY kR mZ oA oF m5 oG Ay FT QK QL FU Az FW oH t8 t9 kT m6 ua oJ oK qV uc jX m7 oM iF iG m8 xr oN kU qW xu xw ud ue qX xx xA AA qY oO kW jY xB ji kX fD jj iH jZ qZ kY uf AB CL AD AE ug CM xC AF CN M3:FuncData)
 iI:Addr
 xD:FuncData
 eY:Addr
 oQ:FuncData
 i8:Tok
 ig:Addr
 fE:Addr
 iJ:Addr
 iX:Addr
 aR:Addr
 cz:Addr
 dS:Addr
 cD:Addr
 we:Addr
 AG:Addr
 oS:Tok
 rm:Tok
 rz:Tok
 rA:Tok
 m9:Tok
 dI:Addr
structure Txt(K:af)(mg:Str->Option Value)(t:Ad):Prop where
 uU:MQ K t.dS "Book.__init__" uJ t.ko t.ow ["self"]
 CO:gW K t.dS "learn" "Book.learn" wY t.mP t.qR ["self","house","caller","rope"]
 CP:gW K t.dS "known" "Book.known" wZ t.mQ t.qS ["self","house","caller"]
 xE:gW K t.dS "notes" "Book.notes" w6 t.mR t.qU ["self"]
 uV:gW K t.dS "forget" "Book.forget" uK t.kq t.oz ["self"]
 J8:mJ K mg "targets" "targets" DL t.vS t.Ax ["book","letter","house","came","open_here","here"]
 G5:mJ K mg "ropes_on" "ropes_on" Bq t.sq t.xq ["book","sought","house","came","open_here","here"]
 qd:MQ K t.ig "Letter.__init__" pY t.dH t.kQ ["self","sender"]
 zB:gW K t.ig "meant" "Letter.meant" rZ t.jI t.mX ["self","caller"]
 nh:gW K t.ig "seeks" "Letter.seeks" r6 t.gk t.mY ["self"]
 kZ:gW K t.ig "number" "Letter.number" pZ t.fL t.kR ["self"]
 zC:MQ K t.fE "ToOne.__init__" r8 t.jJ t.mZ ["self","sender","to"]
 AV:gW K t.fE "meant" "ToOne.meant" uL t.kr t.oA ["self","caller"]
 uW:gW K t.fE "seeks" "ToOne.seeks" uM t.ku t.oF ["self"]
 sH:gW K t.fE "number" "ToOne.number" r9 t.jK t.m5 ["self"]
 AW:gW K t.iJ "meant" "ToAll.meant" uN t.kB t.oG ["self","caller"]
 D5:mJ K mg "own_row" "own_row" DM t.vU t.Ay ["town","house"]
 LC:mJ K mg "offer" "offer" Lp t.CJ t.FT ["town","row","rope"]
 YA:mJ K mg "due" "due" Vl t.MZ t.QK ["town","live","rows","house"]
 YB:mJ K mg "ups" "ups" Vm t.M0 t.QL ["town","live","rows"]
 CQ:mJ K mg "opens" "opens" Lq t.xo t.FU ["town","live","rows"]
 J9:mJ K mg "open_at" "open_at" DN t.vV t.Az ["town","live","rows","house"]
 QM:mJ K mg "up_of" "up_of" Lr t.CK t.FW ["town","live","rows","house"]
 AX:MQ K t.aR "Town.__init__" uO t.kC t.oH ["self","names","ropes"]
 ER:gW K t.aR "name" "Town.name" zc t.pD t.t8 ["self","house"]
 zD:gW K t.aR "rope" "Town.rope" zd t.pF t.t9 ["self","number"]
 k6:gW K t.aR "ropes_at" "Town.ropes_at" p5 t.iS t.kT ["self","house"]
 ni:gW K t.aR "far_end" "Town.far_end" se t.jL t.m6 ["self","rope","house"]
 zE:gW K t.aR "lets" "Town.lets" ze t.pG t.ua ["self","rope","group"]
 AY:mJ K mg "check_names" "check_names" uP t.kD t.oJ ["names"]
 AZ:mJ K mg "check_ropes" "check_ropes" uQ t.kE t.oK ["size","ropes"]
 CS:mJ K mg "check_rope" "check_rope" w9 t.mS t.qV ["size","rope"]
 ES:mJ K mg "joins_two" "joins_two" zf t.pH t.uc ["size","one","other"]
 wg:MQ K t.cz "Strands.__init__" nP t.gZ t.jX ["self","town"]
 sI:gW K t.cz "fall" "Strands.fall" sf t.jM t.m7 ["self","rope","wire"]
 uX:gW K t.cz "lay" "Strands.lay" uR t.kG t.oM ["self","rope","wire"]
 dM:gW K t.cz "standing" "Strands.standing" lz t.gm t.iF ["self","rope"]
 lF:gW K t.cz "wire_for" "Strands.wire_for" lA t.gn t.iG ["self","rope","number"]
 sJ:gW K t.cz "live" "Strands.live" sj t.jN t.m8 ["self","group"]
 BE:mJ K mg "wires_of" "wires_of" Br t.sr t.xr ["town","rope"]
 dW:mJ K mg "check_group" "check_group" uS t.kH t.oN ["group"]
 yq:MQ K t.iX "Posted.__init__" p6 t.iT t.kU ["self","letter","group"]
 CU:MQ K t.cD "Net.__init__" xg t.mT t.qW ["self","town","callers"]
 lG:gW K t.cD "rows" "Net.rows" Bs t.sA t.xu ["self","group"]
 sL:gW K t.cD "live" "Net.live" Bt t.sC t.xw ["self","group"]
 zF:gW K t.cD "opens" "Net.opens" zg t.pI t.ud ["self","group"]
 uh:gW K t.cD "notes" "Net.notes" zh t.pJ t.ue ["self","group"]
 CV:gW K t.cD "row_at" "Net.row_at" xh t.mU t.qX ["self","house","group"]
 G6:gW K t.cD "call" "Net.call" Bu t.sD t.xx ["self","house","group"]
 G7:gW K t.cD "fall" "Net.fall" Bv t.sE t.xA ["self","rope","wire"]
 Ka:gW K t.cD "lay" "Net.lay" DO t.vW t.AA ["self","rope","wire"]
 sM:Lj K "post" "Net.post" iE t.iI t.xD (.none)
 Pp:Binds K t.xD ["self","sender","to"] [.none]
 aah:Binds K t.xD ["self","sender","to"] []
 Pq:K2 K t.cD "post" t.iI
 xF:gW K t.cD "flying" "Net.flying" xj t.mV t.qY ["self"]
 kJ:Lj K "pass_on" "Net.pass_on" eX t.eY t.oQ (.int 0 t.i8)
 Jb:Binds K t.oQ ["self","at"] [.int 0 t.i8]
 Wg:Binds K t.oQ ["self","at"] []
 Jc:K2 K t.cD "pass_on" t.eY
 A0:gW K t.cD "fate_of" "Net.fate_of" uT t.kI t.oO ["self","posted","rope","house"]
 qe:gW K t.cD "do_letter" "Net.do_letter" p7 t.iU t.kW ["self","number","house","came"]
 wj:gW K t.cD "callers_at" "Net.callers_at" nQ t.ic t.jY ["self","house","group"]
 G8:gW K t.cD "send" "Net.send" Bw t.sF t.xB ["self","number","house","rope"]
 um:gW K t.cD "lose_copies" "Net.lose_copies" mK t.gG t.ji ["self","rope","wire"]
 qi:gW K t.cD "take_news" "Net.take_news" p8 t.iV t.kX ["self","group"]
 ir:gW K t.cD "take_news_of_rope" "Net.take_news_of_rope" gX t.dP t.fD ["self","rope"]
 uo:gW K t.cD "check_house" "Net.check_house" mL t.gH t.jj ["self","house"]
 lH:gW K t.cD "check_caller" "Net.check_caller" lB t.gp t.iH ["self","caller"]
 wk:gW K t.cD "check_pair" "Net.check_pair" nR t.ie t.jZ ["self","sender","to"]
 CY:mJ K mg "first_rows" "first_rows" xm t.mW t.qZ ["town"]
 yr:mJ K mg "check_callers" "check_callers" p9 t.iW t.kY ["town","callers"]
 fU:mJ K mg "_law_cell_at" "_law_cell_at" zj t.pK t.uf ["_law_script","_law_k"]
 Kc:mJ K mg "_law_whole" "_law_whole" DP t.vX t.AB ["_law_found"]
 G9:mJ K mg "_law_list" "_law_list" GO t.zw t.CL ["_law_found","_law_ought"]
 Kd:mJ K mg "_law_names" "_law_names" DQ t.vY t.AD ["_law_script","_law_size"]
 Ke:mJ K mg "_law_ropes" "_law_ropes" DR t.vZ t.AE ["_law_script","_law_size","_law_group"]
 ET:mJ K mg "_law_callers" "_law_callers" zk t.pL t.ug ["_law_script","_law_size","_law_group"]
 M4:mJ K mg "_law_live" "_law_live" GP t.zz t.CM ["_law_ropes_here","_law_stood","_law_group"]
 Hf:mJ K mg "_law_rounds" "_law_rounds" Bx t.sG t.xC ["_law_net","_law_size","_law_group"]
 Kf:mJ K mg "_law_opens" "_law_opens" DS t.wc t.AF ["_law_ropes_here","_law_live_here","_law_rows"]
 M5:mJ K mg "_law_look" "_law_look" GQ t.zA t.CN ["_law_net","_law_ropes_here","_law_stood","_law_rows","_law_notes","_law_rope","_law_ends"]
 Vp:mJ K mg "law" "law" Vn t.M2 t.M3 ["_law_script"]
 Hg:IJ K t.ig
 Vq:mg "Letter" = some (.ref t.ig)
 Ti:cT K t.ig "sender"
 YC:cT K t.ig "to"
 oU:IJ K t.fE
 Xe:mg "ToOne" = some (.ref t.fE)
 sN:cT K t.fE "sender"
 xG:cT K t.fE "to"
 xH:IJ K t.iJ
 Xf:mg "ToAll" = some (.ref t.iJ)
 nj:cT K t.iJ "sender"
 aai:cT K t.iJ "to"
 cU:IJ K t.iX
 Vr:mg "Posted" = some (.ref t.iX)
 gA:cT K t.iX "letter"
 jO:cT K t.iX "group"
 xJ:cT K t.iX "old"
 nS:cT K t.iX "done_at"
 iu:cT K t.iX "deeds"
 eG:IJ K t.aR
 aaj:mg "Town" = some (.ref t.aR)
 sO:cT K t.aR "house_names"
 gq:cT K t.aR "rope_tuples"
 lT:cT K t.aR "size"
 uq:cT K t.aR "many"
 c8:IJ K t.cz
 Sy:mg "Strands" = some (.ref t.cz)
 jP:cT K t.cz "town"
 fF:cT K t.cz "upright"
 xK:IJ K t.dS
 aak:mg "Book" = some (.ref t.dS)
 pM:cT K t.dS "kept"
 bD:IJ K t.cD
 acU:mg "Net" = some (.ref t.cD)
 lI:cT K t.cD "town"
 kK:cT K t.cD "strands"
 j7:cT K t.cD "rows_by_group"
 pN:cT K t.cD "books"
 pO:cT K t.cD "homes"
 nv:cT K t.cD "groups"
 CZ:cT K t.cD "handed"
 eZ:cT K t.cD "letters"
 iK:cT K t.cD "copies"
 zG:mg "opens_opens" = some (.ref t.xo)
 Jd:K2 K t.iJ "seeks" t.gk
 Hh:K2 K t.iJ "number" t.fL
 Xg:Mk K t.iJ t.dH
 D6:Ys K t.ig "__init__" t.dH
 Hi:mg "NoWire" = some (.ref t.we)
 Hj:UG K t.we
 Sz:mg "NoGroup" = some (.ref t.AG)
 SA:UG K t.AG
 Je:mg "MOST_HOUSES" = some (.int 10 t.oS)
 LD:mg "MOST_ROPES" = some (.int 20 t.rm)
 LF:mg "MOST_WIRES" = some (.int 4 t.rz)
 LG:mg "ALL_GROUPS" = some (.int 7 t.rA)
 Hl:mg "MOST_CALLERS" = some (.int 20 t.m9)
 j3:mg "GROUP_BITS" = some (.ref t.dI)
 e9:∀ H,cH K H t.dI [.int 1,.int 2,.int 4]
 jQ:mg "len" = none
 rB:mg "isinstance" = none
 acV:mg "int" = none
 Vs:mg "bool" = none
 xM:mg "list" = none
 gI:mg "range" = none
 M6:mg "enumerate" = none
 acW:mg "min" = none
 acX:mg "set" = none
 acY:mg "all" = none
 Ho:mg "sorted" = none
theorem Kg{α:Type}{M:List α->Prop}(h:∀ x0,M [x0]):∀ us:List α,us.length=1->M us
 | [_],_=>h _
theorem AO{α:Type}{M:List α->Prop}(h:∀ x0 x1,M [x0,x1]):∀ us:List α,us.length=2->M us
 | [_,_],_=>h _ _
theorem D7{α:Type}{M:List α->Prop}(h:∀ x0 x1 x2,M [x0,x1,x2]):∀ us:List α,us.length=3->M us
 | [_,_,_],_=>h _ _ _
theorem el4{α:Type}{M:List α->Prop}(h:∀ x0 x1 x2 x3,M [x0,x1,x2,x3]):∀ us:List α,us.length=4->M us
 | [_,_,_,_],_=>h _ _ _ _
theorem el6{α:Type}{M:List α->Prop}(h:∀ x0 x1 x2 x3 x4 x5,M [x0,x1,x2,x3,x4,x5]):∀ us:List α,us.length=6->M us
 | [_,_,_,_,_,_],_=>h _ _ _ _ _ _
theorem el7{α:Type}{M:List α->Prop}(h:∀ x0 x1 x2 x3 x4 x5 x6,M [x0,x1,x2,x3,x4,x5,x6]):∀ us:List α,us.length=7->M us
 | [_,_,_,_,_,_,_],_=>h _ _ _ _ _ _ _
theorem aam{K:af}{h:Heap}{mg:Str->Option Value}(X:K.In h)(G:h.Ns mainGlobals mg){ko mP mQ mR kq vS sq dH jI gk fL jJ kr ku jK kB vU CJ MZ M0 xo vV CK kC pD pF iS jL pG kD kE mS pH gZ jM kG gm gn jN sr kH iT mT sA sC pI pJ mU sD sE vW mV kI iU ic sF gG iV dP gH gp ie mW iW pK vX zw vY vZ pL zz sG wc zA M2:Addr}
 {M7 EU EV EW zH EX:Value} {M8 EY:Option Addr} {M9:Array (Option Value)} {iI:Addr}
 {BF:Addr} {LH:Option Addr} {Na:Nat} {LI:Array (Option Value)}
 {Hq zI zJ zK sP zL:Value} {Hr zM:Option Addr} {Hs:Array (Option Value)} {eY:Addr}
 {uY:Addr} {Fv:Option Addr} {Ht:Nat} {Fw:Array (Option Value)}
 {i8:Tok}
 {iY:Addr}
 {rC:Addr}
 {rD:Addr}
 {ny:Addr}
 {nU:Addr}
 {iw:Addr}
 {xN:Addr}
 {fG:Addr}
 {Hu:Addr}
 {D8:Addr}
 {oS:Tok}
 {rm:Tok}
 {rz:Tok}
 {rA:Tok}
 {m9:Tok}
 {dI:Addr} {Jf:Option Addr} {LJ:Nat} {Jg Jh Ji:Tok} {Jj:Array (Option Value)}
 (D9:bF K mainGlobals "Letter" = some (some (.ref iY)))
 (Hv:bF K mainGlobals "ToOne" = some (some (.ref rC)))
 (Hw:bF K mainGlobals "ToAll" = some (some (.ref rD)))
 (Ea:bF K mainGlobals "Posted" = some (some (.ref ny)))
 (LK:bF K mainGlobals "Town" = some (some (.ref nU)))
 (BG:bF K mainGlobals "Strands" = some (some (.ref iw)))
 (LL:bF K mainGlobals "Book" = some (some (.ref xN)))
 (Pr:bF K mainGlobals "Net" = some (some (.ref fG)))
 (uZ:EM K xN "__init__" "Book.__init__" uJ ko)
 (xO:EM K xN "learn" "Book.learn" wY mP)
 (xP:EM K xN "known" "Book.known" wZ mQ)
 (xQ:EM K xN "notes" "Book.notes" w6 mR)
 (u0:EM K xN "forget" "Book.forget" uK kq)
 (Eb:EG K mg "targets" "targets" DL vS)
 (BH:EG K mg "ropes_on" "ropes_on" Bq sq)
 (qj:EM K iY "__init__" "Letter.__init__" pY dH)
 (sQ:EM K iY "meant" "Letter.meant" rZ jI)
 (sR:EM K iY "seeks" "Letter.seeks" r6 gk)
 (qk:EM K iY "number" "Letter.number" pZ fL)
 (sU:EM K rC "__init__" "ToOne.__init__" r8 jJ)
 (u9:EM K rC "meant" "ToOne.meant" uL kr)
 (vc:EM K rC "seeks" "ToOne.seeks" uM ku)
 (sV:EM K rC "number" "ToOne.number" r9 jK)
 (vd:EM K rD "meant" "ToAll.meant" uN kB)
 (Ec:EG K mg "own_row" "own_row" DM vU)
 (LM:EG K mg "offer" "offer" Lp CJ)
 (Vt:EG K mg "due" "due" Vl MZ)
 (Vu:EG K mg "ups" "ups" Vm M0)
 (LN:EG K mg "opens" "opens" Lq xo)
 (Ed:EG K mg "open_at" "open_at" DN vV)
 (LO:EG K mg "up_of" "up_of" Lr CK)
 (ve:EM K nU "__init__" "Town.__init__" uO kC)
 (zN:EM K nU "name" "Town.name" zc pD)
 (zO:EM K nU "rope" "Town.rope" zd pF)
 (ql:EM K nU "ropes_at" "Town.ropes_at" p5 iS)
 (sW:EM K nU "far_end" "Town.far_end" se jL)
 (zP:EM K nU "lets" "Town.lets" ze pG)
 (vf:EG K mg "check_names" "check_names" uP kD)
 (vg:EG K mg "check_ropes" "check_ropes" uQ kE)
 (xR:EG K mg "check_rope" "check_rope" w9 mS)
 (zQ:EG K mg "joins_two" "joins_two" zf pH)
 (nV:EM K iw "__init__" "Strands.__init__" nP gZ)
 (sX:EM K iw "fall" "Strands.fall" sf jM)
 (vh:EM K iw "lay" "Strands.lay" uR kG)
 (lJ:EM K iw "standing" "Strands.standing" lz gm)
 (lK:EM K iw "wire_for" "Strands.wire_for" lA gn)
 (sY:EM K iw "live" "Strands.live" sj jN)
 (BI:EG K mg "wires_of" "wires_of" Br sr)
 (vj:EG K mg "check_group" "check_group" uS kH)
 (qm:EM K ny "__init__" "Posted.__init__" p6 iT)
 (xS:EM K fG "__init__" "Net.__init__" xg mT)
 (BJ:EM K fG "rows" "Net.rows" Bs sA)
 (BK:EM K fG "live" "Net.live" Bt sC)
 (zR:EM K fG "opens" "Net.opens" zg pI)
 (zS:EM K fG "notes" "Net.notes" zh pJ)
 (xU:EM K fG "row_at" "Net.row_at" xh mU)
 (BL:EM K fG "call" "Net.call" Bu sD)
 (BN:EM K fG "fall" "Net.fall" Bv sE)
 (Ef:EM K fG "lay" "Net.lay" DO vW)
 (BO:aE K (.ref fG) "post" = some (some (.ref iI)))
 (BP:PySem.W.isFn K (.ref iI)=true)
 (BQ:K.lookup iI=some ⟨M7,M8,.func (dU "post" "Net.post" (jg iE) (fC iE) (ay iE) (.ref BF) EU EV EW EY zH EX),M9⟩)
 (BR:i9 K zH "Net.post" = true)
 (xV:dD K (.ref iI)=true)
 (zT:K.lookup BF=some ⟨.type "tuple",LH,.seq #[.none] Na,LI⟩)
 (xW:EM K fG "flying" "Net.flying" xj mV)
 (vm:aE K (.ref fG) "pass_on" = some (some (.ref eY)))
 (vn:PySem.W.isFn K (.ref eY)=true)
 (vp:K.lookup eY=some ⟨Hq,Hr,.func (dU "pass_on" "Net.pass_on" (jg eX) (fC eX) (ay eX) (.ref uY) zI zJ zK zM sP zL),Hs⟩)
 (vq:i9 K sP "Net.pass_on" = true)
 (oV:dD K (.ref eY)=true)
 (sZ:K.lookup uY=some ⟨.type "tuple",Fv,.seq #[.int 0 i8] Ht,Fw⟩)
 (vt:EM K fG "fate_of" "Net.fate_of" uT kI)
 (qo:EM K fG "do_letter" "Net.do_letter" p7 iU)
 (nW:EM K fG "callers_at" "Net.callers_at" nQ ic)
 (BS:EM K fG "send" "Net.send" Bw sF)
 (nA:EM K fG "lose_copies" "Net.lose_copies" mK gG)
 (qq:EM K fG "take_news" "Net.take_news" p8 iV)
 (iy:EM K fG "take_news_of_rope" "Net.take_news_of_rope" gX dP)
 (nB:EM K fG "check_house" "Net.check_house" mL gH)
 (lM:EM K fG "check_caller" "Net.check_caller" lB gp)
 (nX:EM K fG "check_pair" "Net.check_pair" nR ie)
 (xX:EG K mg "first_rows" "first_rows" xm mW)
 (qt:EG K mg "check_callers" "check_callers" p9 iW)
 (zU:EG K mg "_law_cell_at" "_law_cell_at" zj pK)
 (Eg:EG K mg "_law_whole" "_law_whole" DP vX)
 (Hy:EG K mg "_law_list" "_law_list" GO zw)
 (Eh:EG K mg "_law_names" "_law_names" DQ vY)
 (Ei:EG K mg "_law_ropes" "_law_ropes" DR vZ)
 (zV:EG K mg "_law_callers" "_law_callers" zk pL)
 (Hz:EG K mg "_law_live" "_law_live" GP zz)
 (BU:EG K mg "_law_rounds" "_law_rounds" Bx sG)
 (Ej:EG K mg "_law_opens" "_law_opens" DS wc)
 (HA:EG K mg "_law_look" "_law_look" GQ zA)
 (Vv:EG K mg "law" "law" Vn M2)
 (zW:EC K iY)
 (nY:aE K (.ref iY) "sender" = some none)
 (xY:aE K (.ref iY) "to" = some none)
 (C0:EC K rC)
 (qu:aE K (.ref rC) "sender" = some none)
 (zX:aE K (.ref rC) "to" = some none)
 (C1:EC K rD)
 (qv:aE K (.ref rD) "sender" = some none)
 (zY:aE K (.ref rD) "to" = some none)
 (zZ:EC K ny)
 (nZ:aE K (.ref ny) "letter" = some none)
 (qw:aE K (.ref ny) "group" = some none)
 (vz:aE K (.ref ny) "old" = some none)
 (nC:aE K (.ref ny) "done_at" = some none)
 (qz:aE K (.ref ny) "deeds" = some none)
 (HB:EC K nU)
 (j8:aE K (.ref nU) "house_names" = some none)
 (j9:aE K (.ref nU) "rope_tuples" = some none)
 (xZ:aE K (.ref nU) "size" = some none)
 (x8:aE K (.ref nU) "many" = some none)
 (wm:EC K iw)
 (qA:aE K (.ref iw) "town" = some none)
 (lN:aE K (.ref iw) "upright" = some none)
 (HC:EC K xN)
 (x9:aE K (.ref xN) "kept" = some none)
 (Nb:EC K fG)
 (z6:aE K (.ref fG) "town" = some none)
 (tw:aE K (.ref fG) "strands" = some none)
 (jR:aE K (.ref fG) "rows_by_group" = some none)
 (ya:aE K (.ref fG) "books" = some none)
 (yb:aE K (.ref fG) "homes" = some none)
 (vA:aE K (.ref fG) "groups" = some none)
 (vB:aE K (.ref fG) "handed" = some none)
 (tD:aE K (.ref fG) "letters" = some none)
 (vC:aE K (.ref fG) "copies" = some none)
 (tE:bF K mainGlobals "opens_opens" = some (some (.ref xo)))
 (tF:aE K (.ref rD) "seeks" = some (some (.ref gk)))
 (qB:aE K (.ref rD) "number" = some (some (.ref fL)))
 (HD:aE K (.ref rD) "__init__" = some (some (.ref dH)))
 (n9:PySem.W.specialIn K (.ref iY) "__getattribute__" = some (some (.builtin "type.__getattribute__")))
 (oh:PySem.W.readsIn K iY (.type "type")=true)
 (oi:PySem.W.findCls K (.ref iY) (.type "type") "__init__" = some (.val (.ref dH)))
 (Ek:bF K mainGlobals "NoWire" = some (some (.ref Hu)))
 (El:UG K Hu)
 (BV:bF K mainGlobals "NoGroup" = some (some (.ref D8)))
 (BW:UG K D8)
 (vD:bF K mainGlobals "MOST_HOUSES" = some (some (.int 10 oS)))
 (yc:bF K mainGlobals "MOST_ROPES" = some (some (.int 20 rm)))
 (yd:bF K mainGlobals "MOST_WIRES" = some (some (.int 4 rz)))
 (ye:bF K mainGlobals "ALL_GROUPS" = some (some (.int 7 rA)))
 (tG:bF K mainGlobals "MOST_CALLERS" = some (some (.int 20 m9)))
 (yf:bF K mainGlobals "GROUP_BITS" = some (some (.ref dI)))
 (yg:K.lookup dI=some ⟨.type "tuple",Jf,.seq #[.int 1 Jg,.int 2 Jh,.int 4 Ji] LJ,Jj⟩)
 (Vw:bF K mainGlobals "len" = some none)
 (yh:bF K mainGlobals "isinstance" = some none)
 (Vx:bF K mainGlobals "int" = some none)
 (Pu:bF K mainGlobals "bool" = some none)
 (Pw:bF K mainGlobals "list" = some none)
 (LP:bF K mainGlobals "range" = some none)
 (z7:bF K mainGlobals "enumerate" = some none)
 (Vy:bF K mainGlobals "min" = some none)
 (Vz:bF K mainGlobals "set" = some none)
 (VA:bF K mainGlobals "all" = some none)
 (HE:bF K mainGlobals "sorted" = some none):∃ t,Txt K mg t:=by
 obtain⟨ow,A1,A2⟩:=uZ
 obtain⟨qR,C2,LQ⟩:=xO
 obtain⟨qS,C3,LR⟩:=xP
 obtain⟨qU,C4,LU⟩:=xQ
 obtain⟨oz,A3,Jk⟩:=u0
 obtain⟨Ax,Kh,SE⟩:=Eb
 obtain⟨xq,HF,Px⟩:=BH
 obtain⟨kQ,yt,k7⟩:=qj
 obtain⟨mX,z8,HG⟩:=sQ
 obtain⟨mY,z9,tH⟩:=sR
 obtain⟨kR,yu,qC⟩:=qk
 obtain⟨mZ,Aa,Ab⟩:=sU
 obtain⟨oA,A4,Jl⟩:=u9
 obtain⟨oF,A5,Jm⟩:=vc
 obtain⟨m5,Ac,HH⟩:=sV
 obtain⟨oG,A6,Jo⟩:=vd
 obtain⟨Ay,Kl,SG⟩:=Ec
 obtain⟨FT,QN,Xh⟩:=LM
 obtain⟨QK,YD,acZ⟩:=Vt
 obtain⟨QL,YE,ac0⟩:=Vu
 obtain⟨FU,QO,Xi⟩:=LN
 obtain⟨Az,Km,SH⟩:=Ed
 obtain⟨FW,QS,Xj⟩:=LO
 obtain⟨oH,A7,A8⟩:=ve
 obtain⟨t8,EZ,Nc⟩:=zN
 obtain⟨t9,E1,Nd⟩:=zO
 obtain⟨kT,yv,Fx⟩:=ql
 obtain⟨m6,Ae,HJ⟩:=sW
 obtain⟨ua,E2,Ng⟩:=zP
 obtain⟨oJ,A9,Jp⟩:=vf
 obtain⟨oK,Ba,Jq⟩:=vg
 obtain⟨qV,C5,LV⟩:=xR
 obtain⟨uc,E3,Nh⟩:=zQ
 obtain⟨jX,wo,wu⟩:=nV
 obtain⟨m7,Af,HK⟩:=sX
 obtain⟨oM,Bb,Jr⟩:=vh
 obtain⟨iF,tK,BX⟩:=lJ
 obtain⟨iG,tL,BY⟩:=lK
 obtain⟨m8,Ag,HL⟩:=sY
 obtain⟨xr,HM,Py⟩:=BI
 obtain⟨oN,Bc,Js⟩:=vj
 obtain⟨kU,yw,yx⟩:=qm
 obtain⟨qW,C6,C7⟩:=xS
 obtain⟨xu,HN,Pz⟩:=BJ
 obtain⟨xw,HP,PB⟩:=BK
 obtain⟨ud,E4,Ni⟩:=zR
 obtain⟨ue,E5,Nj⟩:=zS
 obtain⟨qX,C8,LW⟩:=xU
 obtain⟨xx,HQ,PD⟩:=BL
 obtain⟨xA,HR,PF⟩:=BN
 obtain⟨AA,Kn,SJ⟩:=Ef
 have sM:=QF (st:=iE) BQ BR xV zT rfl
 obtain⟨qY,C9,LX⟩:=xW
 have kJ:=QF (st:=eX) vp vq oV sZ rfl
 obtain⟨oO,Be,Jt⟩:=vt
 obtain⟨kW,yy,Fy⟩:=qo
 obtain⟨jY,wz,Em⟩:=nW
 obtain⟨xB,HS,PJ⟩:=BS
 obtain⟨ji,ur,Dc⟩:=nA
 obtain⟨kX,yz,Fz⟩:=qq
 obtain⟨fD,lU,wA⟩:=iy
 obtain⟨jj,uu,Dd⟩:=nB
 obtain⟨iH,tM,BZ⟩:=lM
 obtain⟨jZ,wB,En⟩:=nX
 obtain⟨qZ,De,LY⟩:=xX
 obtain⟨kY,yC,FA⟩:=qt
 obtain⟨uf,E6,Nk⟩:=zU
 obtain⟨AB,Ko,SK⟩:=Eg
 obtain⟨CL,Nl,VB⟩:=Hy
 obtain⟨AD,Kq,SM⟩:=Eh
 obtain⟨AE,Kr,SN⟩:=Ei
 obtain⟨ug,E7,Nm⟩:=zV
 obtain⟨CM,Np,VC⟩:=Hz
 obtain⟨xC,HU,PK⟩:=BU
 obtain⟨AF,Ks,SO⟩:=Ej
 obtain⟨CN,Nq,VD⟩:=HA
 obtain⟨M3,YF,ac1⟩:=Vv
 exact⟨⟨ko,mP,mQ,mR,kq,vS,sq,dH,jI,gk,fL,jJ,kr,ku,jK,kB,vU,CJ,MZ,M0,xo,vV,CK,kC,pD,pF,iS,jL,pG,kD,kE,mS,pH,gZ,jM,kG,gm,gn,jN,sr,kH,iT,mT,sA,sC,pI,pJ,mU,sD,sE,vW,mV,kI,iU,ic,sF,gG,iV,dP,gH,gp,ie,mW,iW,pK,vX,zw,vY,vZ,pL,zz,sG,wc,zA,M2,ow,qR,qS,qU,oz,Ax,xq,kQ,mX,mY,kR,mZ,oA,oF,m5,oG,Ay,FT,QK,QL,FU,Az,FW,oH,t8,t9,kT,m6,ua,oJ,oK,qV,uc,jX,m7,oM,iF,iG,m8,xr,oN,kU,qW,xu,xw,ud,ue,qX,xx,xA,AA,qY,oO,kW,jY,xB,ji,kX,fD,jj,iH,jZ,qZ,kY,uf,AB,CL,AD,AE,ug,CM,xC,AF,CN,M3,iI,(dU "post" "Net.post" (jg iE) (fC iE) (ay iE) (.ref BF) EU EV EW EY zH EX),eY,(dU "pass_on" "Net.pass_on" (jg eX) (fC eX) (ay eX) (.ref uY) zI zJ zK zM sP zL),i8,iY,rC,rD,ny,nU,iw,xN,fG,Hu,D8,oS,rm,rz,rA,m9,dI⟩,⟨⟨A1,A1.binds λ_ _ _ _ _ _=>Kg λ_=>rfl,⟨HC.Yw,A2.at_,A2.fn,HC.kc⟩⟩,
  ⟨C2,C2.binds λ_ _ _ _ _ _=>el4 λ_ _ _ _=>rfl,LQ⟩,
  ⟨C3,C3.binds λ_ _ _ _ _ _=>D7 λ_ _ _=>rfl,LR⟩,
  ⟨C4,C4.binds λ_ _ _ _ _ _=>Kg λ_=>rfl,LU⟩,
  ⟨A3,A3.binds λ_ _ _ _ _ _=>Kg λ_=>rfl,Jk⟩,
  ⟨Kh,Kh.binds λ_ _ _ _ _ _=>el6 λ_ _ _ _ _ _=>rfl,SE⟩,
  ⟨HF,HF.binds λ_ _ _ _ _ _=>el6 λ_ _ _ _ _ _=>rfl,Px⟩,
  ⟨yt,yt.binds λ_ _ _ _ _ _=>AO λ_ _=>rfl,⟨zW.Yw,k7.at_,k7.fn,zW.kc⟩⟩,
  ⟨z8,z8.binds λ_ _ _ _ _ _=>AO λ_ _=>rfl,HG⟩,
  ⟨z9,z9.binds λ_ _ _ _ _ _=>Kg λ_=>rfl,tH⟩,
  ⟨yu,yu.binds λ_ _ _ _ _ _=>Kg λ_=>rfl,qC⟩,
  ⟨Aa,Aa.binds λ_ _ _ _ _ _=>D7 λ_ _ _=>rfl,⟨C0.Yw,Ab.at_,Ab.fn,C0.kc⟩⟩,
  ⟨A4,A4.binds λ_ _ _ _ _ _=>AO λ_ _=>rfl,Jl⟩,
  ⟨A5,A5.binds λ_ _ _ _ _ _=>Kg λ_=>rfl,Jm⟩,
  ⟨Ac,Ac.binds λ_ _ _ _ _ _=>Kg λ_=>rfl,HH⟩,
  ⟨A6,A6.binds λ_ _ _ _ _ _=>AO λ_ _=>rfl,Jo⟩,
  ⟨Kl,Kl.binds λ_ _ _ _ _ _=>AO λ_ _=>rfl,SG⟩,
  ⟨QN,QN.binds λ_ _ _ _ _ _=>D7 λ_ _ _=>rfl,Xh⟩,
  ⟨YD,YD.binds λ_ _ _ _ _ _=>el4 λ_ _ _ _=>rfl,acZ⟩,
  ⟨YE,YE.binds λ_ _ _ _ _ _=>D7 λ_ _ _=>rfl,ac0⟩,
  ⟨QO,QO.binds λ_ _ _ _ _ _=>D7 λ_ _ _=>rfl,Xi⟩,
  ⟨Km,Km.binds λ_ _ _ _ _ _=>el4 λ_ _ _ _=>rfl,SH⟩,
  ⟨QS,QS.binds λ_ _ _ _ _ _=>el4 λ_ _ _ _=>rfl,Xj⟩,
  ⟨A7,A7.binds λ_ _ _ _ _ _=>D7 λ_ _ _=>rfl,⟨HB.Yw,A8.at_,A8.fn,HB.kc⟩⟩,
  ⟨EZ,EZ.binds λ_ _ _ _ _ _=>AO λ_ _=>rfl,Nc⟩,
  ⟨E1,E1.binds λ_ _ _ _ _ _=>AO λ_ _=>rfl,Nd⟩,
  ⟨yv,yv.binds λ_ _ _ _ _ _=>AO λ_ _=>rfl,Fx⟩,
  ⟨Ae,Ae.binds λ_ _ _ _ _ _=>D7 λ_ _ _=>rfl,HJ⟩,
  ⟨E2,E2.binds λ_ _ _ _ _ _=>D7 λ_ _ _=>rfl,Ng⟩,
  ⟨A9,A9.binds λ_ _ _ _ _ _=>Kg λ_=>rfl,Jp⟩,
  ⟨Ba,Ba.binds λ_ _ _ _ _ _=>AO λ_ _=>rfl,Jq⟩,
  ⟨C5,C5.binds λ_ _ _ _ _ _=>AO λ_ _=>rfl,LV⟩,
  ⟨E3,E3.binds λ_ _ _ _ _ _=>D7 λ_ _ _=>rfl,Nh⟩,
  ⟨wo,wo.binds λ_ _ _ _ _ _=>AO λ_ _=>rfl,⟨wm.Yw,wu.at_,wu.fn,wm.kc⟩⟩,
  ⟨Af,Af.binds λ_ _ _ _ _ _=>D7 λ_ _ _=>rfl,HK⟩,
  ⟨Bb,Bb.binds λ_ _ _ _ _ _=>D7 λ_ _ _=>rfl,Jr⟩,
  ⟨tK,tK.binds λ_ _ _ _ _ _=>AO λ_ _=>rfl,BX⟩,
  ⟨tL,tL.binds λ_ _ _ _ _ _=>D7 λ_ _ _=>rfl,BY⟩,
  ⟨Ag,Ag.binds λ_ _ _ _ _ _=>AO λ_ _=>rfl,HL⟩,
  ⟨HM,HM.binds λ_ _ _ _ _ _=>AO λ_ _=>rfl,Py⟩,
  ⟨Bc,Bc.binds λ_ _ _ _ _ _=>Kg λ_=>rfl,Js⟩,
  ⟨yw,yw.binds λ_ _ _ _ _ _=>D7 λ_ _ _=>rfl,⟨zZ.Yw,yx.at_,yx.fn,zZ.kc⟩⟩,
  ⟨C6,C6.binds λ_ _ _ _ _ _=>D7 λ_ _ _=>rfl,⟨Nb.Yw,C7.at_,C7.fn,Nb.kc⟩⟩,
  ⟨HN,HN.binds λ_ _ _ _ _ _=>AO λ_ _=>rfl,Pz⟩,
  ⟨HP,HP.binds λ_ _ _ _ _ _=>AO λ_ _=>rfl,PB⟩,
  ⟨E4,E4.binds λ_ _ _ _ _ _=>AO λ_ _=>rfl,Ni⟩,
  ⟨E5,E5.binds λ_ _ _ _ _ _=>AO λ_ _=>rfl,Nj⟩,
  ⟨C8,C8.binds λ_ _ _ _ _ _=>D7 λ_ _ _=>rfl,LW⟩,
  ⟨HQ,HQ.binds λ_ _ _ _ _ _=>D7 λ_ _ _=>rfl,PD⟩,
  ⟨HR,HR.binds λ_ _ _ _ _ _=>D7 λ_ _ _=>rfl,PF⟩,
  ⟨Kn,Kn.binds λ_ _ _ _ _ _=>D7 λ_ _ _=>rfl,SJ⟩,
  sM,
  (sM.binds (ps:=["self","sender","to"]) (ds:=[.none]) (m:=2) rfl λ_ _ _ _ _ _ _=>AO λ_ _=>⟨_,rfl,rfl⟩),
  (sM.binds (ps:=["self","sender","to"]) (ds:=[]) (m:=3) rfl λ_ _ _ _ _ _ _=>D7 λ_ _ _=>⟨_,rfl,rfl⟩),
  ⟨BO,BP,xV⟩,
  ⟨C9,C9.binds λ_ _ _ _ _ _=>Kg λ_=>rfl,LX⟩,
  kJ,
  (kJ.binds (ps:=["self","at"]) (ds:=[.int 0 i8]) (m:=1) rfl λ_ _ _ _ _ _ _=>Kg λ_=>⟨_,rfl,rfl⟩),
  (kJ.binds (ps:=["self","at"]) (ds:=[]) (m:=2) rfl λ_ _ _ _ _ _ _=>AO λ_ _=>⟨_,rfl,rfl⟩),
  ⟨vm,vn,oV⟩,
  ⟨Be,Be.binds λ_ _ _ _ _ _=>el4 λ_ _ _ _=>rfl,Jt⟩,
  ⟨yy,yy.binds λ_ _ _ _ _ _=>el4 λ_ _ _ _=>rfl,Fy⟩,
  ⟨wz,wz.binds λ_ _ _ _ _ _=>D7 λ_ _ _=>rfl,Em⟩,
  ⟨HS,HS.binds λ_ _ _ _ _ _=>el4 λ_ _ _ _=>rfl,PJ⟩,
  ⟨ur,ur.binds λ_ _ _ _ _ _=>D7 λ_ _ _=>rfl,Dc⟩,
  ⟨yz,yz.binds λ_ _ _ _ _ _=>AO λ_ _=>rfl,Fz⟩,
  ⟨lU,lU.binds λ_ _ _ _ _ _=>AO λ_ _=>rfl,wA⟩,
  ⟨uu,uu.binds λ_ _ _ _ _ _=>AO λ_ _=>rfl,Dd⟩,
  ⟨tM,tM.binds λ_ _ _ _ _ _=>AO λ_ _=>rfl,BZ⟩,
  ⟨wB,wB.binds λ_ _ _ _ _ _=>D7 λ_ _ _=>rfl,En⟩,
  ⟨De,De.binds λ_ _ _ _ _ _=>Kg λ_=>rfl,LY⟩,
  ⟨yC,yC.binds λ_ _ _ _ _ _=>AO λ_ _=>rfl,FA⟩,
  ⟨E6,E6.binds λ_ _ _ _ _ _=>AO λ_ _=>rfl,Nk⟩,
  ⟨Ko,Ko.binds λ_ _ _ _ _ _=>Kg λ_=>rfl,SK⟩,
  ⟨Nl,Nl.binds λ_ _ _ _ _ _=>AO λ_ _=>rfl,VB⟩,
  ⟨Kq,Kq.binds λ_ _ _ _ _ _=>AO λ_ _=>rfl,SM⟩,
  ⟨Kr,Kr.binds λ_ _ _ _ _ _=>D7 λ_ _ _=>rfl,SN⟩,
  ⟨E7,E7.binds λ_ _ _ _ _ _=>D7 λ_ _ _=>rfl,Nm⟩,
  ⟨Np,Np.binds λ_ _ _ _ _ _=>D7 λ_ _ _=>rfl,VC⟩,
  ⟨HU,HU.binds λ_ _ _ _ _ _=>D7 λ_ _ _=>rfl,PK⟩,
  ⟨Ks,Ks.binds λ_ _ _ _ _ _=>D7 λ_ _ _=>rfl,SO⟩,
  ⟨Nq,Nq.binds λ_ _ _ _ _ _=>el7 λ_ _ _ _ _ _ _=>rfl,VD⟩,
  ⟨YF,YF.binds λ_ _ _ _ _ _=>Kg λ_=>rfl,ac1⟩,
  zW.c,
  (cK X G D9),
  nY,
  xY,
  C0.c,
  (cK X G Hv),
  qu,
  zX,
  C1.c,
  (cK X G Hw),
  qv,
  zY,
  zZ.c,
  (cK X G Ea),
  nZ,
  qw,
  vz,
  nC,
  qz,
  HB.c,
  (cK X G LK),
  j8,
  j9,
  xZ,
  x8,
  wm.c,
  (cK X G BG),
  qA,
  lN,
  HC.c,
  (cK X G LL),
  x9,
  Nb.c,
  (cK X G Pr),
  z6,
  tw,
  jR,
  ya,
  yb,
  vA,
  vB,
  tD,
  vC,
  (cK X G tE),
  ⟨tF,tH.fn,tH.kp⟩,
  ⟨qB,qC.fn,qC.kp⟩,
  ⟨C1.Yw,HD,k7.fn,C1.kc⟩,
  ⟨n9,oh,oi,k7.kp⟩,
  (cK X G Ek),
  El,
  (cK X G BV),
  BW,
  (cK X G vD),
  (cK X G yc),
  (cK X G yd),
  (cK X G ye),
  (cK X G tG),
  (cK X G yf),
  (λH=>.inr ⟨_,_,_,yg,rfl,rfl,(by show 3<=sizeLine; decide),(.cons ⟨_,rfl⟩ (.cons ⟨_,rfl⟩ (.cons ⟨_,rfl⟩ .nil)))⟩),
  (cX X G Vw),
  (cX X G yh),
  (cX X G Vx),
  (cX X G Pu),
  (cX X G Pw),
  (cX X G LP),
  (cX X G z7),
  (cX X G Vy),
  (cX X G Vz),
  (cX X G VA),
  (cX X G HE)⟩⟩
end gi
namespace gi
open PySem L2 TW PyProof.Rows
open RM (cR lW bC be)
seal L2.PE L2.PA L2.PT L2.PW L2.PS L2.jn L2.PG L2.om L2.PI L2.oq
theorem aU{CX:RJ}{P:Program}{w:World}{K:af}{mg:Str->Option Value}{base:Heap}{N:List Str}{qual:Str}{scope:Scope}{f:Addr}{cd:Value}{A:Around}{outer:List Env}{s:Shared}{H:Hp}{E:XK}:(nN CX P w K mg base N qual scope f cd A outer s H E).K=K:=rfl
section
variable{P:Program}{w:World}{K:af}{mg:Str->Option Value}{base:Heap}
inductive QT(vs:List V)(H:Hp)(Q:VK)(E:XK):Prop
 | mk (i:Int):vs = [.int i]->Q (.bl true) H->QT  vs H Q E
theorem PL{t:Ad}(T:Txt K mg t):bV P w K mg base gO 1 t.vX t.AB ["_law_found"]  QT:=by
 refine T.Kc.F.jo Po λH Q E hr h=>?_
 ·obtain⟨i,rfl,k⟩:=h
  refine⟨_,(oR (Gc (cB Gp T.rB boot_isinstance (mH (pv 0) (FJ rfl T.acV boot_int (v:=.ty "int") rfl))) (Ov (Tw (cB Gp T.rB boot_isinstance (mH (pv 0) (FJ rfl T.Vs boot_bool (v:=.ty "bool") rfl))))))),?_⟩
  try dsimp only[aU]
  refine⟨_,rfl,_,_,_,_,rfl,.int _,rfl,_,rfl,eW ?_⟩
  refine⟨_,rfl,_,_,_,_,rfl,.int _,rfl,_,rfl,?_⟩
  exact k
inductive VE(K:af)(vs:List V)(H:Hp)(Q:VK)(E:XK):Prop
 | mk (a:Addr) (ns:List Int) (k:Int):vs = [.ref a,.int k]->bJ K H a (ns.map V.int)->0<=k->Q (.int (ns.getD k.toNat 0)) H->VE K vs H Q E
theorem fT{t:Ad}(T:Txt K mg t):bV P w K mg base gO 1 t.pK t.uf ["_law_script","_law_k"]  (VE K):=by
 refine T.fU.F.jo Lz λH Q E hr h=>?_
 ·obtain⟨a,ns,i,rfl,hS,h0,k⟩:=h
  refine⟨_,(ak (cC (qT tR (pv 1) (lS T.jQ (pv 0))) (oR (xL (pv 0) (pv 1))) aX) (oR aA)),?_⟩
  try dsimp only[aU]
  refine⟨_,rfl,_,rfl,a,_,rfl,.inl hS,_,_,rfl,rfl,_,rfl,?_⟩
  refine jS (λc=>?_) (λc=>?_)
  ·have hi:i < ns.length:=by simpa using c
   refine⟨_,rfl,_,rfl,a,_,_,_,rfl,rfl,hS,UA h0 hi,k⟩
  ·have hi:¬ i < ns.length:=by simpa using c
   have e:ns.getD i.toNat 0=0:=by
    rw[az,iM (by lia)]; rfl
   rw[e] at k
   exact k
inductive QU(vs:List V)(H:Hp)(Q:VK)(E:XK):Prop
 | mk (n a b:Int):vs = [.int n,.int a,.int b]->0<=a->a < n->0<=b->b < n->a≠b->Q (.bl true) H->QU  vs H Q E
theorem LZ{t:Ad}(T:Txt K mg t):bV P w K mg base gO 1 t.pH t.uc ["size","one","other"]  QU:=by
 refine T.ES.F.jo Lw λH Q E hr h=>?_
 ·obtain⟨n,a,b,rfl,h1,h2,h3,h4,h5,k⟩:=h
  refine⟨_,(oR (Gc (Mm qG tR aA (pv 1) (pv 0)) (Gc (Mm qG tR aA (pv 2) (pv 0)) (Ov (qE yP (pv 1) (pv 2)))))),?_⟩
  try dsimp only[aU]
  refine⟨_,rfl,_,_,rfl,rfl,_,rfl,?_⟩
  rw[decide_eq_true h1]
  refine eW ⟨_,rfl,_,_,rfl,rfl,_,rfl,?_⟩
  rw[decide_eq_true h2]
  refine eW ⟨_,rfl,_,_,rfl,rfl,_,rfl,?_⟩
  rw[decide_eq_true h3]
  refine eW ⟨_,rfl,_,_,rfl,rfl,_,rfl,?_⟩
  rw[decide_eq_true h4]
  refine eW ⟨_,rfl,_,rfl,rfl,?_⟩
  rw[decide_eq_false (λz=>h5 (V.int.inj z))]
  exact k
inductive E8(K:af)(vs:List V)(H:Hp)(Q:VK)(E:XK):Prop
 | mk (n:Int) (p:Addr) (a b c d e:Int):vs = [.int n,.ref p]->cH K H p (acu a b c d e)->UI n a b c d e->Q .eU H->E8 K vs H Q E
theorem Ju{t:Ad}(T:Txt K mg t):bV P w K mg base gO 2 t.mS t.qV ["size","rope"]  (E8 K):=by
 refine T.CS.F.jo IZ λH Q E hr h=>?_
 ·obtain⟨n,p,a,b,c,d,e,rfl,hp,ok,k⟩:=h
  obtain⟨h1,h2,h3,h4,h5,h6,h7,h8,h9,h10⟩:=ok
  refine⟨_,(ak (cC (qT yP (lS T.jQ (pv 1)) aA) dN aX) (ak (cC (jx (nL (cG (LZ T) hr T.ES (J2 (pv 0) (xT (pv 1) aA) (xT (pv 1) aA))))) dN aX) (ak (cC (qT tR (xT (pv 1) aA) aA) dN aX) (ak (cC (jx (jy qG qG aA (xT (pv 1) aA) (kN rfl T.LF (v:=.int 4) ⟨_,rfl⟩))) dN aX) (aW (cC (jx (jy qG qG aA (xT (pv 1) aA) (kN rfl T.LG (v:=.int 7) ⟨_,rfl⟩))) dN aX)))))),?_⟩
  try dsimp only[aU]
  refine⟨_,rfl,p,_,rfl,.inr hp,rfl,_,rfl,fk ?_⟩
  refine⟨_,rfl,_,rfl,p,_,_,_,rfl,rfl,hp,rfl,_,rfl,p,_,_,_,rfl,rfl,hp,rfl,?_⟩
  refine⟨_,_,_,rfl,h1,h2,h3,h4,h5,_,rfl,fk ?_⟩
  refine⟨_,rfl,p,_,_,_,rfl,rfl,hp,rfl,_,_,rfl,rfl,_,rfl,?_⟩
  rw[decide_eq_false (show ¬ c < 1 by lia)]
  refine fk ?_
  refine⟨_,rfl,p,_,_,_,rfl,rfl,hp,rfl,_,_,rfl,rfl,_,rfl,?_⟩
  rw[decide_eq_true h7]
  refine eW ?_
  refine⟨_,_,rfl,rfl,_,rfl,?_⟩
  rw[decide_eq_true h8]
  refine fk ?_
  refine⟨_,rfl,p,_,_,_,rfl,rfl,hp,rfl,_,_,rfl,rfl,_,rfl,?_⟩
  rw[decide_eq_true h9]
  refine eW ?_
  refine⟨_,_,rfl,rfl,_,rfl,?_⟩
  rw[decide_eq_true h10]
  refine fk ?_
  exact k
inductive Df(K:af)(vs:List V)(H:Hp)(Q:VK)(E:XK):Prop
 | mk (n:Int) (l:Addr) (rs:List R5):vs = [.int n,.ref l]->Gw K H l rs->rs.length<=20->(∀ r∈rs,r.Ok n)->Q .eU H->Df K vs H Q E
theorem HV{t:Ad}(T:Txt K mg t):bV P w K mg base gO 3 t.kE t.oK ["size","ropes"]  (Df K):=by
 refine T.AZ.F.jo zl λH Q E hr h=>?_
 ·obtain⟨n,l,rs,rfl,hR,hl,ok,k⟩:=h
  obtain⟨us,hL,el,hg⟩:=hR.at
  refine⟨_,(ak (cC (qT Qg (lS T.jQ (pv 1)) (kN rfl T.LD (v:=.int 20) ⟨_,rfl⟩)) dN aX) (aW (fS (fB (pv 1)) (gT 2 zl) (oE (cG (Ju T) hr T.CS (mH (pv 0) (pv 2))))))),?_⟩
  try dsimp only[aU]
  refine⟨_,rfl,l,_,rfl,.inl hL,_,_,rfl,rfl,_,rfl,?_⟩
  rw[decide_eq_false (show ¬ (20:Int) < us.length by lia)]
  refine fk ?_
  refine⟨_,rfl,l,rfl,⟨_,hL⟩,rO (K:=K) (a:=l) (xs:=us) (λi σ H2=>H2=H/\∃ v,σ = [some (.int n),some (.ref l),v]) ⟨rfl,_,rfl⟩ (λi σ H2 _ ⟨e,_⟩=>by rw[e]; exact hL) ?_ ?_⟩
  ·rintro i y σ H2 hi ⟨rfl,v,rfl⟩
   have hil:i < us.length:=(ai.mp hi).1
   have Dy:rs[i]?=some rs[i]:=by simp
   obtain⟨p,h1,h2⟩:=hg i _ Dy
   rw[hi] at h1
   cases h1
   refine⟨_,rfl,_,rfl,n,p,_,_,_,_,_,rfl,h2,ok _ (aI Dy),rfl,_,rfl⟩
  ·rintro σ H2 ⟨rfl,v,rfl⟩
   exact k
inductive Dg(K:af)(vs:List V)(H:Hp)(Q:VK)(E:XK):Prop
 | mk (l:Addr) (ns:List Int):vs = [.ref l]->bJ K H l (ns.map V.int)->1<=ns.length->ns.length<=10->(∀ n∈ns,0<=n)->ns.Nodup->(∀ H',aC H H'->Q .eU H')->Dg K vs H Q E
theorem HW{t:Ad}(T:Txt K mg t):bV P w K mg base gO 1 t.kD t.oJ ["names"]  (Dg K):=by
 refine T.AY.F.jo G1 λH Q E hr h=>?_
 ·obtain⟨l,ns,rfl,hL,h1,h2,h3,h4,k⟩:=h
  refine⟨_,(ak (cC (jx (jy qG qG aA (lS T.jQ (pv 0)) (kN rfl T.Je (v:=.int 10) ⟨_,rfl⟩))) dN aX) (ak (cC (qT tR (cB (R0 rfl) T.acW boot_min (fV (pv 0))) aA) dN aX) (aW (cC (qT yP (cB RZ T.jQ PySem.boot_len (fV (iZ (RY rfl) (by rfl) T.acX boot_set (fV (pv 0))))) (lS T.jQ (pv 0))) dN aX)))),?_⟩
  try dsimp only[aU]
  refine⟨_,rfl,l,_,rfl,.inl hL,_,_,rfl,rfl,_,rfl,?_⟩
  rw[decide_eq_true (show (1:Int)<=(ns.map V.int).length by rw[ah]; lia)]
  refine eW ?_
  refine⟨_,_,rfl,rfl,_,rfl,?_⟩
  rw[decide_eq_true (show ((ns.map V.int).length:Int)<=10 by rw[ah]; lia)]
  refine fk ?_
  refine⟨_,rfl,l,ns,rfl,hL,by lia,λm hm hle=>?_⟩
  refine⟨_,_,rfl,rfl,_,rfl,?_⟩
  rw[decide_eq_false (show ¬ m < 0 by have:=h3 m hm; lia)]
  refine fk ?_
  refine⟨_,rfl,l,ns,rfl,hL,bx (show ns.length + 1 < 100 by lia) (by decide),λp hp=>?_⟩
  have s1:=aC.new (o:=.set (λk'=>(firstMet (λi=>ns.getD i 0) ns.length).any (· == k')) (firstMet (λi=>ns.getD i 0) ns.length).length) hp
  refine⟨p,_,_,rfl,ao,_,rfl,l,_,rfl,.inl (s1.seq hL),rfl,_,rfl,?_⟩
  rw[Gx ns h4,ah]
  simp only[decide_true,Bool.not_true]
  refine fk ?_
  exact k _ (aC.new hp)
inductive VF(K:af)(C:Addr)(vs:List V)(H:Hp)(Q:VK)(E:XK):Prop
 | mk (p dx l1 l2:Addr) (ns:List Int) (rs:List R5):vs = [.ref p,.ref l1,.ref l2]->H p=some (.ins C dx [])->bJ K H l1 (ns.map V.int)->Gw K H l2 rs->1<=ns.length->ns.length<=10->(∀ n∈ns,0<=n)->ns.Nodup->rs.length<=20->(∀ r∈rs,r.Ok ns.length)->(∀ ln lr H',H ln=none->H lr=none->cN K C H' p ln lr ns rs->(∀ b o,H b=some o->b≠p->H' b=some o)->Q .eU H')->VF K C vs H Q E
theorem HX{t:Ad}(T:Txt K mg t):bV P w K mg base gO 4 t.kC t.oH ["self","names","ropes"]  (VF K t.aR):=by
 refine T.AX.F.jo G0 λH Q E hr h=>?_
 ·obtain⟨p,dx,l1,l2,ns,rs,rfl,hp,hL,hR,h1,h2,h3,h4,h5,h6,k⟩:=h
  refine⟨_,(ak (dY (cG (HW T) hr T.AY (fV (pv 1)))) (ak (dY (cG (HV T) hr T.AZ (mH (lS T.jQ (pv 1)) (pv 2)))) (ak (fj (pv 0) (iZ iC (by rfl) T.xM boot_list (fV (pv 1))) rfl) (ak (fj (pv 0) (iZ iC (by rfl) T.xM boot_list (fV (pv 2))) rfl) (ak (fj (pv 0) (lS T.jQ (pv 1)) rfl) (aW (fj (pv 0) (lS T.jQ (pv 2)) rfl))))))),?_⟩
  try dsimp only[aU]
  refine⟨_,rfl,l1,ns,rfl,hL,h1,h2,h3,h4,λH1 s1=>?_⟩
  refine⟨_,rfl,l1,_,rfl,.inl (s1.seq hL),?_⟩
  refine⟨_,rfl,(ns.length:Int),l2,rs,by simp,hR.mono s1,h5,h6,?_⟩
  have hp1:=s1 _ _ hp
  have hR1:=hR.mono s1
  have hL1:=s1.seq hL
  obtain⟨_,us,e,hq,Tj⟩:=id hR1
  cases e
  refine⟨_,rfl,l1,_,rfl,.inl hL1,λln hn=>?_⟩
  have npn:p≠ln:=aF hp1 hn
  have s2:=aC.new (o:=.lst (ns.map V.int)) hn
  refine⟨_,rfl,p,_,dx,[],rfl,s2 _ _ hp1,T.eG,T.sO,by decide,?_⟩
  rw[cY (names:=[]) rfl rfl]
  generalize eH2:upd (upd H1 ln (.lst (ns.map V.int))) p (.ins t.aR dx ([]++[(Str.ofString "house_names",V.ref ln)]))=H2
  have k2:∀ b o,H1 b=some o->b≠p->H2 b=some o:=λb o e nb=>by rw[<- eH2,aD nb]; exact s2 _ _ e
  have hp2:H2 p=some (.ins t.aR dx [(Str.ofString "house_names",V.ref ln)]):=by rw[<- eH2]; exact ao
  have hn2:H2 ln=some (.lst (ns.map V.int)):=by rw[<- eH2,aD (bK npn),ao]
  have fr2:∀ {b:Addr},H1 b=none->b≠p->b≠ln->H2 b=none:=λ{b} e n1 n2=>by rw[<- eH2,aD n1,aD n2]; exact e
  have hL2:bJ K H2 l1 (ns.map V.int):=Aq (λb o e nb=>k2 b o e nb) hp1 hL1
  have hq2:bJ K H2 l2 us:=Aq (λb o e nb=>k2 b o e nb) hp1 hq
  have agj:b4 K H2 (rs.map R5.D) us:=jD (λb o e nb=>k2 b o e nb) hp1 Tj
  refine⟨_,rfl,l2,_,rfl,.inl hq2,λlr hr2=>?_⟩
  have npr:p≠lr:=aF hp2 hr2
  have s3:=aC.new (o:=.lst us) hr2
  refine⟨_,rfl,p,_,dx,_,rfl,s3 _ _ hp2,T.eG,T.gq,(by show 1 < 1000; decide),?_⟩
  rw[cY (names:=["house_names"]) rfl (by decide +kernel)]
  generalize eH3:upd (upd H2 lr (.lst us)) p (.ins t.aR dx ([(Str.ofString "house_names",V.ref ln)]++[(Str.ofString "rope_tuples",V.ref lr)]))=H3
  have k3:∀ b o,H2 b=some o->b≠p->H3 b=some o:=λb o e nb=>by rw[<- eH3,aD nb]; exact s3 _ _ e
  have hp3:H3 p=some (.ins t.aR dx [(Str.ofString "house_names",V.ref ln),(Str.ofString "rope_tuples",V.ref lr)]):=by rw[<- eH3]; exact ao
  have hr3:H3 lr=some (.lst us):=by rw[<- eH3,aD (bK npr),ao]
  have hn3:=k3 _ _ hn2 (bK npn)
  have hL3:bJ K H3 l1 (ns.map V.int):=Aq k3 hp2 hL2
  have Xk:bJ K H3 l2 us:=Aq k3 hp2 hq2
  have agl:b4 K H3 (rs.map R5.D) us:=jD k3 hp2 agj
  refine⟨_,rfl,l1,_,rfl,.inl hL3,_,rfl,p,_,dx,_,rfl,hp3,T.eG,T.lT,(by show 2 < 1000; decide),?_⟩
  rw[cY (names:=["house_names","rope_tuples"]) rfl (by decide +kernel)]
  generalize eH4:upd H3 p (.ins t.aR dx ([(Str.ofString "house_names",V.ref ln),(Str.ofString "rope_tuples",V.ref lr)]++[(Str.ofString "size",V.int ((ns.map V.int).length:Nat))]))=H4
  have k4:∀ b o,H3 b=some o->b≠p->H4 b=some o:=λb o e nb=>by rw[<- eH4,aD nb]; exact e
  have Tn:H4 p=some (.ins t.aR dx [(Str.ofString "house_names",V.ref ln),(Str.ofString "rope_tuples",V.ref lr),(Str.ofString "size",V.int ((ns.map V.int).length:Nat))]):=by rw[<- eH4]; exact ao
  have hq4:bJ K H4 l2 us:=Aq k4 hp3 Xk
  have agm:b4 K H4 (rs.map R5.D) us:=jD k4 hp3 agl
  refine⟨_,rfl,l2,_,rfl,.inl hq4,_,rfl,p,_,dx,_,rfl,Tn,T.eG,T.uq,(by show 3 < 1000; decide),?_⟩
  rw[cY (names:=["house_names","rope_tuples","size"]) rfl (by decide +kernel)]
  have k5:∀ b o,H4 b=some o->b≠p->∀ u,(upd H4 p u) b=some o:=λb o e nb u=>by rw[aD nb]; exact e
  have eus:us.length=rs.length:=by rw[Tj.length,ah]
  refine k ln lr _ (s1.free hn) ?_ ⟨⟨dx,?_⟩,?_,us,?_,jD (λb o e nb=>k5 b o e nb _) Tn agm⟩ ?_
  ·cases q:H lr with
   | none=>rfl
   | some o =>
    have:=k2 lr o (s1 _ _ q) (λe=>npr e.symm)
    rw[hr2] at this; cases this
  ·rw[ao,eus,ah]
   rfl
  ·exact k5 _ _ (k4 _ _ hn3 (bK npn)) (bK npn) _
  ·exact k5 _ _ (k4 _ _ hr3 (bK npr)) (bK npr) _
  ·exact λb o e nb=>k5 _ _ (k4 _ _ (k3 _ _ (k2 _ _ (s1 _ _ e) nb) nb) nb) nb _
inductive VG(K:af)(C:Addr)(vs:List V)(H:Hp)(Q:VK)(E:XK):Prop
 | mk (p ln lr:Addr) (ns:List Int) (rs:List R5) (i:Nat) (n:Int):vs = [.ref p,.int i]->cN K C H p ln lr ns rs->ns[i]?=some n->Q (.int n) H->VG K C vs H Q E
theorem L0{t:Ad}(T:Txt K mg t):bV P w K mg base gO 1 t.pD t.t8 ["self","house"]  (VG K t.aR):=by
 refine T.ER.F.jo Ls λH Q E hr h=>?_
 ·obtain⟨p,ln,lr,ns,rs,i,n,rfl,hT,hi,k⟩:=h
  obtain⟨⟨dx,hp⟩,hn,us,hr',Tj⟩:=id hT
  refine⟨_,(oR (xL (aO (pv 0) rfl) (pv 1))),?_⟩
  try dsimp only[aU]
  refine⟨_,rfl,p,_,dx,_,_,rfl,hp,T.eG,T.sO,rfl,_,rfl,ln,_,_,_,rfl,rfl,bJ.of hn,dG (v:=V.int n) (by rw[aj,hi]; rfl),k⟩
inductive VH(K:af)(C:Addr)(vs:List V)(H:Hp)(Q:VK)(E:XK):Prop
 | mk (p ln lr:Addr) (ns:List Int) (rs:List R5) (i:Nat) (r:R5):vs = [.ref p,.int i]->cN K C H p ln lr ns rs->rs[i]?=some r->(∀ q,H q=some (.tup r.vs)∨cH K H q r.vs->Q (.ref q) H)->VH K C vs H Q E
theorem Dh{t:Ad}(T:Txt K mg t):bV P w K mg base gO 1 t.pF t.t9 ["self","number"]  (VH K t.aR):=by
 refine T.zD.F.jo Lu λH Q E hr h=>?_
 ·obtain⟨p,ln,lr,ns,rs,i,r,rfl,hT,hi,k⟩:=h
  obtain⟨⟨dx,hp⟩,hn,us,hr',Tj⟩:=id hT
  obtain⟨v,hv,hD⟩:=Tj.get (i:=i) (d:=r.D) (by rw[aj,hi]; rfl)
  obtain⟨q,e,hq⟩:=Rep.yU (ns:=r.ns) hD
  subst e
  refine⟨_,(oR (xL (aO (pv 0) rfl) (pv 1))),?_⟩
  try dsimp only[aU]
  exact⟨_,rfl,p,_,dx,_,_,rfl,hp,T.eG,T.gq,rfl,_,rfl,lr,_,_,_,rfl,rfl,bJ.of hr',dG hv,k q (.inr hq)⟩
inductive YG(K:af)(C:Addr)(vs:List V)(H:Hp)(Q:VK)(E:XK):Prop
 | mk (p ln lr:Addr) (ns:List Int) (rs:List R5) (i:Nat) (r:R5) (h:Int):vs = [.ref p,.int i,.int h]->cN K C H p ln lr ns rs->rs[i]?=some r->Q (.int (if h=r.a then r.b else r.a)) H->YG K C vs H Q E
theorem qD{t:Ad}(T:Txt K mg t):bV P w K mg base gO 1 t.jL t.m6 ["self","rope","house"]  (YG K t.aR):=by
 refine T.ni.F.jo yo λH Q E hr h=>?_
 ·obtain⟨p,ln,lr,ns,rs,i,r,x,rfl,hT,hi,k⟩:=h
  obtain⟨⟨dx,hp⟩,hn,us,hr',Tj⟩:=id hT
  obtain⟨v,hv,hD⟩:=Tj.get (i:=i) (d:=r.D) (by rw[aj,hi]; rfl)
  obtain⟨q,e,hq⟩:=Rep.yU (ns:=r.ns) hD
  subst e
  refine⟨_,(ak (sS 3 yo (xL (aO (pv 0) rfl) (pv 1))) (oR (yM (qT yO (pv 2) (xT (pv 3) aA)) (xT (pv 3) aA) (xT (pv 3) aA)))),?_⟩
  try dsimp only[aU]
  refine⟨_,rfl,p,_,dx,_,_,rfl,hp,T.eG,T.gq,rfl,_,rfl,lr,_,_,_,rfl,rfl,bJ.of hr',dG hv,?_⟩
  refine⟨_,rfl,_,rfl,q,_,_,_,rfl,rfl,hq,rfl,rfl,_,rfl,?_⟩
  refine jS (λc=>?_) (λc=>?_)
  ·have c':x=r.a:=by simpa using c
   rw[if_pos c'] at k
   exact⟨_,rfl,q,_,_,_,rfl,rfl,hq,rfl,k⟩
  ·have c':¬ x=r.a:=by simpa using c
   rw[if_neg c'] at k
   exact⟨_,rfl,q,_,_,_,rfl,rfl,hq,rfl,k⟩
inductive ac3(K:af)(C:Addr)(vs:List V)(H:Hp)(Q:VK)(E:XK):Prop
 | mk (p ln lr:Addr) (ns:List Int) (rs:List R5) (h:Int):vs = [.ref p,.int h]->cN K C H p ln lr ns rs->rs.length<=20->(∀ l H',aC H H'->H l=none->H' l=some (.lst (aV (Th rs h rs.length)))->Q (.ref l) H')->ac3 K C vs H Q E
theorem oj{t:Ad}(T:Txt K mg t):bV P w K mg base gO 1 t.iS t.kT ["self","house"]  (ac3 K t.aR):=by
 refine T.k6.F.jo vO λH Q E hr h=>?_
 ·obtain⟨p,ln,lr,ns,rs,x,rfl,hT,yJ,k⟩:=h
  obtain⟨⟨dx,hp⟩,hn,us,hr',Tj⟩:=id hT
  have eus:us.length=rs.length:=by rw[Tj.length,ah]
  refine⟨_,(oR (gu (kO vO ["number","rope","house"] [none,none,some 1]) rfl (WC rfl T.M6 (fV (aO (pv 0) rfl))) (λ_ _ _ _=>by exact (Qx K rfl (n:=2) rfl (l9 (gS 0 qH) (l9 (gS 1 qH) FL)))) (λ_ _ _ _=>by exact (qM (jf (Bk K rfl) (pv 2) (f6 (mH (yT K (pv 1) aA) (yT K (pv 1) aA))) (by with_unfolding_all rfl)))) (λ_ _ _ _=>by exact (pv 0)))),?_⟩
  try dsimp only[aU]
  refine⟨_,rfl,p,_,dx,_,_,rfl,hp,T.eG,T.gq,rfl,lr,us,rfl,bJ.of hr',λacc hacc=>?_⟩
  refine fQ (n:=us.length) (λi ys _=>ys=aV (Th rs x i)) hacc (ZP (bJ.of hr')) (Uz (bJ.of hr')) rfl ?_ ?_
  ·rintro i ys H2 hi s2 hy hP y H3 ⟨q,v,hq,rfl,rfl,hv⟩
   have hvi:=hv us (s2.seq (bJ.of hr'))
   have Dy:rs[i]?=some rs[i]:=by simp
   obtain⟨v',hv',hD⟩:=Tj.get (i:=i) (d:=(rs[i]).D) (by rw[aj,Dy]; rfl)
   rw[hvi] at hv'
   cases hv'
   obtain⟨b,e,hb⟩:=Rep.yU (ns:=(rs[i]).ns) hD
   subst e
   have hb3:=(s2.out (o:=.tup [.int (i:Nat),.ref b]) (s2.free hq)).dB hb
   have nq:acc≠q:=aF hy hq
   refine⟨q,_,rfl,cH.of ao,rfl,_,_,rfl,_,_,rfl,rfl,?_⟩
   refine⟨_,rfl,_,rfl,b,_,_,_,rfl,rfl,hb3,rfl,_,rfl,b,_,_,_,rfl,rfl,hb3,rfl,(by show 2<=sizeLine; decide),λc hc=>?_⟩
   refine⟨c,_,rfl,.inr (cH.of ao),rfl,rfl,_,rfl,?_⟩
   have eb:JL (V.int x) [V.int rs[i].a,V.int rs[i].b]=isAt rs x i:=by
    unfold isAt
    rw[Dy]
    exact ZW _ _ _
   have s3:=s2.out (o:=.tup [.int (i:Nat),.ref b]) (s2.free hq)
   have s4:=s3.out (o:=.tup [V.int rs[i].a,V.int rs[i].b]) (s3.free hc)
   have VI:(upd (upd H2 q (HO.tup [V.int (i:Nat),V.ref b])) c (HO.tup [V.int rs[i].a,V.int rs[i].b])) acc=some (.lst ys):=by
    have e1:(upd H2 q (HO.tup [V.int (i:Nat),V.ref b])) acc=some (.lst ys):=by rw[aD nq]; exact hy
    rw[aD (aF e1 hc)]; exact e1
   try dsimp only
   rw[if_neg aB,eb]
   have hl:ys.length < sizeLine:=by rw[hP,ah]; exact aZ (aH (WT rs x i) (by lia)) (bW (au _))
   refine jS (λc'=>?_) (λc'=>?_)
   ·exact⟨_,rfl,dZ hacc hi s4 VI hl (by rw[hP,ME,if_pos c',gK])⟩
   ·exact i0 hi s4 VI (by rw[hP,ME,if_neg c',gQ])
  ·intro ys H2 s2 hy hP
   rw[eus] at hP
   exact k acc H2 s2 hacc (by rw[hy,hP])
inductive Nr(K:af)(C:Addr)(vs:List V)(H:Hp)(Q:VK)(E:XK):Prop
 | mk (p ln lr:Addr) (ns:List Int) (rs:List R5) (i:Nat) (n:Int):vs = [.ref p,.int i]->cN K C H p ln lr ns rs->ns[i]?=some n->(∀ q H',aC H H'->cH K H' q (cR ⟨n,0,0,-1⟩)->Q (.ref q) H')->Nr K C vs H Q E
theorem HY{t:Ad}(T:Txt K mg t):bV P w K mg base gO 2 t.vU t.Ay ["town","house"]  (Nr K t.aR):=by
 refine T.D5.F.jo Pn λH Q E hr h=>?_
 ·obtain⟨p,ln,lr,ns,rs,i,n,rfl,hT,hi,k⟩:=h
  obtain⟨⟨dx,hp⟩,_,_,_⟩:=id hT
  refine⟨_,(oR (f6 (Yv (cM (pv 0) T.eG T.ER (L0 T) hr (fV (pv 1))) aA aA nK))),?_⟩
  try dsimp only[aU]
  refine⟨_,rfl,p,dx,_,rfl,hp,rfl,_,rfl,p,ln,lr,ns,rs,i,n,rfl,hT,hi,(by show 4<=sizeLine; decide),λq hq=>?_⟩
  exact k q _ (aC.new hq) (cH.of ao)
inductive QV(K:af)(C:Addr)(vs:List V)(H:Hp)(Q:VK)(E:XK):Prop
 | mk (p ln lr:Addr) (ns:List Int) (rs:List R5) (i:Nat) (x:R5) (a:Addr) (r:RM.Row):vs = [.ref p,.ref a,.int i]->cN K C H p ln lr ns rs->rs[i]?=some x->cH K H a (cR r)->(¬ r.ho + 1 < ns.length->∀ H',aC H H'->Q .eU H')->(r.ho + 1 < ns.length->∀ q H',aC H H'->cH K H' q (cR ⟨r.hd,r.co + x.c,r.ho + 1,i⟩)->Q (.ref q) H')->QV K C vs H Q E
theorem Nt{t:Ad}(T:Txt K mg t):bV P w K mg base gO 2 t.CJ t.FT ["town","row","rope"]  (QV K t.aR):=by
 refine T.LC.F.jo MT λH Q E hr h=>?_
 ·obtain⟨p,ln,lr,ns,rs,i,x,a,r,rfl,hT,hi,ha,k1,k2⟩:=h
  obtain⟨⟨dx,hp⟩,_,_,_⟩:=id hT
  refine⟨_,(ak (sS 3 MT (aS fJ (xT (pv 1) aA) aA)) (ak (cC (qT abX (pv 3) (aO (pv 0) rfl)) (oR nK) aX) (oR (f6 (Yv (xT (pv 1) aA) (aS fJ (xT (pv 1) aA) (xT (cM (pv 0) T.eG T.zD (Dh T) hr (fV (pv 2))) aA)) (pv 3) (pv 2)))))),?_⟩
  try dsimp only[aU]
  refine⟨_,rfl,a,_,_,_,rfl,rfl,ha,rfl,_,_,rfl,rfl,?_⟩
  refine⟨_,rfl,_,rfl,p,_,dx,_,_,rfl,hp,T.eG,T.lT,rfl,_,_,rfl,rfl,_,rfl,?_⟩
  refine jS (λe=>?_) (λe=>?_)
  ·have e':(ns.length:Int)<=r.ho + 1:=of_decide_eq_true e
   exact k1 (by lia) _ (aC.refl _)
  ·have e':¬ (ns.length:Int)<=r.ho + 1:=of_decide_eq_false (eq_false_of_ne_true e)
   refine⟨_,rfl,a,_,_,_,rfl,rfl,ha,rfl,_,rfl,a,_,_,_,rfl,rfl,ha,rfl,_,rfl,p,dx,_,rfl,hp,rfl,_,rfl,p,ln,lr,ns,rs,i,x,rfl,hT,hi,λq hq=>?_⟩
   have hq':cH K H q x.vs:=hq.elim (λz=>cH.of z) id
   refine⟨q,_,_,_,rfl,rfl,hq',rfl,_,_,rfl,rfl,_,rfl,_,rfl,(by show 4<=sizeLine; decide),λu hu=>?_⟩
   refine k2 (by lia) u _ (aC.new hu) (cH.of ?_)
   rw[ao]
   show some (HO.tup [.int r.hd,.int (r.co + x.c),.int (r.ho + 1),.int (i:Int)])=some (HO.tup [.int r.hd,.int (r.co + x.c),.int (r.ho + 1),lW (i:Int)])
   rw[be (by lia)]
inductive YH(K:af)(C:Addr)(vs:List V)(H:Hp)(Q:VK)(E:XK):Prop
 | mk (p ln lr c b:Addr) (ns:List Int) (rs:List R5) (live:List Nat) (nd:ns.Nodup) (ok:∀ r∈rs,r.Ok ns.length) (hl:∀ k∈live,k < rs.length) (R:Nat->RM.Row) (h:Nat):vs = [.ref p,.ref c,.ref b,.int h]->cN K C H p ln lr ns rs->bJ K H c (aV live)->j6 K H b ns.length R->h < ns.length->rs.length<=20->RM.Sane (aK ns rs live nd ok hl) R->(∀ q d H',aC H H'->cH K H' q (cR d)->RM.UH (N:=aK ns rs live nd ok hl) ns.length R h d->Q (.ref q) H')->YH K C vs H Q E
theorem aap{t:Ad}(T:Txt K mg t):bV P w K mg base gO 3 t.MZ t.QK ["town","live","rows","house"]  (YH K t.aR):=by
 refine T.YA.F.jo GY λH Q E hr h=>?_
 ·obtain⟨p,ln,lr,c,b,ns,rs,live,nd,ok,jk,R,x,rfl,hT,hC,hR,hx,yJ,ZV,k⟩:=h
  obtain⟨⟨dx,hp⟩,_,_,_⟩:=id hT
  obtain⟨ps,hP,ePs,PM⟩:=hR
  have enm:(aK ns rs live nd ok jk).nm x=ns[x]:=by show ns.getD x 0=_; simp[az,hx]
  refine⟨_,(ak (sS 4 GY (cG (HY T) hr T.D5 (mH (pv 0) (pv 3)))) (ak (fS (fB (cM (pv 0) T.eG T.k6 (oj T) hr (fV (pv 3)))) (gT 5 GY) (aW (cC (jf lP (pv 5) (pv 1) (by with_unfolding_all rfl)) (ak (sS 6 GY (cG (Nt T) hr T.LC (J2 (pv 0) (xL (pv 2) (cM (pv 0) T.eG T.ni (qD T) hr (mH (pv 5) (pv 3)))) (pv 5)))) (aW (cC (PW.pt (Gb (qT K0 (pv 6) nK) (Cj (qT (ZT (Nat.lt_of_succ_lt (Mw hr))) (yQ K5 (pv 6) K4 (tS aA)) (yQ K5 (pv 4) K4 (tS aA)))))) (aW (sS 4 GY (pv 6))) aX))) aX))) (oR (pv 4)))),?_⟩
  try dsimp only[aU]
  refine⟨_,rfl,_,rfl,p,ln,lr,ns,rs,x,ns[x],rfl,hT,aa hx,λp0 H0 s0 hp0=>?_⟩
  have hown:cH K H0 p0 (cR (RM.own (aK ns rs live nd ok jk) x)):=by unfold RM.own; rw[enm]; exact hp0
  refine⟨_,rfl,p,dx,_,rfl,s0 _ _ hp,rfl,_,rfl,p,ln,lr,ns,rs,x,rfl,hT.mono s0,yJ,λl H1 s1 Mx hl1=>?_⟩
  have s01:=s0.trans s1
  refine⟨l,rfl,⟨_,bJ.of hl1⟩,?_⟩
  generalize eal:Th rs (x:Int) rs.length=al at hl1
  refine rO (K:=K) (a:=l) (xs:=aV al) (λj σ H2=>aC H1 H2/\∃ (q:Addr) (d:RM.Row) (v5 v6:Option V),σ = [some (.ref p),some (.ref c),some (.ref b),some (.int x),some (.ref q),v5,v6]/\cH K H2 q (cR d) /\
   (d=RM.own (aK ns rs live nd ok jk) x∨∃ kk g,kk∈al.take j/\RM.Gs (aK ns rs live nd ok jk) kk x g/\(R g).ho + 1 < ns.length/\d=RM.over (aK ns rs live nd ok jk) kk (R g))/\RM.le d (RM.own (aK ns rs live nd ok jk) x) /\
   ∀ kk g,kk∈al.take j->RM.Gs (aK ns rs live nd ok jk) kk x g->(R g).ho + 1 < ns.length->RM.le d (RM.over (aK ns rs live nd ok jk) kk (R g)))
   ⟨aC.refl _,p0,RM.own (aK ns rs live nd ok jk) x,_,_,rfl,s1.dB hown,.inl rfl,RM.le_refl _,λkk g he=>by simp at he⟩ (λj σ H2 _ z=>bJ.of (z.1 _ _ hl1)) ?_ ?_
  ·rintro j y σ H2 hj ⟨s2,q,d,v5,v6,rfl,hq,d1,d2,d3⟩
   have hjl:j < al.length:=by
    have:=(ai.mp hj).1
    rw[ah] at this
    exact this
   rw[aj,aa hjl] at hj
   cases hj
   have et:al.take (j + 1)=al.take j++[al[j]]:=by rw[uz,aa hjl]; rfl
   have hka:al[j]∈al:=aL hjl
   have YI:∀ k'∈al.take j,k' < al[j]:=λk' hk'=>WU (eal ▸ UL rs (x:Int) rs.length) hjl hk'
   have wid:(d=RM.own (aK ns rs live nd ok jk) x∨∃ kk g,kk∈al.take j++[al[j]]/\RM.Gs (aK ns rs live nd ok jk) kk x g/\(R g).ho + 1 < ns.length/\d=RM.over (aK ns rs live nd ok jk) kk (R g)):=d1.imp id λ⟨a1,a2,a3,a4⟩=>⟨a1,a2,List.mem_append_left _ a3,a4⟩
   rw[et]
   show gM 5 (V.int ((al[j]:Nat):Int)) _ _ _
   generalize al[j]=kk at hka YI wid
   rw[<- eal,Ar] at hka
   obtain⟨To,hat⟩:=hka
   have s02:=s01.trans s2
   refine⟨_,rfl,_,rfl,c,_,rfl,.inl (s02.seq hC),rfl,jU live,_,rfl,?_⟩
   try dsimp only
   rw[if_neg aB,rT]
   refine jS (λhc=>?_) (λhc=>?_)
   case refine_2 =>
    have hc:kk ∉ live:=λz=>hc (decide_eq_true z)
    refine⟨s2,q,d,_,_,rfl,hq,wid,d2,λk' g hk' yX HZ=>?_⟩
    rcases bG.mp hk' with z | z
    ·exact d3 k' g z yX HZ
    ·rw[bz.mp z] at yX
     exact absurd yX.1 hc
   have hc:kk∈live:=of_decide_eq_true hc
   have hrk:rs[kk]?=some rs[kk]:=aa To
   have yX:RM.Gs (aK ns rs live nd ok jk) kk x (iP rs[kk] x):=(wO hc).mpr ⟨hat,rfl⟩
   have hgn:iP rs[kk] x < ns.length:=yX.lt.2.1
   have hgs:=ZV _ hgn
   have VJ:(if (x:Int)=rs[kk].a then rs[kk].b else rs[kk].a)=((iP rs[kk] x:Nat):Int):=by
    have o:=ok _ (aL To)
    have h1:=o.a0; have h2:=o.b0
    unfold iP
    split <;> lia
   have Nu:(aK ns rs live nd ok jk).c kk=rs[kk].c:=by show ((rs[kk]?).map λr=>r.c).getD 0=_; rw[hrk]; rfl
   have fu:∀ g,RM.Gs (aK ns rs live nd ok jk) kk x g->g=iP rs[kk] x:=λg a=>((wO hc).mp a).2
   generalize iP rs[kk] x=g at yX hgn hgs VJ fu
   have hpg:ps[g]?=some ps[g]:=aa (by lia)
   have aaq:IK (ps.map V.ref) (if (x:Int)=rs[kk].a then rs[kk].b else rs[kk].a)=some (.ref ps[g]):=by rw[VJ]; exact dG (by rw[aj,hpg]; rfl)
   have hrg:=s02.dB (PM g _ hpg)
   refine⟨_,rfl,_,rfl,_,rfl,p,dx,_,rfl,s02 _ _ hp,rfl,_,rfl,_,rfl,p,ln,lr,ns,rs,kk,rs[kk],x,rfl,hT.mono s02,hrk,b,_,_,_,rfl,rfl,s02.seq hP,aaq,_,rfl,?_⟩
   refine⟨p,ln,lr,ns,rs,kk,rs[kk],ps[g],R g,rfl,hT.mono s02,hrk,hrg,λHZ H3 s3=>?_,λHZ u H3 s3 hu=>?_⟩
   ·refine⟨_,rfl,rfl,_,rfl,fk (fk ?_)⟩
    refine⟨s2.trans s3,q,d,_,_,rfl,s3.dB hq,wid,d2,λk' g' hk' a' Ia=>?_⟩
    rcases bG.mp hk' with z | z
    ·exact d3 k' g' z a' Ia
    ·rw[bz.mp z] at a'
     rw[fu g' a'] at Ia
     exact absurd Ia HZ
   have eov:(⟨(R g).hd,(R g).co + rs[kk].c,(R g).ho + 1,kk⟩ : RM.Row)=RM.over (aK ns rs live nd ok jk) kk (R g):=by unfold RM.over; rw[Nu]
   rw[eov] at hu
   have Xk:=s3.dB hq
   have s23:=s2.trans s3
   refine⟨_,rfl,rfl,_,rfl,eW ?_⟩
   have lex:Gu [V.int (RM.over (aK ns rs live nd ok jk) kk (R g)).hd,V.int (RM.over (aK ns rs live nd ok jk) kk (R g)).co,V.int (RM.over (aK ns rs live nd ok jk) kk (R g)).ho] [V.int d.hd,V.int d.co,V.int d.ho] (decide (RM.lt (RM.over (aK ns rs live nd ok jk) kk (R g)) d)):=RM.WM (by
    rcases d1 with z | ⟨k',g',hk',_,_,z⟩
    ·rw[z]
     intro _ _ e3
     have:(R g).ho + 1=0:=e3
     lia
    ·have hlt':=YI k' hk'
     rw[z]
     intro e1 e2 e3 e4
     rcases e4 with e4 | ⟨_,e4 | ⟨_,e4 | ⟨_,e4⟩⟩⟩
     ·lia
     ·lia
     ·lia
     ·have:((kk:Nat):Int) < ((k':Nat):Int):=e4
      lia)
   have nw:∀ r:RM.Row,¬ (HT.kP (cR r).length 0 none=0/\HT.kP (cR r).length (cR r).length (some 3)=(cR r).length):=λr z=>absurd z.2 (by show HT.kP 4 4 (some 3)≠4; decide)
   have ct:∀ r:RM.Row,Ff (cR r) none (some 3) = [V.int r.hd,V.int r.co,V.int r.ho]:=λr=>rfl
   refine⟨_,rfl,_,rfl,u,_,rfl,hu,nw _,λz1 hz1=>?_⟩
   rw[ct]
   have t1:=aC.new (o:=.tup [V.int (RM.over (aK ns rs live nd ok jk) kk (R g)).hd,V.int (RM.over (aK ns rs live nd ok jk) kk (R g)).co,V.int (RM.over (aK ns rs live nd ok jk) kk (R g)).ho]) hz1
   refine⟨_,rfl,_,rfl,q,_,rfl,t1.dB Xk,nw _,λz2 hz2=>?_⟩
   rw[ct]
   have t2:=aC.new (o:=.tup [V.int d.hd,V.int d.co,V.int d.ho]) hz2
   have s23:=s23.trans (t1.trans t2)
   have hu:=(t1.trans t2).dB hu
   have Xk:=(t1.trans t2).dB Xk
   refine⟨z1,z2,_,_,_,rfl,rfl,cH.of (t2 _ _ ao),cH.of ao,rfl,lex,_,rfl,?_⟩
   by_cases hlt:RM.lt (RM.over (aK ns rs live nd ok jk) kk (R g)) d
   ·rw[decide_eq_true hlt]
    refine eW ?_
    refine⟨_,rfl,s23,u,_,_,_,rfl,hu,.inr ⟨kk,g,dg _ (bz.mpr rfl),yX,HZ,rfl⟩,RM.le_trans (RM.Yp hlt) d2,λk' g' hk' a' Ia=>?_⟩
    rcases bG.mp hk' with z | z
    ·exact RM.le_trans (RM.Yp hlt) (d3 k' g' z a' Ia)
    ·rw[bz.mp z] at a' ⊢
     rw[fu g' a']
     exact RM.le_refl _
   ·rw[decide_eq_false hlt]
    refine fk ⟨s23,q,d,_,_,rfl,Xk,wid,d2,λk' g' hk' a' Ia=>?_⟩
    rcases bG.mp hk' with z | z
    ·exact d3 k' g' z a' Ia
    ·rw[bz.mp z] at a' ⊢
     rw[fu g' a']
     exact hlt
  ·rintro σ H2 ⟨s2,q,d,v5,v6,rfl,hq,d1,d2,d3⟩
   rw[ah,fM (au _)] at d3
   refine⟨_,rfl,k q d H2 (s01.trans s2) hq ⟨d1.imp id λ⟨a1,a2,_,a4⟩=>⟨a1,a2,a4⟩,d2,λkk g yX HZ=>d3 kk g ?_ yX HZ⟩⟩
   rw[<- eal,Ar]
   exact⟨jk kk yX.1,((wO yX.1).mp yX).1⟩
inductive VL(K:af)(C:Addr)(vs:List V)(H:Hp)(Q:VK)(E:XK):Prop
 | mk (p ln lr c b:Addr) (ns:List Int) (rs:List R5) (live:List Nat) (nd:ns.Nodup) (ok:∀ r∈rs,r.Ok ns.length) (hl:∀ k∈live,k < rs.length) (R:Nat->RM.Row) (h:Nat):vs = [.ref p,.ref c,.ref b,.int h]->cN K C H p ln lr ns rs->bJ K H c (aV live)->j6 K H b ns.length R->h < ns.length->rs.length<=20->uG ns.length rs.length R->(∀ v H',aC H H'->uH K H' v (yY (aK ns rs live nd ok hl) R h)->Q v H')->VL K C vs H Q E
theorem VM{t:Ad}(T:Txt K mg t):bV P w K mg base gO 3 t.CK t.FW ["town","live","rows","house"]  (VL K t.aR):=by
 refine T.QM.F.jo GZ λH Q E hr h=>?_
 ·obtain⟨p,ln,lr,c,b,ns,rs,live,nd,ok,jk,R,i,rfl,hT,hC,hRw,hin,yJ,fit,k⟩:=h
  obtain⟨⟨dx,hp⟩,_,_,_⟩:=id hT
  obtain⟨ps,hP,ePs,PM⟩:=id hRw
  have hpi:ps[i]?=some ps[i]:=aa (by lia)
  have aat:IK (ps.map V.ref) (i:Int)=some (.ref ps[i]):=dG (by rw[aj,hpi]; rfl)
  have Ma:=PM i _ hpi
  have fi:=fit i hin
  refine⟨_,(ak (sS 4 GZ (xT (xL (pv 2) (pv 3)) aA)) (ak (cC (PW.pt (Qa (jf mh (pv 4) (pv 1) (by with_unfolding_all rfl)) (KW (jf mh (pv 4) (cM (pv 0) T.eG T.k6 (oj T) hr (fV (pv 3))) (by with_unfolding_all rfl))))) (oR nK) aX) (ak (sS 5 GZ (cM (pv 0) T.eG T.ni (qD T) hr (mH (pv 4) (pv 3)))) (ak (cC (qT Lc (cG (Nt T) hr T.LC (J2 (pv 0) (xL (pv 2) (pv 5)) (pv 4))) (xL (pv 2) (pv 3))) (oR nK) aX) (oR (f6 (mH (pv 4) (pv 5)))))))),?_⟩
  try dsimp only[aU]
  refine⟨_,rfl,_,rfl,wR hP aat (FP Ma rfl ?_)⟩
  have none_:∀ {H3:Hp},aC H H3->(∀ k g,¬ RM.iO (aK ns rs live nd ok jk) R k i g)->Q .eU H3:=λs3 no=>k .eU _ s3 (by rw[MF no]; rfl)
  show gM 4 (lW (R i).by_) _ _ _
  rcases fi.by_ with eby | ⟨b0,b1⟩
  ·rw[show lW (R i).by_=V.eU by rw[eby]; rfl]
   refine⟨_,rfl,_,rfl,c,_,rfl,.inl hC,rfl,jU live,_,rfl,?_⟩
   try dsimp only
   rw[if_pos rfl,WV]
   refine eW (eW (none_ (aC.refl _) λk' g t=>?_))
   have:=t.by
   lia
  obtain⟨kk,ekk⟩ : ∃ kk:Nat,(R i).by_=(kk:Int):=⟨(R i).by_.toNat,by lia⟩
  have To:kk < rs.length:=by lia
  rw[show lW (R i).by_=V.int (kk:Nat) by rw[ekk,be (by lia)]]
  have byk:∀ k' g,RM.iO (aK ns rs live nd ok jk) R k' i g->k'=kk:=λk' g t=>by have:=t.by; lia
  refine⟨_,rfl,_,rfl,c,_,rfl,.inl hC,rfl,jU live,_,rfl,?_⟩
  try dsimp only
  rw[if_pos rfl,rT]
  by_cases hc:kk∈live
  case neg =>
   rw[decide_eq_false hc]
   refine eW (eW (none_ (aC.refl _) λk' g t=>?_))
   have:=byk k' g t
   subst this
   exact hc t.yX.1
  rw[decide_eq_true hc]
  refine fk ?_
  refine⟨_,rfl,_,rfl,p,dx,_,rfl,hp,rfl,_,rfl,p,ln,lr,ns,rs,i,rfl,hT,yJ,λl H1 s1 Mx hl1=>?_⟩
  refine⟨l,_,rfl,.inl (bJ.of hl1),rfl,jU _,_,rfl,?_⟩
  try dsimp only
  rw[if_pos rfl,rT]
  by_cases hat:kk∈Th rs (i:Int) rs.length
  case neg =>
   rw[decide_eq_false hat]
   refine eW (none_ s1 λk' g t=>?_)
   have:=byk k' g t
   subst this
   exact hat (Ar.mpr ⟨To,((wO hc).mp t.yX).1⟩)
  rw[decide_eq_true hat]
  refine fk ?_
  have hat:=(Ar.mp hat).2
  have hrk:rs[kk]?=some rs[kk]:=aa To
  have VJ:=Qz (h:=i) To ok
  have hgn:iP rs[kk] i < ns.length:=OY To ok
  have ac5:=UN (ns:=ns) (rs:=rs) (live:=live) (nd:=nd) (ok:=ok) (hl:=jk) (R:=R) (h:=i) hc
  have Nu:=Yq (ns:=ns) (live:=live) (nd:=nd) (ok:=ok) (hl:=jk) To
  have hg':∀ g,RM.iO (aK ns rs live nd ok jk) R kk i g->g=iP rs[kk] i:=λg t=>ZY t
  refine⟨_,rfl,p,dx,_,rfl,s1 _ _ hp,rfl,_,rfl,_,rfl,p,ln,lr,ns,rs,kk,rs[kk],i,rfl,hT.mono s1,hrk,?_⟩
  show gM 5 (V.int (if (i:Int)=rs[kk].a then rs[kk].b else rs[kk].a)) _ _ _
  rw[VJ]
  generalize iP rs[kk] i=g at VJ hgn ac5 hg'
  have hpg:ps[g]?=some ps[g]:=aa (by lia)
  have aaq:IK (ps.map V.ref) (g:Int)=some (.ref ps[g]):=dG (by rw[aj,hpg]; rfl)
  refine⟨_,rfl,_,rfl,_,rfl,wR (s1.seq hP) aaq ⟨_,rfl,p,ln,lr,ns,rs,kk,rs[kk],ps[g],R g,rfl,hT.mono s1,hrk,s1.dB (PM g _ hpg),λHZ H2 s2=>?_,λHZ u H2 s2 hu=>?_⟩⟩
  ·have s12:=s1.trans s2
   refine⟨_,rfl,_,rfl,wR (s12.seq hP) aat ⟨.none,RM.pU (R i),rfl,RM.pq (s12.dB Ma),rfl,RM.pC _,aZ (bM (aH (c9 _ _) (by decide)) _) hr.units,_,rfl,?_⟩⟩
   refine eW (none_ s12 λk' g' t=>?_)
   have e1:=byk k' g' t
   subst e1
   have e2:=hg' g' t
   subst e2
   exact HZ t.cut
  ·have s12:=s1.trans s2
   have eov:(⟨(R g).hd,(R g).co + rs[kk].c,(R g).ho + 1,kk⟩ : RM.Row)=RM.over (aK ns rs live nd ok jk) kk (R g):=by unfold RM.over; rw[Nu]
   rw[eov] at hu
   refine⟨_,rfl,_,rfl,wR (s12.seq hP) aat ⟨RM.pU (RM.over (aK ns rs live nd ok jk) kk (R g)),RM.pU (R i),RM.pq hu,RM.pq (s12.dB Ma),RM.pC _,RM.pC _,aZ (bM (aH (c9 _ _) (by rw[RM.Ao]; decide)) _) hr.units,_,rfl,?_⟩⟩
   rw[RM.Gv (show (-1:Int)<=(kk:Nat) by lia) fi.by1]
   by_cases e:RM.over (aK ns rs live nd ok jk) kk (R g)=R i
   case neg =>
    rw[decide_eq_false e]
    refine eW (none_ s12 λk' g' t=>?_)
    have e1:=byk k' g' t
    subst e1
    have e2:=hg' g' t
    subst e2
    exact e t.eq.symm
   rw[decide_eq_true e]
   refine fk ?_
   have hh:RM.iO (aK ns rs live nd ok jk) R kk i g:=by
    obtain⟨g2,t⟩:=ac5.mpr ⟨hat,HZ,e.symm⟩
    have:=hg' g2 t
    subst this
    exact t
   refine⟨_,rfl,_,rfl,(by show 2<=sizeLine; decide),λo2 ho2=>?_⟩
   exact k (.ref o2) _ (s12.trans (aC.new ho2)) (by rw[tT.mpr hh]; exact⟨o2,rfl,cH.of ao⟩)
inductive YJ(K:af)(C:Addr)(vs:List V)(H:Hp)(Q:VK)(E:XK):Prop
 | mk (p ln lr c b:Addr) (ns:List Int) (rs:List R5) (live:List Nat) (nd:ns.Nodup) (ok:∀ r∈rs,r.Ok ns.length) (hl:∀ k∈live,k < rs.length) (R:Nat->RM.Row):vs = [.ref p,.ref c,.ref b]->cN K C H p ln lr ns rs->bJ K H c (aV live)->j6 K H b ns.length R->ns.length<=12->rs.length<=20->uG ns.length rs.length R->(∀ l H',aC H H'->H l=none->ZX K H' l ns.length (yY (aK ns rs live nd ok hl) R)->Q (.ref l) H')->YJ K C vs H Q E
theorem aau{t:Ad}(T:Txt K mg t):bV P w K mg base gO 4 t.M0 t.QL ["town","live","rows"]  (YJ K t.aR):=by
 refine T.YB.F.jo Vo λH Q E hr h=>?_
 ·obtain⟨p,ln,lr,c,b,ns,rs,live,nd,ok,jk,R,rfl,hT,hC,hRw,Xl,yJ,fit,k⟩:=h
  obtain⟨⟨dx,hp⟩,_,_,_⟩:=id hT
  refine⟨_,(oR (gu (kO Vo ["house","live","rows","town"] [none,some 1,some 2,some 0]) rfl (eB rfl T.gI (fV (aO (pv 0) rfl))) (λ_ _ _ _=>by exact (gS 0 Su)) (λ_ _ _ _=>by exact jT) (λ_ _ _ _=>by exact (cG (VM T) hr T.QM (Yv (pv 3) (pv 1) (pv 2) (pv 0)))))),?_⟩
  try dsimp only[aU]
  refine⟨_,rfl,p,_,dx,_,_,rfl,hp,T.eG,T.lT,rfl,(ns.length:Int),rfl,by lia,by lia,λacc hacc=>?_⟩
  refine fQ (n:=((ns.length:Int)).toNat) (λi ys H2=>ys.length=i/\∀ (j:Nat) v,ys[j]?=some v->uH K H2 v (yY (aK ns rs live nd ok jk) R j)) hacc yW pe ⟨rfl,λj v e=>by simp at e⟩ ?_ ?_
  ·rintro i ys H2 hi s2 hy ⟨e1,hit⟩ x H3 ⟨rfl,rfl⟩
   refine⟨_,rfl,_,rfl,_,rfl,_,rfl,p,ln,lr,c,b,ns,rs,live,nd,ok,jk,R,i,by rw[dm]; rfl,hT.mono s2,s2.seq hC,hRw.mono s2,by lia,yJ,fit,λv H4 s4 hv=>?_⟩
   refine dZ hacc hi (s2.trans s4) (s4 _ _ hy) (by rw[e1]; exact bW (by lia)) ⟨by rw[av,e1]; rfl,λj w e=>?_⟩
   refine uH.lst (s4 _ _ hy) ?_
   rcases wQ e with z | ⟨z1,z2⟩
   ·exact (hit j w z).mono s4
   ·rw[z1,z2,e1]; exact hv
  rintro ys H2 s2 hy ⟨e1,hit⟩
  exact k acc H2 s2 hacc ⟨ys,hy,by lia,hit⟩
inductive QW(K:af)(C:Addr)(vs:List V)(H:Hp)(Q:VK)(E:XK):Prop
 | mk (p ln lr c b:Addr) (ns:List Int) (rs:List R5) (live:List Nat) (nd:ns.Nodup) (ok:∀ r∈rs,r.Ok ns.length) (hl:∀ k∈live,k < rs.length) (R:Nat->RM.Row):vs = [.ref p,.ref c,.ref b]->cN K C H p ln lr ns rs->bJ K H c (aV live)->j6 K H b ns.length R->ns.length<=12->rs.length<=20->uG ns.length rs.length R->(∀ l os H',aC H H'->H l=none->H' l=some (.lst (aV os))->mz (aK ns rs live nd ok hl) R os->os.length<=12->Q (.ref l) H')->QW K C vs H Q E
theorem Nv{t:Ad}(T:Txt K mg t):bV P w K mg base gO 5 t.xo t.FU ["town","live","rows"]  (QW K t.aR):=by
 refine T.CQ.F.jo MU λH Q E hr h=>?_
 ·obtain⟨p,ln,lr,c,b,ns,rs,live,nd,ok,jk,R,rfl,hT,hC,hRw,Xl,yJ,fit,k⟩:=h
  refine⟨_,(oR (cB yZ T.Ho boot_sorted (fV (gu (kO MU ["up"] [none]) rfl (fB (cG (aau T) hr T.YB (J2 (pv 0) (pv 1) (pv 2)))) (λ_ _ _ _=>by exact (gS 0 MV)) (λ_ _ _ _=>by exact (qM (qT K0 (pv 0) nK))) (λ_ _ _ _=>by exact (yT K (pv 0) aA)))))),?_⟩
  try dsimp only[aU]
  refine⟨_,rfl,_,rfl,_,rfl,p,ln,lr,c,b,ns,rs,live,nd,ok,jk,R,rfl,hT,hC,hRw,Xl,yJ,fit,λlu H2 s2 akI hO=>?_⟩
  obtain⟨vs,hvs,evs,ivs⟩:=hO
  refine⟨lu,rfl,⟨_,bJ.of hvs⟩,λacc hacc=>?_⟩
  refine fQ (n:=vs.length) (λi ys _=>∃ ks:List Nat,ys=aV ks/\ks.length<=i/\ks.Nodup/\∀ k,k∈ks↔∃ h g,h < i/\RM.iO (aK ns rs live nd ok jk) R k h g) hacc (yV (bJ.of hvs)) (o6 (bJ.of hvs)) ⟨[],rfl,br _,oW,λk=>⟨λz=>absurd z (by simp),λ⟨_,_,z,_⟩=>absurd z (rG _)⟩⟩ ?_ ?_
  ·rintro i ys H3 hi s3 hy ⟨ks,rfl,e1,e2,e3⟩ y H4 ⟨rfl,hv⟩
   have hvi:=hv _ (s3.seq (bJ.of hvs))
   rw[aa hi] at hvi
   cases hvi
   have it:=(ivs i _ (aa hi)).mono s3
   generalize vs[i]=v at it
   cases hh:yY (aK ns rs live nd ok jk) R i with
   | none =>
    rw[hh] at it
    have it:v = .eU:=it
    subst it
    refine⟨_,rfl,rfl,_,rfl,fk ?_⟩
    refine i0 hi s3 hy ⟨ks,rfl,by lia,e2,λk=>(e3 k).trans ⟨λ⟨h,g,z,t⟩=>⟨h,g,by lia,t⟩,λ⟨h,g,z,t⟩=>⟨h,g,?_,t⟩⟩⟩
    by_cases e:h=i
    ·subst e
     rw[tT.mpr t] at hh
     cases hh
    ·lia
   | some q =>
    rw[hh] at it
    obtain⟨t1,rfl,ht⟩:=it
    have SQ:=(tT (k:=q.1) (g:=q.2)).mp hh
    refine⟨_,rfl,rfl,_,rfl,eW ?_⟩
    refine⟨_,rfl,t1,_,0,_,rfl,rfl,ht,rfl,?_⟩
    refine dZ hacc hi s3 hy (by rw[ah]; exact bW (by lia)) ⟨ks++[q.1],by rw[gK],by rw[av]; exact jl e1 1,Gr.Bl e2 λz=>?_,λk=>?_⟩
    ·obtain⟨h,g,z1,t⟩:=(e3 _).mp z
     have:=(t.one SQ).1
     lia
    ·rw[bG,bz,e3]
     constructor
     ·rintro (⟨h,g,z,t⟩ | rfl)
      ·exact⟨h,g,by lia,t⟩
      ·exact⟨i,q.2,by lia,SQ⟩
     ·rintro⟨h,g,z,t⟩
      by_cases e:h=i
      ·subst e
       exact .inr (t.uniq SQ).1
      ·exact .inl ⟨h,g,by lia,t⟩
  rintro ys H3 s3 hy ⟨ks,rfl,e1,e2,e3⟩
  refine⟨acc,ks.map λk:Nat=>(k:Int),rfl,bJ.of (by rw[hy,d7]),by rw[ah]; lia,λl ms hl perm pw=>?_⟩
  obtain⟨os,eos,o1,o2,o3⟩:=MG perm pw e2
  rw[eos]
  have s23:=s2.trans s3
  refine k l os _ (s23.trans (aC.new hl)) (s23.free hl) ao ⟨o1,λk=>?_⟩ (by lia)
  rw[o2,e3]
  constructor
  ·rintro⟨h,g,_,t⟩; exact⟨h,g,t⟩
  ·rintro⟨h,g,t⟩
   have:h < ns.length:=(iO.lt t).1
   exact⟨h,g,by lia,t⟩
theorem Ku{p:Nat->Bool}{xs:List Nat}{i:Nat}(hi:i < xs.length):(xs.take (i + 1)).filter p=(xs.take i).filter p++if p xs[i] then [xs[i]] else []:=by
 rw[fH hi,iN]
 congr 1
 cases e:p xs[i]
 ·rw[if_neg (by decide),rN (by rw[e]; decide)]; rfl
 ·rw[if_pos rfl,rM e]; rfl
inductive Ny(K:af)(C:Addr)(vs:List V)(H:Hp)(Q:VK)(E:XK):Prop
 | mk (p ln lr c b:Addr) (ns:List Int) (rs:List R5) (live:List Nat) (nd:ns.Nodup) (ok:∀ r∈rs,r.Ok ns.length) (hl:∀ k∈live,k < rs.length) (R:Nat->RM.Row) (h:Int):vs = [.ref p,.ref c,.ref b,.int h]->cN K C H p ln lr ns rs->bJ K H c (aV live)->j6 K H b ns.length R->ns.length<=12->rs.length<=20->uG ns.length rs.length R->(∀ l os H',aC H H'->H l=none->H' l=some (.lst (aV (os.filter (isAt rs h))))->mz (aK ns rs live nd ok hl) R os->os.length<=12->Q (.ref l) H')->Ny K C vs H Q E
theorem PN{t:Ad}(T:Txt K mg t):bV P w K mg base gO 6 t.vV t.Az ["town","live","rows","house"]  (Ny K t.aR):=by
 refine T.J9.F.jo BA λH Q E hr h=>?_
 ·obtain⟨p,ln,lr,c,b,ns,rs,live,nd,ok,jk,R,x,rfl,hT,hC,hRw,Xl,yJ,fit,k⟩:=h
  refine⟨_,(ak (sS 4 BA (cM (pv 0) T.eG T.k6 (oj T) hr (fV (pv 3)))) (oR (gu (kO BA ["rope","joined"] [none,some 4]) rfl (fB (An (Nv T) (hr.mono (by decide)) rfl T.zG T.CQ.F.kp T.CQ.B .nil mj (J2 (pv 0) (pv 1) (pv 2)))) (λ_ _ _ _=>by exact (gS 0 IY)) (λ_ _ _ _=>by exact (qM (jf (Bk K rfl) (pv 0) (pv 1) (by with_unfolding_all rfl)))) (λ_ _ _ _=>by exact (pv 0))))),?_⟩
  try dsimp only[aU]
  obtain⟨⟨dx,hp⟩,_⟩:=id hT
  refine⟨_,rfl,p,dx,_,rfl,hp,rfl,_,rfl,p,ln,lr,ns,rs,x,rfl,hT,yJ,λlj H1 s1 akL Tp=>?_⟩
  refine⟨_,rfl,_,rfl,_,rfl,p,ln,lr,c,b,ns,rs,live,nd,ok,jk,R,rfl,hT.mono s1,s1.seq hC,hRw.mono s1,Xl,yJ,fit,λlo os H2 s2 VN hlo hOs h12=>?_⟩
  have agp:=s2 _ _ Tp
  have mem:∀ k∈os,decide (k∈Th rs x rs.length)=isAt rs x k:=λk hk=>by
   obtain⟨h,g,t⟩:=(hOs.2 k).mp hk
   have hk':k < rs.length:=jk k t.yX.1
   by_cases z:isAt rs x k=true
   ·rw[z]; exact decide_eq_true (Ar.mpr ⟨hk',z⟩)
   ·rw[Bool.not_eq_true] at z
    rw[z]
    refine decide_eq_false λy=>?_
    rw[(Ar.mp y).2] at z
    cases z
  refine⟨lo,rfl,⟨_,bJ.of hlo⟩,λacc hacc=>?_⟩
  refine fQ (n:=(aV os).length) (λi ys _=>ys=aV ((os.take i).filter (isAt rs x))) hacc (yV (bJ.of hlo)) (o6 (bJ.of hlo)) rfl ?_ ?_
  ·rintro i ys H3 hi s3 hy rfl y H4 ⟨rfl,hv⟩
   have hv:=hv _ (s3.seq (bJ.of hlo))
   have hi':i < os.length:=by rw[ah] at hi; exact hi
   rw[aj,aa hi'] at hv
   cases hv
   refine⟨_,rfl,_,rfl,lj,_,rfl,.inl (bJ.of (s3 _ _ agp)),rfl,jU _,_,rfl,?_⟩
   try dsimp only
   rw[if_neg aB,rT,mem _ (aL hi')]
   refine jS (λhc=>?_) (λhc=>?_)
   ·refine⟨_,rfl,?_⟩
    refine dZ hacc hi s3 hy ?_ ?_
    ·rw[ah]
     refine bW (aH (bB _ _) ?_)
     rw[bO]; lia
    ·rw[Ku hi',if_pos hc,gK]
   ·refine i0 hi s3 hy ?_
    rw[Ku hi',if_neg hc,gQ]
  ·rintro ys H3 s3 hy rfl
   rw[ah,kh] at hy
   have Wh:=(s1.trans s2).trans s3
   exact k acc os _ Wh ((s1.trans s2).free hacc) hy hOs h12
inductive VO(K:af)(C:Addr)(vs:List V)(H:Hp)(Q:VK)(E:XK):Prop
 | mk (p ln lr:Addr) (ns:List Int) (rs:List R5) (i:Nat) (r:R5) (g:Nat) (z:Int):vs = [.ref p,.int i,.int g]->cN K C H p ln lr ns rs->rs[i]?=some r->([1,2,4]:List Int)[g]?=some z->Q (.bl (!decide (Builtin.bitAnd r.e z=0))) H->VO K C vs H Q E
theorem Di{t:Ad}(T:Txt K mg t):bV P w K mg base gO 1 t.pG t.ua ["self","rope","group"]  (VO K t.aR):=by
 refine T.zE.F.jo Lv λH Q E hr h=>?_
 ·obtain⟨p,ln,lr,ns,rs,i,r,g,z,rfl,hT,hi,hz,k⟩:=h
  obtain⟨⟨dx,hp⟩,hn,us,hr',Tj⟩:=id hT
  obtain⟨v,hv,hD⟩:=Tj.get (i:=i) (d:=r.D) (by rw[aj,hi]; rfl)
  obtain⟨q,e,hq⟩:=Rep.yU (ns:=r.ns) hD
  subst e
  refine⟨_,(oR (qE yP (aS OC (xT (xL (aO (pv 0) rfl) (pv 1)) aA) (xT (kN rfl T.j3 (v:=.ref t.dI) rfl) (pv 2))) aA)),?_⟩
  try dsimp only[aU]
  refine⟨_,rfl,p,_,dx,_,_,rfl,hp,T.eG,T.gq,rfl,_,rfl,lr,_,_,_,rfl,rfl,bJ.of hr',dG hv,?_⟩
  refine⟨q,_,_,_,rfl,rfl,hq,rfl,?_⟩
  have hb:([.int 1,.int 2,.int 4]:List V)[g]?=some (.int z):=by
   have e:([.int 1,.int 2,.int 4]:List V)=([1,2,4]:List Int).map V.int:=rfl
   rw[e,aj,hz]; rfl
  refine⟨_,rfl,_,_,_,_,rfl,rfl,T.e9 H,dG hb,_,_,rfl,rfl,rfl,?_⟩
  have e:decide (V.int (Builtin.bitAnd r.e z)=V.int 0)=decide (Builtin.bitAnd r.e z=0):=by simp
  rw[e]
  exact k
inductive Kv(K:af)(C:Addr)(vs:List V)(H:Hp)(Q:VK)(E:XK):Prop
 | mk (p ln lr:Addr) (ns:List Int) (rs:List R5) (i:Nat) (r:R5):vs = [.ref p,.int i]->cN K C H p ln lr ns rs->rs[i]?=some r->Q (.int r.d) H->Kv K C vs H Q E
theorem E9{t:Ad}(T:Txt K mg t):bV P w K mg base gO 2 t.sr t.xr ["town","rope"]  (Kv K t.aR):=by
 refine T.BE.F.jo MW λH Q E hr h=>?_
 ·obtain⟨p,ln,lr,ns,rs,i,r,rfl,hT,hi,k⟩:=h
  obtain⟨⟨dx,hp⟩,_⟩:=id hT
  refine⟨_,(oR (xT (cM (pv 0) T.eG T.zD (Dh T) hr (fV (pv 1))) aA)),?_⟩
  try dsimp only[aU]
  refine⟨_,rfl,p,dx,_,rfl,hp,rfl,_,rfl,p,ln,lr,ns,rs,i,r,rfl,hT,hi,λq hq=>?_⟩
  have hq:cH K H q r.vs:=hq.elim cH.of id
  exact⟨q,_,_,_,rfl,rfl,hq,rfl,k⟩
inductive Ib(K:af)(CT C NW:Addr)(vs:List V)(H:Hp)(Q:VK)(E:XK):Prop
 | mk (p tp lu ln lr:Addr) (ns:List Int) (rs:List R5) (ws:List (List Nat)) (i:Int):vs = [.ref p,.int i]->cN K CT H tp ln lr ns rs->tU C H p tp lu ws->ws.length=rs.length->(∀ (j:Nat) w l H',i=(j:Int)->ws[j]?=some w->aC H H'->H l=none->H' l=some (.lst (aV w))->Q (.ref l) H')->(¬ (0<=i/\i < rs.length)->E (.ref NW) none H)->Ib K CT C NW vs H Q E
theorem kg{t:Ad}(T:Txt K mg t):bV P w K mg base (Du P w) 1 t.gm t.iF ["self","rope"]  (Ib K t.aR t.cz t.we):=by
 refine T.dM.F.So AM λH Q E hr h=>?_
 ·obtain⟨p,tp,lu,ln,lr,ns,rs,ws,i,rfl,hT,hW,ew,k,kx⟩:=h
  obtain⟨⟨dx,hp⟩,ls,Oq,els,hls⟩:=id hW
  obtain⟨⟨dt,htp⟩,_⟩:=id hT
  refine⟨_,(ak (cC (jx (jy qG tR aA (pv 1) (aO (aO (pv 0) rfl) rfl))) (aW (Cw rfl T.Hi T.Hj hr.hd pT)) aX) (oR (iZ iC (by rfl) T.xM boot_list (fV (xL (aO (pv 0) rfl) (pv 1)))))),?_⟩
  try dsimp only[aU]
  refine⟨_,rfl,_,_,rfl,rfl,_,rfl,?_⟩
  by_cases h0:0<=i
  case neg =>
   rw[decide_eq_false h0]
   exact fk ⟨_,rfl,eW (kx λz=>h0 z.1)⟩
  rw[decide_eq_true h0]
  refine eW ?_
  refine⟨_,rfl,p,_,dx,_,_,rfl,hp,T.c8,T.jP,rfl,tp,_,dt,_,_,rfl,htp,T.eG,T.uq,rfl,_,_,rfl,rfl,_,rfl,?_⟩
  by_cases h1:i < (rs.length:Int)
  case neg =>
   rw[decide_eq_false h1]
   exact eW (kx λz=>h1 z.2)
  rw[decide_eq_true h1]
  refine fk ?_
  obtain⟨j,rfl⟩ : ∃ j:Nat,i=(j:Int):=⟨i.toNat,by lia⟩
  have hj:j < ws.length:=by lia
  have hwj:ws[j]?=some ws[j]:=aa hj
  have Tp:ls[j]?=some ls[j]:=aa (by lia)
  have hat:IK (ls.map V.ref) (j:Int)=some (.ref ls[j]):=dG (by rw[aj,Tp]; rfl)
  refine⟨_,rfl,p,_,dx,_,_,rfl,hp,T.c8,T.fF,rfl,_,rfl,lu,_,_,_,rfl,rfl,bJ.of Oq,hat,ls[j],_,rfl,.inl (bJ.of (hls j _ _ Tp hwj)),λl hl=>?_⟩
  exact k j _ l _ rfl hwj (aC.new hl) hl ao
inductive QX(K:af)(CT C NW:Addr)(vs:List V)(H:Hp)(Q:VK)(E:XK):Prop
 | mk (p tp lu ln lr:Addr) (ns:List Int) (rs:List R5) (ws:List (List Nat)) (i x:Int):vs = [.ref p,.int i,.int x]->cN K CT H tp ln lr ns rs->tU C H p tp lu ws->ws.length=rs.length->(∀ w∈ws,w.length<=4)->(∀ (j k:Nat) w (ls:List Addr) (q:Addr) H',i=(j:Int)->x=(k:Int)->ws[j]?=some w->k∈w->H lu=some (.lst (ls.map V.ref))->H q=none->H' q=some (.lst (aV (w.filter λz=>decide (z≠k))))->H' lu=some (.lst ((ls.map V.ref).set j (.ref q)))->(∀ b o,H b=some o->b≠lu->H' b=some o)->Q (.bl (w.filter λz=>decide (z≠k)).isEmpty) H')->(¬ (0<=i/\i < rs.length)->E (.ref NW) none H)->(∀ (j:Nat) w H',i=(j:Int)->ws[j]?=some w->(∀ k∈w,x≠(k:Nat))->aC H H'->E (.ref NW) none H')->QX K CT C NW vs H Q E
theorem FD{t:Ad}(T:Txt K mg t):bV P w K mg base (Du P w) 2 t.jM t.m7 ["self","rope","wire"]  (QX K t.aR t.cz t.we):=by
 refine T.sI.F.So qc λH Q E hr h=>?_
 ·obtain⟨p,tp,lu,ln,lr,ns,rs,ws,i,x,rfl,hT,hW,ew,h4,k,kx,ky⟩:=h
  obtain⟨⟨dx,hp⟩,ls,Oq,els,hls⟩:=id hW
  refine⟨_,(ak (sS 3 qc (qL (pv 0) T.c8 T.dM.m (kg T) (hr.mono (by decide)) T.dM.B .nil Qy (fV (pv 1)))) (ak (cC (jf mh (pv 2) (pv 3) (by with_unfolding_all rfl)) (aW (Cw rfl T.Hi T.Hj hr.hd pT)) aX) (ak (Gd (gu (kO qc ["each","wire"] [none,some 2]) rfl (fB (pv 3)) (λ_ _ _ _=>by exact (gS 0 BB)) (λ_ _ _ _=>by exact (qM (qT yP (pv 0) (pv 1)))) (λ_ _ _ _=>by exact (pv 0))) (KY (aO (pv 0) rfl) (pv 1) set_list)) (oR (qE uF (xL (aO (pv 0) rfl) (pv 1)) (gx fK)))))),?_⟩
  try dsimp only[aU]
  refine⟨_,rfl,p,dx,_,rfl,hp,rfl,_,rfl,p,tp,lu,ln,lr,ns,rs,ws,i,rfl,hT,hW,ew,λj w' l H1 ej hj s1 Mx hl=>?_,kx⟩
  subst ej
  have hjl:=(ai.mp hj).1
  have w4:=h4 _ (aI hj)
  refine⟨_,rfl,_,rfl,l,_,rfl,.inl (bJ.of hl),rfl,jU w',_,rfl,?_⟩
  try dsimp only
  rw[if_pos rfl,d7,rS]
  by_cases hc:x∈w'.map λk:Nat=>(k:Int)
  case neg =>
   rw[decide_eq_false hc]
   exact eW (ky j w' H1 rfl hj (λz hz e=>hc (bL.mpr ⟨z,hz,e.symm⟩)) s1)
  rw[decide_eq_true hc]
  refine fk ?_
  obtain⟨kk,hkk,rfl⟩:=bL.mp hc
  refine⟨_,rfl,l,rfl,⟨_,bJ.of hl⟩,λacc hacc=>?_⟩
  have hC:=bJ.of (K:=K) hl
  refine fQ (n:=(aV w').length) (λi ys _=>ys=aV ((w'.take i).filter λz=>decide (z≠kk))) hacc (yV hC) (o6 hC) rfl ?_ ?_
  ·rintro i ys H2 hi s2 hy rfl y H3 ⟨rfl,hv⟩
   have hv:=hv _ (s2.seq hC)
   have hi':i < w'.length:=by rw[ah] at hi; exact hi
   have hwi:w'[i]?=some w'[i]:=aa hi'
   rw[aj,hwi] at hv
   cases hv
   refine⟨_,rfl,_,rfl,rfl,_,rfl,?_⟩
   have et:w'.take (i + 1)=w'.take i++[w'[i]]:=by rw[uz,hwi]; rfl
   by_cases hz:w'[i]=kk
   ·have e1:decide (V.int (w'[i]:Nat)=V.int (kk:Nat))=true:=decide_eq_true (by rw[hz])
    rw[e1]
    refine fk (i0 hi s2 hy ?_)
    rw[et,iN,hz]
    simp
   ·have e1:decide (V.int (w'[i]:Nat)=V.int (kk:Nat))=false:=decide_eq_false λq=>hz (by have:=V.int.inj q; lia)
    rw[e1]
    refine eW ⟨_,rfl,dZ hacc hi s2 hy ?_ ?_⟩
    ·rw[ah]
     have:=bB (λz=>decide (z≠kk)) (w'.take i)
     rw[bO] at this
     exact bW (by lia)
    ·rw[et,iN,<- gK]
     simp[hz]
  ·rintro ys H2 s2 hy rfl
   rw[ah,kh] at hy
   have s12:=s1.trans s2
   have hu2:=s12 _ _ Oq
   have hp2:=s12 _ _ hp
   have Tp:j < ls.length:=by lia
   refine⟨_,rfl,p,_,dx,_,_,rfl,hp2,T.c8,T.fF,rfl,_,rfl,lu,_,_,j,rfl,rfl,hu2,(by rw[ah]; exact Cy Tp),?_⟩
   have hW2:=hW.mono s12
   generalize eH3:upd H2 lu (.lst ((ls.map V.ref).set j (.ref acc)))=H3
   have k3:∀ b o,H2 b=some o->b≠lu->H3 b=some o:=λb o e nb=>by rw[<- eH3,aD nb]; exact e
   have hu3:H3 lu=some (.lst ((ls.map V.ref).set j (.ref acc))):=by rw[<- eH3]; exact ao
   have hW3:=hW2.put hu2 hy hjl k3 hu3
   have YK:H3 acc=some (.lst (aV (w'.filter λz=>decide (z≠kk)))):=k3 _ _ hy (lZ hy hu2 λz=>vJ (aa Tp) (HO.lst.inj z))
   obtain⟨⟨YL,hp3⟩,_⟩:=id hW3
   refine⟨_,rfl,p,_,YL,_,_,rfl,hp3,T.c8,T.fF,rfl,_,rfl,lu,_,_,V.ref acc,rfl,rfl,bJ.of hu3,dG (by rw[cV,if_pos rfl,if_pos (by rw[ah]; exact Tp)]),br _,λq hq=>?_⟩
   have s4:=aC.new (o:=.lst []) hq
   refine⟨.list (((w'.filter λz=>decide (z≠kk)).map λk:Nat=>(k:Int)).map .int),.list [],⟨acc,_,rfl,bJ.of (s4 _ _ YK),(by rw[d7]; exact jC _)⟩,⟨q,_,rfl,bJ.of ao,rfl⟩,gU _,rfl,aZ (bM (aH (Nat.min_le_right _ _) (by decide)) _) hr.units,?_⟩
   have z:=k j kk w' ls acc _ rfl rfl hj hkk Oq (s1.free hacc) (s4 _ _ YK) (s4 _ _ hu3) (λb o e nb=>s4 _ _ (k3 _ _ (s12 _ _ e) nb))
   cases e:w'.filter λz=>decide (z≠kk) with
   | nil=>rw[e] at z; exact z
   | cons a r=>rw[e] at z; exact z
inductive QY(NG:Addr)(vs:List V)(H:Hp)(Q:VK)(E:XK):Prop
 | mk (g:Int):vs = [.int g]->(0<=g/\g < 3->Q .eU H)->(¬ (0<=g/\g < 3)->E (.ref NG) none H)->QY NG vs H Q E
theorem tN{t:Ad}(T:Txt K mg t):bV P w K mg base (Du P w) 1 t.kH t.oN ["group"]  (QY t.AG):=by
 refine T.dW.F.So G2 λH Q E hr h=>?_
 ·obtain⟨g,rfl,k,kx⟩:=h
  refine⟨_,(aW (cC (jx (jy qG tR aA (pv 0) (lS T.jQ (kN rfl T.j3 (v:=.ref t.dI) rfl)))) (aW (Cw rfl T.Sz T.SA hr.hd pT)) aX)),?_⟩
  try dsimp only[aU]
  refine⟨_,rfl,_,_,rfl,rfl,_,rfl,?_⟩
  by_cases h0:0<=g
  case neg =>
   rw[decide_eq_false h0]
   exact fk ⟨_,rfl,eW (kx λz=>h0 z.1)⟩
  rw[decide_eq_true h0]
  refine eW ?_
  refine⟨_,_,rfl,.inr (T.e9 H),_,_,rfl,rfl,_,rfl,?_⟩
  by_cases h1:g < 3
  case neg =>
   have e:decide (g < ((([.int 1,.int 2,.int 4]:List V).length:Nat):Int))=false:=decide_eq_false h1
   rw[e]
   exact eW (kx λz=>h1 z.2)
  have e:decide (g < ((([.int 1,.int 2,.int 4]:List V).length:Nat):Int))=true:=decide_eq_true h1
  rw[e]
  exact fk (k ⟨h0,h1⟩)
inductive VP(K:af)(CT C NG:Addr)(vs:List V)(H:Hp)(Q:VK)(E:XK):Prop
 | mk (p tp lu ln lr:Addr) (ns:List Int) (rs:List R5) (ws:List (List Nat)) (g:Int):vs = [.ref p,.int g]->cN K CT H tp ln lr ns rs->tU C H p tp lu ws->ws.length=rs.length->rs.length<=20->(∀ r∈rs,1<=r.e/\r.e<=7)->(∀ (gg:Nat) l H',g=(gg:Int)->gg < 3->aC H H'->H l=none->H' l=some (.lst (aV (pV rs ws gg rs.length)))->Q (.ref l) H')->(¬ (0<=g/\g < 3)->E (.ref NG) none H)->VP K CT C NG vs H Q E
theorem FE{t:Ad}(T:Txt K mg t):bV P w K mg base (Du P w) 2 t.jN t.m8 ["self","group"]  (VP K t.aR t.cz t.AG):=by
 refine T.sJ.F.So yp λH Q E hr h=>?_
 ·obtain⟨p,tp,lu,ln,lr,ns,rs,ws,g,rfl,hT,hW,ew,yJ,he,k,kx⟩:=h
  obtain⟨⟨dx,hp⟩,ls,Oq,els,hls⟩:=id hW
  obtain⟨⟨dt,htp⟩,_⟩:=id hT
  refine⟨_,(ak (dY (An (tN T) (hr.mono (by decide)) rfl T.dW.g T.dW.F.kp T.dW.B .nil Qy (fV (pv 1)))) (oR (gu (kO yp ["rope","group","self"] [none,some 1,some 0]) rfl (eB rfl T.gI (fV (aO (aO (pv 0) rfl) rfl))) (λ_ _ _ _=>by exact (gS 0 BC)) (λ_ _ _ _=>by exact (qM (PW.pt (Gb (Sb K rfl (yL K (FO K rfl (pv 2) rfl) (pv 0)) (λ_=>rfl)) (Cj (nL (cM (FO K rfl (pv 2) rfl) T.eG T.zE (Di T) hr (mH (pv 0) (pv 1))))))))) (λ_ _ _ _=>by exact (pv 0))))),?_⟩
  try dsimp only[aU]
  refine⟨_,rfl,g,rfl,λhg=>?_,kx⟩
  obtain⟨gg,rfl⟩ : ∃ gg:Nat,g=(gg:Int):=⟨g.toNat,by lia⟩
  have hg3:gg < 3:=by lia
  obtain⟨z,hz⟩:=acv hg3
  refine⟨_,rfl,p,_,dx,_,_,rfl,hp,T.c8,T.jP,rfl,tp,_,dt,_,_,rfl,htp,T.eG,T.uq,rfl,_,rfl,(by show -(2 ^ 62)<=((rs.length:Nat):Int); lia),(by show ((rs.length:Nat):Int) < 2 ^ 62; lia),λacc hacc=>?_⟩
  refine fQ (n:=(((rs.length:Nat):Int)).toNat) (λi ys _=>ys=aV (pV rs ws gg i)) hacc yW pe rfl ?_ ?_
  ·rintro i ys H2 hi s2 hy rfl x H3 ⟨rfl,rfl⟩
   have hi':i < rs.length:=by simpa using hi
   have Dy:rs[i]?=some rs[i]:=aa hi'
   have hiw:ws[i]?=some ws[i]:=aa (by lia)
   have hil:ls[i]?=some ls[i]:=aa (by lia)
   have IM:(aV (pV rs ws gg i)).length < sizeLine:=by rw[ah]; exact bW (by have:=Bm rs ws gg i; lia)
   have eL:isLive rs ws gg i=((!(ws[i]).isEmpty) && lQ (rs[i]).e gg):=by unfold isLive; rw[Dy,hiw]
   refine⟨_,rfl,p,_,dx,_,_,rfl,s2 _ _ hp,T.c8,T.fF,rfl,_,rfl,lu,_,_,V.ref ls[i],rfl,rfl,bJ.of (s2 _ _ Oq),(by rw[dm]; exact dG (by rw[aj,hil]; rfl)),?_⟩
   refine⟨!(aV ws[i]).isEmpty,?_,?_⟩
   ·exact .inl ⟨_,bJ.of (s2 _ _ (hls i _ _ hil hiw)),rfl⟩
   cases ewi:ws[i] with
   | nil =>
    refine fk (i0 hi s2 hy ?_)
    rw[lR,eL,ewi]
    simp
   | cons y0 r0 =>
    refine eW ?_
    refine⟨_,rfl,p,_,dx,_,_,rfl,s2 _ _ hp,T.c8,T.jP,rfl,tp,dt,_,rfl,s2 _ _ htp,rfl,_,rfl,_,rfl,tp,ln,lr,ns,rs,i,rs[i],gg,z,(by show [V.ref tp,V.int (0 + (i:Int)),V.int (gg:Nat)]=_; rw[dm]),hT.mono s2,Dy,hz,_,rfl,?_⟩
    have h17:=he _ (aI Dy)
    rw[MH h17.1 h17.2 hz]
    cases eb:lQ rs[i].e gg with
    | true =>
     refine eW ⟨_,rfl,dZ hacc hi s2 hy IM ?_⟩
     rw[lR,eL,ewi,eb,dm]
     exact (gK _ _).symm
    | false =>
     refine fk (i0 hi s2 hy ?_)
     rw[lR,eL,ewi,eb]
     simp
  ·rintro ys H2 s2 hy rfl
   exact k gg acc H2 rfl hg3 s2 hacc (by rw[hy,eO])
inductive QZ(K:af)(vs:List V)(H:Hp)(Q:VK)(E:XK):Prop
 | mk (p C dx:Addr) (s:Int):vs = [.ref p,.int s]->H p=some (.ins C dx [])->IJ K C->cT K C "sender" -> Q .eU (upd H p (.ins C dx [("sender",.int s)]))->QZ K vs H Q E
theorem wC{t:Ad}(T:Txt K mg t):bV P w K mg base gO 1 t.dH t.kQ ["self","sender"]  (QZ K):=by
 refine T.qd.F.jo DT λH Q E hr h=>?_
 ·obtain⟨p,C,dx,s',rfl,hp,hc,hn,k⟩:=h
  refine⟨_,(aW (fj (pv 0) (pv 1) rfl)),?_⟩
  try dsimp only[aU]
  exact⟨_,rfl,_,rfl,p,C,dx,[],rfl,hp,hc,hn,by decide,k⟩
inductive Nz(vs:List V)(H:Hp)(Q:VK)(E:XK):Prop
 | mk (p:Addr) (c:Int):vs = [.ref p,.int c]->Q (.bl false) H->Nz  vs H Q E
theorem FF{t:Ad}(T:Txt K mg t):bV P w K mg base gO 1 t.jI t.mX ["self","caller"]  Nz:=by
 refine T.zB.F.jo Fl λH Q E hr h=>?_
 ·obtain⟨p,c,rfl,k⟩:=h
  exact⟨_,oB,k⟩
inductive NB(vs:List V)(H:Hp)(Q:VK)(E:XK):Prop
 | mk (p:Addr):vs = [.ref p]->Q .eU H->NB  vs H Q E
theorem yD{t:Ad}(T:Txt K mg t):bV P w K mg base gO 1 t.gk t.mY ["self"]  NB:=by
 refine T.nh.F.jo Fo λH Q E hr h=>?_
 ·obtain⟨p,rfl,k⟩:=h
  exact⟨_,(oR nK),k⟩
inductive AH(K:af)(vs:List V)(H:Hp)(Q:VK)(E:XK):Prop
 | mk (p C dx:Addr) (s:Int):vs = [.ref p]->H p=some (.ins C dx [("sender",.int s)])->IJ K C->cT K C "sender" -> Q (.int s) H->AH K vs H Q E
theorem wD{t:Ad}(T:Txt K mg t):bV P w K mg base gO 1 t.fL t.kR ["self"]  (AH K):=by
 refine T.kZ.F.jo DU λH Q E hr h=>?_
 ·obtain⟨p,C,dx,s',rfl,hp,hc,hn,k⟩:=h
  exact⟨_,(oR (aO (pv 0) rfl)),_,rfl,p,C,dx,_,_,rfl,hp,hc,hn,rfl,k⟩
inductive Kw(C:Addr)(vs:List V)(H:Hp)(Q:VK)(E:XK):Prop
 | mk (p dx:Addr) (s to:Int):vs = [.ref p,.int s,.int to]->H p=some (.ins C dx [])->(∀ H',H' p=some (.ins C dx [("sender",.int s),("to",.int to)])->(∀ b o,H b=some o->b≠p->H' b=some o)->Q .eU H')->Kw C vs H Q E
theorem FG{t:Ad}(T:Txt K mg t):bV P w K mg base gO 2 t.jJ t.mZ ["self","sender","to"]  (Kw t.fE):=by
 refine T.zC.F.jo Fq λH Q E hr h=>?_
 ·obtain⟨p,dx,s',to,rfl,hp,k⟩:=h
  refine⟨_,(ak (dY (O0 (kN rfl T.Vq (v:=.ref t.ig) rfl) T.D6 (wC T) (hr.mono (by decide)) T.qd.B .nil mj (mH (pv 0) (pv 1)))) (aW (fj (pv 0) (pv 2) rfl))),?_⟩
  try dsimp only[aU]
  refine⟨rfl,_,rfl,_,rfl,p,t.fE,dx,s',rfl,hp,T.oU,T.sN,?_⟩
  refine⟨_,rfl,_,rfl,p,t.fE,dx,_,rfl,ao,T.oU,T.xG,(by show 1 < 1000; decide),?_⟩
  rw[cY (names:=["sender"]) rfl (by decide +kernel)]
  exact k _ ao λb o e nb=>by rw[aD nb,aD nb]; exact e
inductive ND(C:Addr)(vs:List V)(H:Hp)(Q:VK)(E:XK):Prop
 | mk (p dx:Addr) (s to c:Int):vs = [.ref p,.int c]->H p=some (.ins C dx [("sender",.int s),("to",.int to)])->Q (.bl (decide (V.int c=V.int to))) H->ND C vs H Q E
theorem Ic{t:Ad}(T:Txt K mg t):bV P w K mg base gO 1 t.kr t.oA ["self","caller"]  (ND t.fE):=by
 refine T.AV.F.jo GV λH Q E hr h=>?_
 ·obtain⟨p,dx,s',to,c,rfl,hp,k⟩:=h
  exact⟨_,(oR (qE yO (pv 1) (aO (pv 0) rfl))),_,rfl,_,rfl,p,_,dx,_,_,rfl,hp,T.oU,T.xG,rfl,rfl,k⟩
inductive NF(C:Addr)(vs:List V)(H:Hp)(Q:VK)(E:XK):Prop
 | mk (p dx:Addr) (s to:Int):vs = [.ref p]->H p=some (.ins C dx [("sender",.int s),("to",.int to)])->Q (.int to) H->NF C vs H Q E
theorem Ie{t:Ad}(T:Txt K mg t):bV P w K mg base gO 1 t.ku t.oF ["self"]  (NF t.fE):=by
 refine T.uW.F.jo GW λH Q E hr h=>?_
 ·obtain⟨p,dx,s',to,rfl,hp,k⟩:=h
  exact⟨_,(oR (aO (pv 0) rfl)),_,rfl,p,_,dx,_,_,rfl,hp,T.oU,T.xG,rfl,k⟩
inductive Eo(C:Addr)(vs:List V)(H:Hp)(Q:VK)(E:XK):Prop
 | mk (p dx:Addr) (s to:Int):vs = [.ref p]->H p=some (.ins C dx [("sender",.int s),("to",.int to)])->Q (.int (s + to + 1)) H->Eo C vs H Q E
theorem FH{t:Ad}(T:Txt K mg t):bV P w K mg base gO 1 t.jK t.m5 ["self"]  (Eo t.fE):=by
 refine T.sH.F.jo Ft λH Q E hr h=>?_
 ·obtain⟨p,dx,s',to,rfl,hp,k⟩:=h
  exact⟨_,(oR (aS fJ (aS fJ (aO (pv 0) rfl) (aO (pv 0) rfl)) aA)),_,rfl,p,_,dx,_,_,rfl,hp,T.oU,T.sN,rfl,_,rfl,p,_,dx,_,_,rfl,hp,T.oU,T.xG,rfl,_,_,rfl,rfl,_,_,rfl,rfl,k⟩
inductive NH(C:Addr)(vs:List V)(H:Hp)(Q:VK)(E:XK):Prop
 | mk (p dx:Addr) (s c:Int):vs = [.ref p,.int c]->H p=some (.ins C dx [("sender",.int s)])->Q (.bl (!decide (V.int c=V.int s))) H->NH C vs H Q E
theorem Ig{t:Ad}(T:Txt K mg t):bV P w K mg base gO 1 t.kB t.oG ["self","caller"]  (NH t.iJ):=by
 refine T.AW.F.jo GX λH Q E hr h=>?_
 ·obtain⟨p,dx,s',c,rfl,hp,k⟩:=h
  exact⟨_,(oR (qE yP (pv 1) (aO (pv 0) rfl))),_,rfl,_,rfl,p,_,dx,_,_,rfl,hp,T.xH,T.nj,rfl,rfl,k⟩
inductive Q0(C:Addr)(vs:List V)(H:Hp)(Q:VK)(E:XK):Prop
 | mk (p dx:Addr):vs = [.ref p]->H p=some (.ins C dx [])->(∀ d H',H d=none->pW C H' p d []->(∀ b o,H b=some o->b≠p->H' b=some o)->Q .eU H')->Q0 C vs H Q E
theorem Ih{t:Ad}(T:Txt K mg t):bV P w K mg base gO 1 t.ko t.ow ["self"]  (Q0 t.dS):=by
 refine T.uU.F.jo GR λH Q E hr h=>?_
 ·obtain⟨p,dx,rfl,hp,k⟩:=h
  refine⟨_,(aW (fj (pv 0) Mu rfl)),?_⟩
  try dsimp only[aU]
  refine λd hd=>⟨_,rfl,p,t.dS,dx,[],rfl,?_,T.xK,T.pM,by decide,?_⟩
  ·rw[aD (aF hp hd)]; exact hp
  ·refine k d _ hd ⟨⟨dx,ao⟩,?_⟩ λb o e nb=>?_
   ·rw[aD (aF hp hd).symm]; exact ao
   ·rw[aD nb,aD (aF e hd)]; exact e
inductive Q3(C:Addr)(vs:List V)(H:Hp)(Q:VK)(E:XK):Prop
 | mk (p d:Addr) (ts:List T3) (h c r:Int):vs = [.ref p,.int h,.int c,.int r]->pW C H p d ts->ts.length < 10000->(∀ H',H' d=some (.dT (putK (ts.map iz) (keyOf h c) (.int r)))->(∀ b o,H b=some o->b≠d->H' b=some o)->Q .eU H')->Q3 C vs H Q E
theorem Jv{t:Ad}(T:Txt K mg t):bV P w K mg base gO 1 t.mP t.qR ["self","house","caller","rope"]  (Q3 t.dS):=by
 refine T.CO.F.jo IV λH Q E hr h=>?_
 ·obtain⟨p,d,ts,hh,cc,r,rfl,⟨⟨dx,hp⟩,hd⟩,hl,k⟩:=h
  refine⟨_,(aW (Qu (Mw hr) (aO (pv 0) rfl) (f6 (mH (pv 1) (pv 2))) (pv 3) rfl)),?_⟩
  try dsimp only[aU]
  refine⟨_,rfl,_,rfl,p,t.dS,dx,_,_,rfl,hp,T.xK,T.pM,rfl,_,rfl,_,rfl,(by show 2<=sizeLine; decide),λb hb=>?_⟩
  have nb:d≠b:=aF hd hb
  refine⟨d,_,rfl,Mt.t (k:=keyOf hh cc) (kvs:=ts.map iz) (by rw[aD nb]; exact hd) ao (by rw[ah]; exact Nat.lt_trans hl (by show 10000 < 2 ^ 24; decide)),?_⟩
  exact k _ ao λx o e nx=>by rw[aD nx,aD (aF e hb)]; exact e
inductive Q4(C:Addr)(vs:List V)(H:Hp)(Q:VK)(E:XK):Prop
 | mk (p d:Addr) (ts:List T3) (h c:Int):vs = [.ref p,.int h,.int c]->pW C H p d ts->(∀ H',aC H H'->Q (((Bo ts h c).map V.int).getD .eU) H')->Q4 C vs H Q E
theorem Jw{t:Ad}(T:Txt K mg t):bV P w K mg base gO 1 t.mQ t.qS ["self","house","caller"]  (Q4 t.dS):=by
 refine T.CP.F.jo IW λH Q E hr h=>?_
 ·obtain⟨p,d,ts,hh,cc,rfl,⟨⟨dx,hp⟩,hd⟩,k⟩:=h
  refine⟨_,(oR (Uw (Mw hr) (aO (pv 0) rfl) (f6 (mH (pv 1) (pv 2))) ⟨rfl,rfl,rfl,rfl⟩)),?_⟩
  try dsimp only[aU]
  refine⟨_,rfl,p,t.dS,dx,_,_,rfl,hp,T.xK,T.pM,rfl,d,rfl,.inr ⟨_,.inl hd⟩,_,rfl,_,rfl,(by show 2<=sizeLine; decide),λb hb=>?_⟩
  have s1:=aC.new (o:=.tup [.int hh,.int cc]) hb
  refine⟨_,IS.t (k:=keyOf hh cc) (s1 _ _ hd) ao,?_⟩
  rw[GD]
  exact k _ s1
inductive Q5(K:af)(C:Addr)(vs:List V)(H:Hp)(Q:VK)(E:XK):Prop
 | mk (p d:Addr) (ts:List T3):vs = [.ref p]->pW C H p d ts->ts.length < 2000->(∀ l (qs:List Addr) (us:List T3) H',aC H H'->H l=none->H' l=some (.lst (qs.map V.ref))->gy K H' qs us->us.Perm ts->qN us->Q (.ref l) H')->Q5 K C vs H Q E
theorem Jx{t:Ad}(T:Txt K mg t):bV P w K mg base gO 1 t.mR t.qU ["self"]  (Q5 K t.dS):=by
 refine T.xE.F.jo AS λH Q E hr h=>?_
 ·obtain⟨p,d,ts,rfl,⟨⟨dx,hp⟩,hd⟩,h64,k⟩:=h
  refine⟨_,(oR (cB Lo T.Ho boot_sorted (fV (WY (gu (kO AS ["noted","rope"] [none,none]) rfl (UQ (ZD PySem.F.plainAttrs_dict PySem.F.slot_dict_items PySem.F.type_dict_items UP (aO (pv 0) rfl))) (λ_ _ _ _=>by exact (Qx K rfl (n:=2) rfl (l9 (gS 0 vN) (l9 (gS 1 vN) FL)))) (λ_ _ _ _=>by exact jT) (λ_ _ _ _=>by exact (aS (US K rfl) (pv 0) (f6 (fV (pv 1)))))))))),?_⟩
  try dsimp only[aU]
  refine⟨d,ts.map iz,hd,?_⟩
  refine⟨_,rfl,p,t.dS,dx,_,_,rfl,hp,T.xK,T.pM,rfl,?_⟩
  refine⟨.inr (.inr (.inl ⟨rfl,.inr ⟨_,hd⟩⟩)),d,_,rfl,rfl,hd,λv hv=>?_⟩
  have s1:=aC.new (o:=GB v d) hv
  have hv1:=ao (H:=H) (a:=v) (o:=GB v d)
  have hd1:=s1 _ _ hd
  generalize upd H v (GB v d)=H1 at s1 hv1 hd1
  refine⟨v,d,_,rfl,hv1,hd1,λo=>?_⟩
  intro acc hacc
  have hd2:=ao (H:=H1) (a:=d) (o:=.Am o (.dT (ts.map iz)))
  have hH:∀ {H3:Hp},aC (upd H1 d (.Am o (.dT (ts.map iz)))) H3->aC H (upd H3 d (.dT (ts.map iz))):=λ{H3} s3 b u e=>by
   by_cases z:b=d
   ·subst z
    rw[hd] at e
    cases e
    exact ao
   ·rw[aD z]
    exact s3 _ _ (by rw[aD z]; exact s1 _ _ e)
  generalize upd H1 d (.Am o (.dT (ts.map iz)))=H2 at hd2 hH hacc
  refine fQ (n:=(ts.map iz).length) (λi ys H3=>∃ qs:List Addr,ys=qs.map V.ref/\gy K H3 qs (ts.take i)) hacc (Z5 hd2) (UR hd2) ⟨[],rfl,gy.nil⟩ ?_ ?_
  ·rintro i ys H3 hi s3 hy ⟨qs,rfl,vE⟩ x H4 ⟨q,kb,ky,vv,hq,rfl,rfl,hkv,hkb⟩
   have hi':i < ts.length:=by rw[ah] at hi; exact hi
   rw[aj,aa hi'] at hkv
   cases hkv
   generalize ht:ts[i]=u
   have hu:ts[i]?=some u:=by rw[aa hi',ht]
   obtain⟨u1,u2,u3⟩:=u
   rw[ht] at hkb
   have u4:=aC.new (o:=.tup [.ref kb,.int u3]) hq
   refine⟨q,_,rfl,cH.of ao,rfl,_,_,rfl,_,_,rfl,rfl,?_⟩
   refine⟨_,rfl,_,rfl,(by show 1<=sizeLine; decide),λb hb=>?_⟩
   have u5:=aC.new (o:=.tup [V.int u3]) hb
   refine⟨kb,b,[.int u1,.int u2],_,rfl,rfl,cH.of (u5 _ _ (u4 _ _ hkb)),cH.of ao,(by simp),(by show 3<=sizeLine; decide),λz=>(by cases z),λ_ c hc=>?_⟩
   have u6:=aC.new (o:=.tup ([V.int u1,.int u2]++[.int u3])) hc
   have s7:=u4.trans (u5.trans u6)
   have hy7:=s7 _ _ hy
   have hl:qs.length=i:=by rw[vE.1,bO]; lia
   refine dZ hacc hi (s3.trans s7) hy7 (by rw[ah]; exact Pj (by lia)) ⟨qs++[c],by simp,?_⟩
   rw[uz,hu]
   exact gy.past hy7 jE bZ (gy.snoc (t:=(u1,u2,u3)) (vE.mono s7) (cH.of ao))
  ·rintro ys H3 s3 hy ⟨qs,rfl,vE⟩
   have SR:acc≠d:=(aF hd2 hacc).symm
   rw[ah,kh] at vE
   refine⟨o,s3 _ _ hd2,?_⟩
   refine⟨acc,qs,ts,rfl,bJ.of (by rw[aD SR]; exact hy),gy.past (s3 _ _ hd2) Z7 bZ vE,h64,λl Dw us hl hp hs ht=>?_⟩
   exact k l Dw us _ ((hH s3).trans (aC.new hl)) ((hH s3).free hl) ao (ht.mono (aC.new hl)) hp hs
inductive NI(C:Addr)(vs:List V)(H:Hp)(Q:VK)(E:XK):Prop
 | mk (p d:Addr) (ts:List T3):vs = [.ref p]->pW C H p d ts->(∀ d' H',H d'=none->pW C H' p d' []->(∀ b o,H b=some o->b≠p->H' b=some o)->Q .eU H')->NI C vs H Q E
theorem Ii{t:Ad}(T:Txt K mg t):bV P w K mg base gO 1 t.kq t.oz ["self"]  (NI t.dS):=by
 refine T.uV.F.jo GS λH Q E hr h=>?_
 ·obtain⟨p,d,ts,rfl,⟨⟨dx,hp⟩,hd⟩,k⟩:=h
  refine⟨_,(aW (fj (pv 0) Mu rfl)),?_⟩
  try dsimp only[aU]
  refine λd' hd'=>⟨_,rfl,p,t.dS,dx,[("kept",.ref d)],rfl,?_,T.xK,T.pM,(by show 1 < 1000; decide),?_⟩
  ·rw[aD (aF hp hd')]; exact hp
  ·refine k d' _ hd' ⟨⟨dx,ao⟩,?_⟩ λb o e nb=>?_
   ·rw[aD (aF hp hd').symm]; exact ao
   ·rw[aD nb,aD (aF e hd')]; exact e
inductive ac7(K:af)(C:Addr)(vs:List V)(H:Hp)(Q:VK)(E:XK):Prop
 | mk (bk d lo lh:Addr) (ts:List T3) (so cO:Option Int) (mD:Int) (os hs:List Int):vs = [.ref bk,Fi so,.int mD,Fi cO,.ref lo,.ref lh]->pW C H bk d ts->bJ K H lo (os.map V.int)->bJ K H lh (hs.map V.int)->os.length<=1000->(∀ l H',aC H H'->H l=none->H' l=some (.lst ((We ts so mD cO os hs).map V.int))->Q (.ref l) H')->ac7 K C vs H Q E
theorem NJ{t:Ad}(T:Txt K mg t):bV P w K mg base gO 2 t.sq t.xq ["book","sought","house","came","open_here","here"]  (ac7 K t.dS):=by
 refine T.G5.F.jo tX λH Q E hr h=>?_
 ·obtain⟨bk,d,lo,lh,ts,so,cO,mD,os,hs,rfl,hB,hO,hH,hn,k⟩:=h
  refine⟨_,(ak (cC (jf lP (pv 1) (pv 5) (by with_unfolding_all rfl)) (oR (gx fK)) aX) (ak (sS 6 tX (yM (qT T8 (pv 1) nK) nK (cM (pv 0) T.xK T.CP (Jw T) hr (mH (pv 2) (pv 1))))) (ak (sS 7 tX (yM (jf lP (pv 6) (pv 4) (by with_unfolding_all rfl)) (gx (fV (pv 6))) (pv 4))) (oR (gu (kO tX ["rope","came"] [none,some 3]) rfl (fB (pv 7)) (λ_ _ _ _=>by exact (gS 0 GU)) (λ_ _ _ _=>by exact (qM (qT yP (pv 0) (pv 1)))) (λ_ _ _ _=>by exact (pv 0))))))),?_⟩
  try dsimp only[aU]
  obtain⟨dx,hob⟩:=hB.ob
  refine⟨_,rfl,_,rfl,lh,_,rfl,.inl hH,UX so,rE hs,_,rfl,?_⟩
  cases so with
  | none =>
   refine JU (by show JL .eU _=false; exact GF hs) ?_
   refine⟨_,rfl,rfl,_,rfl,acy (decide_eq_true rfl) ?_⟩
   refine⟨_,rfl,_,rfl,lo,_,rfl,.inl hO,rfl,rE os,_,rfl,JU (by show JL .eU _=false; exact GF os) ?_⟩
   refine⟨_,rfl,_,rfl,lo,rfl,⟨_,hO⟩,λacc hacc=>?_⟩
   refine rW (rX cO) hacc hO hn (λx H2 R S _ s2 h1 h2=>?_) (λH2 s2 hy=>k acc H2 s2 hacc hy)
   refine⟨_,rfl,_,rfl,CC x cO,_,rfl,?_⟩
   exact jS (λe=>⟨_,rfl,h1 _ (aC.refl _) e⟩) (λe=>h2 _ (aC.refl _) (neT e))
  | some to =>
   refine jS (λe=>?_) (λe=>?_)
   ·refine⟨br _,λl hl=>k l _ (aC.new hl) hl ?_⟩
    have e':to∈hs:=by
     have e:JL (.int to) (hs.map V.int)=true:=e
     rw[rS] at e
     exact of_decide_eq_true e
    show _=some (HO.lst (List.map V.int (if to∈hs then [] else _)))
    rw[if_pos e']
    exact ao
   ·have e':¬ to∈hs:=λz=>e (by show JL (.int to) (hs.map V.int)=true; rw[rS]; exact decide_eq_true z)
    refine⟨_,rfl,rfl,_,rfl,JU (decide_eq_false λz=>by cases z) ?_⟩
    refine⟨_,rfl,bk,dx,_,rfl,hob,rfl,_,rfl,_,rfl,bk,d,ts,mD,to,rfl,hB,λH1 s1=>?_⟩
    have k2:∀ l H',aC H H'->H l=none->H' l=some (.lst ((match Bo ts mD to with
     | some r=>if r∈os then [r].filter (rX cO) else os.filter (rX cO)
     | none=>os.filter (rX cO)).map V.int))->Q (.ref l) H':=λl H' s hl hy=>k l H' s hl (by
     show _=some (HO.lst (List.map V.int (if to∈hs then [] else _)))
     rw[if_neg e']
     exact hy)
    clear k
    have hO1:=s1.seq hO
    cases hk:Bo ts mD to with
    | none =>
     rw[hk] at k2
     refine⟨_,rfl,_,rfl,lo,_,rfl,.inl hO1,rfl,rE os,_,rfl,JU (by show JL .eU _=false; exact GF os) ?_⟩
     refine⟨_,rfl,_,rfl,lo,rfl,⟨_,hO1⟩,λacc hacc=>?_⟩
     refine rW (rX cO) hacc hO1 hn (λx H2 R S _ s2 h1 h2=>?_) (λH2 s2 hy=>k2 acc H2 (s1.trans s2) (s1.free hacc) hy)
     refine⟨_,rfl,_,rfl,CC x cO,_,rfl,?_⟩
     exact jS (λe=>⟨_,rfl,h1 _ (aC.refl _) e⟩) (λe=>h2 _ (aC.refl _) (neT e))
    | some r =>
     rw[hk] at k2
     dsimp only[Option.map_some,Option.getD_some]
     refine⟨_,rfl,_,rfl,lo,_,rfl,.inl hO1,rfl,rE os,_,rfl,jS (λe2=>?_) (λe2=>?_)⟩
     ·have e2':r∈os:=by
       have e2:JL (.int r) (os.map V.int)=true:=e2
       rw[rS] at e2
       exact of_decide_eq_true e2
      have k2:∀ l H',aC H H'->H l=none->H' l=some (.lst (([r].filter (rX cO)).map V.int))->Q (.ref l) H':=λl H' s hl hy=>k2 l H' s hl (by
       show _=some (HO.lst (List.map V.int (if r∈os then _ else _)))
       rw[if_pos e2']
       exact hy)
      refine⟨_,rfl,(by show 1<=sizeLine; decide),λl1 hl1=>?_⟩
      have u2:=aC.new (o:=.lst [V.int r]) hl1
      have h2:bJ K (upd H1 l1 (.lst [V.int r])) l1 ([r].map V.int):=bJ.of ao
      generalize upd H1 l1 (.lst [V.int r])=H2 at u2 h2
      refine⟨_,rfl,l1,rfl,⟨_,h2⟩,λacc hacc=>?_⟩
      refine rW (rX cO) hacc h2 (by show 1<=1000; decide) (λx H3 R S _ s3 h1 h2=>?_) (λH3 s3 hy=>k2 acc H3 (s1.trans (u2.trans s3)) (s1.free (u2.free hacc)) hy)
      refine⟨_,rfl,_,rfl,CC x cO,_,rfl,?_⟩
      exact jS (λe=>⟨_,rfl,h1 _ (aC.refl _) e⟩) (λe=>h2 _ (aC.refl _) (neT e))
     ·have e2':¬ r∈os:=λz=>e2 (by show JL (.int r) (os.map V.int)=true; rw[rS]; exact decide_eq_true z)
      have k2:∀ l H',aC H H'->H l=none->H' l=some (.lst ((os.filter (rX cO)).map V.int))->Q (.ref l) H':=λl H' s hl hy=>k2 l H' s hl (by
       show _=some (HO.lst (List.map V.int (if r∈os then _ else _)))
       rw[if_neg e2']
       exact hy)
      refine⟨_,rfl,_,rfl,lo,rfl,⟨_,hO1⟩,λacc hacc=>?_⟩
      refine rW (rX cO) hacc hO1 hn (λx H2 R S _ s2 h1 h2=>?_) (λH2 s2 hy=>k2 acc H2 (s1.trans s2) (s1.free hacc) hy)
      refine⟨_,rfl,_,rfl,CC x cO,_,rfl,?_⟩
      exact jS (λe=>⟨_,rfl,h1 _ (aC.refl _) e⟩) (λe=>h2 _ (aC.refl _) (neT e))
inductive Ky(K:af)(C cL c1 cA:Addr)(vs:List V)(H:Hp)(Q:VK)(E:XK):Prop
 | mk (bk d la lo lh:Addr) (ts:List T3) (s to kd mD:Int) (cO:Option Int) (os hs:List Int):vs = [.ref bk,.ref la,.int mD,Fi cO,.ref lo,.ref lh]->pW C H bk d ts->EJ cL c1 cA H la s to kd->bJ K H lo (os.map V.int)->bJ K H lh (hs.map V.int)->os.length<=1000->hs.length<=1000->(∀ p l1 l2 H',aC H H'->H p=none->H l1=none->H l2=none->l1≠l2->H' p=some (.tup [.ref l1,.ref l2])->H' l1=some (.lst ((hs.filter (GG s to kd)).map V.int))->H' l2=some (.lst ((We ts (Au to kd) mD cO os hs).map V.int))->Q (.ref p) H')->Ky K C cL c1 cA vs H Q E
theorem PR{t:Ad}(T:Txt K mg t):bV P w K mg base gO 3 t.vS t.Ax ["book","letter","house","came","open_here","here"]  (Ky K t.dS t.ig t.fE t.iJ):=by
 refine T.J8.F.jo By λH Q E hr h=>?_
 ·obtain⟨bk,d,la,lo,lh,ts,s',to,kd,mD,cO,os,hs,rfl,hB,hL,hO,hH,hn,hn2,k⟩:=h
  refine⟨_,(ak (wN (i:=6) By.nd rfl (Or.inl rfl) (kO By ["caller","letter"] [none,some 1]) rfl (fB (pv 5)) (λ_ _ _ _=>by exact (gS 0 IX)) (λ_ _ _ _=>by exact (qM (nL (DI (cM (pv 1) T.Hg T.zB (FF T) hr (fV (pv 0))) (DI (cM (pv 1) T.oU T.AV (Ic T) hr (fV (pv 0))) (cM (pv 1) T.xH T.AW (Ig T) hr (fV (pv 0)))))))) (λ_ _ _ _=>by exact (pv 0))) (oR (f6 (mH (pv 6) (cG (NJ T) hr T.G5 (aN6 (pv 0) (DI (ki (pv 1) T.Hg T.nh.m (yD T) (hr.mono (by decide)) T.nh.B .nil mj) (DI (ki (pv 1) T.oU T.uW.m (Ie T) (hr.mono (by decide)) T.uW.B .nil mj) (ki (pv 1) T.xH T.Jd (yD T) (hr.mono (by decide)) T.nh.B .nil mj))) (pv 2) (pv 3) (pv 4) (pv 5))))))),?_⟩
  try dsimp only[aU]
  refine⟨_,rfl,lh,rfl,⟨_,hH⟩,λacc hacc=>?_⟩
  refine rW (GG s' to kd) hacc hH hn2 (λx H2 R S _ s2 h1 h2=>?_) (λH2 s2 hy=>?_)
  ·have hL2:=hL.mono s2
   cases hL2 with
   | bare dx ha =>
    exact .inl ⟨_,rfl,la,dx,_,rfl,ha,rfl,_,rfl,la,x,rfl,_,rfl,h2 _ (aC.refl _) rfl⟩
   | one dx ha =>
    refine .inr (.inl ⟨_,rfl,la,dx,_,rfl,ha,rfl,_,rfl,la,dx,s',to,x,rfl,ha,_,rfl,?_⟩)
    exact jS (λe=>⟨_,rfl,h1 _ (aC.refl _) e⟩) (λe=>h2 _ (aC.refl _) (neT e))
   | all dx ha =>
    refine .inr (.inr ⟨_,rfl,la,dx,_,rfl,ha,rfl,_,rfl,la,dx,s',x,rfl,ha,_,rfl,?_⟩)
    exact jS (λe=>⟨_,rfl,h1 _ (aC.refl _) e⟩) (λe=>h2 _ (aC.refl _) (neT e))
  ·have hL2:=hL.mono s2
   have rest:∀ l2 H3,aC H2 H3->H2 l2=none->H3 l2=some (.lst ((We ts (Au to kd) mD cO os hs).map V.int))->2<=sizeLine/\∀ p,H3 p=none->Q (.ref p) (upd H3 p (.tup [.ref acc,.ref l2])):=λl2 H3 s3 hl2 h3=>by
    refine⟨by decide,λp hp=>?_⟩
    have u:=aC.new (o:=.tup [V.ref acc,.ref l2]) hp
    exact k p acc l2 _ ((s2.trans s3).trans u) (s2.free (s3.free hp)) hacc (s2.free hl2) (aF hy hl2) ao (u _ _ (s3 _ _ hy)) (u _ _ h3)
   refine⟨_,rfl,_,rfl,?_⟩
   cases hL2 with
   | bare dx ha =>
    exact .inl ⟨_,rfl,la,dx,_,rfl,ha,rfl,la,rfl,_,rfl,_,rfl,_,rfl,_,rfl,bk,d,lo,lh,ts,none,cO,mD,os,hs,rfl,hB.mono s2,s2.seq hO,s2.seq hH,hn,λl2 H3 s3 hl2 h3=>rest l2 H3 s3 hl2 h3⟩
   | one dx ha =>
    exact .inr (.inl ⟨_,rfl,la,dx,_,rfl,ha,rfl,la,dx,s',to,rfl,ha,_,rfl,_,rfl,_,rfl,_,rfl,bk,d,lo,lh,ts,some to,cO,mD,os,hs,rfl,hB.mono s2,s2.seq hO,s2.seq hH,hn,λl2 H3 s3 hl2 h3=>rest l2 H3 s3 hl2 h3⟩)
   | all dx ha =>
    exact .inr (.inr ⟨_,rfl,la,dx,_,rfl,ha,rfl,la,rfl,_,rfl,_,rfl,_,rfl,_,rfl,bk,d,lo,lh,ts,none,cO,mD,os,hs,rfl,hB.mono s2,s2.seq hO,s2.seq hH,hn,λl2 H3 s3 hl2 h3=>rest l2 H3 s3 hl2 h3⟩)
inductive Kz(K:af)(vs:List V)(H:Hp)(Q:VK)(E:XK):Prop
 | mk (a:Addr) (cs:List Int) (n:Nat):vs = [.ref a,.int n]->bJ K H a (cs.map V.int)->1<=n->n<=10->(∀ l H' (xs:List Int),aC H H'->H l=none->H' l=some (.lst (xs.map V.int))->xs.length=n->xs.Nodup->(∀ x∈xs,0<=x)->Q (.ref l) H')->Kz K vs H Q E
theorem PU{t:Ad}(T:Txt K mg t):bV P w K mg base gO 2 t.vY t.AD ["_law_script","_law_size"]  (Kz K):=by
 refine T.Kd.F.jo lE λH Q E hr h=>?_
 ·obtain⟨a,cs,n,rfl,hS,hn1,hn,k⟩:=h
  refine⟨_,(ak (sS 2 lE (gx fK)) (ak (fS (eB rfl T.gI (fV (pv 1))) (gT 3 lE) (ak (sS 4 lE (cG (fT T) hr T.fU (mH (pv 0) (aS fJ aA (pv 3))))) (ak (sS 5 lE (aS dQ (aS eV (pv 4) aA) aA)) (ak (cC (qT yO (aS dQ (pv 4) aA) aA) (aW (sS 5 lE (aS dQ (aS eV (pv 4) aA) (aS Gf (aS T5 aA aA) aA)))) aX) (ak (TL PassesOwn.never (jf lP (pv 5) (pv 2) (by with_unfolding_all rfl)) (aW (sS 5 lE (aS fJ (pv 5) aA)))) (oE (rR bf bq bh eS (pv 2) (fV (pv 5))))))))) (ak (cC (qT yO (aS dQ (aS eV (cG (fT T) hr T.fU (mH (pv 0) aA)) aA) aA) aA) (oR (ML (pv 2) (tS (abU Zu aA)))) aX) (oR (pv 2))))),?_⟩
  try dsimp only[aU]
  refine⟨br _,λl hl=>?_⟩
  refine⟨_,rfl,(n:Int),rfl,by lia,by lia,?_⟩
  refine nM (n:=((n:Int)).toNat) (λi σ H2=>aC H H2/\∃ (xs:List Int) (v3 v4 v5:Option V),σ = [some (.ref a),some (.int n),some (.ref l),v3,v4,v5]/\H2 l=some (.lst (xs.map V.int))/\xs.length=i/\xs.Nodup/\∀ x∈xs,0<=x)
   ⟨aC.new hl,[],none,none,none,rfl,ao,rfl,oW,λx hx=>absurd hx (by simp)⟩ ?_ ?_
  ·rintro i σ H2 hi ⟨s2,xs,v3,v4,v5,rfl,hx,ei,nd,nn⟩
   rw[dm]
   refine⟨_,rfl,_,rfl,_,_,rfl,rfl,a,cs,_,rfl,s2.seq hS,by lia,?_⟩
   dsimp only[gM]
   generalize cs.getD _ 0=c
   refine⟨_,rfl,_,_,rfl,rfl,⟨by decide,by decide⟩,_,_,rfl,rfl,(by show (0:Int) < 40; decide),?_⟩
   dsimp only[gM]
   refine ZU (λσ H3=>H3=H2/\∃ z:Int,0<=z/\σ = [some (.ref a),some (.int n),some (.ref l),some (.int (i:Nat)),some (.int c),some (.int z)]) ?_ λnx=>?_
   case refine_2 =>
    refine⟨_,rfl,_,_,rfl,rfl,(by show (0:Int) < 3; decide),rfl,_,rfl,jS (λe=>?_) (λe=>?_)⟩
    ·exact⟨_,rfl,_,_,rfl,rfl,⟨by decide,by decide⟩,_,_,rfl,rfl,⟨by decide,by decide,by decide⟩,_,_,rfl,rfl,_,_,rfl,rfl,(by show (0:Int) < 10 ^ (60:Int).toNat - 20; decide),nx _ _ ⟨rfl,_,bN _ (by decide),rfl⟩⟩
    ·exact nx _ _ ⟨rfl,_,bN _ (by decide),rfl⟩
   rintro σ H3 ⟨rfl,z,hz0,rfl⟩
   refine TZ (λσ H4=>H4=H3/\∃ x:Int,0<=x/\σ = [some (.ref a),some (.int n),some (.ref l),some (.int (i:Nat)),some (.int c),some (.int x)])
    (λ(σ:L2.St) (_:Hp)=>match σ[5]? with | some (some (V.int x))=>above xs x | _=>0) ⟨rfl,_,hz0,rfl⟩ ?_ ?_
   ·rintro σ H4 ⟨rfl,x,hx0,rfl⟩
    refine⟨_,rfl,_,rfl,l,_,rfl,.inl (bJ.of hx),rfl,rE xs,_,rfl,?_⟩
    try dsimp only
    rw[if_neg aB,rS]
    refine jS (λc=>?_) (λc=>?_)
    ·have hm:x∈xs:=of_decide_eq_true c
     exact⟨_,rfl,_,_,rfl,rfl,⟨rfl,x + 1,by lia,rfl⟩,UJ hm⟩
    ·have hm:x ∉ xs:=λz=>c (decide_eq_true z)
     refine⟨_,rfl,.inl ⟨rfl,_,bJ.of hx⟩,_,rfl,l,_,_,rfl,rfl,hx,?_,?_⟩
     ·rw[ah]; exact bW (by lia)
     ·refine⟨s2.out hl,xs++[x],_,_,_,rfl,?_,?_,Gr.Bl nd hm,?_⟩
      ·rw[ao,aT]; rfl
      ·simp[ei]
      ·intro y hy
       rcases bG.mp hy with z | z
       ·exact nn y z
       ·have:y=x:=by simpa using z
        rw[this]; exact hx0
   ·rintro σ H4 Q1 Q2 hq ⟨v,e1,u,e2,q,ys,e3,e4,e5,e6,b,e7,e8⟩
    exact⟨v,e1,u,e2,q,ys,e3,e4,e5,e6,b,e7,hq _ _ e8⟩
  ·rintro σ H2 ⟨s2,xs,v3,v4,v5,rfl,hx,ei,nd,nn⟩
   refine⟨_,rfl,a,cs,1,rfl,s2.seq hS,by decide,_,_,rfl,rfl,⟨by decide,by decide⟩,_,_,rfl,rfl,(by show (0:Int) < 2; decide),rfl,_,rfl,jS (λe=>?_) (λe=>?_)⟩
   ·refine⟨_,rfl,_,rfl,_,rfl,l,_,rfl,rfl,bJ.of hx,λl2 hl2=>?_⟩
    rw[<- List.map_reverse]
    exact k l2 _ xs.reverse (s2.trans (aC.new hl2)) (s2.free hl2) ao (by rw[List.length_reverse]; lia) ((List.reverse_perm xs).nodup_iff.mpr nd) λx hx=>nn x (List.mem_reverse.mp hx)
   ·exact⟨_,rfl,k l H2 xs s2 hl hx (by lia) nd nn⟩
theorem Xm{x:Int}{g:Nat}(h1:1<=x)(h7:x<=7)(hg:g < 3):1<=Builtin.bitOr x (1 * 2 ^ ((g:Int)).toNat)/\Builtin.bitOr x (1 * 2 ^ ((g:Int)).toNat)<=7:=by
 have hx:x=1∨x=2∨x=3∨x=4∨x=5∨x=6∨x=7:=by lia
 have hg':g=0∨g=1∨g=2:=by lia
 rcases hg' with rfl | rfl | rfl <;> rcases hx with rfl | rfl | rfl | rfl | rfl | rfl | rfl <;> decide +kernel
def YM(K:af)(H:Hp)(l:Addr)(rs:List R5):Prop:=∃ qs:List Addr,H l=some (.lst (qs.map V.ref))/\dR K H qs (rs.map R5.vs)
theorem dR.snoc{K:af}{H:Hp}{qs:List Addr}{xs:List (List V)}{q:Addr}{x:List V}(h:dR K H qs xs)(hq:cH K H q x):dR K H (qs++[q]) (xs++[x]):=by
 refine⟨by rw[av,av,h.len]; rfl,λi a u ha hu=>?_⟩
 by_cases z:i < qs.length
 ·rw[bU z] at ha
  rw[bU (h.len ▸ z)] at hu
  exact h.at' i a u ha hu
 ·have e:i=qs.length:=by
   have:=(ai.mp ha).1
   rw[av] at this
   have:i < qs.length + 1:=this
   lia
  subst e
  rw[lY] at ha
  rw[h.len,lY] at hu
  cases ha
  cases hu
  exact hq
inductive KA(K:af)(vs:List V)(H:Hp)(Q:VK)(E:XK):Prop
 | mk (a:Addr) (cs:List Int) (n g:Nat):vs = [.ref a,.int n,.int g]->bJ K H a (cs.map V.int)->1<=n->n<=10->g < 3->(∀ l H' (rs:List R5),aC H H'->H l=none->YM K H' l rs->rs.length<=14->(∀ r∈rs,r.Ok n)->Q (.ref l) H')->KA K vs H Q E
theorem PV{t:Ad}(T:Txt K mg t):bV P w K mg base gO 2 t.vZ t.AE ["_law_script","_law_size","_law_group"]  (KA K):=by
 refine T.Ke.F.jo cZ λH Q E hr h=>?_
 ·obtain⟨a,cs,n,g,rfl,hS,hn1,hn,hg,k⟩:=h
  refine⟨_,(ak (sS 3 cZ (gx fK)) (ak (sS 4 cZ aA) (ak (cC (qT Qg (pv 1) aA) (aW (sS 4 cZ (aS fJ (aS Gf (pv 1) aA) (aS dQ (aS eV (cG (fT T) hr T.fU (mH (pv 0) aA)) aA) aA)))) aX) (ak (fS (eB rfl T.gI (fV (pv 4))) (gT 5 cZ) (ak (sS 6 cZ (cG (fT T) hr T.fU (mH (pv 0) (aS fJ aA (pv 5))))) (ak (sS 7 cZ (aS dQ (aS eV (pv 6) aA) (pv 1))) (ak (sS 8 cZ (aS dQ (aS fJ (aS fJ (pv 7) aA) (aS dQ (aS eV (pv 6) aA) (aS Gf (pv 1) aA))) (pv 1))) (ak (cC (qT tR (pv 5) (aS Gf (pv 1) aA)) (ak (sS 7 cZ (aS fJ (pv 5) aA)) (aW (sS 8 cZ (aS dQ (aS eV (pv 6) aA) (aS fJ (pv 5) aA))))) aX) (ak (sS 9 cZ (aS eV (pv 6) aA)) (ak (sS 10 cZ (aS fJ aA (aS dQ (pv 9) aA))) (ak (cC (qT yO (aS dQ (aS eV (pv 9) aA) aA) aA) (aW (sS 10 cZ (aS fJ aA (aS dQ (aS eV (pv 9) aA) (aS Gf (aS T5 aA aA) aA))))) aX) (ak (sS 11 cZ (aS fJ aA (aS dQ (aS eV (pv 9) aA) aA))) (ak (cC (qT Qg (aS dQ (aS eV (pv 9) aA) aA) aA) (aW (sS 11 cZ (aS abW (pv 11) (aS Zt aA (pv 2))))) aX) (ak (cC (qT yO (aS dQ (pv 6) aA) aA) (aW (Zp (i:=7) (j:=8) rfl cZ.nd rfl rfl (by decide) rfl rfl (mH (pv 8) (pv 7)) rfl)) aX) (oE (rR bf bq bh eS (pv 3) (fV (f6 (aN5 (pv 7) (pv 8) (pv 10) (aS fJ aA (aS dQ (aS eV (pv 9) aA) aA)) (pv 11))))))))))))))))) (oR (pv 3)))))),?_⟩
  try dsimp only[aU]
  refine⟨br _,λl hl=>?_⟩
  have s0:=aC.new (o:=.lst []) hl
  have Mx:=ao (H:=H) (a:=l) (o:=.lst [])
  generalize upd H l (.lst [])=H0 at s0 Mx
  dsimp only[gM]
  refine b5 λN hN=>?_
  refine hN [some (.ref a),some (.int n),some (.int g),some (.ref l),some (.int 0),none,none,none,none,none,none,none] H0 ?_
  refine ou (λσ H1=>H1=H0/\∃ m:Nat,m<=14/\(0 < m->2<=n)/\σ = [some (.ref a),some (.int n),some (.int g),some (.ref l),some (.int (m:Nat)),none,none,none,none,none,none,none]) ?_ λN' nx=>?_
  case refine_2 =>
   refine⟨_,rfl,_,_,rfl,rfl,_,rfl,jS (λe=>?_) (λe=>?_)⟩
   ·have h2:(1:Int) < n:=of_decide_eq_true e
    refine⟨_,rfl,_,_,rfl,rfl,_,rfl,a,cs,1,rfl,s0.seq hS,by decide,_,_,rfl,rfl,⟨by decide,by decide⟩,_,_,rfl,rfl,(by show (0:Int) < 6; decide),_,_,rfl,rfl,nx _ _ ?_⟩
    generalize cs.getD _ 0 / 3=y
    have q1:=bN y (show (6:Int)≠0 by decide)
    have q2:=bR y (show (0:Int) < 6 by decide)
    refine⟨rfl,((n:Int) - 1 + y % 6).toNat,by lia,λ_=>by lia,?_⟩
    rw[Int.toNat_of_nonneg (by lia)]
    rfl
   ·exact nx _ _ ⟨rfl,0,by lia,λz=>absurd z (by decide),rfl⟩
  rintro σ H1 ⟨rfl,m,hm,h2,rfl⟩
  refine⟨_,rfl,(m:Int),rfl,by lia,by lia,?_⟩
  refine Gy (n:=((m:Int)).toNat) (λi σ H2=>aC H H2/\∃ (rs:List R5) (v5 v6 v7 v8 v9 v10 v11:Option V),σ = [some (.ref a),some (.int n),some (.int g),some (.ref l),some (.int (m:Nat)),v5,v6,v7,v8,v9,v10,v11]/\YM K H2 l rs/\rs.length=i/\∀ r∈rs,r.Ok n)
   ⟨s0,[],_,_,_,_,_,_,_,rfl,⟨[],Mx,⟨rfl,λi q x e=>by cases e⟩⟩,rfl,λr hr'=>absurd hr' (by simp)⟩ ?_ ?_
  ·rintro i σ H2 Nf FY hi ⟨s2,rs,v5,v6,v7,v8,v9,v10,v11,rfl,⟨qs,hl2,vE⟩,ei,ok⟩
   rw[dm]
   have hi':i < m:=by simpa using hi
   have h2:2<=n:=h2 (by lia)
   refine b5 λNx c7=>?_
   refine⟨_,rfl,_,rfl,_,_,rfl,rfl,a,cs,_,rfl,s2.seq hS,by lia,?_⟩
   dsimp only[gM]
   generalize cs.getD _ 0=c
   refine c7 _ _ ?_
   clear c7 Nx
   obtain⟨o1,o2,o3,o4,o5⟩:=WQ (n:=n) (x:=c / 2) (y:=c / 13) (by lia)
   refine⟨_,rfl,_,_,rfl,rfl,⟨by decide,by decide⟩,_,rfl,_,_,rfl,rfl,(by show (0:Int) < n; lia),?_⟩
   refine⟨_,rfl,_,_,rfl,rfl,_,rfl,_,_,rfl,rfl,⟨by decide,by decide⟩,_,rfl,_,_,rfl,rfl,_,_,rfl,rfl,(by show 0 < (n:Int) - 1; lia),_,_,rfl,rfl,_,rfl,_,_,rfl,rfl,(by show (0:Int) < n; lia),?_⟩
   dsimp only[gM]
   refine ou (λσ H3=>H3=H2/\∃ x y:Int,(0<=x/\x < n/\0<=y/\y < n/\x≠y)/\σ = [some (.ref a),some (.int n),some (.int g),some (.ref l),some (.int (m:Nat)),some (.int (i:Nat)),some (.int c),some (.int x),some (.int y),v9,v10,v11]) ?_ λN' nx=>?_
   case refine_2 =>
    refine⟨_,rfl,_,rfl,_,_,rfl,rfl,_,_,rfl,rfl,_,rfl,jS (λe=>?_) (λe=>?_)⟩
    ·have e:(i:Int) < (n:Int) - 1:=of_decide_eq_true e
     refine⟨_,rfl,_,_,rfl,rfl,?_⟩
     refine⟨_,rfl,_,_,rfl,rfl,⟨by decide,by decide⟩,_,rfl,_,_,rfl,rfl,_,_,rfl,rfl,(by show (0:Int) < (i:Int) + 1; lia),nx _ _ ⟨rfl,(i:Int) + 1,c / 2 % ((i:Int) + 1),?_,rfl⟩⟩
     have q1:=bN (c / 2) (show (i:Int) + 1≠0 by lia)
     have q2:=bR (c / 2) (show (0:Int) < (i:Int) + 1 by lia)
     lia
    ·exact nx _ _ ⟨rfl,_,_,⟨o1,o2,o3,o4,o5⟩,rfl⟩
   clear o1 o2 o3 o4 o5
   rintro σ H3 ⟨rfl,x,y,⟨x0,xn,y0,yn,xy⟩,rfl⟩
   refine⟨_,rfl,_,_,rfl,rfl,⟨by decide,by decide⟩,?_⟩
   dsimp only[gM]
   generalize c / 97=rt
   refine⟨_,rfl,_,_,rfl,rfl,(by show (0:Int) < 3; decide),_,_,rfl,rfl,?_⟩
   dsimp only[gM]
   refine ou (λσ H4=>H4=H3/\∃ z:Int,1<=z/\σ = [some (.ref a),some (.int n),some (.int g),some (.ref l),some (.int (m:Nat)),some (.int (i:Nat)),some (.int c),some (.int x),some (.int y),some (.int rt),some (.int z),v11]) ?_ λN' nx=>?_
   case refine_2 =>
    refine⟨_,rfl,_,_,rfl,rfl,⟨by decide,by decide⟩,_,_,rfl,rfl,(by show (0:Int) < 3; decide),rfl,_,rfl,jS (λe=>?_) (λe=>?_)⟩
    ·refine⟨_,rfl,_,_,rfl,rfl,⟨by decide,by decide⟩,_,_,rfl,rfl,⟨by decide,by decide,by decide⟩,_,_,rfl,rfl,_,_,rfl,rfl,(by show (0:Int) < 10 ^ (60:Int).toNat - 1; decide),_,_,rfl,rfl,nx _ _ ⟨rfl,_,?_,rfl⟩⟩
     have:=bN (rt / 9) (show (10:Int) ^ (60:Int).toNat - 1≠0 by decide)
     lia
    ·refine nx _ _ ⟨rfl,_,?_,rfl⟩
     have:=bN rt (show (3:Int)≠0 by decide)
     lia
   rintro σ H4 ⟨rfl,z,hz,rfl⟩
   refine⟨_,rfl,_,_,rfl,rfl,⟨by decide,by decide⟩,_,_,rfl,rfl,(by show (0:Int) < 7; decide),_,_,rfl,rfl,?_⟩
   dsimp only[gM]
   refine ou (λσ H5=>H5=H4/\∃ e:Int,1<=e/\e<=7/\σ = [some (.ref a),some (.int n),some (.int g),some (.ref l),some (.int (m:Nat)),some (.int (i:Nat)),some (.int c),some (.int x),some (.int y),some (.int rt),some (.int z),some (.int e)]) ?_ λN' nx=>?_
   case refine_2 =>
    have q1:=bN (rt / 11) (show (7:Int)≠0 by decide)
    have q2:=bR (rt / 11) (show (0:Int) < 7 by decide)
    refine⟨_,rfl,_,_,rfl,rfl,⟨by decide,by decide⟩,_,_,rfl,rfl,(by show (0:Int) < 4; decide),_,_,rfl,rfl,_,rfl,jS (λe=>?_) (λe=>?_)⟩
    ·have b:=Xm (x:=1 + rt / 11 % 7) (by lia) (by lia) hg
     exact⟨_,rfl,_,rfl,_,_,rfl,rfl,⟨by lia,by lia,by decide⟩,_,_,rfl,rfl,nx _ _ ⟨rfl,_,b.1,b.2,rfl⟩⟩
    ·exact nx _ _ ⟨rfl,_,by lia,by lia,rfl⟩
   rintro σ H5 ⟨rfl,le,le1,le7,rfl⟩
   refine ou (λσ H6=>aC H5 H6/\∃ x y:Int,(0<=x/\x < n/\0<=y/\y < n/\x≠y)/\σ = [some (.ref a),some (.int n),some (.int g),some (.ref l),some (.int (m:Nat)),some (.int (i:Nat)),some (.int c),some (.int x),some (.int y),some (.int rt),some (.int z),some (.int le)]) ?_ λN' nx=>?_
   case refine_2 =>
    refine⟨_,rfl,_,_,rfl,rfl,(by show (0:Int) < 2; decide),rfl,_,rfl,jS (λe=>?_) (λe=>?_)⟩
    ·exact⟨_,rfl,_,rfl,_,_,rfl,nx _ _ ⟨aC.refl _,y,x,⟨y0,yn,x0,xn,bK xy⟩,rfl⟩⟩
    ·exact nx _ _ ⟨aC.refl _,x,y,⟨x0,xn,y0,yn,xy⟩,rfl⟩
   clear x0 xn y0 yn xy x y
   rintro σ H6 ⟨s6,x,y,⟨x0,xn,y0,yn,xy⟩,rfl⟩
   have hl6:=s6 _ _ hl2
   refine⟨_,rfl,.inl ⟨rfl,_,bJ.of hl6⟩,_,rfl,_,rfl,_,rfl,_,rfl,_,_,rfl,rfl,⟨by decide,by decide⟩,_,_,rfl,rfl,(by show (0:Int) < 4; decide),_,_,rfl,rfl,_,rfl,(by show 5<=sizeLine; decide),λq hq=>?_⟩
   have u7:=aC.new (o:=.tup [V.int x,.int y,.int z,.int (1 + rt / 5 % 4),.int le]) hq
   have h77:=ao (H:=H6) (a:=q) (o:=.tup [V.int x,.int y,.int z,.int (1 + rt / 5 % 4),.int le])
   generalize upd H6 q (.tup [V.int x,.int y,.int z,.int (1 + rt / 5 % 4),.int le])=H7 at u7 h77
   have s67:=s6.trans u7
   have Ot:=s67 _ _ hl2
   have agu:=vE.mono λb x=>s67.dB
   have q1:=bN (rt / 5) (show (4:Int)≠0 by decide)
   have q2:=bR (rt / 5) (show (0:Int) < 4 by decide)
   refine⟨l,_,_,rfl,rfl,Ot,(by rw[ah,vE.len,ah]; exact bW (by lia)),?_⟩
   refine FY _ _ ⟨(s2.trans s67).out hl,rs++[⟨x,y,z,1 + rt / 5 % 4,le⟩],_,_,_,_,_,_,_,rfl,⟨qs++[q],?_,?_⟩,by rw[av,ei]; rfl,λr hr'=>?_⟩
   ·rw[ao,aT]; rfl
   ·rw[aT]
    exact (dR.snoc agu (cH.of h77)).mono λb x=>cH.past Ot jE bZ
   ·rcases bG.mp hr' with w' | w'
    ·exact ok r w'
    ·rw[bz.mp w']
     exact⟨x0,xn,y0,yn,xy,hz,by show 1<=1 + rt / 5 % 4; lia,by show 1 + rt / 5 % 4<=4; lia,le1,le7⟩
  ·rintro σ H2 ⟨s2,rs,v5,v6,v7,v8,v9,v10,v11,rfl,hR,ei,ok⟩
   exact⟨_,rfl,k l H2 rs s2 hl hR (by rw[ei]; simpa using hm) ok⟩
theorem KC{K:af}{H:Hp}{l q:Addr}{qs:List Addr}{cl:List (Nat × Nat)}{pl gr:Nat}(hl:H l=some (.lst (qs.map V.ref)))(vE:dR K H qs (cl.map λc=>[.int c.1,.int c.2]))(hq:H q=some (.tup [V.int pl,.int gr])) :
 (upd H l (.lst (qs.map V.ref++[.ref q]))) l=some (.lst ((qs++[q]).map V.ref))/\dR K (upd H l (.lst (qs.map V.ref++[.ref q]))) (qs++[q]) ((cl++[(pl,gr)]).map λc=>[.int c.1,.int c.2]):=by
 refine⟨by rw[ao,aT]; rfl,?_⟩
 rw[aT]
 exact (dR.snoc vE (cH.of hq)).mono λb x=>cH.past hl jE bZ
inductive Fb(K:af)(vs:List V)(H:Hp)(Q:VK)(E:XK):Prop
 | mk (a:Addr) (cs:List Int) (n g:Nat):vs = [.ref a,.int n,.int g]->bJ K H a (cs.map V.int)->1<=n->n<=10->g < 3->(∀ l (qs:List Addr) H' (cl:List (Nat × Nat)),aC H H'->H l=none->H' l=some (.lst (qs.map V.ref))->dR K H' qs (cl.map λc=>[.int c.1,.int c.2])->1<=cl.length->cl.length<=20->(∀ c∈cl,c.1 < n/\c.2 < 3)->Q (.ref l) H')->Fb K vs H Q E
theorem L1{t:Ad}(T:Txt K mg t):bV P w K mg base gO 2 t.pL t.ug ["_law_script","_law_size","_law_group"]  (Fb K):=by
 refine T.ET.F.jo jW λH Q E hr h=>?_
 ·obtain⟨a,cs,n,g,rfl,hS,hn1,hn,hg,k⟩:=h
  refine⟨_,(ak (sS 3 jW (gx fK)) (ak (sS 4 jW (xL (gx (J2 aA aA aA)) (aS dQ (aS eV (cG (fT T) hr T.fU (mH (pv 0) aA)) aA) aA))) (ak (fS (eB rfl T.gI (fV (aS fJ aA (aS dQ (aS eV (cG (fT T) hr T.fU (mH (pv 0) aA)) aA) (pv 4))))) (gT 5 jW) (ak (sS 6 jW (aS eV (cG (fT T) hr T.fU (mH (pv 0) (aS fJ aA (aS dQ (pv 5) aA)))) (aS fJ aA (aS OB aA (aS eV (pv 5) aA))))) (ak (sS 7 jW (aS dQ (pv 6) (pv 1))) (aW (cC (qT yO (aS dQ (aS eV (pv 6) aA) aA) aA) (oE (rR bf bq bh eS (pv 3) (fV (f6 (mH (pv 7) (aS dQ (aS fJ (aS fJ (pv 2) aA) (aS dQ (aS eV (pv 6) aA) aA)) aA)))))) (oE (rR bf bq bh eS (pv 3) (fV (f6 (mH (pv 7) (pv 2))))))))))) (oR (pv 3))))),?_⟩
  try dsimp only[aU]
  refine⟨br _,λl hl=>?_⟩
  have s0:=aC.new (o:=.lst []) hl
  have Mx:=ao (H:=H) (a:=l) (o:=.lst [])
  generalize upd H l (.lst [])=H0 at s0 Mx
  refine⟨(by show 3<=sizeLine; decide),λl1 h1=>?_⟩
  have u1:=aC.new (o:=.lst [V.int 6,V.int 6,V.int 20]) h1
  have h11:=ao (H:=H0) (a:=l1) (o:=.lst [V.int 6,V.int 6,V.int 20])
  have hl1:=u1 _ _ Mx
  have s1:=s0.trans u1
  generalize upd H0 l1 (.lst [V.int 6,V.int 6,V.int 20])=H1 at u1 h11 hl1 s1
  refine⟨_,rfl,a,cs,1,rfl,s1.seq hS,by decide,_,_,rfl,rfl,⟨by decide,by decide⟩,_,_,rfl,rfl,(by show (0:Int) < 3; decide),?_⟩
  obtain⟨mo,hmo,emo⟩:=af8 (x:=6) (y:=6) (z:=20) (i:=cs.getD (1:Int).toNat 0 / 7 % 3) 1 20 (by decide) (by decide) (by decide) (bN _ (by decide)) (bR _ (by decide))
  refine⟨l1,_,_,_,rfl,rfl,bJ.of h11,emo,?_⟩
  dsimp only[gM]
  refine⟨_,rfl,a,cs,1,rfl,s1.seq hS,by decide,_,_,rfl,rfl,⟨by decide,by decide⟩,_,rfl,_,_,rfl,rfl,(by show 0 < mo; lia),_,_,rfl,rfl,?_⟩
  have q1:=bN (cs.getD (1:Int).toNat 0 / 36) (show mo≠0 by lia)
  have q2:=bR (cs.getD (1:Int).toNat 0 / 36) (show 0 < mo by lia)
  obtain⟨m,em⟩ : ∃ m:Nat,1 + cs.getD (1:Int).toNat 0 / 36 % mo=(m:Int):=⟨(1 + cs.getD (1:Int).toNat 0 / 36 % mo).toNat,by lia⟩
  have hm1:1<=m:=by lia
  have akS:m<=20:=by lia
  refine⟨(m:Int),(by rw[<- em]),by lia,by lia,?_⟩
  refine Gy (n:=m) (λi σ H2=>aC H H2/\∃ (qs:List Addr) (cl:List (Nat × Nat)) (v5 v6 v7:Option V),σ = [some (.ref a),some (.int n),some (.int g),some (.ref l),some (.int mo),v5,v6,v7]/\H2 l=some (.lst (qs.map V.ref))/\dR K H2 qs (cl.map λc=>[.int c.1,.int c.2])/\cl.length=i/\∀ c∈cl,c.1 < n/\c.2 < 3)
   ⟨s1,[],[],_,_,_,rfl,hl1,⟨rfl,λi q x e=>by cases e⟩,rfl,λc hc=>absurd hc (by simp)⟩ ?_ ?_
  ·rintro i σ H2 Nf FY hi ⟨s2,qs,cl,v5,v6,v7,rfl,hl2,vE,ei,ok⟩
   rw[dm]
   have e6:=bN (i:Int) (show (6:Int)≠0 by decide)
   have d6:0<=(i:Int) / 6:=Int.ediv_nonneg (by lia) (by decide)
   have d6':(i:Int) / 6<=20:=by lia
   refine⟨_,rfl,_,rfl,_,_,rfl,rfl,(by show (0:Int) < 6; decide),_,_,rfl,rfl,a,cs,_,rfl,s2.seq hS,by lia,_,rfl,_,_,rfl,rfl,⟨by decide,by decide⟩,_,_,rfl,rfl,.inl ⟨by decide,by decide⟩,_,_,rfl,rfl,_,_,rfl,rfl,⟨by lia,by lia⟩,?_⟩
   dsimp only[gM]
   generalize cs.getD _ 0 / (1 + 7 * ((i:Int) / 6))=c
   refine⟨_,rfl,_,rfl,_,_,rfl,rfl,(by show (0:Int) < n; lia),?_⟩
   dsimp only[gM]
   have p1:=bN c (show (n:Int)≠0 by lia)
   have p2:=bR c (show (0:Int) < n by lia)
   obtain⟨pl,epl⟩ : ∃ pl:Nat,c % (n:Int)=(pl:Int):=⟨(c % (n:Int)).toNat,by lia⟩
   rw[epl]
   have hpl:pl < n:=by lia
   refine⟨_,rfl,_,_,rfl,rfl,⟨by decide,by decide⟩,_,_,rfl,rfl,(by show (0:Int) < 4; decide),rfl,_,rfl,jS (λe=>?_) (λe=>?_)⟩
   ·have g1:=bN ((g:Int) + 1 + c / 44 % 2) (show (3:Int)≠0 by decide)
    have g2:=bR ((g:Int) + 1 + c / 44 % 2) (show (0:Int) < 3 by decide)
    obtain⟨gr,egr⟩ : ∃ gr:Nat,((g:Int) + 1 + c / 44 % 2) % 3=(gr:Int):=⟨(((g:Int) + 1 + c / 44 % 2) % 3).toNat,by lia⟩
    refine⟨_,rfl,.inl ⟨rfl,_,bJ.of hl2⟩,_,rfl,_,rfl,_,_,rfl,rfl,_,rfl,_,_,rfl,rfl,⟨by decide,by decide⟩,_,_,rfl,rfl,(by show (0:Int) < 2; decide),_,_,rfl,rfl,_,_,rfl,rfl,(by show (0:Int) < 3; decide),(by show 2<=sizeLine; decide),λq hq=>?_⟩
    have u3:=aC.new (o:=.tup [V.int pl,.int (((g:Int) + 1 + c / 44 % 2) % 3)]) hq
    have h33:=ao (H:=H2) (a:=q) (o:=.tup [V.int pl,.int (((g:Int) + 1 + c / 44 % 2) % 3)])
    generalize upd H2 q (.tup [V.int pl,.int (((g:Int) + 1 + c / 44 % 2) % 3)])=H3 at u3 h33
    rw[egr] at h33
    have hl3:=u3 _ _ hl2
    obtain⟨p1,p2⟩:=KC (cl:=cl) hl3 (vE.mono λb x=>u3.dB) h33
    refine⟨l,_,_,rfl,rfl,hl3,(by rw[ah,vE.len,ah]; exact bW (by lia)),FY _ _ ⟨(s2.trans u3).out hl,_,_,_,_,_,rfl,p1,p2,by rw[av,ei]; rfl,λz hz=>?_⟩⟩
    rcases bG.mp hz with w' | w'
    ·exact ok z w'
    ·rw[bz.mp w']
     exact⟨hpl,by show gr < 3; lia⟩
   ·refine⟨_,rfl,.inl ⟨rfl,_,bJ.of hl2⟩,_,rfl,_,rfl,(by show 2<=sizeLine; decide),λq hq=>?_⟩
    have u3:=aC.new (o:=.tup [V.int pl,.int g]) hq
    have h33:=ao (H:=H2) (a:=q) (o:=.tup [V.int pl,.int g])
    generalize upd H2 q (.tup [V.int pl,.int g])=H3 at u3 h33
    have hl3:=u3 _ _ hl2
    obtain⟨p1,p2⟩:=KC (cl:=cl) hl3 (vE.mono λb x=>u3.dB) h33
    refine⟨l,_,_,rfl,rfl,hl3,(by rw[ah,vE.len,ah]; exact bW (by lia)),FY _ _ ⟨(s2.trans u3).out hl,_,_,_,_,_,rfl,p1,p2,by rw[av,ei]; rfl,λz hz=>?_⟩⟩
    rcases bG.mp hz with w' | w'
    ·exact ok z w'
    ·rw[bz.mp w']
     exact⟨hpl,hg⟩
  ·rintro σ H2 ⟨s2,qs,cl,v5,v6,v7,rfl,hl2,vE,ei,ok⟩
   exact⟨_,rfl,k l qs H2 cl s2 hl hl2 vE (by lia) (by lia) ok⟩
inductive Ij(K:af)(CT C:Addr)(vs:List V)(H:Hp)(Q:VK)(E:XK):Prop
 | mk (p dx tp ln lr:Addr) (ns:List Int) (rs:List R5):vs = [.ref p,.ref tp]->H p=some (.ins C dx [])->cN K CT H tp ln lr ns rs->rs.length<=20->(∀ r∈rs,1<=r.d/\r.d<=4)->(∀ lu (ls:List Addr) H',H lu=none->(∀ l∈ls,H l=none)->lu ∉ ls->ls.Nodup->ls.length=rs.length->H' p=some (.ins C dx [("town",.ref tp),("upright",.ref lu)])->H' lu=some (.lst (ls.map V.ref))->(∀ (j:Nat) l r,ls[j]?=some l->rs[j]?=some r->H' l=some (.lst (aV (aq r.d.toNat))))->(∀ b o,H b=some o->b≠p->H' b=some o)->Q .eU H')->Ij K CT C vs H Q E
theorem Dj{t:Ad}(T:Txt K mg t):bV P w K mg base gO 3 t.gZ t.jX ["self","town"]  (Ij K t.aR t.cz):=by
 refine T.wg.F.jo tY λH Q E hr h=>?_
 ·obtain⟨p,dx,tp,ln,lr,ns,rs,rfl,hp,hT,yJ,hw,k⟩:=h
  refine⟨_,(ak (fj (pv 0) (pv 1) rfl) (aW (fj (pv 0) (gu (kO tY ["rope","town"] [none,some 1]) rfl (eB rfl T.gI (fV (aO (pv 1) rfl))) (λ_ _ _ _=>by exact (gS 0 zm)) (λ_ _ _ _=>by exact jT) (λ_ _ _ _=>by exact (iZ (OU rfl) (by rfl) T.xM boot_list (fV (iZ MA (by rfl) T.gI boot_range (fV (cG (E9 T) hr T.BE (mH (pv 1) (pv 0))))))))) rfl))),?_⟩
  try dsimp only[aU]
  obtain⟨⟨dt,htp⟩,_⟩:=id hT
  have YN:tp≠p:=lZ htp hp λz=>by have:=(HO.ins.inj z).2.2; cases this
  refine⟨_,rfl,_,rfl,p,_,dx,[],rfl,hp,T.c8,T.jP,by decide,?_⟩
  rw[cY (names:=[]) rfl rfl]
  generalize eH1:upd H p (.ins t.cz dx ([]++[(Str.ofString "town",V.ref tp)]))=H1
  have k1:∀ b o,H b=some o->b≠p->H1 b=some o:=λb o e nb=>by rw[<- eH1,aD nb]; exact e
  have hp1:H1 p=some (.ins t.cz dx [(Str.ofString "town",V.ref tp)]):=by rw[<- eH1]; exact ao
  have hT1:=hT.but k1 hp YN
  have f1:∀ {l:Addr},H1 l=none->H l=none:=λ{l} e=>by
   cases q:H l with
   | none=>rfl
   | some o =>
    by_cases z:l=p
    ·rw[z,hp1] at e; cases e
    ·have:=k1 _ _ q z
     rw[e] at this; cases this
  obtain⟨⟨dt,agv⟩,_⟩:=id hT1
  refine⟨_,rfl,tp,_,dt,_,_,rfl,agv,T.eG,T.uq,rfl,_,rfl,(by show -(2 ^ 62)<=((rs.length:Nat):Int); lia),(by show ((rs.length:Nat):Int) < 2 ^ 62; lia),λacc hacc=>?_⟩
  refine fQ (n:=(((rs.length:Nat):Int)).toNat) (λi ys H2=>∃ ls:List Addr,ys=ls.map V.ref/\ls.length=i/\ls.Nodup/\(∀ l∈ls,H l=none/\H2 l≠none)/\∀ (j:Nat) l r,ls[j]?=some l->rs[j]?=some r->H2 l=some (.lst (aV (aq r.d.toNat)))/\l≠acc) hacc yW pe ⟨[],rfl,rfl,oW,λl hl=>(by cases hl),λj l r e=>by simp at e⟩ ?_ ?_
  ·rintro i ys H2 hi s2 hy ⟨ls,rfl,el,nd,hfr,hls⟩ x H3 ⟨rfl,rfl⟩
   have hi:i < rs.length:=by simpa using hi
   have Dy:rs[i]?=some rs[i]:=aa hi
   have wi:=hw _ (aI Dy)
   obtain⟨d,ed⟩ : ∃ d:Nat,rs[i].d=(d:Int):=⟨rs[i].d.toNat,by lia⟩
   refine⟨_,rfl,_,rfl,tp,ln,lr,ns,rs,i,rs[i],(by show [V.ref tp,V.int (0 + (i:Int))]=_; rw[dm]),hT1.mono s2,Dy,?_⟩
   refine⟨rs[i].d,rfl,λq hq=>?_⟩
   have s3:=aC.new (o:=.Tt 0 rs[i].d) hq
   refine⟨q,d,rfl,(by rw[ao,ed]),by lia,λl hl=>?_⟩
   have Mx:H l=none:=f1 ((s2.trans s3).free hl)
   have nl:l ∉ ls:=λz=>(hfr l z).2 (s3.free hl)
   have s4:=s3.trans (aC.new (o:=.lst ((aq d).map λk=>V.int (k:Nat))) hl)
   have VI:=s4 _ _ hy
   have Ou:(upd (upd H3 q (.Tt 0 rs[i].d)) l (.lst ((aq d).map λk=>V.int (k:Nat)))) l=some (.lst (aV (aq d))):=ao
   have YO:l≠acc:=(aF (s3 _ _ hy) hl).symm
   generalize upd (upd H3 q (.Tt 0 rs[i].d)) l (.lst ((aq d).map λk=>V.int (k:Nat)))=H4 at s4 VI Ou
   refine dZ hacc (by simpa using hi) (s2.trans s4) VI (by rw[ah,el]; exact bW (by lia)) ⟨ls++[l],by rw[aT]; rfl,by rw[av,el]; rfl,Gr.Bl nd nl,λl' hl'=>?_,λj l' r e1 e2=>?_⟩
   ·rcases bG.mp hl' with z | z
    ·obtain⟨z1,z2⟩:=hfr l' z
     refine⟨z1,?_⟩
     by_cases q:l'=acc
     ·rw[q,ao]; exact aM _
     ·rw[aD q]
      cases e:H3 l' with
      | none=>exact absurd e z2
      | some o=>rw[s4 _ _ e]; exact aM _
    ·rw[bz.mp z]
     exact⟨Mx,by rw[aD YO,Ou]; exact aM _⟩
   ·rcases wQ e1 with e1 | ⟨rfl,rfl⟩
    ·obtain⟨z1,z2⟩:=hls j l' r e1 e2
     exact⟨by rw[aD z2]; exact s4 _ _ z1,z2⟩
    ·rw[el,Dy] at e2
     cases e2
     rw[ed,eO]
     exact⟨by rw[aD YO]; exact Ou,YO⟩
  ·rintro ys H2 s2 hy ⟨ls,rfl,el,nd,hfr,hls⟩
   have el:ls.length=rs.length:=by simpa using el
   have npa:p≠acc:=aF hp1 hacc
   have hp2:=s2 _ _ hp1
   refine⟨_,rfl,p,_,dx,_,rfl,hp2,T.c8,T.fF,(by show 1 < 1000; decide),?_⟩
   rw[cY (names:=["town"]) rfl (by decide +kernel)]
   refine k acc ls _ (f1 hacc) (λl hl=>(hfr l hl).1) (λz=>?_) nd el ao (by rw[aD (bK npa)]; exact hy) (λj l r e1 e2=>?_) λb o e nb=>by rw[aD nb]; exact s2 _ _ (k1 _ _ e nb)
   ·obtain⟨j,hj⟩:=jm z
    have hjl:=(ai.mp hj).1
    exact (hls j acc _ hj (aa (el ▸ hjl))).2 rfl
   ·have z:=(hls j l r e1 e2).1
    rw[aD (lZ z hp2 (by intro z; cases z))]
    exact z
inductive Fc(K:af)(C:Addr)(vs:List V)(H:Hp)(Q:VK)(E:XK):Prop
 | mk (tp ln lr:Addr) (ns:List Int) (rs:List R5):vs = [.ref tp]->cN K C H tp ln lr ns rs->ns.length<=12->(∀ l (qs:List Addr) H',aC H H'->H l=none->H' l=some (.lst (qs.map V.ref))->dR K H' qs (f9 ns.length (yH ns))->Q (.ref l) H')->Fc K C vs H Q E
theorem Jy{t:Ad}(T:Txt K mg t):bV P w K mg base gO 3 t.mW t.qZ ["town"]  (Fc K t.aR):=by
 refine T.CY.F.jo AU λH Q E hr h=>?_
 ·obtain⟨tp,ln,lr,ns,rs,rfl,hT,h12,k⟩:=h
  refine⟨_,(oR (gu (kO AU ["house","town"] [none,some 0]) rfl (eB rfl T.gI (fV (aO (pv 0) rfl))) (λ_ _ _ _=>by exact (gS 0 D4)) (λ_ _ _ _=>by exact jT) (λ_ _ _ _=>by exact (cG (HY T) hr T.D5 (mH (pv 1) (pv 0)))))),?_⟩
  try dsimp only[aU]
  obtain⟨⟨dt,htp⟩,_⟩:=id hT
  refine⟨_,rfl,tp,_,dt,_,_,rfl,htp,T.eG,T.lT,rfl,(ns.length:Int),rfl,by lia,by lia,λacc hacc=>?_⟩
  refine fQ (n:=((ns.length:Int)).toNat) (λi ys H2=>∃ qs:List Addr,ys=qs.map V.ref/\dR K H2 qs (f9 i (yH ns))) hacc yW pe ⟨[],rfl,⟨rfl,λi q x e=>by cases e⟩⟩ ?_ ?_
  ·rintro i ys H2 hi s2 hy ⟨qs,rfl,vE⟩ x H3 ⟨rfl,rfl⟩
   have hi:i < ns.length:=by simpa using hi
   rw[dm]
   refine⟨_,rfl,_,rfl,tp,ln,lr,ns,rs,i,ns[i],rfl,hT.mono s2,aa hi,λq H4 s4 hq=>?_⟩
   have VI:=s4 _ _ hy
   have hl:qs.length=i:=by rw[vE.len]; simp[f9]
   refine dZ hacc (by simpa using hi) (s2.trans s4) VI (by rw[ah]; exact bW (by lia)) ⟨qs++[q],by rw[aT]; rfl,?_⟩
   have e:f9 (i + 1) (yH ns)=f9 i (yH ns)++[cR ⟨ns[i],0,0,-1⟩]:=by
    unfold f9
    rw[ju,aT,ck,List.map_nil]
    congr 3
    unfold yH
    rw[az,aa hi]
    rfl
   rw[e]
   exact (dR.snoc (vE.mono λb x=>s4.dB) hq).mono λb x=>cH.past VI jE bZ
  ·rintro ys H2 s2 hy ⟨qs,rfl,vE⟩
   rw[show ((ns.length:Int)).toNat=ns.length from rfl] at vE
   exact k acc qs H2 s2 hacc hy vE
inductive Ah(K:af)(C:Addr)(vs:List V)(H:Hp)(Q:VK)(E:XK):Prop
 | mk (tp ln lr lc:Addr) (ns:List Int) (rs:List R5) (qs:List Addr) (cl:List (Nat × Nat)):vs = [.ref tp,.ref lc]->cN K C H tp ln lr ns rs->bJ K H lc (qs.map V.ref)->dR K H qs (cl.map λc=>[.int c.1,.int c.2])->cl.length<=20->(∀ c∈cl,c.1 < ns.length/\c.2 < 3)->Q .eU H->Ah K C vs H Q E
theorem Ep{t:Ad}(T:Txt K mg t):bV P w K mg base gO 1 t.iW t.kY ["town","callers"]  (Ah K t.aR):=by
 refine T.yr.F.jo vQ λH Q E hr h=>?_
 ·obtain⟨tp,ln,lr,lc,ns,rs,qs,cl,rfl,hT,hL,vE,yJ,hok,k⟩:=h
  refine⟨_,(ak (cC (qT Qg (lS T.jQ (pv 1)) (kN rfl T.Hl (v:=.int 20) ⟨_,rfl⟩)) dN aX) (aW (fS (fB (pv 1)) (gT 2 vQ) (ak (cC (qT yP (lS T.jQ (pv 2)) aA) dN aX) (ak (cC (jx (jy qG tR aA (xT (pv 2) aA) (aO (pv 0) rfl))) dN aX) (aW (cC (jx (jy qG tR aA (xT (pv 2) aA) (lS T.jQ (kN rfl T.j3 (v:=.ref t.dI) rfl)))) dN aX))))))),?_⟩
  try dsimp only[aU]
  obtain⟨⟨dt,htp⟩,_⟩:=id hT
  have eq:qs.length=cl.length:=by rw[vE.len,ah]
  refine⟨_,rfl,lc,_,rfl,.inl hL,_,_,rfl,rfl,_,rfl,JU (decide_eq_false (by rw[ah]; lia)) ?_⟩
  refine⟨_,rfl,lc,rfl,⟨_,hL⟩,rO (K:=K) (a:=lc) (xs:=qs.map V.ref) (λi σ H2=>H2=H/\∃ v2:Option V,σ = [some (.ref tp),some (.ref lc),v2]) ⟨rfl,_,rfl⟩ (λi σ H2 _ z=>by rw[z.1]; exact hL) ?_ ?_⟩
  ·rintro i y σ H2 hi ⟨rfl,v2,rfl⟩
   have hil:=(ai.mp hi).1
   rw[ah] at hil
   have hic:i < cl.length:=eq ▸ hil
   have ey:y = .ref qs[i]:=by
    rw[aj,aa hil] at hi
    exact (aP hi).symm
   subst ey
   have hq:cH K H2 qs[i] [.int cl[i].1,.int cl[i].2]:=vE.at' i _ _ (aa hil) (by rw[aj,aa hic]; rfl)
   obtain⟨o1,o2⟩:=hok _ (aL hic)
   generalize qs[i]=q at hq
   generalize cl[i]=cc at hq o1 o2
   obtain⟨c1,c2⟩:=cc
   refine⟨_,rfl,q,_,rfl,.inr hq,rfl,_,rfl,JU (by show (!decide (V.int 2=V.int 2))=false; rw[decide_eq_true rfl]; rfl) ?_⟩
   refine⟨_,rfl,q,_,_,_,rfl,rfl,hq,rfl,_,_,rfl,rfl,_,rfl,?_⟩
   rw[decide_eq_true (show (0:Int)<=(c1:Int) by lia)]
   refine eW ⟨_,rfl,tp,_,dt,_,_,rfl,htp,T.eG,T.lT,rfl,_,_,rfl,rfl,_,rfl,?_⟩
   rw[decide_eq_true (show (c1:Int) < (ns.length:Int) by have:c1 < ns.length:=o1; lia)]
   refine fk ?_
   refine⟨_,rfl,q,_,_,_,rfl,rfl,hq,rfl,_,_,rfl,rfl,_,rfl,?_⟩
   rw[decide_eq_true (show (0:Int)<=(c2:Int) by lia)]
   refine eW ⟨_,_,rfl,.inr (T.e9 _),_,_,rfl,rfl,_,rfl,?_⟩
   have e3:decide ((c2:Int) < ((([.int 1,.int 2,.int 4]:List V).length:Nat):Int))=true:=decide_eq_true (by show (c2:Int) < 3; have:c2 < 3:=o2; lia)
   rw[e3]
   exact fk ⟨rfl,_,rfl⟩
  ·rintro σ H2 ⟨rfl,v2,rfl⟩
   exact k
end
noncomputable abbrev nc(t:Ad):NC:=⟨t.cD,t.cz,t.dS,t.iX,t.ig,t.fE,t.iJ⟩
section
variable{P:Program}{w:World}{K:af}{mg:Str->Option Value}{base:Heap}
inductive KD(K:af)(CT:Addr)(c:NC)(vs:List V)(H:Hp)(Q:VK)(E:XK):Prop
 | mk (p dx tp ln lr lc:Addr) (ns:List Int) (rs:List R5) (qs:List Addr) (cl:List (Nat × Nat)):vs = [.ref p,.ref tp,.ref lc]->H p=some (.ins c.cQ dx [])->cN K CT H tp ln lr ns rs->ns.length<=12->rs.length<=20->(∀ r∈rs,1<=r.d/\r.d<=4)->bJ K H lc (qs.map V.ref)->dR K H qs (cl.map λc=>[.int c.1,.int c.2])->cl.length<=20->(∀ c∈cl,c.1 < ns.length/\c.2 < 3)->(∀ F H',c5 K c H' F p tp ns.length (S0 ns rs cl)->(∀ b o,H b=some o->b≠p->H' b=some o)->(∀ b,F b->b=p∨H b=none)->Q .eU H')->KD K CT c vs H Q E
noncomputable abbrev nf(fs:List (Str × V))(k:Str)(v:V):List (Str × V):=fs++[(k,v)]
structure Fd(K:af)(CT:Addr)(H:Hp)(tp ln lr lc:Addr)(ns:List Int)(rs:List R5)(qs:List Addr)(cl:List (Nat × Nat)):Prop where
 qQ:cN K CT H tp ln lr ns rs
 Xn:bJ K H lc (qs.map V.ref)
 tup:dR K H qs (cl.map λc=>[.int c.1,.int c.2])
theorem Fd.mono{CT tp ln lr lc:Addr}{H H':Hp}{ns:List Int}{rs:List R5}{qs:List Addr}{cl:List (Nat × Nat)}(h:Fd K CT H tp ln lr lc ns rs qs cl)(s:aC H H'):Fd K CT H' tp ln lr lc ns rs qs cl:=⟨h.qQ.mono s,s.seq h.Xn,h.tup.mono λb x=>s.dB⟩
theorem Fd.put{CT tp ln lr lc p C dx:Addr}{H:Hp}{ns:List Int}{rs:List R5}{qs:List Addr}{cl:List (Nat × Nat)}{fs:List (Str × V)}{o:HO}(h:Fd K CT H tp ln lr lc ns rs qs cl)(hp:H p=some (.ins C dx fs))(n:tp≠p):Fd K CT (upd H p o) tp ln lr lc ns rs qs cl :=
 ⟨h.qQ.but (λb u e nb=>by rw[aD nb]; exact e) hp n,bJ.past hp UW bZ h.Xn,h.tup.mono λb x=>cH.past hp mC bZ⟩
theorem wF(la:Nat->Addr)(i:Nat)(l:Addr):(aq (i + 1)).map (λg=>V.ref (gz la i l g))=(aq i).map (λg=>V.ref (la g))++[.ref l]:=by
 rw[ju,aT,ck,List.map_nil,cJ]
 congr 1
 refine dh λg hg=>?_
 rw[eK (bw (fc.mp hg))]
noncomputable def aaw(loc:Role->Addr)(acc:Addr)(la:Nat->Addr):Role->Addr
 | .tW=>acc
 | .rows g=>la g
 | r=>loc r
noncomputable def obR(ob:Role->Option HO)(la:Nat->Addr)(rq:Nat->List Addr)(i:Nat):Role->Option HO
 | .tW=>some (.lst ((aq i).map λg=>.ref (la g)))
 | .rows g=>if g < i then some (.lst ((rq g).map V.ref)) else none
 | r=>ob r
noncomputable def Xo(loc:Role->Addr)(acc:Addr)(lb ld:Nat->Addr):Role->Addr
 | .iD=>acc
 | .book g=>lb g
 | .eF g=>ld g
 | r=>loc r
noncomputable def obB(C:Addr)(ob:Role->Option HO)(PX lb ld:Nat->Addr)(i:Nat):Role->Option HO
 | .iD=>some (.lst ((aq i).map λg=>.ref (lb g)))
 | .book g=>if g < i then some (.ins C (PX g) [("kept",.ref (ld g))]) else none
 | .eF g=>if g < i then some (.dT []) else none
 | r=>ob r
noncomputable def ac8(loc:Role->Addr)(acc:Addr)(lh:Nat->Addr):Role->Addr
 | .jh=>acc
 | .handed g=>lh g
 | r=>loc r
noncomputable def obH(ob:Role->Option HO)(lh:Nat->Addr)(i:Nat):Role->Option HO
 | .jh=>some (.lst ((aq i).map λg=>.ref (lh g)))
 | .handed g=>if g < i then some (.lst []) else none
 | r=>ob r
noncomputable def dxF(dx VQ:Addr)(PX:Nat->Addr):Role->Addr
 | .cQ=>dx
 | .cy=>VQ
 | .book g=>PX g
 | _=>0
noncomputable def ac9(p sp lu:Addr)(ls:List Addr)(acc:Addr)(la:Nat->Addr)(acb:Addr)(lb ld:Nat->Addr)(Wi Xp Xq:Addr)(lh:Nat->Addr)(acl aco:Addr):Role->Addr
 | .cQ=>p
 | .cy=>sp
 | .cP=>lu
 | .fN i=>ls.getD i 0
 | .tW=>acc
 | .rows g=>la g
 | .iD=>acb
 | .book g=>lb g
 | .eF g=>ld g
 | .bg=>Wi
 | .groups=>Xp
 | .jh=>Xq
 | .handed i=>lh i
 | .cE=>acl
 | .d8=>aco
 | _=>0
theorem Jz{t:Ad}(T:Txt K mg t):bV P w K mg base gO 5 t.mT t.qW ["self","town","callers"]  (KD K t.aR (nc t)):=by
 refine T.CU.F.jo i7 λH Q E hr h=>?_
 ·obtain⟨p,dx,tp,ln,lr,lc,ns,rs,qs,cl,rfl,hp,hT,h12,yJ,hw,hL,vE,VR,hok,k⟩:=h
  refine⟨_,(ak (dY (cG (Ep T) hr T.yr (mH (pv 1) (pv 2)))) (ak (fj (pv 0) (pv 1) rfl) (ak (fj (pv 0) (cI T.wg (Dj T) hr T.Sy (fV (pv 1))) rfl) (ak (fj (pv 0) (gu (kO i7 ["bit","town"] [none,some 1]) rfl (TU (kN rfl T.j3 (v:=.ref t.dI) rfl)) (λ_ _ _ _=>by exact (gS 0 DW)) (λ_ _ _ _=>by exact jT) (λ_ _ _ _=>by exact (cG (Jy T) hr T.CY (fV (pv 1))))) rfl) (ak (fj (pv 0) (gu (kO i7 ["bit"] [none]) rfl (TU (kN rfl T.j3 (v:=.ref t.dI) rfl)) (λ_ _ _ _=>by exact (gS 0 DY)) (λ_ _ _ _=>by exact jT) (λ_ _ _ _=>by exact (Uh T.uU.M (Ih T) (hr.mono (by decide)) rfl T.aak T.uU.B .nil mj))) rfl) (ak (fj (pv 0) (gu (kO i7 ["caller"] [none]) rfl (fB (pv 2)) (λ_ _ _ _=>by exact (gS 0 DZ)) (λ_ _ _ _=>by exact jT) (λ_ _ _ _=>by exact (yT K (pv 0) aA))) rfl) (ak (fj (pv 0) (gu (kO i7 ["caller"] [none]) rfl (fB (pv 2)) (λ_ _ _ _=>by exact (gS 0 D0)) (λ_ _ _ _=>by exact jT) (λ_ _ _ _=>by exact (yT K (pv 0) aA))) rfl) (ak (fj (pv 0) (gu (kO i7 ["caller"] [none]) rfl (fB (pv 2)) (λ_ _ _ _=>by exact (gS 0 D3)) (λ_ _ _ _=>by exact jT) (λ_ _ _ _=>by exact (gx fK))) rfl) (ak (fj (pv 0) (gx fK) rfl) (aW (fj (pv 0) (gx fK) rfl))))))))))),?_⟩
  try dsimp only[aU]
  obtain⟨⟨dt,htp⟩,htn,vs,htr,_⟩:=id hT
  have YN:tp≠p:=lZ htp hp λz=>by have:=(HO.ins.inj z).2.2; cases this
  refine b5 λNx c7=>?_
  refine⟨_,rfl,_,rfl,tp,ln,lr,lc,ns,rs,qs,cl,rfl,hT,hL,vE,VR,hok,c7 _ _ ?_⟩
  clear c7 Nx
  have B0:Fj H H p (λ_=>p) (λr=>if r = .cQ then some (.ins t.cD dx []) else none):=by
   refine⟨⟨λr o e=>?_,λr q h1 h2 _=>?_⟩,rfl,by simp,λb o e _=>e,λb hb=>.inl ?_⟩
   ·by_cases z:r = .cQ
    ·rw[if_pos z] at e; cases e; exact hp
    ·rw[if_neg z] at e; cases e
   ·have g:∀ {r:Role},(if r=Role.cQ then some (HO.ins t.cD dx []) else none)≠none->r = .cQ:=λ{r} h=>by
     by_cases z:r = .cQ
     ·exact z
     ·rw[if_neg z] at h; exact absurd rfl h
    rw[g h1,g h2]
   ·obtain⟨_,_,e⟩:=hb
    exact e.symm
  refine b5 λNx c7=>?_
  refine⟨_,rfl,_,rfl,p,_,dx,[],rfl,hp,T.bD,T.lI,by decide,?_⟩
  rw[cY (names:=[]) rfl rfl]
  refine c7 _ _ ?_
  clear c7 Nx
  have B1:=B0.put (.ins t.cD dx ([]++[(Str.ofString "town",V.ref tp)]))
  have hT1:cN K t.aR (upd H p (.ins t.cD dx ([]++[(Str.ofString "town",V.ref tp)]))) tp ln lr ns rs:=hT.but (λb o e n=>by rw[aD n]; exact e) hp YN
  have hp1:=ao (H:=H) (a:=p) (o:=.ins t.cD dx ([]++[(Str.ofString "town",V.ref tp)]))
  have kq1:∀ b x,cH K H b x->cH K (upd H p (.ins t.cD dx ([]++[(Str.ofString "town",V.ref tp)]))) b x:=λb x=>cH.past hp mC bZ
  have hL1:=bJ.past hp UW (bZ (o:=.ins t.cD dx ([]++[(Str.ofString "town",V.ref tp)]))) hL
  have aay:=vE.mono kq1
  generalize upd H p (.ins t.cD dx ([]++[(Str.ofString "town",V.ref tp)]))=H1 at B1 hT1 hp1 hL1 aay
  clear B0 kq1 vE hL hT
  refine b5 λNx c7=>?_
  refine⟨_,rfl,λsp VQ nsp ndx hne=>?_⟩
  have t2:aC H1 (upd (upd H1 VQ (.own sp)) sp (.ins t.cz VQ [])):=(aC.new ndx).trans (aC.new (by rw[aD (bK hne)]; exact nsp))
  refine⟨sp,VQ,tp,ln,lr,ns,rs,rfl,ao,hT1.mono t2,yJ,hw,λlu ls H2 Oq hls nlu nd el h2p h2u h2w kp=>⟨rfl,?_⟩⟩
  have s2:aC H1 H2:=λb o e=>kp b o (t2 b o e) (aF e nsp)
  have adb:H1 lu=none:=t2.free Oq
  have ade:∀ l∈ls,H1 l=none:=λl hl=>t2.free (hls l hl)
  have OS:uI H2 (WZ sp lu ls) (Sj t.cz VQ tp lu ls (rs.map λr=>aq r.d.toNat)):=by
   refine aaa h2p h2u (by rw[ah]; exact el) (λi l w' e1 e2=>?_) nd nlu
   rw[aj] at e2
   cases e3:rs[i]? with
   | none=>rw[e3] at e2; cases e2
   | some r=>rw[e3] at e2; cases e2; exact h2w i l r e1 e3
  have B2:=B1.join OS rfl (λr hr'=>by
   cases r <;> first | exact absurd rfl hr' | skip
   ·exact nsp
   ·exact adb
   ·rename_i i
    show H1 (ls.getD i 0)=none
    by_cases z:i < ls.length
    ·rw[az,aa z]
     exact ade _ (aL z)
    ·exact absurd (show ((rs.map λr:R5=>aq r.d.toNat)[i]?.map λw=>HO.lst (aV w))=none by rw[iM (by rw[ah]; lia)]; rfl) hr') s2
  have adf:Fd K t.aR H2 tp ln lr lc ns rs qs cl:=⟨hT1.mono s2,s2.seq hL1,aay.mono λb x=>s2.dB⟩
  have hp2:=s2 _ _ hp1
  refine⟨_,rfl,p,_,dx,_,rfl,hp2,T.bD,T.kK,(by show 1 < 1000; decide),?_⟩
  rw[cY (names:=["town"]) rfl (by decide +kernel)]
  refine c7 _ _ ?_
  clear c7 Nx
  have B3:=B2.put (.ins t.cD dx (([]++[(Str.ofString "town",V.ref tp)])++[(Str.ofString "strands",V.ref sp)]))
  have aaA:=adf.put hp2 YN (o:=.ins t.cD dx (([]++[(Str.ofString "town",V.ref tp)])++[(Str.ofString "strands",V.ref sp)]))
  have hp3:=ao (H:=H2) (a:=p) (o:=.ins t.cD dx (([]++[(Str.ofString "town",V.ref tp)])++[(Str.ofString "strands",V.ref sp)]))
  generalize upd H2 p (.ins t.cD dx (([]++[(Str.ofString "town",V.ref tp)])++[(Str.ofString "strands",V.ref sp)]))=H3 at B3 aaA hp3
  clear adf hp2 B1 hT1 hp1 hL1 aay OS kp t2 s2 h2p h2u h2w adb ade Oq hls B2
  generalize agy:(λr=>if (Sj t.cz VQ tp lu ls (rs.map λr:R5=>aq r.d.toNat) r).isSome=true then WZ sp lu ls r else p)=Ik at B3
  generalize eob:(gF (λr=>if (Sj t.cz VQ tp lu ls (rs.map λr:R5=>aq r.d.toNat) r).isSome=true then Sj t.cz VQ tp lu ls (rs.map λr:R5=>aq r.d.toNat) r else gF (λr=>if r = .cQ then some (.ins t.cD dx []) else none) .cQ (.ins t.cD dx ([]++[(Str.ofString "town",V.ref tp)])) r) .cQ (.ins t.cD dx (([]++[(Str.ofString "town",V.ref tp)])++[(Str.ofString "strands",V.ref sp)])))=ob3 at B3
  refine b5 λNx c7=>?_
  refine⟨_,rfl,⟨_,T.e9 _⟩,λacc hacc=>?_⟩
  refine fQ (n:=3) (λi ys Hx=>∃ (la:Nat->Addr) (rq:Nat->List Addr),ys=(aq i).map (λg=>.ref (la g))/\Fj H Hx p (aaw Ik acc la) (obR ob3 la rq i)/\(∀ g,g < i->dR K Hx (rq g) (f9 ns.length (yH ns)))) hacc (UK (T.e9 _)) (MD (T.e9 _)) ?_ ?_ ?_
  ·refine⟨λ_=>0,λ_=>[],rfl,(B3.new hacc (r:=.tW) (by decide) (.lst [])).ext (λr=>?_) (λr hr'=>?_),λg hg=>absurd hg (by lia)⟩
   ·cases r <;> first | rfl | skip
    rename_i g
    show ob3 (.rows g)=_
    rw[show ob3 (.rows g)=none by rw[<- eob]; rfl]
    show none=(if g < 0 then some (HO.lst (([]:List Addr).map V.ref)) else none)
    rw[if_neg (rG g)]
   ·cases r <;> first | rfl | skip
    rename_i g
    exact absurd (show ob3 (.rows g)=none by rw[<- eob]; rfl) hr'
  ·rintro i ys Hx hi sx hy ⟨la,rq,rfl,B,hR⟩ x H4 ⟨rfl,hx⟩
   refine⟨_,rfl,tp,ln,lr,ns,rs,rfl,(aaA.mono sx).qQ,h12,λl Dw H5 s5 hl h5 ht=>?_⟩
   have hy5:=s5 _ _ hy
   have B5:=((B.add s5 hl h5 (r:=.rows i) (λz=>by cases z)).Z9 (r:=.tW) (aM _) (λz=>by cases z) (.lst ((aq i).map (λg=>V.ref (la g))++[.ref l])))
   have YQ:l≠acc:=(aF hy hl).symm
   refine dZ hacc hi (sx.trans s5) hy5 (by rw[ah,bH]; exact bW (by lia)) ⟨gz la i l,gz rq i Dw,(wF la i l).symm,B5.ext (λr=>?_) (λr hr'=>?_),λg hg=>?_⟩
   ·cases r <;> first | rfl | skip
    ·show some (HO.lst _)=some (HO.lst _)
     rw[wF]
    ·rename_i g
     show gF (obR ob3 la rq i) (.rows i) _ (.rows g)=if g < i + 1 then some (HO.lst ((gz rq i Dw g).map V.ref)) else none
     by_cases z:g=i
     ·subst z
      rw[cW,if_pos (by lia),cJ]
     ·rw[b9 (λe=>z (by cases e; rfl)),eK z]
      show (if g < i then some (HO.lst ((rq g).map V.ref)) else none)=_
      by_cases z2:g < i
      ·rw[if_pos z2,if_pos (by lia)]
      ·rw[if_neg z2,if_neg (by lia)]
   ·cases r <;> first | rfl | skip
    rename_i g
    show pX (aaw Ik acc la) (.rows i) l (.rows g)=gz la i l g
    by_cases z:g=i
    ·subst z
     rw[eT,cJ]
    ·rw[d9 (λe=>z (by cases e; rfl)),eK z]
     rfl
   ·by_cases z:g=i
    ·subst z
     rw[cJ]
     exact ht.mono λb x=>cH.past hy5 jE bZ
    ·rw[eK z]
     exact ((hR g (by lia)).mono λb x=>s5.dB).mono λb x=>cH.past hy5 jE bZ
  rintro ys H4 s4 hy ⟨la,rq,rfl,B4,hR4⟩
  have adh:=aaA.mono s4
  have Tn:=s4 _ _ hp3
  refine⟨_,rfl,p,_,dx,_,rfl,Tn,T.bD,T.j7,(by show 2 < 1000; decide),?_⟩
  rw[cY (names:=["town","strands"]) rfl (by decide +kernel)]
  refine c7 _ _ ?_
  clear c7 Nx
  generalize eo5:HO.ins t.cD dx ((([]++[(Str.ofString "town",V.ref tp)])++[(Str.ofString "strands",V.ref sp)])++[(Str.ofString "rows_by_group",V.ref acc)])=o5
  have B5:=B4.put o5
  have aaB:=adh.put Tn YN (o:=o5)
  have hp5:=ao (H:=H4) (a:=p) (o:=o5)
  have hR5:∀ g,g < 3->dR K (upd H4 p o5) (rq g) (f9 ns.length (yH ns)):=λg hg=>(hR4 g hg).mono λb x=>cH.past Tn mC bZ
  generalize upd H4 p o5=H5 at B5 aaB hp5 hR5
  clear adh Tn hR4 B4 hy s4 hacc
  generalize adk:aaw Ik acc la=VS at B5
  generalize aaC:gF (obR ob3 la rq 3) .cQ o5=Xr at B5
  have n5:∀ g,Xr .iD=none/\Xr (.book g)=none/\Xr (.eF g)=none:=λg=>by rw[<- aaC,<- eob]; exact⟨rfl,rfl,rfl⟩
  refine b5 λNx c7=>?_
  refine⟨_,rfl,⟨_,T.e9 _⟩,λacb Xs=>?_⟩
  refine fQ (n:=3) (λi ys Hx=>∃ (lb ld PX:Nat->Addr),ys=(aq i).map (λg=>.ref (lb g))/\Fj H Hx p (Xo VS acb lb ld) (obB t.dS Xr PX lb ld i)) Xs (UK (T.e9 _)) (MD (T.e9 _)) ?_ ?_ ?_
  ·refine⟨λ_=>0,λ_=>0,λ_=>0,rfl,(B5.new Xs (r:=.iD) (λz=>by cases z) (.lst [])).ext (λr=>?_) (λr hr'=>?_)⟩
   ·cases r <;> first | rfl | skip
    ·rename_i g
     show Xr (.book g)=(if g < 0 then some (HO.ins t.dS 0 [("kept",.ref 0)]) else none)
     rw[if_neg (rG g)]
     exact (n5 g).2.1
    ·rename_i g
     show Xr (.eF g)=(if g < 0 then some (HO.dT []) else none)
     rw[if_neg (rG g)]
     exact (n5 g).2.2
   ·cases r <;> first | rfl | skip
    ·rename_i g
     exact absurd (n5 g).2.1 hr'
    ·rename_i g
     exact absurd (n5 g).2.2 hr'
  ·rintro i ys Hx hi sx hy ⟨lb,ld,PX,rfl,B⟩ x H6 ⟨rfl,hx⟩
   refine λbp Dv nbp agC hne=>?_
   have t6:aC H6 (upd (upd H6 Dv (.own bp)) bp (.ins t.dS Dv [])):=(aC.new agC).trans (aC.new (by rw[aD (bK hne)]; exact nbp))
   refine⟨bp,Dv,rfl,ao,λd H7 hd hB kp=>⟨rfl,?_⟩⟩
   have s7:aC H6 H7:=λb o e=>kp b o (t6 b o e) (aF e nbp)
   have hd6:H6 d=none:=t6.free hd
   obtain⟨⟨U1,h7b⟩,h7d⟩:=hB
   have nbd:bp≠d:=Pd h7b h7d (λe=>by cases e)
   have sm:aC H6 (hide H7 d):=λb o e=>by
    have nb:b≠d:=aF e hd6
    show (if b=d then none else H7 b)=some o
    rw[if_neg nb]
    exact s7 _ _ e
   have sm2:aC (hide H7 d) H7:=λb o e=>by
    have e:(if b=d then none else H7 b)=some o:=e
    by_cases z:b=d
    ·rw[if_pos z] at e; cases e
    ·rw[if_neg z] at e; exact e
   have hmb:(hide H7 d) bp=some (.ins t.dS U1 [("kept",.ref d)]):=by
    show (if bp=d then none else H7 bp)=_
    rw[if_neg nbd]
    exact h7b
   have hmd:(hide H7 d) d=none:=if_pos rfl
   have B1:=B.add sm nbp hmb (r:=.book i) (λz=>by cases z)
   have B2:=B1.add sm2 hmd h7d (r:=.eF i) (λz=>by cases z)
   have B3:=B2.Z9 (r:=.iD) (aM _) (λz=>by cases z) (.lst ((aq i).map (λg=>V.ref (lb g))++[.ref bp]))
   refine dZ Xs hi (sx.trans s7) (s7 _ _ hy) (by rw[ah,bH]; exact bW (by lia)) ⟨gz lb i bp,gz ld i d,gz PX i U1,(wF lb i bp).symm,B3.ext (λr=>?_) (λr hr'=>?_)⟩
   ·cases r <;> first | rfl | skip
    ·show some (HO.lst _)=some (HO.lst _)
     rw[wF]
    ·rename_i g
     show gF (obB t.dS Xr PX lb ld i) (.book i) _ (.book g)=if g < i + 1 then some (HO.ins t.dS (gz PX i U1 g) [("kept",.ref (gz ld i d g))]) else none
     by_cases z:g=i
     ·subst z
      rw[cW,if_pos (by lia),cJ,cJ]
     ·rw[b9 (λe=>z (by cases e; rfl)),eK z,eK z]
      show (if g < i then some (HO.ins t.dS (PX g) [("kept",.ref (ld g))]) else none)=_
      by_cases z2:g < i
      ·rw[if_pos z2,if_pos (by lia)]
      ·rw[if_neg z2,if_neg (by lia)]
    ·rename_i g
     show gF (gF (obB t.dS Xr PX lb ld i) (.book i) _) (.eF i) _ (.eF g)=if g < i + 1 then some (HO.dT []) else none
     by_cases z:g=i
     ·subst z
      rw[cW,if_pos (by lia)]
      rfl
     ·rw[b9 (λe=>z (by cases e; rfl))]
      show (if g < i then some (HO.dT []) else none)=_
      by_cases z2:g < i
      ·rw[if_pos z2,if_pos (by lia)]
      ·rw[if_neg z2,if_neg (by lia)]
   ·cases r <;> first | rfl | skip
    ·rename_i g
     show pX (Xo VS acb lb ld) (.book i) bp (.book g)=gz lb i bp g
     by_cases z:g=i
     ·subst z
      rw[eT,cJ]
     ·rw[d9 (λe=>z (by cases e; rfl)),eK z]
      rfl
    ·rename_i g
     show pX (pX (Xo VS acb lb ld) (.book i) bp) (.eF i) d (.eF g)=gz ld i d g
     by_cases z:g=i
     ·subst z
      rw[eT,cJ]
     ·rw[d9 (λe=>z (by cases e; rfl)),eK z]
      rfl
  rintro ys H6 s6 hy ⟨lb,ld,PX,rfl,B6⟩
  have adl:=aaB.mono s6
  have hR6:∀ g,g < 3->dR K H6 (rq g) (f9 ns.length (yH ns)):=λg hg=>(hR5 g hg).mono λb x=>s6.dB
  have hp6:=s6 _ _ hp5
  subst eo5
  refine⟨_,rfl,p,_,dx,_,rfl,hp6,T.bD,T.pN,(by show 3 < 1000; decide),?_⟩
  rw[cY (names:=["town","strands","rows_by_group"]) rfl (by decide +kernel)]
  refine c7 _ _ ?_
  clear c7 Nx
  generalize eo7:HO.ins t.cD dx (((([]++[(Str.ofString "town",V.ref tp)])++[(Str.ofString "strands",V.ref sp)])++[(Str.ofString "rows_by_group",V.ref acc)])++[(Str.ofString "books",V.ref acb)])=o7
  have B7:=B6.put o7
  have PY:=adl.put hp6 YN (o:=o7)
  have hp7:=ao (H:=H6) (a:=p) (o:=o7)
  have hR7:∀ g,g < 3->dR K (upd H6 p o7) (rq g) (f9 ns.length (yH ns)):=λg hg=>(hR6 g hg).mono λb x=>cH.past hp6 mC bZ
  generalize upd H6 p o7=H7 at B7 PY hp7 hR7
  clear aaB adl hp5 hp6 hR5 hR6 B5 B6 hy s6 Xs
  have ecl:(qs.map V.ref).length=cl.length:=by rw[ah,PY.tup.len,ah]
  have adn:∀ {i:Nat} {x:V} {Hx:Hp},(qs.map V.ref)[i]?=some x->Fd K t.aR Hx tp ln lr lc ns rs qs cl->∃ (hi:i < cl.length) (q:Addr),x = .ref q/\cH K Hx q [.int cl[i].1,.int cl[i].2]:=λ{i x Hx} hx ev=>by
   have hi:=(ai.mp hx).1
   rw[ecl] at hi
   have hq:i < qs.length:=by rw[<- ah (f:=V.ref),ecl]; exact hi
   refine⟨hi,qs[i],?_,ev.tup.at' i _ _ (aa hq) (by rw[aj,aa hi]; rfl)⟩
   rw[aj,aa hq] at hx
   exact (aP hx).symm
  refine b5 λNx c7=>?_
  refine⟨_,rfl,lc,rfl,⟨_,PY.Xn⟩,λWi aaD=>?_⟩
  refine QB (λi=>cl[i]?.map λc=>V.int (c.1:Nat)) aaD PY.Xn (by lia) (λi x Hx R S hx sx h1 h2=>?_) (λH8 s8 hy=>?_)
  ·obtain⟨hi,q,rfl,hq⟩:=adn hx (PY.mono sx)
   exact⟨_,rfl,q,_,_,_,rfl,rfl,hq,rfl,h1 _ _ (aC.refl _) (by rw[aa hi]; rfl)⟩
  rw[ecl,GJ] at hy
  have B8:=B7.add s8 aaD hy (r:=.bg) (λz=>by cases z)
  have ado:=PY.mono s8
  have hp8:=s8 _ _ hp7
  subst eo7
  refine⟨_,rfl,p,_,dx,_,rfl,hp8,T.bD,T.pO,(by show 4 < 1000; decide),?_⟩
  rw[cY (names:=["town","strands","rows_by_group","books"]) rfl (by decide +kernel)]
  refine c7 _ _ ?_
  clear c7 Nx
  generalize eo9:HO.ins t.cD dx ((((([]++[(Str.ofString "town",V.ref tp)])++[(Str.ofString "strands",V.ref sp)])++[(Str.ofString "rows_by_group",V.ref acc)])++[(Str.ofString "books",V.ref acb)])++[(Str.ofString "homes",V.ref Wi)])=o9
  have B9:=B8.put o9
  have SS:=ado.put hp8 YN (o:=o9)
  have hp9:=ao (H:=H8) (a:=p) (o:=o9)
  have hR9:∀ g,g < 3->dR K (upd H8 p o9) (rq g) (f9 ns.length (yH ns)):=λg hg=>((hR7 g hg).mono λb x=>s8.dB).mono λb x=>cH.past hp8 mC bZ
  generalize upd H8 p o9=H9 at B9 SS hp9 hR9
  clear PY ado hp7 hp8 hR7 B7 B8 hy s8 aaD
  refine b5 λNx c7=>?_
  refine⟨_,rfl,lc,rfl,⟨_,SS.Xn⟩,λXp aaE=>?_⟩
  refine QB (λi=>cl[i]?.map λc=>V.int (c.2:Nat)) aaE SS.Xn (by lia) (λi x Hx R S hx sx h1 h2=>?_) (λWc Dt hy=>?_)
  ·obtain⟨hi,q,rfl,hq⟩:=adn hx (SS.mono sx)
   exact⟨_,rfl,q,_,_,_,rfl,rfl,hq,rfl,h1 _ _ (aC.refl _) (by rw[aa hi]; rfl)⟩
  rw[ecl,GJ] at hy
  have B10:=B9.add Dt aaE hy (r:=.groups) (λz=>by cases z)
  have YR:=SS.mono Dt
  have Xu:=Dt _ _ hp9
  subst eo9
  refine⟨_,rfl,p,_,dx,_,rfl,Xu,T.bD,T.nv,(by show 5 < 1000; decide),?_⟩
  rw[cY (names:=["town","strands","rows_by_group","books","homes"]) rfl (by decide +kernel)]
  refine c7 _ _ ?_
  clear c7 Nx
  generalize agH:HO.ins t.cD dx (((((([]++[(Str.ofString "town",V.ref tp)])++[(Str.ofString "strands",V.ref sp)])++[(Str.ofString "rows_by_group",V.ref acc)])++[(Str.ofString "books",V.ref acb)])++[(Str.ofString "homes",V.ref Wi)])++[(Str.ofString "groups",V.ref Xp)])=o11
  have B11:=B10.put o11
  have Q6:=YR.put Xu YN (o:=o11)
  have aaF:=ao (H:=Wc) (a:=p) (o:=o11)
  have aaG:∀ g,g < 3->dR K (upd Wc p o11) (rq g) (f9 ns.length (yH ns)):=λg hg=>((hR9 g hg).mono λb x=>Dt.dB).mono λb x=>cH.past Xu mC bZ
  generalize upd Wc p o11=H11 at B11 Q6 aaF aaG
  clear SS YR hp9 Xu hR9 B9 B10 hy Dt aaE
  generalize aaH:pX (pX (Xo VS acb lb ld) .bg Wi) .groups Xp=YS at B11
  generalize YT:gF (gF (gF (gF (gF (obB t.dS Xr PX lb ld 3) .cQ _) .bg _) .cQ _) .groups _) .cQ o11=VT at B11
  have n11:∀ g,VT .jh=none/\VT (.handed g)=none:=λg=>by rw[<- YT,<- aaC,<- eob]; exact⟨rfl,rfl⟩
  refine b5 λNx c7=>?_
  refine⟨_,rfl,lc,rfl,⟨_,Q6.Xn⟩,λXq SR=>?_⟩
  refine fQ (n:=(qs.map V.ref).length) (λi ys Hx=>∃ lh:Nat->Addr,ys=(aq i).map (λg=>.ref (lh g))/\Fj H Hx p (ac8 YS Xq lh) (obH VT lh i)) SR (yV Q6.Xn) (o6 Q6.Xn) ?_ ?_ ?_
  ·refine⟨λ_=>0,rfl,(B11.new SR (r:=.jh) (λz=>by cases z) (.lst [])).ext (λr=>?_) (λr hr'=>?_)⟩
   ·cases r <;> first | rfl | skip
    rename_i g
    show VT (.handed g)=(if g < 0 then some (HO.lst []) else none)
    rw[if_neg (rG g)]
    exact (n11 g).2
   ·cases r <;> first | rfl | skip
    rename_i g
    exact absurd (n11 g).2 hr'
  ·rintro i ys Hx hi sx hy ⟨lh,rfl,B⟩ x H12 ⟨rfl,hx⟩
   refine⟨br _,λl hl=>?_⟩
   have u:=aC.new (o:=.lst []) hl
   have B3:=(B.new hl (r:=.handed i) (λz=>by cases z) (.lst [])).Z9 (r:=.jh) (aM _) (λz=>by cases z) (.lst ((aq i).map (λg=>V.ref (lh g))++[.ref l]))
   refine dZ SR hi (sx.trans u) (u _ _ hy) (by rw[ah,bH]; exact bW (by lia)) ⟨gz lh i l,(wF lh i l).symm,B3.ext (λr=>?_) (λr hr'=>?_)⟩
   ·cases r <;> first | rfl | skip
    ·show some (HO.lst _)=some (HO.lst _)
     rw[wF]
    ·rename_i g
     show gF (obH VT lh i) (.handed i) _ (.handed g)=if g < i + 1 then some (HO.lst []) else none
     by_cases z:g=i
     ·subst z
      rw[cW,if_pos (by lia)]
     ·rw[b9 (λe=>z (by cases e; rfl))]
      show (if g < i then some (HO.lst []) else none)=_
      by_cases z2:g < i
      ·rw[if_pos z2,if_pos (by lia)]
      ·rw[if_neg z2,if_neg (by lia)]
   ·cases r <;> first | rfl | skip
    rename_i g
    show pX (ac8 YS Xq lh) (.handed i) l (.handed g)=gz lh i l g
    by_cases z:g=i
    ·subst z
     rw[eT,cJ]
    ·rw[d9 (λe=>z (by cases e; rfl)),eK z]
     rfl
  rintro ys H12 s12 hy ⟨lh,rfl,B12⟩
  rw[ecl] at B12
  have ads:∀ g,g < 3->dR K H12 (rq g) (f9 ns.length (yH ns)):=λg hg=>(aaG g hg).mono λb x=>s12.dB
  have aaI:=s12 _ _ aaF
  subst agH
  refine⟨_,rfl,p,_,dx,_,rfl,aaI,T.bD,T.CZ,(by show 6 < 1000; decide),?_⟩
  rw[cY (names:=["town","strands","rows_by_group","books","homes","groups"]) rfl (by decide +kernel)]
  refine c7 _ _ ?_
  clear c7 Nx
  generalize agJ:HO.ins t.cD dx ((((((([]++[(Str.ofString "town",V.ref tp)])++[(Str.ofString "strands",V.ref sp)])++[(Str.ofString "rows_by_group",V.ref acc)])++[(Str.ofString "books",V.ref acb)])++[(Str.ofString "homes",V.ref Wi)])++[(Str.ofString "groups",V.ref Xp)])++[(Str.ofString "handed",V.ref Xq)])=o13
  have B13:=B12.put o13
  have aaJ:=ao (H:=H12) (a:=p) (o:=o13)
  have aaK:∀ g,g < 3->dR K (upd H12 p o13) (rq g) (f9 ns.length (yH ns)):=λg hg=>(ads g hg).mono λb x=>cH.past aaI mC bZ
  generalize upd H12 p o13=H13 at B13 aaJ aaK
  clear aaF aaI aaG ads B11 B12 hy s12 SR
  refine b5 λNx c7=>?_
  refine⟨br _,λacl aaL=>?_⟩
  have B14:=B13.new aaL (r:=.cE) (λz=>by cases z) (.lst [])
  have u14:=aC.new (o:=.lst []) aaL
  have Xv:=u14 _ _ aaJ
  have aaM:∀ g,g < 3->dR K (upd H13 acl (.lst [])) (rq g) (f9 ns.length (yH ns)):=λg hg=>(aaK g hg).mono λb x=>u14.dB
  generalize upd H13 acl (.lst [])=H14 at B14 Xv aaM
  subst agJ
  refine⟨_,rfl,p,_,dx,_,rfl,Xv,T.bD,T.eZ,(by show 7 < 1000; decide),?_⟩
  rw[cY (names:=["town","strands","rows_by_group","books","homes","groups","handed"]) rfl (by decide +kernel)]
  refine c7 _ _ ?_
  clear c7 Nx
  generalize agO:HO.ins t.cD dx (((((((([]++[(Str.ofString "town",V.ref tp)])++[(Str.ofString "strands",V.ref sp)])++[(Str.ofString "rows_by_group",V.ref acc)])++[(Str.ofString "books",V.ref acb)])++[(Str.ofString "homes",V.ref Wi)])++[(Str.ofString "groups",V.ref Xp)])++[(Str.ofString "handed",V.ref Xq)])++[(Str.ofString "letters",V.ref acl)])=o15
  have B15:=B14.put o15
  have adt:=ao (H:=H14) (a:=p) (o:=o15)
  have adu:∀ g,g < 3->dR K (upd H14 p o15) (rq g) (f9 ns.length (yH ns)):=λg hg=>(aaM g hg).mono λb x=>cH.past Xv mC bZ
  generalize upd H14 p o15=H15 at B15 adt adu
  clear aaJ Xv aaK aaM B13 B14 aaL u14
  refine⟨br _,λaco adv=>?_⟩
  have B16:=B15.new adv (r:=.d8) (λz=>by cases z) (.lst [])
  have u16:=aC.new (o:=.lst []) adv
  have aaN:=u16 _ _ adt
  have adw:∀ g,g < 3->dR K (upd H15 aco (.lst [])) (rq g) (f9 ns.length (yH ns)):=λg hg=>(adu g hg).mono λb x=>u16.dB
  generalize upd H15 aco (.lst [])=H16 at B16 aaN adw
  subst agO
  refine⟨_,rfl,p,_,dx,_,rfl,aaN,T.bD,T.iK,(by show 8 < 1000; decide),?_⟩
  rw[cY (names:=["town","strands","rows_by_group","books","homes","groups","handed","letters"]) rfl (by decide +kernel)]
  generalize agP:HO.ins t.cD dx ((((((((([]++[(Str.ofString "town",V.ref tp)])++[(Str.ofString "strands",V.ref sp)])++[(Str.ofString "rows_by_group",V.ref acc)])++[(Str.ofString "books",V.ref acb)])++[(Str.ofString "homes",V.ref Wi)])++[(Str.ofString "groups",V.ref Xp)])++[(Str.ofString "handed",V.ref Xq)])++[(Str.ofString "letters",V.ref acl)])++[(Str.ofString "copies",V.ref aco)])=o17
  have B17:=B16.put o17
  have adx:∀ g,g < 3->dR K (upd H16 p o17) (rq g) (f9 ns.length (yH ns)):=λg hg=>(adw g hg).mono λb x=>cH.past aaN mC bZ
  generalize upd H16 p o17=H17 at B17 adx
  subst agP YT aaH aaC adk eob agy
  have hws:(rs.map λr:R5=>aq r.d.toNat).length=ls.length:=by rw[ah]; exact el.symm
  have agR:ls.map V.ref=(aq (rs.map λr:R5=>aq r.d.toNat).length).map λi=>V.ref (ls.getD i 0):=by
   rw[hws]
   refine pQ (by simp) λi h1 h2=>?_
   simp at h1
   simp[h1]
  have B18:Fj H H17 p (ac9 p sp lu ls acc la acb lb ld Wi Xp Xq lh acl aco) (desc (nc t) (dxF dx VQ PX) tp (ac9 p sp lu ls acc la acb lb ld Wi Xp Xq lh acl aco) ⟨rq,λ_=>[],[]⟩ (S0 ns rs cl)):=by
   refine B17.ext (λr=>?_) (λr hr'=>?_)
   ·cases r <;> first | rfl | skip
    case cP =>
     show some (HO.lst (ls.map V.ref))=some (HO.lst ((aq (rs.map λr:R5=>aq r.d.toNat).length).map λi=>V.ref (ls.getD i 0)))
     rw[<- agR]
    case fN j =>
     show (if ((rs.map λr:R5=>aq r.d.toNat)[j]?.map λw=>HO.lst (aV w)).isSome=true then ((rs.map λr:R5=>aq r.d.toNat)[j]?.map λw=>HO.lst (aV w)) else none)=((rs.map λr:R5=>aq r.d.toNat)[j]?.map λw=>HO.lst (aV w))
     cases (rs.map λr:R5=>aq r.d.toNat)[j]? <;> rfl
    case bg =>
     show some (HO.lst _)=some (HO.lst ((cl.map (·.1)).map _))
     rw[cu]
     rfl
    case groups =>
     show some (HO.lst _)=some (HO.lst ((cl.map (·.2)).map _))
     rw[cu]
     rfl
    case jh =>
     show some (HO.lst ((aq cl.length).map λg=>V.ref (lh g)))=some (HO.lst ((aq (cl.map λ_=>([]:List Nat)).length).map λg=>V.ref (lh g)))
     rw[ah]
    case handed j =>
     show (if j < cl.length then some (HO.lst []) else none)=((cl.map λ_=>([]:List Nat))[j]?.map λw=>HO.lst (aV w))
     rw[aj]
     by_cases z:j < cl.length
     ·rw[if_pos z,aa z]
      rfl
     ·rw[if_neg z,iM (by lia)]
      rfl
   ·cases r <;> first | rfl | exact absurd rfl hr' | skip
    case fN j =>
     show (if ((rs.map λr:R5=>aq r.d.toNat)[j]?.map λw=>HO.lst (aV w)).isSome=true then ls.getD j 0 else p)=ls.getD j 0
     have hr':(if ((rs.map λr:R5=>aq r.d.toNat)[j]?.map λw=>HO.lst (aV w)).isSome=true then ((rs.map λr:R5=>aq r.d.toNat)[j]?.map λw=>HO.lst (aV w)) else none)≠none:=hr'
     cases e:(rs.map λr:R5=>aq r.d.toNat)[j]? with
     | none=>rw[e] at hr'; exact absurd rfl hr'
     | some w'=>rfl
  refine k _ H17 ⟨_,dxF dx VQ PX,⟨rq,λ_=>[],[]⟩,B18.np,B18.own,λb=>Iff.rfl,⟨adx,λi l e=>?_,⟨rfl,λi q x e=>by cases e⟩⟩⟩ B18.kp B18.fr
  cases e
inductive Q7(K:af)(c:NC)(vs:List V)(H:Hp)(Q:VK)(E:XK):Prop
 | mk (F:Addr->Prop) (p tp:Addr) (n g:Nat) (s:NS):vs = [.ref p,.int g]->c5 K c H F p tp n s->g < 3->(∀ l (qs:List Addr) H',aC H H'->H l=none->H' l=some (.lst (qs.map V.ref))->dR K H' qs (f9 n (s.R g))->Q (.ref l) H')->Q7 K c vs H Q E
theorem lV{t:Ad}(T:Txt K mg t):bV P w K mg base gO 2 t.sA t.xu ["self","group"]  (Q7 K (nc t)):=by
 refine T.lG.F.jo MX λH Q E hr h=>?_
 ·obtain⟨F,p,tp,n,g,st,rfl,⟨loc,dx,q,hp,O,hF,hT⟩,hg,k⟩:=h
  refine⟨_,(ak (dY (An (tN T) (hr.mono (by decide)) rfl T.dW.g T.dW.F.kp T.dW.B .nil JR (fV (pv 1)))) (oR (iZ iC (by rfl) T.xM boot_list (fV (xL (aO (pv 0) rfl) (pv 1)))))),?_⟩
  try dsimp only[aU]
  have bQ:=O.get .cQ _ rfl
  rw[hp] at bQ
  refine⟨_,rfl,g,rfl,λ_=>?_,λz=>absurd ⟨by lia,by lia⟩ z⟩
  refine⟨_,rfl,p,_,_,_,_,rfl,bQ,T.bD,T.j7,rfl,_,rfl,loc .tW,_,_,_,rfl,rfl,bJ.of (O.get .tW _ rfl),ly hg,loc (.rows g),_,rfl,.inl (bJ.of (O.get (.rows g) _ (if_pos hg))),λl hl=>?_⟩
  have u:=aC.new (o:=.lst ((q.rq g).map V.ref)) hl
  exact k l (q.rq g) _ u hl ao ((hT.rows g hg).mono λb x=>u.dB)
inductive Q8(K:af)(CT:Addr)(c:NC)(vs:List V)(H:Hp)(Q:VK)(E:XK):Prop
 | mk (F:Addr->Prop) (p tp ln lr:Addr) (ns:List Int) (rs:List R5) (s:NS) (g:Nat):vs = [.ref p,.int g]->NW K c CT H F p tp ln lr ns rs s->fq ns rs->y9 ns rs s->g < 3->(∀ l H',aC H H'->H l=none->H' l=some (.lst (aV (EL rs s.ws g)))->Q (.ref l) H')->Q8 K CT c vs H Q E
theorem uv{t:Ad}(T:Txt K mg t):bV P w K mg base gO 3 t.sC t.xw ["self","group"]  (Q8 K t.aR (nc t)):=by
 refine T.sL.F.jo MY λH Q E hr h=>?_
 ·obtain⟨F,p,tp,ln,lr,ns,rs,st,g,rfl,N,ok,yi,hg,k⟩:=h
  refine⟨_,(oR (qL (aO (pv 0) rfl) T.c8 T.sJ.m (FE T) (hr.mono (by decide)) T.sJ.B .nil JR (fV (pv 1)))),?_⟩
  try dsimp only[aU]
  obtain⟨loc,dx,q,hp,O,hF,hT⟩:=N.cQ
  have bQ:=O.get .cQ _ rfl
  rw[hp] at bQ
  refine⟨_,rfl,p,_,_,_,_,rfl,bQ,T.bD,T.kK,rfl,loc .cy,dx .cy,_,rfl,O.get .cy _ rfl,rfl,_,rfl,loc .cy,tp,loc .cP,ln,lr,ns,rs,st.ws,g,rfl,N.qQ,O.strAt,yi.wl,ok.m20,(λr hr'=>⟨(ok.ok r hr').e1,(ok.ok r hr').e7⟩),λgg l H' eg _ s' hl h'=>?_,λz=>absurd ⟨by lia,by lia⟩ z⟩
  have:gg=g:=by lia
  subst this
  exact k l H' s' hl h'
inductive NK(K:af)(CT:Addr)(c:NC)(vs:List V)(H:Hp)(Q:VK)(E:XK):Prop
 | mk (F:Addr->Prop) (p tp ln lr:Addr) (ns:List Int) (rs:List R5) (s:NS) (o:fq ns rs) (g:Nat):vs = [.ref p,.int g]->NW K c CT H F p tp ln lr ns rs s->y9 ns rs s->g < 3->(∀ l os H',aC H H'->H l=none->H' l=some (.lst (aV os))->mz (CD ns rs o s.ws g) (s.R g) os->os.length<=12->Q (.ref l) H')->NK K CT c vs H Q E
theorem Dk{t:Ad}(T:Txt K mg t):bV P w K mg base gO 6 t.pI t.ud ["self","group"]  (NK K t.aR (nc t)):=by
 refine T.zF.F.jo Lx λH Q E hr h=>?_
 ·obtain⟨F,p,tp,ln,lr,ns,rs,st,ok,g,rfl,N,yi,hg,k⟩:=h
  refine⟨_,(oR (An (Nv T) (hr.mono (by decide)) rfl T.zG T.CQ.F.kp T.CQ.B .nil mj (J2 (aO (pv 0) rfl) (cM (pv 0) T.bD T.sL (uv T) hr (fV (pv 1))) (cM (pv 0) T.bD T.lG (lV T) hr (fV (pv 1)))))),?_⟩
  try dsimp only[aU]
  obtain⟨loc,dx,q,hp,O,hF,hT⟩:=id N.cQ
  have bQ:=O.get .cQ _ rfl
  rw[hp] at bQ
  refine⟨_,rfl,p,_,_,_,_,rfl,bQ,T.bD,T.lI,rfl,?_⟩
  refine⟨_,rfl,p,_,_,rfl,bQ,rfl,_,rfl,F,p,tp,ln,lr,ns,rs,st,g,rfl,N,ok,yi,hg,λl1 H1 s1 hl1 h1=>?_⟩
  have N1:=N.mono s1
  refine⟨_,rfl,p,_,_,rfl,s1 _ _ bQ,rfl,_,rfl,F,p,tp,ns.length,g,st,rfl,N1.cQ,hg,λl2 qs H2 s2 hl2 h2 ht=>?_⟩
  refine⟨tp,ln,lr,l1,l2,ns,rs,_,ok.nd,ok.ok,vK,st.R g,rfl,N1.qQ.mono s2,bJ.of (s2 _ _ h1),ht.GN (bJ.of h2),by have:=ok.n10; lia,ok.m20,yi.fit g hg,λl os H3 s3 hl h3 hO h12=>?_⟩
  exact k l os H3 (s1.trans (s2.trans s3)) ((s1.trans s2).free hl) h3 hO h12
inductive NL(K:af)(c:NC)(vs:List V)(H:Hp)(Q:VK)(E:XK):Prop
 | mk (F:Addr->Prop) (p tp:Addr) (n g:Nat) (s:NS):vs = [.ref p,.int g]->c5 K c H F p tp n s->g < 3->(s.ts g).length < 2000->(∀ l (qs:List Addr) (us:List T3) H',aC H H'->H l=none->H' l=some (.lst (qs.map V.ref))->gy K H' qs us->us.Perm (s.ts g)->qN us->Q (.ref l) H')->NL K c vs H Q E
theorem yj{t:Ad}(T:Txt K mg t):bV P w K mg base gO 2 t.pJ t.ue ["self","group"]  (NL K (nc t)):=by
 refine T.uh.F.jo Ly λH Q E hr h=>?_
 ·obtain⟨F,p,tp,n,g,st,rfl,⟨loc,dx,q,hp,O,hF,hT⟩,hg,h64,k⟩:=h
  refine⟨_,(ak (dY (An (tN T) (hr.mono (by decide)) rfl T.dW.g T.dW.F.kp T.dW.B .nil JR (fV (pv 1)))) (oR (ki (xL (aO (pv 0) rfl) (pv 1)) T.xK T.xE.m (Jx T) (hr.mono (by decide)) T.xE.B .nil mj))),?_⟩
  try dsimp only[aU]
  have bQ:=O.get .cQ _ rfl
  rw[hp] at bQ
  refine⟨_,rfl,g,rfl,λ_=>?_,λz=>absurd ⟨by lia,by lia⟩ z⟩
  exact⟨_,rfl,p,_,_,_,_,rfl,bQ,T.bD,T.pN,rfl,_,rfl,loc .iD,_,_,_,rfl,rfl,bJ.of (O.get .iD _ rfl),ly hg,loc (.book g),dx (.book g),_,rfl,O.get (.book g) _ (if_pos hg),rfl,loc (.book g),loc (.eF g),st.ts g,rfl,O.Li hg,h64,k⟩
inductive NN(K:af)(CT:Addr)(c:NC)(vs:List V)(H:Hp)(Q:VK)(E:XK):Prop
 | mk (F:Addr->Prop) (p tp ln lr:Addr) (ns:List Int) (rs:List R5) (s:NS) (h:Nat):vs = [.ref p,.int h]->NW K c CT H F p tp ln lr ns rs s->h < ns.length->Q .eU H->NN K CT c vs H Q E
theorem Ca{t:Ad}(T:Txt K mg t):bV P w K mg base gO 1 t.gH t.jj ["self","house"]  (NN K t.aR (nc t)):=by
 refine T.uo.F.jo BD λH Q E hr h=>?_
 ·obtain⟨F,p,tp,ln,lr,ns,rs,st,x,rfl,N,hx,k⟩:=h
  refine⟨_,(aW (cC (jx (jy qG tR aA (pv 1) (aO (aO (pv 0) rfl) rfl))) dN aX)),?_⟩
  try dsimp only[aU]
  obtain⟨loc,dx,q,hp,O,hF,hT⟩:=id N.cQ
  obtain⟨⟨dt,htp⟩,_⟩:=id N.qQ
  have bQ:=O.get .cQ _ rfl
  rw[hp] at bQ
  refine⟨_,rfl,_,_,rfl,rfl,_,rfl,?_⟩
  rw[decide_eq_true (show (0:Int)<=(x:Int) by lia)]
  refine eW ⟨_,rfl,p,_,_,_,_,rfl,bQ,T.bD,T.lI,rfl,tp,_,dt,_,_,rfl,htp,T.eG,T.lT,rfl,_,_,rfl,rfl,_,rfl,?_⟩
  rw[decide_eq_true (show (x:Int) < (ns.length:Int) by lia)]
  exact fk k
inductive KE(K:af)(c:NC)(vs:List V)(H:Hp)(Q:VK)(E:XK):Prop
 | mk (F:Addr->Prop) (p tp:Addr) (n x:Nat) (s:NS):vs = [.ref p,.int x]->c5 K c H F p tp n s->x < s.bg.length->Q .eU H->KE K c vs H Q E
theorem qJ{t:Ad}(T:Txt K mg t):bV P w K mg base gO 1 t.gp t.iH ["self","caller"]  (KE K (nc t)):=by
 refine T.lH.F.jo AN λH Q E hr h=>?_
 ·obtain⟨F,p,tp,n,x,st,rfl,⟨loc,dx,q,hp,O,hF,hT⟩,hx,k⟩:=h
  refine⟨_,(aW (cC (jx (jy qG tR aA (pv 1) (lS T.jQ (aO (pv 0) rfl)))) dN aX)),?_⟩
  try dsimp only[aU]
  have bQ:=O.get .cQ _ rfl
  rw[hp] at bQ
  refine⟨_,rfl,_,_,rfl,rfl,_,rfl,?_⟩
  rw[decide_eq_true (show (0:Int)<=(x:Int) by lia)]
  refine eW ⟨_,rfl,p,_,_,_,_,rfl,bQ,T.bD,T.pO,rfl,loc .bg,_,rfl,.inl (bJ.of (O.get .bg _ rfl)),_,_,rfl,rfl,_,rfl,?_⟩
  rw[ah,decide_eq_true (show (x:Int) < (st.bg.length:Int) by lia)]
  exact fk k
inductive NO(K:af)(CT:Addr)(c:NC)(vs:List V)(H:Hp)(Q:VK)(E:XK):Prop
 | mk (F:Addr->Prop) (p tp ln lr:Addr) (ns:List Int) (rs:List R5) (s:NS) (h g:Nat):vs = [.ref p,.int h,.int g]->NW K c CT H F p tp ln lr ns rs s->h < ns.length->g < 3->(∀ q H',aC H H'->cH K H' q (cR (s.R g h))->Q (.ref q) H')->NO K CT c vs H Q E
theorem JA{t:Ad}(T:Txt K mg t):bV P w K mg base gO 3 t.mU t.qX ["self","house","group"]  (NO K t.aR (nc t)):=by
 refine T.CV.F.jo I0 λH Q E hr h=>?_
 ·obtain⟨F,p,tp,ln,lr,ns,rs,st,x,g,rfl,N,hx,hg,k⟩:=h
  refine⟨_,(ak (dY (cM (pv 0) T.bD T.uo (Ca T) hr (fV (pv 1)))) (oR (xL (cM (pv 0) T.bD T.lG (lV T) hr (fV (pv 2))) (pv 1)))),?_⟩
  try dsimp only[aU]
  obtain⟨loc,dx,q,hp,O,hF,hT⟩:=id N.cQ
  have bQ:=O.get .cQ _ rfl
  rw[hp] at bQ
  refine⟨_,rfl,p,_,_,rfl,bQ,rfl,_,rfl,F,p,tp,ln,lr,ns,rs,st,x,rfl,N,hx,?_⟩
  refine⟨_,rfl,p,_,_,rfl,bQ,rfl,_,rfl,F,p,tp,ns.length,g,st,rfl,N.cQ,hg,λl qs H2 s2 hl h2 ht=>?_⟩
  have el:qs.length=ns.length:=by rw[ht.len]; simp[f9]
  have hxq:x < qs.length:=by lia
  refine⟨_,rfl,l,_,_,_,rfl,rfl,bJ.of h2,dG (v:=.ref qs[x]) (by rw[aj,aa hxq]; rfl),k _ H2 s2 (ht.at' x _ _ (aa hxq) ?_)⟩
  unfold f9
  rw[aj,fP hx]
  rfl
inductive KG(K:af)(c:NC)(vs:List V)(H:Hp)(Q:VK)(E:XK):Prop
 | mk (F:Addr->Prop) (p tp:Addr) (n:Nat) (s:NS):vs = [.ref p]->c5 K c H F p tp n s->(∀ l (qs:List Addr) H',aC H H'->H l=none->H' l=some (.lst (qs.map V.ref))->dR K H' qs (s.cps.map Cp.vs)->Q (.ref l) H')->KG K c vs H Q E
theorem JB{t:Ad}(T:Txt K mg t):bV P w K mg base gO 1 t.mV t.qY ["self"]  (KG K (nc t)):=by
 refine T.xF.F.jo Ja λH Q E hr h=>?_
 ·obtain⟨F,p,tp,n,st,rfl,N,k⟩:=h
  refine⟨_,(oR (iZ iC (by rfl) T.xM boot_list (fV (aO (pv 0) rfl)))),?_⟩
  try dsimp only[aU]
  obtain⟨loc,dx,q,hp,O,hF,hT⟩:=id N
  have bQ:=O.get .cQ _ rfl
  rw[hp] at bQ
  refine⟨_,rfl,p,_,_,_,_,rfl,bQ,T.bD,T.iK,rfl,loc .d8,_,rfl,.inl (bJ.of (O.get .d8 _ rfl)),λl hl=>?_⟩
  have u:=aC.new (o:=.lst (q.cq.map V.ref)) hl
  exact k l q.cq _ u hl ao (hT.cps.mono λb x=>u.dB)
noncomputable def FI(g:Nat)(l:LS):LS:=if l.grp=g then { l with old:=true } else l
noncomputable def KH(s:NS)(g:Nat):NS:={ s with ts:=gz s.ts g [],ls:=s.ls.map (FI g) }
inductive Q9(K:af)(c:NC)(vs:List V)(H:Hp)(Q:VK)(E:XK):Prop
 | mk (F:Addr->Prop) (p tp:Addr) (n g:Nat) (s:NS):vs = [.ref p,.int g]->c5 K c H F p tp n s->g < 3->(∀ F' H',c5 K c H' F' p tp n (KH s g)->Step H F H' F'->Q .eU H')->Q9 K c vs H Q E
theorem wG{t:Ad}(T:Txt K mg t):bV P w K mg base gO 2 t.iV t.kX ["self","group"]  (Q9 K (nc t)):=by
 refine T.qi.F.jo vP λH Q E hr h=>?_
 ·obtain⟨F,p,tp,n,g,st,rfl,⟨loc,dx,q,hp,O,hF,hT⟩,hg,k⟩:=h
  refine⟨_,(ak (dY (ki (xL (aO (pv 0) rfl) (pv 1)) T.xK T.uV.m (Ii T) (hr.mono (by decide)) T.uV.B .nil mj)) (aW (fS (fB (aO (pv 0) rfl)) (gT 2 vP) (aW (cC (qT yO (aO (pv 2) rfl) (pv 1)) (aW (fj (pv 2) Ez rfl)) aX))))),?_⟩
  try dsimp only[aU]
  have bQ:=O.get .cQ _ rfl
  rw[hp] at bQ
  refine⟨_,rfl,p,_,_,_,_,rfl,bQ,T.bD,T.pN,rfl,_,rfl,loc .iD,_,_,_,rfl,rfl,bJ.of (O.get .iD _ rfl),ly hg,loc (.book g),dx (.book g),_,rfl,O.get (.book g) _ (if_pos hg),rfl,loc (.book g),loc (.eF g),st.ts g,rfl,O.Li hg,λd' H1 hd' hB kp=>?_⟩
  obtain⟨⟨U1,h1b⟩,h1d⟩:=hB
  obtain⟨F',N',st'⟩:=Pf hp O hF hT hg hd' h1b h1d kp
  clear kp h1b h1d hd' bQ hT hF O hp
  obtain⟨loc',Xw,q',WB,O',hF',hT'⟩:=N'
  have X:jV K (nc t) H1 F' loc' Xw q' p tp n { st with ts:=gz st.ts g [] }:=⟨WB,O',hF',hT'⟩
  have YU:=O'.get .cQ _ rfl
  rw[WB] at YU
  have Wj:=O'.get .cE _ rfl
  clear hT' hF' O' WB
  refine⟨_,rfl,p,_,_,_,_,rfl,YU,T.bD,T.eZ,rfl,loc' .cE,rfl,⟨_,bJ.of Wj⟩,rO (K:=K) (a:=loc' .cE) (xs:=(aq st.ls.length).map λi=>.ref (loc' (.bS i))) (λi σ H2=>jV K (nc t) H2 F' loc' Xw q' p tp n { st with ts:=gz st.ts g [],ls:=(st.ls.take i).map (FI g)++st.ls.drop i }/\Step H1 F' H2 F'/\∃ v2:Option V,σ = [some (.ref p),some (.int g),v2]) ⟨by rw[List.take_zero,List.drop_zero]; exact X,Step.refl' (aC.refl _),_,rfl⟩ (λi σ H2 _ z=>?_) ?_ ?_⟩
  ·have e:=z.1.own.get .cE _ rfl
   have el:((st.ls.take i).map (FI g)++st.ls.drop i).length=st.ls.length:=by
    rw[av,ah,<- av,vH]
   refine bJ.of (e.trans ?_)
   show some (HO.lst ((aq ((st.ls.take i).map (FI g)++st.ls.drop i).length).map _))=_
   rw[el]
  ·rintro i y σ H2 hi ⟨X2,st2,v2,rfl⟩
   have hil:i < st.ls.length:=by
    have:=(ai.mp hi).1
    rw[ah,bH] at this
    exact this
   rw[aj,fP hil] at hi
   cases hi
   have hli:((st.ls.take i).map (FI g)++st.ls.drop i)[i]?=some st.ls[i]:=by
    rw[bX (by rw[ah,bO]; lia),ah,bO,Nat.min_eq_left (by lia),lX,List.getElem?_drop,Nat.add_zero]
    exact aa hil
   have J5:=X2.own.get (.bS i) (mG (nc t) Xw loc' i st.ls[i]) (by show (((st.ls.take i).map (FI g)++st.ls.drop i)[i]?.map _)=_; rw[hli]; rfl)
   have next:(st.ls.take (i + 1)).map (FI g)++st.ls.drop (i + 1)=((st.ls.take i).map (FI g)++st.ls.drop i).set i (FI g st.ls[i]):=by
    rw[uz,aa hil,aT,uD,List.set_append_right _ _ (by rw[ah,bO]; lia),ah,bO,Nat.min_eq_left (by lia),lX,oZ hil]
    rfl
   rw[next]
   refine⟨_,rfl,_,_,_,_,_,rfl,J5,T.cU,T.jO,rfl,_,rfl,rfl,_,rfl,jS (λe=>?_) (λe=>?_)⟩
   ·have e:(st.ls[i]).grp=g:=by
     have:=V.int.inj (of_decide_eq_true e)
     lia
    refine⟨_,rfl,_,_,_,_,rfl,J5,T.cU,T.xJ,(by show 5 < 1000; decide),?_⟩
    obtain⟨X3,st3⟩:=W1 X2 hli
    refine⟨?_,st2.trans st3,_,rfl⟩
    unfold FI
    rw[if_pos e]
    exact X3
   ·have e:¬ (st.ls[i]).grp=g:=λz=>e (decide_eq_true (by rw[z]))
    refine⟨?_,st2,_,rfl⟩
    have:FI g st.ls[i]=st.ls[i]:=if_neg e
    rw[this,U7 hli]
    exact X2
  ·rintro σ H2 ⟨X2,st2,v2,rfl⟩
   rw[ah,bH,fM (au _),List.drop_eq_nil_of_le (au _),gQ] at X2
   exact k F' H2 X2.cQ (st'.trans st2)
noncomputable def NP(s:NS)(g x:Nat)(d:RM.Row):NS:=if d=s.R g x then s else KH { s with R:=gz s.R g (RM.upd (s.R g) x d) } g
inductive NQ(K:af)(CT:Addr)(c:NC)(vs:List V)(H:Hp)(Q:VK)(E:XK):Prop
 | mk (F:Addr->Prop) (p tp ln lr:Addr) (ns:List Int) (rs:List R5) (s:NS) (o:fq ns rs) (x g:Nat):vs = [.ref p,.int x,.int g]->NW K c CT H F p tp ln lr ns rs s->y9 ns rs s->x < ns.length->g < 3->(∀ d F' H',RM.UH (N:=CD ns rs o s.ws g) ns.length (s.R g) x d->DG ns.length rs.length d->c5 K c H' F' p tp ns.length (NP s g x d)->Step H F H' F'->Q (.bl (!decide (d=s.R g x))) H')->NQ K CT c vs H Q E
theorem NR{t:Ad}(T:Txt K mg t):bV P w K mg base gO 4 t.sD t.xx ["self","house","group"]  (NQ K t.aR (nc t)):=by
 refine T.G6.F.jo zp λH Q E hr h=>?_
 ·obtain⟨F,p,tp,ln,lr,ns,rs,st,ok,x,g,rfl,N,yi,hx,hg,k⟩:=h
  refine⟨_,(ak (sS 3 zp (cM (pv 0) T.bD T.CV (JA T) hr (mH (pv 1) (pv 2)))) (ak (sS 4 zp (cG (aap T) hr T.YA (Yv (aO (pv 0) rfl) (cM (pv 0) T.bD T.sL (uv T) hr (fV (pv 2))) (cM (pv 0) T.bD T.lG (lV T) hr (fV (pv 2))) (pv 1)))) (ak (cC (qT uF (pv 4) (pv 3)) oB aX) (ak (Gd (pv 4) (KY (xL (aO (pv 0) rfl) (pv 2)) (pv 1) set_list)) (ak (dY (cM (pv 0) T.bD T.qi (wG T) hr (fV (pv 2)))) oB))))),?_⟩
  try dsimp only[aU]
  obtain⟨loc,dx,q,hp,O,hF,hT⟩:=id N.cQ
  have bQ:=O.get .cQ _ rfl
  rw[hp] at bQ
  refine⟨_,rfl,p,_,_,rfl,bQ,rfl,_,rfl,_,rfl,F,p,tp,ln,lr,ns,rs,st,x,g,rfl,N,hx,hg,λq1 H1 s1 hq1=>?_⟩
  have N1:=N.mono s1
  have iA:=s1 _ _ bQ
  refine⟨_,rfl,p,_,_,_,_,rfl,iA,T.bD,T.lI,rfl,?_⟩
  refine⟨_,rfl,p,_,_,rfl,iA,rfl,_,rfl,F,p,tp,ln,lr,ns,rs,st,g,rfl,N1,ok,yi,hg,λl2 H2 s2 hl2 h2=>?_⟩
  have N2:=N1.mono s2
  refine⟨_,rfl,p,_,_,rfl,s2 _ _ iA,rfl,_,rfl,F,p,tp,ns.length,g,st,rfl,N2.cQ,hg,λl3 qs H3 s3 hl3 h3 ht=>?_⟩
  have N3:=N2.mono s3
  refine⟨_,rfl,tp,ln,lr,l2,l3,ns,rs,_,ok.nd,ok.ok,vK,st.R g,x,rfl,N3.qQ,bJ.of (s3 _ _ h2),ht.GN (bJ.of h3),hx,ok.m20,(yi.fit g hg).ZV,λq4 d H4 s4 hq4 hdd=>?_⟩
  have fd:=WS (yi.fit g hg) hx ok.pos hdd
  have N4:=N3.mono s4
  have s14:=s2.trans (s3.trans s4)
  have s04:=s1.trans s14
  refine⟨_,rfl,_,rfl,RM.pU d,RM.pU (st.R g x),RM.pq hq4,RM.pq (s14.dB hq1),RM.pC _,RM.pC _,aZ (bM (aH (c9 _ _) (by rw[RM.Ao]; decide:(RM.pU d).depth<=64)) _) hr.units,?_⟩
  rw[RM.Gv fd.by1 (yi.fit g hg x hx).by1]
  refine⟨_,rfl,jS (λe=>?_) (λe=>?_)⟩
  ·have e':d=st.R g x:=of_decide_eq_true e
   have:=k d F H4 hdd fd (by unfold NP; rw[if_pos e']; exact N4.cQ) (Step.refl' s04)
   rw[decide_eq_true e'] at this
   exact this
  ·have e':¬ d=st.R g x:=λz=>e (decide_eq_true z)
   obtain⟨aaO,dx4,q4',Tn,O4,hF4,hT4⟩:=id N4.cQ
   have Ai:=O4.get .cQ _ rfl
   rw[Tn] at Ai
   have hrl:(q4'.rq g).length=ns.length:=by rw[(hT4.rows g hg).len]; simp[f9]
   obtain⟨F5,N5,Ol⟩:=W0 Tn O4 hF4 hT4 hg hx hq4
   refine⟨_,rfl,_,rfl,p,_,_,_,_,rfl,Ai,T.bD,T.j7,rfl,_,rfl,aaO .tW,_,_,_,rfl,rfl,bJ.of (O4.get .tW _ rfl),ly hg,_,rfl,aaO (.rows g),_,_,_,rfl,rfl,O4.get (.rows g) _ (if_pos hg),Cy (by rw[ah,hrl]; exact hx),?_⟩
   generalize upd H4 (aaO (.rows g)) (.lst (((q4'.rq g).map V.ref).set x (.ref q4)))=H5 at N5 Ol
   obtain⟨VS,dx5,q5,hp5,O5,hF5,hT5⟩:=id N5
   have YV:=O5.get .cQ _ rfl
   rw[hp5] at YV
   refine⟨_,rfl,p,_,_,rfl,YV,rfl,_,rfl,F5,p,tp,ns.length,g,_,rfl,N5,hg,λF6 H6 N6 st6=>?_⟩
   have:=k d F6 H6 hdd fd (by unfold NP; rw[if_neg e']; exact N6) ((Step.refl' s04).trans (Ol.trans st6))
   rw[decide_eq_false e'] at this
   exact this
noncomputable def nD(s:NS)(e:Int)(m:Nat):NS:=(aq m).foldl (λs g=>if lQ e g=true then KH s g else s) s
theorem yk{s:NS}{e:Int}{m:Nat}:nD s e (m + 1)=if lQ e m=true then KH (nD s e m) m else nD s e m:=by
 unfold nD
 rw[ju,List.foldl_append]
 rfl
inductive Fe(K:af)(CT:Addr)(c:NC)(vs:List V)(H:Hp)(Q:VK)(E:XK):Prop
 | mk (F:Addr->Prop) (p tp ln lr:Addr) (ns:List Int) (rs:List R5) (s:NS) (i:Nat) (r:R5):vs = [.ref p,.int i]->NW K c CT H F p tp ln lr ns rs s->fq ns rs->rs[i]?=some r->(∀ F' H',NW K c CT H' F' p tp ln lr ns rs (nD s r.e 3)->Step H F H' F'->Q .eU H')->Fe K CT c vs H Q E
theorem kL{t:Ad}(T:Txt K mg t):bV P w K mg base gO 3 t.dP t.fD ["self","rope"]  (Fe K t.aR (nc t)):=by
 refine T.ir.F.jo kj λH Q E hr h=>?_
 ·obtain⟨F,p,tp,ln,lr,ns,rs,st,i,r,rfl,N,tok,Ma,k⟩:=h
  have okr:=tok.ok r (aI Ma)
  refine⟨_,(aW (fS (eB rfl T.gI (fV (lS T.jQ (kN rfl T.j3 (v:=.ref t.dI) rfl)))) (gT 2 kj) (aW (cC (nL (cM (aO (pv 0) rfl) T.eG T.zE (Di T) hr (mH (pv 1) (pv 2)))) (oE (cM (pv 0) T.bD T.qi (wG T) hr (fV (pv 2)))) aX)))),?_⟩
  try dsimp only[aU]
  refine⟨_,_,rfl,.inr (T.e9 _),(3:Int),rfl,by lia,by lia,?_⟩
  refine nM (n:=3) (λg σ H2=>∃ (F2:Addr->Prop) (v2:Option V),NW K (nc t) t.aR H2 F2 p tp ln lr ns rs (nD st r.e g)/\Step H F H2 F2/\σ = [some (.ref p),some (.int i),v2]) ⟨F,_,N,Step.refl' (aC.refl _),rfl⟩ ?_ ?_
  ·rintro g σ H2 hg ⟨F2,v2,N2,st2,rfl⟩
   rw[dm]
   obtain⟨loc,dx,q,hp,O,hF,hT⟩:=id N2.cQ
   obtain⟨⟨dt,htp⟩,_⟩:=id N2.qQ
   have bQ:=O.get .cQ _ rfl
   rw[hp] at bQ
   obtain⟨z,hz⟩:=acv hg
   refine⟨_,rfl,p,_,_,_,_,rfl,bQ,T.bD,T.lI,rfl,tp,dt,_,rfl,htp,rfl,_,rfl,_,rfl,tp,ln,lr,ns,rs,i,r,g,z,rfl,N2.qQ,Ma,hz,_,rfl,?_⟩
   rw[MH okr.e1 okr.e7 hz]
   refine jS (λe=>?_) (λe=>?_)
   ·refine⟨_,rfl,p,_,_,rfl,bQ,rfl,_,rfl,F2,p,tp,ns.length,g,_,rfl,N2.cQ,hg,λF3 H3 N3 st3=>?_⟩
    refine⟨F3,_,?_,st2.trans st3,rfl⟩
    rw[yk,if_pos e]
    exact N2.done st3 N3
   ·refine⟨F2,_,?_,st2,rfl⟩
    rw[yk,if_neg e]
    exact N2
  ·rintro σ H2 ⟨F2,v2,N2,st2,rfl⟩
   exact k F2 H2 N2 st2
theorem vF{n:Nat}(h:n<=1000000):n < sizeLine:=aZ h (by show 1000000 < 2 ^ 24; decide)
theorem PZ{s:NS}{i B:Nat}{d:AL}(h:∀ l∈s.ls,l.aQ.length<=B):∀ l∈(c6 s i d).ls,l.aQ.length<=B + 1:=by
 intro l hl
 unfold c6 at hl
 cases e:s.ls[i]? with
 | none=>rw[e] at hl; exact jr (h l hl)
 | some l0 =>
  rw[e] at hl
  rcases oX hl with z | rfl
  ·exact jr (h l z)
  ·show (l0.aQ++[d]).length<=B + 1
   rw[av]
   exact jl (h l0 (aI e)) 1
theorem NT{s:NS}{i x B:Nat}(h:∀ l∈s.ls,l.aQ.length<=B):∀ m,m<=s.cps.length->∀ l∈(iQ s i x m).ls,l.aQ.length<=B + m
 | 0,_=>by rw[wV]; exact h
 | m + 1,hm=>by
  have ih:=NT (i:=i) (x:=x) h m (by lia)
  rw[wW (by lia)]
  unfold vM
  split
  ·exact PZ ih
  ·exact λl hl=>jr (ih l hl)
inductive Ra(K:af)(c:NC)(vs:List V)(H:Hp)(Q:VK)(E:XK):Prop
 | mk (F:Addr->Prop) (p tp:Addr) (n:Nat) (i x:Nat) (s:NS) (B:Nat):vs = [.ref p,.int i,.int x]->c5 K c H F p tp n s->(∀ cp∈s.cps,cp.l < s.ls.length)->(∀ l∈s.ls,l.aQ.length<=B)->B + s.cps.length<=1000000->(∀ F' H',c5 K c H' F' p tp n (CF s i x)->Step H F H' F'->Q .eU H')->Ra K c vs H Q E
theorem Cb{t:Ad}(T:Txt K mg t):bV P w K mg base gO 1 t.gG t.ji ["self","rope","wire"]  (Ra K (nc t)):=by
 refine T.um.F.jo lD λH Q E hr h=>?_
 ·obtain⟨F,p,tp,n,i,x,st,B,rfl,N,hc,hB,hBm,k⟩:=h
  refine⟨_,(ak (sS 3 lD (gx fK)) (ak (fS (fB (aO (pv 0) rfl)) (gT 4 lD) (aW (cC (qT uF (yQ K5 (pv 4) (tS aA) (tS aA)) (f6 (mH (pv 1) (pv 2)))) (oE (rR bf bq bh eS (aO (xL (aO (pv 0) rfl) (xT (pv 4) aA)) rfl) (fV (f6 (J2 pT (xT (pv 4) aA) (pv 1)))))) (oE (rR bf bq bh eS (pv 3) (fV (pv 4))))))) (aW (fj (pv 0) (pv 3) rfl)))),?_⟩
  try dsimp only[aU]
  refine b5 λNx c7=>?_
  refine⟨br _,λl hl=>c7 _ _ ?_⟩
  clear c7 Nx
  have u1:=aC.new (o:=.lst []) hl
  have h1:=ao (H:=H) (a:=l) (o:=.lst [])
  generalize upd H l (.lst [])=H1 at u1 h1
  have nF:¬ F l:=λz=>by
   obtain⟨o,e⟩:=N.there z
   rw[hl] at e
   cases e
  obtain⟨loc,dx,q,hp,O,hF,hT⟩:=id (N.mono u1)
  have X:jV K (nc t) H1 F loc dx q p tp n st:=⟨hp,O,hF,hT⟩
  have bQ:=O.get .cQ _ rfl
  rw[hp] at bQ
  have hco:=O.get .d8 _ rfl
  have hcl:q.cq.length=st.cps.length:=by
   have:=hT.cps.len
   rw[ah] at this
   exact this
  clear hp O hF hT
  refine b5 λNx c7=>?_
  refine⟨_,rfl,p,_,_,_,_,rfl,bQ,T.bD,T.iK,rfl,loc .d8,rfl,⟨_,bJ.of hco⟩,As (K:=K) (a:=loc .d8) (xs:=q.cq.map V.ref) (λj σ H2=>∃ (q2:TQ) (qs:List Addr) (v4:Option V),jV K (nc t) H2 F loc dx q2 p tp n (iQ st i x j)/\q2.cq=q.cq/\Step H F H2 F/\H2 l=some (.lst (qs.map V.ref))/\dR K H2 qs (((st.cps.take j).filter λc=>!Wf i x c).map Cp.vs)/\σ = [some (.ref p),some (.int i),some (.int x),some (.ref l),v4]) ⟨q,[],_,by rw[wV]; exact X,rfl,Step.refl' u1,h1,⟨rfl,λi q x e=>by cases e⟩,rfl⟩ (λj σ H2 _ z=>?_) ?_ ?_⟩
  ·obtain⟨q2,qs,v4,X2,eq,_⟩:=z
   have:=X2.own.get .d8 _ rfl
   refine bJ.of (this.trans ?_)
   rw[eq]
  ·rintro j y σ H2 Nf FY hj ⟨q2,qs,v4,X2,eq,st2,hl2,vE,rfl⟩
   have hjl:j < q.cq.length:=by
    have:=(ai.mp hj).1
    rw[ah] at this
    exact this
   have hjc:j < st.cps.length:=by lia
   rw[aj,aa hjl] at hj
   cases hj
   have htu:cH K H2 q.cq[j] (st.cps[j]).vs:=X2.tup.cps.at' j _ _ (by rw[eq]; exact aa hjl) (by rw[Sn,aj,aa hjc]; rfl)
   have hcm:=aL hjc
   rw[wW hjc] at FY
   have efs:=J1 (f:=λc:Cp=>!Wf i x c) hjc
   rw[efs] at FY
   generalize st.cps[j]=cp at htu hcm FY
   generalize q.cq[j]=a at htu
   have nw:¬ (HT.kP cp.vs.length 0 (some 1)=0/\HT.kP cp.vs.length cp.vs.length (some 3)=cp.vs.length):=λz=>absurd z.1 (by show HT.kP 4 0 (some 1)≠0; decide)
   refine⟨_,rfl,_,rfl,_,rfl,a,_,rfl,htu,nw,λz1 hz1=>?_⟩
   have ct:Ff cp.vs (some 1) (some 3) = [V.int cp.r,V.int cp.w]:=rfl
   rw[ct]
   have v1:=aC.new (o:=.tup [V.int cp.r,V.int cp.w]) hz1
   refine⟨_,rfl,_,rfl,(by show 2<=sizeLine; decide),λz2 hz2=>?_⟩
   have v2:=aC.new (o:=.tup [V.int i,V.int x]) hz2
   refine⟨.tuple (([(cp.r:Int),(cp.w:Int)]:List Int).map .int),.tuple (([(i:Int),(x:Int)]:List Int).map .int),Rep.Gn (ns:=[(cp.r:Int),(cp.w:Int)]) (cH.of (v2 _ _ ao)),Rep.Gn (ns:=[(i:Int),(x:Int)]) (cH.of ao),gU _,gU _,aZ (bM (aH (c9 _ _) (by show PyData.depthAll _ + 1<=64; rw[rF]; decide)) _) hr.units,_,rfl,?_⟩
   rw[QH]
   have Tq:=v1.trans v2
   have X4:=X2.mono Tq
   have Ou:=Tq _ _ hl2
   have Xx:=Tq.dB htu
   have Xy:=vE.mono λb x=>Tq.dB (a:=b) (xs:=x)
   have IL:=st2.trans (Step.refl' (F:=F) Tq)
   generalize upd (upd H2 z1 (.tup [V.int cp.r,V.int cp.w])) z2 (.tup [V.int i,V.int x])=H4 at X4 Ou Xx Xy IL
   clear Tq v1 v2 hz1 hz2 X2 hl2 htu vE st2
   refine jS (λe=>?_) (λe=>?_)
   ·have on:Wf i x cp=true:=by
     obtain⟨e1,e2⟩:=of_decide_eq_true e
     exact decide_eq_true ⟨by lia,by lia⟩
    have hcl:cp.l < (iQ st i x j).ls.length:=by rw[J0]; exact hc cp hcm
    have hli:(iQ st i x j).ls[cp.l]?=some (iQ st i x j).ls[cp.l]:=aa hcl
    have hdl:((iQ st i x j).ls[cp.l]).aQ.length<=B + j:=NT hB j (by lia) _ (aL hcl)
    have Ai:=X4.own.get .cQ _ rfl
    rw[X4.hp] at Ai
    have agT:=X4.own.get .cE _ rfl
    have agU:=X4.own.get (.bS cp.l) (mG (nc t) dx loc cp.l _) (by show ((iQ st i x j).ls[cp.l]?.map _)=_; rw[hli]; rfl)
    have adz:=X4.own.get (.aQ cp.l) (.lst ((q2.dq cp.l).map V.ref)) (by show ((iQ st i x j).ls[cp.l]?.map _)=_; rw[hli]; rfl)
    have Mc:=(X4.tup.aQ cp.l _ hli).len
    rw[ah] at Mc
    unfold vM at FY
    rw[if_pos on,fR hli,on] at FY
    refine⟨_,rfl,p,_,_,_,_,rfl,Ai,T.bD,T.eZ,rfl,_,rfl,a,_,0,_,rfl,rfl,Xx,rfl,loc .cE,_,_,_,rfl,rfl,bJ.of agT,ly hcl,loc (.bS cp.l),_,_,_,_,rfl,agU,T.cU,T.iu,rfl,.inl ⟨rfl,_,bJ.of adz⟩,_,rfl,a,_,3,_,rfl,rfl,Xx,rfl,_,rfl,(by show 3<=sizeLine; decide),λz3 hz3=>?_⟩
    have v3:=aC.new (o:=.tup [V.str "lost",V.int cp.h,V.int i]) hz3
    have X5:=X4.mono v3
    refine⟨loc (.aQ cp.l),_,_,rfl,rfl,v3 _ _ adz,vF (by rw[ah,Mc]; lia),?_⟩
    obtain⟨X6,st6⟩:=za X5 hli (d:=.UZ cp.h i) (cH.of ao)
    refine FY _ _ ⟨_,qs,_,X6,eq,(IL.trans (Step.refl' (F:=F) v3)).trans st6,st6.kp _ _ (v3 _ _ Ou) nF,?_,rfl⟩
    rw[if_neg (by decide),gQ]
    exact (Xy.mono λb x=>v3.dB (a:=b) (xs:=x)).mono λb x=>X5.cQ.tup st6.kp
   ·have on:Wf i x cp=false:=decide_eq_false λz=>e (decide_eq_true ⟨by lia,by lia⟩)
    unfold vM at FY
    rw[on,if_neg (by decide)] at FY
    have hql:qs.length<=j:=by
     rw[Xy.len,ah]
     refine aH (bB _ _) ?_
     rw[bO]
     exact c9 _ _
    refine⟨_,rfl,.inl ⟨rfl,_,bJ.of Ou⟩,_,rfl,l,_,_,rfl,rfl,Ou,vF (by rw[ah]; lia),?_⟩
    have kp5:=bZ (H:=H4) (z:=l) (o:=.lst (qs.map V.ref++[.ref a]))
    have X5:=X4.past Ou jE nF kp5
    refine FY _ _ ⟨q2,qs++[a],_,X5,eq,⟨λb o e z=>kp5 _ _ (IL.kp b o e z) (aF e hl),IL.fr⟩,by rw[ao,aT]; rfl,?_,rfl⟩
    rw[if_pos (by decide),aT]
    exact (Xy.snoc Xx).mono λb x=>cH.past Ou jE kp5
  ·rintro σ H2 ⟨q2,qs,v4,X2,eq,st2,hl2,vE,rfl⟩
   refine c7 _ _ ?_
   clear c7 Nx
   rw[ah,hcl] at X2 vE
   rw[kh] at vE
   obtain⟨F',N',kp,hpF,fr⟩:=Pg X2.hp X2.own X2.fp X2.tup hl2 nF vE
   have Dl:=X2.own.get .cQ _ rfl
   rw[X2.hp] at Dl
   refine⟨_,rfl,_,rfl,p,_,_,_,rfl,Dl,T.bD,T.iK,(by show 9 < 1000; decide),?_⟩
   refine k F' _ N' ⟨λb o e z=>kp _ _ (st2.kp _ _ e z) (λy=>z (y ▸ hpF)),λb z=>?_⟩
   rcases fr b z with y | rfl
   ·exact .inl y
   ·exact .inr hl
noncomputable def Il(s:NS)(i x:Nat)(w:List Nat)(e:Int):NS :=
 if (w.filter λz=>decide (z≠x)).isEmpty=true then nD (CF { s with ws:=s.ws.set i (w.filter λz=>decide (z≠x)) } i x) e 3 else CF { s with ws:=s.ws.set i (w.filter λz=>decide (z≠x)) } i x
inductive NU(K:af)(CT:Addr)(c:NC)(vs:List V)(H:Hp)(Q:VK)(E:XK):Prop
 | mk (F:Addr->Prop) (p tp ln lr:Addr) (ns:List Int) (rs:List R5) (s:NS) (i x:Nat) (w:List Nat) (r:R5) (B:Nat):vs = [.ref p,.int i,.int x]->NW K c CT H F p tp ln lr ns rs s->fq ns rs->y9 ns rs s->(∀ cp∈s.cps,cp.l < s.ls.length)->(∀ l∈s.ls,l.aQ.length<=B)->B + s.cps.length<=1000000->s.ws[i]?=some w->rs[i]?=some r->x∈w->(∀ F' H',NW K c CT H' F' p tp ln lr ns rs (Il s i x w r.e)->Step H F H' F'->Q (.bl (w.filter λz=>decide (z≠x)).isEmpty) H')->NU K CT c vs H Q E
theorem NV{t:Ad}(T:Txt K mg t):bV P w K mg base gO 4 t.sE t.xA ["self","rope","wire"]  (NU K t.aR (nc t)):=by
 refine T.G7.F.jo EO λH Q E hr h=>?_
 ·obtain⟨F,p,tp,ln,lr,ns,rs,st,i,x,w',r,B,rfl,N,tok,yi,hc,hB,hBm,hwi,Ma,hxw,k⟩:=h
  refine⟨_,(ak (sS 3 EO (qL (aO (pv 0) rfl) T.c8 T.sI.m (FD T) (hr.mono (by decide)) T.sI.B .nil JR (mH (pv 1) (pv 2)))) (ak (dY (cM (pv 0) T.bD T.um (Cb T) hr (mH (pv 1) (pv 2)))) (ak (cC (nL (pv 3)) (oE (cM (pv 0) T.bD T.ir (kL T) hr (fV (pv 1)))) aX) (oR (pv 3))))),?_⟩
  try dsimp only[aU]
  obtain⟨loc,dx,q,hp,O,hF,hT⟩:=id N.cQ
  have bQ:=O.get .cQ _ rfl
  rw[hp] at bQ
  have hil:=(ai.mp hwi).1
  have Dy:i < rs.length:=by rw[<- yi.wl]; exact hil
  refine⟨_,rfl,p,_,_,_,_,rfl,bQ,T.bD,T.kK,rfl,loc .cy,dx .cy,_,rfl,O.get .cy _ rfl,rfl,_,rfl,_,rfl,loc .cy,tp,loc .cP,ln,lr,ns,rs,st.ws,i,x,rfl,N.qQ,O.strAt,yi.wl,yi.w4,λj kk w2 ls a H1 ej ek hj hk Oq ha h1a h1u kp=>?_,λz=>absurd ⟨by lia,by lia⟩ z,λj w2 H1 ej hj hk _=>?_⟩
  case refine_2 =>
   have:j=i:=by lia
   subst this
   rw[hwi] at hj
   cases hj
   exact absurd rfl (hk x hxw)
  have:j=i:=by lia
  subst this
  have:kk=x:=by lia
  subst this
  rw[hwi] at hj
  cases hj
  obtain⟨F1,N1,st1⟩:=MN hp O hF hT hil Oq ha h1a h1u kp
  have NW1:=N.done st1 N1
  obtain⟨agZ,dx1,q1,hp1,O1,hF1,hT1⟩:=id N1
  have iA:=O1.get .cQ _ rfl
  rw[hp1] at iA
  dsimp only[gM]
  refine⟨_,rfl,p,_,_,rfl,iA,rfl,_,rfl,_,rfl,F1,p,tp,ns.length,j,kk,_,B,rfl,N1,hc,hB,hBm,λF2 H2 N2 st2=>?_⟩
  have NW2:=NW1.done st2 N2
  unfold Il at k
  generalize (w'.filter λz=>decide (z≠kk)).isEmpty=eb at k
  obtain⟨ak7,Xw,q2,hp2,O2,hF2,hT2⟩:=id N2
  have Dl:=O2.get .cQ _ rfl
  rw[hp2] at Dl
  try dsimp only
  refine ou (λσ H3=>∃ F3:Addr->Prop,NW K (nc t) t.aR H3 F3 p tp ln lr ns rs (if eb=true then nD (CF { st with ws:=st.ws.set j (w'.filter λz=>decide (z≠kk)) } j kk) r.e 3 else CF { st with ws:=st.ws.set j (w'.filter λz=>decide (z≠kk)) } j kk)/\Step H F H3 F3/\σ = [some (.ref p),some (.int j),some (.int kk),some (.bl eb)]) ?_ λN' nx=>?_
  case refine_2 =>
   refine⟨_,rfl,_,rfl,jS (λe=>?_) (λe=>?_)⟩
   ·rw[if_pos e] at nx
    refine⟨_,rfl,p,_,_,rfl,Dl,rfl,_,rfl,F2,p,tp,ln,lr,ns,rs,_,j,r,rfl,NW2,tok,Ma,λF3 H3 N3 st3=>?_⟩
    exact nx _ _ ⟨F3,N3,st1.trans (st2.trans st3),rfl⟩
   ·rw[if_neg e] at nx
    exact nx _ _ ⟨F2,NW2,st1.trans st2,rfl⟩
  rintro σ H3 ⟨F3,N3,st3,rfl⟩
  exact⟨_,rfl,k F3 H3 N3 st3⟩
inductive VU(K:af)(CT C NW:Addr)(vs:List V)(H:Hp)(Q:VK)(E:XK):Prop
 | mk (p tp lu ln lr:Addr) (ns:List Int) (rs:List R5) (ws:List (List Nat)) (i x:Int):vs = [.ref p,.int i,.int x]->cN K CT H tp ln lr ns rs->tU C H p tp lu ws->ws.length=rs.length->(∀ w∈ws,w.length<=4)->(∀ (j k:Nat) w w' r (ls:List Addr) (q:Addr) H',i=(j:Int)->x=(k:Int)->ws[j]?=some w->rs[j]?=some r->x < r.d->k ∉ w->w'.Perm (w++[k])->w'.Pairwise (·<=·)->H lu=some (.lst (ls.map V.ref))->H q=none->H' q=some (.lst (aV w'))->H' lu=some (.lst ((ls.map V.ref).set j (.ref q)))->(∀ b o,H b=some o->b≠lu->H' b=some o)->Q (.bl w.isEmpty) H')->(¬ (0<=i/\i < rs.length)->E (.ref NW) none H)->(∀ (j:Nat) w r H',i=(j:Int)->ws[j]?=some w->rs[j]?=some r->¬ (0<=x/\x < r.d)∨(∃ k∈w,x=(k:Nat))->aC H H'->E (.ref NW) none H')->VU K CT C NW vs H Q E
theorem Im{t:Ad}(T:Txt K mg t):bV P w K mg base (Du P w) 3 t.kG t.oM ["self","rope","wire"]  (VU K t.aR t.cz t.we):=by
 refine T.uX.F.So zo λH Q E hr h=>?_
 ·obtain⟨p,tp,lu,ln,lr,ns,rs,ws,i,x,rfl,hT,hW,ew,h4,k,kx,ky⟩:=h
  obtain⟨⟨dx,hp⟩,ls,Oq,els,hls⟩:=id hW
  refine⟨_,(ak (sS 3 zo (qL (pv 0) T.c8 T.dM.m (kg T) (hr.mono (by decide)) T.dM.B .nil Qy (fV (pv 1)))) (ak (cC (PW.pt (Qa (jx (jy qG tR aA (pv 2) (cG (E9 T) hr T.BE (mH (aO (pv 0) rfl) (pv 1))))) (KW (jf lP (pv 2) (pv 3) (by with_unfolding_all rfl))))) (aW (Cw rfl T.Hi T.Hj hr.hd pT)) aX) (ak (Gd (cB yZ T.Ho boot_sorted (fV (aS ZF (pv 3) (gx (fV (pv 2)))))) (KY (aO (pv 0) rfl) (pv 1) set_list)) (oR (qE uF (pv 3) (gx fK)))))),?_⟩
  try dsimp only[aU]
  refine⟨_,rfl,p,dx,_,rfl,hp,rfl,_,rfl,p,tp,lu,ln,lr,ns,rs,ws,i,rfl,hT,hW,ew,λj w' l H1 ej hj s1 Mx hl=>?_,kx⟩
  subst ej
  have hjl:=(ai.mp hj).1
  have w4:=h4 _ (aI hj)
  have Xz:rs[j]?=some rs[j]:=aa (by lia)
  have hp1:=s1 _ _ hp
  have hT1:=hT.mono s1
  refine⟨_,rfl,_,_,rfl,rfl,_,rfl,?_⟩
  by_cases h0:0<=x
  case neg =>
   rw[decide_eq_false h0]
   exact fk ⟨_,rfl,eW (eW (ky j w' _ H1 rfl hj Xz (.inl λz=>h0 z.1) s1))⟩
  rw[decide_eq_true h0]
  refine eW ?_
  refine⟨_,rfl,p,_,dx,_,_,rfl,hp1,T.c8,T.jP,rfl,_,rfl,tp,ln,lr,ns,rs,j,rs[j],rfl,hT1,Xz,_,_,rfl,rfl,_,rfl,?_⟩
  by_cases h1:x < rs[j].d
  case neg =>
   rw[decide_eq_false h1]
   exact eW (eW (ky j w' _ H1 rfl hj Xz (.inl λz=>h1 z.2) s1))
  rw[decide_eq_true h1]
  refine fk ?_
  obtain⟨kk,rfl⟩ : ∃ kk:Nat,x=(kk:Int):=⟨x.toNat,by lia⟩
  refine⟨_,rfl,_,rfl,l,_,rfl,.inl (bJ.of hl),rfl,jU w',_,rfl,?_⟩
  try dsimp only
  rw[if_neg aB,rT]
  by_cases hc:kk∈w'
  case pos =>
   rw[decide_eq_true hc]
   exact eW (ky j w' _ H1 rfl hj Xz (.inr ⟨kk,hc,rfl⟩) s1)
  rw[decide_eq_false hc]
  refine fk ?_
  refine⟨_,rfl,_,rfl,(by show 1<=sizeLine; decide),λq hq=>?_⟩
  have s2:=aC.new (o:=.lst [.int (kk:Nat)]) hq
  refine⟨l,q,_,_,rfl,rfl,s2 _ _ hl,ao,?_,λl3 h3=>?_⟩
  ·rw[ah]
   exact iL (bW (by show w'.length + 1<=1000; lia))
  have s3:=s2.trans (aC.new (o:=.lst (aV w'++[.int (kk:Nat)])) h3)
  have hl3:(upd (upd H1 q (.lst [.int (kk:Nat)])) l3 (.lst (aV w'++[.int (kk:Nat)]))) l3=some (.lst (((w'++[kk]).map λk:Nat=>(k:Int)).map V.int)):=by rw[ao,<- gK,d7]
  generalize upd (upd H1 q (.lst [.int (kk:Nat)])) l3 (.lst (aV w'++[.int (kk:Nat)]))=H3 at s3 hl3
  refine⟨l3,_,rfl,bJ.of hl3,(by rw[ah,av]; show w'.length + 1 < 64; lia),λl4 xs Ou adA adB=>?_⟩
  obtain⟨zs,rfl,hz1,hz2⟩:=Lg adA adB
  have s4:=s3.trans (aC.new (o:=.lst ((zs.map λk:Nat=>(k:Int)).map V.int)) Ou)
  have YQ:(upd H3 l4 (.lst ((zs.map λk:Nat=>(k:Int)).map V.int))) l4=some (.lst (aV zs)):=by rw[ao,d7]
  generalize upd H3 l4 (.lst ((zs.map λk:Nat=>(k:Int)).map V.int))=H4 at s4 YQ
  have s14:=s1.trans s4
  have hu4:=s14 _ _ Oq
  have Tn:=s14 _ _ hp
  have Tp:j < ls.length:=by lia
  refine⟨_,rfl,p,_,dx,_,_,rfl,Tn,T.c8,T.fF,rfl,_,rfl,lu,_,_,j,rfl,rfl,hu4,(by rw[ah]; exact Cy Tp),?_⟩
  generalize eH5:upd H4 lu (.lst ((ls.map V.ref).set j (.ref l4)))=H5
  have k5:∀ b o,H4 b=some o->b≠lu->H5 b=some o:=λb o e nb=>by rw[<- eH5,aD nb]; exact e
  have hu5:H5 lu=some (.lst ((ls.map V.ref).set j (.ref l4))):=by rw[<- eH5]; exact ao
  have Ot:H5 l4=some (.lst (aV zs)):=k5 _ _ YQ (lZ YQ hu4 λz=>vJ (aa Tp) (HO.lst.inj z))
  have hl6:H5 l=some (.lst (aV w')):=k5 _ _ (s4 _ _ hl) (lZ (s4 _ _ hl) hu4 λz=>vJ (aa Tp) (HO.lst.inj z))
  refine⟨_,rfl,br _,λq2 hq2=>?_⟩
  have s6:=aC.new (o:=.lst []) hq2
  refine⟨.list ((w'.map λk:Nat=>(k:Int)).map .int),.list [],⟨l,_,rfl,bJ.of (s6 _ _ hl6),(by rw[d7]; exact jC _)⟩,⟨q2,_,rfl,bJ.of ao,rfl⟩,gU _,rfl,aZ (bM (aH (Nat.min_le_right _ _) (by decide)) _) hr.units,?_⟩
  have z:=k j kk w' zs rs[j] ls l4 _ rfl rfl hj Xz h1 hc hz1 hz2 Oq ((s1.trans s3).free Ou) (s6 _ _ Ot) (s6 _ _ hu5) (λb o e nb=>s6 _ _ (k5 _ _ (s14 _ _ e) nb))
  cases w' with
  | nil=>exact z
  | cons a r=>exact z
noncomputable def P0(s:NS)(i:Nat)(w w2:List Nat)(e:Int):NS :=
 if w.isEmpty=true then nD { s with ws:=s.ws.set i w2 } e 3 else { s with ws:=s.ws.set i w2 }
inductive Rb(K:af)(CT:Addr)(c:NC)(vs:List V)(H:Hp)(Q:VK)(E:XK):Prop
 | mk (F:Addr->Prop) (p tp ln lr:Addr) (ns:List Int) (rs:List R5) (s:NS) (i x:Nat) (w:List Nat) (r:R5):vs = [.ref p,.int i,.int x]->NW K c CT H F p tp ln lr ns rs s->fq ns rs->y9 ns rs s->s.ws[i]?=some w->rs[i]?=some r->(x:Int) < r.d->x ∉ w->(∀ w2 F' H',w2.Perm (w++[x])->w2.Pairwise (·<=·)->NW K c CT H' F' p tp ln lr ns rs (P0 s i w w2 r.e)->Step H F H' F'->Q (.bl w.isEmpty) H')->Rb K CT c vs H Q E
theorem P1{t:Ad}(T:Txt K mg t):bV P w K mg base gO 4 t.vW t.AA ["self","rope","wire"]  (Rb K t.aR (nc t)):=by
 refine T.Ka.F.jo G3 λH Q E hr h=>?_
 ·obtain⟨F,p,tp,ln,lr,ns,rs,st,i,x,w',r,rfl,N,tok,yi,hwi,Ma,hxd,hxw,k⟩:=h
  refine⟨_,(ak (sS 3 G3 (qL (aO (pv 0) rfl) T.c8 T.uX.m (Im T) (hr.mono (by decide)) T.uX.B .nil JR (mH (pv 1) (pv 2)))) (ak (cC (nL (pv 3)) (oE (cM (pv 0) T.bD T.ir (kL T) hr (fV (pv 1)))) aX) (oR (pv 3)))),?_⟩
  try dsimp only[aU]
  obtain⟨loc,dx,q,hp,O,hF,hT⟩:=id N.cQ
  have bQ:=O.get .cQ _ rfl
  rw[hp] at bQ
  have hil:=(ai.mp hwi).1
  have Dy:i < rs.length:=by rw[<- yi.wl]; exact hil
  refine⟨_,rfl,p,_,_,_,_,rfl,bQ,T.bD,T.kK,rfl,loc .cy,dx .cy,_,rfl,O.get .cy _ rfl,rfl,_,rfl,_,rfl,loc .cy,tp,loc .cP,ln,lr,ns,rs,st.ws,i,x,rfl,N.qQ,O.strAt,yi.wl,yi.w4,λj kk w1 w2 r2 ls a H1 ej ek hj Xz hkd hk hpm hpw Oq ha h1a h1u kp=>?_,λz=>absurd ⟨by lia,by lia⟩ z,λj w2 r2 H1 ej hj Xz hz _=>?_⟩
  case refine_2 =>
   have:j=i:=by lia
   subst this
   rw[hwi] at hj
   cases hj
   rw[Ma] at Xz
   cases Xz
   rcases hz with z | ⟨y,hy,e⟩
   ·exact absurd ⟨by lia,hxd⟩ z
   ·have:y=x:=by lia
    subst this
    exact absurd hy hxw
  have:j=i:=by lia
  subst this
  have:kk=x:=by lia
  subst this
  rw[hwi] at hj
  cases hj
  obtain⟨F1,N1,st1⟩:=MN hp O hF hT hil Oq ha h1a h1u kp
  have NW1:=N.done st1 N1
  obtain⟨agZ,dx1,q1,hp1,O1,hF1,hT1⟩:=id N1
  have iA:=O1.get .cQ _ rfl
  rw[hp1] at iA
  dsimp only[gM]
  have k:=k w2
  unfold P0 at k
  generalize w'.isEmpty=eb at k
  refine ou (λσ H3=>∃ F3:Addr->Prop,NW K (nc t) t.aR H3 F3 p tp ln lr ns rs (if eb=true then nD { st with ws:=st.ws.set j w2 } r.e 3 else { st with ws:=st.ws.set j w2 })/\Step H F H3 F3/\σ = [some (.ref p),some (.int j),some (.int kk),some (.bl eb)]) ?_ λN' nx=>?_
  case refine_2 =>
   refine⟨_,rfl,_,rfl,jS (λe=>?_) (λe=>?_)⟩
   ·rw[if_pos e] at nx
    refine⟨_,rfl,p,_,_,rfl,iA,rfl,_,rfl,F1,p,tp,ln,lr,ns,rs,_,j,r,rfl,NW1,tok,Ma,λF3 H3 N3 st3=>?_⟩
    exact nx _ _ ⟨F3,N3,st1.trans st3,rfl⟩
   ·rw[if_neg e] at nx
    exact nx _ _ ⟨F1,NW1,st1,rfl⟩
  rintro σ H3 ⟨F3,N3,st3,rfl⟩
  exact⟨_,rfl,k F3 H3 hpm hpw N3 st3⟩
inductive Rc(K:af)(c:NC)(vs:List V)(H:Hp)(Q:VK)(E:XK):Prop
 | mk (F:Addr->Prop) (p tp:Addr) (n x:Nat) (to:Option Nat) (s:NS):vs = [.ref p,.int x,Fi (to.map λy:Nat=>(y:Int))]->c5 K c H F p tp n s->x < s.bg.length->s.groups.length=s.bg.length->(∀ y,to=some y->y < s.bg.length/\s.groups[y]?=s.groups[x]?)->Q .eU H->Rc K c vs H Q E
theorem Dm{t:Ad}(T:Txt K mg t):bV P w K mg base gO 2 t.ie t.jZ ["self","sender","to"]  (Rc K (nc t)):=by
 refine T.wk.F.jo CI λH Q E hr h=>?_
 ·obtain⟨F,p,tp,n,x,to,st,rfl,N,hx,hgl,hto,k⟩:=h
  refine⟨_,(ak (dY (cM (pv 0) T.bD T.lH (qJ T) hr (fV (pv 1)))) (aW (cC (qT K0 (pv 2) nK) (ak (dY (cM (pv 0) T.bD T.lH (qJ T) hr (fV (pv 2)))) (aW (cC (qT yP (xL (aO (pv 0) rfl) (pv 1)) (xL (aO (pv 0) rfl) (pv 2))) dN aX))) aX))),?_⟩
  try dsimp only[aU]
  obtain⟨loc,dx,q,hp,O,hF,hT⟩:=id N
  have bQ:=O.get .cQ _ rfl
  rw[hp] at bQ
  refine⟨_,rfl,p,_,_,rfl,bQ,rfl,_,rfl,F,p,tp,n,x,st,rfl,N,hx,?_⟩
  cases to with
  | none=>exact⟨_,rfl,rfl,_,rfl,fk k⟩
  | some y =>
   obtain⟨hy,eg⟩:=hto y rfl
   refine⟨_,rfl,rfl,_,rfl,eW ?_⟩
   refine⟨_,rfl,p,_,_,rfl,bQ,rfl,_,rfl,F,p,tp,n,y,st,rfl,N,hy,?_⟩
   have hgr:=bJ.of (K:=K) (O.get .groups _ rfl)
   have hxg:x < st.groups.length:=by lia
   have hyg:y < st.groups.length:=by lia
   have e:st.groups[y]=st.groups[x]:=by
    rw[aa hyg,aa hxg] at eg
    exact aP eg
   refine⟨_,rfl,p,_,_,_,_,rfl,bQ,T.bD,T.nv,rfl,_,rfl,loc .groups,_,_,_,rfl,rfl,hgr,vL hxg,_,rfl,p,_,_,_,_,rfl,bQ,T.bD,T.nv,rfl,_,rfl,loc .groups,_,_,_,rfl,rfl,hgr,vL hyg,rfl,_,rfl,?_⟩
   rw[e,decide_eq_true rfl]
   exact fk k
noncomputable def Io(s:NS)(h g x:Nat):Bool:=decide (s.bg[x]?=some h/\s.groups[x]?=some g)
noncomputable def yE(s:NS)(h g:Nat):List Nat:=(aq s.bg.length).filter (Io s h g)
theorem Ip{f:Nat->Bool}{i:Nat}:(aq (i + 1)).filter f=(aq i).filter f++if f i=true then [i] else []:=by
 rw[ju,iN]
 congr 1
 cases e:f i
 ·rw[if_neg (by decide),rN (by rw[e]; decide)]; rfl
 ·rw[if_pos rfl,rM e]; rfl
inductive Rf(K:af)(c:NC)(vs:List V)(H:Hp)(Q:VK)(E:XK):Prop
 | mk (F:Addr->Prop) (p tp:Addr) (n h g:Nat) (s:NS):vs = [.ref p,.int h,.int g]->c5 K c H F p tp n s->s.groups.length=s.bg.length->s.bg.length<=20->(∀ l H',aC H H'->H l=none->H' l=some (.lst (aV (yE s h g)))->Q (.ref l) H')->Rf K c vs H Q E
theorem Dp{t:Ad}(T:Txt K mg t):bV P w K mg base gO 1 t.ic t.jY ["self","house","group"]  (Rf K (nc t)):=by
 refine T.wj.F.jo mO λH Q E hr h=>?_
 ·obtain⟨F,p,tp,n,hh,g,st,rfl,N,hgl,yJ,k⟩:=h
  refine⟨_,(ak (sS 3 mO (f6 (mH (pv 1) (pv 2)))) (oR (gu (kO mO ["caller","self","there"] [none,some 0,some 3]) rfl (eB rfl T.gI (fV (lS T.jQ (aO (pv 0) rfl)))) (λ_ _ _ _=>by exact (gS 0 zq)) (λ_ _ _ _=>by exact (qM (qT (WK K rfl hr.units) (f6 (mH (yL K (FO K rfl (pv 1) rfl) (pv 0)) (yL K (FO K rfl (pv 1) rfl) (pv 0)))) (pv 2)))) (λ_ _ _ _=>by exact (pv 0))))),?_⟩
  try dsimp only[aU]
  refine⟨_,rfl,_,rfl,(by show 2<=sizeLine; decide),λz0 hz0=>?_⟩
  have u1:=aC.new (o:=.tup [V.int hh,V.int g]) hz0
  have hz:=ao (H:=H) (a:=z0) (o:=.tup [V.int hh,V.int g])
  generalize upd H z0 (.tup [V.int hh,V.int g])=H1 at u1 hz
  obtain⟨loc,dx,q,hp,O,hF,hT⟩:=N.mono u1
  have bQ:=O.get .cQ _ rfl
  rw[hp] at bQ
  have hho:=bJ.of (K:=K) (O.get .bg _ rfl)
  have hgr:=bJ.of (K:=K) (O.get .groups _ rfl)
  clear hp O hF hT
  refine⟨_,rfl,p,_,_,_,_,rfl,bQ,T.bD,T.pO,rfl,loc .bg,_,rfl,.inl hho,(((aV st.bg).length:Nat):Int),rfl,by lia,by rw[ah]; lia,λacc hacc=>?_⟩
  rw[ah]
  refine fQ (n:=((st.bg.length:Int)).toNat) (λi ys _=>ys=aV ((aq i).filter (Io st hh g))) hacc yW pe rfl ?_ ?_
  ·rintro i ys H3 hi s3 hy rfl y H4 ⟨rfl,rfl⟩
   rw[dm]
   have hix:i < st.bg.length:=by lia
   have hig:i < st.groups.length:=by lia
   have Dq:=s3 _ _ bQ
   refine⟨_,rfl,p,_,_,_,_,rfl,Dq,T.bD,T.pO,rfl,_,rfl,loc .bg,_,_,_,rfl,rfl,s3.seq hho,vL hix,_,rfl,p,_,_,_,_,rfl,Dq,T.bD,T.nv,rfl,_,rfl,loc .groups,_,_,_,rfl,rfl,s3.seq hgr,vL hig,(by show 2<=sizeLine; decide),λz1 hz1=>?_⟩
   have u2:=aC.new (o:=.tup [V.int (st.bg[i]:Nat),V.int (st.groups[i]:Nat)]) hz1
   have s4:=s3.trans u2
   have VI:=u2 _ _ hy
   refine⟨_,rfl,.tuple (([(st.bg[i]:Int),(st.groups[i]:Int)]:List Int).map .int),.tuple (([(hh:Int),(g:Int)]:List Int).map .int),Rep.Gn (ns:=[(st.bg[i]:Int),(st.groups[i]:Int)]) (cH.of ao),Rep.Gn (ns:=[(hh:Int),(g:Int)]) (cH.of (s4 _ _ hz)),gU _,gU _,(by show PyData.depthAll _ + 1<=64; rw[rF]; decide),_,rfl,?_⟩
   try dsimp only
   have ei:Io st hh g i=decide ((st.bg[i]:Int)=(hh:Int)/\(st.groups[i]:Int)=(g:Int)):=by
    unfold Io
    rw[aa hix,aa hig,decide_eq_decide]
    constructor
    ·rintro⟨e1,e2⟩
     exact⟨by rw[aP e1],by rw[aP e2]⟩
    ·rintro⟨e1,e2⟩
     exact⟨congrArg some (by lia),congrArg some (by lia)⟩
   rw[QH,<- ei]
   refine jS (λhc=>?_) (λhc=>?_)
   ·refine⟨_,rfl,?_⟩
    refine dZ hacc hi s4 VI ?_ ?_
    ·rw[ah]
     refine bW (aH (bB _ _) ?_)
     rw[bH]; lia
    ·rw[Ip,if_pos hc,gK]
   ·refine i0 hi s4 VI ?_
    rw[Ip,if_neg hc,gQ]
  ·rintro ys H3 s3 hy rfl
   have Wh:=u1.trans s3
   exact k acc H3 Wh (u1.free hacc) hy
inductive KI(K:af)(CT C NW:Addr)(vs:List V)(H:Hp)(Q:VK)(E:XK):Prop
 | mk (p tp lu ln lr:Addr) (ns:List Int) (rs:List R5) (ws:List (List Nat)) (i x:Int):vs = [.ref p,.int i,.int x]->cN K CT H tp ln lr ns rs->tU C H p tp lu ws->ws.length=rs.length->(∀ (j:Nat) w H',i=(j:Int)->ws[j]?=some w->aC H H'->(w = []->Q .eU H')/\(∀ k:Nat,w[(x % (w.length:Int)).toNat]?=some k->w≠[]->Q (.int (k:Nat)) H'))->(¬ (0<=i/\i < rs.length)->E (.ref NW) none H)->KI K CT C NW vs H Q E
theorem AQ{t:Ad}(T:Txt K mg t):bV P w K mg base (Du P w) 2 t.gn t.iG ["self","rope","number"]  (KI K t.aR t.cz t.we):=by
 refine T.lF.F.So qI λH Q E hr h=>?_
 ·obtain⟨p,tp,lu,ln,lr,ns,rs,ws,i,x,rfl,hT,hW,ew,k,kx⟩:=h
  obtain⟨⟨dx,hp⟩,_⟩:=id hW
  refine⟨_,(ak (sS 3 qI (qL (pv 0) T.c8 T.dM.m (kg T) (hr.mono (by decide)) T.dM.B .nil Qy (fV (pv 1)))) (ak (cC (qT uF (pv 3) (gx fK)) (oR nK) aX) (oR (xL (pv 3) (aS dQ (pv 2) (lS T.jQ (pv 3))))))),?_⟩
  try dsimp only[aU]
  refine⟨_,rfl,p,dx,_,rfl,hp,rfl,_,rfl,p,tp,lu,ln,lr,ns,rs,ws,i,rfl,hT,hW,ew,λj w' l H1 ej hj s1 Mx hl=>?_,kx⟩
  refine⟨_,rfl,br _,λq hq=>?_⟩
  have s2:=aC.new (o:=.lst []) hq
  have hl2:=s2 _ _ hl
  refine⟨.list ((w'.map λk:Nat=>(k:Int)).map .int),.list [],⟨l,_,rfl,bJ.of hl2,(by rw[d7]; exact jC _)⟩,⟨q,_,rfl,bJ.of ao,rfl⟩,gU _,rfl,aZ (bM (aH (Nat.min_le_right _ _) (by decide)) _) hr.units,_,rfl,?_⟩
  obtain⟨k1,k2⟩:=k j w' _ ej hj (s1.trans s2)
  cases w' with
  | nil=>exact eW (k1 rfl)
  | cons y ys =>
   refine fk ?_
   have hpos:(0:Int) < (((y :: ys).length:Nat):Int):=by rw[bE]; lia
   have hm0:=bN x (show (((y :: ys).length:Nat):Int)≠0 by lia)
   have hm1:=bR x hpos
   have hlt:(x % (((y :: ys).length:Nat):Int)).toNat < (y :: ys).length:=by lia
   refine⟨_,rfl,_,rfl,_,rfl,l,_,rfl,.inl (bJ.of hl2),_,_,rfl,(by rw[ah]),hpos,?_⟩
   obtain⟨z,hz⟩ : ∃ z,(y :: ys)[(x % (((y :: ys).length:Nat):Int)).toNat]?=some z:=⟨_,aa hlt⟩
   refine⟨l,_,_,V.int (z:Nat),rfl,rfl,bJ.of hl2,?_,k2 z hz (by intro z; cases z)⟩
   rw[show x % (((y :: ys).length:Nat):Int)=(((x % (((y :: ys).length:Nat):Int)).toNat:Nat):Int) by lia]
   exact dG (by rw[aj,hz]; rfl)
noncomputable def Iq(l:LS)(h:Nat):Bool:=(Cs (l.done.map λh:Nat=>((fW (h:Int):Key),V.bl true)) (fW (h:Int))).isSome
inductive Rg(K:af)(CT:Addr)(c:NC)(vs:List V)(H:Hp)(Q:VK)(E:XK):Prop
 | mk (F:Addr->Prop) (loc dx:Role->Addr) (q:TQ) (p tp ln lr:Addr) (ns:List Int) (rs:List R5) (s:NS) (o:fq ns rs) (i r h:Nat) (l:LS):vs = [.ref p,.ref (loc (.bS i)),.int r,.int h]->jV K c H F loc dx q p tp ns.length s->NW K c CT H F p tp ln lr ns rs s->y9 ns rs s->s.ls[i]?=some l->l.grp < 3->(∀ os H',aC H H'->mz (CD ns rs o s.ws l.grp) (s.R l.grp) os->os.length<=12->Q (.str (if r∈os then (if Iq l h=true then "twice" else "come") else "lost")) H')->Rg K CT c vs H Q E
theorem Ir{t:Ad}(T:Txt K mg t):bV P w K mg base gO 7 t.kI t.oO ["self","posted","rope","house"]  (Rg K t.aR (nc t)):=by
 refine T.A0.F.jo G4 λH Q E hr h=>?_
 ·obtain⟨F,loc,dx,q,p,tp,ln,lr,ns,rs,st,o,i,r,hh,l,rfl,X,N,yi,hli,hg,k⟩:=h
  refine⟨_,(ak (cC (jf mh (pv 2) (cM (pv 0) T.bD T.zF (Dk T) hr (fV (aO (pv 1) rfl))) (by with_unfolding_all rfl)) (oR pT) aX) (oR (yM (Zi (ZI (Mw hr) (pv 3) (aO (pv 1) rfl)) (by with_unfolding_all rfl)) pT pT))),?_⟩
  try dsimp only[aU]
  have bQ:=X.own.get .cQ _ rfl
  rw[X.hp] at bQ
  have J5:=X.own.get (.bS i) (mG (nc t) dx loc i l) (by show (st.ls[i]?.map _)=_; rw[hli]; rfl)
  have hdo:=X.own.get (.done i) (.dK (l.done.map λh:Nat=>(fW (h:Int),.bl true))) (by show (st.ls[i]?.map _)=_; rw[hli]; rfl)
  refine⟨_,rfl,_,rfl,p,_,_,rfl,bQ,rfl,_,rfl,loc (.bS i),_,_,_,_,rfl,J5,T.cU,T.jO,rfl,F,p,tp,ln,lr,ns,rs,st,o,l.grp,rfl,N,yi,hg,λlo os H1 s1 VN hlo hOs h12=>⟨lo,_,rfl,.inl (bJ.of hlo),rfl,jU _,_,rfl,?_⟩⟩
  try dsimp only
  rw[if_pos rfl,rT]
  have k:=k os H1 s1 hOs h12
  by_cases e:r∈os
  ·rw[if_pos e] at k
   rw[decide_eq_true e]
   refine fk ?_
   refine⟨_,rfl,_,rfl,loc (.bS i),_,_,_,_,rfl,s1 _ _ J5,T.cU,T.nS,rfl,loc (.done i),_,rfl,IS.k (k:=.inl (hh:Int)) (s1 _ _ hdo),_,rfl,?_⟩
   unfold Iq at k
   refine jS (λe2=>?_) (λe2=>?_)
   ·rw[if_pos e2] at k
    exact k
   ·rw[if_neg e2] at k
    exact k
  ·rw[if_neg e] at k
   rw[decide_eq_false e]
   exact eW k
noncomputable def Cc(l:LS):Nat:=if l.kd=1 then l.s + l.to + 1 else l.s
theorem XA{t:Ad}(T:Txt K mg t){dx loc:Role->Addr}{σ:L2.St}{H:Hp}{Q:VK}{i:Nat}{l:LS}(h4:∀ Q:VK,Q (.ref (loc (.bS i))) H->KU 4 σ H Q)(J5:H (loc (.bS i))=some (mG (nc t) dx loc i l))(hle:H (loc (.letter i))=some (qP (nc t) (dx (.letter i)) l))(q:Q (.int (Cc l:Nat)) H) :
 ED t.ig (Str.ofString "number") (AH K) [] E0 (Gj K (KU 4) (Str.ofString "letter")) Cn σ H Q∨ED t.fE (Str.ofString "number") (Eo t.fE) [] E0 (Gj K (KU 4) (Str.ofString "letter")) Cn σ H Q∨ED t.iJ (Str.ofString "number") (AH K) [] E0 (Gj K (KU 4) (Str.ofString "letter")) Cn σ H Q:=by
 by_cases e:l.kd=1
 ·have L3:H (loc (.letter i))=some (.ins t.fE (dx (.letter i)) [("sender",.int l.s),("to",.int l.to)]):=by rw[hle]; unfold qP; rw[if_pos e]
  have ev:V.int ((l.s:Int) + (l.to:Int) + 1) = .int (Cc l:Nat):=by unfold Cc; rw[if_pos e]; rfl
  refine .inr (.inl ?_)
  unfold ED Gj
  exact (h4 _ ⟨loc (.bS i),_,_,_,_,rfl,J5,T.cU,T.gA,rfl,loc (.letter i),dx (.letter i),_,rfl,L3,rfl,loc (.letter i),dx (.letter i),l.s,l.to,rfl,L3,(by rw[ev]; exact q)⟩)
 ·have L3:H (loc (.letter i))=some (.ins t.iJ (dx (.letter i)) [("sender",.int l.s)]):=by rw[hle]; unfold qP; rw[if_neg e]
  have ev:V.int (l.s:Int) = .int (Cc l:Nat):=by unfold Cc; rw[if_neg e]
  refine .inr (.inr ?_)
  unfold ED Gj
  exact (h4 _ ⟨loc (.bS i),_,_,_,_,rfl,J5,T.cU,T.gA,rfl,loc (.letter i),dx (.letter i),_,rfl,L3,rfl,loc (.letter i),t.iJ,dx (.letter i),l.s,rfl,L3,T.xH,T.nj,(by rw[ev]; exact q)⟩)
noncomputable def Rh(s:NS)(i h r x f:Nat):NS:={ c6 s i (.send h r x) with cps:=s.cps++[⟨i,r,x,f⟩] }
inductive Ri(K:af)(CT:Addr)(c:NC)(vs:List V)(H:Hp)(Q:VK)(E:XK):Prop
 | mk (F:Addr->Prop) (p tp ln lr:Addr) (ns:List Int) (rs:List R5) (s:NS) (i h r:Nat) (l:LS) (re:R5) (w:List Nat) (x:Nat):vs = [.ref p,.int i,.int h,.int r]->NW K c CT H F p tp ln lr ns rs s->fq ns rs->y9 ns rs s->s.ls[i]?=some l->l.aQ.length < 1000000->s.cps.length < 1000000->rs[r]?=some re->s.ws[r]?=some w->w[(((Cc l:Nat):Int) % (w.length:Int)).toNat]?=some x->w≠[]->(∀ F' H',NW K c CT H' F' p tp ln lr ns rs (Rh s i h r x (iP re h))->Step H F H' F'->Q .eU H')->Ri K CT c vs H Q E
theorem NX{t:Ad}(T:Txt K mg t):bV P w K mg base gO 3 t.sF t.xB ["self","number","house","rope"]  (Ri K t.aR (nc t)):=by
 refine T.G8.F.jo zu λH Q E hr h=>?_
 ·obtain⟨F,p,tp,ln,lr,ns,rs,st,i,hh,r,l,re,w',x,rfl,N,tok,yi,hli,hld,hcl,hre,hw,hwx,hwn,k⟩:=h
  refine⟨_,(ak (sS 4 zu (xL (aO (pv 0) rfl) (pv 1))) (ak (sS 5 zu (qL (aO (pv 0) rfl) T.c8 T.lF.m (AQ T) (hr.mono (by decide)) T.lF.B .nil JR (mH (pv 3) (DI (ki (aO (pv 4) rfl) T.Hg T.kZ.m (wD T) (hr.mono (by decide)) T.kZ.B .nil mj) (DI (ki (aO (pv 4) rfl) T.oU T.sH.m (FH T) (hr.mono (by decide)) T.sH.B .nil mj) (ki (aO (pv 4) rfl) T.xH T.Hh (wD T) (hr.mono (by decide)) T.kZ.B .nil mj)))))) (ak (dY (rR bf bq bh eS (aO (pv 4) rfl) (fV (f6 (Yv pT (pv 2) (pv 3) (pv 5)))))) (oE (rR bf bq bh eS (aO (pv 0) rfl) (fV (f6 (Yv (pv 1) (pv 3) (pv 5) (cM (aO (pv 0) rfl) T.eG T.ni (qD T) hr (mH (pv 3) (pv 2))))))))))),?_⟩
  try dsimp only[aU]
  obtain⟨loc,dx,q,hp,O,hF,hT⟩:=id N.cQ
  have bQ:=O.get .cQ _ rfl
  rw[hp] at bQ
  have hil:=(ai.mp hli).1
  have hrl:=(ai.mp hre).1
  have Wj:=O.get .cE _ rfl
  have J5:=O.get (.bS i) (mG (nc t) dx loc i l) (by show (st.ls[i]?.map _)=_; rw[hli]; rfl)
  have hle:=O.get (.letter i) (qP (nc t) (dx (.letter i)) l) (by show (st.ls[i]?.map _)=_; rw[hli]; rfl)
  refine⟨_,rfl,p,_,_,_,_,rfl,bQ,T.bD,T.eZ,rfl,_,rfl,loc .cE,_,_,_,rfl,rfl,bJ.of Wj,ly hil,?_⟩
  refine⟨_,rfl,p,_,_,_,_,rfl,bQ,T.bD,T.kK,rfl,loc .cy,dx .cy,_,rfl,O.get .cy _ rfl,rfl,_,rfl,?_⟩
  have hde:=O.get (.aQ i) (.lst ((q.dq i).map V.ref)) (by show (st.ls[i]?.map _)=_; rw[hli]; rfl)
  refine XA T (l:=l) (λQ q=>⟨_,rfl,q⟩) J5 hle ?_
  refine⟨loc .cy,tp,loc .cP,ln,lr,ns,rs,st.ws,r,(Cc l:Nat),rfl,N.qQ,O.strAt,yi.wl,λj w2 H1 ej hj s1=>⟨λz=>?_,λkk hk _=>?_⟩,λz=>absurd ⟨by lia,by lia⟩ z⟩
  ·have:j=r:=by lia
   subst this
   rw[hw] at hj
   cases hj
   exact absurd z hwn
  have:j=r:=by lia
  subst this
  rw[hw] at hj
  cases hj
  rw[hwx] at hk
  cases hk
  have X1:jV K (nc t) H1 F loc dx q p tp ns.length st:=jV.mono ⟨hp,O,hF,hT⟩ s1
  have Mc:=(X1.tup.aQ i _ hli).len
  rw[ah] at Mc
  refine⟨_,rfl,loc (.bS i),_,_,_,_,rfl,s1 _ _ J5,T.cU,T.iu,rfl,.inl ⟨rfl,_,bJ.of (s1 _ _ hde)⟩,_,rfl,_,rfl,_,rfl,(by show 4<=sizeLine; decide),λz1 hz1=>?_⟩
  have u1:=aC.new (o:=.tup [V.str "send",V.int hh,V.int j,V.int x]) hz1
  refine⟨loc (.aQ i),_,_,rfl,rfl,u1 _ _ (s1 _ _ hde),vF (by rw[ah,Mc]; lia),?_⟩
  obtain⟨X2,st2⟩:=za (X1.mono u1) hli (d:=.send hh j x) (cH.of ao)
  have aaQ:=(Step.refl' (F:=F) (s1.trans u1)).trans st2
  have N2:=N.done aaQ X2.cQ
  generalize upd (upd H1 z1 (.tup [V.str "send",V.int hh,V.int j,V.int x])) (loc (.aQ i)) (.lst ((q.dq i).map V.ref++[.ref z1]))=H2 at X2 aaQ N2
  clear st2 u1 hz1 X1 hde Mc
  have Dl:=X2.own.get .cQ _ rfl
  rw[X2.hp] at Dl
  have adD:=X2.own.get .d8 _ rfl
  obtain⟨⟨dt,ag4⟩,_⟩:=id N2.qQ
  have YW:q.cq.length=st.cps.length:=by
   have z:=X2.tup.cps.len
   rw[ah] at z
   exact z
  obtain⟨_,rfl⟩:=ai.mp hre
  refine⟨_,rfl,p,_,_,_,_,rfl,Dl,T.bD,T.iK,rfl,.inl ⟨rfl,_,bJ.of adD⟩,_,rfl,_,rfl,_,rfl,_,rfl,p,_,_,_,_,rfl,Dl,T.bD,T.lI,rfl,tp,dt,_,rfl,ag4,rfl,_,rfl,_,rfl,tp,ln,lr,ns,rs,j,_,hh,rfl,N2.qQ,hre,?_⟩
  rw[Qz (h:=hh) hrl tok.ok]
  refine⟨(by show 4<=sizeLine; decide),λz2 hz2=>?_⟩
  have u2:=aC.new (o:=.tup [V.int i,V.int j,V.int x,V.int (iP rs[j] hh:Nat)]) hz2
  refine⟨loc .d8,_,_,rfl,rfl,u2 _ _ adD,vF (by rw[ah,YW]; lia),?_⟩
  have X3:=X2.mono u2
  obtain⟨X4,IL⟩:=QG X3 (qs:=q.cq++[z2]) (cps:=st.cps++[⟨i,j,x,iP rs[j] hh⟩]) (by rw[aT]; exact X3.tup.cps.snoc (cH.of ao))
  rw[aT] at X4 IL
  have Ol:=(aaQ.trans (Step.refl' (F:=F) u2)).trans IL
  refine k F _ ?_ Ol
  unfold Rh
  rw[fR hli]
  exact N.done Ol X4.cQ
end
section
noncomputable def Aj(ds:List Nat)(h:Nat):List Nat:=if h∈ds then ds else ds++[h]
theorem SV{ds:List Nat}{h:Nat}:putK (ds.map λh:Nat=>((fW (h:Int):Key),V.bl true)) (fW (h:Int)) (V.bl true)=(Aj ds h).map λh:Nat=>((fW (h:Int):Key),V.bl true):=by
 have e:((ds.map λh:Nat=>((fW (h:Int):Key),V.bl true)).any λkv=>decide (kv.1=(fW (h:Int):Key)))=decide (h∈ds):=by
  rw[gR,List.any_map,gw,decide_eq_true_iff]
  constructor
  ·rintro⟨x,hx,e⟩
   have e:=Sum.inl.inj (of_decide_eq_true e)
   have:x=h:=by lia
   exact this ▸ hx
  ·exact λhx=>⟨h,hx,decide_eq_true rfl⟩
 unfold putK Aj
 rw[e]
 by_cases z:h∈ds
 ·rw[if_pos (decide_eq_true z),if_pos z,cu]
  refine dh λx _=>?_
  show (if _ then _ else _)=_
  split <;> rfl
 ·rw[if_neg (by rw[decide_eq_true_iff]; exact z),if_neg z,aT]
  rfl
structure Fr(s s':NS):Prop where
 ws:s'.ws=s.ws
 R:s'.R=s.R
 ts:s'.ts=s.ts
 bg:s'.bg=s.bg
 groups:s'.groups=s.groups
 lt:∀ (i:Nat) (l:LS),s.ls[i]?=some l->∃ l':LS,s'.ls[i]?=some l'/\l'.s=l.s/\l'.to=l.to/\l'.kd=l.kd/\l'.grp=l.grp/\l'.old=l.old
theorem Fr.refl(s:NS):Fr s s:=⟨rfl,rfl,rfl,rfl,rfl,λ_ l h=>⟨l,h,rfl,rfl,rfl,rfl,rfl⟩⟩
theorem Fr.trans{a b c:NS}(f:Fr a b)(g:Fr b c):Fr a c:=by
 refine⟨g.ws.trans f.ws,g.R.trans f.R,g.ts.trans f.ts,g.bg.trans f.bg,g.groups.trans f.groups,λi l h=>?_⟩
 obtain⟨l',h1,e1,e2,e3,e4,e5⟩:=f.lt i l h
 obtain⟨l2,h2,f1,f2,f3,f4,f5⟩:=g.lt i l' h1
 exact⟨l2,h2,f1.trans e1,f2.trans e2,f3.trans e3,f4.trans e4,f5.trans e5⟩
theorem Fr.ok{ns:List Int}{rs:List R5}{s s':NS}(f:Fr s s')(h:y9 ns rs s):y9 ns rs s' :=
 ⟨by rw[f.ws]; exact h.wl,by rw[f.ws]; exact h.w4,by rw[f.R]; exact h.fit⟩
theorem YX{s:NS}{i:Nat}{l l2:LS}{had:List (List Nat)}{cps:List Cp}(hl:s.ls[i]?=some l)(e1:l2.s=l.s)(e2:l2.to=l.to)(e3:l2.kd=l.kd)(e4:l2.grp=l.grp)(e5:l2.old=l.old):Fr s { s with ls:=s.ls.set i l2,had:=had,cps:=cps }:=by
 refine⟨rfl,rfl,rfl,rfl,rfl,λk l' h=>?_⟩
 show ∃ l',(s.ls.set i l2)[k]?=some l'/\_
 rw[jd (ai.mp hl).1]
 by_cases z:k=i
 ·subst z
  rw[hl] at h
  cases h
  exact⟨l2,if_pos rfl,e1,e2,e3,e4,e5⟩
 ·exact⟨l',by rw[if_neg z]; exact h,rfl,rfl,rfl,rfl,rfl⟩
theorem Rj{s:NS}{i:Nat}{d:AL}:Fr s (c6 s i d):=by
 cases h:s.ls[i]? with
 | none=>unfold c6; rw[h]; exact Fr.refl s
 | some l=>rw[fR h]; exact YX h rfl rfl rfl rfl rfl
structure Bd(n m D:Nat)(s:NS):Prop where
 gl:s.groups.length=s.bg.length
 yJ:s.bg.length<=20
 g3:∀ g∈s.groups,g < 3
 hm:∀ h∈s.bg,h < n
 hl:s.had.length=s.bg.length
 hb:∀ w∈s.had,w.length<=D
 ll:s.ls.length<=D
 lb:∀ l∈s.ls,l.aQ.length + s.cps.length<=D/\l.done.length<=D/\l.grp < 3/\(l.kd=1∨l.kd=2)
 cb:s.cps.length<=D
 cl:∀ c∈s.cps,c.l < s.ls.length/\c.r < m/\c.h < n
 tb:∀ g,50 * (s.ts g).length<=D/\gE (s.ts g)
theorem Bd.mono{n m D D':Nat}{s:NS}(b:Bd n m D s)(h:D<=D'):Bd n m D' s :=
 ⟨b.gl,b.yJ,b.g3,b.hm,b.hl,λw z=>aH (b.hb w z) h,aH b.ll h,λl z=>⟨aH (b.lb l z).1 h,aH (b.lb l z).2.1 h,(b.lb l z).2.2⟩,aH b.cb h,b.cl,λg=>⟨aH (b.tb g).1 h,(b.tb g).2⟩⟩
theorem Bd.set{n m D:Nat}{s:NS}{i:Nat}{l l2:LS}(b:Bd n m D s)(k:Nat)(hl:s.ls[i]?=some l){cps:List Cp}{had:List (List Nat)}(e1:cps.length<=s.cps.length + 1)(k2:cps.length<=s.cps.length∨2<=k)(k1:1<=k)(e2:l2.aQ.length + cps.length<=l.aQ.length + s.cps.length + k)(e3:l2.done.length<=l.done.length + k)(e4:l2.grp=l.grp)(e5:l2.kd=l.kd)
 (hc:∀ c∈cps,c∈s.cps∨(c.l < s.ls.length/\c.r < m/\c.h < n)) (hh:had.length=s.had.length) (hw:∀ w∈had,w.length<=D + k):Bd n m (D + k) { s with ls:=s.ls.set i l2,had:=had,cps:=cps }:=by
 have hi:=b.lb l (aI hl)
 refine⟨b.gl,b.yJ,b.g3,b.hm,hh.trans b.hl,hw,?_,λl' z=>?_,?_,λc z=>?_,λg=>⟨aH (b.tb g).1 (wK _ _),(b.tb g).2⟩⟩
 ·show (s.ls.set i l2).length<=_
  rw[bP]
  have:=b.ll
  lia
 ·rcases oX z with z | rfl
  ·have h:=b.lb l' z
   refine⟨?_,?_,h.2.2⟩
   ·show l'.aQ.length + cps.length<=_
    have:=h.1
    lia
   ·have:=h.2.1
    lia
  ·refine⟨?_,?_,e4 ▸ hi.2.2.1,e5 ▸ hi.2.2.2⟩
   ·show l'.aQ.length + cps.length<=_
    have:=hi.1
    lia
   ·have:=hi.2.1
    lia
 ·show cps.length<=_
  have:=b.cb
  lia
 ·show c.l < (s.ls.set i l2).length/\_
  rw[bP]
  rcases hc c z with y | y
  ·exact b.cl c y
  ·exact y
theorem Bd.alb{n m D:Nat}{s:NS}(b:Bd n m D s)(i:Nat)(d:AL):Bd n m (D + 1) (c6 s i d):=by
 cases h:s.ls[i]? with
 | none=>unfold c6; rw[h]; exact b.mono (dc D)
 | some l =>
  rw[fR h]
  refine b.set 1 h (dc _) (.inl (au _)) (au _) ?_ (dc _) rfl rfl (λc z=>.inl z) rfl (λw z=>jr (b.hb w z))
  show (l.aQ++[d]).length + _<=_
  rw[av]
  show l.aQ.length + 1 + _<=_
  lia
noncomputable def eN(s:NS)(i h:Nat)(l:LS):NS:={ s with ls:=s.ls.set i { l with done:=Aj l.done h } }
theorem L4{s:NS}{i h:Nat}{l:LS}(hl:s.ls[i]?=some l):Fr s (eN s i h l):=YX hl rfl rfl rfl rfl rfl
theorem Rk{n m D:Nat}{s:NS}{i h:Nat}{l:LS}(b:Bd n m D s)(hl:s.ls[i]?=some l):Bd n m (D + 1) (eN s i h l):=by
 refine b.set 1 hl (dc _) (.inl (au _)) (au _) (dc _) ?_ rfl rfl (λc z=>.inl z) rfl (λw z=>jr (b.hb w z))
 show (Aj l.done h).length<=_
 unfold Aj
 split
 ·exact dc _
 ·rw[av]; exact au _
noncomputable def vG(s:NS)(i c:Nat):NS:={ s with had:=s.had.set c (s.had.getD c []++[i]) }
noncomputable def pP(i h:Nat)(s:NS)(c:Nat):NS:=c6 (vG s i c) i (.hand h c)
theorem FZ{s:NS}{i h c:Nat}:Fr s (pP i h s c):=Fr.trans (b:=vG s i c) ⟨rfl,rfl,rfl,rfl,rfl,λ_ l h=>⟨l,h,rfl,rfl,rfl,rfl,rfl⟩⟩ Rj
theorem L5{n m D:Nat}{s:NS}{i h c:Nat}(b:Bd n m D s):Bd n m (D + 1) (pP i h s c):=by
 have q:∀ w∈(vG s i c).had,w.length<=D + 1:=λw z=>by
  rcases oX z with y | rfl
  ·exact jr (b.hb w y)
  ·rw[av]
   refine jl ?_ 1
   rw[az]
   cases e:s.had[c]? with
   | none=>exact br _
   | some w=>exact b.hb w (aI e)
 unfold pP
 cases h':s.ls[i]? with
 | none =>
  unfold c6
  rw[show (vG s i c).ls[i]?=none from h']
  have b1:=b.mono (dc D)
  exact⟨b1.gl,b1.yJ,b1.g3,b1.hm,by show (s.had.set _ _).length=_; rw[bP]; exact b1.hl,q,b1.ll,b1.lb,b1.cb,b1.cl,b1.tb⟩
 | some l =>
  rw[fR (show (vG s i c).ls[i]?=some l from h')]
  refine b.set 1 h' (dc _) (.inl (au _)) (au _) ?_ (dc _) rfl rfl (λc z=>.inl z) (by show (s.had.set _ _).length=_; rw[bP]) q
  show (l.aQ++[_]).length + s.cps.length<=_
  rw[av]
  show l.aQ.length + 1 + s.cps.length<=_
  lia
noncomputable def Rl(ws:List (List Nat))(r k:Nat):Nat:=match ws[r]? with | some w=>w.getD (k % w.length) 0 | none=>0
noncomputable def VV(rs:List R5)(r h:Nat):Nat:=match rs[r]? with | some re=>iP re h | none=>0
noncomputable def XC(s:NS)(i:Nat):Nat:=match s.ls[i]? with | some l=>Cc l | none=>0
noncomputable def Ak(rs:List R5)(i h:Nat)(s:NS)(r:Nat):NS:=Rh s i h r (Rl s.ws r (XC s i)) (VV rs r h)
theorem F0{rs:List R5}{s:NS}{i h r:Nat}:Fr s (Ak rs i h s r):=Fr.trans (Rj (i:=i) (d:=.send h r (Rl s.ws r (XC s i)))) ⟨rfl,rfl,rfl,rfl,rfl,λ_ l h=>⟨l,h,rfl,rfl,rfl,rfl,rfl⟩⟩
theorem OY{ns:List Int}{rs:List R5}(o:fq ns rs){r h:Nat}(hr:r < rs.length):VV rs r h < ns.length:=by
 unfold VV
 rw[aa hr]
 have k:=o.ok _ (aL hr)
 have h1:=k.a0; have h2:=k.b0; have h3:=k.a1; have h4:=k.b1
 show iP _ _ < _
 unfold iP
 split <;> lia
theorem Rm{ns:List Int}{rs:List R5}(o:fq ns rs){D:Nat}{s:NS}{i h r:Nat}(b:Bd ns.length rs.length D s)(hi:i < s.ls.length)(hr:r < rs.length):Bd ns.length rs.length (D + 2) (Ak rs i h s r):=by
 have h':=aa hi
 unfold Ak Rh
 rw[fR h']
 refine b.set 2 h' (by rw[av]; exact au _) (.inr (au _)) (by decide) ?_ (wK _ _) rfl rfl (λc z=>?_) rfl (λw z=>aH (b.hb w z) (wK _ _))
 ·show (s.ls[i].aQ++[_]).length + (s.cps++[_]).length<=_
  rw[av,av]
  show s.ls[i].aQ.length + 1 + (s.cps.length + 1)<=_
  lia
 ·rcases bG.mp z with y | y
  ·exact .inl y
  ·rw[bz] at y
   subst y
   exact .inr ⟨hi,hr,OY o hr⟩
theorem yl{f:NS->Nat->NS}(h:∀ s x,Fr s (f s x)):∀ (xs:List Nat) (s:NS),Fr s (xs.foldl f s)
 | [],s=>Fr.refl s
 | x :: xs,s=>(h s x).trans (yl h xs (f s x))
theorem AI{n m k:Nat}{f:NS->Nat->NS}(I:NS->Prop):∀ (xs:List Nat) (s:NS) (D:Nat),(∀ s x D,x∈xs->I s->Bd n m D s->I (f s x)/\Bd n m (D + k) (f s x))->I s->Bd n m D s->Bd n m (D + k * xs.length) (xs.foldl f s)
 | [],s,D,_,_,b=>b
 | x :: xs,s,D,h,i,b=>by
  obtain⟨i1,b1⟩:=h s x D b6 i b
  have:=AI I xs (f s x) (D + k) (λs y D z=>h s y D (bu _ z)) i1 b1
  refine this.mono (Nat.le_of_eq ?_)
  rw[bE,Nat.mul_succ]
  lia
theorem KJ{f:NS->Nat->NS}{xs:List Nat}{s:NS}{j:Nat}(h:j < xs.length):(xs.take (j + 1)).foldl f s=f ((xs.take j).foldl f s) xs[j]:=by
 rw[fH h,List.foldl_append]
 rfl
noncomputable def wH(s:NS)(l:LS)(h:Nat):List Nat:=(yE s h l.grp).filter λc=>GG l.s l.to l.kd c
noncomputable def SW(rs:List R5)(s:NS)(l:LS)(h:Nat)(cO:Option Nat)(os:List Nat):List Nat:=(We (s.ts l.grp) (Au l.to l.kd) h (cO.map λk:Nat=>(k:Int)) ((os.filter (isAt rs h)).map λk:Nat=>(k:Int)) ((yE s h l.grp).map λk:Nat=>(k:Int))).map Int.toNat
noncomputable def Wk(rs:List R5)(s:NS)(i h:Nat)(l:LS)(cO:Option Nat)(os:List Nat):NS:=(SW rs s l h cO os).foldl (Ak rs i h) ((wH s l h).foldl (pP i h) (eN s i h l))
theorem L6{ts:List T3}{so:Option Int}{mD:Int}{cO:Option Int}{os hs:List Int}:(∀ x∈We ts so mD cO os hs,x∈os)/\(We ts so mD cO os hs).length<=os.length:=by
 have f:(∀ x∈os.filter (rX cO),x∈os)/\(os.filter (rX cO)).length<=os.length:=⟨λx z=>(cS.mp z).1,bB _ _⟩
 unfold We
 split
 ·exact f
 ·split
  ·exact⟨λx z=>absurd z (by simp),br _⟩
  ·split
   ·split
    ·rename_i r _ hr
     refine⟨λx z=>?_,?_⟩
     ·have:=(cS.mp z).1
      rw[bz] at this
      exact this ▸ hr
     ·refine aH (bB _ _) ?_
      show 1<=os.length
      cases os with
      | nil=>cases hr
      | cons=>simp
    ·exact f
   ·exact f
theorem XD{rs:List R5}{s:NS}{l:LS}{h:Nat}{cO:Option Nat}{os:List Nat}:(We (s.ts l.grp) (Au l.to l.kd) h (cO.map λk:Nat=>(k:Int)) ((os.filter (isAt rs h)).map λk:Nat=>(k:Int)) ((yE s h l.grp).map λk:Nat=>(k:Int))).map V.int=aV (SW rs s l h cO os):=by
 unfold SW
 rw[aV,cu]
 refine dh λx hx=>?_
 obtain⟨k,_,rfl⟩:=bL.mp (L6.1 x hx)
 rfl
theorem Rn{rs:List R5}{s:NS}{l:LS}{h:Nat}{cO:Option Nat}{os:List Nat}:(∀ r∈SW rs s l h cO os,r∈os)/\(SW rs s l h cO os).length<=os.length:=by
 unfold SW
 refine⟨λr hr=>?_,?_⟩
 ·obtain⟨x,hx,rfl⟩:=bL.mp hr
  obtain⟨k,hk,rfl⟩:=bL.mp (L6.1 x hx)
  exact (cS.mp hk).1
 ·rw[ah]
  refine aH L6.2 ?_
  rw[ah]
  exact bB _ _
theorem NY{s:NS}{l:LS}{h:Nat}:(∀ c∈wH s l h,c < s.bg.length)/\(wH s l h).length<=s.bg.length:=by
 unfold wH yE
 refine⟨λc z=>fc.mp (cS.mp (cS.mp z).1).1,?_⟩
 refine aH (bB _ _) (aH (bB _ _) ?_)
 rw[bH]
 exact au _
theorem Er{ns:List Int}{rs:List R5}{o:fq ns rs}{s:NS}{g:Nat}{os:List Nat}(O:mz (CD ns rs o s.ws g) (s.R g) os){r:Nat}(hr:r∈os):r < rs.length/\∃ w,s.ws[r]?=some w/\w≠[]:=by
 obtain⟨a,b,t⟩:=(O.2 r).mp hr
 have m:r∈EL rs s.ws g:=t.yX.1
 refine⟨vK r m,?_⟩
 have e:=(cS.mp m).2
 unfold isLive at e
 split at e
 ·rename_i re w h1 h2
  refine⟨w,h2,λz=>?_⟩
  subst z
  cases e
 ·cases e
theorem VW{rs:List R5}{s:NS}{i h:Nat}{l:LS}{cO:Option Nat}{os:List Nat}(hl:s.ls[i]?=some l):Fr s (Wk rs s i h l cO os):=((L4 hl).trans (yl (λ_ _=>FZ) _ _)).trans (yl (λ_ _=>F0) _ _)
end
section
variable{P:Program}{w:World}{K:af}{mg:Str->Option Value}{base:Heap}
theorem aaR{c:NC}{H:Hp}{a dx:Addr}{l:LS}{cL:Addr}(h:H a=some (qP c dx l))(k:l.kd=1∨l.kd=2):EJ cL c.let1 c.acD H a l.s l.to l.kd:=by
 rcases k with e | e
 ·rw[e]
  refine .one dx ?_
  rw[h]; unfold qP; rw[if_pos e]
 ·rw[e]
  refine .all dx ?_
  rw[h]; unfold qP; rw[if_neg (by rw[e]; decide)]
inductive YY(K:af)(CT:Addr)(c:NC)(vs:List V)(H:Hp)(Q:VK)(E:XK):Prop
 | mk (F:Addr->Prop) (p tp ln lr:Addr) (ns:List Int) (rs:List R5) (s:NS) (o:fq ns rs) (i h:Nat) (cO:Option Nat) (l:LS) (D:Nat):vs = [.ref p,.int i,.int h,Fi (cO.map λk:Nat=>(k:Int))]->NW K c CT H F p tp ln lr ns rs s->y9 ns rs s->Bd ns.length rs.length D s->D<=900000->s.ls[i]?=some l->(∀ os F' H',mz (CD ns rs o s.ws l.grp) (s.R l.grp) os->os.length<=12->NW K c CT H' F' p tp ln lr ns rs (Wk rs s i h l cO os)->Step H F H' F'->Q .eU H')->YY K CT c vs H Q E
theorem wI{t:Ad}(T:Txt K mg t):bV P w K mg base gO 7 t.iU t.kW ["self","number","house","came"]  (YY K t.aR (nc t)):=by
 refine T.qe.F.jo dO λH Q E hr h=>?_
 ·obtain⟨F,p,tp,ln,lr,ns,rs,st,o,i,hh,cO,l,D,rfl,N,yi,bd,hD,hli,k⟩:=h
  refine⟨_,(ak (sS 4 dO (xL (aO (pv 0) rfl) (pv 1))) (ak (sS 5 dO (aO (pv 4) rfl)) (ak (Qu (Mw hr) (aO (pv 4) rfl) (pv 2) Ez rfl) (ak (sS 6 dO (cG (PN T) hr T.J9 (Yv (aO (pv 0) rfl) (cM (pv 0) T.bD T.sL (uv T) hr (fV (pv 5))) (cM (pv 0) T.bD T.lG (lV T) hr (fV (pv 5))) (pv 2)))) (ak (sS 7 dO (cM (pv 0) T.bD T.wj (Dp T) hr (mH (pv 2) (pv 5)))) (ak (sS 8 dO (cG (PR T) hr T.J8 (aN6 (xL (aO (pv 0) rfl) (pv 5)) (aO (pv 4) rfl) (pv 2) (pv 3) (pv 6) (pv 7)))) (ak (fS (fB (xT (pv 8) aA)) (gT 9 dO) (ak (dY (rR bf bq bh eS (xL (aO (pv 0) rfl) (pv 9)) (fV (pv 1)))) (oE (rR bf bq bh eS (aO (pv 4) rfl) (fV (f6 (J2 pT (pv 2) (pv 9)))))))) (aW (fS (fB (xT (pv 8) aA)) (gT 10 dO) (oE (cM (pv 0) T.bD T.G8 (NX T) hr (J2 (pv 1) (pv 2) (pv 10))))))))))))),?_⟩
  try dsimp only[aU]
  obtain⟨loc,dx,q,hp,O,hF,hT⟩:=id N.cQ
  have X:jV K (nc t) H F loc dx q p tp ns.length st:=⟨hp,O,hF,hT⟩
  have bQ:=O.get .cQ _ rfl
  rw[hp] at bQ
  have hil:=(ai.mp hli).1
  obtain⟨lb1,lb2,hg,lkd⟩:=bd.lb l (aI hli)
  have Wj:=O.get .cE _ rfl
  have J5:=O.get (.bS i) (mG (nc t) dx loc i l) (by show (st.ls[i]?.map _)=_; rw[hli]; rfl)
  have hdo:=O.get (.done i) (.dK (l.done.map λh:Nat=>(fW (h:Int),.bl true))) (by show (st.ls[i]?.map _)=_; rw[hli]; rfl)
  refine b5 λNx c7=>?_
  refine⟨_,rfl,p,_,_,_,_,rfl,bQ,T.bD,T.eZ,rfl,_,rfl,loc .cE,_,_,_,rfl,rfl,bJ.of Wj,ly hil,c7 _ _ ?_⟩
  clear c7 Nx
  refine b5 λNx c7=>?_
  refine⟨_,rfl,loc (.bS i),_,_,_,_,rfl,J5,T.cU,T.jO,rfl,c7 _ _ ?_⟩
  clear c7 Nx
  refine b5 λNx c7=>?_
  refine⟨_,rfl,loc (.bS i),_,_,_,_,rfl,J5,T.cU,T.nS,rfl,_,rfl,loc (.done i),_,rfl,Mt.k (k:=.inl (hh:Int)) hdo (vF (by rw[ah]; lia)),?_⟩
  rw[SV]
  refine c7 _ _ ?_
  clear c7 Nx
  obtain⟨X1,st1⟩:=U5 X hli (Aj l.done hh)
  have N1:=N.done st1 X1.cQ
  generalize upd H (loc (.done i)) (.dK ((Aj l.done hh).map λh:Nat=>((fW (h:Int):Key),V.bl true)))=H1 at X1 st1 N1
  have fr1:=L4 (h:=hh) hli
  have YZ:=Rk (h:=hh) bd hli
  have es1:eN st i hh l = { st with ls:=st.ls.set i { l with done:=Aj l.done hh } }:=rfl
  rw[<- es1] at X1 N1
  have Es:(eN st i hh l).ls[i]?=some { l with done:=Aj l.done hh }:=by
   show (st.ls.set i _)[i]?=_
   rw[jd hil,if_pos rfl]
  have Yz:(eN st i hh l).ts=st.ts:=rfl
  have ehe:yE (eN st i hh l) hh l.grp=yE st hh l.grp:=rfl
  have k1:∀ os F' H',mz (CD ns rs o (eN st i hh l).ws l.grp) ((eN st i hh l).R l.grp) os->os.length<=12->NW K (nc t) t.aR H' F' p tp ln lr ns rs ((SW rs st l hh cO os).foldl (Ak rs i hh) ((wH st l hh).foldl (pP i hh) (eN st i hh l)))->Step H1 F H' F'->Q .eU H':=λos F' H' a b c d=>k os F' H' a b c (st1.trans d)
  have SX:=fr1.ok yi
  have ehd:wH st l hh=(yE (eN st i hh l) hh l.grp).filter λc:Nat=>GG l.s l.to l.kd c:=rfl
  have ego:∀ os,SW rs st l hh cO os=(We ((eN st i hh l).ts l.grp) (Au l.to l.kd) hh (cO.map λk:Nat=>(k:Int)) ((os.filter (isAt rs hh)).map λk:Nat=>(k:Int)) ((yE (eN st i hh l) hh l.grp).map λk:Nat=>(k:Int))).map Int.toNat:=λos=>rfl
  have hgi:∀ os,(We ((eN st i hh l).ts l.grp) (Au l.to l.kd) hh (cO.map λk:Nat=>(k:Int)) ((os.filter (isAt rs hh)).map λk:Nat=>(k:Int)) ((yE (eN st i hh l) hh l.grp).map λk:Nat=>(k:Int))).map V.int=aV (SW rs st l hh cO os):=λos=>XD
  have hgs:∀ os,(∀ r∈SW rs st l hh cO os,r∈os)/\(SW rs st l hh cO os).length<=os.length:=λos=>Rn
  have hhl:(∀ c∈wH st l hh,c < (eN st i hh l).bg.length)/\(wH st l hh).length<=(eN st i hh l).bg.length:=NY
  have hhi:((yE (eN st i hh l) hh l.grp).map λk:Nat=>(k:Int)).filter (GG l.s l.to l.kd)=(wH st l hh).map λk:Nat=>(k:Int):=by
   rw[ehd,List.filter_map]
   rfl
  generalize SW rs st l hh cO=gs at k1 hgi hgs
  generalize wH st l hh=hs at k1 hhl hhi
  clear ego ehd ehe Yz es1 k Wj J5 hdo bQ X st1 fr1 yi N O hF hT hli bd
  generalize eN st i hh l=s1 at X1 N1 YZ k1 Es SX hgi hhl hhi
  clear hil hp
  have alg:=(ai.mp Es).1
  have iA:=X1.own.get .cQ _ rfl
  rw[X1.hp] at iA
  refine b5 λNx c7=>?_
  refine⟨_,rfl,p,_,_,_,_,rfl,iA,T.bD,T.lI,rfl,?_⟩
  refine⟨_,rfl,p,_,_,rfl,iA,rfl,_,rfl,F,p,tp,ln,lr,ns,rs,s1,l.grp,rfl,N1,o,SX,hg,λa1 H2 t2 ha1 h1=>?_⟩
  refine⟨_,rfl,p,_,_,rfl,t2 _ _ iA,rfl,_,rfl,F,p,tp,ns.length,l.grp,s1,rfl,(N1.mono t2).cQ,hg,λa2 qs H3 t3 ha2 h2 ht=>?_⟩
  refine⟨_,rfl,tp,ln,lr,a1,a2,ns,rs,_,o.nd,o.ok,vK,s1.R l.grp,hh,rfl,(N1.mono (t2.trans t3)).qQ,bJ.of (t3 _ _ h1),ht.GN (bJ.of h2),by have:=o.n10; lia,o.m20,SX.fit l.grp hg,λlo os H4 t4 VN hlo hO h12=>c7 _ _ ?_⟩
  clear c7 Nx
  have t14:=t2.trans (t3.trans t4)
  refine b5 λNx c7=>?_
  refine⟨_,rfl,p,_,_,rfl,t14 _ _ iA,rfl,_,rfl,_,rfl,F,p,tp,ns.length,hh,l.grp,s1,rfl,(N1.mono t14).cQ,YZ.gl,YZ.yJ,λlh H5 t5 ag7 hlh=>c7 _ _ ?_⟩
  clear c7 Nx
  have t15:=t14.trans t5
  have X5:=X1.mono t15
  have aaS:=t5 _ _ hlo
  have adF:=X5.own.get (.bS i) (mG (nc t) dx loc i { l with done:=Aj l.done hh }) (by show (s1.ls[i]?.map _)=_; rw[Es]; rfl)
  have adG:=X5.own.get (.letter i) (qP (nc t) (dx (.letter i)) { l with done:=Aj l.done hh }) (by show (s1.ls[i]?.map _)=_; rw[Es]; rfl)
  rw[d7] at aaS hlh
  refine b5 λNx c7=>?_
  refine⟨_,rfl,p,_,_,_,_,rfl,t15 _ _ iA,T.bD,T.pN,rfl,_,rfl,loc .iD,_,_,_,rfl,rfl,bJ.of (X5.own.get .iD _ rfl),ly hg,_,rfl,loc (.bS i),_,_,_,_,rfl,adF,T.cU,T.gA,rfl,_,rfl,_,rfl,_,rfl,_,rfl,loc (.book l.grp),loc (.eF l.grp),loc (.letter i),lo,lh,s1.ts l.grp,l.s,l.to,l.kd,hh,cO.map λk:Nat=>(k:Int),_,_,rfl,X5.own.Li hg,aaR adG lkd,bJ.of aaS,bJ.of hlh,?_,?_,λtq b1 b2 H6 t6 aha ahb ahc alh htq hb1 hb2=>c7 _ _ ?_⟩
  ·rw[ah]
   have:=bB (isAt rs hh) os
   lia
  ·rw[ah]
   unfold yE
   have:=bB (Io s1 hh l.grp) (aq s1.bg.length)
   rw[bH] at this
   have:=YZ.yJ
   lia
  rw[hhi,<- d7] at hb1
  rw[hgi os] at hb2
  have hgs:=hgs os
  have k1:=k1 os
  generalize gs os=gs at hb2 hgs k1
  have t16:=t15.trans t6
  have X6:=X1.mono t16
  have nF:∀ {b},H5 b=none->¬ F b:=λ{b} e z=>by
   obtain⟨u,e'⟩:=X5.cQ.there z
   rw[e] at e'
   cases e'
  have nq:=nF aha
  have n1:=nF ahb
  have n2:=nF ahc
  clear aaS hlh adF adG X5 hlo ht h1 h2 VN ag7 ha1 ha2
  have adH:Step H1 F H6 F:=Step.refl' t16
  clear c7 Nx
  refine b5 λNx c7=>?_
  refine⟨_,rfl,tq,_,0,_,rfl,rfl,cH.of htq,rfl,b1,rfl,⟨_,bJ.of hb1⟩,As (K:=K) (a:=b1) (xs:=aV hs) (λj σ H7=>∃ (q7:TQ) (v9:Option V),jV K (nc t) H7 F loc dx q7 p tp ns.length ((hs.take j).foldl (pP i hh) s1)/\Step H6 F H7 F/\σ = [some (.ref p),some (.int i),some (.int hh),some (Fi (cO.map λk:Nat=>(k:Int))),some (.ref (loc (.bS i))),some (.int l.grp),some (.ref lo),some (.ref lh),some (.ref tq),v9,none]) ⟨q,none,X6,Step.refl' (aC.refl _),rfl⟩ (λj σ H7 _ z=>?_) ?_ ?_⟩
  ·obtain⟨q7,v9,X7,My,rfl⟩:=z
   exact bJ.of (My.kp _ _ hb1 n1)
  ·rintro j y σ H7 Nf FY hj ⟨q7,v9,X7,My,rfl⟩
   have hjl:j < hs.length:=by
    have:=(ai.mp hj).1
    rw[ah] at this
    exact this
   rw[aj,aa hjl] at hj
   cases hj
   rw[KJ hjl] at FY
   have b7:Bd ns.length rs.length (D + 1 + 1 * (hs.take j).length) ((hs.take j).foldl (pP i hh) s1):=AI (λ_=>True) _ _ _ (λs x D _ _ b=>⟨trivial,L5 b⟩) trivial YZ
   have f7:Fr s1 ((hs.take j).foldl (pP i hh) s1):=yl (λ_ _=>FZ) _ _
   have hjt:(hs.take j).length<=20:=by
    rw[bO]
    have:=hhl.2
    have:=YZ.yJ
    lia
   obtain⟨l7,Ot,_⟩:=f7.lt i _ Es
   have hcl:hs[j] < ((hs.take j).foldl (pP i hh) s1).had.length:=by
    rw[b7.hl,f7.bg]
    exact hhl.1 _ (aL hjl)
   generalize (hs.take j).foldl (pP i hh) s1=s7 at X7 b7 Ot hcl FY
   show gM 9 (V.int ((hs[j]:Nat):Int)) _ _ _
   generalize hs[j]=c at hcl FY
   have Y0:=X7.own.get .cQ _ rfl
   rw[X7.hp] at Y0
   have hhc:=X7.own.get (.handed c) (.lst (aV s7.had[c])) (by show (s7.had[c]?.map _)=_; rw[aa hcl]; rfl)
   have hwl:=b7.hb _ (aL hcl)
   have hdl:=(b7.lb l7 (aI Ot)).1
   refine⟨_,rfl,p,_,_,_,_,rfl,Y0,T.bD,T.CZ,rfl,_,rfl,loc .jh,_,_,_,rfl,rfl,bJ.of (X7.own.get .jh _ rfl),ly hcl,.inl ⟨rfl,_,bJ.of hhc⟩,_,rfl,loc (.handed c),_,_,rfl,rfl,hhc,vF (by rw[ah]; lia),?_⟩
   obtain⟨X8,SY⟩:=U6 X7 hcl (s7.had[c]++[i])
   rw[gK] at X8 SY
   generalize upd H7 (loc (.handed c)) (.lst (aV s7.had[c]++[V.int i]))=H8 at X8 SY
   have es:{ s7 with had:=s7.had.set c (s7.had[c]++[i]) }=vG s7 i c:=by
    unfold vG
    rw[az,aa hcl]
    rfl
   rw[es] at X8
   have IM:(vG s7 i c).ls[i]?=some l7:=Ot
   have ahd:=X8.own.get (.bS i) (mG (nc t) dx loc i l7) (by show ((vG s7 i c).ls[i]?.map _)=_; rw[IM]; rfl)
   have adI:=X8.own.get (.aQ i) (.lst ((q7.dq i).map V.ref)) (by show ((vG s7 i c).ls[i]?.map _)=_; rw[IM]; rfl)
   have Mc:=(X8.tup.aQ i _ IM).len
   rw[ah] at Mc
   refine⟨_,rfl,loc (.bS i),_,_,_,_,rfl,ahd,T.cU,T.iu,rfl,.inl ⟨rfl,_,bJ.of adI⟩,_,rfl,_,rfl,(by show 3<=sizeLine; decide),λz1 hz1=>?_⟩
   have u1:=aC.new (o:=.tup [V.str "hand",V.int hh,V.int c]) hz1
   refine⟨loc (.aQ i),_,_,rfl,rfl,u1 _ _ adI,vF (by rw[ah,Mc]; lia),?_⟩
   obtain⟨X9,st9⟩:=za (X8.mono u1) IM (d:=.hand hh c) (cH.of ao)
   rw[<- fR IM] at X9
   exact FY _ _ ⟨_,_,X9,(My.trans SY).trans ((Step.refl' (F:=F) u1).trans st9),rfl⟩
  ·rintro σ H7 ⟨q7,v9,X7,My,rfl⟩
   refine c7 _ _ ?_
   clear c7 Nx
   rw[ah,kh] at X7
   have b7:Bd ns.length rs.length (D + 1 + 1 * hs.length) (hs.foldl (pP i hh) s1):=AI (λ_=>True) _ _ _ (λs x D _ _ b=>⟨trivial,L5 b⟩) trivial YZ
   have f7:Fr s1 (hs.foldl (pP i hh) s1):=yl (λ_ _=>FZ) _ _
   have hjt:hs.length<=20:=by
    have:=hhl.2
    have:=YZ.yJ
    lia
   have N7:=N1.done (adH.trans My) X7.cQ
   obtain⟨l7,Ot,_⟩:=f7.lt i _ Es
   have adJ:=f7.ok SX
   have hO7:mz (CD ns rs o (hs.foldl (pP i hh) s1).ws l.grp) ((hs.foldl (pP i hh) s1).R l.grp) os:=by rw[f7.ws,f7.R]; exact hO
   generalize hs.foldl (pP i hh) s1=s7 at X7 b7 Ot N7 k1 adJ hO7
   refine⟨_,rfl,tq,_,1,_,rfl,rfl,cH.of (My.kp _ _ htq nq),rfl,b2,rfl,⟨_,bJ.of (My.kp _ _ hb2 n2)⟩,As (K:=K) (a:=b2) (xs:=aV gs) (λj σ H8=>∃ (F8:Addr->Prop) (v10:Option V),NW K (nc t) t.aR H8 F8 p tp ln lr ns rs ((gs.take j).foldl (Ak rs i hh) s7)/\Step H6 F H8 F8/\σ = [some (.ref p),some (.int i),some (.int hh),some (Fi (cO.map λk:Nat=>(k:Int))),some (.ref (loc (.bS i))),some (.int l.grp),some (.ref lo),some (.ref lh),some (.ref tq),v9,v10]) ⟨F,none,N7,My,rfl⟩ (λj σ H8 _ z=>?_) ?_ ?_⟩
   ·obtain⟨F8,v10,N8,SY,rfl⟩:=z
    exact bJ.of (SY.kp _ _ hb2 n2)
   ·rintro j y σ H8 Nf FY hj ⟨F8,v10,N8,SY,rfl⟩
    have hjl:j < gs.length:=by
     have:=(ai.mp hj).1
     rw[ah] at this
     exact this
    rw[aj,aa hjl] at hj
    cases hj
    rw[KJ hjl] at FY
    have hgl:∀ r∈gs,r < rs.length:=λr hr=>(Er hO7 (hgs.1 r hr)).1
    have f8:Fr s7 ((gs.take j).foldl (Ak rs i hh) s7):=yl (λ_ _=>F0) _ _
    have b8:Bd ns.length rs.length (D + 1 + 1 * hs.length + 2 * (gs.take j).length) ((gs.take j).foldl (Ak rs i hh) s7):=AI (λs=>i < s.ls.length) _ _ _ (λs x D hx hi b=>⟨by
     obtain⟨l',e,_⟩:=(F0 (rs:=rs) (h:=hh) (i:=i) (r:=x) (s:=s)).lt i _ (aa hi)
     exact (ai.mp e).1,Rm o b hi (hgl x (List.mem_of_mem_take hx))⟩) (ai.mp Ot).1 b7
    have alj:(gs.take j).length<=12:=by
     rw[bO]
     have:=hgs.2
     lia
    obtain⟨hrl,w',hw,hwn⟩:=Er hO7 (hgs.1 _ (aL hjl))
    rw[<- f8.ws] at hw
    obtain⟨l8,IM,_⟩:=f8.lt i _ Ot
    have adK:=f8.ok adJ
    generalize (gs.take j).foldl (Ak rs i hh) s7=s8 at N8 b8 IM hw adK FY
    show gM 10 (V.int ((gs[j]:Nat):Int)) _ _ _
    generalize gs[j]=r at hrl hw FY
    obtain⟨alk,Tr,q8,hp8,O8,hF8,hT8⟩:=id N8.cQ
    have Y3:=O8.get .cQ _ rfl
    rw[hp8] at Y3
    have hdl:=(b8.lb l8 (aI IM)).1
    have hcl:=b8.cb
    have hwl:Cc l8 % w'.length < w'.length:=Nat.mod_lt _ (List.length_pos_iff.mpr hwn)
    have hwx:w'[(((Cc l8:Nat):Int) % (w'.length:Int)).toNat]?=some w'[Cc l8 % w'.length]:=by
     rw[show (((Cc l8:Nat):Int) % (w'.length:Int))=((Cc l8 % w'.length:Nat):Int) from rfl,eO]
     exact aa hwl
    have hre:=aa hrl
    refine⟨_,rfl,p,_,_,rfl,Y3,rfl,_,rfl,_,rfl,_,rfl,F8,p,tp,ln,lr,ns,rs,s8,i,hh,r,l8,rs[r],w',_,rfl,N8,o,adK,IM,by lia,by lia,hre,hw,hwx,hwn,λF9 H9 N9 st9=>?_⟩
    refine FY _ _ ⟨F9,_,?_,SY.trans st9,rfl⟩
    have e1:Rl s8.ws r (XC s8 i)=w'[Cc l8 % w'.length]:=by
     unfold Rl XC
     rw[hw,IM]
     show w'.getD (Cc l8 % w'.length) 0=_
     rw[az,aa hwl]
     rfl
    have e2:VV rs r hh=iP rs[r] hh:=by
     unfold VV
     rw[hre]
    unfold Ak
    rw[e1,e2]
    exact N9
   ·rintro σ H8 ⟨F8,v10,N8,SY,rfl⟩
    rw[ah,kh] at N8
    exact k1 F8 H8 hO h12 N8 (adH.trans SY)
theorem aaT{a b:TS}{D:Ends}{σ:L2.St}{H:Hp}(J:L2.St->Hp->Prop)(hn:∀ σ H,J σ H->b D σ H)(h:∀ N:L2.St->Hp->Prop,(∀ σ H,J σ H->N σ H)->a { D with nx:=N } σ H):Tz a b D σ H:=h _ hn
inductive Ro(C:Addr)(vs:List V)(H:Hp)(Q:VK)(E:XK):Prop
 | mk (p dx la:Addr) (g:Int):vs = [.ref p,.ref la,.int g]->H p=some (.ins C dx [])->(∀ da ea H',H da=none->H ea=none->da≠ea->H' p=some (.ins C dx [("letter",.ref la),("group",.int g),("old",.bl false),("done_at",.ref da),("deeds",.ref ea)])->H' da=some (.dK [])->H' ea=some (.lst [])->(∀ b o,H b=some o->b≠p->H' b=some o)->Q .eU H')->Ro C vs H Q E
theorem Et{t:Ad}(T:Txt K mg t):bV P w K mg base gO 1 t.iT t.kU ["self","letter","group"]  (Ro t.iX):=by
 refine T.yq.F.jo DV λH Q E hr h=>?_
 ·obtain⟨p,dx,la,g,rfl,hp,k⟩:=h
  refine⟨_,(ak (fj (pv 0) (pv 1) rfl) (ak (fj (pv 0) (pv 2) rfl) (ak (fj (pv 0) Ez rfl) (ak (fj (pv 0) Uv rfl) (aW (fj (pv 0) (gx fK) rfl)))))),?_⟩
  try dsimp only[aU]
  refine⟨_,rfl,_,rfl,p,_,dx,_,rfl,hp,T.cU,T.gA,(by decide),?_⟩
  rw[cY (names:=[]) rfl rfl]
  refine⟨_,rfl,_,rfl,p,_,dx,_,rfl,ao,T.cU,T.jO,(by show 1 < 1000; decide),?_⟩
  rw[cY (names:=["letter"]) rfl (by decide +kernel),KQ]
  refine⟨_,rfl,p,_,dx,_,rfl,ao,T.cU,T.xJ,(by show 2 < 1000; decide),?_⟩
  rw[cY (names:=["letter","group"]) rfl (by decide +kernel),KQ]
  intro da hda
  have aaU:H da=none:=by
   by_cases z:da=p
   ·subst z; rw[ao] at hda; cases hda
   ·rw[aD z] at hda; exact hda
  have nd:p≠da:=aF hp aaU
  refine⟨_,rfl,p,_,dx,_,rfl,(by rw[aD nd]; exact ao),T.cU,T.nS,(by show 3 < 1000; decide),?_⟩
  rw[cY (names:=["letter","group","old"]) rfl (by decide +kernel)]
  refine⟨br _,λea S1=>?_⟩
  have ne:ea≠p:=λz=>by subst z; rw[ao] at S1; cases S1
  rw[aD ne] at S1
  have nde:da≠ea:=λz=>by subst z; rw[ao] at S1; cases S1
  rw[aD (bK nde),aD ne] at S1
  refine⟨_,rfl,p,_,dx,_,rfl,(by rw[aD (bK ne)]; exact ao),T.cU,T.iu,(by show 4 < 1000; decide),?_⟩
  rw[cY (names:=["letter","group","old","done_at"]) rfl (by decide +kernel)]
  refine k da ea _ aaU S1 nde ao ?_ ?_ λb o e nb=>?_
  ·rw[aD (bK nd),aD nde,aD (bK nd)]; exact ao
  ·rw[aD ne]; exact ao
  ·rw[aD nb,aD (aF e S1),aD nb,aD (aF e aaU),aD nb]; exact e
noncomputable def qK(s:NS)(x:Nat)(to:Option Nat):LS:={ s:=x,to:=to.getD 0,kd:=if to.isSome=true then 1 else 2,grp:=s.groups.getD x 0,old:=false,done:=[],aQ:=[] }
noncomputable def KL(s:NS)(l:LS):NS:={ s with ls:=s.ls++[l] }
noncomputable def Iu(s:NS)(x:Nat)(to:Option Nat):NS:={ s with ls:=s.ls++[{ qK s x to with aQ:=[.post (s.bg.getD x 0)] }] }
noncomputable def KN(rs:List R5)(s:NS)(x:Nat)(to:Option Nat)(os:List Nat):NS:=Wk rs (Iu s x to) s.ls.length (s.bg.getD x 0) { qK s x to with aQ:=[.post (s.bg.getD x 0)] } none os
theorem S2{s:NS}{x:Nat}{to:Option Nat}:c6 (KL s (qK s x to)) s.ls.length (.post (s.bg.getD x 0))=Iu s x to:=by
 rw[fR (l:=qK s x to) (by show (s.ls++[_])[s.ls.length]?=_; rw[bX (au _),lX]; rfl)]
 show { s with ls:=(s.ls++[_]).set s.ls.length _ } = { s with ls:=_ }
 congr 1
 rw[List.set_append_right _ _ (au _),lX]
 rfl
theorem Dr{s:NS}{l:LS}:(s.ls++[l])[s.ls.length]?=some l:=by rw[bX (au _),lX]; rfl
theorem Rp{n m D:Nat}{s:NS}{x:Nat}{to:Option Nat}(b:Bd n m D s)(hx:x < s.bg.length):Bd n m (D + 1) (Iu s x to):=by
 have b1:=b.mono (dc D)
 refine⟨b1.gl,b1.yJ,b1.g3,b1.hm,b1.hl,b1.hb,?_,λl z=>?_,b1.cb,λc z=>?_,b1.tb⟩
 ·show (s.ls++[_]).length<=_
  rw[av]
  exact jl b.ll 1
 ·rcases bG.mp z with y | y
  ·exact b1.lb l y
  ·rw[bz] at y
   subst y
   refine⟨?_,br _,?_,?_⟩
   ·show 1 + s.cps.length<=D + 1
    have:=b.cb
    lia
   ·show s.groups.getD x 0 < 3
    have hg:x < s.groups.length:=by rw[b.gl]; exact hx
    rw[az,aa hg]
    exact b.g3 _ (aL hg)
   ·show (if _ then (1:Int) else 2)=1∨(if _ then (1:Int) else 2)=2
    split
    ·exact .inl rfl
    ·exact .inr rfl
 ·obtain⟨h1,h2⟩:=b.cl c z
  refine⟨?_,h2⟩
  show c.l < (s.ls++[_]).length
  rw[av]
  exact bx h1 (wK _ _)
inductive Rq(K:af)(CT:Addr)(c:NC)(vs:List V)(H:Hp)(Q:VK)(E:XK):Prop
 | mk (F:Addr->Prop) (p tp ln lr:Addr) (ns:List Int) (rs:List R5) (s:NS) (o:fq ns rs) (x:Nat) (to:Option Nat) (D:Nat):vs = [.ref p,.int x,Fi (to.map λy:Nat=>(y:Int))]->NW K c CT H F p tp ln lr ns rs s->y9 ns rs s->Bd ns.length rs.length D s->D<=800000->x < s.bg.length->(∀ y,to=some y->y < s.bg.length/\s.groups[y]?=s.groups[x]?)->(∀ os F' H',mz (CD ns rs o s.ws (s.groups.getD x 0)) (s.R (s.groups.getD x 0)) os->os.length<=12->NW K c CT H' F' p tp ln lr ns rs (KN rs s x to os)->Step H F H' F'->Q (.int s.ls.length) H')->Rq K CT c vs H Q E
theorem NZ{t:Ad}(T:Txt K mg t):bV P w K mg base gO 8 t.iI t.xD ["self","sender","to"]  (Rq K t.aR (nc t)):=by
 refine T.sM.jo tZ λH Q E hr h=>?_
 ·obtain⟨F,p,tp,ln,lr,ns,rs,st,o,x,to,D,rfl,N,yi,bd,hD,hx,hto,k⟩:=h
  refine⟨_,(ak (dY (cM (pv 0) T.bD T.wk (Dm T) hr (mH (pv 1) (pv 2)))) (ak (sS 3 tZ (yM (qT T8 (pv 2) nK) (Qh T.Xg (wC T) (hr.mono (by decide)) rfl T.Xf T.qd.B .nil mj (fV (pv 1))) (cI T.zC (FG T) hr T.Xe (mH (pv 1) (pv 2))))) (ak (sS 4 tZ (lS T.jQ (aO (pv 0) rfl))) (ak (dY (rR bf bq bh eS (aO (pv 0) rfl) (fV (cI T.yq (Et T) hr T.Vr (mH (pv 3) (xL (aO (pv 0) rfl) (pv 1))))))) (ak (sS 5 tZ (xL (aO (pv 0) rfl) (pv 1))) (ak (dY (rR bf bq bh eS (aO (xL (aO (pv 0) rfl) (pv 4)) rfl) (fV (f6 (mH pT (pv 5)))))) (ak (dY (cM (pv 0) T.bD T.qe (wI T) hr (J2 (pv 4) (pv 5) nK))) (oR (pv 4))))))))),?_⟩
  try dsimp only[aU]
  obtain⟨loc,dx,q,hp,O,hF,hT⟩:=id N.cQ
  have bQ:=O.get .cQ _ rfl
  rw[hp] at bQ
  have hxg:x < st.groups.length:=by rw[bd.gl]; exact hx
  refine b5 λNx c7=>?_
  refine⟨_,rfl,p,_,_,rfl,bQ,rfl,_,rfl,_,rfl,F,p,tp,ns.length,x,to,st,rfl,N.cQ,hx,bd.gl,hto,c7 _ _ ?_⟩
  clear c7 Nx
  refine aaT (λσ H1=>∃ la Lk,aC H H1/\H la=none/\H1 la=some (qP (nc t) Lk (qK st x to))/\σ = [some (.ref p),some (.int x),some (Fi (to.map λy:Nat=>(y:Int))),some (.ref la),none,none]) ?_ (λN hN=>?_)
  rotate_left
  ·cases to with
   | none =>
    refine⟨_,rfl,rfl,_,rfl,eW ?_⟩
    refine⟨_,rfl,λz dz hz hdz hne=>⟨z,_,dz,x,rfl,ao,T.xH,T.nj,rfl,?_⟩⟩
    exact hN _ _ ⟨z,dz,made hz hdz hne,hz,ao,rfl⟩
   | some y =>
    refine⟨_,rfl,rfl,_,rfl,fk ?_⟩
    refine⟨_,rfl,_,rfl,λz dz hz hdz hne=>⟨z,dz,x,y,rfl,ao,λH3 hy3 kp=>⟨rfl,?_⟩⟩⟩
    exact hN _ _ ⟨z,dz,λb u e=>kp b u (((aC.new hdz).trans (aC.new (by rw[aD (bK hne)]; exact hz))) b u e) (aF e hz),hz,hy3,rfl⟩
  rintro σ H1 ⟨la,Lk,s1,aaV,hla,rfl⟩
  have iA:=s1 _ _ bQ
  have N1:=N.mono s1
  obtain⟨O1,T1⟩:=And.intro (O.mono s1) (hT.mono λb x=>s1.dB (a:=b) (xs:=x))
  have XE:=O1.get .cE _ rfl
  refine b5 λNx c7=>?_
  refine⟨_,rfl,p,_,_,_,_,rfl,iA,T.bD,T.eZ,rfl,loc .cE,_,rfl,.inl (bJ.of XE),?_⟩
  rw[ah,bH]
  refine c7 _ _ ?_
  clear c7 Nx
  refine b5 λNx c7=>?_
  refine⟨_,rfl,p,_,_,_,_,rfl,iA,T.bD,T.eZ,rfl,.inl ⟨rfl,_,bJ.of XE⟩,_,rfl,_,rfl,p,_,_,_,_,rfl,iA,T.bD,T.nv,rfl,_,rfl,loc .groups,_,_,_,rfl,rfl,bJ.of (O1.get .groups _ rfl),vL hxg,λpa Dv hpa XF XG=>⟨pa,Dv,la,_,rfl,ao,λda ea H2 hda S1 nde h2p h2d h2e L8=>⟨rfl,?_⟩⟩⟩
  have s12:aC H1 H2:=λb u e=>L8 b u (((aC.new XF).trans (aC.new (by rw[aD (bK XG)]; exact hpa))) b u e) (aF e hpa)
  have da0:H1 da=none:=by
   cases e:H1 da with
   | none=>rfl
   | some u =>
    have:=((aC.new (o:=.own pa) XF).trans (aC.new (o:=.ins t.iX Dv []) (by rw[aD (bK XG)]; exact hpa))) _ _ e
    rw[hda] at this
    cases this
  have ea0:H1 ea=none:=by
   cases e:H1 ea with
   | none=>rfl
   | some u =>
    have:=((aC.new (o:=.own pa) XF).trans (aC.new (o:=.ins t.iX Dv []) (by rw[aD (bK XG)]; exact hpa))) _ _ e
    rw[S1] at this
    cases this
  have nF:∀ {b},H1 b=none->¬ F b:=λ{b} e z=>by
   obtain⟨u,e'⟩:=N1.cQ.there z
   rw[e] at e'
   cases e'
  have nFl:¬ F la:=λz=>by
   obtain⟨u,e'⟩:=N.cQ.there z
   rw[aaV] at e'
   cases e'
  have npd:pa≠da:=λz=>by rw[<- z,ao] at hda; cases hda
  have npe:pa≠ea:=λz=>by rw[<- z,ao] at S1; cases S1
  have YO:∀ {b},H1 b=none->la≠b:=λ{b} e=>aF hla e
  have eg:st.groups.getD x 0=st.groups[x]:=by rw[az,aa hxg]; rfl
  have adL:=s12 _ _ XE
  refine⟨loc .cE,_,_,rfl,rfl,adL,vF (by rw[ah,bH]; have:=bd.ll; lia),?_⟩
  obtain⟨F3,N3,kp3,fr3⟩:=U8 (l:=qK st x to) (Dv:=Dv) (Lk:=Lk) (pa:=pa) (la:=la) (da:=da) (ea:=ea) hp (O1.mono s12) hF (T1.mono λb x=>s12.dB (a:=b) (xs:=x)) rfl (by show _=some (HO.ins _ _ [_,(_,V.int ((st.groups.getD x 0:Nat):Int)),_,_,_]); rw[eg]; exact h2p) (s12 _ _ hla) h2d h2e (bK (YO hpa)) npd npe (YO da0) (YO ea0) nde (nF hpa) nFl (nF da0) (nF ea0)
  have st3:Step H F _ F3:=⟨λb u e z=>kp3 b u (s12 _ _ (s1 _ _ e)) z,λb z=>by
   rcases fr3 b z with y | rfl | rfl | rfl | rfl
   ·exact .inl y
   ·exact .inr (s1.free hpa)
   ·exact .inr aaV
   ·exact .inr (s1.free da0)
   ·exact .inr (s1.free ea0)⟩
  have W3:=N.done st3 N3
  generalize upd H2 (loc .cE) (.lst (((aq st.ls.length).map λi=>V.ref (loc (.bS i)))++[.ref pa]))=H3 at st3 W3 N3
  refine c7 _ _ ?_
  clear c7 Nx
  clear kp3 fr3 adL YO npe npd nFl nF ea0 da0 s12 L8 h2e h2d h2p nde S1 hda XG XF hpa XE T1 O1 N1 iA hla aaV s1 bQ hT hF O hp
  obtain⟨Ik,YL,q3,hp3,O3,hF3,hT3⟩:=id W3.cQ
  have X3:jV K (nc t) H3 F3 Ik YL q3 p tp ns.length (KL st (qK st x to)):=⟨hp3,O3,hF3,hT3⟩
  have Dq:=O3.get .cQ _ rfl
  rw[hp3] at Dq
  have hl3:(KL st (qK st x to)).ls[st.ls.length]?=some (qK st x to):=Dr
  have XH:st.ls.length < (KL st (qK st x to)).ls.length:=(ai.mp hl3).1
  have eh:st.bg.getD x 0=st.bg[x]:=by rw[az,aa hx]; rfl
  refine b5 λNx c7=>?_
  refine⟨_,rfl,p,_,_,_,_,rfl,Dq,T.bD,T.pO,rfl,_,rfl,Ik .bg,_,_,_,rfl,rfl,bJ.of (O3.get .bg _ rfl),vL hx,c7 _ _ ?_⟩
  clear c7 Nx
  have VX:=O3.get (.bS st.ls.length) (mG (nc t) YL Ik st.ls.length (qK st x to)) (by show ((KL st (qK st x to)).ls[st.ls.length]?.map _)=_; rw[hl3]; rfl)
  have adM:=O3.get (.aQ st.ls.length) (.lst ((q3.dq st.ls.length).map V.ref)) (by show ((KL st (qK st x to)).ls[st.ls.length]?.map _)=_; rw[hl3]; rfl)
  have Mc:=(X3.tup.aQ _ _ hl3).len
  rw[ah] at Mc
  refine b5 λNx c7=>?_
  refine⟨_,rfl,p,_,_,_,_,rfl,Dq,T.bD,T.eZ,rfl,_,rfl,Ik .cE,_,_,_,rfl,rfl,bJ.of (O3.get .cE _ rfl),ly XH,Ik (.bS st.ls.length),_,_,_,_,rfl,VX,T.cU,T.iu,rfl,.inl ⟨rfl,_,bJ.of adM⟩,_,rfl,(by show 2<=sizeLine; decide),λz1 hz1=>?_⟩
  have u1:=aC.new (o:=.tup [V.str "post",V.int (st.bg[x]:Nat)]) hz1
  refine⟨Ik (.aQ st.ls.length),_,_,rfl,rfl,u1 _ _ adM,vF (by rw[ah,Mc]; exact br _),?_⟩
  obtain⟨X4,IL⟩:=za (X3.mono u1) hl3 (d:=.post st.bg[x]) (cH.of ao)
  rw[<- fR hl3,<- eh,S2] at X4
  rw[<- eh] at IL u1
  rw[<- eh]
  have aaW:=st3.trans ((Step.refl' (F:=F3) u1).trans IL)
  have W4:=N.done aaW X4.cQ
  generalize upd (upd H3 z1 (.tup [V.str "post",V.int (st.bg.getD x 0:Nat)])) (Ik (.aQ st.ls.length)) (.lst ((q3.dq st.ls.length).map V.ref++[.ref z1]))=H4 at X4 aaW W4
  refine c7 _ _ ?_
  clear c7 Nx
  have Ai:=X4.own.get .cQ _ rfl
  rw[X4.hp] at Ai
  have aaX:y9 ns rs (Iu st x to):=⟨yi.wl,yi.w4,yi.fit⟩
  refine b5 λNx c7=>?_
  refine⟨_,rfl,p,_,_,rfl,Ai,rfl,_,rfl,_,rfl,F3,p,tp,ln,lr,ns,rs,Iu st x to,o,st.ls.length,st.bg.getD x 0,none,{ qK st x to with aQ:=[.post (st.bg.getD x 0)] },D + 1,rfl,W4,aaX,Rp bd hx,by lia,Dr,λos F5 H5 hO h12 W5 Ol=>?_⟩
  exact c7 _ _ ⟨_,rfl,k os F5 H5 hO h12 W5 (aaW.trans Ol)⟩
theorem Y4{ns:List Int}{rs:List R5}(o:fq ns rs){D:Nat}{s:NS}{i h:Nat}{l:LS}{cO:Option Nat}{os:List Nat}(b:Bd ns.length rs.length D s)(hl:s.ls[i]?=some l)(O:mz (CD ns rs o s.ws l.grp) (s.R l.grp) os)(h12:os.length<=12):Bd ns.length rs.length (D + 45) (Wk rs s i h l cO os):=by
 have b1:=Rk (h:=h) b hl
 have f1:=L4 (h:=h) hl
 have b2:Bd ns.length rs.length (D + 1 + 1 * (wH s l h).length) ((wH s l h).foldl (pP i h) (eN s i h l)):=AI (λ_=>True) _ _ _ (λs x D _ _ b=>⟨trivial,L5 b⟩) trivial b1
 have f2:Fr (eN s i h l) ((wH s l h).foldl (pP i h) (eN s i h l)):=yl (λ_ _=>FZ) _ _
 obtain⟨l2,hl2,_⟩:=(f1.trans f2).lt i l hl
 have h1:=(NY (s:=s) (l:=l) (h:=h)).2
 have h2:=b.yJ
 have hs:=Rn (rs:=rs) (s:=s) (l:=l) (h:=h) (cO:=cO) (os:=os)
 have h3:=hs.2
 have b3:=AI (k:=2) (f:=Ak rs i h) (λs=>i < s.ls.length) (SW rs s l h cO os) _ _ (λs x D hx hi b=>⟨by
  obtain⟨l',e,_⟩:=(F0 (rs:=rs) (h:=h) (i:=i) (r:=x) (s:=s)).lt i _ (aa hi)
  exact (ai.mp e).1,Rm o b hi (Er O (hs.1 x hx)).1⟩) (ai.mp hl2).1 b2
 exact b3.mono (by lia)
noncomputable def Bf(l:LS)(cp:Cp)(os:List Nat):Str:=if cp.r∈os then (if Iq l cp.h=true then "twice" else "come") else "lost"
noncomputable def yF(l:LS)(cp:Cp)(os:List Nat):AL:=if cp.r∈os then (if Iq l cp.h=true then .twice cp.h cp.r else .acC cp.h cp.r) else .UZ cp.h cp.r
theorem XI{l:LS}{cp:Cp}{os:List Nat}:(yF l cp os).vs = [.str (Bf l cp os),.int cp.h,.int cp.r]:=by
 unfold yF Bf
 split
 ·split <;> rfl
 ·rfl
noncomputable def comes(l:LS)(cp:Cp)(os:List Nat):Bool:=decide (cp.r∈os) && !Iq l cp.h
theorem S3{l:LS}{cp:Cp}{os:List Nat}:decide (V.str (Bf l cp os)=V.str "come")=comes l cp os:=by
 unfold Bf comes
 by_cases e:cp.r∈os
 ·rw[if_pos e,decide_eq_true e]
  cases Iq l cp.h
  ·rw[if_neg (by decide)]; decide +kernel
  ·rw[if_pos rfl]; decide +kernel
 ·rw[if_neg e,decide_eq_false e,Bool.false_and]; decide +kernel
noncomputable def Oa(s:NS)(a:Nat):NS:={ s with cps:=s.cps.eraseIdx a }
noncomputable def Rr(s:NS)(g:Nat)(ts:List T3):NS:={ s with ts:=gz s.ts g ts }
noncomputable def uw(s:NS)(a:Nat)(cp:Cp)(l:LS)(os:List Nat):NS:={ s with cps:=s.cps.eraseIdx a,ls:=s.ls.set cp.l { l with aQ:=l.aQ++[yF l cp os] } }
noncomputable def je(s:NS)(a:Nat)(cp:Cp)(l:LS)(os:List Nat)(ts:List T3):NS:=if l.old=true then uw s a cp l os else Rr (uw s a cp l os) l.grp ts
noncomputable def Al(rs:List R5)(s:NS)(a:Nat)(cp:Cp)(l:LS)(os:List Nat)(ts:List T3):NS :=
 if comes l cp os=true then Wk rs (je s a cp l os ts) cp.l cp.h { l with aQ:=l.aQ++[yF l cp os] } (some cp.r) os else uw s a cp l os
theorem Eu{n m D:Nat}{s:NS}{a:Nat}{cp:Cp}{l:LS}{os:List Nat}(b:Bd n m D s)(hl:s.ls[cp.l]?=some l)(ha:a < s.cps.length):Bd n m (D + 1) (uw s a cp l os):=by
 have el:(s.cps.eraseIdx a).length + 1=s.cps.length:=by
  rw[List.length_eraseIdx,if_pos ha]
  lia
 refine b.set 1 hl (by lia) (.inl (by lia)) (au _) ?_ (dc _) rfl rfl (λc z=>.inl (List.mem_of_mem_eraseIdx z)) rfl (λw z=>jr (b.hb w z))
 show (l.aQ++[_]).length + _<=_
 rw[av]
 show l.aQ.length + 1 + _<=_
 lia
theorem VY{ts ts':List T3}{h c r:Int}(p:ts'.Perm (put3 ts h c r)):ts'.length<=ts.length + 1:=by
 rw[p.length_eq]
 unfold put3
 rw[av]
 exact jl (bB _ _) 1
theorem XJ{n m D:Nat}{s:NS}{g:Nat}{ts:List T3}{h c r:Int}(b:Bd n m D s)(p:ts.Perm (put3 (s.ts g) h c r))(oe:gE ts):Bd n m (D + 50) (Rr s g ts):=by
 have b1:=b.mono (wK D 50)
 refine⟨b1.gl,b1.yJ,b1.g3,b1.hm,b1.hl,b1.hb,b1.ll,b1.lb,b1.cb,b1.cl,λg'=>?_⟩
 show 50 * (gz s.ts g ts g').length<=_/\gE (gz s.ts g ts g')
 by_cases z:g'=g
 ·subst z
  rw[cJ]
  refine⟨?_,oe⟩
  have:=VY p
  have:=(b.tb g').1
  lia
 ·rw[eK z]
  exact b1.tb g'
theorem Ew{s:NS}{a:Nat}{cp:Cp}{l:LS}{os:List Nat}(hl:s.ls[cp.l]?=some l):(uw s a cp l os).ls[cp.l]?=some { l with aQ:=l.aQ++[yF l cp os] }:=by
 show (s.ls.set cp.l _)[cp.l]?=_
 rw[jd (ai.mp hl).1,if_pos rfl]
theorem Iv{s:NS}{a:Nat}{cp:Cp}{l:LS}{os:List Nat}{ts:List T3}(hl:s.ls[cp.l]?=some l):(je s a cp l os ts).ls[cp.l]?=some { l with aQ:=l.aQ++[yF l cp os] }:=by
 unfold je
 split
 ·exact Ew hl
 ·exact Ew (a:=a) hl
theorem Iw{s:NS}{a:Nat}{cp:Cp}{l:LS}{os:List Nat}{ts:List T3}:(je s a cp l os ts).ws=s.ws/\(je s a cp l os ts).R=s.R/\(je s a cp l os ts).bg=s.bg/\(je s a cp l os ts).groups=s.groups:=by
 unfold je
 split <;> exact⟨rfl,rfl,rfl,rfl⟩
theorem Ob{n m D:Nat}{s:NS}{a:Nat}{cp:Cp}{l:LS}{os:List Nat}{ts:List T3}{h c r:Int}(b:Bd n m D s)(hl:s.ls[cp.l]?=some l)(ha:a < s.cps.length)(p:ts.Perm (put3 (s.ts l.grp) h c r))(oe:gE ts):Bd n m (D + 51) (je s a cp l os ts):=by
 unfold je
 split
 ·exact (Eu b hl ha).mono (by lia)
 ·exact (XJ (h:=h) (c:=c) (r:=r) (Eu b hl ha) p oe).mono (by lia)
theorem XM{ns:List Int}{rs:List R5}(o:fq ns rs){D:Nat}{s:NS}{a:Nat}{cp:Cp}{l:LS}{os:List Nat}{ts:List T3}{h c r:Int}(b:Bd ns.length rs.length D s)(hl:s.ls[cp.l]?=some l)(ha:a < s.cps.length)(O:mz (CD ns rs o s.ws l.grp) (s.R l.grp) os)(h12:os.length<=12)(p:ts.Perm (put3 (s.ts l.grp) h c r))(oe:gE ts):Bd ns.length rs.length (D + 100) (Al rs s a cp l os ts):=by
 unfold Al
 split
 ·have e:=Iw (s:=s) (a:=a) (cp:=cp) (l:=l) (os:=os) (ts:=ts)
  exact (Y4 o (Ob (h:=h) (c:=c) (r:=r) b hl ha p oe) (Iv hl) (by rw[e.1,e.2.1]; exact O) h12).mono (by lia)
 ·exact (Eu b hl ha).mono (by lia)
theorem _root_.TW.dR.erase{H:Hp}{qs:List Addr}{xs:List (List V)}(h:dR K H qs xs)(a:Nat):dR K H (qs.eraseIdx a) (xs.eraseIdx a):=by
 refine⟨by rw[List.length_eraseIdx,List.length_eraseIdx,h.len],λi q x e1 e2=>?_⟩
 rw[List.getElem?_eraseIdx] at e1 e2
 by_cases z:i < a
 ·rw[if_pos z] at e1 e2
  exact h.at' i q x e1 e2
 ·rw[if_neg z] at e1 e2
  exact h.at' (i + 1) q x e1 e2
theorem Ex{α β:Type}(f:α->β):∀ (xs:List α) (a:Nat),(xs.map f).eraseIdx a=(xs.eraseIdx a).map f
 | [],_=>rfl
 | _ :: _,0=>rfl
 | x :: xs,a + 1=>congrArg (f x :: ·) (Ex f xs a)
theorem VZ{c:NC}{H H':Hp}{F:Addr->Prop}{loc dx:Role->Addr}{q:TQ}{p tp:Addr}{n g:Nat}{s:NS}(X:jV K c H F loc dx q p tp n s)(hg:g < 3)(ts:List T3)(h1:H' (loc (.eF g))=some (.dT (ts.map iz)))(kp:∀ b o,H b=some o->b≠loc (.eF g)->H' b=some o) :
 jV K c H' F loc dx q p tp n (Rr s g ts)/\Step H F H' F:=by
 obtain⟨X1,st1⟩:=Av X (r:=.eF g) (o:=.dT (ts.map iz)) (q':=q) (s':=Rr s g ts) (by show (if g < 3 then some _ else none)≠none; rw[if_pos hg]; exact aM _) (λx=>by
  cases x <;> first | rfl | skip
  rename_i k
  show gF (desc c dx tp loc q s) (.eF g) _ (.eF k)=(if k < 3 then some (HO.dT ((gz s.ts g ts k).map iz)) else none)
  by_cases z:k=g
  ·subst z
   rw[cW,if_pos hg,cJ]
  ·rw[b9 (λe=>z (by cases e; rfl)),eK z]
   rfl) (λkt=>⟨λg hg=>(X.tup.rows g hg).mono kt,λk l e=>(X.tup.aQ k l e).mono kt,X.tup.cps.mono kt⟩)
 have sm:aC (upd H (loc (.eF g)) (.dT (ts.map iz))) H':=λb u e=>by
  by_cases z:b=loc (.eF g)
  ·rw[z,ao] at e
   cases e
   rw[z]
   exact h1
  ·rw[aD z] at e
   exact kp b u e z
 exact⟨X1.mono sm,st1.trans (Step.refl' sm)⟩
theorem XN{t:Ad}(T:Txt K mg t){dx loc:Role->Addr}{σ:L2.St}{H:Hp}{Q:VK}{i:Nat}{l:LS}(h6:∀ Q:VK,Q (.ref (loc (.bS i))) H->KU 6 σ H Q)(J5:H (loc (.bS i))=some (mG (nc t) dx loc i l))(hle:H (loc (.letter i))=some (qP (nc t) (dx (.letter i)) l))(q:Q (.int l.s) H) :
 Gj K (Gj K (KU 6) (Str.ofString "letter")) (Str.ofString "sender") σ H Q:=by
 by_cases e:l.kd=1
 ·have L3:H (loc (.letter i))=some (.ins t.fE (dx (.letter i)) [("sender",.int l.s),("to",.int l.to)]):=by rw[hle]; unfold qP; rw[if_pos e]
  unfold Gj
  exact (h6 _ ⟨loc (.bS i),_,_,_,_,rfl,J5,T.cU,T.gA,rfl,loc (.letter i),_,dx (.letter i),_,_,rfl,L3,T.oU,T.sN,rfl,q⟩)
 ·have L3:H (loc (.letter i))=some (.ins t.iJ (dx (.letter i)) [("sender",.int l.s)]):=by rw[hle]; unfold qP; rw[if_neg e]
  unfold Gj
  exact (h6 _ ⟨loc (.bS i),_,_,_,_,rfl,J5,T.cU,T.gA,rfl,loc (.letter i),_,dx (.letter i),_,_,rfl,L3,T.xH,T.nj,rfl,q⟩)
inductive Rt(K:af)(CT:Addr)(c:NC)(vs:List V)(H:Hp)(Q:VK)(E:XK):Prop
 | mk (F:Addr->Prop) (p tp ln lr:Addr) (ns:List Int) (rs:List R5) (s:NS) (o:fq ns rs) (a D:Nat) (cp:Cp) (l:LS):vs = [.ref p,.int a]->NW K c CT H F p tp ln lr ns rs s->y9 ns rs s->Bd ns.length rs.length D s->D<=400000->s.cps[a]?=some cp->s.ls[cp.l]?=some l->(∀ os ts F' H',mz (CD ns rs o s.ws l.grp) (s.R l.grp) os->os.length<=12->ts.Perm (put3 (s.ts l.grp) cp.h l.s cp.r)->gE ts->NW K c CT H' F' p tp ln lr ns rs (Al rs s a cp l os ts)->Step H F H' F'->Q (.str (Bf l cp os)) H')->Rt K CT c vs H Q E
theorem Iz{t:Ad}(T:Txt K mg t):bV P w K mg base gO 8 t.eY t.oQ ["self","at"]  (Rt K t.aR (nc t)):=by
 refine T.kJ.jo gj λH Q E hr h=>?_
 ·obtain⟨F,p,tp,ln,lr,ns,rs,st,o,a,D,cp,l,rfl,N,yi,bd,hD,hcp,hli,k⟩:=h
  refine⟨_,(ak (cC (jx (jy qG tR aA (pv 1) (lS T.jQ (aO (pv 0) rfl)))) dN aX) (ak (sS 2 gj (rR bf PySem.F.slot_list_pop PySem.F.type_list_pop Us (aO (pv 0) rfl) (fV (pv 1)))) (ak (sS 3 gj (xT (pv 2) aA)) (ak (sS 4 gj (xT (pv 2) aA)) (ak (sS 5 gj (xT (pv 2) aA)) (ak (sS 6 gj (xL (aO (pv 0) rfl) (pv 3))) (ak (sS 7 gj (cM (pv 0) T.bD T.A0 (Ir T) hr (J2 (pv 6) (pv 4) (pv 5)))) (ak (dY (rR bf bq bh eS (aO (pv 6) rfl) (fV (f6 (J2 (pv 7) (pv 5) (pv 4)))))) (ak (cC (qT yO (pv 7) pT) (ak (cC (jx (nL (aO (pv 6) rfl))) (oE (cM (xL (aO (pv 0) rfl) (aO (pv 6) rfl)) T.xK T.CO (Jv T) hr (J2 (pv 5) (aO (aO (pv 6) rfl) rfl) (pv 4)))) aX) (oE (cM (pv 0) T.bD T.qe (wI T) hr (J2 (pv 3) (pv 5) (pv 4))))) aX) (oR (pv 7))))))))))),?_⟩
  try dsimp only[aU]
  obtain⟨loc,dx,q,hp,O,hF,hT⟩:=id N.cQ
  have X:jV K (nc t) H F loc dx q p tp ns.length st:=⟨hp,O,hF,hT⟩
  have bQ:=O.get .cQ _ rfl
  rw[hp] at bQ
  have hal:=(ai.mp hcp).1
  have hil:=(ai.mp hli).1
  have hcb:=bd.cb
  obtain⟨lb1,lb2,hg,lkd⟩:=bd.lb l (aI hli)
  obtain⟨ts,Yz,pts,aaY⟩:=Pc (h:=(cp.h:Int)) (c:=(l.s:Int)) (r:=(cp.r:Int)) (List.Perm.refl (st.ts l.grp)) (bd.tb l.grp).2
  have hco:=O.get .d8 _ rfl
  have YW:q.cq.length=st.cps.length:=by
   have z:=hT.cps.len
   rw[ah] at z
   exact z
  have haq:a < q.cq.length:=by lia
  refine b5 λNx c7=>?_
  refine⟨_,rfl,_,_,rfl,rfl,_,rfl,?_⟩
  rw[decide_eq_true (show (0:Int)<=(a:Int) by lia)]
  refine eW ⟨_,rfl,p,_,_,_,_,rfl,bQ,T.bD,T.iK,rfl,loc .d8,_,rfl,.inl (bJ.of hco),_,_,rfl,rfl,_,rfl,?_⟩
  rw[ah,YW,decide_eq_true (show (a:Int) < (st.cps.length:Int) by lia)]
  refine fk (c7 _ _ ?_)
  clear c7 Nx
  refine b5 λNx c7=>?_
  refine⟨_,rfl,p,_,_,_,_,rfl,bQ,T.bD,T.iK,rfl,.inl ⟨rfl,_,bJ.of hco⟩,_,rfl,loc .d8,_,a,a,_,rfl,rfl,hco,(by lia),(by lia),(K7 (by rw[ah,YW]; exact Cy hal)).1,(by rw[aj,aa haq]; rfl),?_⟩
  have htu:cH K H q.cq[a] cp.vs:=hT.cps.at' a _ _ (aa haq) (by rw[aj,hcp]; rfl)
  obtain⟨X1,st1⟩:=QG X (qs:=q.cq.eraseIdx a) (cps:=st.cps.eraseIdx a) (by rw[<- Ex]; exact hT.cps.erase a)
  rw[Ex]
  have S4:cH K _ q.cq[a] cp.vs:=N.cQ.tup st1.kp htu
  generalize upd H (loc .d8) (.lst ((q.cq.eraseIdx a).map V.ref))=H1 at X1 st1 S4
  generalize q.cq[a]=qa at S4
  refine c7 _ _ ?_
  clear c7 Nx
  have es:{ st with cps:=st.cps.eraseIdx a }=Oa st a:=rfl
  rw[es] at X1
  have Es:(Oa st a).ls[cp.l]?=some l:=hli
  have N1:=N.done st1 X1.cQ
  clear htu haq YW hco bQ X hT hF O hp es
  have iA:=X1.own.get .cQ _ rfl
  rw[X1.hp] at iA
  have adO:=X1.own.get (.bS cp.l) (mG (nc t) dx loc cp.l l) (by show ((Oa st a).ls[cp.l]?.map _)=_; rw[Es]; rfl)
  refine b5 λNx c7=>?_
  refine⟨_,rfl,qa,_,0,_,rfl,rfl,S4,rfl,c7 _ _ ?_⟩
  clear c7 Nx
  refine b5 λNx c7=>?_
  refine⟨_,rfl,qa,_,1,_,rfl,rfl,S4,rfl,c7 _ _ ?_⟩
  clear c7 Nx
  refine b5 λNx c7=>?_
  refine⟨_,rfl,qa,_,3,_,rfl,rfl,S4,rfl,c7 _ _ ?_⟩
  clear c7 Nx
  refine b5 λNx c7=>?_
  refine⟨_,rfl,p,_,_,_,_,rfl,iA,T.bD,T.eZ,rfl,_,rfl,loc .cE,_,_,_,rfl,rfl,bJ.of (X1.own.get .cE _ rfl),ly hil,c7 _ _ ?_⟩
  clear c7 Nx
  have SX:y9 ns rs (Oa st a):=⟨yi.wl,yi.w4,yi.fit⟩
  refine b5 λNx c7=>?_
  refine⟨_,rfl,p,_,_,rfl,iA,rfl,_,rfl,_,rfl,_,rfl,F,loc,dx,_,p,tp,ln,lr,ns,rs,Oa st a,o,cp.l,cp.r,cp.h,l,rfl,X1,N1,SX,Es,hg,λos H2 s2 hO h12=>?_⟩
  have ef:(if cp.r∈os then (if Iq l cp.h=true then "twice" else "come") else "lost" : Str)=Bf l cp os:=rfl
  rw[ef]
  refine c7 _ _ ?_
  clear c7 Nx
  have k:=k os ts
  have X2:=X1.mono s2
  have adP:=s2 _ _ adO
  have aaZ:=X2.own.get (.aQ cp.l) (.lst ((q.dq cp.l).map V.ref)) (by show ((Oa st a).ls[cp.l]?.map _)=_; rw[Es]; rfl)
  have Mc:=(X2.tup.aQ cp.l _ Es).len
  rw[ah] at Mc
  have Mc:(q.dq cp.l).length=l.aQ.length:=Mc
  refine b5 λNx c7=>?_
  refine⟨_,rfl,loc (.bS cp.l),_,_,_,_,rfl,adP,T.cU,T.iu,rfl,.inl ⟨rfl,_,bJ.of aaZ⟩,_,rfl,_,rfl,_,rfl,(by show 3<=sizeLine; decide),λz1 hz1=>?_⟩
  have u1:=aC.new (o:=.tup [V.str (Bf l cp os),V.int cp.h,V.int cp.r]) hz1
  refine⟨loc (.aQ cp.l),_,_,rfl,rfl,u1 _ _ aaZ,vF (by rw[ah,Mc]; lia),?_⟩
  obtain⟨X3,st3⟩:=za (X2.mono u1) Es (d:=yF l cp os) (by rw[XI]; exact cH.of ao)
  have V0:=(st1.trans (Step.refl' (F:=F) (s2.trans u1))).trans st3
  generalize upd (upd H2 z1 (.tup [V.str (Bf l cp os),V.int cp.h,V.int cp.r])) (loc (.aQ cp.l)) (.lst ((q.dq cp.l).map V.ref++[.ref z1]))=H3 at X3 V0
  refine c7 _ _ ?_
  clear c7 Nx
  have es:{ Oa st a with ls:=(Oa st a).ls.set cp.l { l with aQ:=l.aQ++[yF l cp os] } }=uw st a cp l os:=rfl
  rw[es] at X3
  clear es st3 u1 hz1 Mc aaZ adP X2 s2 adO iA X1 st1 S4 N1 Es
  have Dq:=X3.own.get .cQ _ rfl
  rw[X3.hp] at Dq
  have XH:=Ew (a:=a) (os:=os) hli
  have VX:=X3.own.get (.bS cp.l) (mG (nc t) dx loc cp.l { l with aQ:=l.aQ++[yF l cp os] }) (by show ((uw st a cp l os).ls[cp.l]?.map _)=_; rw[XH]; rfl)
  have ahj:=X3.own.get (.letter cp.l) (qP (nc t) (dx (.letter cp.l)) { l with aQ:=l.aQ++[yF l cp os] }) (by show ((uw st a cp l os).ls[cp.l]?.map _)=_; rw[XH]; rfl)
  have N3:=N.done V0 X3.cQ
  refine⟨_,rfl,rfl,_,rfl,?_⟩
  rw[S3]
  by_cases e:comes l cp os=true
  ·have k:∀ F' H',NW K (nc t) t.aR H' F' p tp ln lr ns rs (Wk rs (je st a cp l os ts) cp.l cp.h { l with aQ:=l.aQ++[yF l cp os] } (some cp.r) os)->Step H F H' F'->Q (.str (Bf l cp os)) H':=λF' H' W z=>k F' H' hO h12 pts aaY (by unfold Al; rw[if_pos e]; exact W) z
   rw[e]
   refine eW ?_
   refine ou (λσ H4=>jV K (nc t) H4 F loc dx { q with cq:=q.cq.eraseIdx a,dq:=gz q.dq cp.l (q.dq cp.l++[z1]) } p tp ns.length (je st a cp l os ts)/\Step H F H4 F/\σ = [some (.ref p),some (.int a),some (.ref qa),some (.int cp.l),some (.int cp.r),some (.int cp.h),some (.ref (loc (.bS cp.l))),some (.str (Bf l cp os))]) ?_ (λN' hN=>?_)
   ·rintro σ H4 ⟨X4,IL,rfl⟩
    have Ai:=X4.own.get .cQ _ rfl
    rw[X4.hp] at Ai
    have ew:=Iw (s:=st) (a:=a) (cp:=cp) (l:=l) (os:=os) (ts:=ts)
    have aaX:y9 ns rs (je st a cp l os ts):=⟨by rw[ew.1]; exact yi.wl,by rw[ew.1]; exact yi.w4,by rw[ew.2.1]; exact yi.fit⟩
    refine⟨_,rfl,p,_,_,rfl,Ai,rfl,_,rfl,_,rfl,_,rfl,F,p,tp,ln,lr,ns,rs,je st a cp l os ts,o,cp.l,cp.h,some cp.r,{ l with aQ:=l.aQ++[yF l cp os] },D + 51,rfl,N.done IL X4.cQ,aaX,Ob bd hli hal pts aaY,by lia,Iv hli,λos' F5 H5 hO' _ W5 Ol=>?_⟩
    have hO':mz (CD ns rs o (je st a cp l os ts).ws l.grp) ((je st a cp l os ts).R l.grp) os':=hO'
    rw[ew.1,ew.2.1] at hO'
    rw[hO'.uniq hO] at W5
    exact⟨_,rfl,k F5 H5 W5 (IL.trans Ol)⟩
   ·refine⟨_,rfl,loc (.bS cp.l),_,_,_,_,rfl,VX,T.cU,T.xJ,rfl,_,rfl,?_⟩
    cases eo:l.old with
    | true =>
     refine fk ?_
     refine hN _ _ ⟨?_,V0,rfl⟩
     unfold je
     rw[if_pos eo]
     exact X3
    | false =>
     refine eW ?_
     refine⟨_,rfl,p,_,_,_,_,rfl,Dq,T.bD,T.pN,rfl,_,rfl,loc (.bS cp.l),_,_,_,_,rfl,VX,T.cU,T.jO,rfl,loc .iD,_,_,_,rfl,rfl,bJ.of (X3.own.get .iD _ rfl),ly hg,loc (.book l.grp),dx (.book l.grp),_,rfl,X3.own.get (.book l.grp) _ (if_pos hg),rfl,_,rfl,?_⟩
     refine XN T (λQ q=>⟨_,rfl,q⟩) VX ahj ?_
     refine⟨_,rfl,loc (.book l.grp),loc (.eF l.grp),st.ts l.grp,cp.h,l.s,cp.r,rfl,X3.own.Li hg,?_,λH4 h4 kp4=>?_⟩
     ·have:=(bd.tb l.grp).1
      lia
     ·rw[Yz] at h4
      obtain⟨X4,IL⟩:=VZ X3 hg ts h4 kp4
      refine hN _ _ ⟨?_,V0.trans IL,rfl⟩
      unfold je
      rw[if_neg (by rw[eo]; decide)]
      exact X4
  ·have e':comes l cp os=false:=by simpa using e
   rw[e']
   refine fk ?_
   refine⟨_,rfl,k F H3 hO h12 pts aaY ?_ V0⟩
   unfold Al
   rw[e',if_neg (by decide)]
   exact N3
inductive V1(K:af)(vs:List V)(H:Hp)(Q:VK)(E:XK):Prop
 | mk (l l':Addr) (ks:List Nat):vs = [.ref l,.ref l']->bJ K H l (aV ks)->bJ K H l' (aV ks)->ks.length<=100->(∀ H',aC H H'->Q (.bl true) H')->V1 K vs H Q E
theorem KO{t:Ad}(T:Txt K mg t):bV P w K mg base gO 2 t.zw t.CL ["_law_found","_law_ought"]  (V1 K):=by
 refine T.G9.F.jo J6 λH Q E hr h=>?_
 ·obtain⟨l,l',ks,rfl,hL,hL',alq,k⟩:=h
  refine⟨_,(oR (Gc (cB R3 T.rB boot_isinstance (mH (pv 0) (FJ rfl T.xM boot_list (v:=.ty "list") rfl))) (Gc (cB (UC rfl) T.acY boot_all (fV (gu (kO J6 ["_law_one"] [none]) rfl (fB (pv 0)) (λ_ _ _ _=>by exact (gS 0 LA)) (λ_ _ _ _=>by exact jT) (λ_ _ _ _=>by exact (cG (PL T) hr T.Kc (fV (pv 0))))))) (Ov (qE uF (pv 0) (pv 1)))))),?_⟩
  try dsimp only[aU]
  refine⟨_,rfl,l,_,_,_,rfl,hL,rfl,_,rfl,eW ?_⟩
  refine⟨_,rfl,l,rfl,⟨_,hL⟩,λacc hacc=>?_⟩
  refine fQ (n:=(aV ks).length) (λi ys _=>∃ bs:List Bool,ys=bs.map V.bl/\bs.length=i/\bs.all id=true) hacc (yV hL) (o6 hL) ⟨[],rfl,rfl,rfl⟩ ?_ ?_
  ·rintro i ys H3 hi s3 hy ⟨bs,rfl,hbl,hba⟩ x H4 ⟨rfl,hx⟩
   have hx:=hx _ (s3.seq hL)
   have hi':i < ks.length:=by rw[ah] at hi; exact hi
   rw[aj,aa hi'] at hx
   cases hx
   refine⟨_,rfl,_,rfl,?_⟩
   exact dZ hacc hi s3 hy (by rw[ah]; exact bW (by lia)) ⟨bs++[true],by simp,by simp[hbl],by simp[hba]⟩
  ·rintro ys H3 s3 hy ⟨bs,rfl,hbl,hba⟩
   refine⟨acc,bs,rfl,bJ.of hy,_,rfl,?_⟩
   rw[hba]
   refine eW ?_
   have r1:Rep K H3 (.list ((ks.map λk:Nat=>(k:Int)).map .int)) (.ref l):=⟨l,_,rfl,s3.seq hL,(by rw[d7]; exact jC _)⟩
   have r2:Rep K H3 (.list ((ks.map λk:Nat=>(k:Int)).map .int)) (.ref l'):=⟨l',_,rfl,s3.seq hL',(by rw[d7]; exact jC _)⟩
   refine⟨_,rfl,_,rfl,_,_,r1,r2,gU _,gU _,aZ (bM (aH (c9 _ _) ?_) _) hr.units,?_⟩
   ·show PyData.depthAll ((ks.map λk:Nat=>(k:Int)).map .int) + 1<=64
    rw[rF]
    decide
   ·rw[SeqAt.eqv_refl (.list ((ks.map λk:Nat=>(k:Int)).map .int)) (gU _)]
    exact k _ s3
theorem Oc{e:Int}{g:Nat}(h1:1<=e)(h7:e<=7)(hg:g < 3):decide (V.int (Builtin.bitAnd (e / 2 ^ g) 1)=V.int 1)=lQ e g:=by
 obtain⟨k,rfl⟩ : ∃ k:Nat,e=(k:Int):=⟨e.toNat,by lia⟩
 have key:∀ a:Fin 8,∀ b:Fin 3,decide (V.int (Builtin.bitAnd (((a:Nat):Int) / 2 ^ (b:Nat)) 1)=V.int 1)=lQ ((a:Nat):Int) b:=by decide
 exact key ⟨k,by lia⟩ ⟨g,hg⟩
theorem IA(b:List Bool):JL (.bl true) (b.map V.bl)=b.any id:=by
 unfold JL
 induction b with
 | nil=>rfl
 | cons e es ih =>
  rw[ck,nG,nG,ih]
  cases e <;> rfl
theorem IB(b:List Bool):(b.map V.bl).all ym=true:=by
 rw[wL]
 intro x hx
 obtain⟨e,_,rfl⟩:=bL.mp hx
 rfl
inductive Ru(K:af)(vs:List V)(H:Hp)(Q:VK)(E:XK):Prop
 | mk (b0 ls:Addr) (rs:List R5) (i6:List Addr) (bs:List (List Bool)) (g:Nat):vs = [.ref b0,.ref ls,.int g]->IT K H b0 rs->Wd H ls i6 bs->bs.length=rs.length->rs.length<=20->(∀ r∈rs,1<=r.e/\r.e<=7)->g < 3->(∀ l H',aC H H'->H l=none->H' l=some (.lst (aV (pV rs (bs.map stand) g rs.length)))->Q (.ref l) H')->Ru K vs H Q E
theorem S5{t:Ad}(T:Txt K mg t):bV P w K mg base gO 1 t.zz t.CM ["_law_ropes_here","_law_stood","_law_group"]  (Ru K):=by
 refine T.M4.F.jo J7 λH Q E hr h=>?_
 ·obtain⟨b0,ls,rs,i6,bs,g,rfl,⟨qs,hb0,vE⟩,hX,eb,yJ,he7,hg,k⟩:=h
  have eus:qs.length=rs.length:=by rw[vE.len,ah]
  refine⟨_,(oR (gu (kO J7 ["_law_k","_law_group","_law_ropes_here","_law_stood"] [none,some 2,some 0,some 1]) rfl (eB rfl T.gI (fV (lS T.jQ (pv 0)))) (λ_ _ _ _=>by exact (gS 0 LB)) (λ_ _ _ _=>by exact (qM (PW.pt (Gb (jf (Bk K rfl) Ez (yL K (pv 3) (pv 0)) (by with_unfolding_all rfl)) (Cj (qT yO (aS OC (aS T6 (yT K (yL K (pv 2) (pv 0)) aA) (pv 1)) aA) aA)))))) (λ_ _ _ _=>by exact (pv 0)))),?_⟩
  try dsimp only[aU]
  refine⟨_,rfl,b0,_,rfl,.inl (bJ.of hb0),_,rfl,(by show -(2 ^ 62)<=(((qs.map V.ref).length:Nat):Int); lia),(by show (((qs.map V.ref).length:Nat):Int) < 2 ^ 62; rw[ah]; lia),λacc hacc=>?_⟩
  refine fQ (n:=((((qs.map V.ref).length:Nat):Int)).toNat) (λi ys _=>ys=aV (pV rs (bs.map stand) g i)) hacc yW pe rfl ?_ ?_
  ·rintro i ys H2 hi s2 hy rfl x H3 ⟨rfl,rfl⟩
   have hi0:i < (qs.map V.ref).length:=by simpa using hi
   have hi':i < rs.length:=by rw[ah] at hi0; lia
   have Dy:rs[i]?=some rs[i]:=aa hi'
   have hib:bs[i]?=some bs[i]:=aa (by lia)
   have hXl:=hX.len
   have hil:i6[i]?=some i6[i]:=aa (by lia)
   have IM:(aV (pV rs (bs.map stand) g i)).length < sizeLine:=by rw[ah]; exact bW (by have:=Bm rs (bs.map stand) g i; lia)
   have eL:isLive rs (bs.map stand) g i=((!(stand bs[i]).isEmpty) && lQ (rs[i]).e g):=by unfold isLive; rw[Dy,aj,hib]; rfl
   have hq:(qs.map V.ref)[i]?=some (V.ref (qs[i]'(by lia))):=by rw[aj,aa]; rfl
   have hqt:=vE.at' i (qs[i]'(by lia)) (rs[i]).vs (aa _) (by rw[aj,Dy]; rfl)
   refine⟨_,rfl,_,rfl,ls,_,_,V.ref i6[i],rfl,rfl,bJ.of (s2 _ _ hX.at_),(by rw[dm]; exact dG (by rw[aj,hil]; rfl)),i6[i],_,rfl,.inl (bJ.of (s2 _ _ (hX.it i _ _ hil hib))),rfl,IB _,_,rfl,?_⟩
   try dsimp only
   rw[if_neg aB,IA,DH]
   cases es:stand bs[i] with
   | nil =>
    refine fk (i0 hi s2 hy ?_)
    rw[lR,eL,es]
    simp
   | cons y0 r0 =>
    refine eW ?_
    refine⟨_,rfl,_,rfl,b0,_,_,_,rfl,rfl,bJ.of (s2 _ _ hb0),(by rw[dm]; exact dG hq),_,_,_,_,rfl,rfl,s2.dB hqt,rfl,_,rfl,_,_,rfl,rfl,(by show (0:Int)<=(g:Nat); lia),_,_,rfl,rfl,rfl,_,rfl,?_⟩
    try dsimp only
    rw[eO,Oc (he7 _ (aL hi')).1 (he7 _ (aL hi')).2 hg]
    cases eb:lQ rs[i].e g with
    | true =>
     refine eW ⟨_,rfl,dZ hacc hi s2 hy IM ?_⟩
     rw[lR,eL,es,eb,dm]
     exact (gK _ _).symm
    | false =>
     refine fk (i0 hi s2 hy ?_)
     rw[lR,eL,es,eb]
     simp
  ·rintro ys H2 s2 hy rfl
   exact k acc H2 s2 hacc (by rw[hy,eO,ah,eus])
inductive Od(K:af)(vs:List V)(H:Hp)(Q:VK)(E:XK):Prop
 | mk (b c rb:Addr) (ns:List Int) (rs:List R5) (live:List Nat) (nd:ns.Nodup) (ok:∀ r∈rs,r.Ok ns.length) (hl:∀ k∈live,k < rs.length) (R:Nat->RM.Row):vs = [.ref b,.ref c,.ref rb]->IT K H b rs->bJ K H c (aV live)->j6 K H rb ns.length R->live.length<=20->live.Pairwise (· < ·)->uG ns.length rs.length R->(∀ l os H',aC H H'->H l=none->H' l=some (.lst (aV os))->mz (aK ns rs live nd ok hl) R os->Q (.ref l) H')->Od K vs H Q E
theorem P4{t:Ad}(T:Txt K mg t):bV P w K mg base gO 1 t.wc t.AF ["_law_ropes_here","_law_live_here","_law_rows"]  (Od K):=by
 refine T.Kf.F.jo jH λH Q E hr h=>?_
 ·obtain⟨b,c,rb,ns,rs,live,nd,ok,jk,R,rfl,⟨us,hL,vE⟩,hC,⟨ps,hP,ePs,PM⟩,yJ,rise,fit,k⟩:=h
  have eus:us.length=rs.length:=by rw[vE.len,ah]
  refine⟨_,(ak (sS 3 jH (gx fK)) (ak (fS (fB (pv 1)) (gT 4 jH) (ak (Gd (yQ K5 (xL (pv 0) (pv 4)) K4 (tS aA)) (Ow (n:=3) rfl (l9 (gT 5 jH) (l9 (gT 6 jH) (l9 (gT 7 jH) FL))))) (aW (fS (fB (gx (mH (f6 (mH (xL (pv 2) (pv 5)) (xL (pv 2) (pv 6)))) (f6 (mH (xL (pv 2) (pv 6)) (xL (pv 2) (pv 5))))))) (Ow (n:=2) rfl (l9 (gT 8 jH) (l9 (gT 9 jH) FL))) (aW (cC (PW.pt (Gb (qT uF (pv 8) (f6 (Yv (xT (pv 9) aA) (aS fJ (xT (pv 9) aA) (pv 7)) (aS fJ (xT (pv 9) aA) aA) (pv 4)))) (Cj (jf mh (pv 4) (pv 3) (by with_unfolding_all rfl))))) (oE (rR bf bq bh eS (pv 3) (fV (pv 4)))) aX)))))) (oR (pv 3)))),?_⟩
  try dsimp only[aU]
  refine⟨br _,λl hl=>?_⟩
  have s0:=aC.new (o:=.lst []) hl
  have Mx:=ao (H:=H) (a:=l) (o:=.lst [])
  generalize upd H l (.lst [])=H0 at s0 Mx
  refine⟨_,rfl,c,rfl,⟨_,s0.seq hC⟩,rO (K:=K) (a:=c) (xs:=aV live) (λj σ H2=>aC H H2/\∃ (os:List Nat) (v4 v5 v6 v7 v8 v9:Option V),σ = [some (.ref b),some (.ref c),some (.ref rb),some (.ref l),v4,v5,v6,v7,v8,v9]/\H2 l=some (.lst (aV os))/\os.Pairwise (· < ·)/\os.length<=j/\∀ k,k∈os↔k∈live.take j/\∃ h g,RM.iO (aK ns rs live nd ok jk) R k h g)
   ⟨s0,[],_,_,_,_,_,_,rfl,Mx,List.Pairwise.nil,br _,λk=>by simp⟩ (λj σ H2 _ z=>z.1.seq hC) ?_ ?_⟩
  ·rintro j y σ H2 hj ⟨s2,os,v4,v5,v6,v7,v8,v9,rfl,hl2,o1,o2,o3⟩
   have hjl:j < live.length:=by
    have:=(ai.mp hj).1
    rw[ah] at this
    exact this
   rw[aj,aa hjl] at hj
   cases hj
   have et:live.take (j + 1)=live.take j++[live[j]]:=by rw[uz,aa hjl]; rfl
   have hc:live[j]∈live:=aL hjl
   have hnew:∀ z∈live.take j,z < live[j]:=λz hz=>by
    obtain⟨i,hi,e⟩:=List.getElem_of_mem hz
    rw[List.getElem_take] at e
    rw[bO] at hi
    rw[<- e]
    exact jc.mp rise i j (by lia) hjl (by lia)
   rw[et]
   show gM 4 (V.int ((live[j]:Nat):Int)) _ _ _
   generalize live[j]=kk at hc hnew
   have To:=jk kk hc
   have okk:=ok _ (aL To)
   have hrk:rs[kk]?=some rs[kk]:=aa To
   have hp:(us.map V.ref)[kk]?=some (V.ref (us[kk]'(by lia))):=by rw[aj,aa]; rfl
   have hpt:=vE.at' kk (us[kk]'(by lia)) (rs[kk]).vs (aa _) (by rw[aj,hrk]; rfl)
   have ahl:IK (us.map V.ref) (kk:Int)=some (.ref (us[kk]'(by lia))):=dG hp
   have nw:¬ (HT.kP (rs[kk]).vs.length 0 none=0/\HT.kP (rs[kk]).vs.length (rs[kk]).vs.length (some 3)=(rs[kk]).vs.length):=λz=>absurd z.2 (by show HT.kP 5 5 (some 3)≠5; decide)
   have ct:Ff (rs[kk]).vs none (some 3) = [V.int rs[kk].a,V.int rs[kk].b,V.int rs[kk].c]:=rfl
   refine⟨_,rfl,_,rfl,wR (bJ.of (s2 _ _ hL)) ahl ⟨_,rfl,_,_,rfl,s2.dB hpt,nw,λz1 hz1=>?_⟩⟩
   rw[ct]
   have u1:=aC.new (o:=.tup [V.int rs[kk].a,V.int rs[kk].b,V.int rs[kk].c]) hz1
   refine⟨z1,_,rfl,cH.of ao,rfl,_,_,rfl,_,_,rfl,_,_,rfl,rfl,?_⟩
   have s3:=s2.trans u1
   have hl3:=u1 _ _ hl2
   generalize upd H2 z1 (.tup [V.int rs[kk].a,V.int rs[kk].b,V.int rs[kk].c])=H3 at s3 hl3
   clear u1 hz1 s2 hl2
   obtain⟨x,ex⟩ : ∃ x:Nat,rs[kk].a=(x:Int):=⟨rs[kk].a.toNat,by have:=okk.a0; lia⟩
   obtain⟨y,ey⟩ : ∃ y:Nat,rs[kk].b=(y:Int):=⟨rs[kk].b.toNat,by have:=okk.b0; lia⟩
   have hx:x < ns.length:=by have:=okk.a1; lia
   have hy:y < ns.length:=by have:=okk.b1; lia
   have Nu:=Yq (ns:=ns) (live:=live) (nd:=nd) (ok:=ok) (hl:=jk) To
   have ea:(aK ns rs live nd ok jk).a kk=x:=by show ((rs[kk]?).map λr=>r.a.toNat).getD 0=x; rw[hrk]; show rs[kk].a.toNat=x; lia
   have eb:(aK ns rs live nd ok jk).b kk=y:=by show ((rs[kk]?).map λr=>r.b.toNat).getD 0=y; rw[hrk]; show rs[kk].b.toNat=y; lia
   have yX:RM.Gs (aK ns rs live nd ok jk) kk x y:=⟨hc,.inl ⟨ea,eb⟩⟩
   have SQ:∀ {h g:Nat},RM.Gs (aK ns rs live nd ok jk) kk h g->(RM.iO (aK ns rs live nd ok jk) R kk h g↔R h=RM.over (aK ns rs live nd ok jk) kk (R g)):=λ{h g} a=>⟨λt=>t.eq,λe=>⟨a,by
    have f:=(fit h a.lt.1).ho.2
    rw[e] at f
    exact f,e⟩⟩
   have only:∀ {h g:Nat},RM.iO (aK ns rs live nd ok jk) R kk h g->(h=x/\g=y)∨(h=y/\g=x):=λ{h g} t=>by
    have:=t.yX.2
    rw[ea,eb] at this
    rcases this with ⟨e1,e2⟩ | ⟨e1,e2⟩
    ·exact .inl ⟨e1.symm,e2.symm⟩
    ·exact .inr ⟨e1.symm,e2.symm⟩
   rw[ex,ey]
   have hpx:ps[x]?=some (ps[x]'(by lia)):=aa (by lia)
   have hpy:ps[y]?=some (ps[y]'(by lia)):=aa (by lia)
   have aa1:IK (ps.map V.ref) (x:Int)=some (.ref (ps[x]'(by lia))):=dG (by rw[aj,hpx]; rfl)
   have aa2:IK (ps.map V.ref) (y:Int)=some (.ref (ps[y]'(by lia))):=dG (by rw[aj,hpy]; rfl)
   have rx:=PM x _ hpx
   have ry:=PM y _ hpy
   generalize ps[x]'(by lia)=qx at aa1 rx
   generalize ps[y]'(by lia)=qy at aa2 ry
   clear hpx hpy
   refine⟨_,rfl,_,rfl,wR (s3.seq hP) aa1 ⟨_,rfl,_,rfl,wR (s3.seq hP) aa2 ⟨(by show 2<=sizeLine; decide),λz2 hz2=>?_⟩⟩⟩
   have u2:=aC.new (o:=.tup [V.ref qx,V.ref qy]) hz2
   have g2:=ao (H:=H3) (a:=z2) (o:=.tup [V.ref qx,V.ref qy])
   generalize upd H3 z2 (.tup [V.ref qx,V.ref qy])=H4 at u2 g2
   have s4:=s3.trans u2
   refine⟨_,rfl,_,rfl,wR (s4.seq hP) aa2 ⟨_,rfl,_,rfl,wR (s4.seq hP) aa1 ⟨(by show 2<=sizeLine; decide),λz3 hz3=>?_⟩⟩⟩
   have u3:=aC.new (o:=.tup [V.ref qy,V.ref qx]) hz3
   have g3:=ao (H:=H4) (a:=z3) (o:=.tup [V.ref qy,V.ref qx])
   have g2:=u3 _ _ g2
   generalize upd H4 z3 (.tup [V.ref qy,V.ref qx])=H5 at u3 g3 g2
   refine⟨(by show 2<=sizeLine; decide),λz4 hz4=>?_⟩
   have u4:=aC.new (o:=.lst [V.ref z2,V.ref z3]) hz4
   have g4:=ao (H:=H5) (a:=z4) (o:=.lst [V.ref z2,V.ref z3])
   have g3:=u4 _ _ g3
   have g2:=u4 _ _ g2
   generalize upd H5 z4 (.lst [V.ref z2,V.ref z3])=H6 at u4 g4 g3 g2
   have u26:=(u2.trans u3).trans u4
   have s6:=s3.trans u26
   have hl6:=u26 _ _ hl3
   have rx6:=s6.dB rx
   have ry6:=s6.dB ry
   have n4:l≠z4:=aF ((u2.trans u3) _ _ hl3) hz4
   have nk:kk ∉ os:=λz=>gJ _ (hnew kk ((o3 kk).mp z).1)
   clear u2 u3 u4 u26 s4 hz2 hz3 hz4 hl3 s3
   have inv:∀ i:Nat,i < 2->∃ (zt qh qg:Addr) (h g:Nat),[V.ref z2,V.ref z3][i]?=some (.ref zt)/\cH K H6 zt [V.ref qh,V.ref qg]/\cH K H6 qh (cR (R h))/\cH K H6 qg (cR (R g))/\RM.Gs (aK ns rs live nd ok jk) kk h g/\(((1<=i + 1/\RM.iO (aK ns rs live nd ok jk) R kk x y)∨(2<=i + 1/\RM.iO (aK ns rs live nd ok jk) R kk y x))↔((1<=i/\RM.iO (aK ns rs live nd ok jk) R kk x y)∨(2<=i/\RM.iO (aK ns rs live nd ok jk) R kk y x))∨RM.iO (aK ns rs live nd ok jk) R kk h g):=λi hi=>by
    have:i=0∨i=1:=by lia
    rcases this with rfl | rfl
    ·exact⟨z2,qx,qy,x,y,rfl,cH.of g2,rx6,ry6,yX,by simp⟩
    ·exact⟨z3,qy,qx,y,x,rfl,cH.of g3,ry6,rx6,yX.symm,by simp⟩
   refine⟨z4,rfl,⟨_,bJ.of g4⟩,As (K:=K) (a:=z4) (xs:=[V.ref z2,V.ref z3]) (λi σ H7=>aC H H7/\(∀ b x,cH K H6 b x->cH K H7 b x)/\H7 z4=some (.lst [V.ref z2,V.ref z3])/\∃ (os':List Nat) (v8 v9:Option V),σ = [some (.ref b),some (.ref c),some (.ref rb),some (.ref l),some (.int (kk:Nat)),some (.int (x:Nat)),some (.int (y:Nat)),some (.int rs[kk].c),v8,v9]/\H7 l=some (.lst (aV os'))/\(os'=os∨os'=os++[kk])/\(kk∈os'↔(1<=i/\RM.iO (aK ns rs live nd ok jk) R kk x y)∨(2<=i/\RM.iO (aK ns rs live nd ok jk) R kk y x)))
    ⟨s6,λb x=>id,g4,os,_,_,rfl,hl6,.inl rfl,⟨λz=>absurd z nk,λz=>by lia⟩⟩ (λi σ H7 _ z=>bJ.of z.2.2.1) ?_ ?_⟩
   ·rintro i y' σ H7 Nx c7 hi ⟨s7,kt,g7,os',v8,v9,rfl,Ot,d1,d2⟩
    have hi2:i < 2:=(ai.mp hi).1
    obtain⟨zt,qh,qg,h,g,e1,e2,e3,e4,e5,e6⟩:=inv i hi2
    rw[e1] at hi
    cases hi
    have e2:=kt _ _ e2
    have e3:=kt _ _ e3
    have e4:=kt _ _ e4
    refine⟨zt,_,rfl,e2,rfl,_,_,rfl,_,_,rfl,rfl,?_⟩
    refine⟨_,rfl,_,rfl,FP e4 rfl ⟨_,rfl,FP e4 rfl ⟨_,rfl,_,_,rfl,rfl,_,rfl,FP e4 rfl ⟨_,_,rfl,rfl,_,rfl,(by show 4<=sizeLine; decide),λu hu=>?_⟩⟩⟩⟩
    have u8:=aC.new (o:=.tup [V.int (R g).hd,V.int ((R g).co + rs[kk].c),V.int ((R g).ho + 1),V.int (kk:Nat)]) hu
    have hu':cH K (upd H7 u (.tup [V.int (R g).hd,V.int ((R g).co + rs[kk].c),V.int ((R g).ho + 1),V.int (kk:Nat)])) u (cR (RM.over (aK ns rs live nd ok jk) kk (R g))):=by
     refine cH.of ?_
     rw[ao]
     show _=some (HO.tup [V.int (R g).hd,V.int ((R g).co + (aK ns rs live nd ok jk).c kk),V.int ((R g).ho + 1),lW ((kk:Nat):Int)])
     rw[Nu,be (by lia)]
    have e3:=u8.dB e3
    have IM:=u8 _ _ Ot
    have s8:=s7.trans u8
    have g8:=u8 _ _ g7
    have kt8:∀ b x,cH K H6 b x->cH K _ b x:=λb x z=>u8.dB (kt b x z)
    generalize upd H7 u (.tup [V.int (R g).hd,V.int ((R g).co + rs[kk].c),V.int ((R g).ho + 1),V.int (kk:Nat)])=H8 at hu' e3 IM s8 g8 kt8
    refine⟨RM.pU (R h),RM.pU (RM.over (aK ns rs live nd ok jk) kk (R g)),RM.pq e3,RM.pq hu',RM.pC _,RM.pC _,aZ (bM (aH (c9 _ _) (by rw[RM.Ao]; decide:(RM.pU (R h)).depth<=64)) _) hr.units,?_⟩
    rw[RM.Gv (fit h e5.lt.1).by1 (by show (-1:Int)<=((kk:Nat):Int); lia)]
    refine⟨_,rfl,jS (λe=>?_) (λe=>?_)⟩
    case refine_2 =>
     have e:¬ RM.iO (aK ns rs live nd ok jk) R kk h g:=λz=>e (decide_eq_true ((SQ e5).mp z))
     exact c7 _ _ ⟨s8,kt8,g8,os',_,_,rfl,IM,d1,d2.trans ⟨λz=>e6.mpr (.inl z),λz=>(e6.mp z).elim id λw=>absurd w e⟩⟩
    have e:RM.iO (aK ns rs live nd ok jk) R kk h g:=(SQ e5).mpr (of_decide_eq_true e)
    refine⟨_,rfl,_,rfl,l,_,rfl,.inl (bJ.of IM),rfl,jU _,_,rfl,?_⟩
    try dsimp only
    rw[if_pos rfl,rT]
    by_cases z:kk∈os'
    ·rw[decide_eq_true z]
     exact fk (c7 _ _ ⟨s8,kt8,g8,os',_,_,rfl,IM,d1,⟨λ_=>e6.mpr (.inr e),λ_=>z⟩⟩)
    ·rw[decide_eq_false z]
     have eo:os'=os:=d1.resolve_right λw=>z (by rw[w]; simp)
     subst eo
     refine eW ⟨_,rfl,.inl ⟨rfl,_,bJ.of IM⟩,_,rfl,l,_,_,rfl,rfl,IM,(by rw[ah]; exact bW (by lia)),c7 _ _ ⟨s8.out hl,λb x z=>cH.past IM jE bZ (kt8 b x z),by rw[aD (bK n4)]; exact g8,os'++[kk],_,_,rfl,by rw[ao,gK],.inr rfl,⟨λ_=>e6.mpr (.inr e),λ_=>by simp⟩⟩⟩
   ·rintro σ H7 ⟨s7,kt,g7,os',v8,v9,rfl,Ot,d1,d2⟩
    have d2:kk∈os'↔∃ h g,RM.iO (aK ns rs live nd ok jk) R kk h g:=d2.trans ⟨λz=>z.elim (λw=>⟨x,y,w.2⟩) (λw=>⟨y,x,w.2⟩),λ⟨h,g,t⟩=>by
     rcases only t with ⟨rfl,rfl⟩ | ⟨rfl,rfl⟩
     ·exact .inl ⟨(by show 1<=2; decide),t⟩
     ·exact .inr ⟨(by show 2<=2; decide),t⟩⟩
    refine⟨s7,os',_,_,_,_,_,_,rfl,Ot,?_,?_,λk'=>?_⟩
    ·rcases d1 with rfl | rfl
     ·exact o1
     ·refine nJ.mpr ⟨o1,List.pairwise_singleton _ _,λz hz z' hz'=>?_⟩
      rw[bz.mp hz']
      exact hnew z ((o3 z).mp hz).1
    ·rcases d1 with rfl | rfl
     ·lia
     ·rw[av]; exact jl o2 1
    ·rw[bG,bz]
     by_cases ek:k'=kk
     ·subst ek
      exact d2.trans ⟨λz=>⟨.inr rfl,z⟩,λz=>z.2⟩
     ·have:k'∈os'↔k'∈os:=by
       rcases d1 with rfl | rfl
       ·exact Iff.rfl
       ·simp[ek]
      rw[this,o3]
      exact⟨λz=>⟨.inl z.1,z.2⟩,λz=>⟨z.1.resolve_right ek,z.2⟩⟩
  ·rintro σ H2 ⟨s2,os,v4,v5,v6,v7,v8,v9,rfl,hl2,o1,o2,o3⟩
   refine⟨_,rfl,k l os H2 s2 hl hl2 ⟨o1,λkk=>(o3 kk).trans ⟨λz=>z.2,λ⟨h,g,t⟩=>⟨?_,h,g,t⟩⟩⟩⟩
   rw[ah,fM (au _)]
   exact t.yX.1
end
section
structure SD(ns:List Int)(rs:List R5)(bs:List (List Bool))(cl:List (Nat × Nat))(D:Nat)(s:NS):Prop where
 ok:y9 ns rs s
 bd:Bd ns.length rs.length D s
 ws:s.ws=bs.map stand
 fit:Z0 rs bs
 hm:s.bg=cl.map (·.1)
 gr:s.groups=cl.map (·.2)
variable{ns:List Int}{rs:List R5}{bs:List (List Bool)}{cl:List (Nat × Nat)}{D:Nat}{s:NS}
theorem SD.mono{D':Nat}(h:SD ns rs bs cl D s)(e:D<=D'):SD ns rs bs cl D' s:=⟨h.ok,h.bd.mono e,h.ws,h.fit,h.hm,h.gr⟩
theorem XO{n m:Nat}{g:Nat}(b:Bd n m D s):Bd n m D (KH s g):=by
 refine⟨b.gl,b.yJ,b.g3,b.hm,b.hl,b.hb,by show (s.ls.map _).length<=D; rw[ah]; exact b.ll,λl z=>?_,b.cb,λc z=>by show c.l < (s.ls.map _).length/\_; rw[ah]; exact b.cl c z,λg'=>?_⟩
 ·obtain⟨l0,h0,rfl⟩:=bL.mp z
  unfold FI
  split
  ·exact b.lb l0 h0
  ·exact b.lb l0 h0
 ·show 50 * (gz s.ts g [] g').length<=D/\gE (gz s.ts g [] g')
  by_cases z:g'=g
  ·subst z
   rw[cJ]
   exact⟨br _,oW⟩
  ·rw[eK z]
   exact b.tb g'
theorem SD.news(h:SD ns rs bs cl D s)(g:Nat):SD ns rs bs cl D (KH s g):=⟨⟨h.ok.wl,h.ok.w4,h.ok.fit⟩,XO h.bd,h.ws,h.fit,h.hm,h.gr⟩
theorem SD.nD(h:SD ns rs bs cl D s)(e:Int):∀ m,SD ns rs bs cl D (nD s e m)
 | 0=>h
 | m + 1=>by
  rw[yk]
  split
  ·exact (h.nD e m).news m
  ·exact h.nD e m
theorem SD.call{g x:Nat}{d:RM.Row}(h:SD ns rs bs cl D s)(hd:DG ns.length rs.length d):SD ns rs bs cl D (NP s g x d):=by
 unfold NP
 split
 ·exact h
 ·refine SD.news (s:={ s with R:=gz s.R g (RM.upd (s.R g) x d) }) ⟨⟨h.ok.wl,h.ok.w4,λk hk=>?_⟩,⟨h.bd.gl,h.bd.yJ,h.bd.g3,h.bd.hm,h.bd.hl,h.bd.hb,h.bd.ll,h.bd.lb,h.bd.cb,h.bd.cl,h.bd.tb⟩,h.ws,h.fit,h.hm,h.gr⟩ g
  show uG _ _ (gz s.R g (RM.upd (s.R g) x d) k)
  by_cases z:k=g
  ·subst z
   rw[cJ]
   intro i hi
   unfold RM.upd
   split
   ·exact hd
   ·exact h.ok.fit k hk i hi
  ·rw[eK z]
   exact h.ok.fit k hk
theorem Oe{P Q:LS->Prop}{i:Nat}{d:AL}(h:∀ l∈s.ls,P l)(h1:∀ l,P l->Q l)(h2:∀ l,P l->Q { l with aQ:=l.aQ++[d] }):∀ l∈(c6 s i d).ls,Q l:=by
 intro l hl
 unfold c6 at hl
 cases e:s.ls[i]? with
 | none=>rw[e] at hl; exact h1 l (h l hl)
 | some l0 =>
  rw[e] at hl
  rcases oX hl with z | rfl
  ·exact h1 l (h l z)
  ·exact h2 l0 (h l0 (aI e))
theorem P5{i:Nat}{d:AL}:(c6 s i d).ws=s.ws/\(c6 s i d).R=s.R/\(c6 s i d).ts=s.ts/\(c6 s i d).bg=s.bg/\(c6 s i d).groups=s.groups/\(c6 s i d).had=s.had:=by
 unfold c6
 cases s.ls[i]? <;> exact⟨rfl,rfl,rfl,rfl,rfl,rfl⟩
theorem IC{i x:Nat}:∀ m,m<=s.cps.length->(iQ s i x m).ws=s.ws/\(iQ s i x m).R=s.R/\(iQ s i x m).ts=s.ts/\(iQ s i x m).bg=s.bg/\(iQ s i x m).groups=s.groups/\(iQ s i x m).had=s.had
 | 0,_=>by rw[wV]; exact⟨rfl,rfl,rfl,rfl,rfl,rfl⟩
 | m + 1,hm=>by
  have ih:=IC (i:=i) (x:=x) m (by lia)
  rw[wW (by lia)]
  unfold vM
  split
  ·obtain⟨h1,h2,h3,h4,h5,h6⟩:=P5 (s:=iQ s i x m) (i:=(s.cps[m]).l) (d:=.UZ (s.cps[m]).h i)
   exact⟨h1.trans ih.1,h2.trans ih.2.1,h3.trans ih.2.2.1,h4.trans ih.2.2.2.1,h5.trans ih.2.2.2.2.1,h6.trans ih.2.2.2.2.2⟩
  ·exact ih
theorem Of{i x:Nat}(h:∀ l∈s.ls,l.aQ.length + s.cps.length<=D/\l.done.length<=D/\l.grp < 3/\(l.kd=1∨l.kd=2)):∀ m,m<=s.cps.length->∀ l∈(iQ s i x m).ls,l.aQ.length + ((s.cps.take m).filter λc=>!Wf i x c).length + s.cps.length<=D + m/\l.done.length<=D/\l.grp < 3/\(l.kd=1∨l.kd=2)
 | 0,_=>by rw[wV]; exact h
 | m + 1,hm=>by
  have ih:=Of (i:=i) (x:=x) h m (by lia)
  have hm':m < s.cps.length:=by lia
  rw[wW hm',J1 (f:=λc:Cp=>!Wf i x c) hm',av]
  unfold vM
  cases e:Wf i x s.cps[m]
  ·rw[if_neg (by decide),if_pos (by decide)]
   intro l hl
   obtain⟨h1,h2⟩:=ih l hl
   exact⟨by show l.aQ.length + (_ + 1) + _<=_; lia,h2⟩
  ·rw[if_pos rfl,if_neg (by decide)]
   refine Oe ih (λl hl=>⟨by have:=hl.1; show l.aQ.length + (_ + 0) + _<=_; lia,hl.2⟩) (λl hl=>⟨?_,hl.2⟩)
   have:=hl.1
   show (l.aQ++[_]).length + (_ + 0) + _<=_
   rw[av]
   show l.aQ.length + 1 + (_ + 0) + _<=_
   lia
theorem SD.lose(h:SD ns rs bs cl D s)(i x:Nat):SD ns rs bs cl D (CF s i x):=by
 obtain⟨e1,e2,e3,e4,e5,e6⟩:=IC (s:=s) (i:=i) (x:=x) s.cps.length (au _)
 have lb:=Of (i:=i) (x:=x) h.bd.lb s.cps.length (au _)
 have ll:=J0 (s:=s) (i:=i) (x:=x) (m:=s.cps.length)
 rw[kh] at lb
 unfold CF
 generalize iQ s i x s.cps.length=s2 at e1 e2 e3 e4 e5 e6 lb ll
 have b:=h.bd
 refine⟨⟨e1 ▸ h.ok.wl,e1 ▸ h.ok.w4,e2 ▸ h.ok.fit⟩,⟨?_,?_,?_,?_,?_,?_,?_,λl hl=>?_,?_,λc hc=>?_,?_⟩,e1.trans h.ws,h.fit,e4.trans h.hm,e5.trans h.gr⟩
 ·show s2.groups.length=s2.bg.length; rw[e4,e5]; exact b.gl
 ·show s2.bg.length<=20; rw[e4]; exact b.yJ
 ·show ∀ g∈s2.groups,g < 3; rw[e5]; exact b.g3
 ·show ∀ h∈s2.bg,h < ns.length; rw[e4]; exact b.hm
 ·show s2.had.length=s2.bg.length; rw[e4,e6]; exact b.hl
 ·show ∀ w∈s2.had,w.length<=D; rw[e6]; exact b.hb
 ·show s2.ls.length<=D; rw[ll]; exact b.ll
 ·obtain⟨h1,h2⟩:=lb l hl
  exact⟨by show l.aQ.length + (s.cps.filter λc=>!Wf i x c).length<=D; lia,h2⟩
 ·exact aH (bB _ _) b.cb
 ·show c.l < s2.ls.length/\_
  rw[ll]
  exact b.cl c (cS.mp hc).1
 ·show ∀ g,50 * (s2.ts g).length<=D/\gE (s2.ts g); rw[e3]; exact b.tb
theorem SD.fN{i x:Nat}{b:List Bool}{v:Bool}(o:fq ns rs)(h:SD ns rs bs cl D s)(hb:bs[i]?=some b):SD ns rs (bs.set i (b.set x v)) cl D { s with ws:=s.ws.set i (stand (b.set x v)) }:=by
 have hF:=h.fit.set hb (k:=x) (x:=v)
 have ew:s.ws.set i (stand (b.set x v))=(bs.set i (b.set x v)).map stand:=by rw[h.ws,List.map_set]
 refine⟨⟨by show (s.ws.set i _).length=_; rw[bP]; exact h.ok.wl,λu hu=>?_,h.ok.fit⟩,⟨h.bd.gl,h.bd.yJ,h.bd.g3,h.bd.hm,h.bd.hl,h.bd.hb,h.bd.ll,h.bd.lb,h.bd.cb,h.bd.cl,h.bd.tb⟩,ew,hF,h.hm,h.gr⟩
 have hu:u∈s.ws.set i (stand (b.set x v)):=hu
 rw[ew] at hu
 obtain⟨b',hb',rfl⟩:=bL.mp hu
 obtain⟨j,hj,e⟩:=List.getElem_of_mem hb'
 have hjr:j < rs.length:=by rw[<- hF.1]; exact hj
 have:=hF.2 j _ _ (aa hjr) (aa hj)
 have h4:=(o.ok _ (aL hjr)).d4
 have:=R8 b'
 rw[e] at *
 lia
theorem SD.ahp{i x:Nat}{b:List Bool}(o:fq ns rs)(h:SD ns rs bs cl D s)(hb:bs[i]?=some b)(e:Int):SD ns rs (bs.set i (b.set x false)) cl D (Il s i x (stand b) e):=by
 have h1:=(h.fN (x:=x) (v:=false) o hb).lose i x
 unfold Il
 rw[Gz]
 split
 ·exact h1.nD e 3
 ·exact h1
theorem SD.lay{i x:Nat}{b:List Bool}(o:fq ns rs)(h:SD ns rs bs cl D s)(hb:bs[i]?=some b)(e:Int):SD ns rs (bs.set i (b.set x true)) cl D (P0 s i (stand b) (stand (b.set x true)) e):=by
 have h1:=h.fN (x:=x) (v:=true) o hb
 unfold P0
 split
 ·exact h1.nD e 3
 ·exact h1
theorem V2{i h:Nat}{l:LS}{cO:Option Nat}{os:List Nat}(hl:s.ls[i]?=some l):(Wk rs s i h l cO os).ws=s.ws/\(Wk rs s i h l cO os).R=s.R/\(Wk rs s i h l cO os).bg=s.bg/\(Wk rs s i h l cO os).groups=s.groups:=by
 have f:=VW (rs:=rs) (h:=h) (cO:=cO) (os:=os) hl
 exact⟨f.ws,f.R,f.bg,f.groups⟩
theorem SD.post{x:Nat}{to:Option Nat}{os:List Nat}(o:fq ns rs)(h:SD ns rs bs cl D s)(hx:x < s.bg.length)(O:mz (CD ns rs o s.ws (s.groups.getD x 0)) (s.R (s.groups.getD x 0)) os)(h12:os.length<=12):SD ns rs bs cl (D + 100) (KN rs s x to os):=by
 obtain⟨e1,e2,e3,e4⟩:=V2 (rs:=rs) (h:=s.bg.getD x 0) (cO:=none) (os:=os) (s:=Iu s x to) (i:=s.ls.length) (l:={ qK s x to with aQ:=[.post (s.bg.getD x 0)] }) Dr
 have b1:=Y4 o (h:=s.bg.getD x 0) (cO:=none) (Rp (to:=to) h.bd hx) Dr O h12
 exact⟨⟨(congrArg List.length e1).trans h.ok.wl,λw hw=>h.ok.w4 w (by rw[show (KN rs s x to os).ws=s.ws from e1] at hw; exact hw),by rw[show (KN rs s x to os).R=s.R from e2]; exact h.ok.fit⟩,b1.mono (by lia),e1.trans h.ws,h.fit,e3.trans h.hm,e4.trans h.gr⟩
theorem SD.pass{a:Nat}{cp:Cp}{l:LS}{os:List Nat}{ts:List T3}{h' c r:Int}(o:fq ns rs)(h:SD ns rs bs cl D s)(hl:s.ls[cp.l]?=some l)(ha:a < s.cps.length)(O:mz (CD ns rs o s.ws l.grp) (s.R l.grp) os)(h12:os.length<=12)(p:ts.Perm (put3 (s.ts l.grp) h' c r))(oe:gE ts):SD ns rs bs cl (D + 100) (Al rs s a cp l os ts):=by
 have b1:=XM o (a:=a) (cp:=cp) h.bd hl ha O h12 p oe
 have e:(Al rs s a cp l os ts).ws=s.ws/\(Al rs s a cp l os ts).R=s.R/\(Al rs s a cp l os ts).bg=s.bg/\(Al rs s a cp l os ts).groups=s.groups:=by
  unfold Al
  split
  ·obtain⟨f1,f2,f3,f4⟩:=Iw (s:=s) (a:=a) (cp:=cp) (l:=l) (os:=os) (ts:=ts)
   obtain⟨e1,e2,e3,e4⟩:=V2 (rs:=rs) (h:=cp.h) (cO:=some cp.r) (os:=os) (Iv (a:=a) (os:=os) (ts:=ts) hl)
   exact⟨e1.trans f1,e2.trans f2,e3.trans f3,e4.trans f4⟩
  ·exact⟨rfl,rfl,rfl,rfl⟩
 obtain⟨e1,e2,e3,e4⟩:=e
 exact⟨⟨(congrArg List.length e1).trans h.ok.wl,λw hw=>h.ok.w4 w (by rw[e1] at hw; exact hw),by rw[e2]; exact h.ok.fit⟩,b1,e1.trans h.ws,h.fit,e3.trans h.hm,e4.trans h.gr⟩
end
section
variable{P:Program}{w:World}{K:af}{mg:Str->Option Value}{base:Heap}
noncomputable abbrev adR(cl:List (Nat × Nat)):List (List V):=cl.map λc=>[.int c.1,.int c.2]
structure DX(K:af)(CT:Addr)(h:Hp)(tp ln lr b0 ls:Addr)(i6:List Addr)(pl:Addr)(ns:List Int)(rs:List R5)(bs:List (List Bool))(cl:List (Nat × Nat)):Prop where
 qQ:cN K CT h tp ln lr ns rs
 rps:IT K h b0 rs
 sts:Wd h ls i6 bs
 pla:∃ qp:List Addr,h pl=some (.lst (qp.map V.ref))/\dR K h qp (adR cl)
 nl:∀ l∈i6,l≠tp/\l≠ln/\l≠lr/\l≠b0/\l≠ls/\l≠pl
 np:pl≠tp/\pl≠ln/\pl≠lr/\pl≠b0/\pl≠ls
def Kp(h h':Hp)(i6:List Addr)(pl:Addr):Prop:=∀ b o,h b=some o->b ∉ i6->b≠pl->h' b=some o
section
variable{CT:Addr}{h h' h2:Hp}{tp ln lr b0 ls pl:Addr}{i6:List Addr}{ns:List Int}{rs:List R5}{bs:List (List Bool)}{cl:List (Nat × Nat)}
theorem Kp.of(s:aC h h'):Kp h h' i6 pl:=λb o e _ _=>s b o e
theorem Kp.trans(a:Kp h h' i6 pl)(b:Kp h' h2 i6 pl):Kp h h2 i6 pl:=λx o e n1 n2=>b x o (a x o e n1 n2) n1 n2
theorem DX.mono(d:DX K CT h tp ln lr b0 ls i6 pl ns rs bs cl)(s:aC h h'):DX K CT h' tp ln lr b0 ls i6 pl ns rs bs cl:=by
 obtain⟨qp,h1,h2⟩:=d.pla
 exact⟨d.qQ.mono s,d.rps.keep (λo z=>s _ _ z) (λb x=>s.dB),d.sts.mono s,⟨qp,s _ _ h1,h2.mono λb x=>s.dB⟩,d.nl,d.np⟩
theorem DX.ahq(d:DX K CT h tp ln lr b0 ls i6 pl ns rs bs cl){i x:Nat}{l:Addr}{b:List Bool}{v:Bool}(hl:i6[i]?=some l)(hb:bs[i]?=some b):DX K CT (upd h l (.lst ((b.map V.bl).set x (V.bl v)))) tp ln lr b0 ls i6 pl ns rs (bs.set i (b.set x v)) cl:=by
 obtain⟨n1,n2,n3,n4,n5,n6⟩:=d.nl l (aI hl)
 have h0:=d.sts.it i l b hl hb
 have kt:∀ c y,cH K h c y->cH K (upd h l (.lst ((b.map V.bl).set x (V.bl v)))) c y:=λc y=>cH.past h0 jE bZ
 obtain⟨qp,p1,p2⟩:=d.pla
 refine⟨d.qQ.keep (λc o e q=>bZ c o e ?_) kt,d.rps.keep (λo e=>bZ _ o e (bK n4)) kt,d.sts.put hl bZ (by rw[ao,List.map_set]) (bK n5),⟨qp,bZ _ _ p1 (bK n6),p2.mono kt⟩,d.nl,d.np⟩
 rcases q with rfl | rfl | rfl
 ·exact bK n1
 ·exact bK n2
 ·exact bK n3
theorem _root_.TW.c5.past{c:NC}{H:Hp}{F:Addr->Prop}{p:Addr}{n:Nat}{s:NS}(N:c5 K c H F p tp n s){z:Addr}{u o:HO}(hz:Off H F z=some u)(nt:tV u):c5 K c (upd H z o) F p tp n s:=by
 obtain⟨nf,hz'⟩:=jF hz
 exact N.keep (λb v e fb=>bZ b v e λw=>nf (w ▸ fb)) (λb x=>cH.past hz' nt bZ)
theorem Kp.upd{H:Hp}{F:Addr->Prop}{z:Addr}{o u:HO}(hz:Off H F z=some u)(h1:z∈i6∨z=pl):Kp (Off H F) (Off (upd H z o) F) i6 pl:=λb v e n1 n2=>by
 rw[QD (jF hz).1]
 refine bZ b v e λw=>?_
 rcases h1 with y | y
 ·exact n1 (w ▸ y)
 ·exact n2 (w.trans y)
end
inductive ID(K:af)(CT:Addr)(c:NC)(vs:List V)(H:Hp)(Q:VK)(E:XK):Prop
 | mk (F:Addr->Prop) (p tp ln lr:Addr) (ns:List Int) (rs:List R5) (bs:List (List Bool)) (cl:List (Nat × Nat)) (D:Nat) (s:NS) (g:Nat):vs = [.ref p,.int (ns.length:Nat),.int g]->fq ns rs->NW K c CT H F p tp ln lr ns rs s->SD ns rs bs cl D s->g < 3->(∀ s' F' H',NW K c CT H' F' p tp ln lr ns rs s'->SD ns rs bs cl D s'->Step H F H' F'->Q .eU H')->ID K CT c vs H Q E
theorem Og{t:Ad}(T:Txt K mg t):bV P w K mg base gO 5 t.sG t.xC ["_law_net","_law_size","_law_group"]  (ID K t.aR (nc t)):=by
 refine T.Hf.F.jo zv λH Q E hr h=>?_
 ·obtain⟨F,p,tp,ln,lr,ns,rs,bs,cl,D,st,g,rfl,o,N,sd,hg,k⟩:=h
  refine⟨_,(aW (fS (eB rfl T.gI (fV (aS OB aA (pv 1)))) (gT 3 zv) (aW (fS (eB rfl T.gI (fV (pv 1))) (gT 4 zv) (oE (cM (pv 0) T.bD T.G6 (NR T) hr (mH (aS dQ (aS fJ (pv 4) (pv 3)) (pv 1)) (pv 2)))))))),?_⟩
  try dsimp only[aU]
  have n10:=o.n10
  have n1:=o.n1
  refine⟨_,rfl,_,_,rfl,rfl,.inl ⟨by decide,by decide⟩,2 * (ns.length:Int),rfl,by lia,by lia,nM (n:=(2 * (ns.length:Int)).toNat) (λi σ H2=>∃ (s2:NS) (F2:Addr->Prop) (v3 v4:Option V),NW K (nc t) t.aR H2 F2 p tp ln lr ns rs s2/\SD ns rs bs cl D s2/\Step H F H2 F2/\σ = [some (.ref p),some (.int (ns.length:Nat)),some (.int g),v3,v4]) ⟨st,F,_,_,N,sd,Step.refl' (aC.refl _),rfl⟩ ?_ ?_⟩
  ·rintro i σ H2 hi ⟨s2,F2,v3,v4,N2,Wl,st2,rfl⟩
   refine⟨_,rfl,(ns.length:Int),rfl,by lia,by lia,nM (n:=(ns.length:Int).toNat) (λj σ H3=>∃ (s3:NS) (F3:Addr->Prop) (v4:Option V),NW K (nc t) t.aR H3 F3 p tp ln lr ns rs s3/\SD ns rs bs cl D s3/\Step H F H3 F3/\σ = [some (.ref p),some (.int (ns.length:Nat)),some (.int g),some (.int (0 + (i:Int))),v4]) ⟨s2,F2,_,N2,Wl,st2,rfl⟩ ?_ ?_⟩
   ·rintro j σ H3 hj ⟨s3,F3,v4,N3,Y5,st3,rfl⟩
    obtain⟨loc,dx,q,hp,O,hF,hT⟩:=id N3.cQ
    have bQ:=O.get .cQ _ rfl
    rw[hp] at bQ
    have hm0:(0:Int)<=(0 + (j:Int) + (0 + (i:Int))) % (ns.length:Int):=bN _ (by lia)
    have hm1:(0 + (j:Int) + (0 + (i:Int))) % (ns.length:Int) < (ns.length:Int):=bR _ (by lia)
    obtain⟨x,ex⟩ : ∃ x:Nat,(0 + (j:Int) + (0 + (i:Int))) % (ns.length:Int)=(x:Int):=⟨_,(Int.toNat_of_nonneg hm0).symm⟩
    have hx:x < ns.length:=by lia
    refine⟨_,rfl,p,_,_,rfl,bQ,rfl,_,rfl,_,rfl,_,_,rfl,rfl,_,rfl,_,_,rfl,rfl,(by lia),?_⟩
    try dsimp only
    rw[ex]
    refine⟨_,rfl,F3,p,tp,ln,lr,ns,rs,s3,o,x,g,rfl,N3,Y5.ok,hx,hg,λd F4 H4 hd hf N4 IL=>?_⟩
    exact⟨_,F4,_,N3.done IL N4,Y5.call hf,st3.trans IL,rfl⟩
   ·rintro σ H3 ⟨s3,F3,v4,N3,Y5,st3,rfl⟩
    exact⟨s3,F3,_,_,N3,Y5,st3,rfl⟩
  ·rintro σ H2 ⟨s2,F2,v3,v4,N2,Wl,st2,rfl⟩
   exact k s2 F2 H2 N2 Wl st2
end
section
variable{K:af}
noncomputable def P6(t:T3):PyData:=.tuple (([t.1,t.2.1,t.2.2]:List Int).map .int)
theorem IE{H:Hp}:∀ {qs:List Addr} {us:List T3},gy K H qs us->b4 K H (us.map P6) (qs.map V.ref)
 | [],[],_=>rfl
 | [],_ :: _,h=>by cases h.1
 | _ :: _,[],h=>by cases h.1
 | q :: qs,u :: us,h=>⟨.ref q,qs.map V.ref,rfl,Rep.Gn (ns:=[u.1,u.2.1,u.2.2]) (h.2 0 q u rfl rfl),IE ⟨Nat.succ.inj h.1,λi p x a b=>h.2 (i + 1) p x a b⟩⟩
theorem Ds:∀ us:List T3,PyData.canLayAll0 (us.map P6)=true
 | []=>rfl
 | u :: us=>by
  show (PyData.canLayAll0 (([u.1,u.2.1,u.2.2]:List Int).map .int) && PyData.canLayAll0 (us.map P6))=true
  rw[Ds us,gU]; rfl
theorem KP:∀ us:List T3,PyData.depthAll (us.map P6)<=1
 | []=>by decide
 | u :: us=>by
  show max (PyData.depthAll (([u.1,u.2.1,u.2.2]:List Int).map .int) + 1) (PyData.depthAll (us.map P6))<=1
  have:=KP us
  have:=rF [u.1,u.2.1,u.2.2]
  lia
end
section
variable{P:Program}{w:World}{K:af}{mg:Str->Option Value}{base:Heap}
inductive Oh(K:af)(CT:Addr)(c:NC)(vs:List V)(H:Hp)(Q:VK)(E:XK):Prop
 | mk (F:Addr->Prop) (p tp ln lr b0 ls l3 n3:Addr) (i6:List Addr) (ns:List Int) (rs:List R5) (bs:List (List Bool)) (o:fq ns rs) (s:NS) (tg ng:Nat->Addr) (us:Nat->List T3) (i:Nat) (r:R5) (e:Bool):vs = [.ref p,.ref b0,.ref ls,.ref l3,.ref n3,.int i,.bl e]->NW K c CT H F p tp ln lr ns rs s->y9 ns rs s->IT K H b0 rs->Wd H ls i6 bs->s.ws=bs.map stand->bs.length=rs.length->(∀ g,(s.ts g).length < 2000)->bJ K H l3 ((aq 3).map λg=>.ref (tg g))->(∀ g,g < 3->j6 K H (tg g) ns.length (s.R g))->bJ K H n3 ((aq 3).map λg=>.ref (ng g))->(∀ g,g < 3->Rep K H (.list ((us g).map P6)) (.ref (ng g)))->rs[i]?=some r->(∀ g,g < 3->if e=true/\lQ r.e g=true then s.ts g = [] else qN (us g)/\(us g).Perm (s.ts g))->(∀ H',aC H H'->Q (.bl true) H')->Oh K CT c vs H Q E
theorem S6{t:Ad}(T:Txt K mg t):bV P w K mg base gO 7 t.zA t.CN ["_law_net","_law_ropes_here","_law_stood","_law_rows","_law_notes","_law_rope","_law_ends"]  (Oh K t.aR (nc t)):=by
 refine T.M5.F.jo vR λH Q E hr h=>?_
 ·obtain⟨F,p,tp,ln,lr,b0,ls,l3,n3,i6,ns,rs,bs,o,st,tg,ng,us,i,r,e,rfl,N,yi,hB,hX,ews,ebs,h2k,hl3,htg,hn3,hng,Ma,hts,k⟩:=h
  refine⟨_,(ak (fS (eB rfl T.gI (fV aA)) (gT 7 vR) (ak (sS 8 vR (cG (S5 T) hr T.M4 (J2 (pv 1) (pv 2) (pv 7)))) (ak (cC (PW.pt (Qa (jx (nL (cG (KO T) hr T.G9 (mH (cM (pv 0) T.bD T.sL (uv T) hr (fV (pv 7))) (pv 8))))) (KW (qT Lc (cM (pv 0) T.bD T.lG (lV T) hr (fV (pv 7))) (xL (pv 3) (pv 7)))))) oB aX) (ak (cC (jx (nL (cG (KO T) hr T.G9 (mH (cM (pv 0) T.bD T.zF (Dk T) hr (fV (pv 7))) (cG (P4 T) hr T.Kf (J2 (pv 1) (pv 8) (xL (pv 3) (pv 7)))))))) oB aX) (ak (sS 9 vR (xL (pv 4) (pv 7))) (ak (cC (PW.pt (Gb (nL (pv 6)) (Cj (qT yO (aS OC (aS T6 (xT (xL (pv 1) (pv 5)) aA) (pv 7)) aA) aA)))) (aW (sS 9 vR (gx fK))) aX) (aW (cC (qT Lc (cM (pv 0) T.bD T.uh (yj T) hr (fV (pv 7))) (pv 9)) oB aX)))))))) oB),?_⟩
  try dsimp only[aU]
  have n10:=o.n10
  have m20:=o.m20
  have he7:∀ r∈rs,1<=r.e/\r.e<=7:=λr hr'=>⟨(o.ok r hr').e1,(o.ok r hr').e7⟩
  obtain⟨qb,hb0,hqb⟩:=id hB
  have eqb:qb.length=rs.length:=by rw[hqb.len,ah]
  obtain⟨loc,dx,q,hp,O,hF,hT⟩:=id N.cQ
  have bQ:=O.get .cQ _ rfl
  rw[hp] at bQ
  clear hp O hF hT
  refine⟨3,rfl,by decide,by decide,nM (n:=3) (λg σ H2=>aC H H2/\∃ v7 v8 v9:Option V,σ = [some (.ref p),some (.ref b0),some (.ref ls),some (.ref l3),some (.ref n3),some (.int i),some (.bl e),v7,v8,v9]) ⟨aC.refl _,_,_,_,rfl⟩ ?_ ?_⟩
  ·rintro g σ H2 hg ⟨s2,v7,v8,v9,rfl⟩
   rw[dm]
   refine⟨_,rfl,_,rfl,_,rfl,b0,ls,rs,i6,bs,g,rfl,hB.keep (λo z=>s2 _ _ z) (λb x=>s2.dB),hX.mono s2,ebs,by lia,he7,hg,λlv H3 s3 alv jk=>?_⟩
   have Wh:=s2.trans s3
   have elv:pV rs (bs.map stand) g rs.length=EL rs st.ws g:=by rw[ews]
   rw[elv] at jk
   have l20:(EL rs st.ws g).length<=20:=aH (Bm rs st.ws g rs.length) m20
   refine⟨_,rfl,p,_,_,rfl,Wh _ _ bQ,rfl,_,rfl,F,p,tp,ln,lr,ns,rs,st,g,rfl,N.mono Wh,o,yi,hg,λl1 H4 s4 XQ hl1=>?_⟩
   refine⟨_,rfl,l1,lv,EL rs st.ws g,rfl,bJ.of hl1,bJ.of (s4 _ _ jk),by lia,λH5 s5=>⟨_,rfl,fk ?_⟩⟩
   have s15:=(Wh.trans s4).trans s5
   have adU:=s5 _ _ (s4 _ _ jk)
   clear s4 s5 hl1 XQ l1
   refine⟨_,rfl,p,_,_,rfl,s15 _ _ bQ,rfl,_,rfl,F,p,tp,ns.length,g,st,rfl,(N.mono s15).cQ,hg,λrb qr H6 s6 aa3 hrb htr=>?_⟩
   have s16:=s15.trans s6
   have deep:(RM.JS ns.length (st.R g)).depth<=64:=aH (RM.OX ns.length (st.R g)) (by decide)
   refine⟨_,rfl,_,rfl,l3,_,_,_,rfl,rfl,s16.seq hl3,ly hg,RM.JS ns.length (st.R g),RM.JS ns.length (st.R g),(htr.GN (bJ.of hrb)).data,((htg g hg).mono s16).data,RM.DF _ _,RM.DF _ _,aZ (bM (aH (c9 _ _) deep) _) hr.units,_,rfl,?_⟩
   rw[SeqAt.eqv_refl _ (RM.DF _ _)]
   refine fk ?_
   have adW:=s6 _ _ adU
   clear s6 aa3 hrb htr adU
   refine⟨_,rfl,p,_,_,rfl,s16 _ _ bQ,rfl,_,rfl,F,p,tp,ln,lr,ns,rs,st,o,g,rfl,N.mono s16,yi,hg,λlo os H7 s7 VN hlo hO h12=>?_⟩
   have s17:=s16.trans s7
   refine⟨_,rfl,_,rfl,_,rfl,_,rfl,l3,_,_,_,rfl,rfl,s17.seq hl3,ly hg,b0,lv,tg g,ns,rs,EL rs st.ws g,o.nd,o.ok,vK,st.R g,rfl,hB.keep (λo z=>s17 _ _ z) (λb x=>s17.dB),bJ.of (s7 _ _ adW),(htg g hg).mono s17,l20,List.Pairwise.filter _ tO,yi.fit g hg,λl4 os4 H8 s8 ahs Ou hO4=>?_⟩
   have eo:os4=os:=hO4.uniq hO
   subst eo
   refine⟨lo,l4,os4,rfl,bJ.of (s8 _ _ hlo),bJ.of Ou,by lia,λH9 s9=>⟨_,rfl,fk ?_⟩⟩
   have s19:=(s17.trans s8).trans s9
   clear s7 s8 s9 VN hlo ahs Ou hO4 adW
   refine⟨_,rfl,_,rfl,n3,_,_,_,rfl,rfl,s19.seq hn3,ly hg,?_⟩
   try dsimp only
   refine ou (λσ H2=>∃ (v:V) (us2:List T3),aC H9 H2/\Rep K H2 (.list (us2.map P6)) v/\qN us2/\us2.Perm (st.ts g)/\σ = [some (.ref p),some (.ref b0),some (.ref ls),some (.ref l3),some (.ref n3),some (.int i),some (.bl e),some (.int (g:Nat)),some (.ref lv),some v]) ?_ (λN' hN=>?_)
   rotate_left
   ·have hil:=(ai.mp Ma).1
    have hq:(qb.map V.ref)[i]?=some (V.ref (qb[i]'(by lia))):=by rw[aj,aa]; rfl
    have hqt:=hqb.at' i (qb[i]'(by lia)) r.vs (aa _) (by rw[aj,Ma]; rfl)
    have hts:=hts g hg
    refine⟨_,rfl,e,rfl,jS (λee=>?_) (λee=>?_)⟩
    ·refine⟨_,rfl,_,rfl,b0,_,_,_,rfl,rfl,bJ.of (s19 _ _ hb0),dG hq,_,_,_,_,rfl,rfl,s19.dB hqt,rfl,_,rfl,_,_,rfl,rfl,(by show (0:Int)<=(g:Nat); lia),_,_,rfl,rfl,rfl,_,rfl,?_⟩
     try dsimp only
     rw[eO,Oc (he7 _ (aI Ma)).1 (he7 _ (aI Ma)).2 hg]
     refine jS (λel=>?_) (λel=>?_)
     ·refine⟨br _,λla hla=>hN _ _ ⟨.ref la,[],aC.new hla,⟨la,[],rfl,bJ.of ao,rfl⟩,λi j x y _ z=>by simp at z,?_,rfl⟩⟩
      rw[if_pos ⟨ee,el⟩] at hts
      rw[hts]
     ·rw[if_neg λz=>el z.2] at hts
      exact hN _ _ ⟨.ref (ng g),us g,aC.refl _,(hng g hg).mono s19,hts.1,hts.2,rfl⟩
    ·rw[if_neg λz=>ee z.1] at hts
     exact hN _ _ ⟨.ref (ng g),us g,aC.refl _,(hng g hg).mono s19,hts.1,hts.2,rfl⟩
   rintro σ Wc ⟨v,us2,Dt,rv,so2,pm2,rfl⟩
   have s20:=s19.trans Dt
   refine⟨_,rfl,p,_,_,rfl,s20 _ _ bQ,rfl,_,rfl,F,p,tp,ns.length,g,st,rfl,(N.mono s20).cQ,hg,h2k g,λl5 qs5 Rv H11 s11 YQ h5 hT5 hP5 hS5=>?_⟩
   have eu:Rv=us2:=Lh (hP5.trans pm2.symm) hS5 so2
   subst eu
   have d5:(PyData.list (Rv.map P6)).depth<=64:=by
    show PyData.depthAll (Rv.map P6) + 1<=64
    have:=KP Rv
    lia
   refine⟨_,rfl,.list (Rv.map P6),.list (Rv.map P6),⟨l5,_,rfl,bJ.of h5,IE hT5⟩,rv.mono s11,Ds Rv,Ds Rv,aZ (bM (aH (c9 _ _) d5) _) hr.units,_,rfl,?_⟩
   rw[SeqAt.eqv_refl (.list (Rv.map P6)) (Ds Rv)]
   exact fk ⟨s20.trans s11,_,_,_,rfl⟩
  ·rintro σ H2 ⟨s2,v7,v8,v9,rfl⟩
   exact k _ s2
noncomputable def JC(x:List Int):PyData:=.tuple (x.map .int)
theorem IF{H:Hp}:∀ {qs:List Addr} {xs:List (List Int)},dR K H qs (xs.map λx=>x.map V.int)->b4 K H (xs.map JC) (qs.map V.ref)
 | [],[],_=>rfl
 | [],_ :: _,h=>by cases h.len
 | _ :: _,[],h=>by cases h.len
 | q :: qs,x :: xs,h=>⟨.ref q,qs.map V.ref,rfl,Rep.Gn (ns:=x) (h.at' 0 q _ rfl rfl),IF ⟨Nat.succ.inj h.len,λi p y a b=>h.at' (i + 1) p y a b⟩⟩
theorem IG:∀ xs:List (List Int),PyData.canLayAll0 (xs.map JC)=true
 | []=>rfl
 | x :: xs=>by
  show (PyData.canLayAll0 (x.map .int) && PyData.canLayAll0 (xs.map JC))=true
  rw[IG xs,gU]; rfl
theorem Ey:∀ xs:List (List Int),PyData.depthAll (xs.map JC)<=1
 | []=>by decide
 | x :: xs=>by
  show max (PyData.depthAll (x.map .int) + 1) (PyData.depthAll (xs.map JC))<=1
  have:=Ey xs
  have:=rF x
  lia
theorem Rw{ds:List PyData}:(PyData.list ds).eqv (.list [])=ds.isEmpty:=by cases ds <;> rfl
end
section
variable{K:af}{H H' H2:Hp}{G:Addr->Prop}
def Mh(H:Hp)(G:Addr->Prop):Prop:=∀ b,G b->∃ o,H b=some o/\tV o
theorem Mh.mono(h:Mh H G)(s:aC H H'):Mh H' G:=λb z=>by
 obtain⟨o,h1,h2⟩:=h b z
 exact⟨o,s _ _ h1,h2⟩
theorem Mh.free(h:Mh H G){b:Addr}(e:H b=none):¬ G b:=λz=>by
 obtain⟨o,h1,_⟩:=h b z
 rw[e] at h1
 cases h1
theorem Mh.adZ(h:Mh H G){b:Addr}{x:List V}(e:cH K H b x):cH K (Off H G) b x:=by
 rcases e with (e | ⟨o,e⟩) | e
 ·refine .inl (.inl (mF (λz=>?_) e))
  obtain⟨u,h1,h2⟩:=h b z
  rw[e] at h1
  cases h1
  exact (h2 x).1 rfl
 ·refine .inl (.inr ⟨o,mF (λz=>?_) e⟩)
  obtain⟨u,h1,h2⟩:=h b z
  rw[e] at h1
  cases h1
  exact (h2 x).2 o rfl
 ·exact .inr e
theorem Mh.or(h:Mh H G){b:Addr}{xs:List V}(e:H b=some (.lst xs)):Mh H λx=>G x∨x=b:=λx z=>by
 rcases z with z | rfl
 ·exact h x z
 ·exact⟨_,e,jE⟩
theorem V3{z:Addr}{o:HO}(hz:G z):Off (upd H z o) G=Off H G:=by
 funext b
 unfold TW.Off
 split
 ·rfl
 ·rename_i n
  exact aD λe=>n (e ▸ hz)
end
section
variable{P:Program}{w:World}{K:af}{mg:Str->Option Value}{base:Heap}
theorem XR(rs:List R5):(rs.map λr=>aY r.d.toNat true).map stand=rs.map λr=>aq r.d.toNat:=by
 rw[cu]
 exact dh λr _=>OZ _
theorem V4{n:Nat}{rs:List R5}(ok:∀ r∈rs,r.Ok n):Z0 rs (rs.map λr=>aY r.d.toNat true):=by
 refine⟨ah _,λi r b e1 e2=>?_⟩
 rw[aj,e1] at e2
 cases e2
 rw[List.length_replicate]
 have:=(ok r (aI e1)).d1
 lia
theorem ad0{ns:List Int}{rs:List R5}{cl:List (Nat × Nat)}(o:fq ns rs)(yJ:cl.length<=20)(hc:∀ c∈cl,c.1 < ns.length/\c.2 < 3):SD ns rs (rs.map λr=>aY r.d.toNat true) cl 0 (S0 ns rs cl):=by
 refine⟨⟨ah _,λw hw=>?_,λg _ i hi=>⟨?_,j5 _,⟨j5 _,by show (0:Int) < (ns.length:Int); lia⟩,.inl rfl⟩⟩,⟨?_,?_,λg hg=>?_,λh hh=>?_,?_,λw hw=>?_,br _,λl z=>(by cases z),br _,λc z=>(by cases z),λg=>⟨br _,oW⟩⟩,(XR rs).symm,V4 o.ok,rfl,rfl⟩
 ·obtain⟨r,hr,rfl⟩:=bL.mp hw
  rw[bH]
  have:=(o.ok r hr).d4
  lia
 ·show 0<=ns.getD i 0
  rw[az,aa hi]
  exact o.pos _ (aL hi)
 ·show (cl.map _).length=(cl.map _).length
  rw[ah,ah]
 ·show (cl.map _).length<=20
  rw[ah]
  exact yJ
 ·obtain⟨c,z,rfl⟩:=bL.mp hg
  exact (hc c z).2
 ·obtain⟨c,z,rfl⟩:=bL.mp hh
  exact (hc c z).1
 ·show (cl.map _).length=(cl.map _).length
  rw[ah,ah]
 ·obtain⟨c,z,rfl⟩:=bL.mp hw
  exact br _
theorem L7(y:Int){n:Nat}(h:0 < n):∃ x:Nat,y % (n:Int)=(x:Int)/\x < n:=by
 have h1:=bN y (show (n:Int)≠0 by lia)
 have h2:=bR y (show (0:Int) < (n:Int) by lia)
 exact⟨(y % (n:Int)).toNat,by lia,by lia⟩
noncomputable def cpI(c:Cp):List Int:=[c.l,c.r,c.w,c.h]
theorem aa4(cps:List Cp):cps.map Cp.vs=(cps.map cpI).map λx=>x.map V.int:=by rw[cu]; rfl
theorem ad2(rs:List R5):rs.map R5.vs=(rs.map R5.ns).map λx=>x.map V.int:=by rw[cu]; rfl
def Rx(F:Addr->Prop)(i6:List Addr)(lt:Addr):Addr->Prop:=λb=>F b∨b∈i6∨b=lt
theorem DX.mut{CT:Addr}{tp ln lr b0 ls pl p:Addr}{i6:List Addr}{ns:List Int}{rs:List R5}{bs:List (List Bool)}{cl:List (Nat × Nat)}{c:NC}{H:Hp}{F:Addr->Prop}{n:Nat}{s:NS}(N:c5 K c H F p tp n s)(d:DX K CT (Off H F) tp ln lr b0 ls i6 pl ns rs bs cl):Mh H (Rx F i6 pl):=λb z=>by
 rcases z with z | z | rfl
 ·obtain⟨o,h⟩:=N.there z
  exact⟨o,h,N.U0 z h⟩
 ·obtain⟨j,hj⟩:=jm z
  have hjl:=(ai.mp hj).1
  rw[d.sts.len] at hjl
  exact⟨_,bY _ _ (d.sts.it j b _ hj (aa hjl)),jE⟩
 ·obtain⟨qp,h1,_⟩:=d.pla
  exact⟨_,bY _ _ h1,jE⟩
theorem Kp.big{i6:List Addr}{pl:Addr}{H H':Hp}{F F':Addr->Prop}(k:Kp (Off H F) (Off H' F') i6 pl):aC (Off H (Rx F i6 pl)) H':=λb o e=>by
 obtain⟨h1,h2⟩:=jF e
 exact bY _ _ (k b o (mF (λz=>h1 (.inl z)) h2) (λz=>h1 (.inr (.inl z))) λz=>h1 (.inr (.inr z)))
theorem II{s:NS}{e:Int}{g:Nat}:∀ m,(nD s e m).R=s.R/\(nD s e m).ts g=if g < m/\lQ e g=true then [] else s.ts g
 | 0=>⟨rfl,by rw[if_neg (by lia)]; rfl⟩
 | m + 1=>by
  obtain⟨h1,h2⟩:=II (s:=s) (e:=e) (g:=g) m
  rw[yk]
  by_cases el:lQ e m=true
  ·rw[if_pos el]
   refine⟨h1,?_⟩
   show gz (nD s e m).ts m [] g=_
   by_cases z:g=m
   ·subst z
    rw[cJ,if_pos ⟨by lia,el⟩]
   ·rw[eK z,h2]
    by_cases y:g < m/\lQ e g=true
    ·rw[if_pos y,if_pos ⟨by lia,y.2⟩]
    ·rw[if_neg y,if_neg λw=>y ⟨by lia,w.2⟩]
  ·rw[if_neg el]
   refine⟨h1,?_⟩
   rw[h2]
   by_cases z:g=m
   ·subst z
    rw[if_neg λw=>el w.2,if_neg λw=>el w.2]
   ·by_cases y:g < m/\lQ e g=true
    ·rw[if_pos y,if_pos ⟨by lia,y.2⟩]
    ·rw[if_neg y,if_neg λw=>y ⟨by lia,w.2⟩]
theorem Ry{s:NS}{i x:Nat}{w:List Nat}{e:Int}{g:Nat}(hg:g < 3):(Il s i x w e).R=s.R/\(Il s i x w e).ts g=if (w.filter λz=>decide (z≠x)).isEmpty=true/\lQ e g=true then [] else s.ts g:=by
 obtain⟨_,e2,e3,_⟩:=IC (s:={ s with ws:=s.ws.set i (w.filter λz=>decide (z≠x)) }) (i:=i) (x:=x) s.cps.length (au _)
 unfold Il
 by_cases z:(w.filter λz=>decide (z≠x)).isEmpty=true
 ·rw[if_pos z]
  obtain⟨h1,h2⟩:=II (s:=CF { s with ws:=s.ws.set i (w.filter λz=>decide (z≠x)) } i x) (e:=e) (g:=g) 3
  refine⟨h1.trans e2,h2.trans ?_⟩
  rw[show (CF { s with ws:=s.ws.set i (w.filter λz=>decide (z≠x)) } i x).ts=s.ts from e3]
  by_cases y:lQ e g=true
  ·rw[if_pos ⟨hg,y⟩,if_pos ⟨z,y⟩]
  ·rw[if_neg λw=>y w.2,if_neg λw=>y w.2]
 ·rw[if_neg z,if_neg λw=>z w.1]
  exact⟨e2,congrFun e3 g⟩
theorem V5{s:NS}{i:Nat}{w w2:List Nat}{e:Int}{g:Nat}(hg:g < 3):(P0 s i w w2 e).R=s.R/\(P0 s i w w2 e).ts g=if w.isEmpty=true/\lQ e g=true then [] else s.ts g:=by
 unfold P0
 by_cases z:w.isEmpty=true
 ·rw[if_pos z]
  obtain⟨h1,h2⟩:=II (s:={ s with ws:=s.ws.set i w2 }) (e:=e) (g:=g) 3
  refine⟨h1,h2.trans ?_⟩
  by_cases y:lQ e g=true
  ·rw[if_pos ⟨hg,y⟩,if_pos ⟨z,y⟩]
  ·rw[if_neg λw=>y w.2,if_neg λw=>y w.2]
 ·rw[if_neg z,if_neg λw=>z w.1]
  exact⟨rfl,rfl⟩
inductive V6(K:af)(vs:List V)(H:Hp)(Q:VK)(E:XK):Prop
 | mk (a:Addr) (ns:List Int):vs = [.ref a]->bJ K H a (ns.map V.int)->ns.length<=63->(∀ H',Q (.bl true) H')->V6 K vs H Q E
theorem aa5{t:Ad}(T:Txt K mg t):bV P w K mg base gO 9 t.M2 t.M3 ["_law_script"]  (V6 K):=by
 refine T.Vp.F.jo gY λH Q E hr h=>?_
 ·obtain⟨a,cs,rfl,hS,hlen,k⟩:=h
  refine⟨_,(ak (sS 1 gY (aS fJ aA (aS dQ (cG (fT T) hr T.fU (mH (pv 0) aA)) aA))) (ak (sS 2 gY (aS dQ (cG (fT T) hr T.fU (mH (pv 0) aA)) aA)) (ak (sS 3 gY (cG (PV T) hr T.Ke (J2 (pv 0) (pv 1) (pv 2)))) (ak (sS 4 gY (cG (L1 T) hr T.ET (J2 (pv 0) (pv 1) (pv 2)))) (ak (sS 5 gY (cI T.CU (Jz T) hr T.acU (mH (cI T.AX (HX T) hr T.aaj (mH (cG (PU T) hr T.Kd (mH (pv 0) (pv 1))) (iZ iC (by rfl) T.xM boot_list (fV (pv 3))))) (iZ iC (by rfl) T.xM boot_list (fV (pv 4)))))) (ak (dY (cG (Og T) hr T.Hf (J2 (pv 5) (pv 1) (pv 2)))) (ak (wN (i:=7) gY.nd rfl (Or.inl rfl) (kO gY ["_law_rope"] [none]) rfl (fB (pv 3)) (λ_ _ _ _=>by exact (gS 0 Sv)) (λ_ _ _ _=>by exact jT) (λ_ _ _ _=>by exact (aS ZG (gx (fV Ez)) (yT K (pv 0) aA)))) (ak (fS (fB (yQ Wz (pv 0) (tS aA) (tS aA))) (gT 8 gY) (ak (dY (qL (pv 5) T.bD T.Pq (NZ T) (hr.mono (by decide)) T.Pp (show bT [V.eU] [Value.none] from .cons rfl .nil) mj (fV (aS dQ (pv 8) (lS T.jQ (pv 4)))))) (ak (fS (eB rfl T.gI (fV (aS OB aA (lS T.jQ (pv 3))))) (gT 9 gY) (aW (cC (qT Lc (ki (pv 5) T.bD T.xF.m (JB T) (hr.mono (by decide)) T.xF.B .nil mj) (gx fK)) (oE (ki (pv 5) T.bD T.Jc (Iz T) (hr.mono (by decide)) T.Jb (show bT [V.int 0] [_] from .cons ⟨_,rfl⟩ .nil) mj)) aX))) (ak (cC (qT uF (pv 3) (gx fK)) (oR (qE uF (cM (pv 5) T.bD T.uh (yj T) hr (fV (pv 2))) (gx fK))) aX) (ak (sS 6 gY (aS dQ (aS eV (pv 8) aA) (lS T.jQ (pv 3)))) (ak (sS 10 gY (aS dQ (aS eV (pv 8) aA) (xT (xL (pv 3) (pv 6)) aA))) (ak (wN (i:=11) gY.nd rfl (Or.inl rfl) (kO gY ["_law_one","_law_net"] [none,some 5]) rfl (eB rfl T.gI (fV aA)) (λ_ _ _ _=>by exact (gS 0 Sw)) (λ_ _ _ _=>by exact jT) (λ_ _ _ _=>by exact (cM (pv 1) T.bD T.lG (lV T) hr (fV (pv 0))))) (ak (wN (i:=12) gY.nd rfl (Or.inl rfl) (kO gY ["_law_one","_law_net"] [none,some 5]) rfl (eB rfl T.gI (fV aA)) (λ_ _ _ _=>by exact (gS 0 Sx)) (λ_ _ _ _=>by exact jT) (λ_ _ _ _=>by exact (cM (pv 1) T.bD T.uh (yj T) hr (fV (pv 0))))) (ak (sS 13 gY (K1 lP Ez (xL (pv 7) (pv 6)) (by with_unfolding_all rfl))) (ak (cC (nL (xL (xL (pv 7) (pv 6)) (pv 10))) (aW (sS 14 gY (cM (pv 5) T.bD T.G7 (NV T) hr (mH (pv 6) (pv 10))))) (aW (sS 14 gY (cM (pv 5) T.bD T.Ka (P1 T) hr (mH (pv 6) (pv 10)))))) (ak (Gd (Tw (xL (xL (pv 7) (pv 6)) (pv 10))) (KY (xL (pv 7) (pv 6)) (pv 10) set_list)) (ak (sS 15 gY (qE yP (pv 13) (K1 lP Ez (xL (pv 7) (pv 6)) (by with_unfolding_all rfl)))) (ak (cC (PW.pt (Qa (jx (nL (cB Gp T.rB boot_isinstance (mH (pv 14) (FJ rfl T.Vs boot_bool (v:=.ty "bool") rfl))))) (KW (qT yP (pv 14) (pv 15))))) oB aX) (aW (cC (jx (nL (cG (S6 T) hr T.M5 (aN7 (pv 5) (pv 3) (pv 7) (pv 11) (pv 12) (pv 6) (pv 15))))) oB aX))))))))))))))) oB)))))))),?_⟩
  try dsimp only[aU]
  refine⟨_,rfl,a,cs,0,rfl,hS,by decide,_,_,rfl,rfl,(by show (0:Int) < 10; decide),_,_,rfl,rfl,?_⟩
  obtain⟨n,hn,hn1,V7⟩ : ∃ n:Nat,1 + cs.getD (0:Int).toNat 0 % 10=(n:Int)/\1<=n/\n<=10:=by
   have h1:=bN (cs.getD (0:Int).toNat 0) (show (10:Int)≠0 by decide)
   have h2:=bR (cs.getD (0:Int).toNat 0) (show (0:Int) < 10 by decide)
   exact⟨(1 + cs.getD (0:Int).toNat 0 % 10).toNat,by lia,by lia,by lia⟩
  show gM 1 (V.int (1 + cs.getD (0:Int).toNat 0 % 10)) _ _ _
  rw[hn]
  clear hn
  refine⟨_,rfl,a,cs,1,rfl,hS,by decide,_,_,rfl,rfl,(by show (0:Int) < 3; decide),?_⟩
  obtain⟨g,hge,hg⟩ : ∃ g:Nat,cs.getD (1:Int).toNat 0 % 3=(g:Int)/\g < 3:=L7 _ (by decide)
  show gM 2 (V.int (cs.getD (1:Int).toNat 0 % 3)) _ _ _
  rw[hge]
  clear hge
  refine⟨_,rfl,_,rfl,_,rfl,a,cs,n,g,rfl,hS,hn1,V7,hg,λb0 H1 rs s1 hb0 hR1 l14 ok=>?_⟩
  refine⟨_,rfl,_,rfl,_,rfl,a,cs,n,g,rfl,s1.seq hS,hn1,V7,hg,λcb qs H2 cl s2 ad3 hcb YW hc1 VR ad4=>?_⟩
  have s12:=s1.trans s2
  refine⟨_,rfl,_,rfl,a,cs,n,rfl,s12.seq hS,hn1,V7,λa0 H3 ns s3 ha0 hA3 eln nd nn=>?_⟩
  subst eln
  have Wh:=s12.trans s3
  obtain⟨us,hB1,ad5⟩:=hR1
  have Y6:=(s2.trans s3) _ _ hB1
  have Oi:dR K H3 us (rs.map R5.vs):=ad5.mono λb x=>(s2.trans s3).dB
  have P7:=s3 _ _ hcb
  have ad6:dR K H3 qs (adR cl):=YW.mono λb x=>s3.dB
  have hS3:=Wh.seq hS
  have tok:fq ns rs:=⟨nd,ok,hn1,V7,by lia,nn⟩
  have hw4:∀ r∈rs,1<=r.d/\r.d<=4:=λr hr'=>⟨(ok r hr').d1,(ok r hr').d4⟩
  have he7:∀ r∈rs,1<=r.e/\r.e<=7:=λr hr'=>⟨(ok r hr').e1,(ok r hr').e7⟩
  have ad7:cb≠b0:=(aF hB1 ad3).symm
  clear s1 s2 s3 s12 Wh hB1 ad5 ha0 hb0 ad3 hS hcb YW
  refine⟨_,rfl,b0,_,rfl,.inl (bJ.of Y6),λl2 h2=>?_⟩
  have t2:=aC.new (o:=.lst (us.map V.ref)) h2
  have hl2:=ao (H:=H3) (a:=l2) (o:=.lst (us.map V.ref))
  generalize upd H3 l2 (.lst (us.map V.ref))=H4 at t2 hl2
  refine λtp dx np ndx nep=>?_
  have t7:aC H4 (upd (upd H4 dx (.own tp)) tp (.ins t.aR dx [])):=(aC.new ndx).trans (aC.new (by rw[aD (bK nep)]; exact np))
  refine⟨tp,dx,a0,l2,ns,rs,rfl,ao,bJ.of (t7 _ _ (t2 _ _ hA3)),⟨l2,_,rfl,bJ.of (t7 _ _ hl2),IT.Yu (l:=l2) (Oi.mono λb x=>(t2.trans t7).dB)⟩,hn1,V7,nn,nd,by lia,ok,λln lr H5 hln hlr hT kp=>⟨rfl,?_⟩⟩
  have t5:aC H3 H5:=t2.trans λb o e=>kp b o (t7 b o e) (aF e np)
  have ncb:cb≠tp/\cb≠ln/\cb≠lr:=⟨aF (t2 _ _ P7) np,aF (t7 _ _ (t2 _ _ P7)) hln,aF (t7 _ _ (t2 _ _ P7)) hlr⟩
  clear kp hlr hln t7 nep ndx np hl2 t2 h2
  refine⟨_,rfl,cb,_,rfl,.inl (bJ.of (t5 _ _ P7)),λl3 h3=>?_⟩
  have t6:=aC.new (o:=.lst (qs.map V.ref)) h3
  have hl3:=ao (H:=H5) (a:=l3) (o:=.lst (qs.map V.ref))
  have hT6:=hT.mono t6
  have t36:=t5.trans t6
  generalize upd H5 l3 (.lst (qs.map V.ref))=H6 at t6 hl3 hT6 t36
  clear h3 t6 hT t5
  refine λp Dv npp ndx nep=>?_
  have t7:aC H6 (upd (upd H6 Dv (.own p)) p (.ins t.cD Dv [])):=(aC.new ndx).trans (aC.new (by rw[aD (bK nep)]; exact npp))
  refine⟨p,Dv,tp,ln,lr,l3,ns,rs,qs,cl,rfl,ao,hT6.mono t7,by lia,by lia,hw4,bJ.of (t7 _ _ hl3),ad6.mono λb x=>(t36.trans t7).dB,VR,ad4,λF H7 N kp fr=>⟨rfl,?_⟩⟩
  have S7:aC H6 (Off H7 F):=U4 t7 npp kp fr
  have hT7:=hT6.mono S7
  have Y7:=t36.trans S7
  have s37:=Y7.trans bY
  clear kp fr t7 nep ndx npp hl3 t36 hT6 S7
  have sd7:=ad0 tok VR ad4
  refine⟨_,rfl,_,rfl,_,rfl,F,p,tp,ln,lr,ns,rs,_,cl,0,_,g,rfl,tok,hT7.nw N (λb z=>z),sd7,hg,λs7 F' H7' W7 sd7 My=>?_⟩
  have S7':=rY My
  replace hT7:=hT7.mono S7'
  replace Y7:=Y7.trans S7'
  have s37:=Y7.trans bY
  have N:=W7.cQ
  clear W7 My S7'
  have hB7:=s37 _ _ Y6
  have aea:dR K H7' us (rs.map R5.vs):=Oi.mono λb x=>s37.dB
  have eus:us.length=rs.length:=by rw[Oi.len,ah]
  refine⟨_,rfl,b0,rfl,⟨_,bJ.of hB7⟩,λls hls=>?_⟩
  have hq7:=bJ.of (K:=K) hB7
  refine fQ (n:=(us.map V.ref).length) (λi ys H8=>∃ i6:List Addr,ys=i6.map V.ref/\i6.length=i/\i6.Nodup/\∀ (j:Nat) l r,i6[j]?=some l->rs[j]?=some r->H8 l=some (.lst ((aY r.d.toNat true).map V.bl))/\l≠ls/\H7' l=none) hls (yV hq7) (o6 hq7) ⟨[],rfl,rfl,oW,λj l r e=>by simp at e⟩ ?_ ?_
  ·rintro i ys H8 hi s8 hy ⟨i6,rfl,el,hnd,Oj⟩ x H9 ⟨rfl,hx⟩
   have hx:=hx _ (s8.seq hq7)
   have hi':i < us.length:=by rw[ah] at hi; exact hi
   have Dy:rs[i]?=some rs[i]:=aa (by lia)
   have hq:=aea.at' i us[i] (rs[i]).vs (aa hi') (by rw[aj,Dy]; rfl)
   rw[aj,aa hi'] at hx
   cases hx
   have w4:=hw4 _ (aI Dy)
   refine⟨(by show 1<=sizeLine; decide),λl1 h1=>?_⟩
   have s9:=aC.new (o:=.lst [.bl true]) h1
   refine⟨_,rfl,us[i],_,_,_,rfl,rfl,(s8.trans s9).dB hq,rfl,l1,rs[i].d,_,rfl,rfl,ao,by lia,by lia,(by show 1 * rs[i].d.toNat<=sizeLine; exact iL (bW (by lia))),λl2 h2=>?_⟩
   rw[TW.ZZ]
   have Dt:=s9.trans (aC.new (o:=.lst ((aY rs[i].d.toNat true).map V.bl)) h2)
   have XQ:=ao (H:=upd H9 l1 (.lst [.bl true])) (a:=l2) (o:=.lst ((aY rs[i].d.toNat true).map V.bl))
   have Tc:=Dt _ _ hy
   have nl2:l2≠ls:=(aF (s9 _ _ hy) h2).symm
   have hn8:H9 l2=none:=s9.free h2
   have hn7:H7' l2=none:=s8.free hn8
   generalize upd (upd H9 l1 (.lst [.bl true])) l2 (.lst ((aY rs[i].d.toNat true).map V.bl))=Wc at Dt XQ Tc
   refine dZ hls hi (s8.trans Dt) Tc (by rw[ah,el]; exact bW (by lia)) ⟨i6++[l2],by rw[aT]; rfl,by rw[av,el]; rfl,?_,λj l' r e1 e2=>?_⟩
   ·rw[uA]
    refine⟨hnd,by simp,λx hx y hy'=>?_⟩
    have:y=l2:=by simpa using hy'
    subst this
    obtain⟨j,hj⟩:=jm hx
    have hjl:=(ai.mp hj).1
    exact aF (Oj j x _ hj (aa (by lia))).1 hn8
   ·rcases wQ e1 with e1 | ⟨rfl,rfl⟩
    ·obtain⟨z1,z2⟩:=Oj j l' r e1 e2
     exact⟨by rw[aD z2.1]; exact Dt _ _ z1,z2⟩
    ·rw[el,Dy] at e2
     cases e2
     exact⟨by rw[aD nl2]; exact XQ,nl2,hn7⟩
  rintro ys H8 s8 hy ⟨i6,rfl,el,hnd,Oj⟩
  rw[ah] at el
  have nF:∀ b,H7' b=none->¬ F' b:=λb e z=>by
   obtain⟨o,h⟩:=N.there z
   rw[e] at h
   cases h
  have new:∀ l∈i6,H7' l=none/\l≠ls:=λl hl=>by
   obtain⟨j,hj⟩:=jm hl
   have hjl:=(ai.mp hj).1
   exact⟨(Oj j l _ hj (aa (by lia))).2.2,(Oj j l _ hj (aa (by lia))).2.1⟩
  have hX8:Wd (Off H8 F') ls i6 (rs.map λr=>aY r.d.toNat true):=by
   refine⟨mF (nF ls hls) hy,by rw[ah]; lia,hnd,λi l b e1 e2=>?_⟩
   rw[aj] at e2
   cases e3:rs[i]? with
   | none=>rw[e3] at e2; cases e2
   | some r =>
    rw[e3] at e2
    cases e2
    exact mF (nF l (Oj i l r e1 e3).2.2) (Oj i l r e1 e3).1
  clear Oj hy hnd el hq7 aea hB7
  have N8:=N.mono s8
  have S78:=gf (F:=F') s8
  have hT8:=hT7.mono S78
  have S38:=Y7.trans S78
  have s38:=S38.trans bY
  have hS8:bJ K (Off H8 F') a (cs.map V.int):=S38.seq hS3
  have aeb:=S38 _ _ P7
  have Td:∀ {b o},Off H7' F' b=some o->∀ l,H7' l=none->l≠b:=λ{b o} e l hl z=>by
   have:=bY _ _ e
   rw[<- z,hl] at this
   cases this
  obtain⟨⟨dt,htp⟩,hln,_,hlr,_⟩:=id hT7
  have aec:=Y7 _ _ Y6
  have aa9:=Y7 _ _ P7
  have Tr:DX K t.aR (Off H8 F') tp ln lr b0 ls i6 cb ns rs (rs.map λr=>aY r.d.toNat true) cl:=by
   refine⟨hT8,⟨us,S38 _ _ Y6,Oi.mono λb x=>S38.dB⟩,hX8,⟨qs,aeb,ad6.mono λb x=>S38.dB⟩,λl hl=>?_,⟨ncb.1,ncb.2.1,ncb.2.2,ad7,aF (bY _ _ aa9) hls⟩⟩
   obtain⟨z1,z2⟩:=new l hl
   exact⟨Td htp l z1,Td hln l z1,Td hlr l z1,Td aec l z1,z2,Td aa9 l z1⟩
  clear Td aec aa9 htp hln hlr S38 s38 S78 hT8 hT7 Y7 s37 Oi Y6 P7 hS3 hX8 new nF N s8 hls ncb ad7 aeb
  generalize (rs.map λr=>aY r.d.toNat true)=bs at Tr sd7
  have yJ:=VR
  obtain⟨ys,eys,lys⟩ : ∃ ys:List Int,Ff (cs.map V.int) (some 30) (some 54)=ys.map V.int/\ys.length<=24:=UM cs 30 54
  refine⟨_,rfl,_,rfl,_,rfl,a,_,rfl,bY.seq hS8,λlq hlq=>?_⟩
  rw[eys]
  have N8:=N8
  have u1:=aC.new (o:=.lst (ys.map V.int)) hlq
  have aba:=ao (H:=H8) (a:=lq) (o:=.lst (ys.map V.int))
  have nFq:¬ F' lq:=λz=>by
   obtain⟨o,h⟩:=N8.there z
   rw[hlq] at h
   cases h
  have nlq:lq ∉ i6:=λz=>by
   obtain⟨j,hj⟩:=jm z
   have hjl:=(ai.mp hj).1
   rw[Tr.sts.len] at hjl
   exact aF (bY _ _ (Tr.sts.it j lq _ hj (aa hjl))) hlq rfl
  have npq:lq≠cb:=λz=>by
   obtain⟨qp,h1,_⟩:=Tr.pla
   exact aF (bY _ _ h1) hlq z.symm
  generalize upd H8 lq (.lst (ys.map V.int))=H9 at u1 aba
  have N9:=N8.mono u1
  have XS:=Tr.mono (gf (F:=F') u1)
  have hq9:Off H9 F' lq=some (.lst (ys.map V.int)):=mF nFq aba
  clear nFq aba u1 hlq hS8 Tr N8
  refine⟨lq,rfl,⟨_,bJ.of (bY _ _ hq9)⟩,rO (K:=K) (a:=lq) (xs:=ys.map V.int) (λj σ H2=>∃ (s2:NS) (F2:Addr->Prop) (XT:List (List Bool)) (v6 v8 v9 v10 v11 Tq v13 v14 v15:Option V),c5 K (nc t) H2 F2 p tp ns.length s2/\DX K t.aR (Off H2 F2) tp ln lr b0 ls i6 cb ns rs XT cl/\SD ns rs XT cl (2900 * j) s2/\(j=0∨rs≠[])/\Off H2 F2 lq=some (.lst (ys.map V.int))/\σ = [some (.ref a),some (.int (ns.length:Nat)),some (.int g),some (.ref b0),some (.ref cb),some (.ref p),v6,some (.ref ls),v8,v9,v10,v11,Tq,v13,v14,v15])
   ⟨s7,F',bs,_,_,_,_,_,_,_,_,_,N9,XS,sd7,.inl rfl,hq9,rfl⟩ (λj σ H2 _ z=>?_) ?_ ?_⟩
  ·obtain⟨s2,F2,XT,v6,v8,v9,v10,v11,Tq,v13,v14,v15,_,_,_,_,h5,_⟩:=z
   exact bJ.of (bY _ _ h5)
  ·rintro j y σ H2 hj ⟨s2,F2,XT,v6,v8,v9,v10,v11,Tq,v13,v14,v15,N2,Xw,Wl,hjr,hq2,rfl⟩
   have hjl:j < ys.length:=by
    have:=(ai.mp hj).1
    rw[ah] at this
    exact this
   rw[aj,aa hjl] at hj
   cases hj
   generalize ys[j]=cell
   have hml:s2.bg.length=cl.length:=by rw[Wl.hm,ah]
   obtain⟨qp,aeg,aeh⟩:=Xw.pla
   have hpl:=bY _ _ aeg
   have eqp:qp.length=cl.length:=by rw[aeh.len,ah]
   have abb:(((qp.map V.ref).length:Nat):Int)=(cl.length:Int):=by rw[ah,eqp]
   obtain⟨x,ex,hx⟩:=L7 cell (show 0 < cl.length by lia)
   obtain⟨loc,dxx,q,hp,O,hF,hT⟩:=id N2
   have bQ:=O.get .cQ _ rfl
   rw[hp] at bQ
   clear hp O hF hT
   have W2:NW K (nc t) t.aR H2 F2 p tp ln lr ns rs s2:=Xw.qQ.nw N2 λb z=>z
   refine b5 λNx c7=>?_
   refine⟨_,rfl,p,_,_,rfl,bQ,rfl,_,rfl,_,rfl,cb,_,rfl,.inl (bJ.of hpl),_,_,rfl,rfl,(by rw[abb]; lia),?_⟩
   try dsimp only
   rw[abb,ex]
   refine⟨F2,p,tp,ln,lr,ns,rs,s2,tok,x,none,2900 * j,rfl,W2,Wl.ok,Wl.bd,by lia,by lia,λy z=>(by cases z),λos F3 H3 hO h12 W3 st3=>c7 _ _ ?_⟩
   clear c7 Nx
   have Y5:=Wl.post tok (to:=none) (by lia) hO h12
   have ts3:∀ g,(KN rs s2 x none os).ts g=s2.ts g:=λg=>congrFun (VW (rs:=rs) (h:=s2.bg.getD x 0) (cO:=none) (os:=os) (s:=Iu s2 x none) (i:=s2.ls.length) (l:={ qK s2 x none with aQ:=[.post (s2.bg.getD x 0)] }) Dr).ts g
   have YL:=Xw.mono (rY st3)
   have Xk:=rY st3 _ _ hq2
   generalize KN rs s2 x none os=s3 at W3 Y5 ts3
   clear hO h12 bQ hpl aeg aeh eqp abb hml ex W2 Xw hq2 st3 N2
   obtain⟨us3,Y6,Oi⟩:=id YL.rps
   have ahB:us3.length=rs.length:=by rw[Oi.len,ah]
   have ahC:(((us3.map V.ref).length:Nat):Int)=(rs.length:Int):=by rw[ah,ahB]
   refine b5 λNx c7=>?_
   refine⟨_,rfl,b0,_,rfl,.inl (bJ.of (bY _ _ Y6)),_,_,rfl,rfl,.inl ⟨by decide,by decide⟩,2 * (rs.length:Int),by rw[ahC],by lia,by lia,nM (n:=(2 * (rs.length:Int)).toNat) (λi σ H4=>∃ (s4:NS) (F4:Addr->Prop) (v9:Option V),NW K (nc t) t.aR H4 F4 p tp ln lr ns rs s4/\SD ns rs XT cl (2900 * j + 100 + 100 * i) s4/\(rs = []->∀ g,s4.ts g=s2.ts g)/\aC (Off H3 F3) (Off H4 F4)/\σ = [some (.ref a),some (.int (ns.length:Nat)),some (.int g),some (.ref b0),some (.ref cb),some (.ref p),v6,some (.ref ls),some (.int cell),v9,v10,v11,Tq,v13,v14,v15]) ⟨s3,F3,_,W3,Y5,λ_=>ts3,aC.refl _,rfl⟩ ?_ ?_⟩
   ·rintro i σ H4 hi ⟨s4,F4,v9,W4,Me,ts4,o4,rfl⟩
    have hi':i < 28:=by lia
    obtain⟨loc,dxx,q,hp,O,hF,hT⟩:=id W4.cQ
    have bQ:=O.get .cQ _ rfl
    rw[hp] at bQ
    clear hp O hF hT
    refine⟨_,rfl,p,_,_,rfl,bQ,rfl,F4,p,tp,ns.length,s4,rfl,W4.cQ,λlf qf H5 s5 alH hlf hqf=>?_⟩
    refine⟨br _,λb hb=>?_⟩
    have u6:=aC.new (o:=.lst []) hb
    have hb6:=ao (H:=H5) (a:=b) (o:=.lst [])
    generalize upd H5 b (.lst [])=H6 at u6 hb6
    have ahD:dR K H6 qf ((s4.cps.map cpI).map λx=>x.map V.int):=by
     rw[<- aa4]
     exact hqf.mono λb x z=>u6.dB z
    refine⟨.list ((s4.cps.map cpI).map JC),.list [],⟨lf,_,rfl,bJ.of (u6 _ _ hlf),IF ahD⟩,⟨b,[],rfl,bJ.of hb6,rfl⟩,IG _,rfl,aZ (bM (aH (c9 _ _) (by show PyData.depthAll _ + 1<=64; have:=Ey (s4.cps.map cpI); lia)) _) hr.units,_,rfl,?_⟩
    rw[Rw]
    have s46:=s5.trans u6
    cases ec:s4.cps with
    | nil=>exact fk ⟨s4,F4,_,W4.mono s46,Me.mono (by lia),ts4,o4.trans (gf s46),rfl⟩
    | cons c0 cs0 =>
     rw[<- ec]
     have:((s4.cps.map cpI).map JC).isEmpty=false:=by rw[ec]; rfl
     rw[this]
     refine eW ?_
     have abc:0 < s4.cps.length:=by rw[ec]; exact Nat.zero_lt_succ _
     have hc0:=Me.bd.cl _ (aL abc)
     refine⟨_,rfl,p,_,_,rfl,s46 _ _ bQ,rfl,F4,p,tp,ln,lr,ns,rs,s4,tok,0,2900 * j + 100 + 100 * i,s4.cps[0],s4.ls[s4.cps[0].l],rfl,W4.mono s46,Me.ok,Me.bd,by lia,aa abc,aa hc0.1,λos ts F7 H7 hO h12 pts oe W7 My=>?_⟩
     refine⟨_,F7,_,W7,(Me.pass tok (aa hc0.1) abc hO h12 pts oe).mono (by lia),λer=>?_,o4.trans (rY ((Step.refl' s46).trans My)),rfl⟩
     rw[er] at hc0
     exact absurd hc0.2.1 (rG _)
   rintro σ H4 ⟨s4,F4,v9,W4,Me,ts4,o4,rfl⟩
   refine c7 _ _ ?_
   clear c7 Nx
   have dx4:=YL.mono o4
   have hq4:=o4 _ _ Xk
   have Me:SD ns rs XT cl (2900 * (j + 1)) s4:=Me.mono (by lia)
   clear YL Xk o4 Y5 W3 ts3 Y6 Oi
   obtain⟨loc,dxx,q,hp,O,hF,hT⟩:=id W4.cQ
   have bQ:=O.get .cQ _ rfl
   rw[hp] at bQ
   clear hp O hF hT
   obtain⟨Y8,hB4,XU⟩:=id dx4.rps
   have ahF:Y8.length=rs.length:=by rw[XU.len,ah]
   have h2k:∀ g,(s4.ts g).length < 2000:=λg=>by
    have:=(Me.bd.tb g).1
    lia
   refine b5 λNx c7=>?_
   refine⟨_,rfl,br _,λb hb=>?_⟩
   have u5:=aC.new (o:=.lst []) hb
   have hb5:=ao (H:=H4) (a:=b) (o:=.lst [])
   generalize upd H4 b (.lst [])=H5 at u5 hb5
   have aej:dR K H5 Y8 ((rs.map R5.ns).map λx=>x.map V.int):=by
    rw[<- ad2]
    exact XU.mono λb x z=>u5.dB (bY.dB z)
   refine⟨.list ((rs.map R5.ns).map JC),.list [],⟨b0,_,rfl,bJ.of (u5 _ _ (bY _ _ hB4)),IF aej⟩,⟨b,[],rfl,bJ.of hb5,rfl⟩,IG _,rfl,aZ (bM (aH (c9 _ _) (by show PyData.depthAll _ + 1<=64; have:=Ey (rs.map R5.ns); lia)) _) hr.units,_,rfl,?_⟩
   rw[Rw]
   by_cases er:rs = []
   ·have:((rs.map R5.ns).map JC).isEmpty=true:=by rw[er]; rfl
    rw[this]
    refine eW ?_
    refine⟨_,rfl,p,_,_,rfl,u5 _ _ bQ,rfl,_,rfl,F4,p,tp,ns.length,g,s4,rfl,(W4.mono u5).cQ,hg,h2k g,λl5 qs5 Rv H6 s6 YQ h5 hT5 hP5 hS5=>?_⟩
    have e0:s4.ts g = []:=by
     rw[ts4 er g]
     have j0:j=0:=hjr.resolve_right λz=>z er
     have:=(Wl.bd.tb g).1
     exact rK.mp (by lia)
    have eu:Rv = []:=by rw[e0] at hP5; exact List.Perm.eq_nil hP5
    subst eu
    have eq5:qs5 = []:=rK.mp hT5.1
    subst eq5
    refine⟨br _,λl6 hl6=>?_⟩
    have u7:=aC.new (o:=.lst []) hl6
    refine⟨.list [],.list [],⟨l5,[],rfl,bJ.of (u7 _ _ h5),rfl⟩,⟨l6,[],rfl,bJ.of ao,rfl⟩,rfl,rfl,aZ (bM (aH (c9 _ _) (by decide:(PyData.list []).depth<=64)) _) hr.units,?_⟩
    exact k _
   have:((rs.map R5.ns).map JC).isEmpty=false:=by
    cases rs with
    | nil=>exact absurd rfl er
    | cons=>rfl
   rw[this]
   refine fk (c7 _ _ ?_)
   clear c7 Nx this aej hb5 ts4 hjr Wl
   have W5:=W4.mono u5
   have dx5:=dx4.mono (gf (F:=F4) u5)
   have hq5:=gf (F:=F4) u5 _ _ hq4
   replace bQ:=u5 _ _ bQ
   have hB5:=gf (F:=F4) u5 _ _ hB4
   have aek:dR K (Off H5 F4) Y8 (rs.map R5.vs):=XU.mono λb x=>(gf (F:=F4) u5).dB
   clear hB4 XU dx4 hq4 W4 u5 hb
   have hL:=bY _ _ hB5
   have hrl:0 < rs.length:=List.length_pos_iff.mpr er
   have ael:(((Y8.map V.ref).length:Nat):Int)=(rs.length:Int):=by rw[ah,ahF]
   obtain⟨i,ei,hi⟩:=L7 (cell / 7) hrl
   have Dy:rs[i]?=some rs[i]:=aa hi
   have oki:=tok.ok _ (aL hi)
   have hq:(Y8.map V.ref)[i]?=some (V.ref (Y8[i]'(by lia))):=by rw[aj,aa]; rfl
   have hqt:cH K H5 (Y8[i]'(by lia)) (rs[i]).vs:=bY.dB (aek.at' i (Y8[i]'(by lia)) (rs[i]).vs (aa _) (by rw[aj,Dy]; rfl))
   refine b5 λNx c7=>?_
   refine⟨_,rfl,_,_,rfl,rfl,⟨by decide,by decide⟩,_,rfl,b0,_,rfl,.inl (bJ.of hL),_,_,rfl,rfl,(by rw[ael]; lia),?_⟩
   try dsimp only
   rw[ael,ei]
   refine c7 _ _ ?_
   clear c7 Nx
   have d1:=oki.d1
   obtain⟨x2,ex2⟩ : ∃ x:Nat,cell / 91 % rs[i].d=(x:Int):=⟨_,(Int.toNat_of_nonneg (bN _ (show rs[i].d≠0 by lia))).symm⟩
   have hx2:(x2:Int) < rs[i].d:=by
    have:=bR (cell / 91) (show (0:Int) < rs[i].d by lia)
    lia
   refine b5 λNx c7=>?_
   refine⟨_,rfl,_,_,rfl,rfl,⟨by decide,by decide⟩,_,rfl,_,rfl,b0,_,_,_,rfl,rfl,bJ.of hL,dG hq,_,_,3,_,rfl,rfl,hqt,rfl,_,_,rfl,rfl,(by show (0:Int) < rs[i].d; lia),?_⟩
   try dsimp only
   rw[ex2]
   refine c7 _ _ ?_
   clear c7 Nx
   have mu:=dx5.mut W5.cQ
   refine b5 λNx c7=>?_
   refine⟨3,rfl,by decide,by decide,λlw hlw=>?_⟩
   refine fQ (n:=(3:Int).toNat) (λi ys H8=>∃ as:List Addr,ys=as.map V.ref/\as.length=i/\∀ (m:Nat) l,as[m]?=some l->j6 K (Off H8 λb=>Rx F4 i6 cb b∨b=lw) l ns.length (s4.R m)) hlw yW pe ⟨[],rfl,rfl,λm l z=>by simp at z⟩ ?_ ?_
   ·rintro i ys H8 hi s8 hy ⟨as,rfl,el,hrep⟩ x H9 ⟨rfl,rfl⟩
    rw[dm]
    have hi3:i < 3:=hi
    refine⟨_,rfl,p,_,_,rfl,s8 _ _ bQ,rfl,_,rfl,F4,p,tp,ns.length,i,s4,rfl,W5.cQ.mono s8,hi3,λrb qr Wc Dt aa3 hrb htr=>?_⟩
    have Tc:=Dt _ _ hy
    have mu8:=((mu.mono s8).or hy)
    refine dZ hlw hi (s8.trans Dt) Tc (by rw[ah,el]; exact bW (by lia)) ⟨as++[rb],by rw[aT]; rfl,by rw[av,el]; rfl,λm l z=>?_⟩
    rw[V3 (G:=λb=>Rx F4 i6 cb b∨b=lw) (.inr rfl)]
    rcases wQ z with z | ⟨rfl,rfl⟩
    ·exact (hrep m l z).mono (gf Dt)
    ·rw[el]
     exact (htr.mono λb x=>(mu8.mono Dt).adZ).GN (bJ.of (mF (mu8.free aa3) hrb))
   rintro ys6 H6 s6 hy6 ⟨as,rfl,el,hrep⟩
   have aen:∀ (m:Nat) l,as[m]?=some l->j6 K (Off H6 (Rx F4 i6 cb)) l ns.length (s4.R m):=λm l z=>(hrep m l z).mono (QE λb z=>.inl z)
   have aeo:Off H6 (Rx F4 i6 cb) lw=some (.lst (as.map V.ref)):=mF (mu.free hlw) hy6
   refine c7 _ _ ?_
   clear c7 Nx hrep hy6
   have mu6:=mu.mono s6
   refine b5 λNx c7=>?_
   refine⟨3,rfl,by decide,by decide,λln3 XW=>?_⟩
   refine fQ (n:=(3:Int).toNat) (λi ys H8=>∃ (an:List Addr) (V8:List (List T3)),ys=an.map V.ref/\an.length=i/\V8.length=i/\(∀ (m:Nat) us,V8[m]?=some us->qN us/\us.Perm (s4.ts m))/\b4 K (Off H8 λb=>Rx F4 i6 cb b∨b=ln3) (V8.map λus=>.list (us.map P6)) (an.map V.ref)) XW yW pe ⟨[],[],rfl,rfl,rfl,λm l z=>(by simp at z),rfl⟩ ?_ ?_
   ·rintro i ys H8 hi s8 hy ⟨an,V8,rfl,Kg,AO,hus,hrep⟩ x H9 ⟨rfl,rfl⟩
    rw[dm]
    have hi3:i < 3:=hi
    have s68:=s6.trans s8
    refine⟨_,rfl,p,_,_,rfl,s68 _ _ bQ,rfl,_,rfl,F4,p,tp,ns.length,i,s4,rfl,W5.cQ.mono s68,hi3,h2k i,λl5 qs5 Rv Wc Dt ahJ YQ hT5 hP5 hS5=>?_⟩
    have Tc:=Dt _ _ hy
    have mu8:=((mu6.mono s8).or hy)
    refine dZ XW hi (s8.trans Dt) Tc (by rw[ah,Kg]; exact bW (by lia)) ⟨an++[l5],V8++[Rv],by rw[aT]; rfl,by rw[av,Kg]; rfl,by rw[av,AO]; rfl,λm us z=>?_,?_⟩
    ·rcases wQ z with z | ⟨rfl,rfl⟩
     ·exact hus m us z
     ·rw[AO]
      exact⟨hS5,hP5⟩
    ·rw[V3 (G:=λb=>Rx F4 i6 cb b∨b=ln3) (.inr rfl),aT,aT]
     exact b4.snoc (hrep.mono (gf Dt)) ⟨l5,_,rfl,bJ.of (mF (mu8.free ahJ) YQ),IE ⟨hT5.1,λi q u a b=>(mu8.mono Dt).adZ (hT5.2 i q u a b)⟩⟩
   rintro ys7 H7 s7' hy7 ⟨an,V8,rfl,Kg,AO,hus,hrep⟩
   have ahK:b4 K (Off H7 (Rx F4 i6 cb)) (V8.map λus=>.list (us.map P6)) (an.map V.ref):=hrep.mono (QE λb z=>.inl z)
   have ahL:Off H7 (Rx F4 i6 cb) ln3=some (.lst (an.map V.ref)):=mF (mu6.free XW) hy7
   have ahM:∀ (m:Nat) l,as[m]?=some l->j6 K (Off H7 (Rx F4 i6 cb)) l ns.length (s4.R m):=λm l z=>(aen m l z).mono (gf s7')
   have ahN:=gf (F:=Rx F4 i6 cb) s7' _ _ aeo
   refine c7 _ _ ?_
   have s57:=s6.trans s7'
   clear c7 Nx hrep hy7 aen aeo mu6 mu hlw XW s7' s6
   have W7:=W5.mono s57
   have dx7:=dx5.mono (gf (F:=F4) s57)
   have hq7:=gf (F:=F4) s57 _ _ hq5
   replace bQ:=s57 _ _ bQ
   clear W5 dx5 hq5 hqt aek hB5 hL s57
   obtain⟨b,hb,hbl⟩:=Me.fit.at Dy
   have hxb:x2 < b.length:=by lia
   have hbi:=(ai.mp hb).1
   obtain⟨l,hl⟩ : ∃ l,i6[i]?=some l:=⟨_,aa (by rw[dx7.sts.len]; exact hbi)⟩
   have hsl:=dx7.sts.at_
   have Wj:=dx7.sts.it i l b hl hb
   have V9:IK (i6.map V.ref) (i:Int)=some (.ref l):=dG (by rw[aj,hl]; rfl)
   have aes:IK (b.map V.bl) (x2:Int)=some (V.bl b[x2]):=dG (by rw[aj,aa hxb]; rfl)
   have hbx:b[x2]?=some b[x2]:=aa hxb
   refine b5 λNx c7=>?_
   refine⟨_,rfl,_,rfl,ls,_,_,_,rfl,rfl,bJ.of (bY _ _ hsl),V9,l,_,rfl,.inl (bJ.of (bY _ _ Wj)),rfl,IB _,?_⟩
   rw[if_neg aB,IA]
   refine c7 _ _ ?_
   clear c7 Nx
   have hws:s4.ws[i]?=some (stand b):=by rw[Me.ws,aj,hb]; rfl
   refine ou (λσ H8=>∃ (s8:NS) (F8:Addr->Prop) (e:Bool),NW K (nc t) t.aR H8 F8 p tp ln lr ns rs s8/\SD ns rs (XT.set i (b.set x2 (!b[x2]))) cl (2900 * (j + 1)) s8/\aC (Off H7 F4) (Off H8 F8)/\s8.R=s4.R/\(∀ g,g < 3->s8.ts g=if e=true/\lQ rs[i].e g=true then [] else s4.ts g)/\(e=(b.any id != (b.set x2 (!b[x2])).any id))/\σ = [some (.ref a),some (.int (ns.length:Nat)),some (.int g),some (.ref b0),some (.ref cb),some (.ref p),some (.int i),some (.ref ls),some (.int cell),v9,some (.int x2),some (.ref lw),some (.ref ln3),some (.bl (b.any id)),some (.bl e),v15]) ?_ (λN' hN=>?_)
   rotate_left
   ·refine⟨_,rfl,_,rfl,ls,_,_,_,rfl,rfl,bJ.of (bY _ _ hsl),V9,_,rfl,l,_,_,_,rfl,rfl,bJ.of (bY _ _ Wj),aes,_,rfl,?_⟩
    cases eb:b[x2] with
    | true =>
     refine eW ?_
     rw[eb] at hbx hN
     have hc:∀ cp∈s4.cps,cp.l < s4.ls.length:=λcp z=>(Me.bd.cl cp z).1
     have hBd:∀ l∈s4.ls,l.aQ.length<=2900 * (j + 1):=λl z=>by have:=(Me.bd.lb l z).1; lia
     have alO:=Me.bd.cb
     refine⟨_,rfl,p,_,_,rfl,bQ,rfl,_,rfl,_,rfl,F4,p,tp,ln,lr,ns,rs,s4,i,x2,stand b,rs[i],2900 * (j + 1),rfl,W7,tok,Me.ok,hc,hBd,by lia,hws,Dy,gV.mpr hbx,λF8 H8 W8 SY=>hN _ _ ⟨_,F8,_,W8,Me.ahp tok hb _,rY SY,(Ry (g:=0) (by decide)).1,λg hg=>(Ry hg).2,?_,rfl⟩⟩
     have a1:b.any id=true:=gw.mpr ⟨true,aI hbx,rfl⟩
     rw[a1,DH,Gz]
     show _=(true != !(stand (b.set x2 false)).isEmpty)
     cases (stand (b.set x2 false)).isEmpty <;> rfl
    | false =>
     refine fk ?_
     rw[eb] at hbx hN
     refine⟨_,rfl,p,_,_,rfl,bQ,rfl,_,rfl,_,rfl,F4,p,tp,ln,lr,ns,rs,s4,i,x2,stand b,rs[i],rfl,W7,tok,Me.ok,hws,Dy,hx2,λz=>?_,λw2 F8 H8 hp2 hs2 W8 SY=>?_⟩
     ·rw[gV,hbx] at z
      cases z
     ·have ew:=R9 hbx hp2 hs2
      subst ew
      refine hN _ _ ⟨_,F8,_,W8,Me.lay tok hb _,rY SY,(V5 (g:=0) (by decide)).1,λg hg=>(V5 hg).2,?_,rfl⟩
      have a1:(b.set x2 (!false)).any id=true:=gw.mpr ⟨true,aI (i:=x2) (by rw[cV,if_pos rfl,if_pos hxb]; rfl),rfl⟩
      rw[a1,DH]
      cases (stand b).isEmpty <;> rfl
   rintro σ H8 ⟨s8,F8,e,W8,sd8,o8,eR,Yz,ee,rfl⟩
   have Tr:=dx7.mono o8
   have hq8:=o8 _ _ hq7
   have S8:aC (Off H7 (Rx F4 i6 cb)) H8:=(Kp.of o8).big
   have abd:=bY _ _ Tr.sts.at_
   have Te:=Tr.sts.it i l b hl hb
   refine b5 λNx c7=>?_
   refine⟨_,rfl,_,rfl,ls,_,_,_,rfl,rfl,bJ.of abd,V9,_,rfl,l,_,_,_,rfl,rfl,bJ.of (bY _ _ Te),aes,_,rfl,?_⟩
   refine⟨_,rfl,_,rfl,ls,_,_,_,rfl,rfl,bJ.of abd,V9,_,rfl,l,_,_,x2,rfl,rfl,bY _ _ Te,(by rw[ah]; exact Cy hxb),c7 _ _ ?_⟩
   clear c7 Nx
   have N9:=W8.cQ.past (o:=.lst ((b.map V.bl).set x2 (V.bl (!b[x2])))) Te jE
   have XS:=Tr.ahq (x:=x2) (v:=!b[x2]) hl hb
   rw[<- QD (jF Te).1] at XS
   have kp9:Kp (Off H8 F8) (Off (upd H8 l (.lst ((b.map V.bl).set x2 (V.bl (!b[x2]))))) F8) i6 cb:=Kp.upd Te (.inl (aI hl))
   have hl9:(upd H8 l (.lst ((b.map V.bl).set x2 (V.bl (!b[x2]))))) l=some (.lst ((b.set x2 (!b[x2])).map V.bl)):=by rw[ao,List.map_set]
   generalize upd H8 l (.lst ((b.map V.bl).set x2 (V.bl (!b[x2]))))=H9 at N9 XS kp9 hl9
   have S9:aC (Off H7 (Rx F4 i6 cb)) H9:=((Kp.of o8).trans kp9).big
   have hq9:=kp9 _ _ hq8 nlq npq
   have ahO:=bY _ _ XS.sts.at_
   clear S8 abd Te Tr hq8 kp9 hq7 dx7 hsl Wj o8 W8 W7 bQ
   have W9:NW K (nc t) t.aR H9 F8 p tp ln lr ns rs s8:=XS.qQ.nw N9 λb z=>z
   refine b5 λNx c7=>?_
   refine⟨_,rfl,_,rfl,_,rfl,ls,_,_,_,rfl,rfl,bJ.of ahO,V9,l,_,rfl,.inl (bJ.of hl9),rfl,IB _,?_⟩
   rw[if_neg aB,IA]
   refine⟨rfl,?_⟩
   have ec:(!decide (V.bl (b.any id)=V.bl ((b.set x2 !b[x2]).any id)))=e:=by
    rw[ee]
    cases b.any id <;> cases (b.set x2 !b[x2]).any id <;> rfl
   rw[ec]
   refine c7 _ _ ?_
   clear c7 Nx ec
   refine b5 λNx c7=>?_
   refine⟨_,rfl,_,_,_,_,rfl,.bl _,rfl,_,rfl,fk ?_⟩
   refine⟨_,rfl,_,rfl,rfl,_,rfl,?_⟩
   rw[decide_eq_true rfl]
   refine fk (c7 _ _ ?_)
   clear c7 Nx
   have eas:as.map V.ref=(aq 3).map λg=>V.ref (as.getD g 0):=by
    have:=congrArg (List.map V.ref) (map_getD (0:Addr) as)
    rw[cu,el] at this
    exact this.symm
   have ean:an.map V.ref=(aq 3).map λg=>V.ref (an.getD g 0):=by
    have:=congrArg (List.map V.ref) (map_getD (0:Addr) an)
    rw[cu,Kg] at this
    exact this.symm
   have el':as.length=3:=el
   have alR:an.length=3:=Kg
   have alS:V8.length=3:=AO
   refine⟨_,rfl,_,rfl,_,rfl,_,rfl,_,rfl,_,rfl,_,rfl,F8,p,tp,ln,lr,b0,ls,lw,ln3,i6,ns,rs,XT.set i (b.set x2 (!b[x2])),tok,s8,λg=>as.getD g 0,λg=>an.getD g 0,λg=>V8.getD g [],i,rs[i],e,rfl,W9,sd8.ok,XS.rps.keep (λo z=>bY _ _ z) (λb x=>bY.dB),XS.sts.mono bY,sd8.ws,sd8.fit.1,λg=>?_,?_,λg hg=>?_,?_,λg hg=>?_,Dy,λg hg=>?_,λWc Dt=>⟨_,rfl,fk ⟨s8,F8,_,_,_,_,_,_,_,_,_,_,N9.mono Dt,XS.mono (gf Dt),sd8,.inr er,gf Dt _ _ hq9,rfl⟩⟩⟩
   ·have:=(sd8.bd.tb g).1
    lia
   ·rw[<- eas]
    exact bJ.of (S9 _ _ ahN)
   ·rw[eR]
    refine (ahM g _ ?_).mono S9
    rw[az,aa (by lia)]
    rfl
   ·rw[<- ean]
    exact bJ.of (S9 _ _ ahL)
   ·obtain⟨vv,evv,rvv⟩:=ahK.get (i:=g) (d:=.list ((V8.getD g []).map P6)) (by rw[aj,az,aa (by lia)]; rfl)
    rw[aj,aa (by lia)] at evv
    cases evv
    have:an.getD g 0=an[g]:=by rw[az,aa (by lia)]; rfl
    rw[this]
    exact rvv.mono S9
   ·rw[Yz g hg]
    have hu:=hus g (V8.getD g []) (by rw[az,aa (by lia)]; rfl)
    split
    ·rfl
    ·exact hu
  ·rintro σ H2 ⟨s2,F2,XT,v6,v8,v9,v10,v11,Tq,v13,v14,v15,_,_,_,_,_,rfl⟩
   exact k _
end
theorem walk{l:PySem.W.OpenLaw}{q:Program}{loose:List Str}{XP:(Str->Option Value)->Heap->Prop}{YP:World->Heap->Prop}{d:DefRec}{K:Params->af}(hn:l.most=some 63)(hdf:d.params.defaults = [])(hdn:d.name = "law")
 (hY:∀ (w:World) (h:Heap),YP w h->(K w.params).In h)
 (F:∀ (w:World) (mg:Str->Option Value) (h:Heap),(K w.params).In h->h.Ns mainGlobals mg->∃ t,Txt (K w.params) mg t) :
 PySem.W.WalkO q loose XP YP l.row.toRowW d [] (λf vs=>PySem.call f vs) :=
 L2.WA (n:=63) (k:=9) (x:="_law_script") (CX:=λ_=>gO) (sp:=λw=>V6 (K w.params)) hn (by decide) hdf ⟨rfl,by decide,by decide⟩ hY
  (λw mg fa h KX G hmg=>by
   obtain⟨t,T⟩:=F w mg h KX G
   rw[hdn] at hmg
   have e:=hmg.symm.trans T.Vp.g
   cases e
   refine⟨t.M3,λs v=>?_,λbase _ _=>aa5 T⟩
   obtain⟨_,_,_,_,_,_,_,_,_,e,_⟩:=T.Vp.F.ex
   rw[e]
   exact .of_eq rfl)
  (λ_ _ a ns hl _ hS=>⟨a,ns,rfl,hS,hl,λ_=>rfl⟩) λ_ _ _ _ _ z=>z
end gi
structure PySem.W.Fast:Prop where(tw14115236909284180036 tw1082980594509541324 tw15035105530492054698 tw9143152852233343307 tw8447405818245446002 tw14208167874943920522 tw2291896758012036306 tw3988718615079501850 tw17882718298058475673 tw9517983775066821653 tw2465804114201906694 tw2404771878139970954 tw11902491154258187177 tw8928817881759198053 tw10567632281146453695 tw3934505603356496878 tw15900876283949799958 tw11977950518728518158 tw2145696508950244418 tw9202193665002050521 tw12712662460721458142 tw16050904518142310283 tw8489417754485332112 tw7545666572075483389 tw6688629696769692067 tw17782818181372609585 tw17103995265400516575 tw14471392264409521056 tw12878691114319966986 tw8902738223668245587 tw16943636978553764037 tw8239287519049080472 tw13631833632005353431 tw5261765812089418271 tw14807928591782943760 tw12645285656840721292 tw9110911968267673479 tw11645143290514032168 tw18083895687180803099 tw17623003598649340256 tw16567979481820861993 tw6871530421105046558 tw14815096322119016225 tw17679746744090559456 tw11608447751882432646 tw6965880124986226732 tw2671074562416992390 tw15391478130560851997 tw4839596359518060165 tw15995668402681812036 tw13827592437930029098 tw6395717981141665316 tw12525016176008644762 tw326665603326760029 tw16928891700042068672 tw11317088398812644956 tw4639983778803006888 tw1583865918916335893 tw7700711082202742882 tw1975380177007757212 tw10176846883327392289 tw14299643809758770855 tw8300295256354822987 tw1437735858085478468 tw10892033889601075016 tw3131644443761423388 tw1066244444522881773 tw3765334456375099232 tw3579874247848466446 tw4642121627748123332 tw10353663115867152468 tw16765381840239822796 tw4448710903818386494 tw10988271737130498900 tw18238904400884717091 tw15882157359484369812 tw15350865225758160752 tw14602993110408618541 tw4300187619210937029 tw6073350196499379819 tw4372338741055287171 tw7478627812492016500 tw10054614321126345868 tw3470678589011047880 tw7284065481127890284 tw9362847293502771371 tw11240920193400442702 tw1565794480592019015 tw3947978989239851776 tw12083965889173709130 tw7047669215694452844 tw3454760107748911763 tw5212779771868309883 tw11165783323260240059 tw10153402635713501176 tw5858024073779817569 tw8559462544117444920 tw14766252186203241342 tw216671793423819143 tw15412429034678239618 tw3892962777210745795 tw2372608614324143412 tw853867350137380238 tw13780700352325606317 tw6894827231959805438 tw3581510033563835378 tw5270837607678133068 tw15651592366536683803 tw17166776277490953053 tw15956372713251426687 tw18195349977462420285 tw16437124697540871668 tw4779151598896647420 tw16963779625465803889 tw5160955981881529740 tw8012975957885301654 tw4562552717802065162 tw16570260185792175774 tw10035943534344546132 tw5543209698465744096 tw16643318194250041461 tw9951878721860601472 tw5915143094638852354 tw17558217976483681254 tw4242409048019507319 tw11464945903437161576 tw10357531223863373734 tw11941875523569203622 tw3735791201661602511 tw18095551791640100269 tw9857025779185255919 tw5694916516822817369 tw9827651843649787655 tw13980675285726839229 tw15126543509776028760 tw12409873313433214910 tw8350185108974023542 tw5845847114840584567 tw7208620317254233931 tw11511069447023732790 tw7945921334399015222 tw230289572295131191 tw5539534123336024762 tw14001803529063566326 tw13583191947980268327 tw12807284293283948259 tw5166367105167946320 tw7548615389996161440 tw2697971093960265758 tw9845389810205066621 tw18195657833310909110 tw4323891033282802635 tw3564341171673518202 tw9436716483551170881 tw10459699812400171023 tw10339867875723771674 tw4357378226159735314 tw6797379106370937132 tw15098172464532281834 tw10914876559768098486 tw16162646905912186380 tw9658070963546853995 tw561544330024092375 tw7876622086120352085 tw10722703577139233708 tw2351953080564589003 tw3331798969381970872 tw5973625630037380622 tw11026714879022289867 tw14880762785442429019 tw13127377517032708985 tw11860573004604549558 tw1485687326271894938 tw14181336195735250194 tw13851710029957748271 tw11448557905324342045 tw16528958379685944479 tw9921491388039137117 tw2156752133748720140 tw2148842643206159507 tw8735125508261759842 tw10108383285069651772 tw17812774639973826724 tw17878586223203497380 tw13855714956161188811 tw15554254415840376312 tw5264741987678833977 tw10679373478964088299 tw13450938833144722739 tw13339216286542056632 tw16716720903051845098 tw10751220064262882734 tw3689026611096982641 tw10260567942082275407 tw17140623857316687126 tw12615173582251055975 tw13601534842078776816 tw10079315220323612568 tw10331285630649201814 tw16415802712144687348 tw16899452550465596575 tw11798747894024910519 tw13327960329082805101 tw10270398644678418029 tw11864402170107119011 tw6198528516538121422 tw1924130607334290543 tw8855574328859477715 tw9576449659095880971 tw13866536481835079387 tw3355869770610867164 tw13382476275972278195 tw8075009765139081875 tw7206344043968736807 tw4579269254913534941 tw6674730187460469544 tw1018431928492225874 tw15620966244134084886 tw16802834221624786272 tw3865668905733329841 tw15248182951672886038 tw4074377386340145013 tw7034386099412260491 tw14454167761815763528 tw755706363024270631 tw6617935284060335556 tw14281963189137959665 tw441527090954003774 tw14289758586673036881 tw16484340765871816374 tw8838031725470404859 tw10776093651292497748 tw7598176238024303561 tw11439123324884058270 tw9550924414434819252 tw1460951742872022695 tw9050909420448040642 tw8268644946990041715 tw14553702067375205071 tw87446278467322494 tw304393754019697846 tw10031000265751205483 tw9969188789497693474 tw7620229934179970960 tw3602844663612176314 tw17513151786395609922 tw15251840005068466725 tw1633746647317477046 tw17144187978765950465 tw14748043700020499315 tw12088159800993389678 tw5014171919958443798 tw14538628958443701506 tw9709505027103589710 tw598137934050560661 tw4445114035709576028 tw3808474348218164635 tw17030906396706222449 tw14795167621514668902 tw5213591561402272265 tw836741826221749108 tw9749947668176559283 tw3582180982688730945 tw8140535929014286912 tw16491522626783816878 tw11064125581270402280 tw3300580783394624831 tw760281641167899832 tw10351668030468746483 tw6188557654729126805 tw10461163695362478111 tw2931752545022065798 tw16704133599300878133 tw5919206188035342317 tw5365517960245293851 tw12164817105635479638 tw10794925494380077530 tw5948385063507471025 tw8301081618622100952 tw3725610341390601843 tw18133282063703712145 tw11687877299674377825 tw13443266641051408444 tw12344196646708893453 tw6569376499506000808 tw17831032348169663470 tw8422062789292764753 tw5707180036803731627 tw5972453437878523922 tw8805249613981039710 tw8345528510980588990 tw7714604910632127841 tw16445898764711374893 tw1695927193467805388 tw7011404088034443576 tw5122193909989828635 tw11292193795749816959 tw4496916439170050442 tw3114796017259315292 tw10581222975096424115 tw7482896277775084605 tw17644996004577061496 tw11242652348492306952 tw5361423467414084835 tw11433939790979321467 tw12213541996590146719 tw9131476238659203343 tw7145068194467414558 tw709155348902424116 tw2218388181242327817 tw16431998082604576774 tw12150899993052482488 tw9249632936644388511 tw7609347125142963253 tw9822657532191327564 tw10912274444848332542 tw4481261940923230774 tw16321594718474930166 tw1411491625134298581 tw1674080736454109505 tw8182694566006107854 tw4344296806159894039 tw16606848285905378366 tw16111918701218265727 tw14661067263327826746 tw1441693030052465168 tw7287558881409278442 tw8904040910700378984 tw7221391123022376979 tw2540593457280242094 tw3882695316566183896 tw16683883350769555703 tw12952171641280283958 tw17931324689520301768 tw17869846505419922241 tw9630630571878918410 tw10293037454276400717 tw8549276729630365607 tw15973675743855657697 tw14543899229377162025 tw12739918596346885698 tw3918378976953941904 tw16473826663206719338 tw15755331401917785471 tw15439600699888523725 tw15401107538308864155 tw9043280621770759261 tw8784811717782600860 tw8630452667588677185 tw7978073437473762481 tw7899696556603581775 tw7635664847590423333 tw7241718510948147095 tw7053389717257638723 tw671260879983189782 tw6403076879267774781 tw3846786451396212300 tw3628265121429793855 tw3435131292244564183 tw2772996488480138859 tw2375802423751596671 tw1984158299653119240 tw18274813580164051486 tw18262865193713212478 tw1744886716490493131 tw16036345758417261635 tw14255723122263113454 tw13636460437451788273 tw13528917998553384603 tw13418173426700764843 tw13003492131120494025 tw12874795027161537237 tw1090407353879886820 tw8606729266654158267 tw6960008405088681860 tw14530482026052505161 tw7690657910234267572 tw6040211106454620265 tw3339803958917406165 tw3165600853101625913 tw14161070559512071544 tw12317582688660945186 tw13489534539038648472 tw15146269246860243101 tw388640498875477056 tw18149000482704261832 tw6602741406630571076 tw9851272293461865001 tw11446827699181474529 tw6111194224052201812 tw968034717886701671 tw14028154071795549133 tw9487450067792204995 tw6021220559256701457 tw12915557978058962090 tw7718619309518270051 tw8961662499803406652 tw11179685838963129640 tw2322639645759682091 tw16755847173790713767 tw13317551675288503894 tw11934848857165318532 tw14961258233074437901 tw2074362313213474498 tw1586982415546401093 tw14187803778160671761 tw15248224852452751458 tw14844213931227979143 tw7162730645697704936 tw4794611632821573669 tw11210343097387986391 tw368437006915124094 tw12064428288459100673 tw8063505324555469706 tw12460497568220478640 tw6747415950205350882 tw14249807260137653742 tw65033482599589876 tw1014669800747429634 tw2713647646811302667 tw2197306940502433628 tw2751566862227722937 tw9141243343434741057 tw16105079446962978233 tw1935023035737030622 tw8950906645935257386 tw17124027427025366107 tw5099775950720423842 tw4475813290805947316 tw17043769244243326834 tw9455146411858610441 tw548421354021937219 tw2843387489834025243 tw16104039264122808958 tw15805663783709080665 tw684167921501120656 tw15339718735276162513 tw3317564581379101295 tw9780356252204240800 tw11935036386714075836 tw13635889725443352734 tw9116710971001564133 tw1286441187340218487 tw3123979567003022787 tw12819031903877782414 tw6093107658171639642 tw1206900125491331578 tw12555744936207450457 tw10575645437358180162 tw4316418455906349703 tw2596396621466159648 tw18363257966112377425 tw13224047949526412038 tw2037269302037590589 tw4383304685472686765 tw14595004661762969942 tw2728287486803959114 tw887628157007916059 tw10389648293133700852 tw1476054823884312425 tw5326830790108523750 tw1185725344276955843 tw14995356826609753894 tw7362515169169207252 tw14233126401626446007 tw3959082268910566862 tw4732935031799022169 tw9279626972813676583 tw12646096255657650308 tw9011246477250165929 tw17878542990210558161 tw16516608224736917850 tw7772483733676473755 tw16080124887694544893 tw8892234539479048920 tw1150351676153162333 tw17415973593757034286 tw7874290674687961665 tw13579403047235271314 tw8197626060469623999 tw15806900465936275185 tw12969842222672613257 tw9230372208348576652 tw8045688425717428970 tw15367599913649792178 tw7325296945822515050 tw13252306110038320319 tw17707963363515838548 tw2773240279958345530 tw10144921352939321260 tw15170295329934922339 tw10201570833573926248 tw4727855748262875623 tw4549076987294977982 tw17264587229399408091 tw3568353122874290646 tw17655172413942508009 tw10333769782079011768 tw10829872715398245984 tw13421100001283808426 tw1255803826315278548 tw7215432534670378091 tw4277059923631599335 tw699636071979920733 tw2345428547967869110:True)
open PySem PySem.W PyProof.Rows
set_option maxRecDepth 100000 in
set_option maxHeartbeats 0 in
theorem PySem.Challenge.cw_knotless_k29_falls_in_the_net_holds : PySem.Challenge.rw_knotless_k29_falls_in_the_net.Holds := by
 w_on; o_law; k_head; (case hw=>w_witness2)
 k_fill
 refine gi.walk (l:=PySem.Challenge.rw_knotless_k29_falls_in_the_net) rfl rfl rfl (fun w h Y=>PySem.W.kIn_of Y) ?F
 case F =>
  intro w mg h KX G
  refine' gi.aam KX G ?D9 ?Hv ?Hw ?Ea ?LK ?BG ?LL ?Pr ?uZ ?xO ?xP ?xQ ?u0 ?Eb ?BH ?qj ?sQ ?sR ?qk ?sU ?u9 ?vc ?sV ?vd ?Ec ?LM ?Vt ?Vu ?LN ?Ed ?LO ?ve ?zN ?zO ?ql ?sW ?zP ?vf ?vg ?xR ?zQ ?nV ?sX ?vh ?lJ ?lK ?sY ?BI ?vj ?qm ?xS ?BJ ?BK ?zR ?zS ?xU ?BL ?BN ?Ef ?BO ?BP ?BQ ?BR ?xV ?zT ?xW ?vm ?vn ?vp ?vq ?oV ?sZ ?vt ?qo ?nW ?BS ?nA ?qq ?iy ?nB ?lM ?nX ?xX ?qt ?zU ?Eg ?Hy ?Eh ?Ei ?zV ?Hz ?BU ?Ej ?HA ?Vv ?zW ?nY ?xY ?C0 ?qu ?zX ?C1 ?qv ?zY ?zZ ?nZ ?qw ?vz ?nC ?qz ?HB ?j8 ?j9 ?xZ ?x8 ?wm ?qA ?lN ?HC ?x9 ?Nb ?z6 ?tw ?jR ?ya ?yb ?vA ?vB ?tD ?vC ?tE ?tF ?qB ?HD ?n9 ?oh ?oi ?Ek ?El ?BV ?BW ?vD ?yc ?yd ?ye ?tG ?yf ?yg ?Vw ?yh ?Vx ?Pu ?Pw ?LP ?z7 ?Vy ?Vz ?VA ?HE
  case D9 | Hv | Hw | Ea | LK | BG | LL | Pr=>k_is
  case uZ | xO | xP | xQ | u0=>exact L2.exM (by k_is) (by k_is) (by k_is) (by k_is) (by k_is)
  case Eb | BH=>exact L2.exG KX G (by k_is) (by k_is) (by k_is) (by k_is)
  case qj | sQ | sR | qk | sU | u9 | vc | sV | vd=>exact L2.exM (by k_is) (by k_is) (by k_is) (by k_is) (by k_is)
  case Ec | LM | Vt | Vu | LN | Ed | LO=>exact L2.exG KX G (by k_is) (by k_is) (by k_is) (by k_is)
  case ve | zN | zO | ql | sW | zP=>exact L2.exM (by k_is) (by k_is) (by k_is) (by k_is) (by k_is)
  case vf | vg | xR | zQ=>exact L2.exG KX G (by k_is) (by k_is) (by k_is) (by k_is)
  case nV | sX | vh | lJ | lK | sY=>exact L2.exM (by k_is) (by k_is) (by k_is) (by k_is) (by k_is)
  case BI | vj=>exact L2.exG KX G (by k_is) (by k_is) (by k_is) (by k_is)
  case qm | xS | BJ | BK | zR | zS | xU | BL | BN | Ef=>exact L2.exM (by k_is) (by k_is) (by k_is) (by k_is) (by k_is)
  case BO | BP | BQ | BR | xV | zT=>k_is
  case xW=>exact L2.exM (by k_is) (by k_is) (by k_is) (by k_is) (by k_is)
  case vm | vn | vp | vq | oV | sZ=>k_is
  case vt | qo | nW | BS | nA | qq | iy | nB | lM | nX=>exact L2.exM (by k_is) (by k_is) (by k_is) (by k_is) (by k_is)
  case xX | qt | zU | Eg | Hy | Eh | Ei | zV | Hz | BU | Ej | HA | Vv=>exact L2.exG KX G (by k_is) (by k_is) (by k_is) (by k_is)
  case zW=>exact L2.Yx (by k_is) (by k_is) (by k_is) (by k_is) (by k_is) (by k_is)
  case nY | xY=>k_is
  case C0=>exact L2.Yx (by k_is) (by k_is) (by k_is) (by k_is) (by k_is) (by k_is)
  case qu | zX=>k_is
  case C1=>exact L2.Yx (by k_is) (by k_is) (by k_is) (by k_is) (by k_is) (by k_is)
  case qv | zY=>k_is
  case zZ=>exact L2.Yx (by k_is) (by k_is) (by k_is) (by k_is) (by k_is) (by k_is)
  case nZ | qw | vz | nC | qz=>k_is
  case HB=>exact L2.Yx (by k_is) (by k_is) (by k_is) (by k_is) (by k_is) (by k_is)
  case j8 | j9 | xZ | x8=>k_is
  case wm=>exact L2.Yx (by k_is) (by k_is) (by k_is) (by k_is) (by k_is) (by k_is)
  case qA | lN=>k_is
  case HC=>exact L2.Yx (by k_is) (by k_is) (by k_is) (by k_is) (by k_is) (by k_is)
  case x9=>k_is
  case Nb=>exact L2.Yx (by k_is) (by k_is) (by k_is) (by k_is) (by k_is) (by k_is)
  case z6 | tw | jR | ya | yb | vA | vB | tD | vC | tE | tF | qB | HD | n9 | oh | oi | Ek=>k_is
  case El=>exact⟨by k_exc,by k_is,by k_is,by k_is,by k_is,by k_is,by k_is,by k_is,by k_is⟩
  case BV=>k_is
  case BW=>exact⟨by k_exc,by k_is,by k_is,by k_is,by k_is,by k_is,by k_is,by k_is,by k_is⟩
  case vD | yc | yd | ye | tG | yf | yg | Vw | yh | Vx | Pu | Pw | LP | z7 | Vy | Vz | VA | HE=>k_is
#print axioms PySem.Challenge.cw_knotless_k29_falls_in_the_net_holds
