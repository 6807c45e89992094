import PyProof.Rows.All
import Wide.All
import OpenK.AllK
import Wide.FinOn
import Lean
import PyProof.EqAt
import PyProof.EqKinds
import PyProof.TupleCall
import PySem.Challenge.RW_knotless_k34_moves_and_old_letters
set_option Elab.async false
noncomputable section
universe u v
section
local macro_rules|`(∅)=>`(by lia)
local macro_rules|`(!_)=>`(by decide)
local macro_rules|`(-_)=>`(by simp)
theorem aaa:1<=PySem.sizeLine:=!_
theorem e8:2<=PySem.sizeLine:=!_
theorem k9:3<=PySem.sizeLine:=!_
theorem J8:4<=PySem.sizeLine:=!_
theorem aa4:5<=PySem.sizeLine:=!_
def aq:=@if_pos.{u}
def b3:=@if_neg.{u}
def cy:=@decide_eq_true
def c6:=@decide_eq_false
def eL:=@of_decide_eq_true
def b5:=@absurd.{v}
def er:=@congrArg.{u,v}
open List renaming getElem?_eq_getElem -> aa, length_map -> ah, getElem?_eq_some_iff -> ai, getElem?_map -> ak, getD_eq_getElem?_getD -> au, range -> az, length_append -> aA, getElem_mem -> aM, mem_of_getElem? -> aN, mem_map -> aP, mem_append -> aR, map_append -> aS, mem_singleton -> aT, size_toArray -> aX, getElem?_append_left -> aY, mem_cons -> be, mem_filter -> bq, length_set -> br, mem_cons_of_mem -> bw, getElem?_append_right -> bC, length_cons -> bE, length_range -> bG, map_cons -> bH, mem_append_right -> bJ, mem_map_of_mem -> bV, length_filter_le -> bY, append_nil -> bZ, mem_cons_self -> ck, length_take -> cH, map_congr_left -> cK, take_of_length_le -> cO, map_map -> cX, mem_range -> c5, getElem?_range -> dX, filterMap_cons -> dY, filter_cons -> eB, append_assoc -> eF, mem_append_left -> eY, lookup_cons -> fq, length_eq_zero_iff -> fO, filter_append -> fP, getElem?_take_of_lt -> gR, filter_cons_of_pos -> iw, filter_cons_of_neg -> iy, range_succ -> iF, nodup_cons -> iG, getElem?_eq_none -> jg, nodup_nil -> jy, drop_eq_getElem_cons -> jz, take_succ_eq_append_getElem -> jD, getElem?_of_mem -> jM, getElem?_set -> jO, reverse_append -> kI, take_append_drop -> mQ, set_append_right -> mS, getElem?_concat_length -> mT, nodup_append -> n9, replicate -> pT, pairwise_iff_getElem -> pU, extract_eq_drop_take -> pV, lookup -> qu, pairwise_cons -> r6, find?_cons -> se, drop_of_length_le -> uc, map_set -> vI, ext_getElem -> wW, any_eq_true -> wX
open PySem.W renaming Frag -> af, findIn -> aL, nsIn -> bU, mg_of -> cY, keepIn -> d9, fnOf -> e9, emptyDict -> gk, mg_none_of -> gQ, codeIn -> jx, instObj -> jN, hasDictIn -> uI, plainGet -> wR
open Nat renaming le_refl -> aB, le_trans -> aU, ne_of_lt -> bz, lt_of_lt_of_le -> bF, zero_le -> bI, lt_of_le_of_lt -> bO, add_le_add_left -> cJ, le_succ -> dU, sub_self -> fE, min_le_left -> fN, lt_irrefl -> jf, le_of_lt -> mP, lt_succ_self -> wU, le_add_right -> wV
open Option.some renaming inj -> aI
open Bool renaming false_ne_true -> aJ, and_eq_true -> dw, eq_iff_iff -> jR
open Option renaming some_ne_none -> aV
open Array renaming length_toList -> aW, getElem_mem -> bK, toList_append -> cS, getElem_extract -> gB, getElem?_toList -> gC, mem_toList_iff -> ic, getElem?_eq_some_iff -> iW, size_extract -> mJ, toList_push -> uK
open Ne renaming symm -> bN
open Int renaming emod_nonneg -> bT, emod_lt_of_pos -> cu, toNat_natCast -> cZ, zero_add -> fU, le_refl -> jA, le_trans -> rm
open PySem.F renaming plainAttrs_list -> bX, type_list_append -> b6, slot_list_append -> b9
open Sum renaming inl -> gA
open ForInStep renaming yield -> jP
open False renaming elim -> jQ
open PySem renaming mem_of_lookup -> qt
open PyProof.Rows renaming slot_tuple_getitem -> uJ
set_option linter.all false
set_option maxRecDepth 100000
namespace L2
open PySem PySem.Spec PyProof.Rows
abbrev Key:=Sum Int Str
noncomputable def JC:Key->Value->Bool
 |.inl k,v=>Value.isInt k v
 |.inr x,v=>Value.isStrOf x v
noncomputable def agn(w:World):Key->Int
 |.inl k=>hashInt k
 |.inr x=>hashStr w x
theorem ie:∀{k:Key} {v:Value},JC k v=true->(∃i t,k=gA i/\v=Value.int i t)∨(∃x t,k=Sum.inr x/\v=Value.str x t)
 |.inl i,v,h=>by
  obtain⟨t,e⟩:=Value.isInt_shape (k:=i) (v:=v) h;exact .inl ⟨i,t,rfl,e⟩
 |.inr x,v,h=>by
  obtain⟨t,e⟩:=Value.isStrOf_shape (x:=x) (v:=v) h;exact .inr ⟨x,t,rfl,e⟩
theorem R0(i:Int)(t:Tok):JC (.inl i) (.int i t)=true:=by simp[JC,Value.isInt]
theorem R1(x:Str)(t:Tok):JC (.inr x) (.str x t)=true:=by simp[JC,Value.isStrOf]
theorem Z4(a b:Int):decide ((gA a:Key)=gA b)=(a==b):=by
 by_cases e:a=b
 ·subst e;simp
 ·have h:¬(gA a:Key)=gA b:=λq=>e (Sum.inl.inj q)
  rw[c6 h];exact (beq_eq_false_iff_ne.mpr e).symm
theorem Z5(a b:Str):decide ((Sum.inr a:Key)=Sum.inr b)=decide (a=b):=by
 by_cases e:a=b
 ·subst e;simp
 ·have h:¬(Sum.inr a:Key)=Sum.inr b:=λq=>e (Sum.inr.inj q)
  rw[c6 h,c6 e]
theorem Z6(a:Int)(b:Str):decide ((gA a:Key)=Sum.inr b)=false:=c6 (λq=>nomatch q)
theorem Z7(a:Str)(b:Int):decide ((Sum.inr a:Key)=gA b)=false:=c6 (λq=>nomatch q)
noncomputable def ig(prog:Program)(w:World):PySem.KeyKind prog w Key where
 is:=JC
 hash:=agn w
 inj:=λv a b ha hb=>by
  rcases ie ha with ⟨i,t,rfl,rfl⟩|⟨x,t,rfl,rfl⟩
  ·rcases ie hb with ⟨j,u,rfl,e⟩|⟨y,u,rfl,e⟩
   ·injection e with e1 _;rw[e1]
   ·exact nomatch e
  ·rcases ie hb with ⟨j,u,rfl,e⟩|⟨y,u,rfl,e⟩
   ·exact nomatch e
   ·injection e with e1 _;rw[e1]
 byValue:=λk v h=>by
  rcases ie h with ⟨i,t,rfl,rfl⟩|⟨x,t,rfl,rfl⟩ <;> rfl
 pyHash:=λhv h=>by
  rcases ie hv with ⟨i,t,rfl,rfl⟩|⟨x,t,rfl,rfl⟩
  ·exact wpAny_pyHash_int h
  ·exact wpAny_pyHash_str h
 eqBool:=λhu hv h=>by
  rcases ie hu with ⟨i,t,rfl,rfl⟩|⟨x,t,rfl,rfl⟩
  ·rcases ie hv with ⟨j,u,rfl,rfl⟩|⟨y,u,rfl,rfl⟩
   ·rw[Z4] at h;exact wpAny_eqBool_int h
   ·rw[Z6] at h;exact SeqAt.EqAt.int_str i t y u _ _ _ _ h
  ·rcases ie hv with ⟨j,u,rfl,rfl⟩|⟨y,u,rfl,rfl⟩
   ·rw[Z7] at h;exact SeqAt.EqAt.str_int x t j u _ _ _ _ h
   ·rw[Z5] at h;exact wpAny_eqBool_str h
 «strs»:=λk x t v h=>by
  rcases ie h with ⟨i,u,rfl,e⟩|⟨y,u,rfl,e⟩
  ·exact nomatch e
  ·injection e with e1 _
   subst e1;cases v <;> rfl
theorem Ms(prog:Program)(w:World)(i:Int)(t:Tok):(ig prog w).is (.inl i) (.int i t)=true:=R0 i t
theorem Mt(prog:Program)(w:World)(x:Str)(t:Tok):(ig prog w).is (.inr x) (.str x t)=true:=R1 x t
inductive V where
 |fM|bl (b:Bool)|int (i:Int)|str (x:Str)|Qn (b:Array UInt8)|Iu (b:UInt64)|ref (a:Addr)|ty (n:String)
 deriving DecidableEq
def RelV:V->Value->Prop
 |.fM,u=>u=Value.none
 |.bl b,u=>u=Value.bool b
 |.int i,u=>∃t,u=Value.int i t
 |.str x,u=>∃t,u=Value.str x t
 |.Qn b,u=>∃t,u=Value.bytes b t
 |.Iu b,u=>∃t,u=Value.float b t
 |.ref a,u=>u=Value.ref a
 |.ty n,u=>u=Value.type n
abbrev cD:List V->List Value->Prop:=Paired RelV
theorem cD.length{xs:List V}{us:List Value}(r:cD xs us):xs.length=us.length:=Paired.length r
theorem cD.get:∀{xs:List V} {us:List Value} {i:Nat} {x:V},cD xs us->xs[i]?=some x->∃u,us[i]?=some u/\RelV x u
 |_,_,_,_,.nil,e=>by simp at e
 |_,_,0,_,.cons r _,e=>by simp at e;subst e;exact⟨_,rfl,r⟩
 |_,_,i+1,x,.cons _ t,e=>by
  obtain⟨u,b,a⟩:=cD.get (i:=i) (x:=x) t (by simpa using e);exact⟨u,by simpa using b,a⟩
theorem cD.set{x:V}{u:Value}(r:RelV x u):∀{xs:List V} {us:List Value} (i:Nat),cD xs us->cD (xs.set i x) (us.set i u)
 |_,_,_,.nil=>.nil
 |_,_,0,.cons _ t=>.cons r t
 |_,_,i+1,.cons q t=>.cons q (cD.set r i t)
theorem cD.append:∀{xs a:List V} {us b:List Value},cD xs us->cD a b->cD (xs++a) (us++b)
 |_,_,_,_,.nil,s=>s
 |_,_,_,_,.cons r t,s=>.cons r (cD.append t s)
theorem cD.take:∀{xs:List V} {us:List Value} (n:Nat),cD xs us->cD (xs.take n) (us.take n)
 |_,_,0,_=>.nil
 |_,_,_+1,.nil=>.nil
 |_,_,n+1,.cons r t=>.cons r (cD.take n t)
theorem cD.drop:∀{xs:List V} {us:List Value} (n:Nat),cD xs us->cD (xs.drop n) (us.drop n)
 |_,_,0,r=>r
 |_,_,_+1,.nil=>.nil
 |_,_,n+1,.cons _ t=>cD.drop n t
def AV:Option V->Option Value->Prop
 |some v,some u=>RelV v u
 |none,none=>True
 |_,_=>False
def KV{κ:Type}:List (κ×V)->List (κ×Value)->Prop:=Paired λ(p:κ×V) (q:κ×Value)=>p.1=q.1/\RelV p.2 q.2
noncomputable def kV:Key->V
 |.inl i=>.int i
 |.inr x=>.str x
inductive HO where
 |lst (xs:List V)
 |tup (xs:List V)
 |dK (kvs:List (Key×V))|dT (kvs:List (List Key×V))
 |set (S:Int->Bool) (n:Nat)
 |ins (C dx:Addr) (fs:List (Str×V))
 |own (x:Addr)
 |xd (fs:List (Str×V))
 |met (f x:Addr)
 |OL (lo hi:Int)
 |Ct (o:Obj) (u:HO)
 |Y4 (ps:Array Value)
 |ext (φ:Heap->Prop)
abbrev Hp:=Addr->Option HO
noncomputable def upd(H:Hp)(a:Addr)(o:HO):Hp:=λb=>if b=a then some o else H b
theorem aC{H:Hp}{a:Addr}{o:HO}:upd H a o a=some o:=by unfold upd;rw[aq rfl]
theorem aK{H:Hp}{a b:Addr}{o:HO}(h:b≠a):upd H a o b=H b:=by unfold upd;rw[b3 h]
theorem KN{H:Hp}{a:Addr}{o u:HO}:upd (upd H a o) a u=upd H a u:=by
 funext b;unfold upd;split <;> rfl
theorem vJ{H:Hp}{a b:Addr}{o u:HO}(h:H a=some o)(h':H b=some u)(d:o≠u):a≠b:=by
 intro e;subst e;rw[h] at h';exact d (aI h')
theorem aQ{H:Hp}{a b:Addr}{o:HO}(h:H a=some o)(h':H b=none):a≠b:=by
 intro e;subst e;rw[h] at h';cases h'
section
variable(P:Program)(w:World)
def gU(H:Hp)(h:Heap)(a:Addr):HO->Prop
 |.lst xs=>xs.length<=sizeLine/\∃(its:List Value) (n:Nat),cD xs its/\h.get? a=some {cls:=.type "list",data:=.seq its.toArray n}
 |.tup xs=>xs.length<=sizeLine/\∃its:List Value,cD xs its/\IsTup h a its.toArray
 |.dK kvs=>kvs.length<=sizeLine/\(a==sysModules)=false/\∃vs,KV kvs vs/\h.DictOf (ig P w) a vs
 |.dT kvs=>kvs.length<=sizeLine/\(a==sysModules)=false/\∃xs:List (List Key×Addr×Value),
  Paired (λ(p:List Key×V) (q:List Key×Addr×Value)=>p.1=q.1/\H q.2.1=some (.tup (p.1.map kV))/\RelV p.2 q.2.2) kvs xs /\
  ∃o es ep,h.get? a=some o/\o.ExactDict/\o.data=.dict es ep/\es.toList=xs.map (entryOfKey (tupleKind (ig P w)))/\(xs.map (·.1)).Nodup
 |.set S n=>h.SetOf (intKind P w) a S n
 |.ins C dx fs=>H dx=some (.own a)/\fs.length<=1000/\dx≠a/\h.get? a=some (jN C dx) /\
  ∃mA,h.Ns1 dx mA/\(∀f,AV (fs.lookup f) (mA f))/\PySem.Within mA (fs.map (·.1))
 |.own _=>∃o,h.get? a=some o
 |.xd fs=>∃mA,h.Ns1 a mA/\∀f,AV (fs.lookup f) (mA f)
 |.OL lo hi=>∃t u v,h.get? a=some {cls:=.type "range",data:=.fields #[.int lo t,.int hi u,.int 1 v]}
 |.Ct o u=>h.get? a=some o/\gU H h a u
 |.Y4 ps=>h.get? a=some {cls:=.none,data:=.fields ps}
 |.met f x=>h.get? a=some (PySem.W.methodObj (.ref f) (.ref x))
 |.ext φ=>φ h/\(∃o,h.get? a=some o)/\∀h1 h2:Heap,φ h1->(∀o,h1.get? a=some o->h2.get? a=some o)->φ h2
def yS(H:Hp)(h:Heap):Prop:=∀a o,H a=some o->gU P w H h a o
end
section
variable{P:Program}{w:World}{H H':Hp}{h h':Heap}{a:Addr}{o:HO}
theorem gU.lt(x:gU P w H h a o):a<h.objs.size:=by
 cases o with
 |lst d=>obtain⟨_,_,_,_,e⟩:=x;exact Heap.lt_size e
 |tup d=>obtain⟨_,_,_,p⟩:=x;exact p.lt
 |dK b=>obtain⟨_,_,_,_,o,_,_,e,_⟩:=x;exact Heap.lt_size e
 |dT b=>obtain⟨_,_,_,_,o,_,_,e,_⟩:=x;exact Heap.lt_size e
 |set S n=>obtain⟨o,_,_,_,e,_⟩:=x;exact Heap.lt_size e
 |ins C g c=>obtain⟨_,_,_,e,_⟩:=x;exact Heap.lt_size e
 |own y=>obtain⟨_,e⟩:=x;exact Heap.lt_size e
 |xd c=>obtain⟨_,⟨_,_,_,e,_⟩,_⟩:=x;exact Heap.lt_size e
 |OL lo i=>obtain⟨_,_,_,e⟩:=x;exact Heap.lt_size e
 |Ct k u=>obtain⟨e,_⟩:=x;exact Heap.lt_size e
 |Y4 j=>exact Heap.lt_size (show h.get? a=some _ from x)
 |met f y=>exact Heap.lt_size (show h.get? a=some _ from x)
 |ext l=>obtain⟨_,⟨_,e⟩,_⟩:=x;exact Heap.lt_size e
theorem Paired.W1{α β:Type}{F G:α->β->Prop}:∀{l₁:List α} {l₂:List β},Paired F l₁ l₂->(∀a b,F a b->G a b)->Paired G l₁ l₂
 |_,_,.nil,_=>.nil
 |_,_,.cons r t,f=>.cons (f _ _ r) (Paired.W1 t f)
theorem gU.stay(x:gU P w H h a o)(k:∀b u,(b=a∨H b=some (.own a))->h.get? b=some u->h'.get? b=some u)
 (K:∀b,H b=some (.own a)->H' b=some (.own a)) (J:∀b xs,H b=some (.tup xs)->H' b=some (.tup xs)):gU P w H' h' a o:=by
 induction o with
 |lst xs=>obtain⟨z,l,n,r,e⟩:=x;exact⟨z,l,n,r,k _ _ (.inl rfl) e⟩
 |tup xs=>obtain⟨z,l,r,g,e,c⟩:=x;exact⟨z,l,r,g,k _ _ (.inl rfl) e,c⟩
 |dK m=>obtain⟨z,y,I,r,g,j,i,e,c⟩:=x;exact⟨z,y,I,r,g,j,i,k _ _ (.inl rfl) e,c⟩
 |dT m =>
  obtain⟨z,y,xs,r,g,j,i,e,c⟩:=x;exact⟨z,y,xs,Paired.W1 r λp q z=>⟨z.1,J _ _ z.2.1,z.2.2⟩,g,j,i,k _ _ (.inl rfl) e,c⟩
 |set S n=>obtain⟨g,j,i,t,e,c⟩:=x;exact⟨g,j,i,t,k _ _ (.inl rfl) e,c⟩
 |ins C L E =>
  obtain⟨d,z,D,e,A,⟨s,j,i,F,c⟩,r⟩:=x;exact⟨K _ d,z,D,k _ _ (.inl rfl) e,A,⟨s,j,i,k _ _ (.inr d) F,c⟩,r⟩
 |own y=>obtain⟨g,e⟩:=x;exact⟨g,k _ _ (.inl rfl) e⟩
 |xd E=>obtain⟨A,⟨s,j,i,e,c⟩,r⟩:=x;exact⟨A,⟨s,j,i,k _ _ (.inl rfl) e,c⟩,r⟩
 |OL lo M=>obtain⟨t,u,v,e⟩:=x;exact⟨t,u,v,k _ _ (.inl rfl) e⟩
 |Ct g u G=>obtain⟨e,q⟩:=x;exact⟨k _ _ (.inl rfl) e,G q⟩
 |Y4 B =>
  have e:h.get? a=some {cls:=.none,data:=.fields B}:=x;show h'.get? a=some {cls:=.none,data:=.fields B};exact k a _ (.inl rfl) e
 |met f y =>
  have e:h.get? a=some (PySem.W.methodObj (.ref f) (.ref y)):=x;show h'.get? a=some (PySem.W.methodObj (.ref f) (.ref y));exact k a _ (.inl rfl) e
 |ext N=>obtain⟨p,⟨o,e⟩,st⟩:=x;exact⟨st _ _ p λo q=>k _ _ (.inl rfl) q,⟨o,k _ _ (.inl rfl) e⟩,st⟩
theorem yS.lt(x:yS P w H h)(e:H a=some o):a<h.objs.size:=(x a o e).lt
theorem yS.fresh(x:yS P w H h)(e:h.objs.size<=a):H a=none:=by
 cases q:H a with
 |none=>rfl
 |some u=>exact b5 (bF (x.lt q) e) (jf _)
theorem yS.kept(x:yS P w H h)(k:∀b u,h.get? b=some u->h'.get? b=some u):yS P w H h':=λa o e =>
 (x a o e).stay (λb u _ q=>k b u q) (λ_ q=>q) λ_ _ q=>q
theorem yS.laid(x:yS P w H h)(k:∀b u,h.get? b=some u->h'.get? b=some u)(i:h.objs.size<=a)(d:gU P w (upd H a o) h' a o):yS P w (upd H a o) h':=λb u e=>by
 have g:=x.fresh i;by_cases f:b=a
 ·subst f;rw[aC] at e;cases e;exact d
 ·rw[aK f] at e
  exact (x b u e).stay (λc v _ q=>k c v q) (λc q=>by rw[aK (aQ q g)];exact q) λc j q=>by rw[aK (aQ q g)];exact q
end
def Rd(H:Hp)(a:Addr)(u:HO):Prop:=H a=some u∨∃o,H a=some (.Ct o u)
theorem Rd.ok{P:Program}{w:World}{H:Hp}{h:Heap}{a:Addr}{u:HO}(r:Rd H a u)(x:yS P w H h):gU P w H h a u:=by
 rcases r with r|⟨o,r⟩
 ·exact x a u r
 ·obtain⟨_,q⟩:=x a _ r
  exact q
def ID:Option HO->Prop
 |some (.lst _)=>True
 |some (.dK _)=>True
 |some (.dT _)=>True
 |some (.set _ _)=>True
 |some (.ins _ _ _)=>True
 |some (.ext _)=>True
 |_=>False
section
variable{P:Program}{w:World}{H:Hp}{h h':Heap}{x e:Addr}{o':HO}
theorem yS.write(ok:yS P w H h)(d:ID (H x))(o:e=x∨H e=some (.own x))(k:∀b u,b≠e->h.get? b=some u->h'.get? b=some u)(l:∃u,h'.get? e=some u)
 (j:gU P w (upd H x o') h' x o'):yS P w (upd H x o') h':=λb u q=>by
 have a:∀c y,H c=some (.own y)->c≠x:=λc y r z=>by subst z;rw[r] at d;exact d
 have m:∀c f,H c=some (.tup f)->c≠x:=λc f r z=>by subst z;rw[r] at d;exact d
 by_cases g:b=x
 ·subst g;rw[aC] at q;cases q;exact j
 ·rw[aK g] at q
  by_cases i:b=e
  ·have n:H b=some (.own x):=by
    rcases o with z|z
    ·exact b5 (i.trans z) g
    ·rw[i];exact z
   rw[q] at n;cases n;obtain⟨v,p⟩:=l;exact⟨v,by rw[i];exact p⟩
  ·refine (ok b u q).stay (λc v hc r=>k c v ?_ r) (λc r=>by rw[aK (a c b r)];exact r) λc f r=>by rw[aK (m c f r)];exact r
   rcases hc with rfl|hc
   ·exact i
   ·rintro rfl
    rcases o with z|z
    ·exact a c b hc z
    ·rw[hc] at z;cases z;exact g rfl
end
structure Un(fs ex:List Addr)(H H':Hp)(h h':Heap):Prop where
 keep:∀b o,h.get? b=some o->H b=none->b∉fs->b∉ex->h'.get? b=some o
 slot:∀b o,h.get? b=some o->H b=none->b∈fs->b∉ex->∃sl,h'.get? b=some {o with slots:=sl}
 free:∀b o,h.get? b=some o->H b=none->b∉ex->H' b=none
 there:∀b o,h.get? b=some o->b∉ex->∃o',h'.get? b=some o'
 tups:∀b xs,H b=some (.tup xs)->H' b=some (.tup xs)
 AW:∀b o u,H b=some (.Ct o u)->H' b=some (.Ct o u)
 Cv:∀b ps,H b=some (.Y4 ps)->∃more,H' b=some (.Y4 (ps++more))
section
variable{fs fs' ex ex':List Addr}{H H1 H2:Hp}{h h1 h2 h':Heap}{a x e:Addr}{o:HO}
theorem Un.any(u:Un fs ex H H1 h h1){b:Addr}{ob:Obj}(q:h.get? b=some ob)(n:H b=none)(c:b∉ex):∃d,h1.get? b=some {ob with slots:=d}:=by
 by_cases a:b∈fs
 ·exact u.slot b ob q n a c
 ·exact⟨ob.slots,u.keep b ob q n a c⟩
theorem Un.trans(a:Un fs ex H H1 h h1)(b:Un fs ex H1 H2 h1 h2):Un fs ex H H2 h h2 where
 keep:=λc d q n i e=>b.keep c d (a.keep c d q n i e) (a.free c d q n e) i e
 slot:=λc d q n i e=>by
  obtain⟨r,f⟩:=a.slot c d q n i e;obtain⟨k,l⟩:=b.slot c _ f (a.free c d q n e) i e;exact⟨k,l⟩
 free:=λc d q n e=>by
  obtain⟨j,f⟩:=a.there c d q e;exact b.free c j f (a.free c d q n e) e
 there:=λc d q e=>by
  obtain⟨j,f⟩:=a.there c d q e;exact b.there c j f e
 tups:=λc g q=>b.tups c g (a.tups c g q)
 AW:=λc d g q=>b.AW c d g (a.AW c d g q)
 Cv:=λc o q=>by
  obtain⟨p,f⟩:=a.Cv c o q;obtain⟨m,l⟩:=b.Cv c _ f;exact⟨p++m,by rw[l,Array.append_assoc]⟩
theorem Un.kept(k:∀b u,h.get? b=some u->h'.get? b=some u):Un fs ex H H h h' :=
 ⟨λb a q _ _ _=>k b a q,λb a q _ _ _=>⟨a.slots,k b a q⟩,λ_ _ _ n _=>n,λb a q _=>⟨a,k b a q⟩,λ_ _ q=>q,λ_ _ _ q=>q,λ_ c q=>⟨#[],by rw[q];simp⟩⟩
theorem Un.refl:Un fs ex H H h h:=Un.kept λ_ _ q=>q
theorem Un.laid(k:∀b u,h.get? b=some u->h'.get? b=some u)(e:h.objs.size<=a)(c:H a=none):Un fs ex H (upd H a o) h h' where
 keep:=λb u q _ _ _=>k b u q
 slot:=λb u q _ _ _=>⟨u.slots,k b u q⟩
 free:=λb u q n _=>by rw[aK (bz (bF (Heap.lt_size q) e))];exact n
 there:=λb u q _=>⟨u,k b u q⟩
 tups:=λb d q=>by rw[aK (aQ q c)];exact q
 AW:=λb u d q=>by rw[aK (aQ q c)];exact q
 Cv:=λb f q=>⟨#[],by rw[aK (aQ q c),q];simp⟩
theorem Un.write(a:ID (H x))(m:e=x∨H e=some (.own x))(k:∀b u,b≠e->h.get? b=some u->h'.get? b=some u)(d:∃u,h'.get? e=some u):Un fs ex H (upd H x o) h h':=by
 have f:∀b,H b=none->b≠x:=λb n z=>by subst z;rw[n] at a;exact a
 have g:∀b,H b=none->b≠e:=λb n z=>by
  subst z;rcases m with r|r
  ·exact f b n r
  ·rw[n] at r;cases r
 have c:∀b u,H b=some u->¬ID (some u)->b≠x:=λb u q j z=>by subst z;rw[q] at a;exact j a
 refine⟨λb u q n _ _=>k b u (g b n) q,λb u q n _ _=>⟨u.slots,k b u (g b n) q⟩,λb u q n _=>by rw[aK (f b n)];exact n,λb u q _=>?_,
  λb l q=>by rw[aK (c b _ q λz=>z)];exact q,λb u l q=>by rw[aK (c b _ q λz=>z)];exact q,λb p q=>⟨#[],by rw[aK (c b _ q λz=>z),q];simp⟩⟩
 by_cases i:b=e
 ·subst i;exact d
 ·exact⟨u,k b u i q⟩
end
noncomputable def wh(h:Heap)(H:Hp):List Addr:=(az h.objs.size).filter λa=>(H a).isSome
noncomputable def KO(h:Heap)(H:Hp):Heap:=PySem.W.hideAll h (wh h H)
theorem R3(h:Heap)(H:Hp):(KO h H).objs.size=h.objs.size:=PySem.W.hideAll_size _ _
theorem Uh{h:Heap}{H:Hp}{b:Addr}{o:Obj}(e:h.get? b=some o)(n:H b=none):(KO h H).get? b=some o :=
 PySem.W.hideAll_get _ e λa=>by
  have q:(H b).isSome=true:=(bq.mp a).2;rw[n] at q;simp at q
theorem W9{h:Heap}{H:Hp}{b:Addr}{o:Obj}(e:(KO h H).get? b=some o):h.get? b=some o/\H b=none:=by
 have a:h.get? b=some o:=PySem.W.of_hideAll (wh h H) e;refine⟨a,?_⟩;cases q:H b with
 |none=>rfl
 |some x =>
  have c:b∈wh h H:=bq.mpr ⟨c5.mpr (Heap.lt_size a),by simp[q]⟩;have z:(KO h H).get? b=none:=PySem.W.hideAll_none (wh h H) c;rw[z] at e;cases e
noncomputable def Xa(g h:Heap)(L:Addr):List (Addr×Obj):=(az h.objs.size).filterMap λa=>if a=L∨(g.get? a).isSome=true then none else (h.get? a).map λo=>(a,o)
noncomputable def rest(g h:Heap)(L d:Addr):List (Addr×Obj):=(Xa g h L).filter λp=>decide (p.1≠d)
structure Mod(K:af)(mg:Str->Option Value)(base:Heap):Prop where
 Z9:K.In base
 glob:base.Ns mainGlobals mg
 blt:∃mb,base.Ns builtinsNs mb/\∀x:Str,x≠"__name__" -> mb x=bootBuiltins x
 nolimit:base.NoLimit
structure Cx where
 prog:Program
 w:World
 K:af
 mg:Str->Option Value
 base:Heap
 A:Around
 N:List Str
 s₀:Shared
 H₀:Hp
 env:Env
 outer:List Env
 stack:List Env
 ex:List Addr
 fn:Str->Bool
 calm:Bool
 pn:List (Addr×Obj)
 xe:Value->Shared->Prop
noncomputable def frs(l:List Env):List Addr:=l.filterMap (·.frame)
noncomputable abbrev Cx.fs(X:Cx):List Addr:=frs X.outer
def Vis(sc:Scope)(x:Str):Prop:=sc.names.lookup x=some .local∨sc.names.lookup x=some .cell∨sc.names.lookup x=some .free
def Loc(sc:Scope)(x:Str):Prop:=sc.names.lookup x=some .local∨sc.names.lookup x=some .cell
def Look(env:Env)(h:Heap)(m:Str->Option Value)(x:Str)(u:Value):Prop :=
 (env.kindOf x=some .local/\m x=some u)∨((env.kindOf x=some .cell∨env.kindOf x=some .free)/\∃c,env.cells.lookup x=some c/\h.IsCell c (some u))
structure Cx.Ok(X:Cx):Prop where
 mod:Mod X.K X.mg X.base
 kind:X.env.scope.kind=.function
 glob:X.env.globals=mainGlobals
 blt:X.env.builtins=builtinsNs
 above:X.s₀.heap.objs.size<=X.env.locals
 inj:∀x y c,X.env.cells.lookup x=some c->X.env.cells.lookup y=some c->x=y
 has:∀x,(X.env.kindOf x=some .cell∨X.env.kindOf x=some .free)->∃c,X.env.cells.lookup x=some c
 kH:∀x c,X.fn x=true->X.env.cells.lookup x=some c->X.s₀.heap.objs.size<=c
 hd:X.calm=true->X.A.handled=none
 frames:X.A.frames=some X.stack
 stk:X.stack=X.outer∨(X.stack=X.env::X.outer/\X.env.frame=some X.env.locals)
 exf:∀b∈X.ex,b≠X.env.locals/\∀x c,X.env.cells.lookup x=some c->c≠b
 bs:∀b o,X.base.get? b=some o->X.s₀.heap.get? b=some o/\X.H₀ b=none
 WN:X.base.objs.size<=X.s₀.heap.objs.size
 R4:∀b o,X.base.get? b=some o->b∉X.ex
 Ui:∀b∈X.ex,b∉X.fs
 Cw:X.s₀.heap.FunFrames X.base X.outer
 Y5:∀b∈X.fs,X.H₀ b=none
structure Inv(X:Cx)(pins:List (Addr×Obj))(σ:List (Option V))(H:Hp)(s:Shared):Prop where
 ok:X.Ok
 os:s.os=X.s₀.os
 bare:AllBare s.gens
 base:Un X.fs X.ex X.H₀ H X.s₀.heap s.heap
 loc:∃m,s.heap.Ns X.env.locals m/\∀(i:Nat) (x:Str) (v:V),X.N[i]?=some x->σ[i]?=some (some v)->Vis X.env.scope x->∃u,RelV v u/\Look X.env s.heap m x u
 cell:∀x c,X.env.cells.lookup x=some c->∃v,s.heap.IsCell c v
 free:H X.env.locals=none
 ud:∀x c,X.env.cells.lookup x=some c->H c=none
 pin:∀p∈X.pn++pins,s.heap.get? p.1=some p.2/\H p.1=none/\p.1≠X.env.locals/\p.1∉X.fs/\∀v,p.2.data≠.cell v
 hok:yS X.prog X.w H s.heap
 len:σ.length=X.N.length
section
variable{X:Cx}{pins:List (Addr×Obj)}{σ:List (Option V)}{H H':Hp}{s:Shared}{h':Heap}
theorem Cx.Ok.agr(ok:X.Ok){b:Addr}{o:Obj}(e:X.base.get? b=some o):b∉X.fs:=λa=>by
 have:=(ok.Cw.mem a).1
 rw[e] at this;cases this
theorem Inv.bs(I:Inv X pins σ H s):∀b o,X.base.get? b=some o->s.heap.get? b=some o/\H b=none:=λb o e =>
 ⟨I.base.keep b o (I.ok.bs b o e).1 (I.ok.bs b o e).2 (I.ok.agr e) (I.ok.R4 b o e),I.base.free b o (I.ok.bs b o e).1 (I.ok.bs b o e).2 (I.ok.R4 b o e)⟩
theorem Inv.bk(I:Inv X pins σ H s):∀b o,X.base.get? b=some o->s.heap.get? b=some o:=λb o e=>(I.bs b o e).1
theorem Inv.mod(I:Inv X pins σ H s):Mod X.K X.mg X.base:=I.ok.mod
theorem Inv.Mm(I:Inv X pins σ H s):X.K.In s.heap:=I.ok.mod.Z9.keeps I.bk
theorem Inv.lt(I:Inv X pins σ H s):X.env.locals<s.heap.objs.size:=let ⟨_,a,_⟩:=I.loc;a.lt
theorem Inv.sz(I:Inv X pins σ H s):X.s₀.heap.objs.size<=s.heap.objs.size:=aU I.ok.above (mP I.lt)
theorem Inv.ags(I:Inv X pins σ H s){a:Addr}(h:s.heap.objs.size<=a):a∉X.fs:=λc=>by
 obtain⟨_,o,b,_⟩:=I.ok.Cw.mem c;exact b5 (bF (Heap.lt_size b) (aU I.sz h)) (jf _)
theorem Inv.g4(I:Inv X pins σ H s):∀x c,X.env.cells.lookup x=some c->c≠X.env.locals:=λx c e z=>by
 obtain⟨v,o,f,d⟩:=I.cell x c e;obtain⟨m,⟨g,h,i,a,b,_⟩,_⟩:=I.loc;rw[z,a] at f;cases f;rw[b] at d;cases d
theorem Inv.Cw(I:Inv X pins σ H s):s.heap.FunFrames X.base X.outer:=by
 have c:∀(l:List Env),(∀b∈frs l,b∈X.fs)->X.s₀.heap.FunFrames X.base l->s.heap.FunFrames X.base l:=by
  intro l;induction l with
  |nil=>intro _ _;trivial
  |cons i r m =>
   intro g n;obtain⟨q,⟨L,o,f,j,p,h⟩,k⟩:=n;have a:L∈X.fs:=g L (by unfold frs;rw[dY,f];exact ck);obtain⟨t,e⟩:=I.base.slot L o p (I.ok.Y5 L a) a λz=>I.ok.Ui L z a;exact⟨q,⟨L,_,f,j,e,h⟩,m (λb d=>g b (by unfold frs;rw[dY,f];exact bw _ d)) k⟩
 exact c X.outer (λ_ d=>d) I.ok.Cw
theorem Inv.stack(I:Inv X pins σ H s):s.heap.FunFrames X.base X.stack:=by
 rcases I.ok.stk with e|⟨e,a⟩
 ·rw[e];exact I.Cw
 ·rw[e]
  obtain⟨m,b,_⟩:=I.loc;refine .cons (by rw[I.ok.kind];decide) a b ?_ I.Cw;exact Heap.get?_none_of_le (aU I.ok.WN I.ok.above)
theorem Inv.DG(I:Inv X pins σ H s):∀b∈frs X.stack,b∈X.env.locals::X.fs:=λb a=>by
 rcases I.ok.stk with e|⟨e,c⟩
 ·rw[e] at a;exact bw _ a
 ·rw[e] at a
  unfold frs at a;rw[dY,c] at a;exact a
theorem Inv.KQ(I:Inv X pins σ H s):∀b∈frs X.stack,H b=none:=λb hb=>by
 rcases be.mp (I.DG b hb) with e|hb
 ·rw[e];exact I.free
 ·obtain⟨_,o,a,_⟩:=I.ok.Cw.mem hb
  exact I.base.free b o a (I.ok.Y5 b hb) λz=>I.ok.Ui b z hb
theorem Inv.step{g':Array GenState}{t':Nat}{d':Drawn}{ch:List Addr}(I:Inv X pins σ H s)
 (f:∀b∈ch,(b∈X.ex∨X.s₀.heap.objs.size<=b)/\b≠X.env.locals/\(∀x c,X.env.cells.lookup x=some c->c≠b)/\∀p∈X.pn++pins,p.1≠b)
 (keep:∀b o,b≠X.env.locals->b∉X.fs->b∉ch->s.heap.get? b=some o->H b=none->h'.get? b=some o)
 (slot:∀b o,b≠X.env.locals->b∈X.fs->b∉ch->s.heap.get? b=some o->H b=none->∃K,h'.get? b=some {o with slots:=K}) (free:∀b o,b∉ch->s.heap.get? b=some o->H b=none->H' b=none)
 (there:∀b o,b∉ch->s.heap.get? b=some o->∃F,h'.get? b=some F)
 (tups:∀b y,H b=some (.tup y)->H' b=some (.tup y)) (AW:∀b o u,H b=some (.Ct o u)->H' b=some (.Ct o u)) (Cv:∀b G,H b=some (.Y4 G)->∃E,H' b=some (.Y4 (G++E)))
 (U:∀m,s.heap.Ns X.env.locals m->h'.Ns X.env.locals m) (L:yS X.prog X.w H' h') (V:AllBare g') :
 Inv X pins σ H' {s with heap:=h',gens:=g',drawn:=d',toks:=t'}:=by
 have C:∀b o,X.s₀.heap.get? b=some o->b≠X.env.locals:=λb o e=>bz (bF (Heap.lt_size e) I.ok.above);have t:∀b o,X.s₀.heap.get? b=some o->b∉X.ex->b∉ch:=λb o e a A=>by
  rcases (f b A).1 with z|z
  ·exact a z
  ·exact b5 (bF (Heap.lt_size e) z) (jf _)
 have g:∀x c,X.env.cells.lookup x=some c->∀v,s.heap.IsCell c v->h'.IsCell c v:=λx c e v ⟨o,B,J⟩=>by
  have h:c∉ch:=λz=>(f c z).2.2.1 x c e rfl;by_cases O:c∈X.fs
  ·obtain⟨K,q⟩:=slot c o (I.g4 x c e) O h B (I.ud x c e)
   exact⟨_,q,J⟩
  ·exact⟨o,keep c o (I.g4 x c e) O h B (I.ud x c e),J⟩
 refine⟨I.ok,I.os,V,⟨λb o e n A a=>?_,λb o e n A a=>?_,λb o e n a=>?_,λb o e a=>?_,λb y e=>tups b y (I.base.tups b y e),λb o y e=>AW b o y (I.base.AW b o y e),λb G e=>?_⟩,?_,λx c e=>?_,?_,λx c e=>?_,λp P=>?_,L,I.len⟩
 ·exact keep b o (C b o e) A (t b o e a) (I.base.keep b o e n A a) (I.base.free b o e n a)
 ·obtain⟨K,j⟩:=I.base.slot b o e n A a
  obtain⟨M,D⟩:=slot b _ (C b o e) A (t b o e a) j (I.base.free b o e n a);exact⟨M,D⟩
 ·obtain⟨F,j⟩:=I.base.there b o e a
  exact free b F (t b o e a) j (I.base.free b o e n a)
 ·obtain⟨F,j⟩:=I.base.there b o e a
  exact there b F (t b o e a) j
 ·obtain⟨W,j⟩:=I.base.Cv b G e
  obtain⟨Q,D⟩:=Cv b _ j;exact⟨W++Q,by rw[D,Array.append_assoc]⟩
 ·obtain⟨m,R,T⟩:=I.loc
  refine⟨m,U m R,λi x v j D S=>?_⟩;obtain⟨u,r,l⟩:=T i x v j D S;refine⟨u,r,?_⟩;rcases l with l|⟨k,c,e,z⟩
  ·exact .inl l
  ·exact .inr ⟨k,c,e,g x c e _ z⟩
 ·obtain⟨v,z⟩:=I.cell x c e
  exact⟨v,g x c e v z⟩
 ·obtain⟨m,⟨o,_,_,B,_⟩,_⟩:=I.loc
  exact free _ o (λz=>(f _ z).2.1 rfl) B I.free
 ·obtain⟨v,o,B,J⟩:=I.cell x c e
  exact free c o (λz=>(f c z).2.2.1 x c e rfl) B (I.ud x c e)
 ·obtain⟨e,n,N,nf,d⟩:=I.pin p P
  have h:p.1∉ch:=λz=>(f p.1 z).2.2.2 p P rfl;exact⟨keep p.1 p.2 N nf h e n,free p.1 p.2 h e n,N,nf,d⟩
theorem Inv.un{t':Nat}(I:Inv X pins σ H s)(u:Un X.fs [] H H' s.heap h')(d:yS X.prog X.w H' h'):Inv X pins σ H' {s with heap:=h',toks:=t'}:=by
 obtain⟨m,⟨o,q,l,h,r⟩,_⟩:=id I.loc;obtain⟨p,k⟩:=u.any h I.free (-_);exact I.step (g':=s.gens) (d':=s.drawn) (ch:=[]) (λ_ z=>nomatch z) (λb o _ g _ e n=>u.keep b o e n g (-_)) (λb o _ g _ e n=>u.slot b o e n g (-_)) (λb o _ e n=>u.free b o e n (-_)) (λb o _ e=>u.there b o e (-_)) u.tups u.AW u.Cv (λt i=>by
  obtain⟨v,f,c,a,j⟩:=i;rw[h] at a;cases a;exact⟨_,f,c,k,j⟩) d I.bare
theorem Inv.call{g':Array GenState}{t':Nat}{d':Drawn}{ch:List Addr}(I:Inv X pins σ H s)(u:Un (frs X.stack) ch H H' s.heap h')(h:yS X.prog X.w H' h')(t:AllBare g')
 (d:∀b∈ch,(b∈X.ex∨X.s₀.heap.objs.size<=b)/\b≠X.env.locals/\(∀x c,X.env.cells.lookup x=some c->c≠b)/\∀p∈X.pn++pins,p.1≠b) :
 Inv X pins σ H' {s with heap:=h',gens:=g',drawn:=d',toks:=t'}:=by
 obtain⟨m,⟨o,B,y,k,r⟩,_⟩:=id I.loc;obtain⟨A,i⟩:=u.any k I.free λz=>(d _ z).2.1 rfl;exact I.step (ch:=ch) d (λb o i v a e n=>u.keep b o e n (λz=>(be.mp (I.DG b z)).elim i v) a) (λb o _ _ a e n=>u.any e n a) (λb o a e n=>u.free b o e n a) (λb o a e=>u.there b o e a) u.tups u.AW u.Cv (λC l=>by
  obtain⟨D,j,g,f,q⟩:=l;rw[k] at f;cases f;exact⟨_,j,g,i,q⟩) h t
theorem Inv.turned{t':Nat}{a:Addr}(I:Inv X pins σ H s)(k:∀b o,b≠a->s.heap.get? b=some o->h'.get? b=some o)(j:H a=none)(g:a≠X.env.locals)
 (h:a∈X.ex∨X.s₀.heap.objs.size<=a) (A:∀x c,X.env.cells.lookup x=some c->c≠a) (B:∀p∈X.pn++pins,p.1≠a):Inv X pins σ H {s with heap:=h',toks:=t'}:=by
 have f:∀b u,H b=some u->b≠a:=λb u e z=>by rw[z,j] at e;cases e
 refine I.step (g':=s.gens) (d':=s.drawn) (ch:=[a]) (λb y=>?_) (λb o _ _ d e _=>k b o (λz=>d (by simp[z])) e) (λb o _ _ d e _=>⟨o.slots,k b o (λz=>d (by simp[z])) e⟩) (λ_ _ _ _ n=>n)
  (λb o d e=>⟨o,k b o (λz=>d (by simp[z])) e⟩) (λ_ _ e=>e) (λ_ _ _ e=>e) (λb C e=>⟨#[],by rw[e];simp⟩) (λm t=>?_) (λb u e=>?_) I.bare
 ·have e:b=a:=by simpa using y
  subst e;exact⟨h,g,A,B⟩
 ·obtain⟨o,l,i,w,r⟩:=t
  exact⟨o,l,i,k _ o (bN g) w,r⟩
 ·refine (I.hok b u e).stay (λc v d q=>k c v ?_ q) (λ_ q=>q) λ_ _ q=>q
  rcases d with z|z
  ·rw[z];exact f b u e
  ·exact f c _ z
theorem Inv.tok(I:Inv X pins σ H s)(t:Nat):Inv X pins σ H {s with toks:=t}:=I.un (h':=s.heap) (t':=t) Un.refl I.hok
theorem Inv.kept{t':Nat}(I:Inv X pins σ H s)(k:∀b u,s.heap.get? b=some u->h'.get? b=some u):Inv X pins σ H {s with heap:=h',toks:=t'}:=I.un (Un.kept k) (I.hok.kept k)
theorem Inv.laid{a:Addr}{o:HO}{t':Nat}(I:Inv X pins σ H s)(k:∀b u,s.heap.get? b=some u->h'.get? b=some u)(c:s.heap.objs.size<=a)(d:gU X.prog X.w (upd H a o) h' a o) :
 Inv X pins σ (upd H a o) {s with heap:=h',toks:=t'}:=I.un (Un.laid k c (I.hok.fresh c)) (I.hok.laid k c d)
theorem Inv.write{x e:Addr}{o:HO}{t':Nat}(I:Inv X pins σ H s)(d:ID (H x))(f:e=x∨H e=some (.own x))(k:∀b u,b≠e->s.heap.get? b=some u->h'.get? b=some u)(a:∃u,h'.get? e=some u)
 (c:gU X.prog X.w (upd H x o) h' x o):Inv X pins σ (upd H x o) {s with heap:=h',toks:=t'}:=I.un (Un.write d f k a) (I.hok.write d f k a c)
theorem Inv.Qo{a:List (Addr×Obj)}(I:Inv X pins σ H s)(h:∀p∈a,s.heap.get? p.1=some p.2/\H p.1=none/\p.1≠X.env.locals/\p.1∉X.fs/\∀v,p.2.data≠.cell v):Inv X a σ H s :=
 ⟨I.ok,I.os,I.bare,I.base,I.loc,I.cell,I.free,I.ud,λp b=>(aR.mp b).elim (λz=>I.pin p (eY _ z)) (h p),I.hok,I.len⟩
theorem Mu{N:List Str}(d:N.Nodup){i j:Nat}{x:Str}(a:N[i]?=some x)(b:N[j]?=some x):i=j:=by
 obtain⟨g,c⟩:=ai.mp a;obtain⟨f,e⟩:=ai.mp b;exact (List.getElem_inj d).mp (c.trans e.symm)
theorem JE{M:Model}{A:Around}{E:Value->Shared->Prop}{i:Nat}{x:Str}{v:V}{u:Value}{Q:Unit->Shared->Prop}(I:Inv X pins σ H s)(hN:X.N.Nodup)(J:X.N[i]?=some x)(t:Loc X.env.scope x)(r:RelV v u)
 (h:∀s',Inv X pins (σ.set i (some v)) H s'->(∃a,Heap.SameBut a s.heap s'.heap/\(a=X.env.locals∨X.env.cells.lookup x=some a))->Q () s') (hf:X.fn x=true∨X.env.scope.names.lookup x=some .local:=by first|exact .inl rfl|exact .inr rfl|assumption):wpAny M A (storeName X.env x u) Q E s:=by
 obtain⟨m,Z,hl⟩:=id I.loc;have O:(X.env.scope.kind==.class || (X.env.scope.kind==.module&&X.env.locals != X.env.globals))=false:=by rw[I.ok.kind];rfl
 have R:i<σ.length:=by rw[I.len];exact (ai.mp J).1
 have g4:=I.g4;have g:∀{a:Addr} {h':Heap},(∃o,s.heap.get? a=some o/\H a=none)->Heap.SameBut a s.heap h'->yS X.prog X.w H h':=λ{a h'} ha f b ob e=>by
  obtain⟨_,_,B⟩:=ha;refine (I.hok b ob e).stay (λc T hc q=>(f.2 c ?_).trans q) (λ_ q=>q) λ_ _ q=>q;rintro rfl;rcases hc with rfl|hc
  ·rw[B] at e;cases e
  ·rw[B] at hc;cases hc
 rcases t with hk|hk
 ·refine wpAny_storeName_local hk Z (λh' hn' f=>?_) O
  obtain⟨oL,_,_,W,_⟩:=id Z;refine h _ ⟨I.ok,I.os,I.bare,⟨λb o e n F t=>?_,λb o e n F t=>?_,I.base.free,λb o e t=>?_,I.base.tups,I.base.AW,I.base.Cv⟩,⟨_,hn',λj y v' l C e3=>?_⟩,λy c e=>?_,I.free,I.ud,λp hp=>?_,g ⟨oL,W,I.free⟩ f,by simpa using I.len⟩ ⟨_,f,.inl rfl⟩
  ·exact (f.2 b (bz (bF (Heap.lt_size e) I.ok.above))).trans (I.base.keep b o e n F t)
  ·obtain⟨Y,l⟩:=I.base.slot b o e n F t
   exact⟨Y,(f.2 b (bz (bF (Heap.lt_size e) I.ok.above))).trans l⟩
  ·obtain⟨o',l⟩:=I.base.there b o e t
   exact⟨o',(f.2 b (bz (bF (Heap.lt_size e) I.ok.above))).trans l⟩
  ·by_cases G:j=i
   ·subst G
    rw[J] at l;cases l;rw[List.getElem?_set_self R] at C;cases C;exact⟨u,r,.inl ⟨hk,-_⟩⟩
   ·rw[List.getElem?_set_ne (bN G)] at C
    obtain⟨u',r',q⟩:=hl j y v' l C e3;refine⟨u',r',?_⟩;rcases q with ⟨k,e⟩|⟨k,c,e,z⟩
    ·refine .inl ⟨k,?_⟩
     have:y≠x:=λe=>G (Mu hN l (e▸J))
     simp[this,e]
    ·exact .inr ⟨k,c,e,z.sameBut f (g4 y c e)⟩
  ·obtain⟨T,z⟩:=I.cell y c e
   exact⟨T,z.sameBut f (g4 y c e)⟩
  ·obtain⟨e,n,S,nf,d⟩:=I.pin p hp
   exact⟨(f.2 p.1 S).trans e,n,S,nf,d⟩
 ·have D:X.fn x=true:=by
   rcases hf with z|z
   ·exact z
   ·rw[z] at hk;cases hk
  obtain⟨c,hc⟩:=I.ok.has x (.inl hk);obtain⟨T,z⟩:=I.cell x c hc;refine wpAny_storeName_cell I.ok.kind hk hc z (λh' L f=>?_);obtain⟨oc,K,agt⟩:=id z;refine h {s with heap:=h'} ⟨I.ok,I.os,I.bare,⟨λb o e n F t=>?_,λb o e n F t=>?_,I.base.free,λb o e t=>?_,I.base.tups,I.base.AW,I.base.Cv⟩,⟨m,Z.sameBut f (bN (g4 x c hc)),λj y v' l C e3=>?_⟩,λy U e=>?_,I.free,I.ud,λp hp=>?_,g ⟨oc,K,I.ud x c hc⟩ f,by simpa using I.len⟩ ⟨c,f,.inr hc⟩
  ·exact (f.2 b (bz (bF (Heap.lt_size e) (I.ok.kH x c D hc)))).trans (I.base.keep b o e n F t)
  ·obtain⟨Y,l⟩:=I.base.slot b o e n F t
   exact⟨Y,(f.2 b (bz (bF (Heap.lt_size e) (I.ok.kH x c D hc)))).trans l⟩
  ·obtain⟨o',l⟩:=I.base.there b o e t
   exact⟨o',(f.2 b (bz (bF (Heap.lt_size e) (I.ok.kH x c D hc)))).trans l⟩
  ·by_cases G:j=i
   ·subst G
    rw[J] at l;cases l;rw[List.getElem?_set_self R] at C;cases C;exact⟨u,r,.inr ⟨.inl hk,c,hc,L⟩⟩
   ·rw[List.getElem?_set_ne (bN G)] at C
    obtain⟨u',r',q⟩:=hl j y v' l C e3;refine⟨u',r',?_⟩;rcases q with q|⟨k,U,e,z'⟩
    ·exact .inl q
    ·refine .inr ⟨k,U,e,z'.sameBut f ?_⟩
     rintro rfl;exact G (Mu hN l (I.ok.inj _ _ _ e hc▸J))
  ·by_cases P:U=c
   ·subst P;exact⟨_,L⟩
   ·obtain⟨w2,z2⟩:=I.cell y U e
    exact⟨w2,z2.sameBut f P⟩
  ·obtain⟨e,n,S,nf,d⟩:=I.pin p hp
   refine⟨(f.2 p.1 ?_).trans e,n,S,nf,d⟩;intro q;rw[q,K] at e;have q':oc=p.2:=aI e;exact d T (by rw[<- q'];exact agt)
theorem Cy{M:Model}{A:Around}{E:Value->Shared->Prop}{i:Nat}{x:Str}{v:V}{u:Value}{Q:Unit->Shared->Prop}(I:Inv X pins σ H s)(b:X.N.Nodup)(a:X.N[i]?=some x)(e:Loc X.env.scope x)(r:RelV v u)
 (h:∀s',Inv X pins (σ.set i (some v)) H s'->Q () s') (c:X.fn x=true∨X.env.scope.names.lookup x=some .local:=by first|exact .inl rfl|exact .inr rfl|assumption):wpAny M A (storeName X.env x u) Q E s :=
 JE I b a e r (λs' d _=>h s' d) c
theorem Inv.Y6{s':Shared}{ch:List Addr}(I:Inv X pins σ H s)(f:s'.os=s.os)(u:Un (frs X.stack) ch H H' s.heap s'.heap)(a:yS X.prog X.w H' s'.heap)(h:AllBare s'.gens)
 (d:∀b∈ch,(b∈X.ex∨X.s₀.heap.objs.size<=b)/\b≠X.env.locals/\(∀x c,X.env.cells.lookup x=some c->c≠b)/\∀p∈X.pn++pins,p.1≠b):Inv X pins σ H' s':=by
 obtain⟨h',g',d',t',g⟩:=s';have e:g=s.os:=f;subst e;exact I.call (g':=g') (t':=t') (d':=d') u a h d
end
abbrev XK:=Value->Option Addr->Hp->Prop
abbrev St:=List (Option V)
abbrev VK:=V->Hp->Prop
abbrev TE:=St->Hp->VK->Prop
abbrev TT:=St->Hp->(Bool->Hp->Prop)->Prop
abbrev TA:=St->Hp->(List V->Hp->Prop)->Prop
structure Ends where
 nx:St->Hp->Prop
 rt:VK
 bk:St->Hp->Prop:=λ_ _=>False
 ct:St->Hp->Prop:=λ_ _=>False
abbrev TS:=Ends->St->Hp->Prop
inductive EP(X:Cx)(pins:List (Addr×Obj))(σ:St)(Q:VK)(u:Value)(s':Shared):Prop
 |mk (v:V) (H':Hp) (a:Inv X pins σ H' s') (b:RelV v u) (c:Q v H'):EP X pins σ Q u s'
inductive TP(X:Cx)(pins:List (Addr×Obj))(σ:St)(Q:Bool->Hp->Prop)(b:Bool)(s':Shared):Prop
 |mk (H':Hp) (a:Inv X pins σ H' s') (c:Q b H'):TP X pins σ Q b s'
inductive AP(X:Cx)(pins:List (Addr×Obj))(σ:St)(Q:List V->Hp->Prop)(us:List Value)(s':Shared):Prop
 |mk (vs:List V) (H':Hp) (a:Inv X pins σ H' s') (b:cD vs us) (c:Q vs H'):AP X pins σ Q us s'
def SP(X:Cx)(pins:List (Addr×Obj))(D:Ends)(f:Flow)(s':Shared):Prop :=
 match f with
 |.next=>∃σ' H',Inv X pins σ' H' s'/\D.nx σ' H'
 |.brk=>∃σ' H',Inv X pins σ' H' s'/\D.bk σ' H'
 |.cont=>∃σ' H',Inv X pins σ' H' s'/\D.ct σ' H'
 |.ret u=>∃v σ' H',Inv X pins σ' H' s'/\RelV v u/\D.rt v H'
def PE(X:Cx)(e:Expr)(t:TE):Prop :=
 ∀(pins:List (Addr×Obj)) (s:Shared) (σ:St) (H:Hp) (Q:VK),Inv X pins σ H s->t σ H Q->wpAny (model X.prog X.w) X.A (eval e X.env) (EP X pins σ Q) X.xe s
def PT(X:Cx)(e:Expr)(t:TT):Prop :=
 ∀(pins:List (Addr×Obj)) (s:Shared) (σ:St) (H:Hp) (Q:Bool->Hp->Prop),Inv X pins σ H s->t σ H Q->wpAny (model X.prog X.w) X.A (isTrue e X.env (eval e X.env)) (TP X pins σ Q) X.xe s
def PW(X:Cx)(e:Expr)(t:TT):Prop :=
 ∀(whole:Sem Value) (pins:List (Addr×Obj)) (s:Shared) (σ:St) (H:Hp) (Q:Bool->Hp->Prop),Inv X pins σ H s->t σ H Q->wpAny (model X.prog X.w) X.A (isTrue e X.env whole) (TP X pins σ Q) X.xe s
theorem PW.pt{X:Cx}{e:Expr}{t:TT}(h:PW X e t):PT X e t:=h _
def PA(X:Cx)(es:List Expr)(t:TA):Prop :=
 ∀(pos:Pos) (pins:List (Addr×Obj)) (s:Shared) (σ:St) (H:Hp) (Q:List V->Hp->Prop),Inv X pins σ H s->t σ H Q->wpAny (model X.prog X.w) X.A (spliced (backTo pos (starEach es X.env))) (AP X pins σ Q) X.xe s
def PS(X:Cx)(st:Stmt)(t:TS):Prop :=
 ∀(pins:List (Addr×Obj)) (s:Shared) (σ:St) (H:Hp) (D:Ends),Inv X pins σ H s->t D σ H->wpAny (model X.prog X.w) X.A (exec st X.env) (SP X pins D) X.xe s
def iR(X:Cx)(st:List Stmt)(t:TS):Prop :=
 ∀(pins:List (Addr×Obj)) (s:Shared) (σ:St) (H:Hp) (D:Ends),Inv X pins σ H s->t D σ H->wpAny (model X.prog X.w) X.A (execs st X.env) (SP X pins D) X.xe s
theorem gV{α:Type}{t:Sem α}{Q b:α->Shared->Prop}{M:Model}{A:Around}{E:Value->Shared->Prop}{s:Shared}(h:wpAny M A t Q E s)(c:∀a s,Q a s->b a s):wpAny M A t b E s:=wpAny_mono h c λ_ _ x=>x
section
variable{X:Cx}
inductive Bv(i:Nat)(σ:St)(H:Hp)(Q:VK):Prop
 |mk (v:V) (a:σ[i]?=some (some v)) (b:Q v H):Bv i σ H Q
def tC(v:V):TE:=λ_ H Q=>Q v H
theorem aab{i:Nat}{x:Str}{j:Pos}(o:X.N[i]?=some x)(q:Vis X.env.scope x)(g:(x==("__debug__" : Str))=false:=by decide)(f:(x==("__classdict__" : Str))=false:=by decide):PE X (.Name x j) (Bv i):=by
 intro d s n H Q I h;obtain⟨v,e,h⟩:=h;obtain⟨m,p,w⟩:=I.loc;obtain⟨u,r,l⟩:=w i x v o e q;have b:EP X d n Q u s:=⟨v,H,I,r,h⟩;rcases l with ⟨hk,t⟩|⟨hk,c,k,a⟩
 ·exact wpAny_Name (wpAny_loadName_local I.ok.kind hk p t b) g
 ·rcases hk with hk|hk
  ·exact wpAny_Name (wpAny_loadName_cell I.ok.kind hk k a b) g
  ·exact wpAny_Name (wpAny_loadName_free I.ok.kind hk k a b f) g
theorem aE{i j pos}:PE X (.Constant (.int i) j pos) (tC (.int i)):=λ_ _ _ H _ I h=>wpAny_Constant_int ⟨.int i,H,I.tok _,⟨_,rfl⟩,h⟩
theorem Qp{b j pos}:PE X (.Constant (.bool b) j pos) (tC (.bl b)):=λ_ _ _ H _ I h=>Constant_bool ⟨.bl b,H,I,rfl,h⟩
theorem om{j pos}:PE X (.Constant .none j pos) (tC .fM):=λ_ _ _ H _ I h=>Constant_none ⟨.fM,H,I,rfl,h⟩
theorem sf{x j pos}:PE X (.Constant (.str x) j pos) (tC (.str x)):=λ_ _ _ H _ I h=>Calls.Constant_str ⟨.str x,H,I.tok _,⟨_,rfl⟩,h⟩
def Gl(X:Cx)(x:Str):Prop:=X.env.kindOf x=some .globalImplicit
theorem Cz{E:Value->Shared->Prop}{a:List (Addr×Obj)}{s:Shared}{f:St}{H:Hp}{x:Str}{u:Value}{b:Pos}{Q:Value->Shared->Prop}(I:Inv X a f H s)(e:Gl X x)(d:X.mg x=some u)(h:Q u s)
 (c:(x==("__debug__" : Str))=false:=by decide):wpAny (model X.prog X.w) X.A (eval (.Name x b) X.env) Q E s :=
 Calls.Name_function_global I.ok.kind e (Calls.loadGlobal_global (by rw[I.ok.glob];exact I.mod.glob.keeps I.bk) d h) c
theorem KR{E:Value->Shared->Prop}{a:List (Addr×Obj)}{s:Shared}{c:St}{H:Hp}{x:Str}{u:Value}{b:Pos}{Q:Value->Shared->Prop}(I:Inv X a c H s)(j:Gl X x)(i:X.mg x=none)(g:bootBuiltins x=some u)(h:Q u s)
 (f:x≠"__name__" := by decide) (e:(x==("__debug__" : Str))=false:=by decide):wpAny (model X.prog X.w) X.A (eval (.Name x b) X.env) Q E s:=by
 obtain⟨l,d,k⟩:=I.mod.blt;exact Calls.Name_function_global I.ok.kind j (Calls.loadGlobal_builtin (by rw[I.ok.glob];exact I.mod.glob.keeps I.bk) i (by rw[I.ok.blt];exact d.keeps I.bk) ((k x f).trans g) h) e
theorem mU{x:Str}{v:V}{u:Value}{a:Pos}(d:Gl X x)(c:X.mg x=some u)(r:RelV v u)(b:(x==("__debug__" : Str))=false:=by decide):PE X (.Name x a) (tC v) :=
 λ_ _ _ H _ I h=>Cz I d c ⟨v,H,I,r,h⟩ b
variable{a b:Expr}{ta tb:TE}{pos:Pos}
def PC(X:Cx)(op:CmpOp)(a b:Expr)(t:TE):Prop :=
 ∀(pins:List (Addr×Obj)) (s:Shared) (σ:St) (H:Hp) (Q:VK),Inv X pins σ H s->t σ H Q ->
  wpAny (model X.prog X.w) X.A (eval a X.env) (λv s₁=>wpAny (model X.prog X.w) X.A (eval b X.env) (λu s₂=>wpAny (model X.prog X.w) X.A (compareOp op v u) (EP X pins σ Q) X.xe s₂) X.xe s₁) X.xe s
inductive BlR(Q:Bool->Hp->Prop)(x:V)(H1:Hp):Prop
 |mk (c:Bool) (a:x=.bl c) (b:Q c H1):BlR Q x H1
def tB(t:TE):TT:=λσ H Q=>t σ H (BlR Q)
theorem aac{op:CmpOp}{t:TE}(h:PC X op a b t)(f:behindInMarks op b=false:=by first|exact acU _ (!_) (!_)|rfl):PT X (.Compare a [op] [b] pos) (tB t):=by
 intro e s g H Q I j;refine wpAny_isTrue_Compare1 (gV (h e s g H _ I j) λv o f=>gV f λu p n=>gV n λc r ⟨x,i,m,k,l⟩=>?_) f;obtain⟨d,rfl,q⟩:=l;cases k;exact wpAny_truthy_bool ⟨i,m,q⟩
theorem Bw{e:Expr}{t:TE}(h:PE X e t)(l:∀a,isTrue e X.env a=(do let v <- a;standAt e.pos;holding [v] (truthy v)):=by intro _;rfl):PT X e (tB t):=by
 intro b s c H Q I g;refine isTrue_plain (gV (h b s c H _ I g) λv m ⟨x,f,k,i,j⟩=>?_) (l _);obtain⟨d,rfl,q⟩:=j;cases i;exact wpAny_truthy_bool ⟨f,k,q⟩
variable{tA xX:TT}{rest:List Expr}
def agv(t u:TT):TT:=λσ H Q=>t σ H λc H1=>if c=true then u σ H1 Q else Q false H1
def tOr(t u:TT):TT:=λσ H Q=>t σ H λc H1=>if c=true then Q true H1 else u σ H1 Q
def agw(t:TT):TT:=λσ H Q=>t σ H λc H1=>Q (!c) H1
theorem KS(d:PT X a tA):PW X (.BoolOp .And [a] pos) tA:=by
 intro i b s f H Q I h;refine isTrue_and (gV (d b s f H Q I h) λc g e=>?_);cases c with
 |true=>exact isTrue_and_nil e
 |false=>exact e
theorem aad(d:PT X a tA):PW X (.BoolOp .Or [a] pos) tA:=by
 intro i b s f H Q I h;refine isTrue_or (gV (d b s f H Q I h) λc g e=>?_);cases c with
 |false=>exact isTrue_or_nil e
 |true=>exact e
theorem KU(k:PT X a tA)(m:PW X (.BoolOp .And (b::rest) pos) xX):PW X (.BoolOp .And (a::b::rest) pos) (agv tA xX):=by
 intro l d s e H Q I h;refine isTrue_and (gV (k d s e H _ I h) λc j ⟨f,i,g⟩=>?_);cases c with
 |true=>exact m l d j e f Q i g
 |false=>exact⟨f,i,g⟩
theorem acV(k:PT X a tA)(m:PW X (.BoolOp .Or (b::rest) pos) xX):PW X (.BoolOp .Or (a::b::rest) pos) (tOr tA xX):=by
 intro l d s e H Q I h;refine isTrue_or (gV (k d s e H _ I h) λc j ⟨f,i,g⟩=>?_);cases c with
 |true=>exact⟨f,i,g⟩
 |false=>exact m l d j e f Q i g
theorem lR(f:PT X a tA):PT X (.UnaryOp .Not a pos) (agw tA):=by
 intro b s i H Q I h;exact isTrue_not (gV (f b s i H (λc d=>Q (!c) d) I h) λ_ _ ⟨d,e,g⟩=>⟨d,e,g⟩)
def acW(ta tb:TE):TE:=λσ H Q=>ta σ H λx H1=>∃c,x=.bl c/\if c=true then tb σ H1 Q else Q (.bl false) H1
theorem aae{op}{t:TE}(h:PE X a t):PE X (.BoolOp op [a] pos) t:=λb s c H Q I d=>BoolOp_one (h b s c H Q I d)
theorem Uj(l:PE X a ta)(m:PE X (.BoolOp .And (b::rest) pos) tb):PE X (.BoolOp .And (a::b::rest) pos) (acW ta tb):=by
 intro d s f H Q I h;refine BoolOp_and (gV (l d s f H _ I h) λv j ⟨x,g,i,k,e⟩=>?_);obtain⟨c,rfl,e⟩:=e;cases k;refine wpAny_truthy_bool ?_;cases c with
 |true=>exact m d j f g Q i e
 |false=>exact⟨.bl false,g,i,rfl,e⟩
def tIf(t:TT)(ta tb:TE):TE:=λσ H Q=>t σ H λc H1=>if c=true then ta σ H1 Q else tb σ H1 Q
theorem vK{c:Expr}(n:PT X c tA)(m:PE X a ta)(l:PE X b tb):PE X (.IfExp c a b pos) (tIf tA ta tb):=by
 intro e s f H Q I h;refine wpAny_IfExp (gV (n e s f H _ I h) λd g ⟨i,j,k⟩=>?_);cases d with
 |true=>exact m e g f i Q j k
 |false=>exact l e g f i Q j k
end
def bQ(K:af)(H:Hp)(a:Addr)(xs:List V):Prop :=
 Rd H a (.lst xs) ∨
  ∃(o:Obj) (its:Array Value) (n:Nat),K.lookup a=some o/\o.cls=.type "list" /\ o.dict=none/\o.data=.seq its n/\its.size<=sizeLine/\cD xs its.toList
def c7(K:af)(H:Hp)(a:Addr)(xs:List V):Prop :=
 Rd H a (.tup xs) ∨
  ∃(o:Obj) (its:Array Value) (n:Nat),K.lookup a=some o/\o.cls=.type "tuple" /\ o.data=.seq its n/\its.size<=sizeLine/\cD xs its.toList
noncomputable def agx:Value->Option V
 |.none=>some .fM
 |.bool b=>some (.bl b)
 |.int i _=>some (.int i)
 |.str x _=>some (.str x)
 |.bytes b _=>some (.Qn b)
 |.float b _=>some (.Iu b)
 |.ref a=>some (.ref a)
 |.type n=>some (.ty n)
 |_=>none
theorem RelV.abs{x:V}{u:Value}(r:RelV x u):agx u=some x:=by
 cases x with
 |fM=>cases r;rfl
 |bl _=>cases r;rfl
 |int _=>obtain⟨t,rfl⟩:=r;rfl
 |str _=>obtain⟨t,rfl⟩:=r;rfl
 |Qn _=>obtain⟨t,rfl⟩:=r;rfl
 |Iu _=>obtain⟨t,rfl⟩:=r;rfl
 |ref _=>cases r;rfl
 |ty _=>cases r;rfl
theorem RelV.inj{x y:V}{u:Value}(r:RelV x u)(q:RelV y u):x=y:=aI (r.abs.symm.trans q.abs)
theorem cD.inj:∀{xs a:List V} {us:List Value},cD xs us->cD a us->xs=a
 |_,_,_,.nil,.nil=>rfl
 |_,_,_,.cons r t,.cons b t'=>by rw[r.inj b,cD.inj t t']
section
variable{X:Cx}{pins:List (Addr×Obj)}{σ:St}{H:Hp}{s:Shared}{a:Addr}{xs ys:List V}
theorem bQ.of{K:af}(h:H a=some (.lst xs)):bQ K H a xs:=.inl (.inl h)
theorem c7.of{K:af}(h:H a=some (.tup xs)):c7 K H a xs:=.inl (.inl h)
theorem Inv.list(I:Inv X pins σ H s)(h:bQ X.K H a xs):∃b:List Value,cD xs b/\PlainL s.heap a b.toArray/\xs.length<=sizeLine:=by
 rcases h with h|⟨o,b,n,g,f,c,d,i,r⟩
 ·obtain⟨z,b,n,r,e⟩:=h.ok I.hok
  exact⟨b,r,⟨_,n,e,rfl,rfl,rfl⟩,z⟩
 ·refine⟨b.toList,r,⟨o,n,I.Mm a o g,f,c,by simpa using d⟩,?_⟩
  have e:=r.length;simp only[aW] at e;lia
theorem Inv.tuple(I:Inv X pins σ H s)(h:c7 X.K H a xs):∃b:List Value,cD xs b/\IsTup s.heap a b.toArray/\xs.length<=sizeLine:=by
 rcases h with h|⟨o,b,n,f,d,c,g,r⟩
 ·obtain⟨z,b,r,p⟩:=h.ok I.hok
  exact⟨b,r,p,z⟩
 ·refine⟨b.toList,r,⟨o,I.Mm a o f,d,n,by simpa using c⟩,?_⟩
  have e:=r.length;simp only[aW] at e;lia
theorem Inv.Mv(I:Inv X pins σ H s)(h:bQ X.K H a xs)(h':bQ X.K H a ys):xs=ys:=by
 obtain⟨c,r,⟨o,n,e,_,_,d⟩,_⟩:=I.list h;obtain⟨b,i,⟨k,j,g,_,_,f⟩,_⟩:=I.list h';rw[e] at g;cases g;rw[d] at f;injection f with d1 _
 have:c=b:=by simpa using er Array.toList d1
 subst this;exact r.inj i
theorem Inv.R6(I:Inv X pins σ H s)(h:c7 X.K H a xs)(h':c7 X.K H a ys):xs=ys:=by
 obtain⟨c,r,⟨o,e,_,n,d⟩,_⟩:=I.tuple h;obtain⟨b,i,⟨k,g,_,j,f⟩,_⟩:=I.tuple h';rw[e] at g;cases g;rw[d] at f;injection f with d1 _
 have:c=b:=by simpa using er Array.toList d1
 subst this;exact r.inj i
end
noncomputable abbrev Cx.IE(X:Cx)(E:Value->Shared->Prop):Cx:={X with xe:=E}
noncomputable abbrev Cx.Y7(X:Cx):Cx:=X.IE λ_ _=>False
theorem Cx.Ok.IE{X:Cx}(ok:X.Ok)(E:Value->Shared->Prop):(X.IE E).Ok :=
 ⟨ok.mod,ok.kind,ok.glob,ok.blt,ok.above,ok.inj,ok.has,ok.kH,ok.hd,ok.frames,ok.stk,ok.exf,ok.bs,ok.WN,ok.R4,ok.Ui,ok.Cw,ok.Y5⟩
theorem Cx.Ok.yU{X:Cx}{E:Value->Shared->Prop}(ok:(X.IE E).Ok):X.Ok :=
 ⟨ok.mod,ok.kind,ok.glob,ok.blt,ok.above,ok.inj,ok.has,ok.kH,ok.hd,ok.frames,ok.stk,ok.exf,ok.bs,ok.WN,ok.R4,ok.Ui,ok.Cw,ok.Y5⟩
section
variable{X:Cx}{pins:List (Addr×Obj)}{σ:St}{H:Hp}{s:Shared}{E:Value->Shared->Prop}
theorem Inv.IE(I:Inv X pins σ H s)(E:Value->Shared->Prop):Inv (X.IE E) pins σ H s:=⟨I.ok.IE E,I.os,I.bare,I.base,I.loc,I.cell,I.free,I.ud,I.pin,I.hok,I.len⟩
theorem Inv.yU(I:Inv (X.IE E) pins σ H s):Inv X pins σ H s:=⟨I.ok.yU,I.os,I.bare,I.base,I.loc,I.cell,I.free,I.ud,I.pin,I.hok,I.len⟩
theorem SP.yU{D:Ends}{f:Flow}{s':Shared}(h:SP (X.IE E) pins D f s'):SP X pins D f s':=by
 cases f with
 |next=>obtain⟨a,b,I,q⟩:=h;exact⟨a,b,I.yU,q⟩
 |brk=>obtain⟨a,b,I,q⟩:=h;exact⟨a,b,I.yU,q⟩
 |cont=>obtain⟨a,b,I,q⟩:=h;exact⟨a,b,I.yU,q⟩
 |ret u=>obtain⟨v,a,b,I,r,q⟩:=h;exact⟨v,a,b,I.yU,r,q⟩
theorem iR.Y7{st:List Stmt}{t:TS}(h:iR X.Y7 st t):iR X st t:=λpins s σ H D I a =>
 wpAny_mono (h pins s σ H D (I.IE _) a) (λ_ _ q=>q.yU) λ_ _ z=>jQ z
end
section
variable{X:Cx}{st:Stmt}{rest:List Stmt}{t u:TS}{e:Expr}{te:TE}{pos:Pos}
def acX:TS:=λD σ H=>D.nx σ H
def Uk(t u:TS):TS:=λD σ H=>t {D with nx:=u D} σ H
theorem bB:iR X [] acX:=λ_ _ a H _ I h=>wpAny_execs_nil ⟨a,H,I,h⟩
theorem av(e:PS X st t)(i:iR X rest u):iR X (st::rest) (Uk t u):=by
 intro a s c H D I h;refine wpAny_execs_cons (gV (e a s c H {D with nx:=u D} I h) λf g q=>?_);cases f with
 |next =>
  obtain⟨b,j,d,q⟩:=q;exact i a g b j D d q
 |ret v=>exact q
 |brk=>exact q
 |cont=>exact q
theorem bL(c:PS X st t):iR X [st] t:=by
 intro a s b H D I h;refine wpAny_execs_cons (gV (c a s b H D I h) λf d q=>?_);cases f with
 |next=>exact wpAny_execs_nil q
 |ret v=>exact q
 |brk=>exact q
 |cont=>exact q
theorem Inv.quiet{a:List (Addr×Obj)}{b:St}{H:Hp}{s:Shared}(I:Inv X a b H s):interactive X.env=false:=by simp[interactive,I.ok.kind]
def Y8(te:TE):TS:=λD σ H=>te σ H λ_ H1=>D.nx σ H1
theorem dm(g:PE X e te)(hs:swapsWith e none pos.line X.env=pure false:=by rfl):PS X (.Expr e pos) (Y8 te):=by
 intro a s b H D I h;exact wpAny_Expr_any (gV (g a s b H _ I h) λv i ⟨x,c,d,j,f⟩=>⟨b,c,d,f⟩) I.quiet hs
def Xb(te:TE):TS:=λD σ H=>te σ H D.rt
theorem Ul(i:PE X e te):PS X (.Return (some e) pos) (Xb te):=by
 intro a s b H D I h;exact wpAny_Return_some (gV (i a s b H _ I h) λv j ⟨x,c,d,f,g⟩=>⟨x,b,c,d,f,g⟩)
def R7(c:TT)(t u:TS):TS:=λD σ H=>c σ H λb H1=>if b=true then t D σ H1 else u D σ H1
theorem cT{c:Expr}{a b:List Stmt}{j:TT}(m:PT X c j)(n:iR X a t)(o:iR X b u):PS X (.If c a b pos) (R7 j t u):=by
 intro e s f H D I h;refine wpAny_If (gV (m e s f H _ I h) λd g ⟨i,l,k⟩=>?_);cases d with
 |true=>exact n e g f i D l k
 |false=>exact o e g f i D l k
def aaf:TS:=λ_ _ _=>False
theorem dS{a:List Stmt}:iR X a aaf:=λ_ _ _ _ _ _ h=>h.elim
end
abbrev TG:=V->St->Hp->(St->Hp->Prop)->Prop
abbrev g9:=List V->St->Hp->(St->Hp->Prop)->Prop
def PG(X:Cx)(target:Expr)(t:TG):Prop :=
 ∀(pins:List (Addr×Obj)) (s:Shared) (σ:St) (H:Hp) (v:V) (u:Value) (Q:St->Hp->Prop),Inv X pins σ H s->RelV v u->t v σ H Q ->
  wpAny (model X.prog X.w) X.A (assign target X.env u) (λ_ s'=>∃σ' H',Inv X pins σ' H' s'/\Q σ' H') X.xe s
def lB(X:Cx)(ts:List Expr)(t:g9):Prop :=
 ∀(pins:List (Addr×Obj)) (s:Shared) (σ:St) (H:Hp) (vs:List V) (us:List Value) (Q:St->Hp->Prop),Inv X pins σ H s->cD vs us->t vs σ H Q ->
  wpAny (model X.prog X.w) X.A (assignInOrder ((assignEach ts X.env).map (·.2)) us) (λ_ s'=>∃σ' H',Inv X pins σ' H' s'/\Q σ' H') X.xe s
abbrev aah:=V->V->V->Hp->(Hp->Prop)->Prop
def acY(X:Cx)(t:aah):Prop :=
 ∀(pins:List (Addr×Obj)) (s:Shared) (σ:St) (H:Hp) (o i v:V) (ov iv u:Value) (Q:Hp->Prop),Inv X pins σ H s->RelV o ov->RelV i iv->RelV v u->t o i v H Q ->
  wpAny (model X.prog X.w) X.A (setItem ov iv u) (λ_ s'=>∃H',Inv X pins σ H' s'/\Q H') X.xe s
section
variable{X:Cx}{pos:Pos}
def iB(i:Nat):TG:=λv σ H Q=>Q (σ.set i (some v)) H
theorem Qq{i:Nat}{x:Str}(b:X.N.Nodup)(e:X.N[i]?=some x)(f:Loc X.env.scope x)(c:X.fn x=true∨X.env.scope.names.lookup x=some .local:=by first|exact .inl rfl|exact .inr rfl|assumption):PG X (.Name x pos) (iB i):=by
 intro a s g H v u Q I r h;exact wpAny_assign_Name (Cy I b e f r (λj d=>⟨_,H,d,h⟩) c)
def agy:g9:=λvs σ H Q=>vs=[]/\Q σ H
inductive Y9(t:TG)(u:g9)(vs:List V)(σ:St)(H:Hp)(Q:St->Hp->Prop):Prop
 |mk (v:V) (r:List V) (a:vs=v::r) (b:t v σ H λσ' H'=>u r σ' H' Q):Y9 t u vs σ H Q
theorem KW:lB X [] agy:=by
 intro a s b H d c Q I r h;obtain⟨e,h⟩:=h;subst e;cases r;exact assignInOrder_nil ⟨b,H,I,h⟩
theorem vL{e:Expr}{b:List Expr}{t:TG}{u:g9}(g:PG X e t)(n:lB X b u)
 (hs:(assignEach (e::b) X.env).map (·.2)=assign e X.env::(assignEach b X.env).map (·.2):=by rfl):lB X (e::b) (Y9 t u):=by
 intro a s f H o q Q I r h;obtain⟨v,p,k,h⟩:=h;subst k;cases r with
 |cons r d =>
  rw[hs];refine assignInOrder_cons (gV (g a s f H _ _ _ I r h) λ_ i ⟨c,j,m,l⟩=>?_);exact n a i c j _ _ Q m d l
inductive aai(K:af)(n:Nat)(t:g9)(v:V)(σ:St)(H:Hp)(Q:St->Hp->Prop):Prop
 |mk (a:Addr) (xs:List V) (h1:v=.ref a) (h2:c7 K H a xs) (h3:xs.length=n) (h4:t xs σ H Q):aai K n t v σ H Q
theorem Um{d:List Expr}{k:Nat}{t:g9}{n:Nat}(l:X.calm=true)(h:lB X d t)
 (p:(assignEach d X.env).length=n:=by rfl) (g:(assignEach d X.env).findIdx? (·.1)=none:=by rfl):PG X (.Tuple d k pos) (aai X.K n t):=by
 intro c s i H v u Q I r f;obtain⟨a,x,y,C,z,f⟩:=f;subst y;cases r;obtain⟨w,j,A,D⟩:=I.tuple C;refine assign_Tuple_tuple (I.ok.hd l) A (by simp[p,<- z,j.length]) g λm q=>?_;have B:Inv X c i H {s with heap:=m}:=I.kept (t':=s.toks) λb o e=>q b o (bz (Heap.lt_size e)) e;exact h c _ i H x _ Q B (by simpa using j) f
def agz(to ti:TE)(t:aah):TG:=λv σ H Q=>to σ H λo H1=>ti σ H1 λi H2=>t o i v H2 λH3=>Q σ H3
theorem KY{o i:Expr}{to e:TE}{t:aah}(B:PE X o to)(g:PE X i e)(hs:acY X t)
 (w:∀v,assign (.Subscript o i pos) X.env v=(do
  let b <- holding [v] (eval o X.env);let c <- holding [v,b] (eval i X.env)
  standAt pos
  holding [v,b,c] (setItem b c v)
  release [v,b,c] []):=by intro _;rfl):PG X (.Subscript o i pos) (agz to e t):=by
 intro a s d H v u Q I r h;rw[w];refine wpAny_bind (wpAny_holding (gV (B a s d H _ I h) λb k ⟨x,m,D,p,q⟩=>?_));refine wpAny_bind (wpAny_holding (gV (g a k d m _ D q) λc l ⟨y,f,A,j,n⟩=>?_));refine wpAny_bind (wpAny_standAt (wpAny_bind (wpAny_holding (gV (hs a l d f x y v b c u _ A p j r n) λ_ F ⟨C,E,z⟩=>?_))));exact wpAny_release ⟨d,C,E,z⟩
def Xc(te:TE)(g:TG):TS:=λD σ H=>te σ H λx H1=>g x σ H1 D.nx
theorem KZ{b e:Expr}{d:TE}{g:TG}(p:PE X e d)(o:PG X b g)(hs:swapsWithSole [b] e pos.line X.env=pure false:=by rfl)(k:swappedStores [b] e X.env=pure none:=by rfl)
 (f:(assignEach [b] X.env).map (·.2)=[assign b X.env]:=by rfl):PS X (.Assign [b] e pos) (Xc d g):=by
 intro a s c H D I h;refine wpAny_Assign_stores (gV (p a s c H _ I h) λv i ⟨x,j,n,l,m⟩=>?_) hs k;rw[f];exact gV (o a i c j x v _ n l m) λ_ r q=>q
theorem aaj{i:Nat}{x:Str}{e:Expr}{c:TE}{a:Pos}(j:X.N.Nodup)(f:X.N[i]?=some x)(k:Loc X.env.scope x)(q:PE X e c)(hs:swapsWith e (some (.Name x a)) pos.line X.env=pure false:=by rfl)(p:X.fn x=true∨X.env.scope.names.lookup x=some .local:=by first|exact .inl rfl|exact .inr rfl|assumption) :
 PS X (.Assign [.Name x a] e pos) (Xc c (iB i)):=by
 intro b s d H D I h;refine wpAny_Assign_Name (gV (q b s d H _ I h) λv r ⟨y,g,o,l,m⟩=>?_) hs;exact Cy o j f k l (λt n=>⟨_,g,n,m⟩) p
def agA(i j:Nat)(ta:TA):TS:=λD σ H=>ta σ H λvs H1=>∃v w,vs=[v,w]/\D.nx ((σ.set i (some v)).set j (some w)) H1
theorem aak{i j:Nat}{x y:Str}{a b:Expr}{J:TA}{n t r:Pos}{kt k2 Wi}(L:X.calm=true)(E:X.N.Nodup)(M:X.N[i]?=some x)(hj:X.N[j]?=some y)(u:i≠j)
 (G:X.env.scope.names.lookup x=some .local) (F:X.env.scope.names.lookup y=some .local) (S:PA X [a,b] J)
 (P:swappedStores [.Tuple [.Name x n,.Name y t] kt r] (.Tuple [a,b] k2 Wi) X.env=pure (some [x,y]))
 (hs:swapsWithSole [.Tuple [.Name x n,.Name y t] kt r] (.Tuple [a,b] k2 Wi) pos.line X.env=pure false:=by rfl) :
 PS X (.Assign [.Tuple [.Name x n,.Name y t] kt r] (.Tuple [a,b] k2 Wi) pos) (agA i j J):=by
 intro c s z H D I h;rw[exec_Assign_arm];refine wpAny_bind (wpAny_standAt ?_);rw[hs];refine wpAny_bind (wpAny_pure ?_);rw[b3 (!_)];refine wpAny_bind (Tuple_ (gV (S _ c s z H _ I h) λW g ⟨vs,C,V,Q,m⟩=>?_));obtain⟨v,w,R,m⟩:=m;subst R;obtain⟨d,f,rfl,O,k⟩:∃d f,W=[d,f]/\RelV v d/\RelV w f:=by
  cases Q with
  |cons p q =>
   cases q with
   |cons K T =>
    cases T;exact⟨_,_,rfl,p,K⟩
 refine wpAny_newObj_type ?_ e8;have U:Inv X c z C {g with heap:=g.heap.push {cls:=.type "tuple",data:=.seq [d,f].toArray}}:=V.kept (t':=g.toks) λb o e=>Heap.get?_push_of_some _ e;rw[P];refine wpAny_bind (wpAny_pure ?_);show wpAny (model X.prog X.w) X.A (do rule "assign.swapped-stores";let items <- unpackItems (.ref g.heap.objs.size) 2 none;assignInOrder [λv=>bindName X.env y v,λv=>bindName X.env x v] items.reverse;pure Flow.next) _ _ _;refine wpAny_bind (wpAny_rule (wpAny_bind (unpackItems_tuple (items:=#[d,f]) (I.ok.hd L) (IsTup.new g.heap _) λh' l=>?_)));have Z:=U.kept (h':=h') (t':=g.toks) λb o e=>l b o (bz (Heap.lt_size e)) e;show wpAny _ _ (assignInOrder [λv=>bindName X.env y v,λv=>bindName X.env x v] [f,d] >>= λ_=>pure Flow.next) _ _ _;refine wpAny_bind (assignInOrder_cons (wpAny_bindName (Cy Z E hj (.inl F) k (λs2 Y=>?_) (.inr F))));refine assignInOrder_cons (wpAny_bindName (Cy Y E M (.inl G) O (λs3 B=>assignInOrder_nil (wpAny_pure ?_)) (.inr G)));rw[List.set_comm _ _ (bN u)] at B;exact⟨_,C,B,m⟩
def Uo(c:TT)(tb:TS):TS:=λD σ H=>∃W:Nat->St->Hp->Prop,(∃m,W m σ H)/\∀m σ H,W m σ H ->
 c σ H λb H1=>if b=true then ∃N:St->Hp->Prop,(∀σ' H',N σ' H'->∃m',m'<m/\W m' σ' H')/\tb {D with nx:=N,ct:=N,bk:=D.nx} σ H1 else D.nx σ H1
theorem Uq{c:Expr}{g:List Stmt}{B:TT}{z:TS}(C:PassesOwn (model X.prog X.w) X.A X.env X.xe)(J:PT X c B)(S:iR X g z):PS X (.While c g [] pos) (Uo B z):=by
 intro a s G H D I h;obtain⟨W,⟨O,M⟩,j⟩:=h;refine wpAny_While (codeAny_whileLoop (λn Q=>∃i F,Inv X a i F Q/\W n i F) ?_ O ⟨G,H,I,M⟩);rintro n K ⟨e,x,R,P⟩;refine wpAny_passesOwn C (gV (J a K e x _ R (j n e x P)) λb L ⟨u,E,l⟩=>?_);cases b with
 |true =>
  obtain⟨N,y,l⟩:=l;rw[aq rfl];refine wpAny_passesOwn C (gV (S a L e u _ E l) λf T m=>?_);cases f with
  |next =>
   obtain⟨d,k,t,p⟩:=m;obtain⟨r,q,o⟩:=y d k p;exact⟨r,q,d,k,t,o⟩
  |cont =>
   obtain⟨d,k,t,p⟩:=m;obtain⟨r,q,o⟩:=y d k p;exact⟨r,q,d,k,t,o⟩
  |brk=>exact m
  |ret v=>exact m
 |false =>
  rw[b3 aJ];exact wpAny_execs_nil ⟨e,u,E,l⟩
end
structure It where
 go:Nat->Hp->Prop
 K0:Nat->Hp->V->Hp->Prop
 stop:Nat->Hp->Prop
def CA(X:Cx)(pins:List (Addr×Obj))(H:Hp)(b:Addr):Prop :=
 H b=none/\b≠X.env.locals/\b∉X.fs/\(b∈X.ex∨X.s₀.heap.objs.size<=b)/\(∀x c,X.env.cells.lookup x=some c->c≠b)/\∀p∈X.pn++pins,p.1≠b
theorem Inv.Ur{X:Cx}{a:List (Addr×Obj)}{h:St}{H f:Hp}{s:Shared}{b:Addr}(I:Inv X a h H s)(d:s.heap.objs.size<=b)(i:f b=none):CA X a f b:=by
 refine⟨i,Nat.ne_of_gt (bF I.lt d),I.ags d,.inr (aU I.sz d),λx c e z=>?_,λp g z=>?_⟩
 ·obtain⟨v,q⟩:=I.cell x c e
  exact b5 (bF q.lt (by rw[z];exact d)) (jf _)
 ·exact b5 (bF (Heap.lt_size (I.pin p g).1) (by rw[z];exact d)) (jf _)
structure Turn(P:Program)(w:World)(K:af)(tg:Expr)(J:It)(fp:List Addr)(it:Addr)(tn:Nat->Heap->Prop):Prop where
 mem:it∈fp
 obj:∀i h,tn i h->∀b∈fp,∃o,h.get? b=some o/\∀v,o.data≠.cell v
 keep:∀i h h',tn i h->(∀b∈fp,∀o,h.get? b=some o->h'.get? b=some o)->tn i h'
 item:∀(X:Cx),X.prog=P->X.w=w->X.K=K->X.calm=true->∀(i:Nat) (pins:List (Addr×Obj)) (s:Shared) (σ:St) (H:Hp) (E:Value->Shared->Prop),Inv X pins σ H s->(∀b∈fp,CA X pins H b)->tn i s.heap->J.go i H ->
  wpAny (model P w) X.A (pyNext (.ref it)) (λr s1=>∃u,r=some u /\
   wpAny (model P w) X.A (letOwnedTupleGo tg (.ref it) u) (λ_ s2=>∃x H',Inv X pins σ H' s2/\RelV x u/\J.K0 i H x H'/\tn (i+1) s2.heap/\∀b∈fp,H' b=none) E s1) E s
 done:∀(X:Cx),X.prog=P->X.w=w->X.K=K->X.calm=true->∀(i:Nat) (pins:List (Addr×Obj)) (s:Shared) (σ:St) (H:Hp) (E:Value->Shared->Prop),Inv X pins σ H s->(∀b∈fp,CA X pins H b)->tn i s.heap->J.stop i H ->
  wpAny (model P w) X.A (pyNext (.ref it)) (λr s1=>r=none/\Inv X pins σ H s1) E s
 self:∀(A:Around) (i:Nat) (s:Shared) (Q:Value->Shared->Prop) (E:Value->Shared->Prop),tn i s.heap->Q (.ref it) s->wpAny (model P w) A (pyIter (.ref it)) Q E s
abbrev TI:=St->Hp->(It->Hp->Prop)->Prop
def PIE(X:Cx)(pins:List (Addr×Obj))(σ:St)(tg:Expr)(R:It->Hp->Prop)(itv:Value)(s2:Shared):Prop :=
 ∃(it:Addr) (fp:List Addr) (tn:Nat->Heap->Prop) (J:It) (H':Hp),itv=.ref it/\Inv X pins σ H' s2/\Turn X.prog X.w X.K tg J fp it tn/\tn 0 s2.heap/\(∀b∈fp,CA X pins H' b)/\R J H'
def PI(X:Cx)(tg iter:Expr)(wi:TI):Prop :=
 ∀(pins:List (Addr×Obj)) (s:Shared) (σ:St) (H:Hp) (R:It->Hp->Prop),Inv X pins σ H s->wi σ H R ->
  wpAny (model X.prog X.w) X.A (eval iter X.env) (λv s1=>wpAny (model X.prog X.w) X.A (pyIter v) (PIE X pins σ tg R) X.xe s1) X.xe s
theorem Us{M:Model}{A:Around}{E:Value->Shared->Prop}{s:Shared}{c:Expr}{b:Addr}{u:Value}{o:Obj}{n:String}{vs:Array Value}{Q:Unit->Shared->Prop}(g:s.heap.get? b=some o)(d:o.cls=.type n)(e:o.data=.fields vs)
 (f:["enumerate","zip","dict_itemiterator","dict_reverseitemiterator","odict_iterator","itertools.zip_longest","itertools.pairwise"].contains n=false) (a:Q () s):wpAny M A (letOwnedTupleGo c (.ref b) u) Q E s:=by
 unfold letOwnedTupleGo;cases c <;> first
  |exact wpAny_pure a
  | (cases u <;> first
   |exact wpAny_pure a
   | (refine wpAny_bind (wpAny_load g ?_)
      rw[d,e];show wpAny M A (if (["enumerate","zip","dict_itemiterator","dict_reverseitemiterator","odict_iterator","itertools.zip_longest","itertools.pairwise"].contains n&&vs[0]?==some (rawInt _))=true then _ else _) Q E s;rw[b3 (by intro h;rw[f,Bool.false_and] at h;cases h)];exact wpAny_pure a))
noncomputable def K1(K:af)(a:Addr):It :=
 ⟨λi H=>∃xs x,bQ K H a xs/\xs[i]?=some x,λi H x H'=>H'=H/\∀xs,bQ K H a xs->xs[i]?=some x,λi H=>∃xs,bQ K H a xs/\xs.length<=i⟩
noncomputable def Mq(K:af)(a:Addr):It :=
 ⟨λi H=>∃xs x,c7 K H a xs/\xs[i]?=some x,λi H x H'=>H'=H/\∀xs,c7 K H a xs->xs[i]?=some x,λi H=>∃xs,c7 K H a xs/\xs.length<=i⟩
noncomputable def Ut(lo:Int)(n:Nat):It:=⟨λi _=>i<n,λi H x H'=>H'=H/\x=.int (lo+i),λi _=>n<=i⟩
theorem R8{P:Program}{w:World}{K:af}{U:Expr}(a g:Addr):Turn P w K U (K1 K a) [g] g (λi h=>h.IsListIter g a i) where
 mem:=-_
 obj:=λi h st b j=>by
  have e:b=g:=by simpa using j
  subst e;obtain⟨o,e,c,d⟩:=st;exact⟨o,e,λv z=>by rw[d] at z;cases z⟩
 keep:=λi h m st k=>st.at λo e=>k g (-_) o e
 item:=by
  intro X r A M O i f s N H E I q st G;subst r A M;obtain⟨W,x,n,B⟩:=G;obtain⟨C,y,p,R⟩:=I.list n;obtain⟨u,Y,V⟩:=y.get B;obtain⟨D,t,f2,L,J,F⟩:=q g (-_);refine wpAny_pyNext_list_item st p.isList (x:=u) (by simpa using Y) λm l Q=>?_;have Z:Inv X f N H {s with heap:=m}:=I.turned (t':=s.toks) (λb o j e=>(Q.2 b j).trans e) D t L J F;obtain⟨o,e,c,d⟩:=id l;exact⟨u,rfl,Us (s:={s with heap:=m}) e c d (!_) ⟨x,H,Z,V,⟨rfl,λys S=>by rw[I.Mv S n];exact B⟩,l,λb j=>(q b j).1⟩⟩
 done:=by
  intro X r A M O i f s N H E I q st G;subst r A M;obtain⟨W,n,B⟩:=G;obtain⟨C,y,p,R⟩:=I.list n;obtain⟨D,t,f2,L,J,F⟩:=q g (-_);have hl:=y.length;exact wpAny_pyNext_list_end (I.ok.hd O) st p.isList (by simp;lia) λm T=>⟨rfl,I.turned (t':=s.toks) (λb o j e=>T b o j e) D t L J F⟩
 self:=λ_ _ _ _ _ st h=>wpAny_pyIter_listiter st h
theorem OM{P:Program}{w:World}{K:af}{U:Expr}(a g:Addr):Turn P w K U (Mq K a) [g] g (λi h=>h.IsTupleIter g a i) where
 mem:=-_
 obj:=λi h st b l=>by
  have e:b=g:=by simpa using l
  subst e;obtain⟨o,e,c,d⟩:=st;exact⟨o,e,λv z=>by rw[d] at z;cases z⟩
 keep:=λi h n st k=>st.at λo e=>k g (-_) o e
 item:=by
  intro X t B M O i f s N H E I r st G;subst t B M;obtain⟨W,x,q,C⟩:=G;obtain⟨j,A,p,R⟩:=I.tuple q;obtain⟨u,Y,V⟩:=A.get C;obtain⟨D,y,f2,L,J,F⟩:=r g (-_);refine wpAny_pyNext_tuple_item st (show s.heap.IsTuple a j.toArray from p) (x:=u) (by simpa using Y) λn m Q=>?_;have Z:Inv X f N H {s with heap:=n}:=I.turned (t':=s.toks) (λb o l e=>(Q.2 b l).trans e) D y L J F;obtain⟨o,e,c,d⟩:=id m;exact⟨u,rfl,Us (s:={s with heap:=n}) e c d (!_) ⟨x,H,Z,V,⟨rfl,λys S=>by rw[I.R6 S q];exact C⟩,m,λb l=>(r b l).1⟩⟩
 done:=by
  intro X t B M O i f s N H E I r st G;subst t B M;obtain⟨W,q,C⟩:=G;obtain⟨j,A,p,R⟩:=I.tuple q;obtain⟨D,y,f2,L,J,F⟩:=r g (-_);have hl:=A.length;exact wpAny_pyNext_tuple_end (I.ok.hd O) st (show s.heap.IsTuple a j.toArray from p) (by simp;lia) λn T=>⟨rfl,I.turned (t':=s.toks) (λb o l e=>T b o l e) D y L J F⟩
 self:=λ_ _ _ _ _ st h=>wpAny_pyIter_tupleiter st h
theorem ON{P:Program}{w:World}{K:af}{M:Expr}(a:Addr)(lo:Int)(n:Nat):Turn P w K M (Ut lo n) [a] a (λi h=>IsRangeIter h a (lo+(i:Nat)*1) ((n:Int)-(i:Nat)) 1) where
 mem:=-_
 obj:=λi h st b d=>by
  have e:b=a:=by simpa using d
  subst e;exact⟨_,st,λv z=>by
   have J:Data.fields _=Data.cell v:=z;cases J⟩
 keep:=λi h g st k=>k a (-_) _ st
 item:=by
  intro X m q B l i c s C H E I j st x;subst m q B;obtain⟨u,p,O,A,y,r⟩:=j a (-_);have W:=Walks.range (prog:=X.prog) (w:=X.w) (I.ok.hd l) a lo 1 n;refine W.item i s _ _ x st λv g D G f F=>?_;obtain⟨t,rfl⟩:=G;have N:Inv X c C H {s with heap:=g,toks:=D}:=I.turned (λb o d e=>F b o (by simpa using d) e) u p A y r;refine⟨_,rfl,Us (s:={s with heap:=g,toks:=D}) (n:="range_iterator") f rfl rfl (!_) ⟨.int (lo+i),H,N,⟨t,?_⟩,⟨rfl,rfl⟩,f,λb d=>(j b d).1⟩⟩;rw[Int.mul_one]
 done:=by
  intro X m q B l i c s C H E I j st x;subst m q B;obtain⟨u,p,O,A,y,r⟩:=j a (-_);exact wpAny_pyNext_range_end (I.ok.hd l) st (by have:n<=i:=x;lia) λg L=>⟨rfl,I.turned (t':=s.toks) (λb o d e=>L b o d e) u p A y r⟩
 self:=λ_ _ _ _ _ st h=>wpAny_pyIter_rangeiter st h
section
variable{X:Cx}{tg:Expr}
inductive Za(K:af)(R:It->Hp->Prop)(x:V)(H1:Hp):Prop
 |mk (a:Addr) (h1:x=.ref a) (h2:∃xs,bQ K H1 a xs) (h3:R (K1 K a) H1):Za K R x H1
def acZ(K:af)(tl:TE):TI:=λσ H R=>tl σ H (Za K R)
def agC(K:af)(tl:TE):TI:=λσ H R=>tl σ H λx H1=>∃a,x=.ref a/\(∃xs,c7 K H1 a xs)/\R (Mq K a) H1
theorem ir{l:Expr}{g:TE}(hl:PE X l g):PI X tg l (acZ X.K g):=by
 intro c s i H R I h;refine gV (hl c s i H _ I h) λv d ⟨x,j,f,m,n⟩=>?_;obtain⟨a,e,⟨y,t⟩,q⟩:=n;subst e;cases m;obtain⟨k,w,p,u⟩:=f.list t;refine wpAny_pyIter_list p.isList ?_;refine⟨d.heap.objs.size,[d.heap.objs.size],_,_,j,rfl,f.kept (t':=d.toks) λb o e=>Heap.get?_push_of_some _ e,R8 a _,⟨_,Heap.get?_push_size _ rfl,rfl,rfl⟩,λb r=>?_,q⟩;have e:b=d.heap.objs.size:=by simpa using r
 subst e;exact f.Ur (aB _) (f.hok.fresh (aB _))
theorem Uu{l:Expr}{i:TE}(hl:PE X l i):PI X tg l (agC X.K i):=by
 intro d s j H R I h;refine gV (hl d s j H _ I h) λv c ⟨x,k,f,m,n⟩=>?_;obtain⟨a,e,⟨y,t⟩,q⟩:=n;subst e;cases m;obtain⟨g,w,p,u⟩:=f.tuple t;refine wpAny_pyIter_tuple (show c.heap.IsTuple a g.toArray from p) ?_;refine⟨c.heap.objs.size,[c.heap.objs.size],_,_,k,rfl,f.kept (t':=c.toks) λb o e=>Heap.get?_push_of_some _ e,OM a _,⟨_,Heap.get?_push_size _ rfl,rfl,rfl⟩,λb r=>?_,q⟩;have e:b=c.heap.objs.size:=by simpa using r
 subst e;exact f.Ur (aB _) (f.hok.fresh (aB _))
theorem Uv{c:List (Addr×Obj)}{d:St}{H:Hp}{s:Shared}{R:It->Hp->Prop}{E:Value->Shared->Prop}{lo a:Int}{t u v:Tok}{tk:Nat}(I:Inv X c d H s)(g:-(2^62)<=lo)(k:lo<2^62)(l:-(2^62)<=a)(m:a<2^62)
 (q:R (Ut lo (a-lo).toNat) H):wpAny (model X.prog X.w) X.A (pyIter (.ref s.heap.objs.size)) (PIE X c d tg R) E {s with heap:=s.heap.push {cls:=.type "range",data:=.fields #[.int lo t,.int a u,.int 1 v]},toks:=tk}:=by
 refine wpAny_pyIter_range (IsRange.new ..) (small_one g k l m) ?_;have f:Inv X c d H {s with heap:=s.heap.push {cls:=.type "range",data:=.fields #[.int lo t,.int a u,.int 1 v]},toks:=tk}:=I.kept λb o e=>Heap.get?_push_of_some _ e;refine⟨(s.heap.push {cls:=.type "range",data:=.fields #[.int lo t,.int a u,.int 1 v]}).objs.size,[(s.heap.push {cls:=.type "range",data:=.fields #[.int lo t,.int a u,.int 1 v]}).objs.size],_,_,H,rfl,
  f.kept (t':=tk) λb o e=>Heap.get?_push_of_some _ e,ON _ lo (a-lo).toNat,?_,λb j=>?_,q⟩
 ·have i:lo+((0:Nat):Int)*1=lo:=-_
  have h:(((a-lo).toNat:Nat):Int)-((0:Nat):Int)=Builtin.Range.rangeSize lo a 1:=by rw[rangeSize_one];split <;> lia
  show IsRangeIter _ _ (lo+((0:Nat):Int)*1) ((((a-lo).toNat:Nat):Int)-((0:Nat):Int)) 1;rw[i,h];exact Heap.get?_push_size _ rfl
 ·have e:b=(s.heap.push {cls:=.type "range",data:=.fields #[.int lo t,.int a u,.int 1 v]}).objs.size:=by simpa using j
  subst e;exact f.Ur (aB _) (f.hok.fresh (aB _))
inductive Zb(R:It->Hp->Prop)(vs:List V)(H1:Hp):Prop
 |mk (j:Int) (h1:vs=[.int j]) (h2:-(2^62)<=j) (h3:j<2^62) (h4:R (Ut 0 j.toNat) H1):Zb R vs H1
def Uw(ta:TA):TI:=λσ H R=>ta σ H (Zb R)
theorem eS{a:Expr}{f:TA}{p b:Pos}(u:Gl X "range")(l:X.mg "range" = none)(n:PA X [a] f)(hs:starEach [a] X.env=[(false,eval a X.env)]:=by rfl):PI X tg (.Call (.Name "range" p) [a] [] b) (Uw f):=by
 intro c s i H R I h;refine Call_ (KR I u l boot_range (PyProof.Rows.callWith_type1 (gV (n b c s i H _ I h) λy v ⟨x,w,o,m,d⟩=>?_) hs rfl));obtain⟨j,e,d,k,q⟩:=d;subst e;cases m with
 |cons r g =>
  cases g;obtain⟨t,rfl⟩:=r;exact call_range_1 (Uv o ∅ ∅ d k (by simpa using q))
def ac0(wi:TI)(g:TG)(tb:TS):TS:=λD σ H=>wi σ H λJ H1=>∃W:Nat->Nat->St->Hp->Prop,(∃m,W 0 m σ H1)/\∀i m σ H,W i m σ H ->
 (J.stop i H/\D.nx σ H)∨(J.go i H/\∃N:St->Hp->Prop,(∀σ' H',N σ' H'->∃m',m'<m/\W (i+1) m' σ' H')/\∀x H',J.K0 i H x H'->g x σ H' λσ2 H2=>tb {D with nx:=N,ct:=N,bk:=D.nx} σ2 H2)
noncomputable def Gq(fp:List Addr)(h:Heap):List (Addr×Obj):=fp.filterMap λb=>(h.get? b).map λo=>(b,o)
theorem Bx{fp:List Addr}{h:Heap}{b:Addr}{o:Obj}(a:b∈fp)(e:h.get? b=some o):(b,o)∈Gq fp h:=List.mem_filterMap.mpr ⟨b,a,by rw[e];rfl⟩
theorem R9{fp:List Addr}{h:Heap}{p:Addr×Obj}(c:p∈Gq fp h):p.1∈fp/\h.get? p.1=some p.2:=by
 obtain⟨b,a,e⟩:=List.mem_filterMap.mp c;cases q:h.get? b with
 |none=>rw[q] at e;cases e
 |some o =>
  rw[q] at e;have d:(b,o)=p:=aI e;subst d;exact⟨a,q⟩
theorem Inv.pinned{a:List (Addr×Obj)}{c:St}{H:Hp}{s:Shared}{fp:List Addr}(I:Inv X a c H s)(l:∀b∈fp,CA X a H b)(k:∀b∈fp,∃o,s.heap.get? b=some o/\∀v,o.data≠.cell v):Inv X (a++Gq fp s.heap) c H s :=
 I.Qo λp j=>(aR.mp j).elim (λz=>I.pin p (bJ _ z)) λz=>by
  obtain⟨g,e⟩:=R9 z;obtain⟨i,h,m,_⟩:=l p.1 g;obtain⟨o,f,d⟩:=k p.1 g;rw[e] at f;cases f;exact⟨e,i,h,m,d⟩
theorem Inv.CB{a pl:List (Addr×Obj)}{b:St}{H:Hp}{s:Shared}(I:Inv X (a++pl) b H s):Inv X a b H s:=I.Qo λp c=>I.pin p (bJ _ (eY _ c))
theorem aal{p:Expr}{C:List Stmt}{wi:TI}{g:TG}{tb:TS}{S:Pos}(O:PassesOwn (model X.prog X.w) X.A X.env X.xe)(hc:X.calm=true)(hi:PI X tg p wi)(hg:PG X tg g)(k:iR X C tb)
 (hs:∀x,foldedSetIterable p X.env x=pure x:=by intro _;rfl):PS X (.For tg p C [] S) (ac0 wi g tb):=by
 intro a s σ H D I h;refine wpAny_For (gV (hi a s σ H _ I h) λv s1 h1=>gV h1 λitv s2 h2=>?_) hs;obtain⟨it,E,tn,J,H2,e,I2,T,Q,f2,W,⟨m0,w0⟩,G⟩:=h2;subst e;have l:∀{z:Hp},(∀b∈E,z b=none)->∀b∈E,CA X a z b:=λhn b k=>⟨hn b k,(f2 b k).2⟩;refine codeAny_forLoop_any (λn s'=>∃i c z,Inv X a c z s'/\tn i s'.heap/\(∀b∈E,z b=none)/\W i n c z) ?_ m0 ⟨0,σ,H2,I2,Q,λb k=>(f2 b k).1,w0⟩;rintro n s3 ⟨i,t,P,I3,F,K,w3⟩;rcases G i n t P w3 with ⟨M,qn⟩|⟨go,N,hN,step⟩
 ·refine wpAny_passesOwn O (gV (T.done X rfl rfl rfl hc i a s3 t P X.xe I3 (l K) F M) λr s4 ⟨U,I4⟩=>?_)
  subst U;exact wpAny_execs_nil ⟨t,P,I4,qn⟩
 ·refine wpAny_passesOwn O (gV (T.item X rfl rfl rfl hc i a s3 t P X.xe I3 (l K) F go) λr s4 ⟨u,U,h4⟩=>?_)
  subst U;refine wpAny_passesOwn O (gV h4 λ_ s5 ⟨x,H5,I5,r5,y5,Z,Ic⟩=>?_);have Y:=I5.pinned (l Ic) (T.obj _ _ Z);refine wpAny_passesOwn O (gV (hg _ s5 t H5 x u _ Y r5 (step x H5 y5)) λ_ s6 ⟨R,H6,I6,q6⟩=>?_);refine wpAny_passesOwn O (gV (k _ s6 R H6 _ I6 q6) λf V B=>?_);have again:∀{j:St} {q:Hp},Inv X (a++Gq E s5.heap) j q V->N j q->∃m,m<n/\∃i c z,Inv X a c z V/\tn i V.heap/\(∀b∈E,z b=none)/\W i m c z:=λ{j q} y L=>by
   obtain⟨m',hm,w7⟩:=hN j q L;refine⟨m',hm,i+1,j,q,y.CB,T.keep _ _ _ Z λb k o e=>(y.pin (b,o) (bJ _ (bJ _ (Bx k e)))).1,λb k=>?_,w7⟩;obtain⟨o,e,d⟩:=T.obj _ _ Z b k;exact (y.pin (b,o) (bJ _ (bJ _ (Bx k e)))).2.1
  cases f with
  |next=>obtain⟨j,q,y,L⟩:=B;exact again y L
  |cont=>obtain⟨j,q,y,L⟩:=B;exact again y L
  |brk=>obtain⟨j,q,y,B⟩:=B;exact⟨j,q,y.CB,B⟩
  |ret v=>obtain⟨x7,j,q,y,r7,B⟩:=B;exact⟨x7,j,q,y.CB,r7,B⟩
end
theorem vM{K:af}{a:Addr}{xs:List V}{g:TG}{l:TS}{D:Ends}{b:St}{H:Hp}(c:Nat->St->Hp->Prop)(s:c 0 b H)(hl:∀i b H,i<=xs.length->c i b H->bQ K H a xs)
 (hs:∀i x b H,xs[i]?=some x->c i b H->g x b H λh k=>l {D with nx:=c (i+1),ct:=c (i+1),bk:=D.nx} h k) (t:∀b H,c xs.length b H->D.nx b H) :
 ∃W:Nat->Nat->St->Hp->Prop,(∃m,W 0 m b H)/\∀i m b H,W i m b H ->
  ((K1 K a).stop i H/\D.nx b H)∨((K1 K a).go i H/\∃N:St->Hp->Prop,(∀d f,N d f->∃n,n<m/\W (i+1) n d f)/\∀x f,(K1 K a).K0 i H x f->g x b f λh k=>l {D with nx:=N,ct:=N,bk:=D.nx} h k):=by
 refine⟨λi m b H=>m=xs.length-i/\i<=xs.length/\c i b H,⟨xs.length,-_,bI _,s⟩,?_⟩;rintro i m b H ⟨rfl,r,p⟩;have q:=hl i b H r p;by_cases j:i<xs.length
 ·refine .inr ⟨⟨xs,xs[i],q,by simp[j]⟩,c (i+1),λd f o=>⟨xs.length-(i+1),∅,rfl,j,o⟩,λx f y=>?_⟩
  obtain⟨e,y⟩:=y;subst e;exact hs i x b _ (y xs q) p
 ·have e:i=xs.length:=∅
  subst e;exact .inl ⟨⟨xs,q,aB _⟩,t b H p⟩
theorem vN{lo:Int}{n:Nat}{g:TG}{k:TS}{D:Ends}{a:St}{H:Hp}(d:Nat->St->Hp->Prop)(q:d 0 a H)
 (hs:∀i a H,i<n->d i a H->g (.int (lo+i)) a H λh j=>k {D with nx:=d (i+1),ct:=d (i+1),bk:=D.nx} h j) (r:∀a H,d n a H->D.nx a H) :
 ∃W:Nat->Nat->St->Hp->Prop,(∃m,W 0 m a H)/\∀i m a H,W i m a H ->
  ((Ut lo n).stop i H/\D.nx a H)∨((Ut lo n).go i H/\∃N:St->Hp->Prop,(∀c f,N c f->∃l,l<m/\W (i+1) l c f)/\∀x f,(Ut lo n).K0 i H x f->g x a f λh j=>k {D with nx:=N,ct:=N,bk:=D.nx} h j):=by
 refine⟨λi m a H=>m=n-i/\i<=n/\d i a H,⟨n,-_,bI _,q⟩,?_⟩;rintro i m a H ⟨rfl,s,p⟩;by_cases b:i<n
 ·refine .inr ⟨b,d (i+1),λc f o=>⟨n-(i+1),∅,rfl,b,o⟩,λx f y=>?_⟩
  obtain⟨e,y⟩:=y;subst e y;exact hs i a _ b p
 ·have e:i=n:=∅
  subst e;exact .inl ⟨aB _,r a H p⟩
theorem Uy{c:TT}{j:TS}{D:Ends}{a:St}{H:Hp}(i:St->Hp->Prop)(g:St->Hp->Nat)(o:i a H)
 (hs:∀a H,i a H->c a H λb e=>if b=true then j {D with nx:=λd f=>i d f/\g d f<g a H,ct:=λd f=>i d f/\g d f<g a H,bk:=D.nx} a e else D.nx a e)
 (h:∀a H Q k,(∀b e,Q b e->k b e)->c a H Q->c a H k):Uo c j D a H:=by
 refine⟨λm a H=>m=g a H/\i a H,⟨_,rfl,o⟩,?_⟩;rintro m a H ⟨rfl,p⟩;refine h a H _ _ (λb e q=>?_) (hs a H p);cases b with
 |true=>exact⟨_,λd f ⟨n,l⟩=>⟨_,l,rfl,n⟩,q⟩
 |false=>exact q
abbrev R2:=V->V->Hp->VK->Prop
def yv(X:Cx)(f:Value->Value->Sem Value)(r:R2):Prop :=
 ∀(pins:List (Addr×Obj)) (s:Shared) (σ:St) (H:Hp) (x y:V) (v u:Value) (Q:VK),Inv X pins σ H s->RelV x v->RelV y u->r x y H Q ->
  wpAny (model X.prog X.w) X.A (f v u) (EP X pins σ Q) X.xe s
def UnR(X:Cx)(f:Value->Sem Value)(r:V->Hp->VK->Prop):Prop :=
 ∀(pins:List (Addr×Obj)) (s:Shared) (σ:St) (H:Hp) (x:V) (v:Value) (Q:VK),Inv X pins σ H s->RelV x v->r x H Q ->
  wpAny (model X.prog X.w) X.A (f v) (EP X pins σ Q) X.xe s
def ue(X:Cx)(f:Value)(r:List V->Hp->VK->Prop):Prop :=
 ∀(pins:List (Addr×Obj)) (s:Shared) (σ:St) (H:Hp) (xs:List V) (us:List Value) (Q:VK),Inv X pins σ H s->cD xs us->r xs H Q ->
  wpAny (model X.prog X.w) X.A (call f us) (EP X pins σ Q) X.xe s
def agE(X:Cx)(r:V->Hp->(Bool->Hp->Prop)->Prop):Prop :=
 ∀(pins:List (Addr×Obj)) (s:Shared) (σ:St) (H:Hp) (x:V) (v:Value) (Q:Bool->Hp->Prop),Inv X pins σ H s->RelV x v->r x H Q ->
  wpAny (model X.prog X.w) X.A (truthy v) (TP X pins σ Q) X.xe s
def T5(r:R2)(ta tb:TE):TE:=λσ H Q=>ta σ H λx H1=>tb σ H1 λy H2=>r x y H2 Q
def tUn(r:V->Hp->VK->Prop)(ta:TE):TE:=λσ H Q=>ta σ H λx H1=>r x H1 Q
inductive rI(C:Int->Int->Prop)(g:Int->Int->V)(x y:V)(H:Hp)(Q:VK):Prop
 |mk (i j:Int) (h1:x=.int i) (h2:y=.int j) (h3:C i j) (h4:Q (g i j) H):rI C g x y H Q
inductive Uz(g:Int->Int->V)(x y:V)(H:Hp)(Q:VK):Prop
 |mk (i j:Int) (h1:x=.int i) (h2:y=.int j) (h3:Q (g i j) H):Uz g x y H Q
def rU(g:Int->V):V->Hp->VK->Prop:=λx H Q=>∃i,x=.int i/\Q (g i) H
section
variable{X:Cx}{a b c:Expr}{ta tb tc:TE}{pos:Pos}
theorem aam(p:PE X a ta)(z:PE X b tb){c:List (Addr×Obj)}{s:Shared}{d:St}{H:Hp}{R:V->V->Hp->Prop}(I:Inv X c d H s)
 (h:ta d H λx k=>tb d k λy e=>R x y e) {Q:Value->Shared->Prop} {f:Value->Value->Sem Value}
 (B:∀v u j x y e,Inv X c d e j->RelV x v->RelV y u->R x y e->wpAny (model X.prog X.w) X.A (f v u) Q X.xe j) :
 wpAny (model X.prog X.w) X.A (eval a X.env) (λv g=>wpAny (model X.prog X.w) X.A (eval b X.env) (λu i=>wpAny (model X.prog X.w) X.A (f v u) Q X.xe i) X.xe g) X.xe s:=by
 refine gV (p c s d H _ I h) λv m ⟨x,k,t,o,q⟩=>?_;refine gV (z c m d k _ t q) λu j ⟨y,e,r,l,n⟩=>?_;exact B v u j x y e r o l n
theorem bx{op:Operator}{r:R2}(k:yv X (binaryOp op) r)(i:PE X a ta)(l:PE X b tb):PE X (.BinOp a op b pos) (T5 r ta tb):=by
 intro c s d H Q I h;exact wpAny_BinOp (aam i l I h λv u f x y e j m g q=>k c f d e x y v u Q j m g q)
theorem ac2{op:UnaryOp}{r:V->Hp->VK->Prop}(e:UnR X (unaryOp op) r)(j:PE X a ta):PE X (.UnaryOp op a pos) (tUn r ta):=by
 intro b s c H Q I h;exact UnaryOp_ (gV (j b s c H _ I h) λv d ⟨x,f,g,i,k⟩=>e b d c f x v Q g i k)
theorem nX{f:Value->Value->Sem Value}{C:Int->Int->Prop}{g:Int->Int->Int}
 (rule:∀(i j:Int) (t u:Tok) (s:Shared) (Q:Value->Shared->Prop) (E:Value->Shared->Prop),C i j->Q (.int (g i j) s.toks) {s with toks:=s.toks+1}->wpAny (model X.prog X.w) X.A (f (.int i t) (.int j u)) Q E s) :
 yv X f (rI C λi j=>.int (g i j)):=by
 intro a s k H x y v u Q I e c h;obtain⟨i,j,rfl,rfl,b,q⟩:=h;obtain⟨t,rfl⟩:=e;obtain⟨d,rfl⟩:=c;exact rule i j t d s _ _ b ⟨.int (g i j),H,I.tok _,⟨_,rfl⟩,q⟩
theorem Xd{f:Value->Value->Sem Value}{g:Int->Int->Int}
 (rule:∀(i j:Int) (t u:Tok) (s:Shared) (Q:Value->Shared->Prop) (E:Value->Shared->Prop),Q (.int (g i j) s.toks) {s with toks:=s.toks+1}->wpAny (model X.prog X.w) X.A (f (.int i t) (.int j u)) Q E s) :
 yv X f (Uz λi j=>.int (g i j)):=by
 intro a s e H x y v u Q I d b h;obtain⟨i,j,rfl,rfl,q⟩:=h;obtain⟨t,rfl⟩:=d;obtain⟨c,rfl⟩:=b;exact rule i j t c s _ _ ⟨.int (g i j),H,I.tok _,⟨_,rfl⟩,q⟩
theorem Xe{f:Value->Value->Sem Value}{g:Int->Int->Bool}
 (rule:∀(i j:Int) (t u:Tok) (s:Shared) (Q:Value->Shared->Prop) (E:Value->Shared->Prop),Q (.bool (g i j)) s->wpAny (model X.prog X.w) X.A (f (.int i t) (.int j u)) Q E s) :
 yv X f (Uz λi j=>.bl (g i j)):=by
 intro a s e H x y v u Q I d b h;obtain⟨i,j,rfl,rfl,q⟩:=h;obtain⟨t,rfl⟩:=d;obtain⟨c,rfl⟩:=b;exact rule i j t c s _ _ ⟨.bl (g i j),H,I,rfl,q⟩
def agF(i j:Int):Prop:=0<j/\j<1073741824
def ac4(i j:Int):Prop:=0<=j/\j<=1000000/\i.natAbs<2^64
def aan(i j:Int):Prop:=(-(2^64)<i/\i<2^64)∨(-(2^64)<j/\j<2^64)
theorem aan.ok{i j:Int}(h:aan i j):IntMulOk i j:=by
 rcases h with ⟨b,a⟩|⟨b,a⟩
 ·exact .of_left (intBits_le_64 b a)
 ·exact .of_right (intBits_le_64 b a)
theorem gm:yv X (binaryOp .Add) (Uz λi j=>.int (i+j)):=Xd λ_ _ _ _ _ _ _ q=>add_int q
theorem Gs:yv X (binaryOp .Sub) (Uz λi j=>.int (i-j)):=Xd λ_ _ _ _ _ _ _ q=>sub_int q
theorem By:yv X (binaryOp .Mult) (rI aan λi j=>.int (i*j)):=nX λ_ _ _ _ _ _ _ a q=>mul_int q a.ok
theorem fh:yv X (binaryOp .FloorDiv) (rI agF λi j=>.int (i/j)):=nX λi j _ _ _ _ _ a q=>by
 have c:(0:Int)<j:=a.1;have b:j<1073741824:=a.2;exact floordiv_int ∅ (by rw[Int.fdiv_eq_ediv_of_nonneg i ∅];exact q) (.inl (PyProof.noPylong_small ∅))
theorem dZ:yv X (binaryOp .Mod) (rI (λ_ j=>0<j) λi j=>.int (i%j)):=nX λi j _ _ _ _ _ a q=>by
 have b:(0:Int)<j:=a;exact mod_int' ∅ (by rw[Int.fmod_eq_emod_of_nonneg i ∅];exact q)
theorem UA:yv X (binaryOp .Pow) (rI ac4 λi j=>.int (i^j.toNat)):=nX λ_ _ _ _ _ _ _ a q=>pow_int_small a.1 a.2.1 a.2.2 q
theorem aao:yv X (binaryOp .LShift) (rI ac4 λi j=>.int (i*2^j.toNat)):=nX λ_ _ _ _ _ _ _ a q=>lshift_int_small a.1 a.2.1 a.2.2 q
theorem aap:yv X (binaryOp .BitAnd) (Uz λi j=>.int (Builtin.bitAnd i j)):=Xd λ_ _ _ _ _ _ _ q=>and_int q
theorem ac5:yv X (binaryOp .BitOr) (Uz λi j=>.int (Builtin.bitOr i j)):=Xd λ_ _ _ _ _ _ _ q=>or_int q
theorem unI{f:Value->Sem Value}{g:Int->Int}
 (rule:∀(i:Int) (t:Tok) (s:Shared) (Q:Value->Shared->Prop) (E:Value->Shared->Prop),Q (.int (g i) s.toks) {s with toks:=s.toks+1}->wpAny (model X.prog X.w) X.A (f (.int i t)) Q E s) :
 UnR X f (rU λi=>.int (g i)):=by
 intro a s c H x v Q I b h;obtain⟨i,rfl,q⟩:=h;obtain⟨t,rfl⟩:=b;exact rule i t s _ _ ⟨.int (g i),H,I.tok _,⟨_,rfl⟩,q⟩
theorem aaq:UnR X (unaryOp .USub) (rU λi=>.int (-i)):=unI λ_ _ _ _ _ q=>neg_int q
end
noncomputable def aar:V->V->Bool
 |.fM,.fM=>true|.fM,.int _=>true|.int _,.fM=>true|.fM,.bl _=>true|.bl _,.fM=>true|.fM,.str _=>true|.str _,.fM=>true
 |.int _,.int _=>true|.bl _,.bl _=>true|.str _,.str _=>true|.Qn _,.Qn _=>true
 |.int _,.str _=>true|.str _,.int _=>true|.bl _,.str _=>true|.str _,.bl _=>true
 |_,_=>false
inductive rEq(x y:V)(H:Hp)(Q:VK):Prop
 |mk (a:aar x y=true) (b:Q (.bl (decide (x=y))) H):rEq x y H Q
inductive rNe(x y:V)(H:Hp)(Q:VK):Prop
 |mk (a:aar x y=true) (b:Q (.bl (!decide (x=y))) H):rNe x y H Q
theorem Qs{i j:Int}:decide (V.int i=V.int j)=(i==j):=by
 rw[jR];simp
theorem UB{i j:Bool}:decide (V.bl i=V.bl j)=(i==j):=by
 rw[jR];simp
theorem Qt{i j:Str}:decide (V.str i=V.str j)=(i==j):=by
 rw[jR];simp
theorem Qu{i j:Array UInt8}:decide (V.Qn i=V.Qn j)=(i.toList==j.toList):=by
 rw[jR];cases i;cases j;simp
section
variable{X:Cx}{a b c:Expr}{ta tb tc:TE}{pos:Pos}
theorem d7{a:List (Addr×Obj)}{c:St}{H:Hp}{s:Shared}{Q:VK}{k b:Bool}(I:Inv X a c H s)(q:Q (.bl k) H)(e:k=b):EP X a c Q (.bool b) s:=by
 subst e;exact⟨.bl k,H,I,rfl,q⟩
theorem vO:yv X (compareOp .Eq) rEq:=by
 intro e s f H x y v u Q I d a h;obtain⟨c,q⟩:=h;cases x with
 |fM =>
  cases d;cases y with
  |fM=>cases a;exact PySem.EqNone.eq_none_none (d7 I q (-_))
  |bl j=>cases a;exact PySem.EqNone.eq_none_bool (d7 I q (-_))
  |int j=>obtain⟨b,rfl⟩:=a;exact PySem.EqNone.eq_none_int (d7 I q (-_))
  |str j=>obtain⟨b,rfl⟩:=a;exact PySem.EqNone.eq_none_str (d7 I q (-_))
  |_=>exact b5 (show false=true from c) aJ
 |bl i =>
  cases d;cases y with
  |fM=>cases a;exact PySem.EqNone.eq_bool_none (d7 I q (-_))
  |bl j=>cases a;exact eq_bool (d7 I q UB)
  |str j=>obtain⟨b,rfl⟩:=a;exact PySem.EqMixed.eq_bool_str (d7 I q (-_))
  |_=>exact b5 (show false=true from c) aJ
 |int i =>
  obtain⟨t,rfl⟩:=d;cases y with
  |fM=>cases a;exact PySem.EqNone.eq_int_none (d7 I q (-_))
  |int j=>obtain⟨b,rfl⟩:=a;exact eq_int (d7 I q Qs)
  |str j=>obtain⟨b,rfl⟩:=a;exact PySem.EqMixed.eq_int_str (d7 I q (-_))
  |_=>exact b5 (show false=true from c) aJ
 |str i =>
  obtain⟨t,rfl⟩:=d;cases y with
  |fM=>cases a;exact PySem.EqNone.eq_str_none (d7 I q (-_))
  |bl j=>cases a;exact PySem.EqMixed.eq_str_bool (d7 I q (-_))
  |int j=>obtain⟨b,rfl⟩:=a;exact PySem.EqMixed.eq_str_int (d7 I q (-_))
  |str j=>obtain⟨b,rfl⟩:=a;exact eq_str (d7 I q Qt)
  |_=>exact b5 (show false=true from c) aJ
 |Qn i =>
  obtain⟨t,rfl⟩:=d;cases y with
  |Qn j=>obtain⟨b,rfl⟩:=a;exact PySem.W.eq_bytes (d7 I q Qu)
  |_=>exact b5 (show false=true from c) aJ
 |_=>cases y <;> exact b5 (show false=true from c) aJ
theorem uf:yv X (compareOp .NotEq) rNe:=by
 intro e s f H x y v u Q I d a h;obtain⟨c,q⟩:=h;cases x with
 |fM =>
  cases d;cases y with
  |fM=>cases a;exact PySem.EqNone.ne_none_none (d7 I q (-_))
  |bl j=>cases a;exact PySem.EqNone.ne_none_bool (d7 I q (-_))
  |int j=>obtain⟨b,rfl⟩:=a;exact PySem.EqNone.ne_none_int (d7 I q (-_))
  |str j=>obtain⟨b,rfl⟩:=a;exact PySem.EqNone.ne_none_str (d7 I q (-_))
  |_=>exact b5 (show false=true from c) aJ
 |bl i =>
  cases d;cases y with
  |fM=>cases a;exact PySem.EqNone.ne_bool_none (d7 I q (-_))
  |bl j=>cases a;exact ne_bool (d7 I q (er not UB))
  |str j=>obtain⟨b,rfl⟩:=a;exact PySem.EqMixed.ne_bool_str (d7 I q (-_))
  |_=>exact b5 (show false=true from c) aJ
 |int i =>
  obtain⟨t,rfl⟩:=d;cases y with
  |fM=>cases a;exact PySem.EqNone.ne_int_none (d7 I q (-_))
  |int j=>obtain⟨b,rfl⟩:=a;exact ne_int (d7 I q (er not Qs))
  |str j=>obtain⟨b,rfl⟩:=a;exact PySem.EqMixed.ne_int_str (d7 I q (-_))
  |_=>exact b5 (show false=true from c) aJ
 |str i =>
  obtain⟨t,rfl⟩:=d;cases y with
  |fM=>cases a;exact PySem.EqNone.ne_str_none (d7 I q (-_))
  |bl j=>cases a;exact PySem.EqMixed.ne_str_bool (d7 I q (-_))
  |int j=>obtain⟨b,rfl⟩:=a;exact PySem.EqMixed.ne_str_int (d7 I q (-_))
  |str j=>obtain⟨b,rfl⟩:=a;exact ne_str (d7 I q (er not Qt))
  |_=>exact b5 (show false=true from c) aJ
 |Qn i =>
  obtain⟨t,rfl⟩:=d;cases y with
  |Qn j=>obtain⟨b,rfl⟩:=a;exact PySem.W.ne_bytes (d7 I q (er not Qu))
  |_=>exact b5 (show false=true from c) aJ
 |_=>cases y <;> exact b5 (show false=true from c) aJ
theorem ug:yv X (compareOp .Lt) (Uz λi j=>.bl (decide (i<j))):=Xe λ_ _ _ _ _ _ _ q=>lt_int q
theorem rz:yv X (compareOp .LtE) (Uz λi j=>.bl (decide (i<=j))):=Xe λ_ _ _ _ _ _ _ q=>le_int q
theorem Qv:yv X (compareOp .Gt) (Uz λi j=>.bl (decide (j<i))):=Xe λ_ _ _ _ _ _ _ q=>gt_int q
theorem ac6:yv X (compareOp .GtE) (Uz λi j=>.bl (decide (j<=i))):=Xe λ_ _ _ _ _ _ _ q=>ge_int q
theorem UC:yv X (compareOp .Is) (λx y H Q=>y=.fM/\Q (.bl (decide (x=.fM))) H):=by
 intro a s d H x y v u Q I b c h;obtain⟨rfl,q⟩:=h;cases c;refine is_none_gen (d7 I q ?_);cases x <;> first
  | (cases b;rfl)
  | (obtain⟨t,rfl⟩:=b;rfl)
theorem K2:yv X (compareOp .IsNot) (λx y H Q=>y=.fM/\Q (.bl (!decide (x=.fM))) H):=by
 intro a s d H x y v u Q I b c h;obtain⟨rfl,q⟩:=h;cases c;refine isnot_none_gen (d7 I q ?_);cases x <;> first
  | (cases b;rfl)
  | (obtain⟨t,rfl⟩:=b;rfl)
theorem UD(b:Expr){op:CmpOp}(h:op≠.In:=by decide)(c:op≠.NotIn:=by decide):behindInMarks op b=false:=by
 have a:(op==CmpOp.In)=false:=by cases op <;> first|rfl|exact b5 rfl h
 have d:(op==CmpOp.NotIn)=false:=by cases op <;> first|rfl|exact b5 rfl c
 cases b <;> simp[behindInMarks,a,d]
theorem Xf{op:CmpOp}{r:R2}(l:yv X (compareOp op) r)(j:PE X a ta)(m:PE X b tb)(i:behindInMarks op b=false):PE X (.Compare a [op] [b] pos) (T5 r ta tb):=by
 intro c s d H Q I h;exact wpAny_Compare1 (aam j m I h λv u f x y e k n g q=>l c f d e x y v u Q k n g q) i
def Qw(t:TE):TT:=λσ H Q=>t σ H (BlR Q)
theorem o6{op:CmpOp}{r:R2}(D:yv X (compareOp op) r)(t:PE X a ta)(F:PE X b tb)(p:behindInMarks op b=false):PT X (.Compare a [op] [b] pos) (Qw (T5 r ta tb)):=by
 intro d s f H Q I h;refine wpAny_isTrue_Compare1 (gV (t d s f H _ I h) λv l ⟨x,n,E,q,w⟩=>gV (F d l f n _ E w) λu m ⟨y,i,B,j,o⟩ =>
  gV (D d m f i x y v u _ B q j o) λc J ⟨z,C,G,g,k,e,A⟩=>?_) p
 subst e;cases g;exact wpAny_truthy_bool ⟨C,G,A⟩
def UE(r r':R2)(ta tb tc:TE):TE:=λσ H Q=>ta σ H λx H1=>tb σ H1 λy H2=>r x y H2 λz H3=>∃k,z=.bl k /\
 (if k=true then tc σ H3 λw' H4=>r' y w' H4 Q else Q (.bl false) H3)
theorem Mw{op g:CmpOp}{r m:R2}(R:yv X (compareOp op) r)(j:yv X (compareOp g) m)(N:PE X a ta)(T:PE X b tb)(A:PE X c tc)
 (J:lastMarks [op,g] [b,c]=false:=by with_unfolding_all rfl):PE X (.Compare a [op,g] [b,c] pos) (UE r m ta tb tc):=by
 intro f s i H Q I h;refine Compare_chain (gV (N f s i H _ I h) λv B ⟨x,D,S,K,O⟩=>chain_link (gV (T f B i D _ S O) λu C ⟨y,w,P,l,G⟩ =>
  gV (R f C i w x y v u _ P K l G) λd F ⟨z,o,p,q,k,e,n⟩=>?_)) J
 subst e;cases q;refine wpAny_truthy_bool ?_;cases k with
 |false=>exact ite_ff ⟨.bl false,o,p,rfl,n⟩
 |true=>exact ite_tt (chain_last (gV (A f F i o _ p n) λL W ⟨E,t,V,M,U⟩=>j f W i t y E u L Q V l M U))
theorem jS{op g:CmpOp}{r m:R2}(Z:yv X (compareOp op) r)(j:yv X (compareOp g) m)(U:PE X a ta)(hb:PE X b tb)(B:PE X c tc)
 (P:lastMarks [op,g] [b,c]=false:=by with_unfolding_all rfl):PT X (.Compare a [op,g] [b,c] pos) (Qw (UE r m ta tb tc)):=by
 intro f s i H Q I h;refine isTrue_chain (gV (U f s i H _ I h) λv D ⟨x,F,I1,R,V⟩=>test_link (gV (hb f D i F _ I1 V) λu E ⟨y,A,Y,l,O⟩ =>
  gV (Z f E i A x y v u _ Y R l O) λd M ⟨z,o,p,q,k,e,n⟩=>?_)) P
 subst e;cases q;refine wpAny_truthy_bool ?_;cases k with
 |false =>
  obtain⟨k',C,W⟩:=n;cases C;exact ite_ff ⟨o,p,W⟩
 |true =>
  refine ite_tt (test_last (gV (B f M i o _ p n) λS s4 ⟨K,t,I4,T,q4⟩=>gV (j f s4 i t y K u S _ I4 l T q4) λd' s5 ⟨z2,J,w,N,k2,G,L⟩=>?_));subst G;cases N;exact wpAny_truthy_bool ⟨J,w,L⟩
def aas(K:af)(x:V)(H:Hp)(k:Bool):Prop :=
 match x with
 |.fM=>k=false
 |.bl b=>k=b
 |.int i=>k=(i != 0)
 |.str y=>y.length<=sizeLine/\k=((y.length:Int) != 0)
 |.Qn y=>y.size<=sizeLine/\k=((y.size:Int) != 0)
 |.ref p=>(∃xs,bQ K H p xs/\k=!xs.isEmpty)∨(∃xs,c7 K H p xs/\k=!xs.isEmpty)∨∃kvs,H p=some (.dK kvs)/\k=!kvs.isEmpty
 |_=>False
theorem OO{κ:Type}{kvs:List (κ×V)}{vs:List (κ×Value)}(r:KV kvs vs):(!vs.isEmpty)=!kvs.isEmpty:=by
 cases r <;> rfl
theorem Gu{xs:List V}{a:List Value}(r:cD xs a):(!a.toArray.isEmpty)=!xs.isEmpty:=by
 cases r <;> simp
theorem Gv:(sizeLine:Nat)<2^63:=by rw[sizeLine_eq];decide
theorem aat:agE X (λx H Q=>∃k,aas X.K x H k/\Q k H):=by
 intro z s C H x v Q I g h;obtain⟨k,e,q⟩:=h;have E:=Gv;have D:sizeLine=16777216:=sizeLine_eq;cases x with
 |fM =>
  cases g;have a:k=false:=e;subst a;exact truthy_none ⟨H,I,q⟩
 |bl b =>
  cases g;have a:k=b:=e;subst a;exact wpAny_truthy_bool ⟨H,I,q⟩
 |int i =>
  obtain⟨t,rfl⟩:=g;have a:k=(i != 0):=e;subst a;exact PySem.P.truthy_int ⟨H,I,q⟩
 |str y =>
  obtain⟨t,rfl⟩:=g;obtain⟨A,a⟩:y.length<=sizeLine/\k=((y.length:Int) != 0):=e;subst a;exact PySem.P.truthy_str ∅ ⟨H,I.tok _,q⟩
 |Qn y =>
  obtain⟨t,rfl⟩:=g;obtain⟨A,a⟩:y.size<=sizeLine/\k=((y.size:Int) != 0):=e;subst a;exact PySem.W.truthy_bytes ∅ ⟨H,I.tok _,q⟩
 |ref p =>
  cases g;have a:(∃f,bQ X.K H p f/\k=!f.isEmpty)∨(∃f,c7 X.K H p f/\k=!f.isEmpty)∨∃c,H p=some (.dK c)/\k=!c.isEmpty:=e;rcases a with ⟨f,j,a⟩|⟨f,j,a⟩|⟨c,j,a⟩
  ·subst a
   obtain⟨o,r,n,u⟩:=I.list j;have d:=r.length;exact wpAny_truthy_list n.isList (by simp only[aX];lia) ⟨H,I.tok _,by rw[Gu r];exact q⟩
  ·subst a
   obtain⟨o,r,n,u⟩:=I.tuple j;have d:=r.length;exact truthy_tuple n (by simp only[aX];lia) ⟨H,I.tok _,by rw[Gu r];exact q⟩
  ·subst a
   obtain⟨u,B,l,r,m⟩:c.length<=sizeLine/\(p==sysModules)=false/\∃l,KV c l/\s.heap.DictOf (ig X.prog X.w) p l:=I.hok p _ j;have d:c.length=l.length:=Paired.length r;exact wpAny_truthy_dict B m ∅ ⟨H,I.tok _,by rw[OO r];exact q⟩
 |_=>exact (show False from e).elim
theorem UG(j:PE X a ta)(n:∀b,isTrue a X.env b=(do let v <- b;standAt a.pos;holding [v] (truthy v))) :
 PT X a (λd H Q=>ta d H λx e=>∃k,aas X.K x e k/\Q k e):=by
 intro c s d H Q I h;exact isTrue_plain (gV (j c s d H _ I h) λv f ⟨x,g,m,i,l⟩=>aat c f d g x v Q m i l) (n _)
theorem vals1{x:V}{us:List Value}(r:cD [x] us):∃u,us=[u]/\RelV x u:=by
 cases r with
 |cons b a=>cases a;exact⟨_,rfl,b⟩
theorem vals2{x y:V}{us:List Value}(r:cD [x,y] us):∃u a,us=[u,a]/\RelV x u/\RelV y a:=by
 cases r with
 |cons d b =>
  cases b with
  |cons c e=>cases e;exact⟨_,_,rfl,d,c⟩
theorem Sa(c:X.calm=true):ue X (.builtin "max") (λxs H Q=>∃i j,xs=[.int i,.int j]/\Q (.int (if j > i then j else i)) H):=by
 intro b s d H xs m Q I r h;obtain⟨i,j,rfl,q⟩:=h;obtain⟨u,f,rfl,⟨t,rfl⟩,⟨g,rfl⟩⟩:=vals2 r;refine max_two_ints (I.ok.hd c) λe l k=>⟨_,H,I.kept k,?_,q⟩;by_cases a:j > i
 ·rw[aq a,aq a];exact⟨_,rfl⟩
 ·rw[b3 a,b3 a];exact⟨_,rfl⟩
theorem JG(c:X.calm=true):ue X (.builtin "min") (λxs H Q=>∃i j,xs=[.int i,.int j]/\Q (.int (if j<i then j else i)) H):=by
 intro b s d H xs m Q I r h;obtain⟨i,j,rfl,q⟩:=h;obtain⟨u,f,rfl,⟨t,rfl⟩,⟨g,rfl⟩⟩:=vals2 r;refine min_two_ints (I.ok.hd c) λe l k=>⟨_,H,I.kept k,?_,q⟩;by_cases a:j<i
 ·rw[aq a,aq a];exact⟨_,rfl⟩
 ·rw[b3 a,b3 a];exact⟨_,rfl⟩
end
structure OP(h:Heap)(x dx C:Addr)(mA:Str->Option Value):Prop where
 obj:h.get? x=some (jN C dx)
 ns:h.Ns1 dx mA
 ne:dx≠x
theorem JH{h:Heap}{c:Addr}{g:Str->Option Value}(n:h.Ns1 c g):∃f,h.get? c=some f/\∀name,PySem.W.lookIn name f=some (g name):=by
 obtain⟨o,d,r,m,i,p,_,k⟩:=n;refine⟨o,m,λname=>?_⟩;have e:=k name;unfold nsFind findBy at e;rw[<- Array.find?_toList] at e;unfold PySem.W.lookIn;rw[i];dsimp only;split
 ·rename_i y q
  rw[q] at e;exact er some e
 ·rename_i q
  rw[q] at e;have a:d.toList.any (·.refKey)=false:=by
   rw[List.any_eq_false];intro y j;obtain⟨z,t,b⟩:=p y (ic.mp j);simp[DictEntry.refKey,b]
  have l:¬d.toList.any (·.refKey)=true:=by rw[a];exact aJ
  rw[b3 l];exact er some e
theorem OP.look{h:Heap}{x b C:Addr}{c:Str->Option Value}(I:OP h x b C c):∃a,PySem.W.InstAt h x (jN C b) C (some a)/\∀name,PySem.W.lookIn name a=some (c name) :=
 let ⟨a,e,d⟩:=JH I.ns
 ⟨a,⟨I.obj,rfl,rfl,e⟩,d⟩
section
variable{prog:Program}{w:World}{A:Around}{E:Value->Shared->Prop}{s:Shared}{K:af}{x dx C f:Addr}{mA:Str->Option Value}{name:Str}{v:Value}
theorem get_map{a:Bool}{Q:Value->Shared->Prop}(X:K.In s.heap)(I:OP s.heap x dx C mA)(e:wR K C name=true)(d:uI K C=true)
 (f:aL K (.ref C) name=some none) (g:mA name=some v) (b:PySem.W.handedIn v=true) (h:Q v {s with toks:=s.toks+1}) :
 wpAny (model prog w) A (getAttr (.ref x) name a) Q E s:=by
 obtain⟨i,J,c⟩:=I.look;exact PySem.W.get_value X J (PySem.W.plainGet_of e).1 (PySem.W.findObj_own d f rfl (by rw[c,g])) b h
theorem UH{pl:Sem Bool}{Q:Value×List Value->Shared->Prop}(X:K.In s.heap)(I:OP s.heap x dx C mA)(a:wR K C name=true)
 (e:aL K (.ref C) name=some (some (.ref f))) (c:PySem.W.isFn K (.ref f)=true) (g:mA name=none) (h:Q (.ref f,[.ref x]) s) :
 wpAny (model prog w) A (getMethod (.ref x) name pl) Q E s:=by
 obtain⟨d,J,b⟩:=I.look;exact PySem.W.method_fn X J (PySem.W.plainGet_of a).1 (PySem.W.plainGet_of a).2 e (beq_iff_eq.mp c) (by show (PySem.W.lookIn name d).map (·.isSome)=some false;rw[b,g];rfl) h
theorem Xg{ns:List Str}{Q:Unit->Shared->Prop}(X:K.In s.heap)(I:OP s.heap x dx C mA)
 (hs:aL K (.ref C) "__setattr__" = some (some (.builtin "object.__setattr__"))) (o:PySem.W.plainOver K C=true) (p:PySem.W.takerIn K C name=some none) (q:uI K C=true)
 (n:PySem.Within mA ns) (hsz:ns.length<=sizeLine)
 (h:∀h',OP h' x dx C (λy=>if y=name then some v else mA y)->Heap.SameBut dx s.heap h'->Q () {s with heap:=h',toks:=s.toks+2}) :
 wpAny (model prog w) A (setAttr (.ref x) name v) Q E s:=by
 obtain⟨B,J,u⟩:=I.look;refine PySem.W.set_plain X J hs (PySem.W.osa_open (s:={s with toks:=s.toks+1}) (r:=none) X J o p λb=>?_);obtain⟨t,j,i⟩:=PySem.W.any_some q;have m:s.heap.get? x=some ⟨.ref C,some dx,.plain,#[]⟩:=I.obj;refine wpAny_bind (wpAny_pure (wpAny_bind (wpAny_bind (wpAny_loadPart m (wpAny_bind (PySem.W.Looks.here (s:={s with toks:=s.toks+1}) (PySem.W.looks_clsIn X j) ?_))))));rw[i];refine wpAny_pure (a:=some dx) (wpAny_bind (wpAny_pure (wpAny_bind ?_)));refine wpAny_nsSet1 (s:={s with toks:=s.toks+1}) I.ns λh' c d=>?_;obtain⟨z,l,k,g,f,e⟩:=c.count (PySem.Within.cons name v n);refine wpAny_bind (wpAny_lookBehind g (by rw[f];exact pastItsLine_dict (aU e (by rw[bE];lia))) ?_);exact wpAny_pure (h _ ⟨(d.2 _ (bN I.ne)).trans I.obj,c,I.ne⟩ d)
theorem UI{R:Result->Shared->Prop}{vs:List Value}{b:List (Str×Value)}(X:K.In s.heap)(e:PySem.W.makesIn K C=true)
 (c:aL K (.ref C) "__init__" = some (some (.ref f))) (i:PySem.W.typeIn K (.ref f)=some (.type "function"))
 (h:codeAny (model prog w) (A.under (.builtin "type.__call__" ⟨.ref C::vs,b⟩)) (.call (.ref f) ⟨.ref (s.heap.objs.size+1)::vs,b⟩) (PySem.W.InitBack (s.heap.objs.size+1) R)
  {s with heap:=(s.heap.push gk).push (jN C s.heap.objs.size)}) :
 codeAny (model prog w) A (.call (.ref C) ⟨vs,b⟩) R s:=by
 obtain⟨j,g,d,t,os⟩:=s;exact PySem.W.make_core (PySem.W.makes_of X e) (PySem.W.looks_findIn X c) (λa=>PySem.W.bind_fn X a i) (.inl rfl) h
end
noncomputable def yO(f:Str)(v:V):List (Str×V)->List (Str×V)
 |[]=>[(f,v)]
 | (g,x)::r=>if g=f then (g,v)::r else (g,x)::yO f v r
theorem EL(f g:Str)(v:V):∀c:List (Str×V),(yO f v c).lookup g=if g=f then some v else c.lookup g
 |[]=>by
  show qu g [(f,v)]=_;by_cases h:g=f
  ·have a:(g==f)=true:=beq_iff_eq.mpr h
   simp only[qu,a,aq h]
  ·have a:(g==f)=false:=beq_eq_false_iff_ne.mpr h
   simp only[qu,a,b3 h]
 | (k,x)::r=>by
  have d:=EL f g v r;rw[show yO f v ((k,x)::r)=(if k=f then (k,v)::r else (k,x)::yO f v r) from rfl];by_cases b:k=f
  ·rw[aq b]
   by_cases h:g=k
   ·have a:(g==k)=true:=beq_iff_eq.mpr h
    simp only[qu,a,aq (h.trans b)]
   ·have a:(g==k)=false:=beq_eq_false_iff_ne.mpr h
    simp only[qu,a,b3 (λe:g=f=>h (e.trans b.symm))]
  ·rw[b3 b]
   by_cases h:g=k
   ·have a:(g==k)=true:=beq_iff_eq.mpr h
    simp only[qu,a,b3 (λe:g=f=>b (h.symm.trans e))]
   ·have a:(g==k)=false:=beq_eq_false_iff_ne.mpr h
    simp only[qu,a];exact d
theorem DH(f:Str)(v:V):∀a:List (Str×V),f∈(yO f v a).map (·.1)/\∀g,g∈a.map (·.1)->g∈(yO f v a).map (·.1)
 |[]=>⟨by simp[yO],λg h=>by simp at h⟩
 | (k,x)::r=>by
  obtain⟨d,c⟩:=DH f v r;rw[show yO f v ((k,x)::r)=(if k=f then (k,v)::r else (k,x)::yO f v r) from rfl];by_cases b:k=f
  ·rw[aq b]
   subst b;exact⟨-_,λg h=>by simpa using h⟩
  ·rw[b3 b]
   refine⟨?_,λg h=>?_⟩
   ·rw[bH]
    exact bw _ d
   ·rw[bH] at h ⊢
    rcases be.mp h with e|e
    ·exact be.mpr (.inl e)
    ·exact bw _ (c g e)
theorem EN(f:Str)(v:V):∀a:List (Str×V),(yO f v a).length<=a.length+1
 |[]=>by simp[yO]
 | (k,x)::r=>by
  have c:=EN f v r;rw[show yO f v ((k,x)::r)=(if k=f then (k,v)::r else (k,x)::yO f v r) from rfl];by_cases b:k=f
  ·rw[aq b,bE,bE];lia
  ·rw[b3 b,bE,bE];lia
theorem AV.some_of{v:V}{o:Option Value}(r:AV (some v) o):∃u,o=some u/\RelV v u:=by
 cases o with
 |none=>exact (show False from r).elim
 |some u=>exact⟨u,rfl,r⟩
theorem AV.none_of{o:Option Value}(r:AV none o):o=none:=by
 cases o with
 |none=>rfl
 |some u=>exact (show False from r).elim
theorem Sb{v:V}{u:Value}(r:RelV v u):PySem.W.handedIn u=true:=by
 cases v with
 |fM=>cases (show u=Value.none from r);rfl
 |bl b=>cases (show u=Value.bool b from r);rfl
 |int i=>obtain⟨t,e⟩:=(show ∃t,u=Value.int i t from r);cases e;rfl
 |str x=>obtain⟨t,e⟩:=(show ∃t,u=Value.str x t from r);cases e;rfl
 |Qn b=>obtain⟨t,e⟩:=(show ∃t,u=Value.bytes b t from r);cases e;rfl
 |Iu b=>obtain⟨t,e⟩:=(show ∃t,u=Value.float b t from r);cases e;rfl
 |ref a=>cases (show u=Value.ref a from r);rfl
 |ty n=>cases (show u=Value.type n from r);rfl
section
variable{P:Program}{w:World}{H H':Hp}{h h':Heap}{a C dx:Addr}{fs fs':List (Str×V)}
theorem K3(c:yS P w H h)(e:H a=some (.ins C dx fs)):∃b,OP h a dx C b/\(∀f,AV (fs.lookup f) (b f))/\PySem.Within b (fs.map (·.1))/\fs.length<=1000/\H dx=some (.own a):=by
 obtain⟨d,z,g,i,b,n,r,q⟩:=(show gU P w H h a (.ins C dx fs) from c a _ e);exact⟨b,⟨i,n,g⟩,r,q,z,d⟩
end
structure IF(K:af)(C:Addr):Prop where
 pg:wR K C Str.empty=true
 hd:uI K C=true
 po:PySem.W.plainOver K C=true
 sa:aL K (.ref C) "__setattr__" = some (some (.builtin "object.__setattr__"))
theorem IF.get{K:af}{C:Addr}(c:IF K C)(f:Str):wR K C f=true:=c.pg
def dB(K:af)(C:Addr)(f:Str):Prop:=aL K (.ref C) f=some none
theorem dB.ac7{K:af}{C:Addr}{f:Str}(n:dB K C f):PySem.W.takerIn K C f=some none:=by
 unfold PySem.W.takerIn;rw[show aL K (.ref C) f=some none from n];rfl
structure K4(K:af)(C:Addr)(m:Str)(f:Addr):Prop where
 at_:aL K (.ref C) m=some (some (.ref f))
 fn:PySem.W.isFn K (.ref f)=true
 kp:d9 K (.ref f)=true
section
variable{X:Cx}{pins:List (Addr×Obj)}{σ:St}{H:Hp}{s:Shared}{a C dx:Addr}{fs:List (Str×V)}{f:Str}{v:V}{A:Around}{E:Value->Shared->Prop}
theorem OQ{b:Bool}{Q:Value->Shared->Prop}(I:Inv X pins σ H s)(e:H a=some (.ins C dx fs))(c:IF X.K C)(n:dB X.K C f)(l:fs.lookup f=some v)
 (h:∀u s',Inv X pins σ H s'->RelV v u->Q u s'):wpAny (model X.prog X.w) A (getAttr (.ref a) f b) Q E s:=by
 obtain⟨g,O,r,_,_,_⟩:=K3 I.hok e;obtain⟨u,i,d⟩:=AV.some_of (v:=v) (o:=g f) (by rw[<- l];exact r f);exact get_map I.Mm O (c.get f) c.hd n i (Sb d) (h u _ (I.tok _) d)
theorem Gw{m:Str}{g:Addr}{pl:Sem Bool}{Q:Value×List Value->Shared->Prop}(I:Inv X pins σ H s)(e:H a=some (.ins C dx fs))(c:IF X.K C)(k:K4 X.K C m g)(l:fs.lookup m=none)
 (h:Q (.ref g,[.ref a]) s):wpAny (model X.prog X.w) A (getMethod (.ref a) m pl) Q E s:=by
 obtain⟨b,O,r,_,_,_⟩:=K3 I.hok e;have d:b m=none:=AV.none_of (by rw[<- l];exact r m);exact UH I.Mm O (c.get m) k.at_ k.fn d h
theorem OR{y:V}{u:Value}{Q:Unit->Shared->Prop}(I:Inv X pins σ H s)(e:H a=some (.ins C dx fs))(c:IF X.K C)(n:dB X.K C f)(hl:fs.length<1000)(v:RelV y u)
 (h:∀s',Inv X pins σ (upd H a (.ins C dx (yO f y fs))) s'->Q () s'):wpAny (model X.prog X.w) A (setAttr (.ref a) f u) Q E s:=by
 obtain⟨k,O,r,i,_,j⟩:=K3 I.hok e;have p:(fs.map (·.1)).length<=sizeLine:=by rw[ah,sizeLine_eq];lia
 refine Xg I.Mm O c.sa c.po n.ac7 c.hd i p λm d l=>h _ ?_;have hd:∃o,m.get? dx=some o:=let ⟨o,_,_,t,_⟩:=d.ns;⟨o,t⟩;refine I.write (x:=a) (e:=dx) (by rw[e];exact True.intro) (.inr j) (λb q D z=>(l.2 b D).trans z) hd ?_;refine⟨by rw[aK O.ne];exact j,?_,O.ne,d.obj,_,d.ns,λg=>?_,λg B=>?_⟩
 ·have:=EN f y fs;lia
 ·show AV ((yO f y fs).lookup g) (if g=f then some u else k g)
  rw[EL];by_cases q:g=f
  ·rw[aq q,aq q];exact v
  ·rw[b3 q,b3 q];exact r g
 ·by_cases q:g=f
  ·rw[q];exact (DH f y fs).1
  ·refine (DH f y fs).2 g (i g λz=>B ?_)
   show (if g=f then some u else k g)=none;rw[b3 q];exact z
theorem Inv.made(I:Inv X pins σ H s):Inv X pins σ (upd (upd H s.heap.objs.size (.own (s.heap.objs.size+1))) (s.heap.objs.size+1) (.ins C s.heap.objs.size []))
 {s with heap:=(s.heap.push gk).push (jN C s.heap.objs.size)}:=by
 have d:(s.heap.push gk).get? s.heap.objs.size=some gk:=Heap.get?_push_size s.heap rfl;have g:((s.heap.push gk).push (jN C s.heap.objs.size)).get? (s.heap.objs.size+1)=some (jN C s.heap.objs.size):=by
  have:=Heap.get?_push_size (s.heap.push gk) (o:=jN C s.heap.objs.size) rfl
  rwa [Heap.size_push] at this
 have h:(s.heap.push gk).Ns s.heap.objs.size (λ_=>none):=⟨gk,#[],_,d,rfl,(λe j=>b5 j (-_)),λ_=>rfl⟩;have i:=I.laid (a:=s.heap.objs.size) (o:=.own (s.heap.objs.size+1)) (h':=s.heap.push gk) (t':=s.toks) (λb u q=>Heap.get?_push_of_some _ q) (aB _) ⟨_,d⟩;refine i.laid (a:=s.heap.objs.size+1) (o:=.ins C s.heap.objs.size []) (t':=s.toks) (λb u q=>Heap.get?_push_of_some _ q) (Nat.le_of_eq (Heap.size_push _ _)) ?_;have c:s.heap.objs.size≠s.heap.objs.size+1:=bz (wU _);refine⟨by rw[aK c,aC],bI _,c,g,λ_=>none,(Heap.Ns1.of_empty h).at λo q=>Heap.get?_push_of_some _ q,λ_=>True.intro,λy f=>b5 rfl f⟩
theorem Xh{prog:Program}{w:World}{env:Env}{e:Expr}{f:Str}{b:Pos}{s:Shared}{Q:Value->Shared->Prop}(c:attributeBase e f env (eval e env)=eval e env)
 (h:wpAny (model prog w) A (eval e env) (λo a=>wpAny (model prog w) A (getAttr o f true) Q E a) E s):wpAny (model prog w) A (eval (.Attribute e f b) env) Q E s :=
 Attribute_any_ h (by rw[arm_eval_Attribute,c])
end
inductive ac8(K:af)(f:Str)(Q:VK)(x:V)(H1:Hp):Prop
 |mk (a C dx:Addr) (fs:List (Str×V)) (v:V) (h1:x=.ref a) (h2:H1 a=some (.ins C dx fs)) (h3:IF K C) (h4:dB K C f) (h5:fs.lookup f=some v) (h6:Q v H1):ac8 K f Q x H1
def Gx(K:af)(ta:TE)(f:Str):TE:=λσ H Q=>ta σ H (ac8 K f Q)
def agG(K:af)(ta tv:TE)(f:Str):TS:=λD σ H=>tv σ H λy H1=>ta σ H1 λx H2=>∃a C dx fs,x=.ref a/\H2 a=some (.ins C dx fs)/\IF K C/\dB K C f/\fs.length<1000 /\
 D.nx σ (upd H2 a (.ins C dx (yO f y fs)))
section
variable{X:Cx}{o e value:Expr}{f:Str}{pos pos' tpos:Pos}{ta tv:TE}
theorem bf(t:PE X e ta)(p:attributeBase e f X.env (eval e X.env)=eval e X.env):PE X (.Attribute e f pos) (Gx X.K ta f):=by
 intro b s g H Q I h;refine Xh p (gV (t b s g H _ I h) λu y ⟨x,j,o,r,a,C,w,A,v,d,i,c,n,l,q⟩=>?_);subst d;obtain rfl:u=Value.ref a:=r;exact OQ o i c n l λB z m k=>⟨v,j,m,k,q⟩
theorem fZ(t:PE X o ta)(m:PE X value tv)(hs:swapsWith value (some (.Attribute o f pos')) pos.line X.env=pure false):PS X (.Assign [.Attribute o f pos'] value pos) (agG X.K ta tv f):=by
 intro b s d H D I h;refine plainObj_wpAny_Assign_Attribute (gV (m b s d H _ I h) λu i ⟨y,j,w,p,q⟩=>gV (t b i d j _ w q) λk F ⟨x,E,v,z,a,C,B,G,e,g,c,n,l,r⟩=>?_) hs;subst e;obtain rfl:k=Value.ref a:=z;exact OR v g c n l p λJ A=>⟨d,_,A,r⟩
end
structure jT(k:Nat)(A:Around):Prop where
 hd:A.handled=none
 dp:A.depth+3*k+5<recursionLimit
 un:A.units+16*k+200<cLine
theorem jT.mono{j k:Nat}{A:Around}(r:jT k A)(h:j<=k):jT j A:=⟨r.hd,by have:=r.dp;lia,by have:=r.un;lia⟩
theorem jT.deeper{k:Nat}{A:Around}(r:jT (k+1) A)(env:Env):jT k (A.deeper env) :=
 ⟨r.hd,by have:=r.dp;show A.depth+1+3*k+5<_;lia,by have:=r.un;show A.units+3+16*k+200<_;lia⟩
theorem OT{A:Around}{C:Addr}{us:List Value}{a:List (Str×Value)}:(A.under (.builtin "type.__call__" ⟨.ref C::us,a⟩)).depth=A.depth+1:=by
 first|rfl|simp[Around.under,Code.weight,Code.isCreation,Code.isGuard,Code.isCaller,Code.frames,Code.isFrame,guardIds]
theorem OU{A:Around}{C:Addr}{us:List Value}{a:List (Str×Value)}:(A.under (.builtin "type.__call__" ⟨.ref C::us,a⟩)).units=A.units+1:=by
 first|rfl|simp[Around.under,Code.cUnits,Code.frames,Code.isFrame]
theorem jT.make{k:Nat}{A:Around}(r:jT (k+1) A)(C:Addr)(us:List Value)(a:List (Str×Value)):jT k (A.under (.builtin "type.__call__" ⟨.ref C::us,a⟩)) :=
 ⟨r.hd,by have:=r.dp;rw[OT];lia,by have:=r.un;rw[OU];lia⟩
theorem jT.depth{k:Nat}{A:Around}(r:jT k A):A.depth<recursionLimit:=by have:=r.dp;lia
theorem jT.units{k:Nat}{A:Around}(r:jT k A):A.units+64<cLine:=by have:=r.un;lia
def vP:TA:=λ_ H Q=>Q [] H
def fz(ta:TE)(tr:TA):TA:=λσ H Q=>ta σ H λx H1=>tr σ H1 λxs H2=>Q (x::xs) H2
section
variable{X:Cx}{e:Expr}{es:List Expr}{te:TE}{t:TA}{pos:Pos}
theorem iz:PA X [] vP:=λ_ _ _ _ H Q I h=>Calls.spliced_nil ⟨[],H,I,.nil,h⟩
theorem Xi(m:PE X e te)(l:PA X es t)(hs:starEach (e::es) X.env=(false,eval e X.env)::starEach es X.env:=by rfl):PA X (e::es) (fz te t):=by
 intro pos a s b H Q I h;rw[hs];show wpAny _ _ (spliced ((false,eval e X.env)::backTo pos (starEach es X.env))) _ _ s;refine Calls.spliced_cons (gV (m a s b H _ I h) λu f ⟨x,g,p,j,n⟩=>?_);exact gV (l pos a f b g _ p n) λr q ⟨k,c,o,d,i⟩=>⟨x::k,c,o,.cons j d,i⟩
def agH(t:TA):TE:=λσ H Q=>t σ H λxs H1=>xs.length<=sizeLine/\∀p,H1 p=none->Q (.ref p) (upd H1 p (.tup xs))
def ac9(t:TA):TE:=λσ H Q=>t σ H λxs H1=>xs.length<=sizeLine/\∀p,H1 p=none->Q (.ref p) (upd H1 p (.lst xs))
theorem iH{x1}(h:PA X es t):PE X (.Tuple es x1 pos) (agH t):=by
 intro a s g H Q I j;refine wpAny_Tuple_spliced (gV (h pos a s g H _ I j) λl c ⟨i,d,f,r,z,q⟩=>⟨by rw[<- r.length];exact z,?_⟩);have k:d c.heap.objs.size=none:=f.hok.fresh (aB _);refine⟨.ref c.heap.objs.size,upd d c.heap.objs.size (.tup i),f.laid (t':=c.toks) (λb u e=>Heap.get?_push_of_some _ e) (aB _) ?_,rfl,q _ k⟩;exact⟨z,l,r,⟨_,Heap.get?_push_size _ rfl,rfl,_,rfl⟩⟩
theorem jB(h:PA X es t):PE X (.List es pos) (ac9 t):=by
 intro a s g H Q I j;refine wpAny_List_spliced (gV (h pos a s g H _ I j) λl c ⟨i,d,f,r,z,q⟩=>⟨by rw[<- r.length];exact z,?_⟩);have k:d c.heap.objs.size=none:=f.hok.fresh (aB _);refine⟨.ref c.heap.objs.size,upd d c.heap.objs.size (.lst i),f.laid (t':=c.toks) (λb u e=>Heap.get?_push_of_some _ e) (aB _) ?_,rfl,q _ k⟩;exact⟨z,l,0,r,Heap.get?_push_size _ rfl⟩
end
abbrev Sp:=List V->Hp->VK->XK->Prop
abbrev Sd:=List Env->Hp->Shared->XK->Value->Shared->Prop
structure OV(P:Program)(w:World)(K:af)(mg:Str->Option Value)(base:Heap)(A:Around)(outer:List Env)(s:Shared)(H:Hp):Prop where
 frames:A.frames=some outer
 mod:Mod K mg base
 bs:∀b o,base.get? b=some o->s.heap.get? b=some o/\H b=none
 WN:base.objs.size<=s.heap.objs.size
 Cw:s.heap.FunFrames base outer
 Y5:∀b∈frs outer,H b=none
 hok:yS P w H s.heap
 bare:AllBare s.gens
def CE(outer:List Env)(P:Program)(w:World)(H:Hp)(s:Shared)(Q:VK)(u:Value)(s':Shared):Prop :=
 ∃v H',s'.os=s.os/\AllBare s'.gens/\Un (frs outer) [] H H' s.heap s'.heap/\yS P w H' s'.heap/\RelV v u/\Q v H'
def CR(CX:Sd)(outer:List Env)(P:Program)(w:World)(H:Hp)(s:Shared)(Q:VK)(E:XK)(r:Result)(s':Shared):Prop :=
 match r with
 |.ok (.ret u)=>CE outer P w H s Q u s'
 |.ok _=>False
 |.error e=>CX outer H s E e s'
structure cE(P:Program)(w:World)(K:af)(mg:Str->Option Value)(base:Heap)(CX:Sd)(k:Nat)(f:Addr)(fd:FuncData)(ps:List Str)(sp:Sp):Prop where
 len:∀vs H Q E,sp vs H Q E->vs.length=ps.length
 run:∀(A:Around) (outer:List Env) (s:Shared) (H:Hp) (args:Args) (us:List Value) (vs:List V) (Q:VK) (E:XK),jT k A->OV P w K mg base A outer s H->BindsTo s fd args (ps.zip us)->cD vs us->sp vs H Q E ->
  codeAny (model P w) A (.call (.ref f) args) (CR CX outer P w H s Q E) s
theorem OV.make{P:Program}{w:World}{K:af}{b:Str->Option Value}{base:Heap}{A:Around}{a:List Env}{s:Shared}{H:Hp}(e:OV P w K b base A a s H)(C:Addr)(us:List Value)(c:List (Str×Value)) :
 OV P w K b base (A.under (.builtin "type.__call__" ⟨.ref C::us,c⟩)) a s H:=⟨by first|exact e.frames|(simpa [Around.under,Code.envs,Code.isFrame,pushEnvs] using e.frames),e.mod,e.bs,e.WN,e.Cw,e.Y5,e.hok,e.bare⟩
section
variable{X:Cx}{pins:List (Addr×Obj)}{σ:St}{H:Hp}{s s':Shared}
theorem Inv.ada(I:Inv X pins σ H s):OV X.prog X.w X.K X.mg X.base X.A X.stack s H :=
 ⟨I.ok.frames,I.ok.mod,I.bs,aU I.ok.WN I.sz,I.stack,I.KQ,I.hok,I.bare⟩
theorem Inv.after{Q:VK}{u:Value}(I:Inv X pins σ H s)(h:CE X.stack X.prog X.w H s Q u s'):EP X pins σ Q u s':=by
 obtain⟨v,i,os,a,j,c,r,q⟩:=h;obtain⟨f,g,d,t,e⟩:=s';obtain rfl:e=s.os:=os;exact⟨v,i,I.call (h':=f) (g':=g) (d':=d) (t':=t) (ch:=[]) j c a (λb z=>b5 z (-_)),r,q⟩
end
def Zc(sp:Sp)(BA:List V)(E:XK)(t:TA):TE:=λσ H Q=>t σ H λvs H1=>sp (vs++BA) H1 Q E
inductive Zd(C:Addr)(m:Str)(sp:Sp)(BA:List V)(E:XK)(t:TA)(σ:St)(Q:VK)(x:V)(H1:Hp):Prop
 |mk (a dx:Addr) (fs:List (Str×V)) (h1:x=.ref a) (h2:H1 a=some (.ins C dx fs)) (h3:fs.lookup m=none) (h4:t σ H1 λvs H2=>sp (x::(vs++BA)) H2 Q E):Zd C m sp BA E t σ Q x H1
def yV(C:Addr)(m:Str)(sp:Sp)(BA:List V)(E:XK)(ta:TE)(t:TA):TE:=λσ H Q=>ta σ H (Zd C m sp BA E t σ Q)
def UJ(C:Addr)(sp:Sp)(BA:List V)(E:XK)(t:TA):TE:=λσ H Q=>t σ H λvs H1=>∀x dx,H1 x=none->H1 dx=none->dx≠x ->
 sp (.ref x::(vs++BA)) (upd (upd H1 dx (.own x)) x (.ins C dx [])) (λv H2=>v=.fM/\Q (.ref x) H2) E
def Binds(K:af)(fd:FuncData)(ps:List Str)(ds:List Value):Prop :=
 ∀(s:Shared) (us:List Value),K.In s.heap->(us++ds).length=ps.length->BindsTo s fd ⟨us,[]⟩ (ps.zip (us++ds))
theorem Binds.all{K:af}{b:FuncData}{ps:List Str}(h:∀us:List Value,us.length=ps.length->bindArgs b ⟨us,[]⟩=pure (ps.zip us)):Binds K b ps []:=λs us _ a=>by
 rw[bZ] at a ⊢;exact .of_eq (h us a)
def sj(CX:Sd)(X:Cx)(E:XK):Prop:=∀(pins:List (Addr×Obj)) (σ:St) (H:Hp) (s:Shared) (e:Value) (s':Shared),Inv X pins σ H s->CX X.stack H s E e s'->X.xe e s'
section
variable{X:Cx}{CX:Sd}{k:Nat}{f C:Addr}{fd:FuncData}{ps:List Str}{sp:Sp}{BA:List V}{ds:List Value}{E:XK}{x m:Str}{p pos apos:Pos}{e o:Expr}{es:List Expr}{ta:TE}{t:TA}
theorem K5{a:List (Addr×Obj)}{c:St}{H:Hp}{s:Shared}{Q:VK}{us:List Value}{vs:List V}(F:cE X.prog X.w X.K X.mg X.base CX k f fd ps sp)(j:jT k X.A)(n:Binds X.K fd ps ds)(g:cD BA ds)(i:sj CX X E)
 (I:Inv X a c H s) (r:cD vs us) (h:sp (vs++BA) H Q E):wpAny (model X.prog X.w) X.A (call (.ref f) us) (EP X a c Q) X.xe s:=by
 have d:cD (vs++BA) (us++ds):=r.append g;have m:(us++ds).length=ps.length:=by rw[<- d.length];exact F.len _ _ _ _ h
 refine wpAny_call (codeAny_mono (F.run X.A X.stack s H ⟨us,[]⟩ (us++ds) (vs++BA) Q E j I.ada (n s us I.Mm m) d h) λr l b=>?_);cases r with
 |error e=>exact i a c H s e l I b
 |ok o =>
  cases o with
  |ret u=>exact I.after b
  |next=>exact jQ b
  |brk=>exact jQ b
  |cont=>exact jQ b
theorem Ax(F:cE X.prog X.w X.K X.mg X.base CX k f fd ps sp)(m:jT k X.A)(o:Gl X x)(l:X.mg x=some (.ref f))(y:d9 X.K (.ref f)=true)(u:Binds X.K fd ps ds)(i:cD BA ds)(j:sj CX X E)
 (n:PA X (e::es) t) (b:(x==("__debug__" : Str))=false:=by decide) (v:starEach (e::es) X.env=(false,eval e X.env)::starEach es X.env:=by rfl) (c:(backTo pos (starEach es X.env)).any (·.1)=false:=by rfl) :
 PE X (.Call (.Name x p) (e::es) [] pos) (Zc sp BA E t):=by
 intro a s g H Q I h;refine wpAny_Call_Name_kw (Cz I o l ?_ b);refine PySem.W.callWith_K (h₀:=X.base) I.ok.mod.Z9 y (gV (n pos a s g H _ I h) λD z ⟨C,B,d,r,q⟩=>⟨d.Mm,?_⟩) v c;exact K5 F m u i j d r q
theorem Ay{pl:Sem Bool}(R:PE X o ta)(c:IF X.K C)(hm:K4 X.K C m f)(F:cE X.prog X.w X.K X.mg X.base CX k f fd ps sp)(L:jT k X.A)(O:Binds X.K fd ps ds)(z:cD BA ds)(J:sj CX X E)(M:PA X (e::es) t)
 (d:starEach (e::es) X.env=(false,eval e X.env)::starEach es X.env:=by rfl) (g:(backTo pos (starEach es X.env)).any (·.1)=false:=by rfl)
 (N:eval (.Call (.Attribute o m apos) (e::es) [] pos) X.env=(do
  let j <- eval o X.env
  standAt apos.atName
  let (f,first) <- holding [j] (getMethod j m pl)
  callWith pos f first (backTo pos (starEach (e::es) X.env)) (backToKw pos (keywordEach [] X.env))):=by rfl) :
 PE X (.Call (.Attribute o m apos) (e::es) [] pos) (yV C m sp BA E ta t):=by
 intro b s i H Q I h;refine PySem.W.methodCall_KW (pl:=pl) (gV (R b s i H _ I h) λu B ⟨x,D,p,P,a,S,V,v,y,l,q⟩=>?_) N;subst v;obtain rfl:u=Value.ref a:=P;refine Gw p y c hm l ?_;refine PySem.W.callWith_K (first:=[.ref a]) (h₀:=X.base) I.ok.mod.Z9 hm.kp (gV (M pos b B i D _ p q) λus U ⟨vs,T,n,r,G⟩=>⟨n.Mm,?_⟩) d g;exact K5 (us:=.ref a::us) (vs:=.ref a::vs) F L O z J n (.cons rfl r) G
theorem kN{pl:Sem Bool}(z:PE X o ta)(c:IF X.K C)(hm:K4 X.K C m f)(F:cE X.prog X.w X.K X.mg X.base CX k f fd ps sp)(r:jT k X.A)(v:Binds X.K fd ps ds)(n:cD BA ds)(p:sj CX X E)
 (t:eval (.Call (.Attribute o m apos) [] [] pos) X.env=(do
  let e <- eval o X.env
  standAt apos.atName
  let (f,first) <- holding [e] (getMethod e m pl)
  callWith pos f first (backTo pos (starEach [] X.env)) (backToKw pos (keywordEach [] X.env))):=by rfl) :
 PE X (.Call (.Attribute o m apos) [] [] pos) (yV C m sp BA E ta vP):=by
 intro b s i H Q I h;refine PySem.W.methodCall_KW (pl:=pl) (gV (z b s i H _ I h) λu D ⟨x,G,d,y,a,B,J,g,j,l,q⟩=>?_) t;subst g;obtain rfl:u=Value.ref a:=y;refine Gw d j c hm l ?_;exact PySem.W.callWith_K0 (first:=[.ref a]) d.Mm hm.kp (K5 (us:=[.ref a]) (vs:=[.ref a]) F r v n p d (.cons rfl .nil) q)
structure Mk(K:af)(C f:Addr):Prop where
 makes:PySem.W.makesIn K C=true
 init:aL K (.ref C) "__init__" = some (some (.ref f))
 fn:PySem.W.isFn K (.ref f)=true
 kp:d9 K (.ref C)=true
theorem Mx{b:List (Addr×Obj)}{g:St}{H:Hp}{s:Shared}{Q:VK}{us:List Value}{vs:List V}(M:Mk X.K C f)(F:cE X.prog X.w X.K X.mg X.base CX k f fd ps sp)(q:jT (k+1) X.A)(B:Binds X.K fd ps ds)(n:cD BA ds)
 (p:sj CX X E) (I:Inv X b g H s) (r:cD vs us)
 (h:∀x c,H x=none->H c=none->c≠x->sp (.ref x::(vs++BA)) (upd (upd H c (.own x)) x (.ins C c [])) (λv l=>v=.fM/\Q (.ref x) l) E) :
 wpAny (model X.prog X.w) X.A (call (.ref C) us) (EP X b g Q) X.xe s:=by
 have j:=h (s.heap.objs.size+1) s.heap.objs.size (I.hok.fresh (dU _)) (I.hok.fresh (aB _)) (bz (wU _));have d:=Inv.made (C:=C) I;have i:cD (V.ref (s.heap.objs.size+1)::(vs++BA)) (Value.ref (s.heap.objs.size+1)::(us++ds)):=.cons rfl (r.append n);have z:(Value.ref (s.heap.objs.size+1)::us++ds).length=ps.length:=by
  have e:=i.length;rw[F.len _ _ _ _ j] at e;exact e.symm
 refine wpAny_call (UI (f:=f) I.Mm M.makes M.init (beq_iff_eq.mp M.fn) (codeAny_mono (F.run _ X.stack _ _ ⟨Value.ref (s.heap.objs.size+1)::us,[]⟩ (Value.ref (s.heap.objs.size+1)::(us++ds)) _ _ E (q.make C us [])
  (d.ada.make C us []) (B _ (Value.ref (s.heap.objs.size+1)::us) d.Mm z) i j) λr t a=>?_))
 cases r with
 |error e=>exact p b g _ _ e t d a
 |ok D =>
  cases D with
  |ret u =>
   obtain⟨v,G,J,o,m,y⟩:=d.after a;subst m;exact⟨o,⟨V.ref (s.heap.objs.size+1),G,J,rfl,y⟩⟩
  |next=>exact jQ a
  |brk=>exact jQ a
  |cont=>exact jQ a
theorem Qx(M:Mk X.K C f)(F:cE X.prog X.w X.K X.mg X.base CX k f fd ps sp)(m:jT (k+1) X.A)(o:Gl X x)(l:X.mg x=some (.ref C))(u:Binds X.K fd ps ds)(i:cD BA ds)(j:sj CX X E)
 (n:PA X (e::es) t) (b:(x==("__debug__" : Str))=false:=by decide) (v:starEach (e::es) X.env=(false,eval e X.env)::starEach es X.env:=by rfl) (c:(backTo pos (starEach es X.env)).any (·.1)=false:=by rfl) :
 PE X (.Call (.Name x p) (e::es) [] pos) (UJ C sp BA E t):=by
 intro a s g H Q I h;refine wpAny_Call_Name_kw (Cz I o l ?_ b);refine PySem.W.callWith_K (h₀:=X.base) I.ok.mod.Z9 M.kp (gV (n pos a s g H _ I h) λD y ⟨B,z,d,r,q⟩=>⟨d.Mm,?_⟩) v c;exact Mx M F m u i j d r q
theorem UK(M:Mk X.K C f)(F:cE X.prog X.w X.K X.mg X.base CX k f fd ps sp)(g:jT (k+1) X.A)(e:Gl X x)(d:X.mg x=some (.ref C))(i:Binds X.K fd ps ds)(c:cD BA ds)(j:sj CX X E)
 (a:(x==("__debug__" : Str))=false:=by decide):PE X (.Call (.Name x p) [] [] pos) (UJ C sp BA E vP):=by
 intro b s l H Q I h;refine wpAny_Call_Name_kw (Cz I e d ?_ a);exact PySem.W.callWith_K0 I.Mm M.kp (Mx (us:=[]) M F g i c j I .nil h)
end
structure aO(N P:List Str)(sc:Scope):Prop where
 kind:sc.kind=.function
 co:sc.isCoroutine=false
 gen:sc.isGenerator=false
 nd:N.Nodup
 pre:N.take P.length=P
 par:∀x∈P,sc.names.lookup x=some .local∨sc.names.lookup x=some .cell
 aau:∀y∈sc.names,y.2≠.free
theorem JI{kindOf:Str->Option NameKind}{x:Str}:∀{a:List (Str×Value)} {m:Str->Option Value},(∀v,(x,v)∉a)->bindL kindOf a m x=m x
 |[],_,_=>rfl
 | (n,v)::r,m,h=>by
  unfold bindL;rw[JI λw b=>h w (bw _ b)];split
  ·have:x≠n:=by rintro rfl;exact h v ck
   simp[this]
  ·rfl
theorem JJ{kindOf:Str->Option NameKind}{x:Str}:∀{a:List (Str×Value)} {m:Str->Option Value},(∀v,(x,v)∉a)->bindC kindOf a m x=m x
 |[],_,_=>rfl
 | (n,v)::r,m,h=>by
  unfold bindC;rw[JJ λw b=>h w (bw _ b)];split
  ·rfl
  ·have:x≠n:=by rintro rfl;exact h v ck
   simp[this]
theorem JK{kindOf:Str->Option NameKind}{x:Str}{v:Value}:∀{P:List Str} {vs:List Value} {i:Nat} {m:Str->Option Value},P.Nodup->P[i]?=some x->vs[i]?=some v->kindOf x=some .local ->
 bindL kindOf (P.zip vs) m x=some v
 |[],_,_,_,_,h,_,_=>by simp at h
 |_::_,[],_,_,_,_,h,_=>by simp at h
 |p::P,w::vs,0,m,nd,b,a,c=>by
  simp at b a;subst b;subst a;show bindL kindOf ((p,w)::P.zip vs) m p=_;unfold bindL;rw[JI λv d=>(iG.mp nd).1 (List.of_mem_zip d).1,aq c];simp
 |p::P,w::vs,i+1,m,nd,b,a,c=>by
  show bindL kindOf ((p,w)::P.zip vs) m x=_;unfold bindL;exact JK (i:=i) (iG.mp nd).2 (by simpa using b) (by simpa using a) c
theorem JL{kindOf:Str->Option NameKind}{x:Str}{v:Value}:∀{P:List Str} {vs:List Value} {i:Nat} {m:Str->Option Value},P.Nodup->P[i]?=some x->vs[i]?=some v->kindOf x≠some .local ->
 bindC kindOf (P.zip vs) m x=some v
 |[],_,_,_,_,h,_,_=>by simp at h
 |_::_,[],_,_,_,_,h,_=>by simp at h
 |p::P,w::vs,0,m,nd,b,a,c=>by
  simp at b a;subst b;subst a;show bindC kindOf ((p,w)::P.zip vs) m p=_;unfold bindC;rw[JJ λv d=>(iG.mp nd).1 (List.of_mem_zip d).1,b3 c];simp
 |p::P,w::vs,i+1,m,nd,b,a,c=>by
  show bindC kindOf ((p,w)::P.zip vs) m x=_;unfold bindC;exact JL (i:=i) (iG.mp nd).2 (by simpa using b) (by simpa using a) c
noncomputable def start(N:List Str)(vs:List V):St:=vs.map some++pT (N.length-vs.length) none
noncomputable def oq(CX:Sd)(P:Program)(w:World)(K:af)(mg:Str->Option Value)(base:Heap)(N:List Str)(qual:Str)(scope:Scope)(f:Addr)(cd:Value)(A:Around)(outer:List Env)(s:Shared)(H:Hp)(E:XK):Cx where
 prog:=P
 w:=w
 K:=K
 mg:=mg
 base:=base
 A:=A.deeper (envOfC qual scope s.heap.objs.size f cd)
 N:=N
 s₀:=s
 H₀:=H
 env:=envOfC qual scope s.heap.objs.size f cd
 outer:=outer
 stack:=envOfC qual scope s.heap.objs.size f cd::outer
 ex:=[]
 calm:=true
 fn:=λ_=>true
 pn:=[]
 xe:=λe s'=>wpAny (model P w) (A.deeper (envOfC qual scope s.heap.objs.size f cd)) (leaving (envOfC qual scope s.heap.objs.size f cd) e) (λ_ s''=>CX outer H s E e s'') (λe' s''=>CX outer H s E e' s'') s'
theorem My{a:Scope}{n:Nat}{x:Str}(h:a.names.lookup x=some .cell):∃c,(cellsFrom n a.names []).lookup x=some c:=by
 have q:=PySem.W.cellsFrom_some a.names n [] (.inl h);exact Option.isSome_iff_exists.mp q
theorem Se{CX:Sd}{P:Program}{w:World}{K:af}{F:Str->Option Value}{base:Heap}{N ps:List Str}{g:Str}{scope:Scope}{f:Addr}{D:Value}{A:Around}{d:List Env}{s G:Shared}{H:Hp}{E:XK}{us:List Value}{vs:List V}
 (S:aO N ps scope) (L:A.handled=none) (l:OV P w K F base A d s H) (hl:vs.length=ps.length) (r:cD vs us)
 (x:InCallC s s.heap.objs.size (bindL (envOfC g scope s.heap.objs.size f D).kindOf (ps.zip us) λ_=>none) (cellsFrom (s.heap.objs.size+1) scope.names []) (bindC (envOfC g scope s.heap.objs.size f D).kindOf (ps.zip us) λ_=>none) G) :
 Inv (oq CX P w K F base N g scope f D A d s H E) [] (start N vs) H G:=by
 have Q:ps.length<=N.length:=by have:=er List.length S.pre;rw[cH] at this;lia
 obtain⟨B,T,rfl,J⟩:=x.done;have m:∀b:Addr,b∉(oq CX P w K F base N g scope f D A d s H E).ex:=λb z=>b5 (show b∈([]:List Addr) from z) (-_);refine⟨⟨l.mod,S.kind,rfl,rfl,aB _,λy z c B j=>?_,λy hy=>?_,λy c _ h=>?_,λ_=>L,Around.frames_deeper l.frames,.inr ⟨rfl,rfl⟩,λb z=>b5 z (m b),l.bs,l.WN,λb _ _=>m b,λb z=>b5 z (m b),l.Cw,l.Y5⟩,
  rfl,l.bare,Un.kept J,⟨_,x.toInCall.ns,λi y v B j R=>?_⟩,λy c h=>⟨_,x.cell y c h⟩,l.hok.fresh (aB _),λy c h=>?_,λp o=>b5 (show p∈([]:List (Addr×Obj)) from o) (-_),l.hok.kept J,?_⟩
 ·exact name_of_addr x.apart (qt B) (qt j)
 ·have hy:scope.names.lookup y=some .cell∨scope.names.lookup y=some .free:=hy
  rcases hy with hy|hy
  ·exact My hy
  ·exact b5 rfl (S.aau _ (qt hy))
 ·exact mP (x.above y c (qt h))
 ·have C:i<vs.length:=by
   unfold start at j;by_cases C:i<vs.length
   ·exact C
   ·rw[bC (by simpa using C)] at j
    rw[List.getElem?_replicate] at j;split at j <;> cases j
  have O:vs[i]?=some v:=by
   unfold start at j;rw[aY (by simpa using C),ak] at j;cases e:vs[i]? with
   |none=>rw[e] at j;cases j
   |some a=>rw[e] at j;cases j;rfl
  obtain⟨u,I,M⟩:=r.get O;have o:ps[i]?=some y:=by
   rw[<- S.pre,gR ∅];exact B
  have t:ps.Nodup:=by rw[<- S.pre];exact S.nd.sublist (List.take_sublist _ _)
  refine⟨u,M,?_⟩;rcases S.par y (aN o) with k|k
  ·exact .inl ⟨k,JK t o I k⟩
  ·obtain⟨c,e⟩:=My (n:=s.heap.objs.size+1) k
   refine .inr ⟨.inl k,c,e,?_⟩;have q:=x.cell y c e;rw[JL t o I (by show scope.names.lookup y≠_;rw[k];decide)] at q;exact q
 ·exact l.hok.fresh (mP (x.above y c (qt h)))
 ·unfold start
  show _=N.length;rw[aA,ah,List.length_replicate];lia
theorem UL{CX:Sd}{P:Program}{w:World}{K:af}{F:Str->Option Value}{base:Heap}{k:Nat}{f:Addr}{name c:Str}{g:Arguments}{h:List Stmt}{scope:Scope}{Y kV D pm d ct oc:Value}{an od:Option Addr}
 {R:Array (Option Value)} {N ps:List Str} {sp:Sp} (lk:K.lookup f=some ⟨oc,od,.func (e9 name c g h scope Y kV D pm an d ct),R⟩) (G:jx K d c=true) (S:aO N ps scope)
 (C:∀vs H Q E,sp vs H Q E->vs.length=ps.length)
 (l:∀(A:Around) (a:List Env) (s:Shared) (H:Hp) (vs:List V) (Q:VK) (E:XK),jT k (A.deeper (envOfC c scope s.heap.objs.size f d))->sp vs H Q E ->
  ∃t,iR (oq CX P w K F base N c scope f d A a s H E) h t/\t {nx:=λ_ j=>Q .fM j,rt:=Q} (start N vs) H) :
 cE P w K F base CX (k+1) f (e9 name c g h scope Y kV D pm an d ct) ps sp:=by
 refine⟨C,λA a s H X us vs Q E O z hb r T6=>?_⟩;have hl:=C _ _ _ _ T6;have U:K.In s.heap:=z.mod.Z9.keeps λb o e=>(z.bs b o e).1;have T:s.heap.NoLimit:=z.mod.nolimit.keeps λb o e=>(z.bs b o e).1;have m:∀y∈ps.zip us,scope.names.lookup y.1=some .local∨(scope.names.lookup y.1=some .cell/\((cellsFrom (s.heap.objs.size+1) scope.names []).lookup y.1).isSome=true):=λ⟨n,v⟩ hy=>by
  rcases S.par n (List.of_mem_zip hy).1 with q|q
  ·exact .inl q
  ·exact .inr ⟨q,PySem.W.cellsFrom_some _ _ _ (.inl q)⟩
 refine codeAny_call_function O.depth (U _ _ lk) rfl S.co S.gen rfl (PySem.W.codeRec_of U G) (hb _ _ _ _ ?_);refine wpAny_newFunctionEnv_cells S.kind m λenv he Z x=>?_;subst he;refine⟨T.keeps x.toInCall.keep,codeAny_func ?_⟩;obtain⟨t,ht,hq⟩:=l A a s H vs Q E (O.deeper _) T6;have I:Inv (oq CX P w K F base N c scope f d A a s H E) [] (start N vs) H Z:=Se S O.hd z hl r x;refine wpAny_mono (ht [] Z (start N vs) H _ I hq) (λfl M p=>?_) λe M p=>p;have B:∀{i:St} {j:Hp} {v:V} {u:Value},Inv (oq CX P w K F base N c scope f d A a s H E) [] i j M->RelV v u->Q v j->CE a P w H s Q u M :=
  λ{i j v u} J L q=>⟨v,j,J.os,J.bare,J.base,J.hok,L,q⟩
 cases fl with
 |ret u =>
  obtain⟨v,i,j,J,L,q⟩:=p;exact B J L q
 |next =>
  obtain⟨i,j,J,q⟩:=p;exact B (v:=V.fM) (u:=Value.none) J rfl q
 |brk =>
  obtain⟨_,_,_,q⟩:=p;exact jQ q
 |cont =>
  obtain⟨_,_,_,q⟩:=p;exact jQ q
section
variable{X:Cx}{x:Str}{p pos:Pos}{e:Expr}{es:List Expr}{t:TA}{id T:String}{r:List V->Hp->VK->Prop}
def xy(r:List V->Hp->VK->Prop)(t:TA):TE:=λσ H Q=>t σ H λvs H1=>r vs H1 Q
theorem Mz(f:ue X (.builtin id) r)(v:Gl X x)(l:X.mg x=none)(k:bootBuiltins x=some (.builtin id))(n:PA X (e::es) t)(j:x≠"__name__" := by decide)(b:(x==("__debug__" : Str))=false:=by decide)
 (w:starEach (e::es) X.env=(false,eval e X.env)::starEach es X.env:=by rfl) (c:(backTo pos (starEach es X.env)).any (·.1)=false:=by rfl):PE X (.Call (.Name x p) (e::es) [] pos) (xy r t):=by
 intro a s d H Q I h;refine wpAny_Call_Name_kw (KR I v l k ?_ j b);exact PyProof.Rows.callWith_builtin1 (gV (n pos a s d H _ I h) λy g ⟨q,i,u,m,o⟩=>f a g d i q y Q u m o) w c
theorem fV(f:ue X (.type T) r)(v:Gl X x)(l:X.mg x=none)(k:bootBuiltins x=some (.type T))(n:PA X (e::es) t)(j:x≠"__name__" := by decide)(b:(x==("__debug__" : Str))=false:=by decide)
 (w:starEach (e::es) X.env=(false,eval e X.env)::starEach es X.env:=by rfl) (c:(backTo pos (starEach es X.env)).any (·.1)=false:=by rfl):PE X (.Call (.Name x p) (e::es) [] pos) (xy r t):=by
 intro a s d H Q I h;refine wpAny_Call_Name_kw (KR I v l k ?_ j b);exact PyProof.Rows.callWith_type1 (gV (n pos a s d H _ I h) λy g ⟨q,i,u,m,o⟩=>f a g d i q y Q u m o) w c
end
end L2
namespace HT
open PySem PyProof.Rows
theorem MA(A:Around)(s:Shared)(a:Int)(t:Tok)(c:Int)(u:Tok):∃e,SeqAt.EqAt A s (.int a t) (.int c u) e/\(e=true↔a=c) :=
 ⟨(a==c),SeqAt.EqAt.int_int a t c u,-_⟩
theorem UM(A:Around)(s:Shared)(a:Int)(t:Tok)(c:Int)(u:Tok)(prog:Program)(w:World)(E:Value->Shared->Prop)(Q:Value->Shared->Prop)(h:Q (.bool (decide (a<c))) s) :
 wpAny (model prog w) A (richCompare .Lt (.int a t) (.int c u)) Q E s :=
 (PyProof.Rows.lt_int h:wpAny (model prog w) A (compareOp .Lt (.int a t) (.int c u)) Q E s)
section
open PySem.SeqAt
open PySem.AutoSeq1 (wpAny_loadPart')
open PySem.MeetsSeq PySem.MeetsSeq2 PySem.MeetsSeq3
end
section
variable{prog:Program}{w:World}{A:Around}{E:Value->Shared->Prop}{s:Shared}
theorem Xj{t b:Addr}{vs a:List Value}{Q:Value->Shared->Prop}(v:IsTup s.heap t vs.toArray)(x:IsTup s.heap b a.toArray)(r:vs≠[])
 (u:a=[]->Q (.ref t) s) (y:a≠[]->Q (.ref s.heap.objs.size) {s with heap:=s.heap.push {cls:=.type "tuple",data:=.seq (vs++a).toArray}})
 (k:vs.length+a.length<=sizeLine):wpAny (model prog w) A (binaryOp .Add (.ref t) (.ref b)) Q E s:=by
 obtain⟨⟨cls,l,data,q⟩,j,m,n,p⟩:=id v;obtain⟨⟨z,d,data2,g⟩,c,h,o,f⟩:=id x;simp only at m p h f;subst m p h f;have e:vs.toArray++a.toArray=(vs++a).toArray:=-_
 by_cases i:a=[]
 ·exact concat_meets ⟨_,j,rfl⟩ ⟨_,c,rfl⟩ noFill_tuple_add seq_tuple_add PySem.F.slot_tuple_add PySem.F.entry_tuple_add (PySem.F.args_tuple_add_2 _ _)
   (tuple_addW1 t b vs.toArray a.toArray n o l d q g (by simpa using r) (by simp[i])) ⟨j,c,u i⟩
 ·refine concat_meets ⟨_,j,rfl⟩ ⟨_,c,rfl⟩ noFill_tuple_add seq_tuple_add PySem.F.slot_tuple_add PySem.F.entry_tuple_add (PySem.F.args_tuple_add_2 _ _)
   (tuple_addW2 t b vs.toArray a.toArray n o l d q g (by simpa using r) (by simpa using i) (by rw[aX,aX];exact k)) ⟨j,c,?_⟩
  rw[e];exact y i
noncomputable def n6(n d:Nat):Option Int->Nat
 |none=>d
 |some v=>if v<0 then (v+(n:Int)).toNat else min v.toNat n
theorem Qy(n d k:Nat):n6 n d (some (k:Int))=min k n:=by
 show (if (k:Int)<0 then ((k:Int)+(n:Int)).toNat else min (k:Int).toNat n)=min k n;rw[b3 ∅,cZ]
theorem aav(n d:Nat)(b:d<=n)(o:Option Int):n6 n d o<=n:=by
 cases o with
 |none=>exact b
 |some v =>
  show (if v<0 then (v+(n:Int)).toNat else min v.toNat n)<=n;by_cases a:v<0
  ·rw[aq a];lia
  ·rw[b3 a];exact Nat.min_le_right _ _
theorem Qz(v:Int)(n d:Nat):(if v<0 then max (v+(n:Int)) 0 else min v (n:Int))=((n6 n d (some v):Nat):Int):=by
 show (if v<0 then max (v+(n:Int)) 0 else min v (n:Int))=(((if v<0 then (v+(n:Int)).toNat else min v.toNat n):Nat):Int);by_cases a:v<0
 ·simp only[aq a];lia
 ·simp only[b3 a];lia
theorem OW(lo a:Option Int)(n:Nat):Builtin.Slice.sliceAdjust lo a 1 (n:Int)=(((n6 n 0 lo:Nat):Int),((n6 n n a:Nat):Int)):=by
 have b:¬((1:Int)<0):=∅
 unfold Builtin.Slice.sliceAdjust;simp only[b,if_false];refine Prod.ext ?_ ?_
 ·cases lo with
  |none=>rfl
  |some v=>exact Qz v n 0
 ·cases a with
  |none=>rfl
  |some v=>exact Qz v n n
theorem OX(i j:Nat):Builtin.Slice.slicePlaces (i:Int) (j:Int) 1=j-i:=by
 unfold Builtin.Slice.slicePlaces;have a:(1:Int) > 0:=∅
 simp only[a,if_true,Int.ediv_one];split <;> lia
theorem Gy{v:Value}{o:Option Int}{Q:Option Int->Shared->Prop}(p:IsPart v o)(h:Q o s):wpAny (model prog w) A (Builtin.Slice.slicePartIndex v) Q E s:=by
 cases p with
 |none=>exact slicePart_none h
 |int i t=>exact slicePart_int h
theorem DI{f:Addr}{e d:Value}{lo b:Option Int}{n:Nat}{Q:Int×Int×Nat->Shared->Prop}(hs:s.heap.IsSliceOf f e d .none)(pl:IsPart e lo)(i:IsPart d b)
 (h:Q (((n6 n 0 lo:Nat):Int),1,n6 n n b-n6 n 0 lo) s):wpAny (model prog w) A (Builtin.Slice.sliceApplied (.ref f) (pure (n:Int))) Q E s:=by
 obtain⟨os,a,g,c⟩:=id hs;unfold Builtin.Slice.sliceApplied Builtin.Slice.sliceFields;refine wpAny_bind (wpAny_bind (wpAny_field a c (x:=e) rfl (wpAny_bind (wpAny_field a c (x:=d) rfl (wpAny_bind (wpAny_field a c (x:=.none) rfl (wpAny_pure ?_)))))));refine wpAny_bind (slicePart_none ?_);show wpAny _ _ (if ((1:Int)==0)=true then _ else _) _ _ s;rw[b3 (!_)];refine wpAny_bind (Gy pl (wpAny_bind (Gy i (wpAny_bind (wpAny_pure ?_)))));show wpAny _ _ (match Builtin.Slice.sliceAdjust lo b 1 (n:Int) with|(lo,b)=>pure (lo,(1:Int),Builtin.Slice.slicePlaces lo b 1)) _ _ s;rw[OW lo b n];show wpAny _ _ (pure (((n6 n 0 lo:Nat):Int),(1:Int),Builtin.Slice.slicePlaces ((n6 n 0 lo:Nat):Int) ((n6 n n b:Nat):Int) 1)) _ _ s;rw[OX];exact wpAny_pure h
theorem UN(xs:Array Value)(i k:Nat):((az k).filterMap λ(m:Nat)=>xs[((i:Int)+(m:Int)*1).toNat]?).toArray=((xs.toList.drop i).take k).toArray:=by
 have e:(λ(m:Nat)=>xs[((i:Int)+(m:Int)*1).toNat]?)=λm=>xs[i+m]?:=by
  funext m
  have:((i:Int)+(m:Int)*1).toNat=i+m:=∅
  rw[this]
 rw[e]
 have:=pick_run xs i k
 rw[List.filterMap_map] at this;have a:((λx=>xs[x]?)∘λx=>i+x)=λm=>xs[i+m]?:=rfl;rw[a] at this;rw[this]
theorem CC{t g:Addr}{items:Array Value}{j k:Value}{lo a:Option Int}{Q:Value->Shared->Prop}(b:IsTup s.heap t items)(hs:s.heap.IsSliceOf g j k .none)(pl:IsPart j lo)(l:IsPart k a)
 (o:¬(n6 items.size 0 lo=0/\n6 items.size items.size a=items.size))
 (h:Q (.ref s.heap.objs.size) {s with heap:=s.heap.push {cls:=.type "tuple",data:=.seq ((items.toList.drop (n6 items.size 0 lo)).take (n6 items.size items.size a-n6 items.size 0 lo)).toArray}})
 (p:items.size<=sizeLine):wpAny (model prog w) A (getItem (.ref t) (.ref g)) Q E s:=by
 have c:sizeOk (.seq ((items.toList.drop (n6 items.size 0 lo)).take (n6 items.size items.size a-n6 items.size 0 lo)).toArray):=by
  show ((items.toList.drop (n6 items.size 0 lo)).take (n6 items.size items.size a-n6 items.size 0 lo)).toArray.size<=sizeLine;rw[aX,cH,List.length_drop,aW];lia
 have v:n6 items.size items.size a<=items.size:=aav _ _ (aB _) a;obtain⟨os,e,i,n⟩:=id hs;have d:s.TypeIs (.ref g) "slice" := ⟨os,e,i⟩;unfold getItem
 try with_reducible refine wpAny_holding ?_
 first|refine wpAny_bind (wpAny_pure ?_)|skip
 refine wpAny_bind (wpAny_sequenceKey b.typeIs (!_) ?_);refine wpAny_bind (wpAny_callSpecial?_slot (name:=Str.ofString "__getitem__") b.typeIs uJ
  (wpAny_call_entry uJ b.typeIs entry_tuple_getitem ?_ (args_tuple_getitem _ _)))
 show wpAny _ _ (Builtin.Tuple.tupleItemsOf (.ref t) >>= _) _ _ s;refine wpAny_bind (tupleItemsOf_ b ?_);refine wpAny_bind (wpAny_typeOf d ?_);rw[aq (!_)];refine wpAny_bind (DI hs pl l ?_);have f:¬((((n6 items.size 0 lo:Nat):Int)==0&&(1:Int)==1&&(n6 items.size items.size a-n6 items.size 0 lo)==items.size)=true):=by
  intro q;rw[dw,dw] at q;have u:((n6 items.size 0 lo:Nat):Int)=0:=eq_of_beq q.1.1;have r:n6 items.size items.size a-n6 items.size 0 lo=items.size:=eq_of_beq q.2;exact o ⟨∅,∅⟩
 show wpAny _ _ (if (((n6 items.size 0 lo:Nat):Int)==0&&(1:Int)==1&&(n6 items.size items.size a-n6 items.size 0 lo)==items.size)=true then _ else _) _ _ s;rw[b3 f,UN]
 first
  |exact wpAny_bind (m:=Builtin.Tuple.tupleExact _) (wpAny_newObj_type (wpAny_pure ⟨_,rfl,wpAny_pure h⟩) c)
  |exact wpAny_bind (m:=Builtin.Tuple.tupleExact _) (wpAny_newObj_type (wpAny_bind (wpAny_pure (wpAny_pure ⟨_,rfl,wpAny_pure h⟩))) c)
  |exact wpAny_bind (wpAny_bind (m:=Builtin.Tuple.tupleExact _) (wpAny_newObj_type (wpAny_pure (wpAny_pure ⟨_,rfl,wpAny_pure h⟩)) c))
  |exact wpAny_bind (wpAny_bind (m:=Builtin.Tuple.tupleExact _) (wpAny_newObj_type (wpAny_pure ⟨_,rfl,wpAny_pure h⟩) c))
end
end HT
namespace L2
open PySem PySem.Spec PyProof.Rows
abbrev TO:=St->Hp->(Option Int->Hp->Prop)->Prop
def PO(X:Cx)(e:Option Expr)(t:TO):Prop :=
 ∀(pins:List (Addr×Obj)) (s:Shared) (σ:St) (H:Hp) (Q:Option Int->Hp->Prop),Inv X pins σ H s->t σ H Q ->
  wpAny (model X.prog X.w) X.A (evalPart e X.env) (λu s'=>∃o H',Inv X pins σ H' s'/\IsPart u o/\Q o H') X.xe s
def Xk:TO:=λ_ H Q=>Q none H
inductive Ze(Q:Option Int->Hp->Prop)(x:V)(H1:Hp):Prop
 |mk (i:Int) (a:x=.int i) (b:Q (some i) H1):Ze Q x H1
def ade(t:TE):TO:=λσ H Q=>t σ H (Ze Q)
theorem intsAre_of{ns:List Int}:∀{us:List Value},cD (ns.map V.int) us->IntsAre us ns:=by
 induction ns with
 |nil=>intro us r;rw[List.map_nil] at r;cases r;exact .nil
 |cons n ns c =>
  intro us r;rw[bH] at r;cases r with
  |cons b a =>
   obtain⟨t,e⟩:=b;subst e;exact .cons n t (c a)
section
variable{X:Cx}{e:Expr}{te:TE}{lo hi:Option Expr}{tl th:TO}{pos p2:Pos}
theorem QB:PO X none Xk:=by
 intro a s b H Q I h;rw[evalPart_none];exact wpAny_pure ⟨none,H,I,.none,h⟩
theorem CD(h:PE X e te):PO X (some e) (ade te):=by
 intro a s b H Q I d;rw[evalPart_some];refine gV (h a s b H _ I d) λu k ⟨x,c,j,f,g⟩=>?_;obtain⟨i,rfl,q⟩:=g;obtain⟨t,rfl⟩:=f;exact⟨some i,c,j,.int i t,q⟩
def SlR(X:Cx)(r:V->Option Int->Option Int->Hp->VK->Prop):Prop :=
 ∀(pins:List (Addr×Obj)) (s:Shared) (σ:St) (H:Hp) (x:V) (v vl vu:Value) (lo hi:Option Int) (sl:Addr) (Q:VK),Inv X pins σ H s->RelV x v->s.heap.IsSliceOf sl vl vu .none->IsPart vl lo->IsPart vu hi->r x lo hi H Q ->
  ∃T id,typeLookup (.type T) "__getitem__" = pure (some (.builtin id))/\s.TypeIs v T/\wpAny (model X.prog X.w) X.A (getItem v (.ref sl)) (EP X pins σ Q) X.xe s
def tSl(r:V->Option Int->Option Int->Hp->VK->Prop)(te:TE)(tl th:TO):TE:=λσ H Q=>te σ H λx H1=>tl σ H1 λl H2=>th σ H2 λu H3=>r x l u H3 Q
theorem Gz{r:V->Option Int->Option Int->Hp->VK->Prop}(B:SlR X r)(M:PE X e te)(hl:PO X lo tl)(D:PO X hi th):PE X (.Subscript e (.Slice lo hi none p2) pos) (tSl r te tl th):=by
 intro a s d H Q I h;refine Subscript_ (gV (M a s d H _ I h) λv n ⟨x,p,J,z,C⟩=>?_);refine wpAny_Slice (gV (hl a n d p _ J C) λf o ⟨l,m,F,j,y⟩=>gV (D a o d m _ F y) λg c ⟨u,i,N,k,E⟩=>?_);rw[evalPart_none];refine wpAny_pure ?_;have L:Inv X a d i {c with heap:=c.heap.push {cls:=.type "slice",data:=.fields #[f,g,.none]}}:=N.kept (t':=c.toks) λb O q=>Heap.get?_push_of_some _ q;obtain⟨T,id,t,G,K⟩:=B a {c with heap:=c.heap.push {cls:=.type "slice",data:=.fields #[f,g,.none]}} d i x v f g l u c.heap.objs.size Q L z (Heap.IsSliceOf.new ..) j k E;show wpAny (model X.prog X.w) X.A (subscriptTail e (.Slice lo hi none p2) v (.ref c.heap.objs.size)) (EP X a d Q) X.xe {c with heap:=c.heap.push {cls:=.type "slice",data:=.fields #[f,g,.none]}};exact tail_any (ops:=[.ref c.heap.objs.size,v]) G t K (by with_unfolding_all rfl)
noncomputable def IG(xs:List V)(lo hi:Option Int):List V:=(xs.drop (HT.n6 xs.length 0 lo)).take (HT.n6 xs.length xs.length hi-HT.n6 xs.length 0 lo)
theorem EO(xs:List V)(lo hi:Option Int):(IG xs lo hi).length<=xs.length:=by
 unfold IG;rw[cH,List.length_drop];lia
def agK(K:af):V->Option Int->Option Int->Hp->VK->Prop:=λx lo hi H Q=>∃a xs,x=.ref a/\c7 K H a xs /\
 ¬(HT.n6 xs.length 0 lo=0/\HT.n6 xs.length xs.length hi=xs.length)/\∀p,H p=none->Q (.ref p) (upd H p (.tup (IG xs lo hi)))
theorem UO:SlR X (agK X.K):=by
 intro g s t H x v w z lo hi u Q I p n j k h;obtain⟨a,d,rfl,l,m,q⟩:=h;cases p;obtain⟨e,r,i,f⟩:=I.tuple l;have c:e.toArray.size=d.length:=by rw[aX];exact r.length.symm
 refine⟨"tuple",_,uJ.lookup,i.typeIs,?_⟩;refine HT.CC i n j k (by rw[c];exact m) ?_ (by rw[c];exact f);rw[c];refine⟨.ref s.heap.objs.size,_,I.laid (t':=s.toks) (o:=.tup (IG d lo hi)) (λb y q=>Heap.get?_push_of_some _ q) (aB _) ?_,rfl,q _ (I.hok.fresh (aB _))⟩;exact⟨aU (EO d lo hi) f,_,(r.drop (HT.n6 d.length 0 lo)).take (HT.n6 d.length d.length hi-HT.n6 d.length 0 lo),IsTup.new _ _⟩
def Zf(K:af):R2:=λx y H Q=>∃a b xs ys,x=.ref a/\y=.ref b/\c7 K H a xs/\c7 K H b ys/\xs≠[]/\xs.length+ys.length<=sizeLine /\
 (ys=[]->Q (.ref a) H)/\(ys≠[]->∀p,H p=none->Q (.ref p) (upd H p (.tup (xs++ys))))
theorem cD.K6{xs:List V}{us:List Value}(r:cD xs us):us=[]↔xs=[]:=by
 cases r with
 |nil=>simp
 |cons _ _=>simp
theorem Xl:yv X (binaryOp .Add) (Zf X.K):=by
 intro g s C H x y v u Q I B k h;obtain⟨a,b,p,i,rfl,rfl,r,A,l,e,t,m⟩:=h;cases B;cases k;obtain⟨n,d,j,_⟩:=I.tuple r;obtain⟨f,c,p2,_⟩:=I.tuple A;refine HT.Xj j p2 (λz=>l (d.K6.mp z)) (λz=>⟨.ref a,H,I,rfl,t (c.K6.mp z)⟩) (λz=>?_) (by rw[<- d.length,<- c.length];exact e);refine⟨.ref s.heap.objs.size,_,I.laid (t':=s.toks) (o:=.tup (p++i)) (λb D q=>Heap.get?_push_of_some _ q) (aB _) ?_,rfl,m (λw=>z (c.K6.mpr w)) _ (I.hok.fresh (aB _))⟩;exact⟨by rw[aA];exact e,_,d.append c,IsTup.new _ _⟩
end
noncomputable def Xm(n:Nat)(i:Int):Option Nat:=if 0<=i then (if i<n then some i.toNat else none) else if -(n:Int)<=i then some (i+n).toNat else none
noncomputable def FG{α:Type}(xs:List α)(i:Int):Option α:=(Xm xs.length i).bind λj=>xs[j]?
theorem K7{n:Nat}{i:Int}{j:Nat}(h:Xm n i=some j):seqIndex? i n=some j/\j<n/\-(n:Int)<=i/\i<n:=by
 unfold Xm at h;by_cases b:0<=i
 ·rw[aq b] at h
  by_cases a:i<n
  ·rw[aq a] at h
   have e:i.toNat=j:=aI h;exact⟨by rw[seqIndex_of b a,e],∅,∅,a⟩
  ·rw[b3 a] at h;cases h
 ·rw[b3 b] at h
  by_cases a:-(n:Int)<=i
  ·rw[aq a] at h
   have e:(i+n).toNat=j:=aI h;exact⟨by rw[seqIndex_neg ∅ a,e],∅,a,∅⟩
  ·rw[b3 a] at h;cases h
theorem QC{α:Type}{xs:List α}{i:Int}{v:α}(h:FG xs i=some v):∃j,seqIndex? i xs.length=some j/\xs[j]?=some v/\j<xs.length/\-(xs.length:Int)<=i/\i<xs.length:=by
 unfold FG at h;cases e:Xm xs.length i with
 |none=>rw[e] at h;cases h
 |some j =>
  rw[e] at h;obtain⟨b,a,c,d⟩:=K7 e;exact⟨j,b,h,a,c,d⟩
theorem fD{α:Type}{xs:List α}{j:Nat}{v:α}(h:xs[j]?=some v):FG xs (j:Int)=some v:=by
 have a:j<xs.length:=(ai.mp h).1;have e:Xm xs.length (j:Int)=some j:=by
  unfold Xm;rw[aq ∅,aq ∅];simp
 unfold FG;rw[e];exact h
def CF(b:Expr):Prop:=∀o i,subscripted b false o i=operate [o,i] (getItem o i)
def ua(X:Cx)(r:R2):Prop :=
 ∀(value slice:Expr) (pins:List (Addr×Obj)) (s:Shared) (σ:St) (H:Hp) (x y:V) (v u:Value) (Q:VK),Inv X pins σ H s->RelV x v->RelV y u->r x y H Q ->
  subscripted slice false v u=operate [v,u] (getItem v u)->wpAny (model X.prog X.w) X.A (subscriptTail value slice v u) (EP X pins σ Q) X.xe s
def MtR(X:Cx)(id:String)(r:V->List V->Hp->VK->Prop):Prop :=
 ∀(pins:List (Addr×Obj)) (s:Shared) (σ:St) (H:Hp) (x:V) (xs:List V) (v:Value) (us:List Value) (Q:VK),Inv X pins σ H s->RelV x v->cD xs us->r x xs H Q ->
  wpAny (model X.prog X.w) X.A (call (.builtin id) (v::us)) (EP X pins σ Q) X.xe s
section
variable{X:Cx}{a b:Expr}{ta tb:TE}{pos:Pos}
theorem QD{r:R2}(i:ua X r)(j:PE X a ta)(l:PE X b tb)(hs:CF b):PE X (.Subscript a b pos) (T5 r ta tb):=by
 intro c s d H Q I h;exact Subscript_ (aam j l I h λv u f x y e k m g q=>i a b c f d e x y v u Q k m g q (hs _ _))
inductive Sf(K:af)(x y:V)(H:Hp)(Q:VK):Prop
 |mk (p:Addr) (xs:List V) (i:Int) (v:V) (h1:x=.ref p) (h2:y=.int i) (h3:bQ K H p xs) (h4:FG xs i=some v) (h5:Q v H):Sf K x y H Q
inductive Sg(K:af)(x y:V)(H:Hp)(Q:VK):Prop
 |mk (p:Addr) (xs:List V) (i:Int) (v:V) (h1:x=.ref p) (h2:y=.int i) (h3:c7 K H p xs) (h4:FG xs i=some v) (h5:Q v H):Sg K x y H Q
theorem QE:ua X (Sf X.K):=by
 intro f k a s n H x y v u Q I F B h A;obtain⟨p,P,i,z,rfl,rfl,J,L,q⟩:=h;cases F;obtain⟨t,rfl⟩:=B;obtain⟨g,r,d,N⟩:=I.list J;obtain⟨j,c,G,R,M,C⟩:=QC L;obtain⟨w,m,e⟩:=r.get G;have E:=r.length;have O:=Gv;have b:EP X a n Q w s:=⟨z,H,I,e,q⟩;by_cases o:0<=i
 ·have l:i.toNat=j:=by
   rw[seqIndex_of o C] at c;exact aI c
  exact item_listR d.isList o ∅ (by rw[l];simpa using m) b A
 ·have l:(i+(g.toArray.size:Int)).toNat=j:=by
   rw[seqIndex_neg ∅ M] at c;rw[aX,<- E];exact aI c
  exact subscriptTail_builtinR (x:=w) d.isList.typeIs slot_list_getitem.lookup
   (wpAny_getItem_list_neg (Q:=λr D=>r=w/\EP X a n Q r D) d.isList ∅ (by rw[aX] <;> lia) ∅ (by rw[l];simpa using m) ⟨rfl,b⟩) A
theorem UP:ua X (Sg X.K):=by
 intro c e a s g H x y v u Q I C m h o;obtain⟨p,L,i,z,rfl,rfl,E,F,q⟩:=h;cases C;obtain⟨t,rfl⟩:=m;obtain⟨n,r,f,G⟩:=I.tuple E;obtain⟨j,l,D,N,O,M⟩:=QC F;obtain⟨w,k,b⟩:=r.get D;have B:=r.length;have J:=Gv;have d:EP X a g Q w s:=⟨z,H,I,b,q⟩;exact subscriptTail_builtinR (x:=w) f.typeIs slot_tuple_getitem.lookup
  (getItem_tuple (j:=j) (Q:=λr A=>r=w/\EP X a g Q r A) f ∅ ∅ (by rw[aX,<- B];exact l) (by simpa using k) ⟨rfl,d⟩) o
theorem OY(a:List Value)(n j:Nat)(u:Value):Obj.mapSeq (·.setIfInBounds j u) {cls:=.type "list",data:=.seq a.toArray n}={cls:=.type "list",data:=.seq (a.set j u).toArray n}:=by
 simp[Obj.mapSeq]
theorem Inv.lst{b:List (Addr×Obj)}{c:St}{H:Hp}{s:Shared}{p:Addr}{xs:List V}(I:Inv X b c H s)(h:H p=some (.lst xs)) :
 ∃(a:List Value) (n:Nat),cD xs a/\s.heap.get? p=some {cls:=.type "list",data:=.seq a.toArray n}/\xs.length<=sizeLine:=by
 obtain⟨z,a,n,r,e⟩:=I.hok p _ h;exact⟨a,n,r,e,z⟩
theorem Inv.aaw{a:List (Addr×Obj)}{i:St}{H:Hp}{s:Shared}{p:Addr}{xs d:List V}{c its':List Value}{n g:Nat}{f:Obj->Obj}(I:Inv X a i H s)(h:H p=some (.lst xs))
 (l:s.heap.get? p=some {cls:=.type "list",data:=.seq c.toArray n}) (j:f {cls:=.type "list",data:=.seq c.toArray n}={cls:=.type "list",data:=.seq its'.toArray g}) (r:cD d its') (k:d.length<=sizeLine) (t:Nat) :
 Inv X a i (upd H p (.lst d)) {s with heap:=s.heap.update p f,toks:=t}:=by
 have e:(s.heap.update p f).get? p=some {cls:=.type "list",data:=.seq its'.toArray g}:=by
  rw[Heap.get?_update_self f l (by rw[j] <;> rfl),j]
 refine I.write (x:=p) (e:=p) (by rw[h];trivial) (.inl rfl) (λb u m q=>(Heap.get?_update_other _ _ (bN m)).trans q) ⟨_,e⟩ ?_;exact⟨k,its',g,r,e⟩
def adg:V->V->V->Hp->(Hp->Prop)->Prop:=λo i v H Q=>∃p xs k j,o=.ref p/\i=.int k/\H p=some (.lst xs)/\Xm xs.length k=some j/\Q (upd H p (.lst (xs.set j v)))
theorem set_list:acY X adg:=by
 intro b s y H o i v G F u Q I A D B h;obtain⟨p,C,k,j,rfl,rfl,m,E,q⟩:=h;cases A;obtain⟨t,rfl⟩:=D;obtain⟨a,n,r,e,z⟩:=I.lst m;obtain⟨c,K,w,x⟩:=K7 E;have d:=r.length;have J:=Gv;have g:Inv X b y (upd H p (.lst (C.set j v))) {s with heap:=s.heap.update p (Obj.mapSeq (·.setIfInBounds j u))} :=
  I.aaw m e (OY a n j u) (r.set B j) (by rw[br];exact z) s.toks
 by_cases l:0<=k
 ·have f:k.toNat=j:=by
   rw[seqIndex_of l x] at c;exact aI c
  exact PySem.W.ki_setAt e l ∅ (by rw[aX,<- d];exact x) (by rw[f];exact⟨_,g,q⟩)
 ·have f:(k+(a.toArray.size:Int)).toNat=j:=by
   rw[seqIndex_neg ∅ w] at c;rw[aX,<- d];exact aI c
  exact PySem.W.ki_setBack e ∅ (by rw[aX,<- d];exact w) ∅ (by rw[f];exact⟨_,g,q⟩)
theorem K8(lo a:Option Int)(n:Nat):(sliceBounds lo a none n).1=((HT.n6 n 0 lo:Nat):Int)/\(sliceBounds lo a none n).2.1=((HT.n6 n n a:Nat):Int)/\(sliceBounds lo a none n).2.2=1:=by
 refine⟨?_,?_,rfl⟩
 ·cases lo with
  |none=>simp[sliceBounds,HT.n6]
  |some i =>
   simp only[sliceBounds,HT.n6,Option.getD_none,show (1:Int) > 0 by decide,if_true];by_cases h:i<0
   ·simp only[h,if_true] <;> lia
   ·simp only[h,if_false] <;> lia
 ·cases a with
  |none=>simp[sliceBounds,HT.n6]
  |some i =>
   simp only[sliceBounds,HT.n6,Option.getD_none,show (1:Int) > 0 by decide,if_true];by_cases h:i<0
   ·simp only[h,if_true] <;> lia
   ·simp only[h,if_false] <;> lia
theorem II(a:List Value)(lo b:Option Int):slicePick a.toArray lo b none=((a.drop (HT.n6 a.length 0 lo)).take (HT.n6 a.length a.length b-HT.n6 a.length 0 lo)).toArray:=by
 obtain⟨d,c,e⟩:=K8 lo b a.toArray.size;unfold slicePick;rw[d,c,e];simp only[sliceRange_one,pick_run,aX] <;> rfl
def agM(K:af):V->Option Int->Option Int->Hp->VK->Prop:=λx lo hi H Q=>∃a xs,x=.ref a/\bQ K H a xs/\∀p,H p=none->Q (.ref p) (upd H p (.lst (IG xs lo hi)))
theorem Xn:SlR X (agM X.K):=by
 intro f s t H x v w z lo e u Q I p n i j h;obtain⟨a,c,rfl,l,q⟩:=h;cases p;obtain⟨m,r,g,k⟩:=I.list l;have d:=r.length;refine⟨"list",_,slot_list_getitem.lookup,g.isList.typeIs,?_⟩;refine wpAny_getItem_list_slice g.isList n i j .none (-_) ?_ (by rw[aX] <;> lia);rw[II,<- d];refine⟨.ref s.heap.objs.size,_,I.laid (t':=s.toks) (o:=.lst (IG c lo e)) (λb y q=>Heap.get?_push_of_some _ q) (aB _) ?_,rfl,q _ (I.hok.fresh (aB _))⟩;exact⟨aU (EO c lo e) k,_,0,(r.drop (HT.n6 c.length 0 lo)).take (HT.n6 c.length c.length e-HT.n6 c.length 0 lo),Heap.get?_push_size _ rfl⟩
noncomputable def yW:V->Bool
 |.fM=>true
 |.bl _=>true
 |.int _=>true
 |.str _=>true
 |_=>false
noncomputable def Sh:V->V->Bool
 |.fM,.fM=>true
 |.bl a,.bl b=>a==b
 |.bl a,.int b=>(if a then 1 else 0)==b
 |.int a,.bl b=>a==(if b then 1 else 0)
 |.int a,.int b=>a==b
 |.str a,.str b=>a==b
 |_,_=>false
theorem aax{A:Around}{s:Shared}{y x:V}{u v:Value}(f:RelV y u)(c:RelV x v)(g:yW y=true)(e:yW x=true):SeqAt.EqAt A s u v (Sh y x):=by
 cases y with
 |fM =>
  cases f;cases x with
  |fM=>cases c;exact SeqAt.EqAt.same _
  |bl b=>cases c;exact SeqAt.EqAt.none_bool b
  |int b=>obtain⟨t,rfl⟩:=c;exact SeqAt.EqAt.none_int b t
  |str b=>obtain⟨t,rfl⟩:=c;exact SeqAt.EqAt.none_str b t
  |_=>exact b5 (show false=true from e) aJ
 |bl a =>
  cases f;cases x with
  |fM=>cases c;exact SeqAt.EqAt.bool_none a
  |bl b=>cases c;exact SeqAt.EqAt.bool_bool a b
  |int b=>obtain⟨t,rfl⟩:=c;exact SeqAt.EqAt.bool_int a b t
  |str b=>obtain⟨t,rfl⟩:=c;exact SeqAt.EqAt.bool_str a b t
  |_=>exact b5 (show false=true from e) aJ
 |int a =>
  obtain⟨d,rfl⟩:=f;cases x with
  |fM=>cases c;exact SeqAt.EqAt.int_none a d
  |bl b=>cases c;exact SeqAt.EqAt.int_bool a d b
  |int b=>obtain⟨t,rfl⟩:=c;exact SeqAt.EqAt.int_int a d b t
  |str b=>obtain⟨t,rfl⟩:=c;exact SeqAt.EqAt.int_str a d b t
  |_=>exact b5 (show false=true from e) aJ
 |str a =>
  obtain⟨d,rfl⟩:=f;cases x with
  |fM=>cases c;exact SeqAt.EqAt.str_none a d
  |bl b=>cases c;exact SeqAt.EqAt.str_bool a d b
  |int b=>obtain⟨t,rfl⟩:=c;exact SeqAt.EqAt.str_int a d b t
  |str b=>obtain⟨t,rfl⟩:=c;exact SeqAt.EqAt.str_str a d b t
  |_=>exact b5 (show false=true from e) aJ
 |_=>exact b5 (show false=true from g) aJ
noncomputable def OZ(x:V)(u:Value):Bool:=match u with
 |.none=>Sh .fM x
 |.bool b=>Sh (.bl b) x
 |.int i _=>Sh (.int i) x
 |.str z _=>Sh (.str z) x
 |_=>false
theorem UQ{x y:V}{u:Value}(r:RelV y u)(f:yW y=true):OZ x u=Sh y x:=by
 cases y with
 |fM=>cases r;rfl
 |bl b=>cases r;rfl
 |int i=>obtain⟨t,rfl⟩:=r;rfl
 |str z=>obtain⟨t,rfl⟩:=r;rfl
 |_=>exact b5 (show false=true from f) aJ
theorem CG{x:V}:∀{xs:List V} {us:List Value},cD xs us->xs.all yW=true->us.any (OZ x)=xs.any λy=>Sh y x
 |_,_,.nil,_=>rfl
 |y::xs,u::us,.cons r t,f=>by
  rw[List.all_cons,dw] at f;rw[List.any_cons,List.any_cons,UQ r f.1,CG t f.2]
theorem yX{A:Around}{s:Shared}{x:V}{v:Value}(b:RelV x v)(a:yW x=true):∀{xs:List V} {us:List Value},cD xs us->xs.all yW=true->∀u∈us,SeqAt.EqAt A s u v (OZ x u)
 |_,_,.nil,_=>λu hu=>by cases hu
 |y::xs,u::us,.cons r t,f=>λc hu=>by
  rw[List.all_cons,dw] at f;rcases be.mp hu with rfl|hu
  ·rw[UQ r f.1];exact aax r b f.1 a
  ·exact yX b a t f.2 c hu
noncomputable def Mn(x:V)(xs:List V):Bool:=xs.any λy=>Sh y x
inductive za(K:af)(neg:Bool)(x y:V)(H:Hp)(Q:VK):Prop
 |mk (p:Addr) (xs:List V) (h1:y=.ref p) (h2:bQ K H p xs∨c7 K H p xs) (h3:yW x=true) (h4:xs.all yW=true) (h5:Q (.bl (if neg then !Mn x xs else Mn x xs)) H):za K neg x y H Q
theorem vQ:yv X (compareOp .In) (za X.K false):=by
 intro f s k H x y v u Q I g j h;obtain⟨p,l,rfl,hq,e,b,q⟩:=h;cases j;rcases hq with hq|hq
 ·obtain⟨a,r,c,i⟩:=I.list hq
  refine SeqAt.in_listAt (OZ x) c.isList (λw d=>yX g e r b w (by simpa using d)) ⟨.bl _,H,I,rfl,?_⟩;rw[show a.toArray.any (OZ x)=a.any (OZ x) by simp,CG r b];exact q
 ·obtain⟨a,r,c,i⟩:=I.tuple hq
  refine SeqAt.in_tupleAt (OZ x) c (λw d=>yX g e r b w (by simpa using d)) ⟨.bl _,H,I,rfl,?_⟩;rw[show a.toArray.any (OZ x)=a.any (OZ x) by simp,CG r b];exact q
theorem wY:yv X (compareOp .NotIn) (za X.K true):=by
 intro f s k H x y v u Q I g j h;obtain⟨p,l,rfl,hq,e,b,q⟩:=h;cases j;rcases hq with hq|hq
 ·obtain⟨a,r,c,i⟩:=I.list hq
  refine SeqAt.notIn_listAt (OZ x) c.isList (λw d=>yX g e r b w (by simpa using d)) ⟨.bl _,H,I,rfl,?_⟩;rw[show a.toArray.any (OZ x)=a.any (OZ x) by simp,CG r b];exact q
 ·obtain⟨a,r,c,i⟩:=I.tuple hq
  refine SeqAt.notIn_tupleAt (OZ x) c (λw d=>yX g e r b w (by simpa using d)) ⟨.bl _,H,I,rfl,?_⟩;rw[show a.toArray.any (OZ x)=a.any (OZ x) by simp,CG r b];exact q
theorem K9:ue X (.builtin "len") (λxs H Q=>∃p b,xs=[.ref p]/\(bQ X.K H p b∨c7 X.K H p b)/\Q (.int b.length) H):=by
 intro f s j H xs l Q I r h;obtain⟨p,b,rfl,hq,q⟩:=h;obtain⟨u,rfl,i⟩:=vals1 r;cases i;have k:=Gv;rcases hq with hq|hq
 ·obtain⟨d,e,c,g⟩:=I.list hq
  have a:=e.length;exact Calls.call_len_list c.isList (by simp only[aX] <;> lia) ⟨.int b.length,H,I.tok _,⟨s.toks+1,by rw[aX,a]⟩,q⟩
 ·obtain⟨d,e,c,g⟩:=I.tuple hq
  have a:=e.length;exact len_tuple c (by simp only[aX] <;> lia) ⟨.int b.length,H,I.tok _,⟨s.toks+1,by rw[aX,a]⟩,q⟩
theorem gp:ue X (.type "list") (λxs H Q=>∃p d,xs=[.ref p]/\(bQ X.K H p d∨c7 X.K H p d)/\∀l,H l=none->Q (.ref l) (upd H l (.lst d))):=by
 intro m s B H xs D Q I r h;obtain⟨p,d,rfl,hq,q⟩:=h;obtain⟨u,rfl,C⟩:=vals1 r;cases C;have k:∀(a:List Value),cD d a->d.length<=sizeLine->∀(c:Heap) (g:Nat),(∀b A,s.heap.get? b=some A->c.get? b=some A) ->
  c.get? s.heap.objs.size=some {cls:=.type "list",dict:=none,data:=.seq a.toArray g,slots:=#[]}->EP X m B Q (.ref s.heap.objs.size) {s with heap:=c}:=λa f i c g j e =>
  ⟨.ref s.heap.objs.size,_,I.laid (t':=s.toks) j (aB _) (show gU X.prog X.w _ c _ (.lst d) from ⟨i,a,g,f,e⟩),rfl,q _ (I.hok.fresh (aB _))⟩
 rcases hq with hq|hq
 ·obtain⟨a,f,v,i⟩:=I.list hq
  have t:=f.length;obtain⟨o,z,x,n,y⟩:=v.isList;exact call_list_seq p (.inl rfl) z x y (λc g j e=>k a f i c g j e) (by simp only[aX] <;> lia)
 ·obtain⟨a,f,v,i⟩:=I.tuple hq
  have t:=f.length;obtain⟨o,z,x,n,y⟩:=v;exact call_list_seq p (.inr rfl) z x y (λc g j e=>k a f i c g j e) (by simp only[aX] <;> lia)
def QA(K:af)(T:String)(x:V)(H:Hp):Prop:=match x with
 |.str _=>T = "str"
 |.int _=>T = "int"
 |.ref p=>(T = "list" /\ ∃xs,bQ K H p xs)∨(T = "tuple" /\ ∃o,K.lookup p=some o/\o.cls=.type "tuple" /\ o.dict=none) ∨
  (T = "dict" /\ ((∃kvs,H p=some (.dK kvs))∨∃kvs,H p=some (.dT kvs)))∨(T = "set" /\ ∃S n,H p=some (.set S n))
 |_=>False
theorem UR{f:List (Addr×Obj)}{m:St}{H:Hp}{s:Shared}{T:String}{x:V}{v:Value}(I:Inv X f m H s)(r:RelV x v)(g:QA X.K T x H) :
 s.TypeIs v T/\∀a,v=.ref a->∃ob,s.heap.get? a=some ob/\ob.dict=none:=by
 cases x with
 |str z =>
  obtain⟨t,rfl⟩:=r;cases (show T = "str" from g);exact⟨typeIs_str s z t,λ_ e=>nomatch e⟩
 |int i =>
  obtain⟨t,rfl⟩:=r;cases (show T = "int" from g);exact⟨typeIs_int s i t,λ_ e=>nomatch e⟩
 |ref p =>
  cases r;rcases g with ⟨rfl,y,w⟩|⟨rfl,o,b,q,j⟩|⟨rfl,b⟩|⟨rfl,S,n,b⟩
  ·obtain⟨u,_,l,_⟩:=I.list w
   refine⟨l.isList.typeIs,λa e=>?_⟩;cases e;obtain⟨o,n,e,c,j,_⟩:=l;exact⟨o,e,j⟩
  ·refine⟨⟨o,I.Mm p o b,q⟩,λa e=>?_⟩
   cases e;exact⟨o,I.Mm _ o b,j⟩
  ·have z:∃o,s.heap.get? p=some o/\o.ExactDict:=by
    rcases b with ⟨h,b⟩|⟨h,b⟩
    ·obtain⟨_,_,_,_,o,_,_,e,d,_⟩:=I.hok p _ b
     exact⟨o,e,d⟩
    ·obtain⟨_,_,_,_,o,_,_,e,d,_⟩:=I.hok p _ b
     exact⟨o,e,d⟩
   obtain⟨o,e,d⟩:=z;refine⟨⟨o,e,d.1⟩,λa k=>?_⟩;cases k;exact⟨o,e,d.2.1⟩
  ·obtain⟨o,_,_,_,e,d,_⟩:=I.hok p _ b
   refine⟨⟨o,e,d.1⟩,λa k=>?_⟩;cases k;exact⟨o,e,d.2.1⟩
 |_=>exact jQ g
def agO(K:af)(T:String)(r:V->List V->Hp->VK->Prop)(to:TE):TE:=λσ H Q=>to σ H λx H1=>QA K T x H1/\r x [] H1 Q
def tBM(K:af)(T:String)(r:V->List V->Hp->VK->Prop)(to:TE)(t:TA):TE:=λσ H Q=>to σ H λx H1=>QA K T x H1/\t σ H1 λxs H2=>r x xs H2 Q
variable{o e:Expr}{es:List Expr}{to:TE}{t:TA}{name:Str}{apos cpos:Pos}{T id:String}{r:V->List V->Hp->VK->Prop}
theorem aay(pa:PlainAttrs T)(d:Slot T name id)(e:typeOf (.builtin id)=pure (.type "method_descriptor"))(m:MtR X id r)(q:PE X o to)
 (c:attributeBase o name X.env (eval o X.env)=eval o X.env:=by rfl) (b:(apos.endLine==cpos.line)=true:=by rfl):PE X (.Call (.Attribute o name apos) [] [] cpos) (agO X.K T r to):=by
 intro a s f H Q I h;refine wpAny_Call_method0_late c b (gV (q a s f H _ I h) λv k ⟨x,l,i,g,p,n⟩=>?_);obtain⟨j,t⟩:=UR i g p;exact⟨T,id,pa,d,e,j,t,Calls.callWith_builtin rfl (PySem.evalArgs_none (m a k f l x [] v [] Q i g .nil n))⟩
theorem yw(pa:PlainAttrs T)(f:Slot T name id)(j:typeOf (.builtin id)=pure (.type "method_descriptor"))(A:MtR X id r)(J:PE X o to)(B:PA X (e::es) t)
 (d:attributeBase o name X.env (eval o X.env)=eval o X.env:=by rfl)
 (g:((backTo cpos (starEach (e::es) X.env)).all (λx=>!x.1)&&(backToKw cpos (keywordEach [] X.env)).all (λx=>x.1.isSome)
  && decide ((e::es).length+([]:List Keyword).length+(if ([]:List Keyword).isEmpty then 0 else 1)<30))=true:=by rfl)
 (c:(apos.endLine==cpos.line)=true:=by rfl) (C:starEach (e::es) X.env=(false,eval e X.env)::starEach es X.env:=by rfl) (b:(backTo cpos (starEach es X.env)).any (·.1)=false:=by rfl) :
 PE X (.Call (.Attribute o name apos) (e::es) [] cpos) (tBM X.K T r to t):=by
 intro a s i H Q I h;refine wpAny_Call_method_late d g c rfl (gV (J a s i H _ I h) λv u ⟨x,y,m,l,G,D⟩=>?_);obtain⟨p,L⟩:=UR m l G;refine⟨T,id,pa,f,j,p,L,?_⟩;have k:=B cpos a u i y _ m D;rw[C] at k ⊢;refine Calls.callWith_builtin (by show (false || (backTo cpos (starEach es X.env)).any (·.1))=false;rw[b] <;> rfl) (Calls.evalArgs_plain ?_);exact gV k λM w ⟨E,n,F,q,z⟩=>A a w i n x E v M Q F l q z
end
def MtM(X:Cx)(id:String)(r:V->List V->Hp->VK->Prop):Prop :=
 ∀(pins:List (Addr×Obj)) (s:Shared) (σ:St) (H:Hp) (x:V) (xs:List V) (v:Value) (us:List Value) (Q:VK),Inv X pins σ H s->RelV x v->cD xs us->r x xs H Q ->
  wpAny (model X.prog X.w) X.A (call (.builtin id) (v::us)) (EP X pins σ Q) X.xe s
theorem cD.one:∀{x:V} {us:List Value},cD [x] us->∃u,us=[u]/\RelV x u
 |_,_,.cons r .nil=>⟨_,rfl,r⟩
theorem cD.zero:∀{us:List Value},cD [] us->us=[]
 |_,.nil=>rfl
theorem cD.eraseIdx:∀{xs:List V} {us:List Value} (i:Nat),cD xs us->cD (xs.eraseIdx i) (us.eraseIdx i)
 |_,_,_,.nil=>.nil
 |_,_,0,.cons _ t=>t
 |_,_,i+1,.cons r t=>.cons r (cD.eraseIdx i t)
theorem JM{α:Type}:∀(l:List α) (i:Nat),(l.eraseIdx i).length<=l.length
 |[],_=>aB _
 |_::_,0=>dU _
 |_::r,i+1=>Nat.succ_le_succ (JM r i)
section
variable{X:Cx}{pins:List (Addr×Obj)}{σ:St}{H:Hp}{s:Shared}{l b:Addr}{xs ys zs:List V}
theorem Inv.adh{a its':List Value}{n:Nat}{f:Array Value->Array Value}{t':Nat}(I:Inv X pins σ H s)(i:H l=some (.lst xs))
 (e:s.heap.get? l=some {cls:=.type "list",data:=.seq a.toArray n}) (h:f a.toArray=its'.toArray) (c:cD ys its') (b:ys.length<=sizeLine) :
 Inv X pins σ (upd H l (.lst ys)) {s with heap:=s.heap.update l (Obj.mapSeq f),toks:=t'}:=by
 have q:=PySem.IsL.update e f;rw[h] at q;refine I.write (x:=l) (e:=l) (by rw[i];exact trivial) (.inl rfl) (λj u g d=>(Heap.get?_update_other s.heap (Obj.mapSeq f) (bN g)).trans d) ⟨_,q⟩ ?_;exact⟨b,its',_,c,q⟩
theorem Inv.adi(I:Inv X pins σ H s)(b:H l=some (.lst xs)):xs.length<=sizeLine/\∃(a:List Value) (n:Nat),cD xs a/\xs.length=a.length/\s.heap.get? l=some {cls:=.type "list",data:=.seq a.toArray n}:=by
 obtain⟨z,a,n,r,e⟩:=I.hok l _ b;exact⟨z,a,n,r,r.length,e⟩
end
section
variable{X:Cx}
inductive QF(x:V)(vs:List V)(H:Hp)(Q:VK):Prop
 |mk (l:Addr) (xs:List V) (y:V) (h1:x=.ref l) (h2:vs=[y]) (h3:H l=some (.lst xs)) (h4:xs.length<sizeLine) (h5:Q .fM (upd H l (.lst (xs++[y])))):QF x vs H Q
theorem gY:MtM X "list.append" QF:=by
 intro b s i H x m v p Q I g d h;obtain⟨l,k,y,rfl,rfl,c,j,q⟩:=h;cases g;obtain⟨u,rfl,f⟩:=d.one;obtain⟨z,a,n,r,o,e⟩:=I.adi c;refine call_meets F.slot_list_append ⟨_,e,rfl⟩ F.entry_list_append (F.args_list_append_2 _ _) (PySem.list_append l a.toArray n u (by rw[aX];lia)) ⟨e,?_⟩;refine⟨.fM,_,I.adh (its':=a++[u]) c e (-_) (r.append (.cons f .nil)) ?_,rfl,q⟩;rw[aA,List.length_singleton];lia
def aaz:V->List V->Hp->VK->Prop:=λx vs H Q=>∃l xs i k y,x=.ref l/\vs=[.int i]/\H l=some (.lst xs)/\-(2^63)<=i/\i<2^63/\seqIndex? i xs.length=some k/\xs[k]?=some y/\Q y (upd H l (.lst (xs.eraseIdx k)))
theorem US:MtM X "list.pop" aaz:=by
 intro c s E H x G v J Q I B j h;obtain⟨l,p,i,k,y,rfl,rfl,d,f,C,D,g,q⟩:=h;cases B;obtain⟨u,rfl,o⟩:=j.one;obtain⟨t,rfl⟩:=o;obtain⟨z,a,n,r,A,e⟩:=I.adi d;obtain⟨w,m,b⟩:=r.get g;refine call_meets F.slot_list_pop ⟨_,e,rfl⟩ F.entry_list_pop (F.args_list_pop_2 _ _)
  (MeetsSeq.list_pop_at l a.toArray n i t k w (fitsIndex_both f C) (by rw[aX,<- A];exact D) (by rw[<- gC];exact m) (by rw[aX];lia)) ⟨e,?_⟩
 refine⟨y,_,I.adh (its':=a.eraseIdx k) d e ?_ (r.eraseIdx k) ?_,b,q⟩
 ·show a.toArray.eraseIdxIfInBounds k=(a.eraseIdx k).toArray
  rw[List.eraseIdxIfInBounds_toArray]
 ·have:=JM p k
  lia
end
section
variable{κ:Type}[DecidableEq κ]
noncomputable def CH(kvs:List (κ×V))(k:κ):Option V:=(kvs.find? λkv=>decide (kv.1=k)).map (·.2)
noncomputable def putK(kvs:List (κ×V))(k:κ)(v:V):List (κ×V) :=
 if (kvs.any λkv=>decide (kv.1=k))=true then kvs.map (λkv=>if kv.1=k then (kv.1,v) else kv) else kvs++[(k,v)]
theorem yY{p:κ×V}{r:List (κ×V)}{k:κ}(e:p.1=k):CH (p::r) k=some p.2:=by simp[CH,se,e]
theorem yZ{p:κ×V}{r:List (κ×V)}{k:κ}(e:¬p.1=k):CH (p::r) k=CH r k:=by simp[CH,se,e]
theorem MB(k:κ):∀kvs:List (κ×V),(kvs.any λa=>decide (a.1=k))=(CH kvs k).isSome
 |[]=>rfl
 |p::r=>by
  rw[List.any_cons];by_cases e:p.1=k
  ·simp only[yY e,cy e,Bool.true_or,Option.isSome_some]
  ·rw[yZ e,c6 e,Bool.false_or];exact MB k r
theorem ER(kvs:List (κ×V))(k:κ)(v:V):(putK kvs k v).length<=kvs.length+1:=by
 unfold putK;split
 ·rw[ah];lia
 ·rw[aA,bE,List.length_nil];lia
theorem AV.DJ{o:Option V}{u:Option Value}(r:AV o u):o.isSome=u.isSome:=by
 cases o with
 |none=>cases u with
  |none=>rfl
  |some _=>exact (show False from r).elim
 |some _=>cases u with
  |none=>exact (show False from r).elim
  |some _=>rfl
theorem AV.getD{o:Option V}{u:Option Value}{d:V}{d':Value}(r:AV o u)(a:RelV d d'):RelV (o.getD d) (u.getD d'):=by
 cases o with
 |none=>cases u with
  |none=>exact a
  |some _=>exact (show False from r).elim
 |some _=>cases u with
  |none=>exact (show False from r).elim
  |some _=>exact r
theorem KV.val{kvs:List (κ×V)}{vs:List (κ×Value)}(r:KV kvs vs)(k:κ):AV (CH kvs k) (valueAt vs k):=by
 unfold KV at r;induction r with
 |nil=>exact True.intro
 |@cons p q i c h t f =>
  obtain⟨d,g⟩:=h;by_cases e:p.1=k
  ·have a:q.1=k:=d.symm.trans e
   have b:valueAt (q::c) k=some q.2:=by simp[valueAt,se,a]
   rw[yY e,b];exact g
  ·have a:¬q.1=k:=λz=>e (d.trans z)
   have b:valueAt (q::c) k=valueAt c k:=by simp[valueAt,se,a]
   rw[yZ e,b];exact f
theorem KV.any{kvs:List (κ×V)}{vs:List (κ×Value)}(r:KV kvs vs)(k:κ):(kvs.any λa=>decide (a.1=k))=vs.any λa=>decide (a.1=k):=by
 unfold KV at r;induction r with
 |nil=>rfl
 |cons h t b=>rw[List.any_cons,List.any_cons,b,h.1]
theorem KV.repl{kvs:List (κ×V)}{vs:List (κ×Value)}(r:KV kvs vs)(k:κ){y:V}{u:Value}(c:RelV y u) :
 KV (kvs.map λa=>if a.1=k then (a.1,y) else a) (vs.map λa=>if a.1=k then (a.1,u) else a):=by
 unfold KV at r ⊢;induction r with
 |nil=>exact .nil
 |@cons p q g i h t d =>
  rw[bH,bH];refine .cons ?_ d;obtain⟨b,f⟩:=h;by_cases e:p.1=k
  ·rw[aq e,aq (b.symm.trans e)];exact⟨b,c⟩
  ·rw[b3 e,b3 (λz=>e (b.trans z))];exact⟨b,f⟩
theorem KV.put{kvs:List (κ×V)}{vs:List (κ×Value)}(r:KV kvs vs)(k:κ){y:V}{u:Value}(a:RelV y u):KV (putK kvs k y) (stored vs k u):=by
 unfold putK stored;rw[r.any k];by_cases e:(vs.any λb=>decide (b.1=k))=true
 ·rw[aq e,aq e];exact r.repl k a
 ·rw[b3 e,b3 e];exact Paired.snoc r ⟨rfl,a⟩
theorem KV.length{kvs:List (κ×V)}{vs:List (κ×Value)}(r:KV kvs vs):kvs.length=vs.length:=Paired.length r
end
theorem QG{P:Program}{w:World}{k:Key}{u:Value}(r:RelV (kV k) u):(ig P w).is k u=true:=by
 cases k with
 |inl i=>obtain⟨t,e⟩:=(show ∃t,u=Value.int i t from r);subst e;exact Ms P w i t
 |inr x=>obtain⟨t,e⟩:=(show ∃t,u=Value.str x t from r);subst e;exact Mt P w x t
theorem JN{P:Program}{w:World}:∀{a:List Key} {us:List Value},cD (a.map kV) us->ItemsAre (ig P w) a us
 |[],_,r=>by rw[List.map_nil] at r;cases r;exact .nil
 |k::a,_,r=>by
  rw[bH] at r;cases r with
  |cons h t=>exact .cons (QG h) (JN t)
abbrev KT(H:Hp):List (List Key×V)->List (List Key×Addr×Value)->Prop:=Paired λp q=>p.1=q.1/\H q.2.1=some (.tup (p.1.map kV))/\RelV p.2 q.2.2
theorem KT.val{H:Hp}{kvs:List (List Key×V)}{xs:List (List Key×Addr×Value)}(r:KT H kvs xs)(k:List Key):AV (CH kvs k) ((atKey xs k).map (·.2)):=by
 induction r with
 |nil=>exact True.intro
 |@cons p q i c h t f =>
  obtain⟨d,_,g⟩:=h;by_cases e:p.1=k
  ·have a:q.1=k:=d.symm.trans e
   have b:atKey (q::c) k=some q.2:=by simp[atKey,se,a]
   rw[yY e,b];exact g
  ·have a:¬q.1=k:=λz=>e (d.trans z)
   have b:atKey (q::c) k=atKey c k:=by simp[atKey,se,a]
   rw[yZ e,b];exact f
theorem KT.repl{H:Hp}{kvs:List (List Key×V)}{xs:List (List Key×Addr×Value)}(r:KT H kvs xs)(k:List Key){y:V}{u:Value}(f:RelV y u) :
 KT H (kvs.map λb=>if b.1=k then (b.1,y) else b) (xs.map (putAt k u)):=by
 induction r with
 |nil=>exact .nil
 |@cons p q i j h t g =>
  rw[bH,bH];refine .cons ?_ g;obtain⟨a,c,d⟩:=h;unfold putAt;by_cases e:p.1=k
  ·rw[aq e,aq (a.symm.trans e)];exact⟨a,c,f⟩
  ·rw[b3 e,b3 (λz=>e (a.trans z))];exact⟨a,c,d⟩
theorem KT.put{H:Hp}{kvs:List (List Key×V)}{xs:List (List Key×Addr×Value)}(r:KT H kvs xs)(k:List Key){b:Addr}{y:V}{u:Value}(c:H b=some (.tup (k.map kV)))(a:RelV y u) :
 KT H (putK kvs k y) (storedH xs k b u):=by
 have e:(kvs.any λd=>decide (d.1=k))=(atKey xs k).isSome:=by
  rw[MB,(r.val k).DJ,Option.isSome_map]
 unfold putK storedH;rw[e];by_cases q:(atKey xs k).isSome=true
 ·rw[aq q,aq q];exact r.repl k a
 ·rw[b3 q,b3 q];exact Paired.snoc r ⟨rfl,c,a⟩
theorem KT.keeps{H a:Hp}{kvs:List (List Key×V)}{xs:List (List Key×Addr×Value)}(r:KT H kvs xs)(d:∀b c,H b=some (.tup c)->a b=some (.tup c)):KT a kvs xs :=
 Paired.W1 r λ_ _ z=>⟨z.1,d _ _ z.2.1,z.2.2⟩
section
variable{P:Program}{w:World}{H:Hp}{h:Heap}{a:Addr}
theorem Zg{u:HO}(ok:yS P w H h)(e:Rd H a u):gU P w H h a u:=e.ok ok
theorem QH{kvs:List (Key×V)}(ok:yS P w H h)(e:Rd H a (.dK kvs)):kvs.length<=sizeLine/\(a==sysModules)=false/\∃vs,KV kvs vs/\h.DictOf (ig P w) a vs :=
 show gU P w H h a (.dK kvs) from Zg ok e
theorem adk{kvs:List (Key×V)}(ok:yS P w H h)(e:H a=some (.dK kvs)):kvs.length<=sizeLine/\(a==sysModules)=false/\∃vs,KV kvs vs/\h.DictOf (ig P w) a vs:=QH ok (.inl e)
theorem La{c:List Key}(ok:yS P w H h)(e:H a=some (.tup (c.map kV))):(tupleKind (ig P w)).is h c a:=by
 obtain⟨_,b,r,o,f,d,n,g⟩:=(show gU P w H h a (.tup (c.map kV)) from ok a _ e);exact⟨o,b.toArray,n,f,d,g,by simpa using JN r⟩
theorem QI{kvs:List (List Key×V)}(ok:yS P w H h)(e:Rd H a (.dT kvs)):kvs.length<=sizeLine/\(a==sysModules)=false /\
 ∃xs,KT H kvs xs/\h.DictOfH (tupleKind (ig P w)) a xs:=by
 obtain⟨z,y,xs,r,o,g,f,d,k,n,s,i⟩:=(show gU P w H h a (.dT kvs) from Zg ok e);refine⟨z,y,xs,r,o,g,f,d,k,n,s,λx hx=>?_,i⟩;have b:∀{l:List (List Key×V)} {m:List (List Key×Addr×Value)},KT H l m->∀x∈m,(tupleKind (ig P w)).is h x.1 x.2.1:=by
  intro l m q;induction q with
  |nil=>intro x hx;exact nomatch hx
  |@cons p q u v c t j =>
   intro x hx;rcases be.mp hx with e|hx
   ·subst e
    exact La ok (by rw[<- c.1];exact c.2.1)
   ·exact j x hx
 exact b r x hx
theorem adl{kvs:List (List Key×V)}(ok:yS P w H h)(e:H a=some (.dT kvs)):kvs.length<=sizeLine/\(a==sysModules)=false /\
 ∃xs,KT H kvs xs/\h.DictOfH (tupleKind (ig P w)) a xs:=QI ok (.inl e)
end
def IJ(H:Hp)(a:Addr)(y:V)(r:Option V):Prop :=
 (∃kvs k,Rd H a (.dK kvs)/\y=kV k/\r=CH kvs k)∨∃kvs k b,Rd H a (.dT kvs)/\y=.ref b/\H b=some (.tup (k.map kV))/\r=CH kvs k
def MC(H:Hp)(a:Addr)(y v:V)(H':Hp):Prop :=
 (∃kvs k,H a=some (.dK kvs)/\y=kV k/\kvs.length<sizeLine/\H'=upd H a (.dK (putK kvs k v))) ∨
 ∃kvs k b,H a=some (.dT kvs)/\y=.ref b/\H b=some (.tup (k.map kV))/\kvs.length<sizeLine/\H'=upd H a (.dT (putK kvs k v))
theorem IJ.k{H:Hp}{a:Addr}{kvs:List (Key×V)}{k:Key}(e:H a=some (.dK kvs)):IJ H a (kV k) (CH kvs k):=.inl ⟨kvs,k,.inl e,rfl,rfl⟩
theorem IJ.t{H:Hp}{a b:Addr}{kvs:List (List Key×V)}{k:List Key}(e:H a=some (.dT kvs))(c:H b=some (.tup (k.map kV))):IJ H a (.ref b) (CH kvs k):=.inr ⟨kvs,k,b,.inl e,rfl,c,rfl⟩
theorem MC.k{H:Hp}{a:Addr}{kvs:List (Key×V)}{k:Key}{v:V}(e:H a=some (.dK kvs))(hl:kvs.length<sizeLine):MC H a (kV k) v (upd H a (.dK (putK kvs k v))):=.inl ⟨kvs,k,e,rfl,hl,rfl⟩
theorem MC.t{H:Hp}{a b:Addr}{kvs:List (List Key×V)}{k:List Key}{v:V}(e:H a=some (.dT kvs))(c:H b=some (.tup (k.map kV)))(hl:kvs.length<sizeLine) :
 MC H a (.ref b) v (upd H a (.dT (putK kvs k v))):=.inr ⟨kvs,k,b,e,rfl,c,hl,rfl⟩
section
variable{X:Cx}{pins:List (Addr×Obj)}{σ:St}{H:Hp}{s:Shared}{a:Addr}{y v:V}{u r:Value}{o:Option V}{A:Around}{E:Value->Shared->Prop}
theorem Inv.big(I:Inv X pins σ H s):sysModules<s.heap.objs.size:=by
 have h:mainGlobals<s.heap.objs.size:=(I.mod.glob.keeps I.bk).lt;exact Nat.lt_trans (!_) h
theorem agP{Q:Value->Shared->Prop}(n:A.units+1<cLine)(I:Inv X pins σ H s)(g:IJ H a y o)(j:RelV y u)(h:∀s',Inv X pins σ H s'->Q (.bool o.isSome) s') :
 wpAny (model X.prog X.w) A (compareOp .In u (.ref a)) Q E s:=by
 rcases g with ⟨d,k,e,i,l⟩|⟨d,k,b,e,i,m,l⟩
 ·subst i
  obtain⟨z,f,r,rel,c⟩:=QH I.hok e;refine wpAny_in_of (QG j) f c.mapOf ?_;rw[<- (rel.val k).DJ,<- l];exact h _ (I.tok _)
 ·subst i
  cases (show u=Value.ref b from j);obtain⟨z,f,p,rel,c⟩:=QI I.hok e;refine wpAny_in_heap (tupleKind_room_in1 n) (La I.hok m) f c ?_;have q:=(rel.val k).DJ;rw[Option.isSome_map] at q;rw[<- q,<- l];exact h _ (I.tok _)
theorem QJ{h':Heap}{t':Nat}{ob:HO}(I:Inv X pins σ H s)(f:ID (H a))(hs:Heap.SameBut a s.heap h')(g:∃q,h'.get? a=some q)(c:gU X.prog X.w (upd H a ob) h' a ob) :
 Inv X pins σ (upd H a ob) {s with heap:=h',toks:=t'} :=
 I.write (x:=a) (e:=a) f (.inl rfl) (λb q d z=>(hs.2 b d).trans z) g c
theorem aaA{P:Program}{w:World}{d:Hp}{h':Heap}{kvs:List (Key×V)}{vs:List (Key×Value)}(z:kvs.length<=sizeLine)(c:(a==sysModules)=false)(b:KV kvs vs)(dd:h'.DictOf (ig P w) a vs) :
 gU P w d h' a (.dK kvs):=⟨z,c,vs,b,dd⟩
theorem Si{J:Hp}{Q:Unit->Shared->Prop}(P:A.units+1<cLine)(I:Inv X pins σ H s)(g:MC H a y v J)(F:RelV y u)(D:RelV v r)(h:∀s',Inv X pins σ J s'->Q () s') :
 wpAny (model X.prog X.w) A (setItem (.ref a) u r) Q E s:=by
 rcases g with ⟨d,k,e,x,l,p⟩|⟨d,k,b,e,x,G,l,p⟩
 ·subst x p
  obtain⟨z,n,O,rel,j⟩:=adk I.hok e;have m:O.length<=sizeLine:=by rw[<- rel.length];exact z
  have t:(putK d k v).length<=sizeLine:=by have:=ER d k v;lia
  refine wpAny_setItem_pairs (hsz:=m) (QG F) j λC f o=>h _ ?_;have S:∃q,C.get? a=some q:=let ⟨q,_,_,i,_⟩:=f;⟨q,i⟩;exact QJ I (by rw[e];exact True.intro) o S (aaA t n (rel.put k D) f)
 ·subst x p
  cases (show u=Value.ref b from F);obtain⟨z,n,M,rel,j⟩:=adl I.hok e;have m:M.length<=sizeLine:=by rw[<- Paired.length rel];exact z
  have t:(putK d k v).length<=sizeLine:=by have:=ER d k v;lia
  refine wpAny_setItem_heap (hsz:=m) (tupleKind_room_in1 P) (La I.hok G) j λC f o=>h _ ?_;obtain⟨q,L,K,i,R,T,U,_,N⟩:=f;refine QJ I (by rw[e];exact True.intro) o ⟨q,i⟩ ⟨t,n,_,(rel.put k G D).keeps λc V B=>?_,q,L,K,i,R,T,U,N⟩;rw[aK (vJ B e (λz=>nomatch z))];exact B
end
def agQ(ty td:TE):TE:=λσ H Q=>ty σ H λy H1=>td σ H1 λx H2=>∃a o,x=.ref a/\IJ H2 a y o/\Q (.bl o.isSome) H2
def adm(td ty tv:TE):TS:=λD σ H=>tv σ H λv H1=>td σ H1 λx H2=>ty σ H2 λy H3=>∃a H4,x=.ref a/\MC H3 a y v H4/\D.nx σ H4
section
variable{X:Cx}{o i e value:Expr}{pos pos' tpos:Pos}{td ty tv:TE}
theorem aaB(q:X.A.units+1<cLine)(f:PE X i ty)(t:PE X o td):PC X .In i o (agQ ty td):=by
 intro b s c H Q I h;refine gV (f b s c H _ I h) λB j ⟨y,k,v,m,p⟩=>gV (t b j c k _ v p) λu C ⟨x,e,r,w,a,l,d,g,n⟩=>?_;subst d;obtain rfl:u=Value.ref a:=w;exact agP q r g m λD z=>⟨.bl l.isSome,e,z,rfl,n⟩
theorem QK(z:X.A.units+1<cLine)(E:PE X o td)(j:PE X i ty)(p:PE X value tv)(hs:swapsWith value (some (.Subscript o i pos')) pos.line X.env=pure false) :
 PS X (.Assign [.Subscript o i pos'] value pos) (adm td ty tv):=by
 intro b s c H D I h;refine wpAny_Assign_Subscript (gV (p b s c H _ I h) λr k ⟨v,m,F,n,w⟩=>gV (E b k c m _ F w) λu l ⟨x,f,C,G,t⟩=>gV (j b l c f _ C t) λL M ⟨y,N,K,q,a,e,d,g,B⟩=>?_) hs;subst d;obtain rfl:u=Value.ref a:=G;exact Si z K g q n λO J=>⟨c,e,J,B⟩
end
theorem UT{P:Program}{w:World}{H:Hp}(h:Heap)(a:sysModules<h.objs.size):gU P w H (h.push {cls:=.type "dict",data:=.dict #[]}) h.objs.size (.dK []) :=
 ⟨bI _,beq_eq_false_iff_ne.mpr (bN (bz a)),[],.nil,Heap.DictOf.new h⟩
theorem UU{P:Program}{w:World}{H:Hp}(h:Heap)(a:sysModules<h.objs.size):gU P w H (h.push {cls:=.type "dict",data:=.dict #[]}) h.objs.size (.dT []) :=
 ⟨bI _,beq_eq_false_iff_ne.mpr (bN (bz a)),[],.nil,_,#[],0,Heap.get?_push_size _ rfl,⟨rfl,rfl,rfl⟩,rfl,rfl,jy⟩
def aaC:TE:=λ_ H Q=>∀p,H p=none->Q (.ref p) (upd H p (.dK []))
def aaD:TE:=λ_ H Q=>∀p,H p=none->Q (.ref p) (upd H p (.dT []))
section
variable{X:Cx}{pos:Pos}
theorem UW:PE X (.Dict [] [] pos) aaC:=λb s c H Q I h =>
 wpAny_Dict_empty ⟨.ref s.heap.objs.size,_,I.laid (a:=s.heap.objs.size) (o:=.dK []) (t':=s.toks) (λ_ _ q=>Heap.get?_push_of_some _ q) (aB _) (UT s.heap I.big),rfl,h _ (I.hok.fresh (aB _))⟩
theorem MD:PE X (.Dict [] [] pos) aaD:=λb s c H Q I h =>
 wpAny_Dict_empty ⟨.ref s.heap.objs.size,_,I.laid (a:=s.heap.objs.size) (o:=.dT []) (t':=s.toks) (λ_ _ q=>Heap.get?_push_of_some _ q) (aB _) (UU s.heap I.big),rfl,h _ (I.hok.fresh (aB _))⟩
end
structure M1(X:Cx)(o:Expr)(m:Str)(apos:Pos)(e:Expr)(cpos:Pos):Prop where
 base:attributeBase o m X.env (eval o X.env)=eval o X.env
 few:((backTo cpos (starEach [e] X.env)).all (λx=>!x.1)&&(backToKw cpos (keywordEach [] X.env)).all (λx=>x.1.isSome)
  && decide (([e]:List Expr).length+([]:List Keyword).length+(if ([]:List Keyword).isEmpty then 0 else 1)<30))=true
 line:(apos.endLine==cpos.line)=true
 trees:backTo cpos (starEach [e] X.env)=[(false,eval e X.env)]
def IsD(H:Hp)(a:Addr):Prop:=(∃kvs,Rd H a (.dK kvs))∨∃kvs,Rd H a (.dT kvs)
theorem aaE{X:Cx}{f:List (Addr×Obj)}{k:St}{H:Hp}{s:Shared}{a:Addr}(I:Inv X f k H s)(d:IsD H a) :
 s.TypeIs (.ref a) "dict" /\ (∀b,Value.ref a=.ref b->∃ob,s.heap.get? b=some ob/\ob.dict=none)/\(a==sysModules)=false:=by
 rcases d with ⟨h,e⟩|⟨h,e⟩
 ·obtain⟨_,i,m,_,c⟩:=QH I.hok e
  refine⟨c.typeIs,λb q=>?_,i⟩;cases q;obtain⟨ob,_,_,g,j,_⟩:=c;exact⟨ob,g,j.2.1⟩
 ·obtain⟨_,i,l,_,c⟩:=QI I.hok e
  refine⟨c.typeIs,λb q=>?_,i⟩;cases q;obtain⟨ob,_,_,g,j,_⟩:=c;exact⟨ob,g,j.2.1⟩
section
variable{X:Cx}{pins:List (Addr×Obj)}{σ:St}{H:Hp}{s:Shared}{a:Addr}{y d:V}{u r:Value}{o:Option V}{A:Around}{E:Value->Shared->Prop}
theorem aaF{Q:Value->Shared->Prop}(q:A.units+1<cLine)(I:Inv X pins σ H s)(g:IJ H a y o)(j:RelV y u)(h:∀m s',Inv X pins σ H s'->RelV (o.getD .fM) m->Q m s') :
 wpAny (model X.prog X.w) A (call (.builtin "dict.get") [.ref a,u]) Q E s:=by
 rcases g with ⟨d,k,e,i,l⟩|⟨d,k,b,e,i,n,l⟩
 ·subst i
  obtain⟨z,f,r,rel,c⟩:=QH I.hok e;refine call_meetsIn PySem.F.slot_dict_get c.typeIs PySem.F.entry_dict_get (PySem.F.args_dict_get_2 _ _) (meets_dict_get (ig X.prog X.w) a (QG j) f) ⟨_,c.mapOf,h _ _ (I.tok _) ?_⟩;rw[l];exact (rel.val k).getD rfl
 ·subst i
  cases (show u=Value.ref b from j);obtain⟨z,f,p,rel,c⟩:=QI I.hok e;refine call_meetsIn PySem.F.slot_dict_get c.typeIs PySem.F.entry_dict_get (PySem.F.args_dict_get_2 _ _) (meetsH_dict_get (tupleKind (ig X.prog X.w)) a b f) ⟨tupleKind_room_in1 q,k,p,La I.hok n,c,h _ _ (I.tok _) ?_⟩;rw[l];exact (rel.val k).getD rfl
end
def aaG(td ty:TE):TE:=λσ H Q=>td σ H λx H1=>∃a,x=.ref a/\IsD H1 a/\ty σ H1 λy H2=>∃o,IJ H2 a y o/\Q (o.getD .fM) H2
section
variable{X:Cx}{o e f:Expr}{apos cpos:Pos}{td ty tx:TE}
theorem UX(w:X.A.units+1<cLine)(B:PE X o td)(D:PE X e ty)(m:M1 X o "get" apos e cpos):PE X (.Call (.Attribute o "get" apos) [e] [] cpos) (aaG td ty):=by
 intro b s f H Q I h;refine wpAny_Call_method m.base m.few m.line PySem.F.plainAttrs_dict PySem.F.slot_dict_get PySem.F.type_dict_get (gV (B b s f H _ I h) λu n ⟨x,p,i,C,a,k,d,t⟩=>?_);subst k;obtain rfl:u=Value.ref a:=C;obtain⟨j,v,_⟩:=aaE i d;refine⟨j,v,?_⟩;rw[m.trees];refine Calls.callWith_builtin rfl (Calls.evalArgs_plain (Calls.spliced_cons (gV (D b n f p _ i t) λG J ⟨y,l,z,q,K,g,r⟩=>Calls.spliced_nil ?_)));exact aaF w z g q λM L E c=>⟨_,l,E,c,r⟩
end
end L2
namespace Att
open PySem PySem.W PySem.Calls PyProof.Rows
theorem FH{P:Params}{h:Heap}:∀(ns:List Int) (vs:List Value),WellAll P h vs (ns.map WData.int)->IntsAre vs ns:=by
 intro ns;induction ns with
 |nil =>
  intro vs w;rw[List.map_nil] at w;cases w;exact .nil
 |cons n ns c =>
  intro vs w;rw[bH] at w;cases w with
  |cons a b =>
   cases a;exact .cons _ _ (c _ b)
theorem Sj{l:OpenLaw}{n:Nat}(s:l.most=some n){P:Params}{h:Heap}{args:List WData}{b:List Value}
 (c:l.row.toRowW.claim.pre args=true) (j:WellAll P h b args) :
 ∃a vs ns,b=[Value.ref a]/\args=[WData.list (ns.map WData.int)]/\h.get? a=some {cls:=.type "list",data:=.seq vs.toArray}/\IntsAre vs ns/\ns.length<=n:=by
 have k:WShape.hasAll [] args [.list .int]=true:=(pre_splitW c).1;have m:l.pre.holds [] {args:=args}=true:=(pre_splitW c).2;obtain⟨d,r,rfl,p,w⟩:=hasAllW_cons k;obtain rfl:=hasAllW_nil w;obtain⟨y,rfl,x⟩:=hasW_list p;obtain⟨ns,rfl⟩:=items_int x;have e:ns.length<=n:=by
  unfold OpenLaw.pre at m;have i:(WTm.not (.lt (.lit (.int (n:Int))) (.len (.arg 0)))).holds [] {args:=[.list (ns.map .int)]}=true:=by
   have i:=(holds_andW m).1;rw[s] at i;exact i
  have g:=condW_of i (w_not (w_lt w_lit (w_len_list (w_arg rfl))));rw[ah] at g;refine Nat.le_of_not_lt λq=>?_;have t:(n:Int)<((ns.length:Nat):Int):=∅
  first
   | (rw[cy t] at g;exact b5 g (!_))
   | (simp at g;lia)
 cases j with
 |cons u o =>
  cases o;cases u with
  |list v f=>exact⟨_,_,ns,rfl,rfl,v,FH ns _ f,e⟩
theorem Sk(l:OpenLaw)(args:List WData):l.row.toRowW.claim.post args (.bool true) args=true :=
 postW_of (r:=l.row.toRowW) (X:=(true==true))
  (show WShape.has [] (.bool true) .bool=true by first|rfl|decide|simp[WShape.has,WShape.arms,WShape.armsAll])
  (show (WTm.eq .res (.lit (.bool true))).value [] {args:=args,res:=some (.bool true),after:=args}=some (.bool (true==true)) from w_eq_bool (w_res rfl) w_lit) rfl
theorem ME{l:OpenLaw}{n:Nat}{q:Program}{c:List Str}{XP:(Str->Option Value)->Heap->Prop}{C:World->Heap->Prop}{d:DefRec}
 (L:l.most=some n) (z:d.params.defaults=[])
 (call:∀(w:World) (e b:Shared) (p v:Str->Option Value) (i:Addr) (o:Obj) (x t g:Value) (a:Addr) (vs:List Value) (ns:List Int),
  Ground q c [] XP w e p v b.heap->C w b.heap ->
  b.heap.get? i=some o->o.data=.func (docDef d.name d.params d.body d.scope x t g)->b.heap.CodeRec t d.name->p d.name=some (.ref i) ->
  b.heap.get? a=some {cls:=.type "list",data:=.seq vs.toArray}->IntsAre vs ns->ns.length<=n->b.gens=#[] ->
  codeAny (model l.prog w) callerA (.call (.ref i) ⟨[.ref a],[]⟩) (λr s=>r=.ok (.ret (.bool true))/\OldK b.heap s.heap/\s.os=b.os/\AllBare s.gens) b) :
 WalkO q c XP C l.row.toRowW d [] (λf vs=>PySem.call f vs):=by
 intro w e b p v G Y i o x t g I kV N K u E A O F D T m B J y H;obtain rfl:I=.none:=Dflts.none E z;obtain rfl:kV=.none:=Dflts.noKw E;obtain⟨a,vs,ns,rfl,rfl,k,h,j⟩:=Sj L m y;refine enter_call (codeAny_mono (call w e b p v i o x t g a vs ns G Y N (fd_plain K) u A k h j O) λr s Q=>?_);obtain⟨rfl,P,R,S⟩:=Q;exact⟨.inl ⟨.bool true,.bool true,[],rfl,λ_=>rfl,.bool true,Sk l _,λ_=>⟨List.Pairwise.nil,λ_ M=>(nomatch M)⟩⟩,P,R,S⟩
end Att
namespace L2
open PySem PySem.Spec PyProof.Rows
theorem JO:∀{vs:List Value} {ns:List Int},IntsAre vs ns->cD (ns.map V.int) vs
 |_,_,.nil=>.nil
 |_,_,.cons n t h=>.cons ⟨t,rfl⟩ (JO h)
def aaH(H:Hp):Prop:=∀b,H b=none∨∃o xs,H b=some (.Ct o (.lst xs))
theorem UY{P:Program}{w:World}{K:af}{C O:Str->Option Value}{CX:Sd}{k:Nat}{Q a:Addr}{W:FuncData}{x:Str}{sp:Sp}{c:Shared}{vs:List Value}{ns:List Int}
 (U:K.In c.heap) (A:c.heap.Ns mainGlobals C) (f:c.heap.Ns builtinsNs O) (J:∀x:Str,x≠"__name__" -> O x=bootBuiltins x) (t:c.heap.NoLimit) (hg:c.gens=#[])
 (I:c.heap.get? a=some {cls:=.type "list",data:=.seq vs.toArray}) (hi:IntsAre vs ns) (Z:ns.length<=sizeLine) (hr:jT k callerA)
 (F:∀base:Heap,K.In base->base.Ns mainGlobals C->cE P w K C base CX k Q W [x] sp) (l:∀(s:Shared) (u:Value),BindsTo s W ⟨[u],[]⟩ [(x,u)])
 (T6:∀H:Hp,aaH H->bQ K H a (ns.map V.int)->sp [.ref a] H (λv _=>v=.bl true) λ_ _ _=>False)
 (L:∀H e g,CX [] H c (λ_ _ _=>False) e g->False) :
 codeAny (model P w) callerA (.call (.ref Q) ⟨[.ref a],[]⟩) (λr g=>r=.ok (.ret (.bool true))/\OldK c.heap g.heap/\g.os=c.os/\AllBare g.gens) c:=by
 have X:=JO hi;have S:=hi.length;have j:∀H:Hp,aaH H->bQ K H a (ns.map V.int)->yS P w H c.heap->(∀b,H b≠none->b=a)->(H a≠none->K.lookup a=none) ->
  codeAny (model P w) callerA (.call (.ref Q) ⟨[.ref a],[]⟩) (λr g=>r=.ok (.ret (.bool true))/\OldK c.heap g.heap/\g.os=c.os/\AllBare g.gens) c:=by
  intro H Y hS G hA hK;have QL:∀{b:Addr} {o:Obj},c.heap.get? b=some o->H b=none->(KO c.heap H).get? b=some o:=λe n=>Uh e n;have R:∀{b:Addr} {o:Obj} {E:Array DictEntry} {p:Nat},c.heap.get? b=some o->o.data=.dict E p->H b=none:=λ{b o E p} e d=>by
   cases q:H b with
   |none=>rfl
   |some u =>
    have N:b=a:=hA b (by rw[q];simp);subst N;rw[I] at e;cases e;have d':Data.seq vs.toArray _=Data.dict E p:=d;cases d'
  have i:∀{b:Addr} {m:Str->Option Value},c.heap.Ns b m->(KO c.heap H).Ns b m:=λ{b m} ⟨o,E,p,e,d,r⟩=>⟨o,E,p,QL e (R e d),d,r⟩;have D:K.In (KO c.heap H):=λb o e=>QL (U b o e) (by
   cases q:H b with
   |none=>rfl
   |some u =>
    have N:b=a:=hA b (by rw[q];simp);subst N;rw[hK (by rw[q];simp)] at e;cases e)
  have hM:Mod K C (KO c.heap H):=⟨D,i A,⟨O,i f,J⟩,let ⟨mc,h1,h2⟩:=t;⟨mc,i h1,h2⟩⟩;have e0:OV P w K C (KO c.heap H) callerA [] c H:=⟨rfl,hM,λb o e=>W9 e,Nat.le_of_eq (R3 _ _),trivial,λb f=>b5 (show b∈([]:List Addr) from f) (-_),G,.of_eq hg⟩;refine codeAny_mono ((F _ D (i A)).run callerA [] c H ⟨[.ref a],[]⟩ [.ref a] [.ref a] _ _ hr e0 (l c (.ref a)) (.cons rfl .nil) (T6 H Y hS)) λr g h=>?_;cases r with
  |error e=>exact (L H e g h).elim
  |ok fl =>
   cases fl with
   |next=>exact jQ h
   |brk=>exact jQ h
   |cont=>exact jQ h
   |ret u =>
    obtain⟨v,H',os,y,un,M,r',q⟩:=h;have q':v=.bl true:=q;subst q';obtain rfl:u=Value.bool true:=r';refine⟨rfl,OldK.of_keep λb o e=>?_,os,y⟩;cases q:H b with
    |none=>exact un.keep b o e q (by intro z;exact b5 (show b∈([]:List Addr) from z) (-_)) (-_)
    |some u =>
     rcases Y b with z|⟨ob,xs,z⟩
     ·rw[q] at z;cases z
     ·have z2:=un.AW b ob _ z
      obtain⟨e1,_⟩:=G b _ z;obtain⟨e2,_⟩:=M b _ z2;rw[e] at e1;cases e1;exact e2
 cases T:K.lookup a with
 |some o =>
  have e:=U a o T;rw[I] at e;cases e;refine j (λ_=>none) (λ_=>.inl rfl) (.inr ⟨_,vs.toArray,_,T,rfl,rfl,rfl,by rw[aX,S];exact Z,by simpa using X⟩) (λb u z=>by have B:(none:Option HO)=some u:=z;cases B) (λb z=>b5 rfl z) λz=>b5 rfl z
 |none =>
  refine j (λb=>if b=a then some (.Ct {cls:=.type "list",data:=.seq vs.toArray} (.lst (ns.map V.int))) else none) (λb=>?_) (.inl (.inr ⟨{cls:=.type "list",data:=.seq vs.toArray},aq rfl⟩)) (λb u z=>?_) (λb z=>?_) λ_=>T
  ·by_cases f:b=a
   ·exact .inr ⟨_,_,aq f⟩
   ·exact .inl (b3 f)
  ·by_cases f:b=a
   ·have B:=(aq f).symm.trans z
    cases B;subst f;exact⟨I,by rw[ah];exact Z,vs,_,X,I⟩
   ·have B:=(b3 f).symm.trans z
    cases B
  ·by_cases f:b=a
   ·exact f
   ·exact b5 (b3 f) z
theorem Xo{l:PySem.W.OpenLaw}{n k:Nat}{q:Program}{i:List Str}{XP:(Str->Option Value)->Heap->Prop}{E:World->Heap->Prop}{d:DefRec}{K:Params->af}{CX:World->Sd}{sp:World->Sp}{x:Str}
 (N:l.most=some n) (y:n<=sizeLine) (B:d.params.defaults=[]) (Q:jT k callerA)
 (O:∀(w:World) (h:Heap),E w h->(K w.params).In h)
 (F:∀(w:World) (m:Str->Option Value) (t:Addr) (h:Heap),(K w.params).In h->h.Ns mainGlobals m->m d.name=some (.ref t) ->
  ∃z:FuncData,(∀(s:Shared) (u:Value),BindsTo s z ⟨[u],[]⟩ [(x,u)]) /\
   ∀base:Heap,(K w.params).In base->base.Ns mainGlobals m->cE l.prog w (K w.params) m base (CX w) k t z [x] (sp w))
 (X:∀(w:World) (H:Hp) (a:Addr) (ns:List Int),ns.length<=n->aaH H->bQ (K w.params) H a (ns.map V.int)->sp w [.ref a] H (λv _=>v=.bl true) λ_ _ _=>False)
 (A:∀(w:World) (H:Hp) (s:Shared) (e:Value) (s':Shared),CX w [] H s (λ_ _ _=>False) e s'->False) :
 PySem.W.WalkO q i XP E l.row.toRowW d [] (λf vs=>PySem.call f vs):=by
 refine Att.ME N B λw I p m Z t o pm cd L a vs ns G Y ho hd J C r j c R=>?_;have D:=O w _ Y;obtain⟨z,S,P⟩:=F w m t _ D G.T.g C;exact UY D G.T.g G.T.b G.T.builtins G.T.nolimit R r j (aU c y) Q P S (λH M U=>X w H a ns c M U) λH e s'=>A w H p e s'
noncomputable def inClass(s:Stmt)(j:Nat):Stmt:=match s with
 |.ClassDef _ _ _ body _ _ _ _ _ _ _=>body.getD j (.Pass ⟨0,0,0,0⟩)
 |_=>.Pass ⟨0,0,0,0⟩
noncomputable def jE(s:Stmt):Arguments:=match s with
 |.FunctionDef _ a _ _ _ _ _ _ _ _=>a
 |_=>{posonlyargs:=[],args:=[],vararg:=none,kwonlyargs:=[],kw_defaults:=[],kwarg:=none,defaults:=[]}
noncomputable def fW(s:Stmt):List Stmt:=match s with
 |.FunctionDef _ _ b _ _ _ _ _ _ _=>b
 |_=>[]
noncomputable def aF(s:Stmt):Scope:=match s with
 |.FunctionDef _ _ _ _ _ _ sc _ _ _=>sc
 |_=>{kind:=.function,names:=[],isGenerator:=false,isCoroutine:=false}
abbrev iS:Sd:=λ_ _ _ _ _ _=>False
abbrev E0:XK:=λ_ _ _=>False
theorem mK{X:Cx}:sj iS X E0:=λ_ _ _ _ _ _ _ h=>h.elim
structure OH(K:af)(x qual:Str)(st:Stmt)(f:Addr)(fd:FuncData):Prop where
 ex:∃(oc:Value) (od:Option Addr) (kV doc pm:Value) (an:Option Addr) (cdv ct:Value) (osl:Array (Option Value)),
  fd=e9 x qual (jE st) (fW st) (aF st) .none kV doc pm an cdv ct/\K.lookup f=some ⟨oc,od,.func fd,osl⟩/\jx K cdv qual=true
 kp:d9 K (.ref f)=true
section
variable{P:Program}{w:World}{K:af}{mg:Str->Option Value}{base:Heap}
theorem OH.ok{x b:Str}{st:Stmt}{f:Addr}{i:FuncData}{N ps:List Str}{k:Nat}{sp:Sp}(F:OH K x b st f i)(S:aO N ps (aF st))(g:∀vs H Q E,sp vs H Q E->vs.length=ps.length)
 (d:∀(c:Value) (A:Around) (a:List Env) (s:Shared) (H:Hp) (vs:List V) (Q:VK) (E:XK),jT k (A.deeper (envOfC b (aF st) s.heap.objs.size f c))->sp vs H Q E ->
  ∃t,iR (oq iS P w K mg base N b (aF st) f c A a s H E).Y7 (fW st) t/\t {nx:=λ_ n=>Q .fM n,rt:=Q} (start N vs) H):cE P w K mg base iS (k+1) f i ps sp:=by
 obtain⟨u,y,kV,l,r,p,c,v,j,rfl,lk,e⟩:=F.ex;refine UL lk e S g λA a s H vs Q E m o=>?_;obtain⟨t,h,q⟩:=d c A a s H vs Q E m o;exact⟨t,h.Y7,q⟩
theorem OH.binds{x a:Str}{st:Stmt}{f:Addr}{g:FuncData}{ps:List Str}(F:OH K x a st f g)
 (h:∀(kV b e:Value) (d:Option Addr) (c ct:Value) (us:List Value),us.length=ps.length->bindArgs (e9 x a (jE st) (fW st) (aF st) .none kV b e d c ct) ⟨us,[]⟩=pure (ps.zip us)):Binds K g ps []:=by
 obtain⟨k,l,kV,b,e,d,c,ct,i,rfl,lk,j⟩:=F.ex;exact .all (h kV b e d c ct)
theorem UZ{x a:Str}{st:Stmt}{f:Addr}{j:Value}{i h:Option Addr}{e:Array (Option Value)}{kV d g b ct:Value}(l:K.lookup f=some ⟨j,i,.func (e9 x a (jE st) (fW st) (aF st) .none kV d g h b ct),e⟩)
 (c:jx K b a=true) (k:d9 K (.ref f)=true):OH K x a st f (e9 x a (jE st) (fW st) (aF st) .none kV d g h b ct):=⟨⟨j,i,kV,d,g,h,b,ct,e,rfl,l,c⟩,k⟩
end
theorem MF{A:Around}{k:Nat}(a:jT k A):A.units+1<cLine:=bO (cJ (by decide:1<=64) _) a.units
theorem cP{n:Nat}(h:n<=1000):n<sizeLine:=bO h (!_)
section
variable{X:Cx}
theorem pv(i:Nat){x:Str}{b:Pos}(d:X.N[i]?=some x:=by rfl)(e:Vis X.env.scope x:=by first|exact Or.inl rfl|exact Or.inr (Or.inl rfl)|exact Or.inr (Or.inr rfl))(c:(x==("__debug__" : Str))=false:=by decide)
 (a:(x==("__classdict__" : Str))=false:=by decide):PE X (.Name x b) (Bv i):=aab d e c a
end
theorem gD{A B:Prop}(h:B):if false=true then A else B:=by
 rw[b3 aJ];exact h
theorem iC{A B:Prop}(h:A):if true=true then A else B:=by
 rw[aq rfl];exact h
theorem kP{c A B:Prop}[Decidable c](b:c->A)(a:¬c->B):if c then A else B:=by
 by_cases h:c
 ·rw[aq h]
  exact b h
 ·rw[b3 h]
  exact a h
def aH(H H':Hp):Prop:=∀b o,H b=some o->H' b=some o
theorem aH.refl(H:Hp):aH H H:=λ_ _ h=>h
theorem aH.trans{H d e:Hp}(a:aH H d)(b:aH d e):aH H e:=λc o h=>b c o (a c o h)
theorem aH.free{H a:Hp}(e:aH H a){l:Addr}(h:a l=Option.none):H l=Option.none:=by
 cases q:H l with
 |none=>rfl
 |some o =>
  rw[e l o q] at h;cases h
theorem aH.seq{K:af}{H b:Hp}{a:Addr}{xs:List V}(e:aH H b)(h:bQ K H a xs):bQ K b a xs:=by
 rcases h with (h|⟨o,h⟩)|h
 ·exact .inl (.inl (e _ _ h))
 ·exact .inl (.inr ⟨o,e _ _ h⟩)
 ·exact .inr h
theorem Sm{env:Env}{x:Str}{c:Addr}(h:env.cells.lookup x=some c):cellOf env x=pure c:=by
 unfold cellOf;rw[h]
noncomputable def mV(env:Env):List (Str×NameKind)->List (Str×Addr)->List (Str×Addr)
 |[],cs=>cs
 | (n,k)::r,cs=>mV env r (if k==.free then (n,(env.cells.lookup n).getD 0)::cs else cs)
theorem Lb{env:Env}:∀(ns:List (Str×NameKind)) (cs:List (Str×Addr)),(∀n,(n,NameKind.free)∈ns->∃c,env.cells.lookup n=some c) ->
 (forIn (m:=Sem) ns cs λx r=>match x with
  | (a,b)=>if (b==NameKind.free)=true then do let c <- cellOf env a;pure (jP ((a,c)::r)) else pure (jP r))=pure (mV env ns cs)
 |[],cs,_=>rfl
 | (n,k)::r,cs,h=>by
  rw[List.forIn_cons];by_cases d:(k==NameKind.free)=true
  ·have g:k=.free:=by simpa using d
   obtain⟨c,e⟩:=h n (by rw[g];exact ck);simp only[d,if_true,Sm e];have q:=Lb r ((n,c)::cs) λm f=>h m (bw _ f);show (forIn (m:=Sem) r ((n,c)::cs) _)=pure (mV env r (if (k==.free)=true then (n,(env.cells.lookup n).getD 0)::cs else cs));rw[aq d,e];exact q
  ·simp only[d]
   have q:=Lb r cs λm f=>h m (bw _ f);show (forIn (m:=Sem) r cs _)=pure (mV env r (if (k==.free)=true then (n,(env.cells.lookup n).getD 0)::cs else cs));rw[b3 d];exact q
theorem A5{scope:Scope}{env:Env}(h:∀n,(n,NameKind.free)∈scope.names->∃c,env.cells.lookup n=some c):closureFor scope env=pure (mV env scope.names []):=by
 have e:=Lb scope.names [] h;unfold closureFor;show (forIn (m:=Sem) scope.names [] (λx r=>match x with
  | (a,b)=>if (b==NameKind.free)=true then do let c <- cellOf env a;pure (jP ((a,c)::r)) else pure (jP r)) >>= λs=>pure s)=_
 rw[e];rfl
theorem lT{env:Env}{x:Str}{c:Addr}:∀(ns:List (Str×NameKind)) (cs:List (Str×Addr)),(∀n,(n,NameKind.free)∈ns->∃c,env.cells.lookup n=some c)->(cs.lookup x=some c->env.cells.lookup x=some c) ->
 (mV env ns cs).lookup x=some c->env.cells.lookup x=some c
 |[],_,_,a,h=>a h
 | (n,k)::r,cs,g,a,h=>by
  unfold mV at h;refine lT r _ (λm j=>g m (bw _ j)) (λq=>?_) h;by_cases f:(k==NameKind.free)=true
  ·have l:k=.free:=by simpa using f
   subst l;obtain⟨d,e⟩:=g n ck;rw[aq f,e,fq] at q;by_cases b:(x==n)=true
   ·have i:x=n:=by simpa using b
    rw[b] at q;subst i;rw[e];exact q
   ·simp only[b] at q
    exact a q
  ·rw[b3 f] at q
   exact a q
theorem BB{env:Env}{x:Str}:∀(ns:List (Str×NameKind)) (cs:List (Str×Addr)),((cs.lookup x).isSome=true∨(x,NameKind.free)∈ns)->((mV env ns cs).lookup x).isSome=true
 |[],_,h=>h.elim id λz=>b5 z (-_)
 | (n,k)::r,cs,h=>by
  unfold mV;refine BB r _ ?_;rcases h with h|h
  ·refine .inl ?_
   split
   ·rw[fq]
    split
    ·rfl
    ·exact h
   ·exact h
  ·rcases be.mp h with e|h
   ·cases e
    refine .inl ?_;rw[aq (show (NameKind.free==NameKind.free)=true from rfl),fq];simp
   ·exact .inr h
noncomputable def jU(cap:List (Option Nat))(σ:St):St:=cap.map λo=>o.bind λj=>(σ[j]?).join
noncomputable def lU(X:Cx)(scope:Scope)(N':List Str)(fp:List Addr)(pins:List (Addr×Obj))(s₃:Shared)(agU:Hp):Cx where
 prog:=X.prog
 w:=X.w
 K:=X.K
 mg:=X.mg
 base:=X.base
 A:=X.A
 N:=N'
 s₀:=s₃
 H₀:=agU
 env:=compEnvC scope (mV X.env scope.names []) s₃.heap.objs.size X.env
 outer:=X.stack
 stack:=X.stack
 ex:=fp
 fn:=λ_=>false
 calm:=X.calm
 pn:=X.pn++pins
 xe:=λ_ _=>False
structure jV(X:Cx)(scope:Scope)(N':List Str)(cap:List (Option Nat)):Prop where
 kind:scope.kind=.function
 O0:∀y∈scope.names,y.2≠.cell
 loc:∀y∈scope.names,y.2=.local->scope.names.lookup y.1=some .local
 fr:∀y∈scope.names,y.2=.free->X.env.kindOf y.1=some .cell
 frl:∀y∈scope.names,y.2=.free->scope.names.lookup y.1=some .free
 nd:N'.Nodup
 len:cap.length=N'.length
 cap:∀(i j:Nat) (x:Str),cap[i]?=some (some j)->N'[i]?=some x->X.N[j]?=some x/\(x,NameKind.free)∈scope.names
section
variable{X:Cx}{scope:Scope}{N':List Str}{cap:List (Option Nat)}{fp:List Addr}{pins:List (Addr×Obj)}{s:Shared}{σ:St}{H:Hp}
theorem jV.clos(S:jV X scope N' cap)(ok:X.Ok):∀n,(n,NameKind.free)∈scope.names->∃c,X.env.cells.lookup n=some c:=λn a=>ok.has n (.inl (S.fr _ a rfl))
theorem wZ{env:Env}{x:Str}:∀{names:List (Str×NameKind)} {k:NameKind},
 (names.map λ(n,k)=>if (k==NameKind.free&&env.scope.kind==.function&&env.kindOf n==some .cell) then (n,NameKind.cell) else (n,k)).lookup x=some k->k=.cell∨k=.free->(∀y∈names,y.2≠.cell)->(x,NameKind.free)∈names
 |[],_,h,_,_=>by simp at h
 | (n,q)::r,k,h,hk,d=>by
  have h':qu x ((if (q==NameKind.free&&env.scope.kind==.function&&env.kindOf n==some .cell)=true then (n,NameKind.cell) else (n,q))::(r.map λ(n,k)=>if (k==NameKind.free&&env.scope.kind==.function&&env.kindOf n==some .cell) then (n,NameKind.cell) else (n,k)))=some k:=h;by_cases b:(x==n)=true
  ·have f:x=n:=by simpa using b
   subst f;by_cases c:(q==NameKind.free&&env.scope.kind==.function&&env.kindOf x==some .cell)=true
   ·have:q=.free:=by
     rw[dw,dw] at c
     simpa using c.1.1
    subst this;exact ck
   ·rw[b3 c,fq,b] at h'
    have e:q=k:=aI h';subst e;rcases hk with hk|hk
    ·exact b5 hk (d _ ck)
    ·rw[hk];exact ck
  ·have a:(x==n)=false:=by simpa using b
   refine bw _ (wZ (env:=env) (k:=k) ?_ hk λy g=>d y (bw _ g));split at h'
   ·rw[fq,a] at h';exact h'
   ·rw[fq,a] at h';exact h'
theorem CI{env:Env}{x:Str}(b:env.scope.kind=.function)(d:env.kindOf x=some .cell):∀{names:List (Str×NameKind)},names.lookup x=some .free ->
 (names.map λ(n,k)=>if (k==NameKind.free&&env.scope.kind==.function&&env.kindOf n==some .cell) then (n,NameKind.cell) else (n,k)).lookup x=some .cell
 |[],h=>by simp at h
 | (n,k)::r,h=>by
  show qu x ((if (k==NameKind.free&&env.scope.kind==.function&&env.kindOf n==some .cell)=true then (n,NameKind.cell) else (n,k))::_)=_;cases a:x==n with
  |true =>
   have e:x=n:=by simpa using a
   subst e;simp only[fq,a] at h;have f:k=.free:=aI h;subst f;rw[aq (by rw[b,d];rfl),fq,a]
  |false =>
   simp only[fq,a] at h;have c:=CI b d h;split
   ·rw[fq,a];exact c
   ·rw[fq,a];exact c
theorem jV.ok(S:jV X scope N' cap)(I:Inv X pins σ H s)(d:∀b∈fp,CA X pins H b)(f:∀b∈fp,∃o,s.heap.get? b=some o):(lU X scope N' fp pins s H).Ok where
 mod:=I.ok.mod
 kind:=S.kind
 glob:=I.ok.glob
 blt:=I.ok.blt
 above:=aB _
 inj:=λx y c g k=>I.ok.inj x y c (lT _ _ (S.clos I.ok) (λz=>by simp at z) g) (lT _ _ (S.clos I.ok) (λz=>by simp at z) k)
 has:=λx hx=>by
  have i:(x,NameKind.free)∈scope.names:=by
   rcases hx with hx|hx
   ·exact wZ (env:=X.env) hx (.inl rfl) S.O0
   ·exact wZ (env:=X.env) hx (.inr rfl) S.O0
  exact Option.isSome_iff_exists.mp (BB scope.names [] (.inr i))
 kH:=λx c h=>by cases h
 hd:=I.ok.hd
 frames:=I.ok.frames
 stk:=.inl rfl
 exf:=λb a=>by
  obtain⟨o,e⟩:=f b a;refine⟨bz (Heap.lt_size e),λx c h=>(d b a).2.2.2.2.1 x c (lT _ _ (S.clos I.ok) (λz=>by simp at z) h)⟩
 bs:=I.bs
 WN:=aU I.ok.WN I.sz
 R4:=λb o e a=>by
  rcases (d b a).2.2.2.1 with z|z
  ·exact I.ok.R4 b o e z
  ·exact b5 (bF (Heap.lt_size e) (aU I.ok.WN z)) (jf _)
 Ui:=λb a j=>by
  rcases be.mp (I.DG b j) with z|z
  ·exact (d b a).2.1 z
  ·exact (d b a).2.2.1 z
 Cw:=I.stack
 Y5:=I.KQ
theorem jV.look(S:jV X scope N' cap)(I:Inv X pins σ H s){f:Heap}{m:Str->Option Value}(k:∀x c v,X.env.cells.lookup x=some c->s.heap.IsCell c v->f.IsCell c v)(i:Nat)(x:Str)(v:V)(D:N'[i]?=some x)(L:(jU cap σ)[i]?=some (some v)) :
 ∃u,RelV v u/\Look (compEnvC scope (mV X.env scope.names []) s.heap.objs.size X.env) f m x u:=by
 have E:∀x c,(mV X.env scope.names []).lookup x=some c->X.env.cells.lookup x=some c:=λx c h=>lT _ _ (S.clos I.ok) (λz=>by simp at z) h;have d:((cap[i]?).map λo=>o.bind λj=>(σ[j]?).join)=some (some v):=by
  have:=L
  unfold jU at this;rw[ak] at this;exact this
 cases q:cap[i]? with
 |none=>rw[q] at d;cases d
 |some o =>
  cases o with
  |none=>rw[q] at d;cases d
  |some j =>
   rw[q] at d;obtain⟨F,a⟩:=S.cap i j x q D;have n:(σ[j]?).join=some v:=aI d;have G:σ[j]?=some (some v):=by
    cases w:σ[j]? with
    |none=>rw[w] at n;cases n
    |some y =>
     cases y with
     |none=>rw[w] at n;cases n
     |some z =>
      rw[w] at n;have e:z=v:=aI n;rw[e]
   have b:=S.fr _ a rfl;obtain⟨M,K,J⟩:=I.loc;obtain⟨u,r,l⟩:=J j x v F G (.inr (.inl b));refine⟨u,r,?_⟩;rcases l with ⟨C,_⟩|⟨C,c,B,g⟩
   ·have z:X.env.kindOf x=some .cell:=b
    rw[C] at z;cases z
   ·obtain⟨t,p⟩:=Option.isSome_iff_exists.mp (BB (env:=X.env) (x:=x) scope.names [] (.inr a))
    have A:t=c:=by
     have:=E x t p
     rw[B] at this;exact (aI this).symm
    subst A;exact .inr ⟨.inl (CI I.ok.kind b (S.frl _ a rfl)),t,p,k x t _ B g⟩
theorem jV.start(S:jV X scope N' cap)(I:Inv X pins σ H s)(B:∀b∈fp,CA X pins H b)(l:∀b∈fp,∃o,s.heap.get? b=some o){a:Heap}{tk:Nat}{m:Str->Option Value}(k:a.Ns s.heap.objs.size m)
 (j:∀b o,s.heap.get? b=some o->a.get? b=some o):Inv (lU X scope N' fp pins s H) [] (jU cap σ) H {s with heap:=a,toks:=tk}:=by
 have r:∀x c,(mV X.env scope.names []).lookup x=some c->X.env.cells.lookup x=some c:=λx c h=>lT _ _ (S.clos I.ok) (λz=>by simp at z) h;have f:∀{c:Addr} {v:Option Value},s.heap.IsCell c v->a.IsCell c v:=λ{c v} ⟨o,e,d⟩=>⟨o,j c o e,d⟩;refine⟨S.ok I B l,rfl,I.bare,Un.kept j,⟨m,k,λi x v u A C=>S.look I (λ_ _ _ _ z=>f z) i x v u A⟩,λx c h=>?_,I.hok.fresh (aB _),λx c h=>I.ud x c (r x c h),λp y=>?_,I.hok.kept j,?_⟩
 ·obtain⟨v,z⟩:=I.cell x c (r x c h)
  exact⟨v,f z⟩
 ·have g:p∈(X.pn++pins)++[]:=y
  have w:p∈X.pn++pins:=by rw[bZ] at g;exact g
  obtain⟨e,n,t,nf,d⟩:=I.pin p w;refine⟨j _ _ e,n,bz (Heap.lt_size e),λz=>?_,d⟩;rcases be.mp (I.DG p.1 z) with q|q
  ·exact t q
  ·exact nf q
 ·unfold jU
  rw[ah];exact S.len
theorem jV.again(S:jV X scope N' cap)(I:Inv X pins σ H s)(t:∀b∈fp,CA X pins H b){r:St}{g:Hp}{h:Shared}(a:Inv (lU X scope N' fp pins s H) [] r g h):Inv (lU X scope N' fp pins s H) [] (jU cap σ) g h:=by
 obtain⟨m,k,_⟩:=a.loc;refine⟨a.ok,a.os,a.bare,a.base,⟨m,k,λi x v j p z=>S.look I (λy c u f l=>?_) i x v j p⟩,a.cell,a.free,a.ud,a.pin,a.hok,?_⟩
 ·obtain⟨o,e,d⟩:=l
  obtain⟨w,q⟩:=a.base.any e (I.ud y c f) λn=>(t c n).2.2.2.2.1 y c f rfl;exact⟨_,q,d⟩
 ·unfold jU
  rw[ah];exact S.len
theorem jV.back{h k:Hp}{f s3 s':Shared}{s:St}{j:Addr}{d:Heap}(S:jV X scope N' cap)(y:Inv X pins σ h f)(K:∀b∈fp,CA X pins h b){o:HO}
 (F:s3.heap.objs.size=f.heap.objs.size+1) (k3:∀b u,f.heap.get? b=some u->s3.heap.get? b=some u) (x:j=f.heap.objs.size) (I:s3.os=f.os)
 (l:Inv (lU X scope N' fp pins s3 (upd h j o)) [] s k s') (r:Heap.SameBut s3.heap.objs.size s'.heap d):Inv X pins σ k {s' with heap:=d}:=by
 have A:Un (frs X.stack) fp h (upd h j o) f.heap s3.heap:=Un.laid k3 (by rw[x];exact aB _) (y.hok.fresh (by rw[x];exact aB _));have g:Un (frs X.stack) fp h k f.heap s'.heap:=A.trans l.base;have i:∀b a,f.heap.get? b=some a->b≠s3.heap.objs.size:=λb a e=>by
  have:=Heap.lt_size e
  rw[F];exact bz (Nat.lt_succ_of_lt this)
 have t:k s3.heap.objs.size=none:=l.free;have G:Un (frs X.stack) fp h k f.heap d :=
  ⟨λb a e n p m=>(r.2 b (i b a e)).trans (g.keep b a e n p m),λb a e n p m=>by
   obtain⟨C,q⟩:=g.slot b a e n p m;exact⟨C,(r.2 b (i b a e)).trans q⟩,g.free,λb a e m=>by
   obtain⟨H,q⟩:=g.there b a e m;exact⟨H,(r.2 b (i b a e)).trans q⟩,g.tups,g.AW,g.Cv⟩
 have hok:yS X.prog X.w k d:=λb a e=>(l.hok b a e).stay (λc v B q=>(r.2 c (by
  rintro rfl;rcases B with z|z
  ·rw[<- z,t] at e;cases e
  ·rw[t] at z;cases z)).trans q) (λ_ q=>q) λ_ _ q=>q
 refine y.Y6 (s':={s' with heap:=d}) (ch:=fp) (l.os.trans I) G hok l.bare λb p=>?_;obtain⟨_,D,_,L,J,E⟩:=K b p;exact⟨L,D,J,E⟩
def lD(X:Cx)(ifs:List Expr)(t:TT):Prop :=
 ∀(pins:List (Addr×Obj)) (s:Shared) (σ:St) (H:Hp) (Q:Bool->Hp->Prop),Inv X pins σ H s->t σ H Q ->
  wpAny (model X.prog X.w) X.A (forIn ifs true λc r=>if r=true then do let ok <- isTrue c X.env (eval c X.env);pure (jP ok) else pure (jP r)) (TP X pins σ Q) X.xe s
def U0:TT:=λ_ H Q=>Q true H
theorem iD:lD X [] U0:=λ_ _ _ H _ I h=>wpAny_tests_nil ⟨H,I,h⟩
theorem rE{c:Expr}{t:TT}(h:PT X c t):lD X [c] t:=λpins s σ H Q I a=>wpAny_tests_one (h pins s σ H Q I a)
def QN(wi:TI)(cap:List (Option Nat))(g:TG)(tc:TT)(te:TE):TE:=λσ H Q=>wi σ H λJ H1=>∀acc,H1 acc=none->∃W:Nat->Nat->Hp->Prop,(∃m,W 0 m (upd H1 acc (.lst [])))/\∀i m H,W i m H ->
 (J.stop i H/\Q (.ref acc) H)∨(J.go i H/\∀x H',J.K0 i H x H'->g x (jU cap σ) H' λσ2 H2=>tc σ2 H2 λb H3=>if b=true then te σ2 H3 λy H4=>∃xs,H4 acc=some (.lst xs)/\xs.length<sizeLine /\
  ∃m',m'<m/\W (i+1) m' (upd H4 acc (.lst (xs++[y]))) else ∃m',m'<m/\W (i+1) m' H3)
theorem So{t a j:PySem.Expr}{p:List PySem.Expr}{scope:Scope}{D:Pos}{E q:Value}{env:Env}{prog:Program}{w:World}{A:Around}{s:Shared}{R:Result->Shared->Prop}(I:Nat->Shared->Prop)
 (B:∀n s,I n s->wpAny (model prog w) A (pyNext E) (λr b=>match r with
  |none=>R (.ok .next) b
  |some v=>wpAny (model prog w) A (letOwnedTupleGo a E v) (λ_ i=>wpAny (model prog w) A (assign a env v) (λ_ k =>
   wpAny (model prog w) A (forIn p true λc r=>if r=true then do let ok <- isTrue c env (eval c env);pure (jP ok) else pure (jP r)) (λok d=>if ok=true then wpAny (model prog w) A (eval t env) (λx g =>
    wpAny (model prog w) A (call (.builtin "list.append") [q,x]) (λ_ l=>∃m,m<n/\I m l) (λ_ _=>False) g) (λ_ _=>False) d
    else ∃m,m<n/\I m d) (λ_ _=>False) k)
   (λ_ _=>False) i) (λ_ _=>False) b) (λ_ _=>False) s)
 (n:Nat) (h:I n s):codeAny (model prog w) A (.compLoop (.ListComp t [⟨a,j,p,0⟩] scope D) 0 E q env) R s:=by
 refine codeAny_loop rfl I (λn s G=>?_) n h;show wpAny _ A ((compTurn (.ListComp t [⟨a,j,p,0⟩] scope D) 0 E q env).onRaise (λx=>do noteFrame x env;theTreesLotGoes x)) _ _ s;refine wpAny_noted ?_;rw[compTurn_list];refine wpAny_bind (wpAny_standAt (wpAny_bind (wpAny_mono (B n s G) (λr b e=>?_) λ_ _ z=>z.elim)));cases r with
 |none=>exact wpAny_pure e
 |some v =>
  refine wpAny_bind (wpAny_mono e (λ_ i o=>?_) λ_ _ z=>z.elim);refine wpAny_bind (wpAny_mono o (λ_ k u=>?_) λ_ _ z=>z.elim);refine wpAny_bind (wpAny_mono u (λF d f=>?_) λ_ _ z=>z.elim);cases F with
  |false=>exact wpAny_pure ⟨rfl,f⟩
  |true=>exact wpAny_bind (wpAny_bind (wpAny_mono f (λx g C=>wpAny_bind (wpAny_mono C (λ_ l y=>wpAny_pure (wpAny_pure ⟨rfl,y⟩)) λ_ _ z=>z.elim)) λ_ _ z=>z.elim))
theorem GA{U tg D:Expr}{M:List Expr}{pos:Pos}{g:TG}{tc:TT}{te:TE}{Q:VK}{a:Shared}{B:Hp}{it:Addr}{tn:Nat->Heap->Prop}{J:It}{E:Value->Shared->Prop}{RR:Value->Addr->Result->Shared->Prop}
 (S:jV X scope N' cap) (hc:X.calm=true) (hg:∀fp pins s H,PG (lU X scope N' fp pins s H) tg g) (hts:∀fp pins s H,lD (lU X scope N' fp pins s H) M tc) (he:∀fp pins s H,PE (lU X scope N' fp pins s H) U te)
 (I2:Inv X pins σ B a) (T:Turn X.prog X.w X.K tg J fp it tn) (L:tn 0 a.heap) (V:∀b∈fp,CA X pins B b)
 (h:∀k,B k=none->∃W:Nat->Nat->Hp->Prop,(∃m,W 0 m (upd B k (.lst [])))/\∀i m H,W i m H ->
  (J.stop i H/\Q (.ref k) H)∨(J.go i H/\∀x j,J.K0 i H x j->g x (jU cap σ) j λσ2 B=>tc σ2 B λb H3=>if b=true then te σ2 H3 λy H4=>∃xs,H4 k=some (.lst xs)/\xs.length<sizeLine /\
   ∃l,l<m/\W (i+1) l (upd H4 k (.lst (xs++[y]))) else ∃l,l<m/\W (i+1) l H3))
 (hRR:∀C s' j,(∃m,s'.heap.Ns C m)->(∀O,Heap.SameBut C s'.heap O->Inv X pins σ j {s' with heap:=O})->Q (.ref a.heap.objs.size) j->j C=none->a.heap.objs.size<C ->
  RR (.ref a.heap.objs.size) C (.ok .next) s') :
 wpAny (model X.prog X.w) X.A (newList []) (λk s₃=>wpAny (model X.prog X.w) X.A (newFunctionEnv scope X.env.globals (mV X.env scope.names []) [] X.env.qual none .none (some X.env)) (λI s₄ =>
  codeAny (model X.prog X.w) X.A (.compStart (.ListComp U [⟨tg,D,M,0⟩] scope pos) 0 (.ref it) k {I with scope:=relabel scope X.env}) (RR k I.locals) s₄) E s₃) E a:=by
 refine wpAny_newObj_type (wpAny_newFunctionEnv S.O0 (by intro y hy;simp at hy) (λt O7 O9=>?_) S.kind);dsimp only at O7 O9 ⊢;have hfr:B a.heap.objs.size=none:=I2.hok.fresh (aB _);generalize P:a.heap.push {cls:=.type "list",dict:=none,data:=.seq ([]:List Value).toArray}=h3 at O7 O9 ⊢;have e3:h3.objs.size=a.heap.objs.size+1:=by rw[<- P,Heap.size_push]
 have k3:∀b u,a.heap.get? b=some u->h3.get? b=some u:=λb u e=>by rw[<- P];exact Heap.get?_push_of_some _ e
 have I3:Inv X pins σ (upd B a.heap.objs.size (.lst [])) {a with heap:=h3,toks:=a.toks}:=by
  refine I2.laid (t':=a.toks) k3 (aB _) ?_;exact⟨bI _,[],0,.nil,by rw[<- P];exact Heap.get?_push_size _ rfl⟩
 have f3:∀b∈fp,CA X pins (upd B a.heap.objs.size (.lst [])) b:=λb f=>by
  obtain⟨o,e,_⟩:=T.obj _ _ L b f;exact⟨by rw[aK (bz (Heap.lt_size e))];exact (V b f).1,(V b f).2⟩
 have ex3:∀b∈fp,∃o,h3.get? b=some o:=λb f=>by
  obtain⟨o,e,_⟩:=T.obj _ _ L b f;exact⟨o,k3 b o e⟩
 have kp:∀b o,h3.get? b=some o->t.get? b=some o:=λb o e=>O9.extBut b o (bz (Heap.lt_size e)) (Heap.get?_push_of_some _ e);have I4:=S.start (fp:=fp) (tk:=a.toks+([]:List (Str×Value)).length) I3 f3 ex3 O7 kp;have AX:tn 0 t:=T.keep _ _ _ L λb _ o e=>kp b o (k3 b o e);obtain⟨W,⟨m0,w0⟩,Z⟩:=h a.heap.objs.size hfr;let F:=lU X scope N' fp pins {a with heap:=h3,toks:=a.toks} (upd B a.heap.objs.size (.lst []));have v:∀{JD:List (Addr×Obj)} {j:Hp},(∀p∈JD,p.1∉fp)->(∀b∈fp,j b=none)->∀b∈fp,CA F JD j b:=λ{JD j} hpn hn b f=>by
  obtain⟨o,e⟩:=ex3 b f;refine⟨hn b f,bz (Heap.lt_size e),λz=>?_,.inl f,λx c hx=>(f3 b f).2.2.2.2.1 x c (lT _ _ (S.clos I2.ok) (λz=>by simp at z) hx),λp hp=>?_⟩
  ·rcases be.mp (I2.DG b z) with q|q
   ·exact (V b f).2.1 q
   ·exact (V b f).2.2.1 q
  ·rcases aR.mp hp with q|q
   ·exact (V b f).2.2.2.2.2 p q
   ·exact λz=>hpn p q (z▸f)
 have G:codeAny (model X.prog X.w) X.A (.compLoop (.ListComp U [⟨tg,D,M,0⟩] scope pos) 0 (.ref it) (.ref a.heap.objs.size) F.env) (RR (.ref a.heap.objs.size) h3.objs.size) {a with heap:=t,toks:=a.toks+([]:List (Str×Value)).length}:=by
  refine So (λn s'=>∃i j,Inv F [] (jU cap σ) j s'/\tn i s'.heap/\(∀b∈fp,j b=none)/\W i n j) ?_ m0 ⟨0,_,I4,AX,λb f=>(f3 b f).1,w0⟩;rintro n s5 ⟨i,H5,I5,JF,Ic,w5⟩;rcases Z i n H5 w5 with ⟨stop,qn⟩|⟨go,step⟩
  ·refine wpAny_mono (T.done F rfl rfl rfl hc i [] s5 (jU cap σ) H5 (λ_ _=>False) I5 (v (λ_ z=>b5 z (-_)) Ic) JF stop) (λr s6 ⟨hr,I6⟩=>?_) λ_ _ z=>z
   subst hr;refine hRR _ s6 H5 ?_ (λO sb=>S.back I2 V (s3:={a with heap:=h3,toks:=a.toks}) e3 k3 rfl rfl I6 sb) qn I6.free (by rw[e3];exact wU _);obtain⟨m,hn,_⟩:=I6.loc;exact⟨m,hn⟩
  ·refine wpAny_mono (T.item F rfl rfl rfl hc i [] s5 (jU cap σ) H5 (λ_ _=>False) I5 (v (λ_ z=>b5 z (-_)) Ic) JF go) (λr s6 ⟨u,hr,h6⟩=>?_) λ_ _ z=>z
   subst hr;refine wpAny_mono h6 (λ_ s7 ⟨x,H7,I7,r7,y7,Lc,fr7⟩=>?_) λ_ _ z=>z;have I7':=I7.pinned (v (λ_ z=>b5 z (-_)) fr7) (T.obj _ _ Lc);have again:∀{Y:St} {R:Hp} {N:Shared},Inv F ([]++Gq fp s7.heap) Y R N->(∃l,l<n/\W (i+1) l R)->∃m,m<n/\∃i j,Inv F [] (jU cap σ) j N/\tn i N.heap/\(∀b∈fp,j b=none)/\W i m j:=λ{Y R N} I8 n8=>by
    obtain⟨l,hm,w8⟩:=n8;have pn:∀b∈fp,∃o,s7.heap.get? b=some o/\N.heap.get? b=some o/\R b=none:=λb f=>by
     obtain⟨o,e,d⟩:=T.obj _ _ Lc b f;have q:=I8.pin (b,o) (bJ _ (bJ _ (Bx f e)));exact⟨o,e,q.1,q.2.1⟩
    refine⟨l,hm,i+1,R,S.again I3 f3 I8.CB,T.keep _ _ _ Lc λb f o e=>?_,λb f=>?_,w8⟩
    ·obtain⟨o',e',q,_⟩:=pn b f
     rw[e] at e';cases e';exact q
    ·obtain⟨_,_,_,q⟩:=pn b f
     exact q
   refine wpAny_mono (hg fp pins _ _ _ s7 (jU cap σ) H7 x u _ I7' r7 (step x H7 y7)) (λ_ N ⟨Y,R,I8,q8⟩=>?_) λ_ _ z=>z;refine wpAny_mono (hts fp pins _ _ _ N Y R _ I8 q8) (λb s9 ⟨H9,I9,q9⟩=>?_) λ_ _ z=>z;cases b with
   |false=>exact again I9 q9
   |true =>
    refine wpAny_mono (he fp pins _ _ _ s9 Y H9 _ I9 q9) (λu MG ⟨y,T7,I10,zb,xs,hx,hl,q10⟩=>?_) λ_ _ z=>z;refine wpAny_mono (gY (X:=F) _ MG Y T7 (.ref a.heap.objs.size) [y] (.ref a.heap.objs.size) [u] (λ_ j=>∃l,l<n/\W (i+1) l j) I10 rfl (.cons zb .nil) ⟨_,xs,y,rfl,rfl,hx,hl,q10⟩) (λ_ s11 ⟨_,H11,I11,_,q11⟩=>again I11 q11) λ_ _ z=>z
 exact codeAny_compStart_list G (T.self _ 0 _ _ _ AX G)
theorem gq{c i a:Expr}{b:List Expr}{l:Pos}{p:TI}{g:TG}{o:TT}{n:TE}(S:jV X scope N' cap)(r:X.calm=true)(y:PI X i a p)(G:∀fp pins s H,PG (lU X scope N' fp pins s H) i g)
 (d:∀fp pins s H,lD (lU X scope N' fp pins s H) b o) (N:∀fp pins s H,PE (lU X scope N' fp pins s H) c n) (hs:∀x,foldedSetIterable a X.env x=pure x:=by intro _;rfl) :
 PE X (.ListComp c [⟨i,a,b,0⟩] scope l) (QN p cap g o n):=by
 intro pins s σ H Q I h;rw[eval_ListComp];refine wpAny_comprehension_free (use:=none) rfl hs (A5 (S.clos I.ok)) S.kind S.loc (gV (y pins s σ H _ I h) λv V t=>gV t λF z K=>?_);obtain⟨P,fp,R,J,U,e,E,T,f,O,D⟩:=K;subst e;refine GA (RR:=λk C=>compPost (model X.prog X.w) X.A X.xe none (EP X pins σ Q) k C) S r G d N E T f O D ?_;intro C W M ⟨m,B⟩ u L _ _;exact⟨m,B,λj q=>⟨.ref z.heap.objs.size,M,u j q,rfl,L⟩⟩
theorem ou{k u d:Expr}{j:List Expr}{t:Pos}{wi:TI}{g:TG}{Y:TT}{Z:TE}{i:Nat}{x:Str}{f n:Pos}(hN:X.N.Nodup)(R:X.N[i]?=some x)(hx:Loc X.env.scope x)(S:jV X scope N' cap)(hc:X.calm=true)
 (hi:PI X u d wi) (hg:∀fp pins s H,PG (lU X scope N' fp pins s H) u g)
 (W:∀fp pins s H,lD (lU X scope N' fp pins s H) j Y) (he:∀fp pins s H,PE (lU X scope N' fp pins s H) k Z) (hs:∀x,foldedSetIterable d X.env x=pure x:=by intro _;rfl)
 (O:swapsWith (.ListComp k [⟨u,d,j,0⟩] scope t) (some (.Name x f)) n.line X.env=pure true:=by rfl) (hf:X.fn x=true∨X.env.scope.names.lookup x=some .local:=by first|exact .inl rfl|exact .inr rfl|assumption) :
 PS X (.Assign [.Name x f] (.ListComp k [⟨u,d,j,0⟩] scope t) n) (Xc (QN wi cap g Y Z) (iB i)):=by
 intro pins s σ H D I h;rw[exec_Assign_Name_used _ _ _ _ O];refine wpAny_bind (wpAny_standAt (wpAny_bind ?_));show wpAny _ X.A (do let _ <- comprehension (.ListComp k [⟨u,d,j,0⟩] scope t) scope X.env _ (newList []) false (eval d X.env) (some (assign (.Name x f) X.env))) _ _ s;refine wpAny_bind (wpAny_mono (wpAny_comprehension_free (use:=some (assign (.Name x f) X.env)) (Q:=λ_ l=>SP X pins D .next l) rfl hs (A5 (S.clos I.ok)) S.kind S.loc
  (gV (hi pins s σ H _ I h) λv s1 h1=>gV h1 λitv K h2=>?_)) (λ_ l V=>wpAny_pure (wpAny_pure V)) λ_ _ e=>e)
 obtain⟨it,fp,tn,J,H2,e,r,T,F,f2,hW⟩:=h2;subst e;refine GA (RR:=λL C=>compPost (model X.prog X.w) X.A X.xe (some (assign (.Name x f) X.env)) (λ_ l=>SP X pins D .next l) L C) (Q:=λx H1=>iB i x σ H1 D.nx) S hc hg W he r T F f2 hW ?_;intro C l H' ⟨m,hn⟩ hI V hC B;have I':Inv X pins σ H' l:=hI l.heap (.refl ..);show wpAny _ _ (assign (.Name x f) X.env (.ref K.heap.objs.size)) _ _ l;refine wpAny_assign_Name (JE (v:=.ref K.heap.objs.size) I' hN R hx rfl (λs6 I6 ⟨a,sb,ha⟩=>?_) hf);have E:∀b,b<K.heap.objs.size->b≠C:=λb M=>bz (Nat.lt_trans M B);have G:a≠C:=by
  rcases ha with z|z
  ·rw[z];exact E _ r.lt
  ·obtain⟨_,q⟩:=r.cell x a z
   exact E _ q.lt
 refine⟨m,hn.sameBut sb (bN G),λh' P=>⟨_,H',I6.turned (t':=s6.toks) (λb o M e=>(P.2 b M).trans e) hC (bN (E _ r.lt)) (.inr (aU r.sz (mP B))) (λy c U=>?_) (λp hp=>?_),V⟩⟩
 ·obtain⟨_,q⟩:=r.cell y c U
  exact E _ q.lt
 ·exact E _ (Heap.lt_size (r.pin p hp).1)
end
section
variable{X:Cx}
noncomputable def WO(K:af)(a:Addr):It :=
 ⟨λi H=>∃xs x,bQ K H a xs/\xs[i]?=some x,λi H x H'=>∃p v,H p=none/\x=.ref p/\H'=upd H p (.tup [.int (i:Nat),v])/\∀xs,bQ K H a xs->xs[i]?=some v,λi H=>∃xs,bQ K H a xs/\xs.length<=i⟩
theorem Sq{P:Program}{w:World}{K:af}{G:List Expr}{x1}{S:Pos}(a e f:Addr)(F:e≠f) :
 Turn P w K (.Tuple G x1 S) (WO K a) [e,f] e (λi h=>∃old,IsEnum h e f (i:Nat) old/\h.IsListIter f a i) where
 mem:=-_
 obj:=λi h ⟨old,st,t⟩ b hb=>by
  rcases be.mp hb with z|hb
  ·subst z
   exact⟨_,st,λv z=>by
    have z':Data.fields _=Data.cell v:=z;cases z'⟩
  ·have z:b=f:=by simpa using hb
   subst z;obtain⟨o,e,c,d⟩:=t;exact⟨o,e,λv z=>by rw[d] at z;cases z⟩
 keep:=λi h h' ⟨old,st,t⟩ k=>⟨old,k e (-_) _ st,t.at λo q=>k f (-_) o q⟩
 item:=by
  intro X L O hK g i y s σ H E I l ⟨old,st,t⟩ U;subst L O hK;obtain⟨Q,x,J,W⟩:=U;obtain⟨its,N,p,hz⟩:=I.list J;obtain⟨u,hu,ru⟩:=N.get W;refine wpAny_pyNext_enum_item st t p.isList (x:=u) (by simpa using hu) F λh' eo T tu sz kp=>?_;refine⟨_,rfl,wpAny_letOwnedTupleGo_enum eo λC e2 A=>?_⟩;have j:H s.heap.objs.size=none:=I.hok.fresh (aB _);have nE:∀b o,H b=some o->b≠e:=λb o q z=>by rw[z,(l e (-_)).1] at q;cases q
  have nI:∀b o,H b=some o->b≠f:=λb o q z=>by rw[z,(l f (-_)).1] at q;cases q
  have D:∀b o,b≠e->b≠f->s.heap.get? b=some o->C.get? b=some o:=λb o h1 h3 q=>(A.2 b h1).trans (kp b o h1 h3 q);have hes:e<s.heap.objs.size:=Heap.lt_size st;have QM:C.get? s.heap.objs.size=some {cls:=.type "tuple",data:=.seq #[.int (i:Nat) s.toks,u]}:=(A.2 _ (Nat.ne_of_gt hes)).trans tu;have Z:C.IsListIter f a (i+1):=T.at λo q=>(A.2 f (bN F)).trans q;have B:∀b,b∉[e,f]->b≠e/\b≠f:=λb hb=>⟨λz=>hb (by simp[z]),λz=>hb (by simp[z])⟩;have R:∀b∈[e,f],upd H s.heap.objs.size (.tup [.int (i:Nat),x]) b=none:=λb hb=>by
   obtain⟨o,q,_⟩:∃o,s.heap.get? b=some o/\True:=by
    rcases be.mp hb with z|hb
    ·subst z;exact⟨_,st,trivial⟩
    ·have z:b=f:=by simpa using hb
     subst z;obtain⟨o,q,_⟩:=t;exact⟨o,q,trivial⟩
   rw[aK (bz (Heap.lt_size q))];exact (l b hb).1
  have I1:Inv X y σ (upd H s.heap.objs.size (.tup [.int (i:Nat),x])) {s with heap:=C,toks:=s.toks+1}:=by
   refine I.step (g':=s.gens) (d':=s.drawn) (ch:=[e,f]) (λb hb=>?_) (λb o _ _ g q _=>D b o (B b g).1 (B b g).2 q) (λb o _ _ g q _=>⟨o.slots,D b o (B b g).1 (B b g).2 q⟩)
    (λb o _ q n=>by rw[aK (bz (Heap.lt_size q))];exact n) (λb o g q=>⟨o,D b o (B b g).1 (B b g).2 q⟩) (λb Q q=>by rw[aK (aQ q j)];exact q) (λb o u q=>by rw[aK (aQ q j)];exact q)
    (λb ps q=>⟨#[],by rw[aK (aQ q j),q];simp⟩) (λm hm=>?_) (λb o q=>?_) I.bare
   ·obtain⟨_,M,_,V,f4,Y⟩:=l b hb
    exact⟨V,M,f4,Y⟩
   ·obtain⟨o,es,ep,ho,r⟩:=hm
    exact⟨o,es,ep,D _ o (bN (l e (-_)).2.1) (bN (l f (-_)).2.1) ho,r⟩
   ·by_cases hb:b=s.heap.objs.size
    ·subst hb
     rw[aC] at q;cases q;exact⟨by show 2<=sizeLine;decide,[.int (i:Nat) s.toks,u],.cons ⟨_,rfl⟩ (.cons ru .nil),⟨_,QM,rfl,_,rfl⟩⟩
    ·rw[aK hb] at q
     refine (I.hok b o q).stay (λc v g r=>D c v ?_ ?_ r) (λc r=>by rw[aK (aQ r j)];exact r) λc Q r=>by rw[aK (aQ r j)];exact r
     ·rcases g with z|z
      ·rw[z];exact nE b o q
      ·exact nE c _ z
     ·rcases g with z|z
      ·rw[z];exact nI b o q
      ·exact nI c _ z
  refine⟨.ref s.heap.objs.size,_,I1,rfl,⟨_,x,j,rfl,rfl,λys hy=>by rw[I.Mv hy J];exact W⟩,⟨u,?_,Z⟩,R⟩;have e2':IsEnum C e f ((i:Int)+1) u:=e2;show IsEnum C e f (((i+1:Nat):Int)) u;rw[Int.natCast_add];exact e2'
 done:=by
  intro X L O hK g i y s σ H E I l ⟨old,st,t⟩ U;subst L O hK;obtain⟨Q,J,W⟩:=U;obtain⟨its,N,p,hz⟩:=I.list J;obtain⟨f0,M,f2,V,f4,Y⟩:=l f (-_);have hl:=N.length;exact wpAny_pyNext_enum_end (I.ok.hd g) st t p.isList (by simp;lia) λh' eb=>⟨rfl,I.turned (t':=s.toks) (λb o hb q=>eb b o hb q) f0 M V f4 Y⟩
 self:=λ_ _ _ _ _ ⟨_,st,_⟩ h=>wpAny_pyIter_enum st h
def adn(K:af)(ta:TA):TI:=λσ H R=>ta σ H λvs H1=>∃a xs,vs=[.ref a]/\bQ K H1 a xs/\R (WO K a) H1
theorem QO{l:Expr}{t:TA}{p g:Pos}{i:List Expr}{x1}{f:Pos}(J:Gl X "enumerate")(B:X.mg "enumerate" = none)(D:PA X [l] t)(hs:starEach [l] X.env=[(false,eval l X.env)]:=by rfl) :
 PI X (.Tuple i x1 f) (.Call (.Name "enumerate" p) [l] [] g) (adn X.K t):=by
 intro c s o H R I h;refine Call_ (KR I J B boot_enumerate (PyProof.Rows.callWith_type1 (gV (D g c s o H _ I h) λQ d ⟨P,k,j,C,E⟩=>?_) hs rfl));obtain⟨a,O,e,G,q⟩:=E;subst e;cases C with
 |cons r u =>
  cases u;cases r;obtain⟨A,M,v,L⟩:=j.list G;refine call_enumerate_list v.isList λw m y N x=>wpAny_pyIter_enum m ?_;have F:Inv X c o k {d with heap:=w,toks:=d.toks}:=j.kept x;have n:∀b,d.heap.objs.size<=b->CA X c k b:=λb hb=>j.Ur hb (j.hok.fresh hb);refine⟨d.heap.objs.size+1,[d.heap.objs.size+1,d.heap.objs.size],_,_,k,rfl,F,Sq a _ _ (Nat.succ_ne_self _),⟨.none,m,y⟩,λb hb=>?_,q⟩;rcases be.mp hb with z|hb
  ·subst z;exact n _ ∅
  ·have z:b=d.heap.objs.size:=by simpa using hb
   subst z;exact n _ ∅
end
theorem aH.eK{K:af}{H b:Hp}{a:Addr}{xs:List V}(e:aH H b)(h:c7 K H a xs):c7 K b a xs:=by
 rcases h with (h|⟨o,h⟩)|h
 ·exact .inl (.inl (e _ _ h))
 ·exact .inl (.inr ⟨o,e _ _ h⟩)
 ·exact .inr h
theorem aH.new{H:Hp}{p:Addr}{o:HO}(h:H p=none):aH H (upd H p o):=λb u e=>by rw[aK (aQ e h)];exact e
theorem aH.out{a H:Hp}{p:Addr}{o:HO}(s:aH a H)(h:a p=none):aH a (upd H p o):=λb u e=>by rw[aK (aQ e h)];exact s b u e
mutual
def Rep(K:af)(H:Hp):PyData->V->Prop
 |.none,v=>v=.fM
 |.bool b,v=>v=.bl b
 |.int i,v=>v=.int i
 |.str x,v=>v=.str x
 |.list ds,v=>∃a vs,v=.ref a/\bQ K H a vs/\bS K H ds vs
 |.tuple ds,v=>∃a vs,v=.ref a/\c7 K H a vs/\bS K H ds vs
 |.dict _,_=>False
def bS(K:af)(H:Hp):List PyData->List V->Prop
 |[],vs=>vs=[]
 |d::ds,vs=>∃v r,vs=v::r/\Rep K H d v/\bS K H ds r
end
section
variable{K:af}{H H':Hp}
mutual
theorem Rep.mono(s:aH H H'):∀{d:PyData} {v:V},Rep K H d v->Rep K H' d v
 |.none,_,h=>h
 |.bool _,_,h=>h
 |.int _,_,h=>h
 |.str _,_,h=>h
 |.list ds,_,⟨a,vs,e,q,r⟩=>⟨a,vs,e,s.seq q,bS.mono s r⟩
 |.tuple ds,_,⟨a,vs,e,q,r⟩=>⟨a,vs,e,s.eK q,bS.mono s r⟩
 |.dict _,_,h=>h
theorem bS.mono(s:aH H H'):∀{ds:List PyData} {vs:List V},bS K H ds vs->bS K H' ds vs
 |[],_,h=>h
 |_::_,_,⟨v,r,e,q,t⟩=>⟨v,r,e,q.mono s,bS.mono s t⟩
end
theorem bS.length:∀{ds:List PyData} {vs:List V},bS K H ds vs->vs.length=ds.length
 |[],_,h=>by rw[h];rfl
 |_::_,_,⟨v,r,e,_,t⟩=>by rw[e,bE,bE,bS.length t]
theorem bS.get:∀{ds:List PyData} {vs:List V} {i:Nat} {d:PyData},bS K H ds vs->ds[i]?=some d->∃v,vs[i]?=some v/\Rep K H d v
 |[],_,_,_,_,e=>by simp at e
 |x::ds,_,0,d,⟨v,r,e,q,t⟩,h=>by
  subst e;have z:x=d:=by simpa using h
  subst z;exact⟨v,rfl,q⟩
 |_::ds,_,i+1,d,⟨v,r,e,q,t⟩,h=>by
  subst e;obtain⟨y,b,a⟩:=bS.get (i:=i) (d:=d) t (by simpa using h);exact⟨y,by simpa using b,a⟩
theorem bS.snoc:∀{ds:List PyData} {vs:List V} {d:PyData} {v:V},bS K H ds vs->Rep K H d v->bS K H (ds++[d]) (vs++[v])
 |[],_,_,v,h,q=>by rw[h];exact⟨v,[],rfl,q,rfl⟩
 |_::_,_,_,_,⟨y,r,e,q,t⟩,p=>by subst e;exact⟨y,_,rfl,q,bS.snoc t p⟩
theorem pW:∀ns:List Int,bS K H (ns.map PyData.int) (ns.map V.int)
 |[]=>rfl
 |n::ns=>⟨.int n,_,rfl,rfl,pW ns⟩
theorem y9:∀{ns:List Int} {vs:List V},bS K H (ns.map PyData.int) vs->vs=ns.map V.int
 |[],_,h=>h
 |n::ns,_,⟨v,r,e,q,t⟩=>by
  have q':v=.int n:=q;rw[e,q',y9 t];rfl
theorem Rep.ints{ns:List Int}{a:Addr}(h:bQ K H a (ns.map V.int)):Rep K H (.list (ns.map .int)) (.ref a):=⟨a,_,rfl,h,pW ns⟩
theorem Rep.MH{ns:List Int}{a:Addr}(h:c7 K H a (ns.map V.int)):Rep K H (.tuple (ns.map .int)) (.ref a):=⟨a,_,rfl,h,pW ns⟩
theorem Rep.zc{ns:List Int}{v:V}(h:Rep K H (.tuple (ns.map .int)) v):∃a,v=.ref a/\c7 K H a (ns.map V.int):=by
 obtain⟨a,b,e,q,r⟩:=h;rw[y9 r] at q;exact⟨a,e,q⟩
end
section
variable{X:Cx}{pins:List (Addr×Obj)}{σ:St}{H:Hp}{s:Shared}
mutual
theorem Rep.reads(I:Inv X pins σ H s):∀{d:PyData} {v:V} {u:Value},Rep X.K H d v->RelV v u->∃j,Reads s.heap u d j
 |.none,_,_,h,r=>by cases h;cases r;exact⟨_,.none⟩
 |.bool b,_,_,h,r=>by cases h;cases r;exact⟨_,.bool b⟩
 |.int i,_,_,h,r=>by cases h;obtain⟨t,rfl⟩:=r;exact⟨_,.int i t⟩
 |.str x,_,_,h,r=>by cases h;obtain⟨t,rfl⟩:=r;exact⟨_,.str x t⟩
 |.list p,_,_,⟨a,w,e,q,t⟩,r=>by
  subst e;cases r;obtain⟨k,f,⟨o,n,l,g,y,c⟩,_⟩:=I.list q;obtain⟨j,m⟩:=bS.reads I t f;exact⟨_,.list l g c (by simpa using m)⟩
 |.tuple p,_,_,⟨a,w,e,q,t⟩,r=>by
  subst e;cases r;obtain⟨k,f,⟨o,l,g,n,c⟩,_⟩:=I.tuple q;obtain⟨j,m⟩:=bS.reads I t f;exact⟨_,.tuple l g c (by simpa using m)⟩
 |.dict _,_,_,h,_=>h.elim
theorem bS.reads(I:Inv X pins σ H s):∀{ds:List PyData} {vs:List V} {us:List Value},bS X.K H ds vs->cD vs us->∃a,ReadsAll s.heap us ds a
 |[],_,_,h,r=>by cases h;cases r;exact⟨_,.nil⟩
 |_::_,_,_,⟨v,g,e,q,t⟩,r=>by
  subst e;cases r with
  |cons d c =>
   obtain⟨a,b⟩:=q.reads I d;obtain⟨i,f⟩:=bS.reads I t c;exact⟨_,.cons b f⟩
end
end
section
variable{X:Cx}
def agX(K:af)(u:Nat):R2:=λx y H Q=>∃da db,Rep K H da x/\Rep K H db y/\da.canLay0=true/\db.canLay0=true/\u+min da.depth db.depth<cLine/\Q (.bl (PyData.eqv da db)) H
def agY(K:af)(u:Nat):R2:=λx y H Q=>∃da db,Rep K H da x/\Rep K H db y/\da.canLay0=true/\db.canLay0=true/\u+min da.depth db.depth<cLine/\Q (.bl (!PyData.eqv da db)) H
theorem DK:yv X (compareOp .Eq) (agX X.K X.A.units):=by
 intro a s l H x y v u Q I j c ⟨k,m,e,i,d,h,g,q⟩;obtain⟨n,f⟩:=e.reads I j;obtain⟨o,b⟩:=i.reads I c;exact SeqAt.compareEq_reads f b d h g ⟨.bl _,H,I,rfl,q⟩
theorem GB:yv X (compareOp .NotEq) (agY X.K X.A.units):=by
 intro a s l H x y v u Q I j c ⟨k,m,e,i,d,h,g,q⟩;obtain⟨n,f⟩:=e.reads I j;obtain⟨o,b⟩:=i.reads I c;exact SeqAt.compareNe_reads f b d h g ⟨.bl _,H,I,rfl,q⟩
theorem Su(l:X.calm=true):ue X (.type "set") (λxs H Q=>∃(a:Addr) (ns:List Int),xs=[.ref a]/\bQ X.K H a (ns.map V.int)/\ns.length+1<scanBound /\
 ∀p,H p=none->Q (.ref p) (upd H p (.set (λd=>(firstMet (λi=>ns.getD i 0) ns.length).any (·==d)) (firstMet (λi=>ns.getD i 0) ns.length).length))):=by
 intro j s w H xs A Q I r ⟨a,ns,e,v,t,q⟩;subst e;obtain⟨u,e,n⟩:=cD.one r;subst e;cases n;obtain⟨f,g,p,y⟩:=I.list v;have k:=g.length;rw[ah] at k;have c:f.toArray.size=ns.length:=by simp[k]
 refine call_set_list (I.ok.hd l) p.isList (ns:=ns) (by simpa using intsAre_of g) (by rw[c];exact t) λx z h m=>?_;rw[c] at h;exact⟨.ref s.heap.objs.size,_,I.laid (o:=.set (λd=>(firstMet (λi=>ns.getD i 0) ns.length).any (·==d)) (firstMet (λi=>ns.getD i 0) ns.length).length) (λb o e=>m b o (Heap.lt_size e) e) (aB _) h,rfl,q _ (I.hok.fresh (aB _))⟩
theorem Sv:ue X (.builtin "len") (λxs H Q=>∃(a:Addr) (S:Int->Bool) (n:Nat),xs=[.ref a]/\H a=some (.set S n)/\Q (.int n) H):=by
 intro b s p H xs y Q I r ⟨a,S,n,e,k,q⟩;subst e;obtain⟨u,e,h⟩:=cD.one r;subst e;cases h;obtain⟨o,f,v,t,i,d,j,x,m,c,l,g⟩:=(show s.heap.SetOf (intKind X.prog X.w) a S n from I.hok a _ k);subst g;refine call_len_set i d j l ?_ ⟨.int _,H,I.tok _,⟨_,rfl⟩,q⟩
 have:f.size<2^62:=bF c (!_)
 lia
theorem Sw(o:X.calm=true):ue X (.builtin "min") (λxs H Q=>∃(a:Addr) (ns:List Int),xs=[.ref a]/\bQ X.K H a (ns.map V.int)/\0<ns.length/\∀m,m∈ns->(∀n∈ns,m<=n)->Q (.int m) H):=by
 intro h s D H xs L Q I r ⟨a,ns,e,A,d,q⟩;subst e;obtain⟨u,e,y⟩:=cD.one r;subst e;cases y;obtain⟨c,w,p,E⟩:=I.list A;have g:IntsAre c ns:=intsAre_of w;have k:=p.isList;obtain⟨xs,e⟩:=g.allInts.items;have b:ns=xs.toList.map (·.1):=by
  rw[<- g.numsOf,<- nums_intItems,<- e]
 have f:0<xs.size:=by
  have l:=d;rw[b,ah,aW] at l;exact l
 rw[e] at k;refine min_intList (I.ok.hd o) k f λv G J x C=>?_;obtain⟨t,rfl⟩:=intItems_at x;obtain⟨F,z⟩:=argBest_lt (numAt xs) (xs.size-1);refine⟨.int _,H,I.kept C,⟨t,rfl⟩,q _ ?_ λa i=>?_⟩
 ·rw[b,numAt_eq];exact getD_mem (by rw[ah,aW];lia)
 ·rw[b] at i
  obtain⟨j,B,rfl⟩:=mem_getD i;rw[ah,aW] at B;rw[<- numAt_eq];exact z j ∅
end
noncomputable def Le(scope Zi:Scope)(N0 N2:List Str)(cap:List (Option Nat)):Bool :=
 (scope.kind==.function)&&(scope.names.all λy=>y.2 != .cell)&&(scope.names.all λy=>y.2 != .local || scope.names.lookup y.1==some .local) &&
 (scope.names.all λy=>y.2 != .free || Zi.names.lookup y.1==some .cell)&&(scope.names.all λy=>y.2 != .free || scope.names.lookup y.1==some .free)&&decide N2.Nodup&&(cap.length==N2.length) &&
 ((az cap.length).all λi=>match cap[i]?,N2[i]? with
   |some (some j),some x=>N0[j]?==some x&&scope.names.any (λy=>y.1==x&&y.2==.free)
   |_,_=>true)
theorem Sx{X:Cx}{scope f:Scope}{m d:List Str}{b:List (Option Nat)}(s:X.env.scope=f)(u:X.N=m)(h:Le scope f m d b=true):jV X scope d b:=by
 unfold Le at h;simp only[dw] at h;obtain⟨⟨⟨⟨⟨⟨⟨p,l⟩,n⟩,o⟩,k⟩,B⟩,w⟩,c⟩:=h;rw[List.all_eq_true] at l n o k c;refine⟨by simpa using p,λy a e=>?_,λy a e=>?_,λy a e=>?_,λy a e=>?_,eL B,by simpa using w,λi j x g v=>?_⟩
 ·have:=l y a;rw[e] at this;exact b5 this (!_)
 ·have:=n y a;rw[e] at this;simpa using this
 ·have:=o y a
  rw[e] at this;show X.env.scope.names.lookup y.1=some .cell;rw[s]
  simpa using this
 ·have:=k y a;rw[e] at this;simpa using this
 ·have r:i<b.length:=(ai.mp g).1
  have q:=c i (c5.mpr r);rw[g,v] at q;simp only[dw] at q;refine⟨by rw[u];simpa using q.1,?_⟩;obtain⟨y,a,z⟩:=wX.mp q.2;simp only[dw] at z;have A:y.1=x:=by simpa using z.1
  have t:y.2=.free:=by simpa using z.2
  rw[<- A,<- t];exact a
def CW(H1:Hp)(acc:Addr)(n:Nat)(P:Nat->List V->Hp->Prop):Nat->Nat->Hp->Prop :=
 λi m H=>m=n-i/\i<=n/\aH H1 H/\∃ys,H acc=some (.lst ys)/\P i ys H
theorem fX{J:It}{n:Nat}{o:List (Option Nat)}{g:TG}{A:TT}{w:TE}{v:St}{B:Hp->Prop}{f:Hp}{a:Addr}(P:Nat->List V->Hp->Prop)(l:f a=none)
 (go:∀i H,i<n->aH f H->J.go i H) (stop:∀H,aH f H->J.stop n H) (C:P 0 [] (upd f a (.lst [])))
 (step:∀i h H,i<n->aH f H->H a=some (.lst h)->P i h H->∀x r,J.K0 i H x r->g x (jU o v) r λd t=>A d t λb q=>if b=true then w d q λy j=>∃xs,j a=some (.lst xs)/\xs.length<sizeLine /\
  ∃c,c<n-i/\CW f a n P (i+1) c (upd j a (.lst (xs++[y]))) else ∃c,c<n-i/\CW f a n P (i+1) c q)
 (u:∀h H,aH f H->H a=some (.lst h)->P n h H->B H) :
 ∃W:Nat->Nat->Hp->Prop,(∃m,W 0 m (upd f a (.lst [])))/\∀i m H,W i m H ->
  (J.stop i H/\B H)∨(J.go i H/\∀x r,J.K0 i H x r->g x (jU o v) r λd t=>A d t λb q=>if b=true then w d q λy j=>∃xs,j a=some (.lst xs)/\xs.length<sizeLine /\
   ∃c,c<m/\W (i+1) c (upd j a (.lst (xs++[y]))) else ∃c,c<m/\W (i+1) c q):=by
 refine⟨CW f a n P,⟨n,rfl,bI _,aH.new l,[],aC,C⟩,?_⟩;rintro i m H ⟨rfl,D,s,h,z,p⟩;by_cases k:i<n
 ·exact .inr ⟨go i H k s,step i h H k s z p⟩
 ·have e:i=n:=∅
  subst e;exact .inl ⟨stop H s,u h H s z p⟩
theorem d8{e c:Hp}{a:Addr}{n i:Nat}{P:Nat->List V->Hp->Prop}{d:List V}{y:V}(b:e a=none)(g:i<n)(s:aH e c)(h:c a=some (.lst d))(hl:d.length<sizeLine)(p:P (i+1) (d++[y]) (upd c a (.lst (d++[y])))) :
 ∃xs,c a=some (.lst xs)/\xs.length<sizeLine/\∃f,f<n-i/\CW e a n P (i+1) f (upd c a (.lst (xs++[y]))) :=
 ⟨d,h,hl,n-(i+1),∅,rfl,g,s.out b,_,aC,p⟩
theorem kr{c b:Hp}{a:Addr}{n i:Nat}{P:Nat->List V->Hp->Prop}{d:List V}(f:i<n)(s:aH c b)(g:b a=some (.lst d))(p:P (i+1) d b):∃e,e<n-i/\CW c a n P (i+1) e b :=
 ⟨n-(i+1),∅,rfl,f,s,_,g,p⟩
theorem zd{K:af}{a:Addr}{xs:List V}{b:Hp}(h:bQ K b a xs):∀i H,i<xs.length->aH b H->(K1 K a).go i H:=λi H c s=>⟨xs,xs[i],s.seq h,by simp[c]⟩
theorem pX{K:af}{a:Addr}{xs:List V}{b:Hp}(h:bQ K b a xs):∀H,aH b H->(K1 K a).stop xs.length H:=λH s=>⟨xs,s.seq h,aB _⟩
theorem aaI{K:af}{a:Addr}{xs:List V}{b:Hp}(h:bQ K b a xs):∀i H,i<xs.length->aH b H->(WO K a).go i H:=λi H c s=>⟨xs,xs[i],s.seq h,by simp[c]⟩
theorem U1{K:af}{a:Addr}{xs:List V}{b:Hp}(h:bQ K b a xs):∀H,aH b H->(WO K a).stop xs.length H:=λH s=>⟨xs,s.seq h,aB _⟩
theorem w6{lo:Int}{n:Nat}{a:Hp}:∀i H,i<n->aH a H->(Ut lo n).go i H:=λi H b s=>b
theorem mW{lo:Int}{n:Nat}{a:Hp}:∀H,aH a H->(Ut lo n).stop n H:=λH s=>aB n
noncomputable def hide(H:Hp)(l:Addr):Hp:=λb=>if b=l then none else H b
theorem aaJ{α:Type}{xs:List α}{i:Int}{v:α}(a:0<=i)(h:xs[i.toNat]?=some v):FG xs i=some v:=by
 obtain⟨k,rfl⟩:=Int.eq_ofNat_of_zero_le a;exact fD (by simpa using h)
theorem MJ{ns:List Int}{i:Int}(a:0<=i)(h:i<ns.length):FG (ns.map V.int) i=some (.int (ns.getD i.toNat 0)):=by
 have b:i.toNat<ns.length:=∅
 refine aaJ a ?_;rw[ak,au,aa b];rfl
section
variable{X:Cx}
theorem U3(K:af)(h:X.K=K):ua X (Sf K):=by subst h;exact QE
theorem Xq(K:af)(h:X.K=K):ua X (Sg K):=by subst h;exact UP
theorem GC(K:af)(h:X.K=K):yv X (compareOp .In) (za K false):=by subst h;exact vQ
theorem Ge(K:af)(h:X.K=K){e:Expr}{f:Str}{a:Pos}{b:TE}(d:PE X e b)(c:attributeBase e f X.env (eval e X.env)=eval e X.env):PE X (.Attribute e f a) (Gx K b f):=by subst h;exact bf d c
theorem QS(K:af)(h:X.K=K){a:List Expr}{k:Nat}{c:Pos}{t:g9}{n:Nat}(e:X.calm=true)(h':lB X a t)(d:(assignEach a X.env).length=n:=by rfl)
 (b:(assignEach a X.env).findIdx? (·.1)=none:=by rfl):PG X (.Tuple a k c) (aai K n t):=by subst h;exact Um e h' d b
noncomputable def eN:Expr->Bool
 |.Starred _ _=>false
 |_=>true
theorem MK{e:Expr}{a:List Expr}{env:Env}(h:eN e=true):starEach (e::a) env=(false,eval e env)::starEach a env:=by
 cases e <;> first|rfl|(exact Bool.noConfusion h)|simp[starEach]
theorem mX{e:Expr}{b:List Expr}{a:TE}{t:TA}(d:PE X e a)(c:PA X b t)(hs:eN e=true:=by rfl):PA X (e::b) (fz a t):=Xi d c (MK hs)
end
end L2
namespace Gr
abbrev Ps:=List (Int×Int)
def pY(ps:Ps)(k:Nat)(x y:Int):Prop:=ps[k]?=some (x,y)∨ps[k]?=some (y,x)
theorem pY.symm{ps:Ps}{k:Nat}{x y:Int}(h:pY ps k x y):pY ps k y x:=Or.symm h
inductive Reach(ps:Ps):Int->Int->Prop where
 |refl (x:Int):Reach ps x x
 |step {x y z:Int} {k:Nat}:Reach ps x y->pY ps k y z->Reach ps x z
theorem Reach.trans{ps:Ps}{x y z:Int}(a:Reach ps x y)(b:Reach ps y z):Reach ps x z:=by
 induction b with
 |refl=>exact a
 |step _ h c=>exact .step c h
theorem Reach.one{ps:Ps}{x y:Int}{k:Nat}(h:pY ps k x y):Reach ps x y:=.step (.refl x) h
theorem Reach.symm{ps:Ps}{x y:Int}(a:Reach ps x y):Reach ps y x:=by
 induction a with
 |refl=>exact .refl _
 |step _ h b=>exact (Reach.one h.symm).trans b
theorem aaK{ps:Ps}{k:Nat}{x y:Int}(h:pY ps k x y):k<ps.length:=by
 rcases h with h|h <;> exact (ai.mp h).1
theorem BC{α:Type}{xs:List α}{x:α}(h:xs.Nodup)(f:x∉xs):(xs++[x]).Nodup:=by
 rw[n9];refine⟨h,-_,λa d b c=>?_⟩
 have:b=x:=by simpa using c
 rw[this];exact λe=>f (e▸d)
noncomputable def ends(ps:Ps):List Int:=ps.flatMap λp=>[p.1,p.2]
structure Zj(ps:Ps)(n:Nat):Prop where
 h:∀(k:Nat) (a b:Int),ps[k]?=some (a,b)->0<=a/\a<n/\0<=b/\b<n/\a≠b
theorem Zj.pY{ps:Ps}{n:Nat}(r:Zj ps n){k:Nat}{x y:Int}(a:pY ps k x y):0<=x/\x<n/\0<=y/\y<n/\x≠y:=by
 rcases a with a|a
 ·exact r.h k x y a
 ·obtain⟨d,b,e,f,c⟩:=r.h k y x a
  exact⟨e,f,d,b,bN c⟩
theorem Zj.reach{ps:Ps}{n:Nat}(r:Zj ps n){x y:Int}(a:Reach ps x y)(b:0<=x)(c:x<n):0<=y/\y<n:=by
 cases a with
 |refl=>exact⟨b,c⟩
 |step _ q=>obtain⟨_,_,d,e,_⟩:=r.pY q;exact⟨d,e⟩
structure U4(ps:Ps)(n:Nat)(xs:List Int):Prop where
 len:xs.length=n
 at_:∀h:Nat,h<n->∃f,xs[h]?=some f/\0<=f/\Reach ps f h/\∀m,Reach ps (h:Nat) m->f<=m
end Gr
namespace L2
open PySem Gr
noncomputable abbrev two(a b:Int):List V:=[.int a,.int b]
def U5(K:af)(ta:TE):TT:=λσ H Q=>ta σ H λx H'=>∃k,aas K x H' k/\Q k H'
theorem Sy{X:Cx}{a:Expr}{c:TE}(d:PE X a c)(e:∀b,isTrue a X.env b=(do let v <- b;standAt a.pos;holding [v] (truthy v))):PT X a (U5 X.K c):=UG d e
theorem U6{K:af}{a:Addr}{xs:List V}{g:TG}{n:TS}{D:Ends}{c:St}{H:Hp}(d:Nat->St->Hp->Prop)(t:d 0 c H)(hl:∀i c H,i<=xs.length->d i c H->bQ K H a xs)
 (hs:∀i x c H p,xs[i]?=some x->d i c H->H p=none->g (.ref p) c (upd H p (.tup [.int (i:Nat),x])) λj l=>n {D with nx:=d (i+1),ct:=d (i+1),bk:=D.nx} j l) (u:∀c H,d xs.length c H->D.nx c H) :
 ∃W:Nat->Nat->St->Hp->Prop,(∃m,W 0 m c H)/\∀i m c H,W i m c H ->
  ((WO K a).stop i H/\D.nx c H)∨((WO K a).go i H/\∃N:St->Hp->Prop,(∀f h,N f h->∃o,o<m/\W (i+1) o f h)/\∀x h,(WO K a).K0 i H x h->g x c h λj l=>n {D with nx:=N,ct:=N,bk:=D.nx} j l):=by
 refine⟨λi m c H=>m=xs.length-i/\i<=xs.length/\d i c H,⟨xs.length,-_,bI _,t⟩,?_⟩;rintro i m c H ⟨rfl,s,p⟩;have q:=hl i c H s p;by_cases k:i<xs.length
 ·refine .inr ⟨⟨xs,xs[i],q,by simp[k]⟩,d (i+1),λf h r=>⟨xs.length-(i+1),∅,rfl,k,r⟩,λx h y=>?_⟩
  obtain⟨b,v,z,rfl,rfl,w⟩:=y;exact hs i v c H b (w xs q) p z
 ·have e:i=xs.length:=∅
  subst e;exact .inl ⟨⟨xs,q,aB _⟩,u c H p⟩
end L2
namespace L2
open PySem PySem.Spec PyProof.Rows
section
variable{X:Cx}
theorem ES:ue X (.type "range") (λxs H Q=>∃j:Int,xs=[.int j]/\∀p,H p=none->Q (.ref p) (upd H p (.OL 0 j))):=by
 intro c s f H xs g Q I r ⟨j,e,q⟩;subst e;obtain⟨u,e,d⟩:=cD.one r;subst e;obtain⟨t,rfl⟩:=d;refine call_range_1 ⟨.ref s.heap.objs.size,_,I.laid (a:=s.heap.objs.size) (o:=.OL 0 j) (λb o e=>Heap.get?_push_of_some _ e) (aB _) ?_,rfl,q _ (I.hok.fresh (aB _))⟩;exact⟨_,_,_,Heap.get?_push_size _ rfl⟩
theorem Pa{a:Array Value}{n:Nat}(hl:a.size=n)(h:∀(i:Nat) (v:Value),a[i]?=some v->∃t,v=Value.int (0+(i:Int)*1) t):cD ((az n).map λk=>V.int (k:Nat)) a.toList:=by
 have c:∀(b:List Value) (m:Nat),(∀(i:Nat) (v:Value),b[i]?=some v->∃t,v=Value.int ((m+i:Nat):Int) t)->cD ((List.range' m b.length).map λk=>V.int (k:Nat)) b:=by
  intro b;induction b with
  |nil=>intro m _;exact .nil
  |cons u b f =>
   intro m d;rw[bE,List.range'_succ,bH];refine .cons (d 0 u rfl) (f (m+1) λi v e=>?_);obtain⟨t,q⟩:=d (i+1) v (by simpa using e);exact⟨t,by rw[q];congr 1;lia⟩
 have:=c a.toList 0 λi v e=>by
  obtain⟨t,q⟩:=h i v (by simpa using e);exact⟨t,by rw[q];congr 1;lia⟩
 rw[aW,hl,<- List.range_eq_range'] at this;exact this
theorem GD(g:X.calm=true):ue X (.type "list") (λxs H Q=>∃(p:Addr) (j:Nat),xs=[.ref p]/\H p=some (.OL 0 j)/\j<=1000/\∀l,H l=none->Q (.ref l) (upd H l (.lst ((az j).map λk=>.int (k:Nat))))):=by
 intro f s D H xs G Q I r ⟨p,j,e,y,B,q⟩;subst e;obtain⟨u,e,m⟩:=cD.one r;subst e;cases m;obtain⟨t,u,v,x⟩:=(show gU X.prog X.w H s.heap p (.OL 0 j) from I.hok p _ y);refine call_list_range (I.ok.hd g) (n:=j) x (small_one ∅ ∅ ∅ ∅) (by rw[rangeSize_one];split <;> lia) ∅ λE F b z C A h=>?_;obtain⟨c,d⟩:=h;have i:=Pa c d;refine⟨.ref s.heap.objs.size,_,I.laid (a:=s.heap.objs.size) (o:=.lst ((az j).map λk=>.int (k:Nat))) C (aB _) ⟨?_,b.toList,z,i,by simpa using A⟩,rfl,q _ (I.hok.fresh (aB _))⟩;rw[ah,bG];exact mP (cP B)
end
end L2
namespace Gr
theorem ML{ps:Ps}{m k:Nat}{x y:Int}(h:pY (ps.take m) k x y):pY ps k x y/\k<m:=by
 have b:=aaK h;have a:k<m:=by have:=List.length_take_le m ps;lia
 unfold pY at *;rw[gR a] at h;exact⟨h,a⟩
noncomputable def iA(M:List Int)(x:Int):Int:=M.getD x.toNat 0
noncomputable def joinM(M:List Int)(a b:Int):List Int:=M.map λm=>if m=iA M a then iA M b else m
structure vR(ps:Ps)(n:Nat)(M:List Int):Prop where
 len:M.length=n
 iff:∀x y:Int,0<=x->x<n->0<=y->y<n->(iA M x=iA M y↔Reach ps x y)
theorem CJ{M:List Int}{a b x:Int}(d:0<=x)(f:x<M.length):iA (joinM M a b) x=if iA M x=iA M a then iA M b else iA M x:=by
 have c:x.toNat<M.length:=∅
 have e:iA M x=M[x.toNat]:=by unfold iA;rw[au,aa c];rfl
 rw[e];show (joinM M a b).getD x.toNat 0=_;unfold joinM;rw[au,ak,aa c];rfl
theorem Sz{x y:Int}(h:Reach [] x y):x=y:=by
 cases h with
 |refl=>rfl
 |step _ a=>rcases a with a|a <;> simp at a
theorem vR.nil(n:Nat):vR [] n ((az n).map λk=>((k:Nat):Int)):=by
 have e:∀x:Int,0<=x->x<n->iA ((az n).map λk=>((k:Nat):Int)) x=x:=λx f g=>by
  unfold iA;rw[au,ak,dX ∅];show ((x.toNat:Nat):Int)=x;lia
 refine⟨-_,λx y a b d c=>?_⟩;rw[e x a b,e y d c];exact⟨λz=>z▸.refl _,Sz⟩
theorem Reach.SA{ps:Ps}{k:Nat}{x y:Int}(h:Reach (ps.take k) x y):Reach (ps.take (k+1)) x y:=by
 induction h with
 |refl=>exact .refl _
 |@step y z j _ a b =>
  obtain⟨c,d⟩:=ML a;refine .step (k:=j) b ?_;unfold pY at *;rw[gR ∅];exact c
theorem vR.step{ps:Ps}{n k:Nat}{M:List Int}{a b:Int}(A:vR (ps.take k) n M)(R:Zj ps n)(e:ps[k]?=some (a,b)):vR (ps.take (k+1)) n (joinM M a b):=by
 obtain⟨p,q,z,C,_⟩:=R.h k a b e;have I:=A.len;have new:pY (ps.take (k+1)) k a b:=by
  unfold pY;rw[gR (wU k)];exact .inl e
 have F:∀{x y:Int},Reach (ps.take k) x y->Reach (ps.take (k+1)) x y:=λh=>h.SA;have d:∀{x y:Int},0<=x->x<n->0<=y->y<n->iA M x=iA M y->Reach (ps.take (k+1)) x y:=λf g l i h=>F ((A.iff _ _ f g l i).mp h);have s:∀{x:Int},0<=x->x<n->iA (joinM M a b) x=if iA M x=iA M a then iA M b else iA M x:=λG h1=>CJ G ∅
 refine⟨by unfold joinM;rw[ah];exact I,λx y f g l i=>⟨λh=>?_,λr=>?_⟩⟩
 ·rw[s f g,s l i] at h
  by_cases o:iA M x=iA M a
  ·by_cases m:iA M y=iA M a
   ·exact (d f g p q o).trans (d p q l i m.symm)
   ·rw[aq o,b3 m] at h
    exact (d f g p q o).trans ((Reach.one new).trans (d z C l i h))
  ·by_cases m:iA M y=iA M a
   ·rw[b3 o,aq m] at h
    exact (d f g z C h).trans ((Reach.one new.symm).trans (d p q l i m.symm))
   ·rw[b3 o,b3 m] at h
    exact d f g l i h
 ·have one:∀{j:Nat} {u v:Int},pY (ps.take (k+1)) j u v->iA (joinM M a b) u=iA (joinM M a b) v:=λ{j u v} h=>by
   obtain⟨h1,K⟩:=ML h;obtain⟨D,t,w,B,_⟩:=R.pY h1;rw[s D t,s w B];by_cases c:j<k
   ·have J:pY (ps.take k) j u v:=by unfold pY at *;rw[gR c];exact h1
    rw[(A.iff u v D t w B).mpr (Reach.one J)]
   ·have:j=k:=∅
    subst this;have E:(if iA M b=iA M a then iA M b else iA M b)=iA M b:=by split <;> rfl
    rcases h1 with h1|h1
    ·rw[e] at h1;cases h1;rw[aq rfl,E]
    ·rw[e] at h1;cases h1;rw[aq rfl,E]
  clear f g l i;induction r with
  |refl=>rfl
  |step _ h H=>rw[H,one h]
end Gr
namespace L2
open PySem PySem.Spec PyProof.Rows
def Xr(h:Heap)(e T:Addr)(cls fl:Value):Prop :=
 ∃oe vs oT ts,h.get? e=some oe/\oe.cls=cls/\oe.dict=none/\oe.data=.fields vs/\vs[1]?=some (.ref T)/\T≠e/\h.get? T=some oT/\oT.data=.fields ts/\ts[3]?=some fl
structure JP(F R:List Addr)(h h':Heap):Prop where
 keep:∀b o,b∉F->b∉R->h.get? b=some o->h'.get? b=some o
 slot:∀b o,b∈F->b∉R->h.get? b=some o->∃sl,h'.get? b=some {o with slots:=sl}
theorem JP.mono{F R d:List Addr}{h h':Heap}(t:JP F R h h')(hs:∀b∈R,b∈d):JP F d h h' :=
 ⟨λb o c a e=>t.keep b o c (λz=>a (hs b z)) e,λb o c a e=>t.slot b o c (λz=>a (hs b z)) e⟩
theorem JP.trans{F R:List Addr}{h j i:Heap}(a:JP F R h j)(b:JP F R j i):JP F R h i :=
 ⟨λc o d f e=>b.keep c o d f (a.keep c o d f e),λc o d f e=>by
  obtain⟨m,k⟩:=a.slot c o d f e;obtain⟨g,l⟩:=b.slot c _ d f k;exact⟨g,l⟩⟩
theorem JP.ado{F:List Addr}{h:Heap}{a:Addr}{g:Obj->Obj}:JP F [a] h (h.update a g) :=
 ⟨λb o _ c e=>(Heap.get?_update_other _ _ (λz=>c (by simp[z]))).trans e,λb o _ c e=>⟨o.slots,(Heap.get?_update_other _ _ (λz=>c (by simp[z]))).trans e⟩⟩
theorem SE{f:Array Value->Array Value}{o:Obj}:(Obj.mapFields f o).dict=o.dict:=by
 obtain⟨c,d,a,b⟩:=o;cases a <;> rfl
section
variable{M:Model}{A:Around}{E:Value->Shared->Prop}{s:Shared}{base:Heap}{env:Env}{outer:List Env}{L e:Addr}
theorem GF(hl:s.heap.FunFrames base (env::outer)){c:Obj}{vs:Array Value}(g:s.heap.get? e=some c)(f:c.data=.fields vs):e∉frs (env::outer):=λd=>by
 obtain⟨_,o,b,a⟩:=hl.mem d;rw[g] at b;cases b;exact a vs f
theorem JQ{g:Obj}{vs:Array Value}{a:Value}{B:Bool}{Q:Unit->Shared->Prop}(l:A.frames=some (env::outer))(hl:s.heap.FunFrames base (env::outer))(F:env.frame=some L)
 (x:s.heap.get? e=some g) (t:g.dict=none) (k:g.data=.fields vs) (hsz:1<vs.size)
 (h:∀h',Xr h' e s.heap.objs.size g.cls (rawInt L)->JP (frs (env::outer)) [e] s.heap h'->Q () {s with heap:=h'}) :
 wpAny M A (do let fv <- frameOf env;let j <- entryPlaceOf L B;let C <- EntryCells.newEntry a fv .none (rawInt L) .none j;setField (.ref e) 1 C) Q E s:=by
 have r:=GF hl x k;refine wpAny_bind (wpAny_frameOf_fun l hl F λg1 D=>?_);obtain⟨n,c,u⟩:=D;refine wpAny_bind (wpAny_entryPlaceOf λj d=>?_);unfold EntryCells.newEntry newFields;refine wpAny_bind (wpAny_newObj_type ?_ (d.sizeOk5 _ _ _ _ _));have p:g1.get? e=some g:=(c e r).trans x;have f:g1.objs.size≠e:=Nat.ne_of_gt (Heap.lt_size p);refine wpAny_setField (Heap.get?_push_of_some _ p) k hsz (h _ ?_ ?_)
 ·have i:=Obj.data_mapFields k (·.setIfInBounds 1 (Value.ref g1.objs.size))
  have qT:=(Heap.get?_update_other _ (Obj.mapFields (·.setIfInBounds 1 (Value.ref g1.objs.size))) (bN f)).trans (Heap.get?_push_size g1 (o:={cls:=.type "traceback",dict:=none,data:=.fields ([a,.ref L,.none,rawInt L,.none]++(if j.isEmpty then pT 6 Value.none else j)).toArray}) rfl);rw[<- n];refine⟨_,_,_,_,Heap.get?_update_self _ (Heap.get?_push_of_some _ p) (Obj.isFreed_of_fields i),Obj.cls_mapFields _ _,?_,i,?_,f,qT,rfl,?_⟩
  ·rw[SE]
   exact t
  ·simp[hsz]
  ·rcases d with rfl|⟨_,_,_,_,_,_,_,rfl⟩ <;> simp
 ·refine⟨λb o w v m=>?_,λb o w v m=>?_⟩
  ·rw[Heap.get?_update_other _ _ (λz=>v (by simp[z]))]
   exact Heap.get?_push_of_some _ ((c b w).trans m)
  ·obtain⟨y,q⟩:=u b o m
   refine⟨y,?_⟩;rw[Heap.get?_update_other _ _ (λz=>v (by simp[z]))];exact Heap.get?_push_of_some _ q
theorem Pb{a:Obj}{vs:Array Value}{Q:Unit->Shared->Prop}(c:A.frames=some (env::outer))(hl:s.heap.FunFrames base (env::outer))(f:env.frame=some L)
 (g:s.heap.get? e=some a) (b:a.dict=none) (d:a.data=.fields vs) (i:vs[1]?=some .none)
 (h:∀h',Xr h' e s.heap.objs.size a.cls (rawInt L)->JP (frs (env::outer)) [e] s.heap h'->Q () {s with heap:=h'}):wpAny M A (noteFrame (.ref e) env) Q E s:=by
 unfold noteFrame;simp only[f];refine wpAny_bind (wpAny_field g d i ?_);rw[b3 (!_)];exact JQ c hl f g b d (iW.mp i).1 h
theorem SG{T:Addr}{cls:Value}{Q:Unit->Shared->Prop}(g:A.frames=some (env::outer))(hl:s.heap.FunFrames base (env::outer))(n:env.frame=some L)(y:Xr s.heap e T cls .none)
 (h:∀h',Xr h' e s.heap.objs.size cls (rawInt L)->JP (frs (env::outer)) [e,T] s.heap h'->Q () {s with heap:=h'}):wpAny M A (noteFrame (.ref e) env) Q E s:=by
 obtain⟨C,D,F,w,p,r,j,m,l,u,f,c,q⟩:=y;subst r;unfold noteFrame;simp only[n];refine wpAny_bind (wpAny_field p m l ?_);rw[aq (-_)];refine wpAny_bind (wpAny_field f c q ?_);rw[b3 (by simp[rawInt])];refine wpAny_bind (wpAny_setField f c (iW.mp q).1 ?_);have t:=GF (e:=T) hl f c;have k:(s.heap.update T (Obj.mapFields (·.setIfInBounds 3 Value.none))).objs.size=s.heap.objs.size:=Heap.size_after_update ..;have a:∀b,b≠T->(s.heap.update T (Obj.mapFields (·.setIfInBounds 3 Value.none))).get? b=s.heap.get? b:=λb d=>Heap.get?_update_other _ _ (bN d);refine JQ (s:={s with heap:=s.heap.update T (Obj.mapFields (·.setIfInBounds 3 Value.none))}) (base:=base) g (hl.of_keeps λb o d i=>⟨o,(a b λz=>?_).trans d,rfl⟩) n ((a e (bN u)).trans p) j m (iW.mp l).1 λh' v x=>?_
 ·rw[z,f] at d
  cases d;exact i w c
 ·have B:Xr h' e s.heap.objs.size C.cls (rawInt L):=k▸v
  exact h h' B ((JP.ado.mono (-_)).trans (x.mono (-_)))
theorem ET{T:Addr}{cls p:Value}{Q:Unit->Shared->Prop}(f:Xr s.heap e T cls p)(h:∀h',Xr h' e T cls .none->(∀F,JP F [T] s.heap h')->h'.objs.size=s.heap.objs.size->Q () {s with heap:=h'}) :
 wpAny M A (setFlight (.ref e) none) Q E s:=by
 obtain⟨r,o,t,n,l,m,d,i,g,j,k,c,q⟩:=f;have a:3<n.size:=(iW.mp q).1;unfold setFlight;refine wpAny_bind (wpAny_field l i g ?_);rw[aq (-_)];refine wpAny_setField k c a (h _ ?_ (λF=>JP.ado) (Heap.size_after_update ..));have b:=Obj.data_mapFields c (·.setIfInBounds 3 ((none:Option Addr).elim Value.none λf=>rawInt f));exact⟨r,o,_,_,(Heap.get?_update_other _ _ j).trans l,m,d,i,g,j,Heap.get?_update_self _ k (Obj.isFreed_of_fields b),b,by simp[a]⟩
end
theorem gU.there{P:Program}{w:World}{H:Hp}{h:Heap}{a:Addr}:∀{o:HO},gU P w H h a o->∃ob,h.get? a=some ob
 |.lst _,⟨_,_,_,_,e⟩=>⟨_,e⟩
 |.tup _,⟨_,_,_,o,e,_⟩=>⟨o,e⟩
 |.dK _,⟨_,_,_,_,o,_,_,e,_⟩=>⟨o,e⟩
 |.dT _,⟨_,_,_,_,o,_,_,e,_⟩=>⟨o,e⟩
 |.set _ _,⟨o,_,_,_,e,_⟩=>⟨o,e⟩
 |.ins _ _ _,⟨_,_,_,e,_⟩=>⟨_,e⟩
 |.own _,e=>e
 |.xd _,⟨_,n,_⟩=>let ⟨o,e,_⟩:=JH n;⟨o,e⟩
 |.met _ _,e=>⟨_,e⟩
 |.OL _ _,⟨_,_,_,e⟩=>⟨_,e⟩
 |.Ct o _,⟨e,_⟩=>⟨o,e⟩
 |.Y4 _,e=>⟨_,e⟩
 |.ext _,⟨_,e,_⟩=>e
theorem yS.nT{P:Program}{w:World}{H:Hp}{h h':Heap}{F R:List Addr}(ok:yS P w H h)(t:JP F R h h')(c:∀b∈F,H b=none)(d:∀b∈R,H b=none):yS P w H h':=λa o e =>
 (ok a o e).stay (λb u hb q=>t.keep b u (λz=>by
  have:=c b z
  rcases hb with rfl|hb
  ·rw[e] at this;cases this
  ·rw[hb] at this;cases this) (λz=>by
  have:=d b z
  rcases hb with rfl|hb
  ·rw[e] at this;cases this
  ·rw[hb] at this;cases this) q) (λ_ q=>q) λ_ _ q=>q
def Rec(X:Cx)(pins:List (Addr×Obj))(H:Hp)(b:Addr):Prop :=
 H b=none/\b≠X.env.locals/\b∉X.fs/\X.s₀.heap.get? b=none/\(∀x c,X.env.cells.lookup x=some c->c≠b)/\∀p∈X.pn++pins,p.1≠b
section
variable{X:Cx}{pins:List (Addr×Obj)}{σ:St}{H H':Hp}{s:Shared}{h':Heap}
theorem Inv.Xs(I:Inv X pins σ H s)(f:X.ex=[]){b:Addr}(g:H' b=none)(d:s.heap.get? b=none):Rec X pins H' b:=by
 refine⟨g,λz=>?_,λz=>?_,?_,λx c e z=>?_,λp h z=>?_⟩
 ·obtain⟨m,⟨o,_,_,a,_⟩,_⟩:=I.loc
  rw[<- z,d] at a;cases a
 ·obtain⟨_,o,a,_⟩:=I.Cw.mem z
  rw[d] at a;cases a
 ·cases q:X.s₀.heap.get? b with
  |none=>rfl
  |some o =>
   obtain⟨i,e⟩:=I.base.there b o q (by rw[f];simp);rw[d] at e;cases e
 ·obtain⟨v,o,a,_⟩:=I.cell x c e
  rw[z,d] at a;cases a
 ·have:=(I.pin p h).1
  rw[z,d] at this;cases this
theorem Inv.MM(I:Inv X pins σ H s)(a:X.ex=[]):Rec X pins H s.heap.objs.size:=by
 refine I.Xs a (I.hok.fresh (aB _)) ?_;cases q:s.heap.get? s.heap.objs.size with
 |none=>rfl
 |some o=>exact b5 (Heap.lt_size q) (jf _)
theorem Inv.nT{R:List Addr}{t':Nat}(I:Inv X pins σ H s)(y:∀b∈R,Rec X pins H b)(t:JP (frs X.stack) R s.heap h'):Inv X pins σ H {s with heap:=h',toks:=t'}:=by
 have E:∀b∈frs X.stack,H b=none:=λb a=>I.KQ b a;have g:∀b o,b∉R->s.heap.get? b=some o->∃j,h'.get? b=some {o with slots:=j}:=λb o C e=>by
  by_cases a:b∈frs X.stack
  ·exact t.slot b o a C e
  ·exact⟨o.slots,t.keep b o a C e⟩
 have L:∀b o,b≠X.env.locals->b∉X.fs->b∉R->s.heap.get? b=some o->h'.get? b=some o:=λb o S a C e =>
  t.keep b o (λz=>(be.mp (I.DG b z)).elim S a) C e
 have D:∀b o,X.s₀.heap.get? b=some o->b≠X.env.locals:=λb o e=>bz (bF (Heap.lt_size e) I.ok.above);have h:∀b o,X.s₀.heap.get? b=some o->b∉R:=λb o e z=>by rw[(y b z).2.2.2.1] at e;cases e
 have f:∀x c,X.env.cells.lookup x=some c->∀v,s.heap.IsCell c v->h'.IsCell c v:=λx c e v ⟨o,F,N⟩=>by
  obtain⟨j,q⟩:=g c o (λz=>(y c z).2.2.2.2.1 x c e rfl) F;exact⟨_,q,N⟩
 refine⟨I.ok,I.os,I.bare,⟨λb o e n a A=>?_,λb o e n a A=>?_,I.base.free,λb o e A=>?_,I.base.tups,I.base.AW,I.base.Cv⟩,?_,λx c e=>?_,I.free,I.ud,λp K=>?_,I.hok.nT t E (λb a=>(y b a).1),I.len⟩
 ·exact L b o (D b o e) a (h b o e) (I.base.keep b o e n a A)
 ·obtain⟨j,B⟩:=I.base.slot b o e n a A
  obtain⟨G,w⟩:=g b _ (h b o e) B;exact⟨G,w⟩
 ·obtain⟨U,B⟩:=I.base.there b o e A
  obtain⟨j,w⟩:=g b _ (h b o e) B;exact⟨_,w⟩
 ·obtain⟨m,⟨o,O,M,F,r⟩,T⟩:=I.loc
  obtain⟨j,q⟩:=g _ o (λz=>(y _ z).2.1 rfl) F;refine⟨m,⟨_,O,M,q,r⟩,λi x v B w Q=>?_⟩;obtain⟨u,P,l⟩:=T i x v B w Q;refine⟨u,P,?_⟩;rcases l with l|⟨k,c,e,z⟩
  ·exact .inl l
  ·exact .inr ⟨k,c,e,f x c e _ z⟩
 ·obtain⟨v,z⟩:=I.cell x c e
  exact⟨v,f x c e v z⟩
 ·obtain⟨e,n,J,nf,d⟩:=I.pin p K
  exact⟨L p.1 p.2 J nf (λz=>(y p.1 z).2.2.2.2.2 p K rfl) e,n,J,nf,d⟩
end
def XP(X:Cx)(pins:List (Addr×Obj))(σ:St)(E:XK)(e:Value)(s':Shared):Prop :=
 ∃ea T cls H',e=.ref ea/\Inv X pins σ H' s'/\Xr s'.heap ea T cls .none/\Rec X pins H' ea/\Rec X pins H' T/\E cls none H'
def EU(P:Program)(w:World):Sd:=λouter H s E e s' =>
 ∃ea T cls H',e=.ref ea/\s'.os=s.os/\AllBare s'.gens/\Un (frs outer) [] H H' s.heap s'.heap/\yS P w H' s'.heap/\Xr s'.heap ea T cls .none/\s.heap.get? ea=none/\s.heap.get? T=none/\H' ea=none/\H' T=none/\E cls none H'
theorem ads{X:Cx}{a:List (Addr×Obj)}{i:St}{H:Hp}{s s':Shared}{E:XK}{e:Value}(I:Inv X a i H s)(d:X.ex=[])(h:EU X.prog X.w X.stack H s E e s'):XP X a i E e s':=by
 obtain⟨k,T,f,o,r,os,c,p,g,n,t,l,j,m,q⟩:=h;exact⟨k,T,f,o,r,I.Y6 (ch:=[]) os p g c (λb z=>b5 z (-_)),n,I.Xs d j t,I.Xs d m l,q⟩
theorem U7{X:Cx}{a:List (Addr×Obj)}{d:St}{H:Hp}{s:Shared}{R:List Addr}{h':Heap}(I:Inv X a d H s)(c:X.ex=[])(e:∀b∈R,Rec X a H b)(t:JP (frs X.stack) R s.heap h'):Un X.fs [] X.H₀ H X.s₀.heap h':=by
 have:=(I.nT (t':=s.toks) e t).base
 rw[c] at this;exact this
section
variable{P:Program}{w:World}{K:af}{mg:Str->Option Value}{base:Heap}{N:List Str}{qual:Str}{scope:Scope}{f:Addr}{cd:Value}{A:Around}{outer:List Env}{s0:Shared}{H0:Hp}{E:XK}
theorem adt{a:List (Addr×Obj)}{o:St}{e:Value}{s:Shared}(h:XP (oq (EU P w) P w K mg base N qual scope f cd A outer s0 H0 E) a o E e s):(oq (EU P w) P w K mg base N qual scope f cd A outer s0 H0 E).xe e s:=by
 obtain⟨d,T,g,l,rfl,I,v,i,p,q⟩:=h;show wpAny _ _ (leaving _ (.ref d)) _ _ s;unfold leaving;refine wpAny_bind (SG (base:=base) I.ok.frames I.stack rfl v λy r n=>?_);refine ET r λu x t B=>?_;have j:=I.MM rfl;have m:∀b∈[d,T,s.heap.objs.size],Rec (oq (EU P w) P w K mg base N qual scope f cd A outer s0 H0 E) a l b:=by
  intro b k;simp only[be,List.not_mem_nil,or_false] at k;rcases k with z|z|z
  ·rw[z];exact i
  ·rw[z];exact p
  ·rw[z];exact j
 have c:JP (frs (oq (EU P w) P w K mg base N qual scope f cd A outer s0 H0 E).stack) [d,T,s.heap.objs.size] s.heap u:=(n.mono (-_)).trans ((t _).mono (-_));have J:=I.nT (t':=s.toks) m c;exact⟨d,_,g,l,rfl,I.os,I.bare,U7 I rfl m c,J.hok,x,i.2.2.2.1,j.2.2.2.1,i.1,j.1,q⟩
theorem Zl:sj (EU P w) (oq (EU P w) P w K mg base N qual scope f cd A outer s0 H0 E) E:=λa b H s e c I h=>adt (ads I rfl h)
theorem OH.okX{x qual:Str}{st:Stmt}{f:Addr}{e:FuncData}{N ps:List Str}{k:Nat}{sp:Sp}(F:OH K x qual st f e)(S:aO N ps (aF st))(d:∀vs H Q E,sp vs H Q E->vs.length=ps.length)
 (b:∀(a:Value) (A:Around) (outer:List Env) (s:Shared) (H:Hp) (vs:List V) (Q:VK) (E:XK),jT k (A.deeper (envOfC qual (aF st) s.heap.objs.size f a))->sp vs H Q E ->
  ∃t,iR (oq (EU P w) P w K mg base N qual (aF st) f a A outer s H E) (fW st) t/\t {nx:=λ_ j=>Q .fM j,rt:=Q} (start N vs) H):cE P w K mg base (EU P w) (k+1) f e ps sp:=by
 obtain⟨o,q,kV,h,n,m,a,p,g,rfl,lk,c⟩:=F.ex;exact UL lk c S d λA outer s H vs Q E i l=>b a A outer s H vs Q E i l
end
theorem QT{P:Program}{w:World}{X:Cx}:sj (EU P w) X E0:=λ_ _ _ _ _ _ _ h=>by
 obtain⟨_,_,_,_,_,_,_,_,_,_,_,_,_,_,q⟩:=h;exact q.elim
abbrev adv:List Value:=[.type "ValueError",.type "Exception",.type "BaseException",.type "object"]
structure U8(K:af)(C:Addr):Prop where
 ex:PySem.W.excIn K C adv "ValueError.__new__" = true
 ga:aL K (.ref C) "__getattribute__" = some (some (.builtin "BaseException.__getattribute__"))
 gb:aL K (.ref C) "__getattr__" = some none
 hd:uI K C=true
 ca:aL K (.ref C) "__class__" = some (some (.builtin "object.__class__"))
 cg:PySem.W.specialIn K (.builtin "object.__class__") "__get__" = some (some (.builtin "getset_descriptor.__get__"))
 ct:PySem.W.takesIn K (.builtin "object.__class__")=some true
 mo:PySem.W.mroIn K C (.type "object")=some true
 mb:PySem.W.mroIn K C (.type "BaseException")=some true
theorem Xu{K:af}{h:Heap}{C:Addr}{a:List Value}{o:String}(X:K.In h)(q:PySem.W.excIn K C a o=true) :
 ∃bm N nm e bs d sn b ab col dd k0 k1 k2 k3 k5 j,h.get? C=some (excClassObj nm e C N bs bm d sn b ab col dd k0 k1 k2 k3 k5 o)/\h.Ns N j/\j "__init__" = none/\OwnTail h a bm/\bm.contains (.type "BaseException")=a.contains (.type "BaseException"):=by
 unfold PySem.W.excIn at q;split at q
 ·rename_i dd u g v
  obtain⟨nm,bs,w,m,e,d,sn,b,ab,col,p⟩:=u;obtain⟨g⟩:=g;split at q
  ·rename_i D bm k0 k1 k2 k3 n k5 i k
   simp only[dw,beq_iff_eq,Bool.not_eq_true'] at q;obtain⟨⟨⟨⟨⟨t,s⟩,l⟩,r⟩,c⟩,f⟩:=q;dsimp only at i k l c f;subst t s i k l;have T:=PySem.W.tail_of_in X r;exact⟨bm,m,nm,e,bs,d,sn,b,ab,col,dd,k0,k1,k2,k3,k5,h.nsMap m,X _ _ v,.of_isNs (PySem.W.isNs_of_in X c),PySem.W.nsMap_none_of_in X c f,T,T.hasType rfl⟩
  ·cases q
 ·cases q
section
variable{P:Program}{w:World}{K:af}{mg:Str->Option Value}{base:Heap}{N:List Str}{qual:Str}{scope:Scope}{f:Addr}{cd:Value}{A:Around}{outer:List Env}{s0:Shared}{H0:Hp}{E:XK}
theorem raised{a:List (Addr×Obj)}{j:St}{H:Hp}{s:Shared}{h':Heap}{e C:Addr}{vs:List Value}(I:Inv (oq (EU P w) P w K mg base N qual scope f cd A outer s0 H0 E) a j H s)(hm:Heap.MadeExcOf s.heap h' e (.ref C) vs)
 (q:E (.ref C) none H):(oq (EU P w) P w K mg base N qual scope f cd A outer s0 H0 E).xe (.ref e) {s with heap:=h'}:=by
 have i:H e=none:=by
  cases z:H e with
  |none=>rfl
  |some o =>
   obtain⟨D,m⟩:=(I.hok e o z).there;rw[hm.new] at m;cases m
 have g:=I.Xs rfl i hm.new;have d:Inv (oq (EU P w) P w K mg base N qual scope f cd A outer s0 H0 E) a j H {s with heap:=h'}:=I.kept (t':=s.toks) hm.keeps;obtain⟨t,v,_,_⟩:=hm.there;show wpAny _ _ (leaving _ (.ref e)) _ _ _;unfold leaving;refine wpAny_bind (Pb (base:=base) d.ok.frames d.stack rfl v rfl rfl rfl λy p n=>?_);refine ET p λu x r B=>?_;have h:=d.MM rfl;have l:∀b∈[e,h'.objs.size],Rec (oq (EU P w) P w K mg base N qual scope f cd A outer s0 H0 E) a H b:=by
  intro b k;simp only[be,List.not_mem_nil,or_false] at k;rcases k with z|z
  ·rw[z];exact g
  ·rw[z];exact h
 have c:JP (frs (oq (EU P w) P w K mg base N qual scope f cd A outer s0 H0 E).stack) [e,h'.objs.size] h' u:=(n.mono (-_)).trans ((r _).mono (-_));have J:=d.nT (t':=s.toks) l c;exact⟨e,_,.ref C,H,rfl,I.os,I.bare,U7 d rfl l c,J.hok,x,g.2.2.2.1,h.2.2.2.1,g.1,h.1,q⟩
theorem MN{x:Str}{C:Addr}{a:Expr}{p b k:Pos}{m:TE}(R:Gl (oq (EU P w) P w K mg base N qual scope f cd A outer s0 H0 E) x)(J:mg x=some (.ref C))(G:U8 K C)(Q:A.handled=none)
 (M:PE (oq (EU P w) P w K mg base N qual scope f cd A outer s0 H0 E) a m) (i:(x==("__debug__" : Str))=false:=by decide)
 (o:backTo b (starEach [a] (oq (EU P w) P w K mg base N qual scope f cd A outer s0 H0 E).env)=[(false,eval a (oq (EU P w) P w K mg base N qual scope f cd A outer s0 H0 E).env)]:=by rfl) :
 PS (oq (EU P w) P w K mg base N qual scope f cd A outer s0 H0 E) (.Raise (some (.Call (.Name x p) [a] [] b)) none k) (λ_ g H=>m g H λ_ n=>E (.ref C) none n):=by
 intro c s g H D I h;obtain⟨bm,u,nm,L,bs,z,sn,r,ab,col,dd,k0,k1,k2,k3,k5,X,t,B,l,T,S⟩:=Xu I.ok.mod.Z9 G.ex;refine wpAny_Raise_call_subT (C:=C) (nm:=nm) (q:=L) (N:=u) (bs:=bs) (bm:=bm) (hdct:=z) (sn:=sn) (sub:=r) (ab:=ab) (col:=col) (dd:=dd) (k0:=k0) (k1:=k1) (k2:=k2) (k3:=k3) (k5:=k5) PySem.F.excBase_ValueError (by rw[S];decide) Q (by rw[o];rfl) l (Cz I R J ⟨rfl,?_⟩ i);rw[o];refine Calls.evalArgs_plain (Calls.spliced_cons (gV (M c s g H _ I h) λv V ⟨y,n,d,W,O⟩=>Calls.spliced_nil ?_));exact⟨rfl,by show 1<=sizeLine;decide,d.bk _ _ t,B.keeps d.bk,T.keeps d.bk,λU e j=>raised d j O⟩
end
end L2
namespace RM
structure Row where
 hd:Int
 co:Int
 ho:Int
 by_:Int
deriving DecidableEq
theorem Row.ext'{r s:Row}(b:r.hd=s.hd)(a:r.co=s.co)(c:r.ho=s.ho)(d:r.by_=s.by_):r=s:=by
 cases r;cases s;simp_all
def lt(r s:Row):Prop:=r.hd<s.hd∨(r.hd=s.hd/\(r.co<s.co∨(r.co=s.co/\(r.ho<s.ho∨(r.ho=s.ho/\r.by_<s.by_)))))
instance (r s:Row):Decidable (lt r s):=by unfold lt;infer_instance
def le(r s:Row):Prop:=¬lt s r
instance (r s:Row):Decidable (le r s):=by unfold le;infer_instance
theorem le_refl(r:Row):le r r:=by unfold le lt;lia
theorem aaM{a b c:Int}{i l f:Prop}(h:¬i->¬l->¬f)(k:¬(b<a∨(b=a/\i)))(g:¬(c<b∨(c=b/\l))):¬(c<a∨(c=a/\f)):=by
 have j:a<=b:=Int.not_lt.mp λy=>k (.inl y);have d:b<=c:=Int.not_lt.mp λy=>g (.inl y);intro z;rcases z with z|⟨z,n⟩
 ·exact Int.not_lt.mpr (rm j d) z
 ·subst z
  have e:=Int.le_antisymm j d;subst e;exact h (λy=>k (.inr ⟨rfl,y⟩)) (λy=>g (.inr ⟨rfl,y⟩)) n
theorem le_trans{r s t:Row}(d:le r s)(c:le s t):le r t :=
 aaM (aaM (aaM λa b=>Int.not_lt.mpr (rm (Int.not_lt.mp a) (Int.not_lt.mp b)))) d c
theorem Zm{r s:Row}(h:lt r s):le r s:=by unfold le lt at *;lia
structure Net where
 n:Nat
 nm:Nat->Int
 a:Nat->Nat
 b:Nat->Nat
 c:Nat->Int
 live:List Nat
 inj:∀i j,i<n->j<n->nm i=nm j->i=j
 ab:∀k∈live,a k<n/\b k<n/\a k≠b k
 c1:∀k∈live,1<=c k
section
variable(N:Net)
def Gf(k h g:Nat):Prop:=k∈N.live/\((N.a k=h/\N.b k=g)∨(N.b k=h/\N.a k=g))
noncomputable def own(h:Nat):Row:=⟨N.nm h,0,0,-1⟩
noncomputable def over(k:Nat)(r:Row):Row:=⟨r.hd,r.co+N.c k,r.ho+1,k⟩
end
variable{N:Net}
theorem Gf.symm{k h g:Nat}(e:Gf N k h g):Gf N k g h:=⟨e.1,e.2.elim (λz=>.inr ⟨z.2,z.1⟩) λz=>.inl ⟨z.2,z.1⟩⟩
theorem Gf.lt{k h g:Nat}(e:Gf N k h g):h<N.n/\g<N.n/\h≠g:=by
 obtain⟨d,e⟩:=e;obtain⟨b,a,c⟩:=N.ab k d;rcases e with ⟨rfl,rfl⟩|⟨rfl,rfl⟩
 ·exact⟨b,a,c⟩
 ·exact⟨a,b,bN c⟩
theorem Gf.cost{k h g:Nat}(e:Gf N k h g):1<=N.c k:=N.c1 k e.1
structure U9(cut:Int)(R:Nat->Row)(h:Nat)(d:Row):Prop where
 one:d=own N h∨∃k g,Gf N k h g/\(R g).ho+1<cut/\d=over N k (R g)
 own:le d (RM.own N h)
 all:∀k g,Gf N k h g->(R g).ho+1<cut->le d (over N k (R g))
def Sane(N:Net)(R:Nat->Row):Prop:=∀h,h<N.n->0<=(R h).ho/\(R h).ho<N.n
noncomputable def upd(R:Nat->Row)(h:Nat)(d:Row):Nat->Row:=λx=>if x=h then d else R x
structure ow(N:Net)(R:Nat->Row)(k h g:Nat):Prop where
 pY:Gf N k h g
 cut:(R g).ho+1<N.n
 eq:R h=over N k (R g)
theorem Gf.far{k h g g':Nat}(a:Gf N k h g)(c:Gf N k h g'):g=g':=by
 obtain⟨b,e⟩:=a;obtain⟨_,d⟩:=c
 have:=(N.ab k b).2.2
 lia
section
variable{R:Nat->Row}{k h g:Nat}
theorem ow.ho(t:ow N R k h g):(R h).ho=(R g).ho+1:=by rw[t.eq];rfl
theorem ow.by(t:ow N R k h g):(R h).by_=k:=by rw[t.eq];rfl
theorem ow.uniq{a g':Nat}(t:ow N R k h g)(u:ow N R a h g'):k=a/\g=g':=by
 have c:=t.by;have b:=u.by;have e:k=a:=∅
 subst e;exact⟨rfl,t.pY.far u.pY⟩
theorem ow.one{h' g':Nat}(t:ow N R k h g)(u:ow N R k h' g'):h=h'/\g=g':=by
 obtain⟨i,e⟩:=t.pY;obtain⟨_,c⟩:=u.pY;have f:=t.ho;have d:=u.ho;have a:h=h'∨(h=g'/\g=h'):=by
  rcases e with ⟨rfl,rfl⟩|⟨rfl,rfl⟩ <;> rcases c with ⟨rfl,rfl⟩|⟨rfl,rfl⟩ <;> simp
 rcases a with a|⟨a,b⟩
 ·subst a
  exact⟨rfl,t.pY.far u.pY⟩
 ·subst a b
  lia
end
end RM
namespace RM
variable{N:Net}
end RM
namespace L2
open PySem PySem.Spec PyProof.Rows
inductive MO:List Value->List Value->Bool->Prop
 |nil:MO [] [] false
 |ne {a c:Int} {t u:Tok} {vs ws:List Value} (h:a≠c):MO (.int a t::vs) (.int c u::ws) (decide (a<c))
 |eq {a:Int} {t u:Tok} {vs ws:List Value} {r:Bool} (h:MO vs ws r):MO (.int a t::vs) (.int a u::ws) r
section
open PySem.SeqAt
open PySem.AutoSeq1 (wpAny_loadPart')
open PySem.MeetsSeq PySem.MeetsSeq2 PySem.MeetsSeq3
theorem Pc(l b:Addr)(items f:Array Value)(n J:Nat)(dd C:Option Addr)(K E:Array (Option Value))(r:Bool)(I:MO items.toList f.toList r)(hsz:items.size=f.size) :
 Meets (Builtin.«tuple.__lt__» ⟨[.ref l,.ref b],[]⟩)
  (λ_ R s=>s.heap.get? l=some {cls:=.type "tuple",dict:=dd,data:=.seq items n,slots:=K}/\s.heap.get? b=some {cls:=.type "tuple",dict:=C,data:=.seq f J,slots:=E} /\
   R (.ok (.ret (.bool r))) s) :=
 .of_wp λk w A R s h=>by
  obtain⟨v,g,d,z,os⟩:=s;obtain⟨M,N,h⟩:=h;have Q:=AutoSeq1.sub_tuple_tuple
  wp_walk using wpAny_loadPart' M,wpAny_loadPart' N,wpAny_forIn_list _ (λrest b G=>b.1=none/\G=⟨v,g,d,z,os⟩/\∃(p q:List Value),rest=p.zip q/\MO p q r) _
  case turn =>
   rintro⟨y,x⟩ rest b G ⟨m,rfl,p,q,i,o⟩;cases o with
   |nil=>rw[List.zip_nil_left] at i;cases i
   |@ne a c t u p q F =>
    rw[List.zip_cons_cons] at i;injection i with hyx hrest
    injection hyx with hy o
    subst hy o;obtain⟨e,H,j⟩:=HT.MA A.in1 ⟨v,g,d,z,os⟩ a t c u;refine wpAny_bind (H k w _ _ ?_);cases e with
    |true=>exact b5 (j.mp rfl) F
    |false =>
     have D:=HT.UM A.in1 ⟨v,g,d,z,os⟩ a t c u k w
     wp_walk using D
     exact⟨_,rfl,by simpa using h⟩
   |@eq a t u p q P B =>
    rw[List.zip_cons_cons] at i;injection i with hyx hrest
    injection hyx with hy o
    subst hy o;obtain⟨e,H,j⟩:=HT.MA A.in1 ⟨v,g,d,z,os⟩ a t a u;refine wpAny_bind (H k w _ _ ?_);cases e with
    |true =>
     wp_walk
     exact⟨rfl,rfl,_,_,hrest,B⟩
    |false=>exact b5 (j.mpr rfl) aJ
  case fin =>
   rintro⟨O,S⟩ G ⟨m,rfl,p,q,i,o⟩;simp only at m;subst m;cases o with
   |nil =>
    have L:decide (items.size<f.size)=false:=c6 ∅;rw[<- L] at h
    wp_walk
    exact⟨_,rfl,by simpa [Builtin.Tuple.tupleCompareSizes] using h⟩
   |ne=>rw[List.zip_cons_cons] at i;cases i
   |eq=>rw[List.zip_cons_cons] at i;cases i
  case h =>
   exact⟨rfl,rfl,items.toList,f.toList,rfl,I⟩
end
theorem Xv{prog:Program}{w:World}{A:Around}{E:Value->Shared->Prop}{s:Shared}{l b:Addr}{items a:Array Value}{r:Bool}{Q:Value->Shared->Prop}(hl:IsTup s.heap l items)(y:IsTup s.heap b a)(q:MO items.toList a.toList r)(hsz:items.size=a.size)
 (v:A.units<cLine) (h:Q (.bool r) s):wpAny (model prog w) A (compareOp .Lt (.ref l) (.ref b)) Q E s:=by
 obtain⟨⟨p,o,k,u⟩,m,i,n,j⟩:=id hl;obtain⟨⟨z,f,data2,g⟩,c,e,t,d⟩:=id y;simp only at i j e d;subst i j e d;exact richCompare_meets_room (op:=.Lt) ⟨_,m,rfl⟩ ⟨_,c,rfl⟩ PySem.F.slot_tuple_lt PySem.F.entry_tuple_lt (PySem.F.args_tuple_lt_2 _ _) (Pc l b items a n t o f u g r q hsz)
  ⟨m,c,show Value.bool r≠Value.notImplemented/\Q (.bool r) s from ⟨(λx=>nomatch x),h⟩⟩ v
inductive GG:List V->List V->Bool->Prop
 |nil:GG [] [] false
 |ne {a c:Int} {vs ws:List V} (h:a≠c):GG (.int a::vs) (.int c::ws) (decide (a<c))
 |eq {a:Int} {vs ws:List V} {r:Bool} (h:GG vs ws r):GG (.int a::vs) (.int a::ws) r
theorem GG.vals{vs f:List V}{r:Bool}(h:GG vs f r):∀{us a:List Value},cD vs us->cD f a->MO us a r:=by
 induction h with
 |nil=>intro us a c b;cases c;cases b;exact .nil
 |ne h =>
  intro us a c b;cases c with
  |cons e _ =>
   cases b with
   |cons d _ =>
    obtain⟨t,rfl⟩:=e;obtain⟨u,rfl⟩:=d;exact .ne h
 |eq _ i =>
  intro us a c b;cases c with
  |cons e g =>
   cases b with
   |cons d j =>
    obtain⟨t,rfl⟩:=e;obtain⟨u,rfl⟩:=d;exact .eq (i g j)
section
variable{X:Cx}
def ag0(K:af):R2:=λx y H Q=>∃a b xs ys r,x=.ref a/\y=.ref b/\c7 K H a xs/\c7 K H b ys/\xs.length=ys.length/\GG xs ys r/\Q (.bl r) H
theorem aaN(m:X.A.units<cLine):yv X (compareOp .Lt) (ag0 X.K):=by
 intro e s z H x y v u Q I t i h;obtain⟨a,b,B,w,r,rfl,rfl,l,p,o,j,q⟩:=h;cases t;cases i;obtain⟨k,f,g,_⟩:=I.tuple l;obtain⟨d,c,n,_⟩:=I.tuple p;exact Xv g n (j.vals f c) (by rw[aX,aX,<- f.length,<- c.length];exact o) m ⟨.bl r,H,I,rfl,q⟩
end
end L2
namespace RM
open PySem L2
noncomputable def ku(b:Int):V:=if b<0 then .fM else .int b
noncomputable abbrev cU(r:Row):List V:=[.int r.hd,.int r.co,.int r.ho,ku r.by_]
theorem bh{b:Int}(h:b<0):ku b=.fM:=aq h
theorem bg{b:Int}(h:0<=b):ku b=.int b:=b3 ∅
end RM
namespace L2
open PySem PySem.Spec PyProof.Rows
end L2
namespace L2
open PySem PySem.Spec PyProof.Rows RM
end L2
namespace L2
open PySem PySem.Spec PyProof.Rows
section
variable{X:Cx}
def ag1(K:af):R2:=λx y H Q=>∃da db,Rep K H da x/\Rep K H db y/\da.canLay0=true/\db.canLay0=true/\da.depth<=64/\Q (.bl (PyData.eqv da db)) H
theorem Xw(K:af)(m:X.K=K)(i:X.A.units+64<cLine):yv X (compareOp .Eq) (ag1 K):=by
 subst m;intro a s c H x y v u Q I l f ⟨b,e,h,k,g,j,d,q⟩;exact DK a s c H x y v u Q I l f ⟨b,e,h,k,g,j,bO (cJ (aU (fN _ _) d) _) i,q⟩
end
end L2
namespace RM
open PySem L2
noncomputable def T8(b:Int):PyData:=if b<0 then .none else .int b
noncomputable def t8(r:Row):PyData:=.tuple [.int r.hd,.int r.co,.int r.ho,T8 r.by_]
theorem Xx{K:af}{H:Hp}(b:Int):Rep K H (T8 b) (ku b):=by
 unfold T8 ku;by_cases h:b<0
 ·rw[aq h,aq h];rfl
 ·rw[b3 h,b3 h];rfl
theorem vS{K:af}{H:Hp}{p:Addr}{r:Row}(h:c7 K H p (cU r)):Rep K H (t8 r) (.ref p) :=
 ⟨p,_,rfl,h,_,_,rfl,rfl,_,_,rfl,rfl,_,_,rfl,rfl,_,_,rfl,Xx _,rfl⟩
theorem vU(r:Row):(t8 r).canLay0=true:=by
 show (true&&(true&&(true&&((T8 r.by_).canLay0&&true))))=true;unfold T8;split <;> rfl
theorem DL(r:Row):(t8 r).depth=1:=by
 show max 0 (max 0 (max 0 (max (T8 r.by_).depth 0)))+1=1;unfold T8;split <;> rfl
theorem MP{r s:Row}(g:-1<=r.by_)(hs:-1<=s.by_):PyData.eqv (t8 r) (t8 s)=decide (r=s):=by
 have e:PyData.eqv (t8 r) (t8 s)=((r.hd==s.hd)&&((r.co==s.co)&&((r.ho==s.ho)&&(PyData.eqv (T8 r.by_) (T8 s.by_)&&true)))):=rfl;rw[e];have f:PyData.eqv (T8 r.by_) (T8 s.by_)=decide (r.by_=s.by_):=by
  unfold T8;by_cases b:r.by_<0 <;> by_cases a:s.by_<0
  ·rw[aq b,aq a]
   exact (cy ∅).symm
  ·rw[aq b,b3 a]
   exact (c6 ∅).symm
  ·rw[b3 b,aq a]
   exact (c6 ∅).symm
  ·rw[b3 b,b3 a]
   show (r.by_==s.by_)=_;by_cases c:r.by_=s.by_
   ·rw[cy c,c];exact beq_self_eq_true _
   ·rw[c6 c];exact beq_eq_false_iff_ne.mpr c
 rw[f];by_cases h:r=s
 ·subst h
  simp
 ·rw[c6 h]
  have:¬(r.hd=s.hd/\r.co=s.co/\r.ho=s.ho/\r.by_=s.by_):=λz=>h (Row.ext' z.1 z.2.1 z.2.2.1 z.2.2.2)
  simp only[Bool.and_true];by_cases b:r.hd=s.hd
  ·by_cases a:r.co=s.co
   ·by_cases c:r.ho=s.ho
    ·have d:¬r.by_=s.by_:=λz=>this ⟨b,a,c,z⟩
     simp[d]
    ·simp[c]
   ·simp[a]
  ·simp[b]
noncomputable def GH(n:Nat)(R:Nat->Row):PyData:=.list ((az n).map λi=>t8 (R i))
theorem EV{K:af}{H:Hp}:∀{ps:List Addr} {rs:List Row},ps.length=rs.length->(∀(i:Nat) p r,ps[i]?=some p->rs[i]?=some r->c7 K H p (cU r))->bS K H (rs.map t8) (ps.map V.ref)
 |[],[],_,_=>rfl
 |p::ps,r::rs,e,h=>⟨_,_,rfl,vS (h 0 p r rfl rfl),EV (by simpa using e) λi c d a b=>h (i+1) c d a b⟩
 |[],_::_,e,_=>by simp at e
 |_::_,[],e,_=>by simp at e
theorem SH(n:Nat)(R:Nat->Row):(GH n R).canLay0=true:=by
 show PyData.canLayAll0 ((az n).map λi=>t8 (R i))=true;induction (az n) with
 |nil=>rfl
 |cons x a b =>
  show ((t8 (R x)).canLay0&&PyData.canLayAll0 (a.map λi=>t8 (R i)))=true;rw[vU,b];rfl
theorem Pd(n:Nat)(R:Nat->Row):(GH n R).depth<=2:=by
 show PyData.depthAll ((az n).map λi=>t8 (R i))+1<=2
 have:PyData.depthAll ((az n).map λi=>t8 (R i))<=1:=by
  induction (az n) with
  |nil=>exact (by decide:(0:Nat)<=1)
  |cons x a b =>
   show max (t8 (R x)).depth (PyData.depthAll (a.map λi=>t8 (R i)))<=1;rw[DL];lia
 lia
end RM
namespace L2
open PySem PySem.Spec PyProof.Rows
end L2
namespace RM
open PySem L2
theorem Xy{r s:Row}(h:r.hd=s.hd->r.co=s.co->r.ho=s.ho->¬lt r s):GG [.int r.hd,.int r.co,.int r.ho] [.int s.hd,.int s.co,.int s.ho] (decide (lt r s)):=by
 obtain⟨l,i,k,o⟩:=r;obtain⟨j,m,n,p⟩:=s;dsimp only at h;have a:∀{b g:Bool} {vs ws},GG vs ws b->b=g->GG vs ws g:=λh e=>e▸h;by_cases d:l=j
 ·subst d
  by_cases c:i=m
  ·subst c
   by_cases f:k=n
   ·subst f
    exact a (.eq (.eq (.eq .nil))) (c6 (h rfl rfl rfl)).symm
   ·exact a (.eq (.eq (.ne f))) (by unfold lt;simp[f])
  ·exact a (.eq (.ne c)) (by unfold lt;simp[c])
 ·exact a (.ne d) (by unfold lt;simp[d])
end RM
namespace L2
open PySem PySem.Spec PyProof.Rows
end L2
set_option maxHeartbeats 4000000
namespace TW
open PySem L2 PyProof.Rows
open RM (cU ku bh bg)
seal L2.PE L2.PA L2.PT L2.PW L2.PS L2.iR L2.PG L2.lB L2.PI L2.lD
structure Va(n:Int)(a b c d e:Int):Prop where
 a0:0<=a
 a1:a<n
 b0:0<=b
 b1:b<n
 ab:a≠b
 c1:1<=c
 d1:1<=d
 d4:d<=4
 e1:1<=e
 e7:e<=7
noncomputable abbrev adx(a b c d e:Int):List V:=[.int a,.int b,.int c,.int d,.int e]
structure R5 where
 a:Int
 b:Int
 c:Int
 d:Int
 e:Int
noncomputable abbrev R5.vs(r:R5):List V:=adx r.a r.b r.c r.d r.e
noncomputable abbrev R5.ns(r:R5):List Int:=[r.a,r.b,r.c,r.d,r.e]
noncomputable def R5.D(r:R5):PyData:=.tuple (r.ns.map .int)
abbrev R5.Ok(n:Int)(r:R5):Prop:=Va n r.a r.b r.c r.d r.e
def GI(K:af)(H:Hp)(l:Addr)(rs:List R5):Prop:=Rep K H (.list (rs.map R5.D)) (.ref l)
section
variable{K:af}{H H':Hp}{l:Addr}{rs:List R5}
theorem GI.mono(s:aH H H')(h:GI K H l rs):GI K H' l rs:=Rep.mono s h
theorem GI.at(h:GI K H l rs):∃vs,bQ K H l vs/\vs.length=rs.length/\∀(i:Nat) r,rs[i]?=some r->∃p,vs[i]?=some (.ref p)/\c7 K H p r.vs:=by
 obtain⟨a,vs,e,q,r⟩:=h;cases e;refine⟨vs,q,by rw[r.length,ah],λi x g=>?_⟩;obtain⟨v,f,c⟩:=r.get (i:=i) (d:=x.D) (by rw[ak,g];rfl);obtain⟨p,e,b⟩:=Rep.zc (ns:=x.ns) c;subst e;exact⟨p,f,b⟩
end
theorem GJ:∀(ns:List Int),ns.Nodup->(firstMet (λi=>ns.getD i 0) ns.length).length=ns.length:=by
 intro ns j;have e:(az ns.length).map (λi=>ns.getD i 0)=ns:=by
  apply wW
  ·simp
  ·intro i d m
   simp at d;simp[au,d]
 have c:∀(b a:List Int),(a++b).Nodup->b.foldl step_dedup a=a++b:=by
  intro b;induction b with
  |nil=>intro a _;simp
  |cons x b k =>
   intro a h;have l:x∉a:=λf=>by
    rw[n9] at h;exact h.2.2 x f x (-_) rfl
   have g:step_dedup a x=a++[x]:=by
    unfold step_dedup;simp[l]
   rw[List.foldl_cons,g,k _ (by simpa using h)];simp
 unfold firstMet;rw[e,c ns [] (by simpa using j)];simp
theorem dJ{f:Str}{v:V}:∀{a:List (Str×V)} {names:List Str},a.map (·.1)=names->names.contains f=false->yO f v a=a++[(f,v)]
 |[],_,_,_=>rfl
 | (g,u)::r,_,e,h=>by
  subst e;rw[bH,List.contains_cons,Bool.or_eq_false_iff] at h;have b:¬g=f:=λz=>by
   have:=h.1
   rw[z] at this;simp at this
  show (if g=f then (g,v)::r else (g,u)::yO f v r)=_;rw[b3 b,dJ rfl h.2];rfl
theorem Az{K:af}{H c:Hp}{p C e:Addr}{f:List (Str×V)}{a:Addr}{xs:List V}(k:∀b o,H b=some o->b≠p->c b=some o)(d:H p=some (.ins C e f))(h:bQ K H a xs):bQ K c a xs:=by
 rcases h with (h|⟨o,h⟩)|h
 ·exact .inl (.inl (k _ _ h (vJ h d (by intro z;cases z))))
 ·exact .inl (.inr ⟨o,k _ _ h (vJ h d (by intro z;cases z))⟩)
 ·exact .inr h
theorem Xz{K:af}{H c:Hp}{p C e:Addr}{f:List (Str×V)}{a:Addr}{xs:List V}(k:∀b o,H b=some o->b≠p->c b=some o)(d:H p=some (.ins C e f))(h:c7 K H a xs):c7 K c a xs:=by
 rcases h with (h|⟨o,h⟩)|h
 ·exact .inl (.inl (k _ _ h (vJ h d (by intro z;cases z))))
 ·exact .inl (.inr ⟨o,k _ _ h (vJ h d (by intro z;cases z))⟩)
 ·exact .inr h
mutual
theorem XA{K:af}{H f:Hp}{p C g:Addr}{i:List (Str×V)}(k:∀b o,H b=some o->b≠p->f b=some o)(c:H p=some (.ins C g i)):∀{d:PyData} {v:V},Rep K H d v->Rep K f d v
 |.none,_,h=>h
 |.bool _,_,h=>h
 |.int _,_,h=>h
 |.str _,_,h=>h
 |.list ds,_,⟨a,vs,e,q,r⟩=>⟨a,vs,e,Az k c q,jW k c r⟩
 |.tuple ds,_,⟨a,vs,e,q,r⟩=>⟨a,vs,e,Xz k c q,jW k c r⟩
 |.dict _,_,h=>h
theorem jW{K:af}{H c:Hp}{p C d:Addr}{f:List (Str×V)}(k:∀b o,H b=some o->b≠p->c b=some o)(a:H p=some (.ins C d f)):∀{ds:List PyData} {vs:List V},bS K H ds vs->bS K c ds vs
 |[],_,h=>h
 |_::_,_,⟨v,r,e,q,t⟩=>⟨v,r,e,XA k a q,jW k a t⟩
end
noncomputable abbrev ag2(ln lr:Addr)(n m:Nat):List (Str×V):=[("house_names",.ref ln),("rope_tuples",.ref lr),("size",.int n),("many",.int m)]
structure dc(K:af)(C:Addr)(H:Hp)(p ln lr:Addr)(ns:List Int)(rs:List R5):Prop where
 ob:∃dx,H p=some (.ins C dx (ag2 ln lr ns.length rs.length))
 nl:H ln=some (.lst (ns.map V.int))
 rl:∃vs,H lr=some (.lst vs)/\bS K H (rs.map R5.D) vs
section
variable{K:af}{C:Addr}{H H':Hp}{p ln lr:Addr}{ns:List Int}{rs:List R5}
theorem dc.mono(s:aH H H')(h:dc K C H p ln lr ns rs):dc K C H' p ln lr ns rs:=by
 obtain⟨⟨b,d⟩,a,c,e,f⟩:=h;exact⟨⟨b,s _ _ d⟩,s _ _ a,c,s _ _ e,f.mono s⟩
end
theorem Lf(a x:Int):Sh (.int a) (.int x)=decide (x=a):=by
 show (a==x)=decide (x=a);by_cases e:x=a
 ·rw[cy e,e];exact beq_self_eq_true a
 ·rw[c6 e];exact beq_eq_false_iff_ne.mpr (bN e)
theorem vV(x:Int)(xs:List Int):Mn (.int x) (xs.map V.int)=decide (x∈xs):=by
 unfold Mn;induction xs with
 |nil=>simp
 |cons y c d =>
  rw[bH,List.any_cons,d,Lf];by_cases a:x=y
  ·subst a;simp
  ·by_cases b:x∈c
   ·simp[a,b]
   ·simp[a,b]
theorem rY(xs:List Int):(xs.map V.int).all yW=true:=by
 rw[List.all_eq_true];intro v a;obtain⟨x,_,rfl⟩:=aP.mp a;rfl
noncomputable def above(xs:List Int)(x:Int):Nat:=(xs.filter λy=>decide (x<=y)).length
theorem Vb{xs:List Int}{x:Int}(h:x∈xs):above xs (x+1)<above xs x:=by
 unfold above;induction xs with
 |nil=>cases h
 |cons y c g =>
  have d:(c.filter λy=>decide (x+1<=y)).length<=(c.filter λy=>decide (x<=y)).length:=by
   clear g h;induction c with
   |nil=>simp
   |cons z j b =>
    simp only[eB];by_cases a:x+1<=z
    ·rw[aq (by simpa using a),aq (by simp;lia)];simp;exact b
    ·rw[b3 (by simpa using a)]
     split
     ·simp;lia
     ·exact b
  simp only[eB];by_cases f:x=y
  ·subst f
   rw[b3 (by simp;lia),aq (-_)];simp;lia
  ·have i:x∈c:=by
    rcases be.mp h with e|e
    ·exact b5 e f
    ·exact e
   have:=g i
   by_cases a:x+1<=y
   ·rw[aq (by simpa using a),aq (by simp;lia)];simp;exact this
   ·rw[b3 (by simpa using a),b3 (by simp;lia)];exact this
theorem XC{n x y:Int}(h:2<=n):0<=x%n/\x%n<n/\0<=(x%n+1+y%(n-1))%n/\(x%n+1+y%(n-1))%n<n/\x%n≠(x%n+1+y%(n-1))%n:=by
 have f:=bT x (show n≠0 by lia);have d:=cu x (show 0<n by lia);have i:=bT y (show n-1≠0 by lia);have j:=cu y (show 0<n-1 by lia);have e:=bT (x%n+1+y%(n-1)) (show n≠0 by lia);have g:=cu (x%n+1+y%(n-1)) (show 0<n by lia);refine⟨f,d,e,g,?_⟩;generalize x%n=a at *;generalize y%(n-1)=b at *;by_cases c:a+1+b<n
 ·rw[Int.emod_eq_of_lt ∅ c];lia
 ·rw[<- Int.sub_emod_right,Int.emod_eq_of_lt ∅ ∅];lia
theorem aaO{c:TT}{t u r:TS}{D:Ends}{a:L2.St}{H:Hp}(J:L2.St->Hp->Prop)(b:∀a H,J a H->r D a H)(h:(∀a H,J a H->r D a H)->R7 c t u {D with nx:=r D} a H):Uk (R7 c t u) r D a H:=h b
theorem Vc{K:af}{a:Addr}{xs:List V}{b:Hp}(h:c7 K b a xs):∀i H,i<xs.length->aH b H->(Mq K a).go i H:=λi H c s=>⟨xs,xs[i],s.eK h,by simp[c]⟩
theorem MQ{K:af}{a:Addr}{xs:List V}{b:Hp}(h:c7 K b a xs):∀H,aH b H->(Mq K a).stop xs.length H:=λH s=>⟨xs,s.eK h,aB _⟩
structure BD(n m:Nat)(r:RM.Row):Prop where
 hd:0<=r.hd
 co:0<=r.co
 ho:0<=r.ho/\r.ho<n
 by_:r.by_=-1∨(0<=r.by_/\r.by_<m)
noncomputable abbrev bM(ks:List Nat):List V:=ks.map λk=>V.int (k:Nat)
theorem lV(a:List Nat)(k:Nat):bM (a++[k])=bM a++[V.int (k:Nat)]:=by
 unfold bM;rw[aS];rfl
theorem XD{K:af}{H:Hp}{q a:Addr}{xs c:List V}{o:HO}(b:H q=some (.lst xs))(h:c7 K H a c):c7 K (upd H q o) a c:=by
 rcases h with (h|⟨d,h⟩)|h
 ·exact .inl (.inl (by rw[aK (vJ h b (by intro z;cases z))];exact h))
 ·exact .inl (.inr ⟨d,by rw[aK (vJ h b (by intro z;cases z))];exact h⟩)
 ·exact .inr h
noncomputable def aZ(ns:List Int)(rs:List R5)(live:List Nat)(nd:ns.Nodup)(ok:∀r∈rs,r.Ok ns.length)(hl:∀k∈live,k<rs.length):RM.Net where
 n:=ns.length
 nm i:=ns.getD i 0
 a k:=((rs[k]?).map λr=>r.a.toNat).getD 0
 b k:=((rs[k]?).map λr=>r.b.toNat).getD 0
 c k:=((rs[k]?).map λr=>r.c).getD 0
 live:=live
 inj i j hi hj e:=by
  have e1:ns.getD i 0=ns[i]:=by simp[au,hi]
  have e2:ns.getD j 0=ns[j]:=by simp[au,hj]
  have e:ns[i]=ns[j]:=by rw[<- e1,<- e2];exact e
  exact (List.getElem?_inj hi nd).mp (by rw[aa hi,aa hj,e])
 ab k hk:=by
  have h:=hl k hk;have o:=ok _ (aM h);simp only[aa h,Option.map_some,Option.getD_some];have h1:=o.a0;have h2:=o.a1;have h3:=o.b0;have h4:=o.b1;have h5:=o.ab;exact⟨∅,∅,∅⟩
 c1 k hk:=by
  have h:=hl k hk;have o:=ok _ (aM h);simp only[aa h,Option.map_some,Option.getD_some];exact o.c1
def sq(K:af)(H:Hp)(l:Addr)(n:Nat)(R:Nat->RM.Row):Prop:=∃ps:List Addr,bQ K H l (ps.map V.ref)/\ps.length=n/\∀(i:Nat) p,ps[i]?=some p->c7 K H p (cU (R i))
theorem sq.mono{K:af}{H a:Hp}{l:Addr}{n:Nat}{R:Nat->RM.Row}(s:aH H a)(h:sq K H l n R):sq K a l n R:=by
 obtain⟨b,d,c,f⟩:=h;exact⟨b,s.seq d,c,λi p e=>s.eK (f i p e)⟩
theorem jX:∀ns:List Int,PyData.canLayAll0 (ns.map .int)=true
 |[]=>rfl
 |n::ns=>by
  show (PyData.canLay0 (.int n)&&PyData.canLayAll0 (ns.map .int))=true;rw[jX ns];rfl
theorem oz:∀ns:List Int,PyData.depthAll (ns.map .int)=0
 |[]=>rfl
 |n::ns=>by
  show max (PyData.depth (.int n)) (PyData.depthAll (ns.map .int))=0;rw[oz ns];rfl
section
variable{ns:List Int}{rs:List R5}{live:List Nat}{nd:ns.Nodup}{ok:∀r∈rs,r.Ok ns.length}{hl:∀k∈live,k<rs.length}
def w9(n m:Nat)(R:Nat->RM.Row):Prop:=∀i,i<n->BD n m (R i)
theorem w9.aaP{m:Nat}{R:Nat->RM.Row}(h:w9 ns.length m R):RM.Sane (aZ ns rs live nd ok hl) R:=λi a=>(h i a).ho
theorem XE{R:Nat->RM.Row}{h:Nat}{d:RM.Row}(m:w9 ns.length rs.length R)(b:h<ns.length)(l:∀x∈ns,0<=x)(i:RM.U9 (N:=aZ ns rs live nd ok hl) ns.length R h d):BD ns.length rs.length d:=by
 rcases i.one with e|⟨k,g,a,c,e⟩
 ·rw[e]
  have j:(aZ ns rs live nd ok hl).nm h=ns[h]:=by show ns.getD h 0=_;simp[au,b]
  refine⟨?_,jA _,⟨jA _,?_⟩,.inl rfl⟩
  ·show 0<=(aZ ns rs live nd ok hl).nm h
   rw[j];exact l _ (aM b)
  ·show (0:Int)<ns.length
   lia
 ·have f:=m g a.lt.2.1
  have o:=a.cost;have n:k<rs.length:=hl k a.1;rw[e];refine⟨f.hd,?_,⟨?_,c⟩,.inr ⟨?_,?_⟩⟩
  ·show 0<=(R g).co+(aZ ns rs live nd ok hl).c k
   have:=f.co
   lia
  ·show 0<=(R g).ho+1
   have:=f.ho.1
   lia
  ·show (0:Int)<=(k:Nat);lia
  ·show ((k:Nat):Int)<(rs.length:Nat);lia
end
theorem BD.by1{n m:Nat}{r:RM.Row}(h:BD n m r):-1<=r.by_:=by have:=h.by_;lia
noncomputable def isAt(rs:List R5)(h:Int)(i:Nat):Bool:=match rs[i]? with|some r=>decide (h=r.a) || decide (h=r.b)|none=>false
noncomputable def T9(rs:List R5)(h:Int)(n:Nat):List Nat:=(az n).filter (isAt rs h)
theorem MR(rs:List R5)(h:Int)(n:Nat):T9 rs h (n+1)=T9 rs h n++(if isAt rs h n then [n] else []):=by
 unfold T9;rw[iF,fP];congr 1;by_cases a:isAt rs h n=true
 ·rw[aq a];simp[a]
 ·rw[b3 a];simp[a]
theorem XF(rs:List R5)(h:Int)(n:Nat):(T9 rs h n).length<=n:=by
 have:=bY (isAt rs h) (az n)
 rw[bG] at this;exact this
theorem aaQ(x a b:Int):Mn (V.int x) [V.int a,V.int b]=(decide (x=a) || decide (x=b)):=by
 show (Sh (.int a) (.int x) || (Sh (.int b) (.int x) || false))=_;rw[Lf,Lf,Bool.or_false]
theorem iX(a:List Nat):bM a=(a.map λk:Nat=>(k:Int)).map V.int:=by
 unfold bM;rw[cX];rfl
theorem ze(x:Nat)(xs:List Nat):Mn (.int (x:Nat)) (bM xs)=decide (x∈xs):=by
 rw[iX,vV];by_cases h:x∈xs
 ·rw[cy h]
  exact cy (aP.mpr ⟨x,h,rfl⟩)
 ·rw[c6 h]
  refine c6 λz=>h ?_;obtain⟨y,a,e⟩:=aP.mp z
  have:y=x:=∅
  exact this▸a
theorem rZ(xs:List Nat):(bM xs).all yW=true:=by rw[iX];exact rY _
theorem Vd(rs:List R5)(h:Int)(n:Nat):(T9 rs h n).Pairwise (·<·):=List.Pairwise.filter _ List.pairwise_lt_range
theorem XG{a:List Nat}(h:a.Pairwise (·<·)){j:Nat}(b:j<a.length){k:Nat}(c:k∈a.take j):k<a[j]:=by
 obtain⟨i,d,e⟩:=List.getElem_of_mem c;rw[cH] at d;rw[List.getElem_take] at e;rw[<- e];exact pU.mp h i j ∅ b ∅
theorem AA{rs:List R5}{h:Int}{n k:Nat}:k∈T9 rs h n↔k<n/\isAt rs h k=true:=by
 unfold T9;rw[bq,c5]
section
variable{ns:List Int}{rs:List R5}{live:List Nat}{nd:ns.Nodup}{ok:∀r∈rs,r.Ok ns.length}{hl:∀k∈live,k<rs.length}
noncomputable def fQ(r:R5)(h:Nat):Nat:=(if (h:Int)=r.a then r.b else r.a).toNat
theorem uh{k h g:Nat}(i:k∈live):RM.Gf (aZ ns rs live nd ok hl) k h g↔isAt rs (h:Int) k=true/\g=fQ (rs[k]'(hl k i)) h:=by
 have d:=hl k i;have o:=ok _ (aM d);have f:rs[k]?=some rs[k]:=aa d;have l:(aZ ns rs live nd ok hl).a k=rs[k].a.toNat:=by show ((rs[k]?).map λr=>r.a.toNat).getD 0=_;rw[f];rfl
 have j:(aZ ns rs live nd ok hl).b k=rs[k].b.toNat:=by show ((rs[k]?).map λr=>r.b.toNat).getD 0=_;rw[f];rfl
 unfold RM.Gf isAt fQ;rw[l,j,f];dsimp only;generalize rs[k]=r at o;have n:=o.a0;have m:=o.b0;have p:=o.ab;constructor
 ·rintro⟨_,⟨e,c⟩|⟨e,c⟩⟩
  ·have z:(h:Int)=r.a:=∅
   rw[aq z];exact⟨by simp[z],c.symm⟩
  ·have z:(h:Int)=r.b:=∅
   rw[b3 ∅];exact⟨by simp[z],c.symm⟩
 ·rintro⟨e,c⟩
  refine⟨i,?_⟩;have e:(h:Int)=r.a∨(h:Int)=r.b:=by simpa using e
  by_cases z:(h:Int)=r.a
  ·rw[aq z] at c
   exact .inl ⟨∅,c.symm⟩
  ·rw[b3 z] at c
   exact .inr ⟨∅,c.symm⟩
end
theorem sq.data{K:af}{H:Hp}{l:Addr}{n:Nat}{R:Nat->RM.Row}(h:sq K H l n R):Rep K H (RM.GH n R) (.ref l):=by
 obtain⟨ps,d,c,e⟩:=h;refine⟨l,_,rfl,d,?_⟩
 have:=RM.EV (K:=K) (H:=H) (ps:=ps) (rs:=(az n).map R) (by rw[ah,bG];exact c) (λi p r b a=>by
  rw[ak] at a;have f:i<n:=by have:=(ai.mp b).1;lia
  rw[dX f] at a;cases a;exact e i p b)
 rw[cX] at this;exact this
theorem Ve(ns:List Int)(a b:Nat):∃cs:List Int,IG (ns.map V.int) (some (a:Int)) (some (b:Int))=cs.map V.int/\cs.length<=b-a:=by
 refine⟨(ns.drop (HT.n6 ns.length 0 (some (a:Int)))).take (HT.n6 ns.length ns.length (some (b:Int))-HT.n6 ns.length 0 (some (a:Int))),?_,?_⟩
 ·unfold IG
  rw[ah,List.map_take,List.map_drop]
 ·rw[HT.Qy,HT.Qy,cH,List.length_drop]
  lia
theorem AB{α:Type}{xs:List α}{x y:α}{j:Nat}(h:(xs++[x])[j]?=some y):xs[j]?=some y∨(j=xs.length/\y=x):=by
 by_cases a:j<xs.length
 ·rw[aY a] at h
  exact .inl h
 ·have:=(ai.mp h).1
  rw[aA] at this;have e:j=xs.length:=by have:j<xs.length+1:=this;lia
  subst e;rw[bC (aB _),fE] at h;cases h;exact .inr ⟨rfl,rfl⟩
theorem CK{n i:Nat}(h:i<n):Xm n (i:Int)=some i:=by
 unfold Xm;rw[aq ∅,aq ∅];simp
section
variable{ns:List Int}{rs:List R5}{live:List Nat}{nd:ns.Nodup}{ok:∀r∈rs,r.Ok ns.length}{hl:∀k∈live,k<rs.length}
theorem ady{k:Nat}(h:k<rs.length):(aZ ns rs live nd ok hl).c k=rs[k].c:=by
 show ((rs[k]?).map λr=>r.c).getD 0=_;rw[aa h];rfl
end
end TW
namespace TW
open PySem L2 PyProof.Rows
theorem b4{a b:TS}{D:Ends}{e:L2.St}{H:Hp}(h:∀N:L2.St->Hp->Prop,(∀c d,b D c d->N c d)->a {D with nx:=N} e H):Uk a b D e H:=h _ λ_ _ x=>x
theorem Lg{K:af}{H:Hp}{Q:VK}{p:Addr}{xs:List V}{i:Int}{v:V}(h:bQ K H p xs)(e:FG xs i=some v)(k:Q v H):Sf K (.ref p) (.int i) H Q:=⟨p,xs,i,v,rfl,rfl,h,e,k⟩
theorem XH{K:af}{a:L2.St}{H:Hp}{Q:VK}{p:Addr}{xs:List V}{i:Int}{v:V}(h:c7 K H p xs)(e:FG xs i=some v)(k:Q v H):tC (.int i) a H λy b=>Sg K (.ref p) y b Q:=⟨p,xs,i,v,rfl,rfl,h,e,k⟩
theorem um{c:TT}{t u r:TS}{D:Ends}{a:L2.St}{H:Hp}(J:L2.St->Hp->Prop)(b:∀a H,J a H->r D a H)(h:∀N:L2.St->Hp->Prop,(∀a H,J a H->N a H)->R7 c t u {D with nx:=N} a H):Uk (R7 c t u) r D a H:=h _ b
theorem GK{lo:Int}{n:Nat}{g:TG}{h:TS}{D:Ends}{a:L2.St}{H:Hp}(e:Nat->L2.St->Hp->Prop)(l:e 0 a H)
 (hs:∀i a H (N:L2.St->Hp->Prop),(∀b c,e (i+1) b c->N b c)->i<n->e i a H->g (.int (lo+i)) a H λd f=>h {D with nx:=N,ct:=N,bk:=D.nx} d f) (o:∀a H,e n a H->D.nx a H) :
 ∃W:Nat->Nat->L2.St->Hp->Prop,(∃m,W 0 m a H)/\∀i m a H,W i m a H ->
  ((Ut lo n).stop i H/\D.nx a H)∨((Ut lo n).go i H/\∃N:L2.St->Hp->Prop,(∀b c,N b c->∃j,j<m/\W (i+1) j b c)/\∀x c,(Ut lo n).K0 i H x c->g x a c λd f=>h {D with nx:=N,ct:=N,bk:=D.nx} d f) :=
 vN e l (λi a H k p=>hs i a H _ (λ_ _ x=>x) k p) o
theorem JR{K:af}{a:Addr}{xs:List V}{g:TG}{j:TS}{D:Ends}{b:L2.St}{H:Hp}(f:Nat->L2.St->Hp->Prop)(n:f 0 b H)(hl:∀i b H,i<=xs.length->f i b H->bQ K H a xs)
 (hs:∀i x b H (N:L2.St->Hp->Prop),(∀c d,f (i+1) c d->N c d)->xs[i]?=some x->f i b H->g x b H λe h=>j {D with nx:=N,ct:=N,bk:=D.nx} e h) (o:∀b H,f xs.length b H->D.nx b H) :
 ∃W:Nat->Nat->L2.St->Hp->Prop,(∃m,W 0 m b H)/\∀i m b H,W i m b H ->
  ((K1 K a).stop i H/\D.nx b H)∨((K1 K a).go i H/\∃N:L2.St->Hp->Prop,(∀c d,N c d->∃k,k<m/\W (i+1) k c d)/\∀x d,(K1 K a).K0 i H x d->g x b d λe h=>j {D with nx:=N,ct:=N,bk:=D.nx} e h) :=
 vM f n hl (λi x b H l p=>hs i x b H _ (λ_ _ x=>x) l p) o
end TW
namespace TW
open PySem L2 PyProof.Rows
open RM (cU ku bh bg)
seal L2.PE L2.PA L2.PT L2.PW L2.PS L2.iR L2.PG L2.lB L2.PI L2.lD
section
open Classical
noncomputable def zf(N:RM.Net)(R:Nat->RM.Row)(h:Nat):Option (Nat×Nat) :=
 if e:∃p:Nat×Nat,RM.ow N R p.1 h p.2 then some (choose e) else none
end
theorem uo{N:RM.Net}{R:Nat->RM.Row}{h k g:Nat}:zf N R h=some (k,g)↔RM.ow N R k h g:=by
 unfold zf;constructor
 ·intro e
  split at e
  ·rename_i q
   have:=Classical.choose_spec q
   rw[aI e] at this;exact this
  ·cases e
 ·intro t
  have q:∃p:Nat×Nat,RM.ow N R p.1 h p.2:=⟨(k,g),t⟩;rw[dif_pos q];have u:=Classical.choose_spec q;obtain⟨a,b⟩:=u.uniq t;exact er some (Prod.ext a b)
theorem MS{N:RM.Net}{R:Nat->RM.Row}{h:Nat}(q:∀k g,¬RM.ow N R k h g):zf N R h=none:=by
 cases e:zf N R h with
 |none=>rfl
 |some p=>exact b5 (uo.mp e) (q p.1 p.2)
def uL(K:af)(H:Hp)(v:V):Option (Nat×Nat)->Prop
 |none=>v=.fM
 |some p=>∃t,v=.ref t/\c7 K H t [.int (p.1:Nat),.int (p.2:Nat)]
theorem uL.mono{K:af}{H a:Hp}{v:V}{o:Option (Nat×Nat)}(s:aH H a)(h:uL K H v o):uL K a v o:=by
 cases o with
 |none=>exact h
 |some p =>
  obtain⟨t,e,q⟩:=h;exact⟨t,e,s.eK q⟩
theorem uL.lst{K:af}{H:Hp}{v:V}{o:Option (Nat×Nat)}{l:Addr}{xs:List V}{ob:HO}(hl:H l=some (.lst xs))(h:uL K H v o):uL K (upd H l ob) v o:=by
 cases o with
 |none=>exact h
 |some p =>
  obtain⟨t,e,q⟩:=h;exact⟨t,e,XD hl q⟩
def aaR(K:af)(H:Hp)(l:Addr)(n:Nat)(u:Nat->Option (Nat×Nat)):Prop:=∃vs:List V,H l=some (.lst vs)/\vs.length=n/\∀(i:Nat) v,vs[i]?=some v->uL K H v (u i)
section
variable{ns:List Int}{rs:List R5}{live:List Nat}{nd:ns.Nodup}{ok:∀r∈rs,r.Ok ns.length}{hl:∀k∈live,k<rs.length}
theorem Vf{R:Nat->RM.Row}{k h:Nat}(a:k∈live):(∃g,RM.ow (aZ ns rs live nd ok hl) R k h g)↔isAt rs (h:Int) k=true/\(R (fQ (rs[k]'(hl k a)) h)).ho+1<ns.length/\R h=RM.over (aZ ns rs live nd ok hl) k (R (fQ (rs[k]'(hl k a)) h)):=by
 constructor
 ·rintro⟨g,t⟩
  obtain⟨b,c⟩:=(uh a).mp t.pY;subst c;exact⟨b,t.cut,t.eq⟩
 ·rintro⟨b,c,d⟩
  exact⟨_,(uh a).mpr ⟨b,rfl⟩,c,d⟩
theorem aaS{R:Nat->RM.Row}{k h g:Nat}(t:RM.ow (aZ ns rs live nd ok hl) R k h g):g=fQ (rs[k]'(hl k t.pY.1)) h:=((uh t.pY.1).mp t.pY).2
theorem Pe{k h:Nat}(a:k<rs.length)(ok:∀r∈rs,r.Ok ns.length):fQ rs[k] h<ns.length:=by
 have o:=ok _ (aM a);have c:=o.a0;have b:=o.a1;have d:=o.b0;have e:=o.b1;unfold fQ;split <;> lia
theorem QU{k h:Nat}(c:k<rs.length)(ok:∀r∈rs,r.Ok ns.length):(if (h:Int)=rs[k].a then rs[k].b else rs[k].a)=((fQ rs[k] h:Nat):Int):=by
 have o:=ok _ (aM c);have e:=o.a0;have d:=o.b0;unfold fQ;split <;> lia
end
theorem ag4{x y z i:Int}(lo a:Int)(d:lo<=x/\x<=a)(b:lo<=y/\y<=a)(c:lo<=z/\z<=a)(e:0<=i)(f:i<3):∃w,(lo<=w/\w<=a)/\FG [V.int x,V.int y,V.int z] i=some (.int w):=by
 have:i=0∨i=1∨i=2:=∅
 rcases this with rfl|rfl|rfl
 ·exact⟨x,d,rfl⟩
 ·exact⟨y,b,rfl⟩
 ·exact⟨z,c,rfl⟩
theorem XI(xs:List Nat):Mn .fM (bM xs)=false:=by
 unfold Mn;rw[Bool.eq_false_iff];intro h;obtain⟨x,a,e⟩:=wX.mp h;obtain⟨y,_,rfl⟩:=aP.mp a;cases e
end TW
namespace L2
open PySem PySem.Spec PyProof.Rows
theorem Lh{us:List Value}{ns:List Int}(h:IntsAre us ns):cD (ns.map V.int) us:=by
 induction h with
 |nil=>exact .nil
 |cons n t _ a=>exact .cons ⟨t,rfl⟩ a
section
variable{X:Cx}
def XJ(K:af):List V->Hp->VK->Prop:=λxs H Q=>∃(a:Addr) (ns:List Int),xs=[.ref a]/\bQ K H a (ns.map V.int)/\ns.length<64/\∀l (ns':List Int),H l=none->ns'.Perm ns->ns'.Pairwise (·<=·)->Q (.ref l) (upd H l (.lst (ns'.map V.int)))
theorem EW:ue X (.builtin "sorted") (XJ X.K):=by
 intro g s w H y z Q I r ⟨a,n,e,t,m,q⟩;subst e;obtain⟨u,e,k⟩:=cD.one r;subst e;cases k;obtain⟨c,i,p,x⟩:=I.list t;have f:IntsAre c n:=intsAre_of i;have h:=IntsAre.length f;refine sorted_ints (vs:=c) p.isList f ∅ λout d j a2 l=>?_;obtain⟨e,v⟩:=sortedAll_at s.heap c out;refine⟨.ref (s.heap.objs.size+1),_,I.laid (a:=s.heap.objs.size+1) (o:=.lst (d.map V.int)) (t':=s.toks) (λb o e=>sortedAll_old e) (dU _) ⟨?_,out.toList,e,Lh j,?_⟩,rfl,q _ d (I.hok.fresh (dU _)) a2 l⟩
 ·rw[ah,a2.length_eq]
  exact mP (cP ∅)
 ·rw[v]
end
end L2
namespace TW
open PySem L2 PyProof.Rows
open RM (cU ku bh bg)
seal L2.PE L2.PA L2.PT L2.PW L2.PS L2.iR L2.PG L2.lB L2.PI L2.lD
theorem JS:∀{xs b:List Nat},xs.Pairwise (·<·)->b.Pairwise (·<·)->(∀k,k∈xs↔k∈b)->xs=b
 |[],[],_,_,_=>rfl
 |[],y::b,_,_,h=>b5 ((h y).mpr ck) (-_)
 |x::xs,[],_,_,h=>b5 ((h x).mp ck) (-_)
 |x::xs,y::b,f,d,h=>by
  have c:=r6.mp f;have a:=r6.mp d;have e:x=y:=by
   rcases be.mp ((h x).mp ck) with z|z
   ·exact z
   ·rcases be.mp ((h y).mpr ck) with w|w
    ·exact w.symm
    ·have:=a.1 x z
     have:=c.1 y w
     lia
  subst e;rw[JS c.2 a.2 λk=>?_];constructor
  ·intro z
   rcases be.mp ((h k).mp (bw _ z)) with w|w
   ·have:=c.1 k z;lia
   ·exact w
  ·intro z
   rcases be.mp ((h k).mpr (bw _ z)) with w|w
   ·have:=a.1 k z;lia
   ·exact w
theorem ow.lt{N:RM.Net}{R:Nat->RM.Row}{k h g:Nat}(t:RM.ow N R k h g):h<N.n/\g<N.n:=⟨t.pY.lt.1,t.pY.lt.2.1⟩
def c8(N:RM.Net)(R:Nat->RM.Row)(os:List Nat):Prop:=os.Pairwise (·<·)/\∀k,k∈os↔∃h g,RM.ow N R k h g
theorem c8.uniq{N:RM.Net}{R:Nat->RM.Row}{xs c:List Nat}(a:c8 N R xs)(b:c8 N R c):xs=c:=JS a.1 b.1 λk=>(a.2 k).trans (b.2 k).symm
theorem MT{d:List Nat}{c:List Int}(p:c.Perm (d.map λk:Nat=>(k:Int)))(s:c.Pairwise (·<=·))(nd:d.Nodup):∃os:List Nat,c.map V.int=bM os/\os.Pairwise (·<·)/\(∀k,k∈os↔k∈d)/\os.length=d.length:=by
 have j:∀m∈c,∃k:Nat,m=(k:Int)/\k∈d:=λm f=>by
  obtain⟨k,i,e⟩:=aP.mp (p.mem_iff.mp f);exact⟨k,e.symm,i⟩
 have q:(c.map Int.toNat).map (λk:Nat=>(k:Int))=c:=by
  rw[cX]
  conv=>rhs;rw[<- List.map_id c]
  apply cK;intro m f;obtain⟨k,e,_⟩:=j m f;rw[e];rfl
 have l:c.Nodup:=by
  refine p.nodup_iff.mpr ?_;unfold List.Nodup;rw[List.pairwise_map];exact nd.imp λh e=>h ∅
 refine⟨c.map Int.toNat,?_,?_,λk=>?_,by rw[ah,p.length_eq,ah]⟩
 ·rw[iX,q]
 ·rw[List.pairwise_map]
  have g:=List.pairwise_and_iff.mpr ⟨s,l⟩;refine List.Pairwise.imp_of_mem (λ{a b} r t h=>?_) g;obtain⟨x,u,_⟩:=j a r;obtain⟨y,n,_⟩:=j b t;have v:=h.1;have w:=h.2;lia
 ·constructor
  ·intro i
   obtain⟨m,f,e⟩:=aP.mp i;obtain⟨y,n,o⟩:=j m f;rw[n] at e
   have:y=k:=by rw[<- e];rfl
   exact this▸o
  ·intro i
   have:((k:Nat):Int)∈c:=p.mem_iff.mpr (aP.mpr ⟨k,i,rfl⟩)
   exact aP.mpr ⟨_,this,rfl⟩
end TW
namespace TW
open PySem L2 PyProof.Rows Gr
open RM (cU ku bh bg)
noncomputable def pairOf(rs:List R5)(k:Nat):Int×Int:=match rs[k]? with
 |some r=>(r.a,r.b)
 |none=>(0,0)
noncomputable abbrev mY(rs:List R5)(os:List Nat):Ps:=os.map (pairOf rs)
theorem DM{rs:List R5}{k:Nat}(h:k<rs.length):pairOf rs k=(rs[k].a,rs[k].b):=by
 unfold pairOf;rw[aa h]
theorem MU{n:Nat}{rs:List R5}{os:List Nat}(ok:∀r∈rs,r.Ok n)(h:∀k∈os,k<rs.length):Zj (mY rs os) n:=⟨λi a b e=>by
 rw[ak] at e;cases q:os[i]? with
 |none=>rw[q] at e;cases e
 |some k =>
  rw[q] at e;have c:=h k (aN q);have e:pairOf rs k=(a,b):=aI e;rw[DM c] at e;have o:=ok _ (aM c);have d:rs[k].a=a:=er Prod.fst e;have f:rs[k].b=b:=er Prod.snd e;rw[<- d,<- f];exact⟨o.a0,o.a1,o.b0,o.b1,o.ab⟩⟩
section
variable{ns:List Int}{rs:List R5}{live:List Nat}{nd:ns.Nodup}{ok:∀r∈rs,r.Ok ns.length}{hl:∀k∈live,k<rs.length}
theorem MV{R:Nat->RM.Row}{os:List Nat}(O:c8 (aZ ns rs live nd ok hl) R os):∀k∈os,k<rs.length:=λk a=>by
 obtain⟨h,g,t⟩:=(O.2 k).mp a;exact hl k t.pY.1
end
theorem Li{M:List Int}{x:Int}(b:0<=x)(a:x<M.length):FG (M.map V.int) x=some (.int (iA M x)):=MJ b a
theorem o8{M:List Int}{i:Nat}{x:Int}(e:M[i]?=some x):(M.take (i+1)).map V.int=(M.take i).map V.int++[.int x]:=by rw[List.take_succ,e,aS];rfl
end TW
namespace L2
open PySem PySem.Calls PySem.Spec PyProof.Rows PyProof.V PySem.W
end L2
namespace Gr
end Gr
namespace TW
open PySem L2 PyProof.Rows Gr
end TW
namespace L2
open PySem PySem.Calls PySem.Spec PyProof.Rows PyProof.V PySem.W
end L2
namespace TW
open PySem L2 PyProof.Rows Gr
end TW
namespace TW
open PySem L2 PyProof.Rows
noncomputable def stand(b:List Bool):List Nat:=(az b.length).filter λk=>b.getD k false
theorem JT{b:List Bool}{k:Nat}:k∈stand b↔b[k]?=some true:=by
 unfold stand;rw[bq,c5,au];constructor
 ·rintro⟨a,c⟩
  rw[aa a] at c ⊢
  simpa using c
 ·intro h
  have a:=(ai.mp h).1;exact⟨a,by rw[h];rfl⟩
theorem Pf(b:List Bool):(stand b).Pairwise (·<·):=List.Pairwise.filter _ List.pairwise_lt_range
theorem MW:∀{xs a:List Nat},xs.Pairwise (·<·)->a.Pairwise (·<·)->(∀k,k∈xs↔k∈a)->xs=a
 |[],[],_,_,_=>rfl
 |[],y::a,_,_,h=>b5 ((h y).mpr (-_)) (-_)
 |x::xs,[],_,_,h=>b5 ((h x).mp (-_)) (-_)
 |x::xs,y::a,d,c,h=>by
  rw[r6] at d c;have e:x=y:=by
   have h1:=(h x).mp (-_);have h2:=(h y).mpr (-_);rw[be] at h1 h2;rcases h1 with h1|h1
   ·exact h1
   ·rcases h2 with h2|h2
    ·exact h2.symm
    ·have:=d.1 _ h2
     have:=c.1 _ h1
     lia
  subst e;rw[MW d.2 c.2 λk=>?_];constructor
  ·intro b
   rcases be.mp ((h k).mp (bw _ b)) with rfl|z
   ·exact b5 (d.1 _ b) (jf _)
   ·exact z
  ·intro b
   rcases be.mp ((h k).mpr (bw _ b)) with rfl|z
   ·exact b5 (c.1 _ b) (jf _)
   ·exact z
theorem Pg(n:Nat):stand (pT n true)=az n:=by
 refine MW (Pf _) List.pairwise_lt_range λj=>?_;rw[JT,List.getElem?_replicate,c5];by_cases h:j<n
 ·simp[h]
 ·simp[h]
def Fit(rs:List R5)(bs:List (List Bool)):Prop:=bs.length=rs.length/\∀(i:Nat) r b,rs[i]?=some r->bs[i]?=some b->(b.length:Int)=r.d
structure QV(C:Addr)(H:Hp)(p tp lu:Addr)(ws:List (List Nat)):Prop where
 ob:∃dx,H p=some (.ins C dx [("town",.ref tp),("upright",.ref lu)])
 up:∃ls:List Addr,H lu=some (.lst (ls.map V.ref))/\ls.length=ws.length/\∀(i:Nat) l w,ls[i]?=some l->ws[i]?=some w->H l=some (.lst (bM w))
section
variable{C:Addr}{H H':Hp}{p tp lu:Addr}{ws:List (List Nat)}
theorem dc.but{K:af}{C r j:Addr}{m:List (Str×V)}{tp e c:Addr}{ns:List Int}{rs:List R5}(h:dc K C H tp e c ns rs)(k:∀b o,H b=some o->b≠p->H' b=some o)(a:H p=some (.ins r j m))(i:tp≠p):dc K C H' tp e c ns rs:=by
 obtain⟨⟨d,l⟩,f,n,g,q⟩:=h;exact⟨⟨d,k _ _ l i⟩,k _ _ f (vJ f a (by intro z;cases z)),n,k _ _ g (vJ g a (by intro z;cases z)),jW k a q⟩
end
end TW
namespace L2
open PySem PySem.Spec PyProof.Rows
section
variable{X:Cx}
theorem SJ(K:af)(f:X.K=K){a:Expr}{c:TE}(d:PE X a c)(e:∀b,isTrue a X.env b=(do let v <- b;standAt a.pos;holding [v] (truthy v))):PT X a (U5 K c):=by
 subst f;exact Sy d e
end
end L2
namespace TW
open PySem L2 PyProof.Rows
noncomputable def QW(e:Int)(g:Nat):Bool:=decide (e/2^g%2=1)
theorem Vg{e z:Int}{g:Nat}(f:1<=e)(d:e<=7)(a:([1,2,4]:List Int)[g]?=some z):(!decide (Builtin.bitAnd e z=0))=QW e g:=by
 have b:g=0∨g=1∨g=2:=by
  have:=(ai.mp a).1
  simp at this;lia
 have c:e=1∨e=2∨e=3∨e=4∨e=5∨e=6∨e=7:=∅
 rcases b with rfl|rfl|rfl <;> cases a <;> rcases c with rfl|rfl|rfl|rfl|rfl|rfl|rfl <;> decide +kernel
theorem ag5{g:Nat}(h:g<3):∃z,([1,2,4]:List Int)[g]?=some z:=⟨_,aa (by simpa using h)⟩
noncomputable def isLive(rs:List R5)(ws:List (List Nat))(g i:Nat):Bool:=match rs[i]?,ws[i]? with|some r,some w=>(!w.isEmpty)&&QW r.e g|_,_=>false
noncomputable def zg(rs:List R5)(ws:List (List Nat))(g n:Nat):List Nat:=(az n).filter (isLive rs ws g)
theorem zh(rs:List R5)(a:List (List Nat))(g n:Nat):zg rs a g (n+1)=zg rs a g n++(if isLive rs a g n=true then [n] else []):=by
 unfold zg;rw[iF,fP];congr 1;by_cases h:isLive rs a g n=true
 ·rw[aq h,eB,aq h];rfl
 ·rw[b3 h,eB,b3 h];rfl
theorem Ph(rs:List R5)(a:List (List Nat))(g n:Nat):(zg rs a g n).length<=n:=by
 have:=bY (isLive rs a g) (az n)
 rw[bG] at this;exact this
end TW
namespace L2
open PySem PySem.Spec PyProof.Rows
structure Zo(K:af)(C:Addr)(m:Str)(f:Addr):Prop where
 hg:PySem.W.specialIn K (.ref C) "__getattribute__" = some (some (.builtin "type.__getattribute__"))
 hr:PySem.W.readsIn K C (.type "type")=true
 md:PySem.W.findCls K (.ref C) (.type "type") m=some (.val (.ref f))
 kp:d9 K (.ref f)=true
section
variable{X:Cx}
theorem DN{e:Expr}{t u:TE}(d:PE X e t)(c:PE X e u):PE X e (λb H Q=>t b H Q∨u b H Q):=λa s b H Q I h=>h.elim (d a s b H Q I) (c a s b H Q I)
end
def adz(C:Addr)(sp:Sp)(BA:List V)(E:XK)(ta:TE)(t:TA):TE:=λσ H Q=>ta σ H λx H1=>x=.ref C/\t σ H1 λvs H2=>sp (vs++BA) H2 Q E
section
variable{X:Cx}{CX:Sd}{k:Nat}{f C:Addr}{fd:FuncData}{ps:List Str}{sp:Sp}{BA:List V}{ds:List Value}{E:XK}{x m:Str}{p pos apos:Pos}{e o:Expr}{es:List Expr}{ta:TE}{t:TA}
theorem Pj{pl:Sem Bool}(N:PE X o ta)(c:Zo X.K C m f)
 (F:cE X.prog X.w X.K X.mg X.base CX k f fd ps sp) (hr:jT k X.A) (L:Binds X.K fd ps ds) (p:cD BA ds) (B:sj CX X E) (D:PA X (e::es) t)
 (b:starEach (e::es) X.env=(false,eval e X.env)::starEach es X.env:=by rfl) (g:(backTo pos (starEach es X.env)).any (·.1)=false:=by rfl)
 (J:eval (.Call (.Attribute o m apos) (e::es) [] pos) X.env=(do
  let j <- eval o X.env
  standAt apos.atName
  let (f,first) <- holding [j] (getMethod j m pl)
  callWith pos f first (backTo pos (starEach (e::es) X.env)) (backToKw pos (keywordEach [] X.env))):=by rfl) :
 PE X (.Call (.Attribute o m apos) (e::es) [] pos) (adz C sp BA E ta t):=by
 intro a s i H Q I h;refine PySem.W.methodCall_KW (pl:=pl) (gV (N a s i H _ I h) λu v ⟨x,y,d,M,n,q⟩=>?_) J;subst n;obtain rfl:u=Value.ref C:=M;refine PySem.W.method_cls d.Mm c.hg (PySem.W.cls_value d.Mm c.hr c.md rfl ?_);have G:=d.tok (v.toks+1);refine PySem.W.callWith_K (first:=[]) (h₀:=X.base) I.ok.mod.Z9 c.kp (gV (D pos a _ i y _ G q) λus P ⟨vs,O,l,r,z⟩=>⟨l.Mm,?_⟩) b g;exact K5 (us:=us) (vs:=vs) F hr L p B l r z
end
end L2
namespace TW
open PySem L2 PyProof.Rows
theorem JU{b:Bool}{A B:Prop}(e:b=false)(h:B):if b=true then A else B:=by subst e;exact gD h
theorem adA{b:Bool}{A B:Prop}(e:b=true)(h:A):if b=true then A else B:=by subst e;exact iC h
inductive EX(cL c1 cA:Addr)(H:Hp)(a:Addr)(s to:Int):Int->Prop
 |bare (dx:Addr) (h:H a=some (.ins cL dx [("sender",.int s)])):EX cL c1 cA H a s to 0
 |one (dx:Addr) (h:H a=some (.ins c1 dx [("sender",.int s),("to",.int to)])):EX cL c1 cA H a s to 1
 |all (dx:Addr) (h:H a=some (.ins cA dx [("sender",.int s)])):EX cL c1 cA H a s to 2
section
variable{cL c1 cA:Addr}{H H':Hp}{a lh q:Addr}{s to k:Int}{xs:List V}
theorem EX.mono(h:EX cL c1 cA H a s to k)(e:aH H H'):EX cL c1 cA H' a s to k:=by
 cases h with
 |bare b h=>exact .bare b (e _ _ h)
 |one b h=>exact .one b (e _ _ h)
 |all b h=>exact .all b (e _ _ h)
end
end TW
namespace L2
open PySem PySem.W PyProof.Rows
section
variable{n:Nat}{r:Nat->Int}{cmp:Nat->Nat->(Bool->Shared->Prop)->Shared->Prop}{s:Shared}
variable(hc:∀i j C,i<n->j<n->C (decide (r i<r j)) s->cmp i j C s)
include hc
end
end L2
namespace L2
open PySem PySem.W PySem.Spec PyProof.Rows
abbrev T3:=Int×Int×Int
noncomputable def CL(x y:T3):Bool:=decide (x.1<y.1) || (decide (x.1=y.1)&&(decide (x.2.1<y.2.1) || (decide (x.2.1=y.2.1)&&decide (x.2.2<y.2.2))))
theorem xg{x y:T3}:CL x y=true↔x.1<y.1∨(x.1=y.1/\(x.2.1<y.2.1∨(x.2.1=y.2.1/\x.2.2<y.2.2))):=by
 unfold CL;simp[Bool.or_eq_true,dw]
theorem SK{x y z:T3}(a:CL x y=true)(b:CL y z=true):CL x z=true:=by
 rw[xg] at *;lia
theorem XM(x:T3):CL x x=false:=by
 rw[Bool.eq_false_iff];intro z;rw[xg] at z;lia
theorem le3{x y z:T3}(a:CL x y=false)(b:CL z y=true):CL z x=true:=by
 have c:¬CL x y=true:=by rw[a];exact aJ
 rw[xg] at *;lia
noncomputable def EY(ts:List T3)(x:T3):Int:=((ts.filter λz=>CL z x).length:Nat)
theorem filter_le{α:Type}{p q:α->Bool}:∀{l:List α},(∀z,p z=true->q z=true)->(l.filter p).length<=(l.filter q).length
 |[],_=>aB _
 |a::l,h=>by
  have c:=filter_le (l:=l) h;rw[eB,eB];by_cases b:p a=true
  ·rw[aq b,aq (h a b),bE,bE];lia
  ·rw[b3 b]
   split
   ·rw[bE];lia
   ·exact c
theorem filter_lt{α:Type}{p q:α->Bool}{x:α}:∀{l:List α},(∀z,p z=true->q z=true)->x∈l->p x=false->q x=true->(l.filter p).length<(l.filter q).length
 |a::l,h,hx,d,c=>by
  rw[eB,eB];rcases be.mp hx with rfl|hx
  ·rw[b3 (by rw[d];exact aJ),aq c,bE]
   have:=filter_le (l:=l) h
   lia
  ·have e:=filter_lt h hx d c
   by_cases b:p a=true
   ·rw[aq b,aq (h a b),bE,bE];lia
   ·rw[b3 b]
    split
    ·rw[bE];lia
    ·exact e
theorem MX{ts:List T3}{x y:T3}(b:x∈ts):decide (EY ts x<EY ts y)=CL x y:=by
 unfold EY;cases e:CL x y with
 |true =>
  refine cy ?_
  have:=filter_lt (l:=ts) (p:=λz=>CL z x) (q:=λz=>CL z y) (x:=x) (λz a=>SK a e) b (XM x) e
  lia
 |false =>
  refine c6 ?_
  have:=filter_le (l:=ts) (p:=λz=>CL z y) (q:=λz=>CL z x) (λz a=>le3 e a)
  lia
noncomputable abbrev x6(x:T3):List V:=[.int x.1,.int x.2.1,.int x.2.2]
def OI(h:Heap)(v:Value)(x:T3):Prop:=∃(q:Addr) (o:Obj) (n:Nat) (t1 t2 t3:Tok),v=.ref q/\h.get? q=some o/\o.cls=.type "tuple" /\ o.data=.seq #[.int x.1 t1,.int x.2.1 t2,.int x.2.2 t3] n
section
variable{prog:Program}{w:World}{A:Around}{s:Shared}
theorem aaT{E:Value->Shared->Prop}{u v:Value}{x y:T3}{C:Bool->Shared->Prop}(i:OI s.heap u x)(g:OI s.heap v y)(k:C (CL x y) s):wpAny (model prog w) A (keyLt' (tuples' true) u v) C E s:=by
 obtain⟨p,o,n,m,F,B,rfl,f,J,h⟩:=i;obtain⟨q,H,D,r,t,G,rfl,j,I,l⟩:=g;refine kat_lt f h j l ?_;refine kat_cons (wpAny_eqBool_int (kat_go (λa=>kat_yes ?_) λa=>kat_no (oneLt_int ?_)))
 case refine_2 =>
  have d:¬x.1=y.1:=by simpa using a
  have e:CL x y=decide (x.1<y.1):=by unfold CL;rw[c6 d];simp
  rw[<- e];exact k
 have a:x.1=y.1:=by simpa using a
 refine kat_cons (wpAny_eqBool_int (kat_go (λb=>kat_yes ?_) λb=>kat_no (kat_one _ _ (lt_int ?_))))
 case refine_2 =>
  have d:¬x.2.1=y.2.1:=by simpa using b
  have e:CL x y=decide (x.2.1<y.2.1):=by rw[jR,xg,decide_eq_true_eq];lia
  rw[<- e];exact k
 have b:x.2.1=y.2.1:=by simpa using b
 refine kat_cons (wpAny_eqBool_int (kat_go (λc=>kat_yes (kat_nil ?_)) λc=>kat_no (kat_one _ _ (lt_int ?_))))
 ·have c:x.2.2=y.2.2:=by simpa using c
  have e:CL x y=false:=by
   rw[Bool.eq_false_iff];intro z;rw[xg] at z;lia
  rw[e] at k;exact k
 ·have e:CL x y=decide (x.2.2<y.2.2):=by rw[jR,xg,decide_eq_true_eq];lia
  rw[<- e];exact k
theorem GL{h:Heap}:∀{vs:List Value} {ts:List T3},vs.length=ts.length->(∀(i:Nat) v x,vs[i]?=some v->ts[i]?=some x->OI h v x)->∃d,KatTups h vs d/\d.length=vs.length/\∀f∈d,∃i t,f=Value.int i t
 |[],[],_,_=>⟨[],trivial,rfl,λ_ hf=>b5 hf (-_)⟩
 |v::vs,x::ts,hl,h=>by
  obtain⟨d,a,b,c⟩:=GL (vs:=vs) (ts:=ts) (by simpa using hl) λi v x l j=>h (i+1) v x (by simpa using l) (by simpa using j);obtain⟨q,o,n,e,r,p,rfl,g,m,k⟩:=h 0 v x rfl rfl;refine⟨.int x.1 e::d,KatTups.cons g m k rfl a,by simp[b],λf hf=>?_⟩;rcases be.mp hf with rfl|hf
  ·exact⟨_,_,rfl⟩
  ·exact c f hf
end
section
variable{prog:Program}{w:World}{A:Around}{s:Shared}{E:Value->Shared->Prop}
theorem Vh{d:Addr}{v:Value}{c:Nat}{P:PySem.Fin->Shared->Prop}(a:s.heap.get? d=some (seqObj "list" [v].toArray c))(k:P (.done (.ret .none)) {s with heap:=sortedHeap s.heap d [v] #[v]}) :
 wpAny (model prog w) A (Builtin.«list.sort» ⟨[.ref d],[]⟩) P E s:=by
 have j:d<s.heap.objs.size:=Heap.lt_size a;rw[list_sort_plain];refine wpAny_bind (listItems_at a rfl (wpAny_bind (listUpdate_at a rfl ?_)));have b:∃e,(s.heap.update d (Obj.mapSeq λ_=>#[])).get? d=some (seqObj "list" #[] e):=⟨_,get?_update_seq a (λ_=>#[])⟩;obtain⟨e,b⟩:=b;refine wpAny_bind (seqEpoch_at b rfl (wpAny_bind (wpAny_newTuple (wpAny_bind (wpAny_newList (wpAny_holding ?_))))));have i:(s.heap.update d (Obj.mapSeq λ_=>#[])).objs.size=s.heap.objs.size:=Heap.size_update _ _ _;have h:(((s.heap.update d (Obj.mapSeq λ_=>#[])).push (seqObj "tuple" [v].toArray 0)).push (seqObj "list" #[] 0)).get? d=some (seqObj "list" #[] e) :=
  Heap.get?_push_of_some _ (Heap.get?_push_of_some _ b)
 show wpAny (model prog w) A _ P E {s with heap:=((s.heap.update d (Obj.mapSeq λ_=>#[])).push (seqObj "tuple" [v].toArray 0)).push (seqObj "list" #[] 0)};have f:[v].toArray.size<2:=-_
 have g:(arrOf (SortSt.mk' general' (#[v].zip #[v]) #[] 7 none)).map (·.2)=#[v]:=by
  show (#[v].zip #[v]).map (·.2)=#[v];simp
 dsimp only;rw[aq f,aq f];refine wpAny_bind (wpAny_pure ?_);rw[StateT.run_pure];refine wpAny_bind (wpAny_pure (wpAny_bind (seqEpoch_at h rfl (wpAny_bind (listUpdate_at h rfl ?_ (hsz2:=?_))))))
 ·simp only[bne_self_eq_false,Bool.false_eq_true,if_false]
  refine wpAny_pure ?_;rw[g];exact k
 ·show ((arrOf (SortSt.mk' general' (#[v].zip #[v]) #[] 7 none)).map (·.2)).size<=sizeLine+1
  rw[g];show 1<=sizeLine+1;exact Nat.le_add_left _ _
theorem Pk{l:Addr}{v:Value}{Q:Value->Shared->Prop}(hl:s.heap.IsList l [v].toArray)(k:Q (.ref (s.heap.objs.size+1)) {s with heap:=sortedAll s.heap [v] #[v]}):wpAny (model prog w) A (call (.builtin "sorted") [.ref l]) Q E s:=by
 refine Calls.call_function_entry kind_sorted plain_sorted entry_sorted (args_sorted1 _) ?_;unfold Builtin.«sorted»;refine wpAny_bind (m:=checkCount "sorted" 1 1 _) (wpAny_pure (wpAny_bind (collect_list hl (wpAny_bind (wpAny_newList ?_)))));have b:((s.heap.push (seqObj "list" #[] 0)).update s.heap.objs.size (Obj.mapSeq (·++[v].toArray))).objs.size=s.heap.objs.size+1:=(Heap.size_update _ _ _).trans (size_push' _ _);have a:(((s.heap.push (seqObj "list" #[] 0)).update s.heap.objs.size (Obj.mapSeq (·++[v].toArray))).push (seqObj "list" [v].toArray 0)).get? (s.heap.objs.size+1)=some (seqObj "list" [v].toArray 0):=b▸Heap.get?_push_size _ rfl;show wpAny _ _ _ _ _ {s with heap:=((s.heap.push (seqObj "list" #[] 0)).update s.heap.objs.size (Obj.mapSeq (·++[v].toArray))).push (seqObj "list" [v].toArray 0)};rw[b];exact wpAny_bind (wpAny_holding (wpAny_call_entry slot_list_sort ⟨_,a,rfl⟩ entry_list_sort (Vh a ⟨_,rfl,wpAny_pure ⟨_,rfl,k⟩⟩) (args_list_sort _)))
end
def gX(K:af)(H:Hp)(qs:List Addr)(ts:List T3):Prop:=qs.length=ts.length/\∀(i:Nat) q t,qs[i]?=some q->ts[i]?=some t->c7 K H q (x6 t)
theorem gX.mono{K:af}{H c:Hp}{qs:List Addr}{ts:List T3}(s:aH H c)(h:gX K H qs ts):gX K c qs ts:=⟨h.1,λi q t a b=>s.eK (h.2 i q t a b)⟩
def pq(ts:List T3):Prop:=∀(i j:Nat) (x y:T3),i<j->ts[i]?=some x->ts[j]?=some y->CL y x=false
section
variable{X:Cx}
theorem QX:∀{qs:List Addr} {a:List Value},cD (qs.map V.ref) a->a=qs.map Value.ref
 |[],_,r=>by cases r;rfl
 |q::qs,_,r=>by
  cases r with
  |cons h t =>
   have h:_=Value.ref q:=h;rw[h,QX t];rfl
theorem JV:∀qs:List Addr,cD (qs.map V.ref) (qs.map Value.ref)
 |[]=>.nil
 |q::qs=>.cons rfl (JV qs)
end
section
variable{X:Cx}{pins:List (Addr×Obj)}{σ:St}{H:Hp}{s:Shared}
theorem Inv.ag6{d:Addr}{o:Obj}{u:HO}(I:Inv X pins σ H s)(m:H d=some (.Ct o u))(B:∀f h,X.H₀ d≠some (.Ct f h)):Inv X pins σ (upd H d u) s:=by
 have l:∀b v,H b=some v->(∀f h,v≠.Ct f h)->b≠d:=λb v e D z=>by
  rw[z,m] at e;cases e;exact D _ _ rfl
 have k:∀b,H b=none->(upd H d u) b=none:=λb e=>by
  rw[aK (λz=>by rw[z,m] at e;cases e)];exact e
 have w:∀b y,H b=some (.own y)->(upd H d u) b=some (.own y):=λb y e=>by rw[aK (l b _ e (by intro _ _ z;cases z))];exact e
 have t:∀b g,H b=some (.tup g)->(upd H d u) b=some (.tup g):=λb g e=>by rw[aK (l b _ e (by intro _ _ z;cases z))];exact e
 refine⟨I.ok,I.os,I.bare,⟨I.base.keep,I.base.slot,λb f e n E=>k b (I.base.free b f e n E),I.base.there,λb g e=>t b g (I.base.tups b g e),λb f h e=>?_,λb C e=>?_⟩,I.loc,I.cell,k _ I.free,λx c e=>k c (I.ud x c e),λp F=>?_,λb v e=>?_,I.len⟩
 ·have j:=I.base.AW b f h e
  rw[aK (λz=>B f h (by rw[<- z];exact e))];exact j
 ·obtain⟨i,j⟩:=I.base.Cv b C e
  exact⟨i,by rw[aK (l b _ j (by intro _ _ z;cases z))];exact j⟩
 ·obtain⟨a,b,c⟩:=I.pin p F
  exact⟨a,k _ b,c⟩
 ·by_cases A:b=d
  ·subst A
   rw[aC] at e;cases e;obtain⟨_,q⟩:=I.hok b _ m;exact q.stay (λc v _ r=>r) (λc r=>w c _ r) t
  ·rw[aK A] at e
   exact (I.hok b v e).stay (λc v _ r=>r) (λc r=>w c _ r) t
def adB(t:TE):TE:=λσ H Q=>∃d kvs,H d=some (.dT kvs)/\t σ H λv H1=>∃o,H1 d=some (.Ct o (.dT kvs))/\Q v (upd H1 d (.dT kvs))
theorem XN{e:Expr}{t:TE}(h:PE X e t):PE X e (adB t):=by
 intro pins s σ H Q I ⟨d,a,b,q⟩;refine gV (h pins s σ H _ I q) λv l ⟨x,m,k,c,o,f,g⟩=>⟨x,_,k.ag6 f (λj i z=>?_),c,g⟩
 have:=I.base.AW d j i z
 rw[b] at this;cases this
end
section
variable{prog:Program}{w:World}{A:Around}{E:Value->Shared->Prop}{s:Shared}{d v it:Addr}{od:Obj}{es:Array DictEntry}{ep:Nat}
theorem Po{Q:Value->Shared->Prop}(lo:(d==sysModules)=false)(c:s.heap.get? d=some od)(b:od.ExactDict)(e:od.data=.dict es ep)
 (k:Q (.ref s.heap.objs.size) {s with heap:=s.heap.push {cls:=.type "dict_items",data:=.fields #[.ref d]}}):wpAny (model prog w) A (call (.builtin "dict.items") [.ref d]) Q E s:=by
 have a:s.TypeIs (.ref d) "dict" := ⟨od,c,b.1⟩;refine wpAny_call_entry F.slot_dict_items a F.entry_dict_items ?_ (F.args_dict_items_1 _);unfold Builtin.«dict.items» Builtin.Dict.noArgs Builtin.Dict.showsAll;refine wpAny_bind (wpAny_bind (wpAny_notOrdered_dict a (wpAny_pure ?_)));rw[b3 (by rw[lo];exact aJ)];exact wpAny_bind (wpAny_pure (wpAny_bind (wpAny_newObj_type (wpAny_pure ⟨_,rfl,k⟩))))
theorem Pp{Q:Value->Shared->Prop}(a:s.heap.IsItemsView v d)(b:s.heap.get? d=some od)(c:od.data=.dict es ep)
 (k:Q (.ref s.heap.objs.size) {s with heap:=s.heap.push {cls:=.type "dict_itemiterator",data:=.fields #[.none,.bool false,.ref d,.int 0 0,.int es.size 0,.int ep 0,.none,.none]}}):wpAny (model prog w) A (pyIter (.ref v)) Q E s:=by
 obtain⟨h,e,g,f⟩:=id a;have own:Builtin.Dict_items.ownsTuple "dict_itemiterator" = true:=!_
 refine wpAny_pyIter_slot a.typeIs F.slot_dict_items_iter (wpAny_call_entry F.slot_dict_items_iter a.typeIs F.entry_dict_items_iter ?_ (F.args_dict_items_iter_1 _));unfold Builtin.«dict_items.__iter__» Builtin.Dict_items.dictOf Builtin.Dict_items.newIterator;refine wpAny_bind (wpAny_pure (wpAny_bind (wpAny_bind (wpAny_field e f (x:=.ref d) rfl (wpAny_pure (wpAny_bind (wpAny_bind (wpAny_dictEntries b c (wpAny_bind (wpAny_dictEpoch b c ?_))))))))));simp only[own,if_true];refine wpAny_newObj_type (wpAny_pure ⟨_,rfl,"dict_itemiterator",_,⟨_,Heap.get?_push_size _ rfl,rfl⟩,F.slot_dict_itemiterator_next.lookup,?_⟩) ?_
 ·simpa [rawInt,Builtin.Dict_items.ownedTupleFields] using k
 ·simp[sizeOk,Builtin.Dict_items.ownedTupleFields,sizeLine_eq]
theorem Pq{i:Nat}{a:DictEntry}{ok p:Value}{Q:Option Value->Shared->Prop}(v:IsItemIter s.heap it d i es.size ep ok p)(U:s.heap.get? d=some od)(h3:od.data=.dict es ep)(Z:es[i]?=some a)
 (k:∀h',IsItemIterOut h' it d (i+1) es.size ep a.key a.val s.heap.objs.size->h'.get? s.heap.objs.size=some {cls:=.type "tuple",data:=.seq #[a.key,a.val]}->h'.objs.size=s.heap.objs.size+1 ->
  (∀b o,b≠it->s.heap.get? b=some o->h'.get? b=some o)->Q (some (.ref s.heap.objs.size)) {s with heap:=h'}):wpAny (model prog w) A (pyNext (.ref it)) Q E s:=by
 obtain⟨h,g,l,u,os⟩:=s;have r:Shared.TypeIs ⟨h,g,l,u,os⟩ (.ref it) "dict_itemiterator" := ⟨_,v,rfl⟩;have own:Builtin.Dict_items.ownsTuple "dict_itemiterator" = true:=!_
 obtain⟨hlt,hen⟩:=iW.mp Z;unfold pyNext;refine wpAny_bind (wpAny_attempt (wpAny_callSpecial?_slot (name:=Str.ofString "__next__") r F.slot_dict_itemiterator_next (wpAny_call_entry F.slot_dict_itemiterator_next r F.entry_dict_itemiterator_next ?_ (F.args_dict_itemiterator_next_1 _))));refine wpAny_bind (wpAny_pure (wpAny_bind (wpAny_bind (wpAny_bind (wpAny_typeNameOfWhole_itemiter r (wpAny_pure (wpAny_bind (wpAny_fieldsOf v rfl ?_))))))));simp only[own,if_true];have nn:¬(Value.ref d==Value.none)=true:=aJ;have H:¬(i:Int)<0:=∅
 show wpAny (model prog w) A.in1 (if (Value.ref d==Value.none)=true then _ else _) _ _ _;rw[b3 nn];refine wpAny_bind (wpAny_pure (wpAny_bind (wpAny_dictEntries U h3 ?_)));rw[b3 (-_)];refine wpAny_bind (wpAny_pure (wpAny_bind (wpAny_dictEpoch U h3 ?_)));rw[b3 (-_)];refine wpAny_pure ?_;simp only[H,if_false,cZ,Z];refine wpAny_bind (wpAny_bind (wpAny_typeNameOfWhole_itemiter r (wpAny_pure (wpAny_bind (wpAny_isOneOf_itemiter r ?_)))));have t0:(rawInt ((i:Int)+1))=Value.int ((i+1:Nat):Int) 0:=by
  show Value.int ((i:Int)+1) 0=_;rw[show ((i+1:Nat):Int)=(i:Int)+1 by lia]
 show wpAny _ _ (setField (.ref it) 3 (rawInt ((i:Int)+1)) >>= _) _ _ ⟨h,g,l,u,os⟩;rw[t0];refine wpAny_bind (wpAny_setField_rec v (-_) λj z c=>wpAny_bind (wpAny_holding ?_));have z:IsItemIter j it d (i+1) es.size ep ok p:=z;have c:Heap.SameBut it h j:=c;have n:Shared.TypeIs ⟨j,g,l,u,os⟩ (.ref it) "dict_itemiterator" := ⟨_,z,rfl⟩;have D:j.objs.size=h.objs.size:=c.1;have R:it<h.objs.size:=Heap.lt_size v;refine wpAny_bind (wpAny_isOneOf_itemiter n (wpAny_bind (wpAny_isOneOf_itemiter n ?_)));show wpAny _ _ (Builtin.Dict_items.pairFromOwner (.ref it) 6 a.key a.val) _ _ ⟨j,g,l,u,os⟩;unfold Builtin.Dict_items.pairFromOwner;refine wpAny_bind (wpAny_newTuple ?_);obtain⟨f,m⟩:∃f,j.push {cls:=.type "tuple",data:=.seq #[a.key,a.val]}=f:=⟨_,rfl⟩;have y:IsItemIter f it d (i+1) es.size ep ok p:=m▸Heap.get?_push_of_some _ z;have O:f.get? h.objs.size=some {cls:=.type "tuple",data:=.seq #[a.key,a.val]}:=by
  rw[<- m,<- D];exact Heap.get?_push_size _ rfl
 have z5:f.objs.size=h.objs.size+1:=by rw[<- m,Heap.size_push,D]
 have k5:∀b o,b≠it->h.get? b=some o->f.get? b=some o:=λb o e q=>m▸Heap.get?_push_of_some _ (c.extBut b o e q);show wpAny _ _ (Builtin.Dict_items.ownedTupleIsFree (.ref it) >>= _) _ _ ⟨j.push {cls:=.type "tuple",data:=.seq #[a.key,a.val]},g,l,u,os⟩;rw[m,D];unfold Builtin.Dict_items.ownedTupleIsFree;refine wpAny_bind (wpAny_bind (wpAny_field y rfl (x:=.none) rfl (wpAny_pure ?_)));simp only[if_true];refine wpAny_bind (wpAny_field y rfl (x:=ok) rfl (wpAny_bind (wpAny_field y rfl (x:=p) rfl ?_)));refine wpAny_bind (wpAny_setField_rec y (-_) λP L G=>?_);have L:IsItemIter P it d (i+1) es.size ep a.key p:=L;refine wpAny_bind (wpAny_setField_rec L (-_) λJ S M=>?_);have S:IsItemIter J it d (i+1) es.size ep a.key a.val:=S;refine wpAny_bind (wpAny_setField_rec S (-_) λI B C=>?_);have B:IsItemIterOut I it d (i+1) es.size ep a.key a.val h.objs.size:=B;refine wpAny_bind (wpAny_setField_rec B (-_) λt K N=>?_);have K:IsItemIterOut t it d (i+1) es.size ep a.key a.val h.objs.size:=K;have T:Heap.SameBut it f P:=G;have X:Heap.SameBut it P J:=M;have Y:Heap.SameBut it J I:=C;have W:Heap.SameBut it I t:=N;have V:∀b o,b≠it->f.get? b=some o->t.get? b=some o:=λb o e q=>W.extBut b o e (Y.extBut b o e (X.extBut b o e (T.extBut b o e q)));refine wpAny_bind (wpAny_letGo (wpAny_pure (wpAny_pure ⟨_,rfl,wpAny_pure (k t K (V _ _ (Nat.ne_of_gt R) O) ?_ λb o e q=>V b o e (k5 b o e q))⟩)));show t.objs.size=h.objs.size+1;rw[W.1,Y.1,X.1,T.1,z5]
theorem SM{i:Nat}{ok l:Value}{Q:Option Value->Shared->Prop}(n:A.handled=none)(e:IsItemIter s.heap it d i es.size ep ok l)(g:s.heap.get? d=some od)(h:od.data=.dict es ep)(o:es.size<=i)
 (k:∀h',Heap.ExtBut it s.heap h'->Q none {s with heap:=h'}):wpAny (model prog w) A (pyNext (.ref it)) Q E s:=by
 have c:s.TypeIs (.ref it) "dict_itemiterator" := ⟨_,e,rfl⟩;have own:Builtin.Dict_items.ownsTuple "dict_itemiterator" = true:=!_
 have j:¬(Value.ref d==Value.none)=true:=aJ;have f:¬(i:Int)<0:=∅
 unfold pyNext;refine wpAny_bind (wpAny_attempt (wpAny_callSpecial?_slot (name:=Str.ofString "__next__") c F.slot_dict_itemiterator_next (wpAny_call_entry F.slot_dict_itemiterator_next c F.entry_dict_itemiterator_next ?_ (F.args_dict_itemiterator_next_1 _))));refine wpAny_bind (wpAny_pure (wpAny_bind (wpAny_bind (wpAny_bind (wpAny_typeNameOfWhole_itemiter c (wpAny_pure (wpAny_bind (wpAny_fieldsOf e rfl ?_))))))));simp only[own,if_true];show wpAny (model prog w) A.in1 (if (Value.ref d==Value.none)=true then _ else _) _ _ _;rw[b3 j];refine wpAny_bind (wpAny_pure (wpAny_bind (wpAny_dictEntries g h ?_)));rw[b3 (-_)];refine wpAny_bind (wpAny_pure (wpAny_bind (wpAny_dictEpoch g h ?_)));rw[b3 (-_)];refine wpAny_pure ?_;simp only[f,if_false,cZ,Array.getElem?_eq_none o];refine wpAny_bind (wpAny_bind (wpAny_typeNameOfWhole_itemiter c (wpAny_pure ?_)));show wpAny _ _ (setField (.ref it) 2 .none >>= _) _ _ s;refine wpAny_bind (wpAny_setField e rfl (-_) ?_);unfold newExc newTuple raiseNew;refine wpAny_bind (wpAny_bind (wpAny_newObj_type (wpAny_bind (m:=firstArgMember _ _) (wpAny_of_eq (a:=Value.none) rfl (wpAny_newObj_type (wpAny_bind (wpAny_handled ?_)) (by size_fits)))) (by size_fits)));rw[show A.in1.handled=none from n];refine wpAny_bind (wpAny_pure (wpAny_throw ?_));refine wpAny_bind ?_;refine wpAny_isInstance (T:="StopIteration") (b:=true) ⟨_,Heap.get?_push_size _ rfl,rfl⟩ isSubtype_stop ?_;have up:=(Heap.SameBut.update s.heap it (Obj.mapFields λx=>x.setIfInBounds 2 Value.none)).extBut;exact wpAny_pure (k _ ((up.push _).push _))
end
noncomputable def GN(v d:Addr):HO:=.ext λh=>h.IsItemsView v d
section
variable{X:Cx}
def aaU:V->List V->Hp->VK->Prop:=λx vs H Q=>∃d kvs,x=.ref d/\vs=[]/\H d=some (.dT kvs)/\∀v,H v=none->Q (.ref v) (upd H v (GN v d))
theorem Vi:MtR X "dict.items" aaU:=by
 intro f s C H x J v K Q I u l h;obtain⟨d,c,rfl,rfl,j,q⟩:=h;cases u;have r:=l.zero;subst r;obtain⟨z,lo,G,g,o,F,D,i,y,A,_⟩:=(show gU X.prog X.w H s.heap d (.dT c) from I.hok d _ j);refine Po lo i y A ⟨.ref s.heap.objs.size,_,I.laid (a:=s.heap.objs.size) (o:=GN s.heap.objs.size d) (t':=s.toks) (λb o e=>Heap.get?_push_of_some _ e) (aB _) ⟨⟨_,Heap.get?_push_size _ rfl,rfl,rfl⟩,⟨_,Heap.get?_push_size _ rfl⟩,λB E ⟨t,m,n,p⟩ k=>⟨t,k _ m,n,p⟩⟩,rfl,q _ (I.hok.fresh (aB _))⟩
noncomputable def Mf(d:Addr)(o:Obj)(kvs:List (List Key×V)):It :=
 ⟨λi H=>H d=some (.Ct o (.dT kvs))/\i<kvs.length,
  λi H x H'=>∃p kb k v,H p=none/\x=.ref p/\H'=upd H p (.tup [.ref kb,v])/\kvs[i]?=some (k,v)/\H kb=some (.tup (k.map kV)),
  λi H=>H d=some (.Ct o (.dT kvs))/\kvs.length<=i⟩
theorem GO{α β:Type}{F:α->β->Prop}:∀{l₁:List α} {l₂:List β},Paired F l₁ l₂->∀{i:Nat} {a:α},l₁[i]?=some a->∃b,l₂[i]?=some b/\F a b
 |_,_,.cons h t,0,a,e=>by cases e;exact⟨_,rfl,h⟩
 |_,_,.cons h t,i+1,a,e=>GO t (by simpa using e)
theorem Pu{P:Program}{w:World}{K:af}{G:List Expr}{x1}{W:Pos}(d a:Addr){o:Obj}{Q:Array DictEntry}{ep:Nat}{kvs:List (List Key×V)}(O:o.data=.dict Q ep) :
 Turn P w K (.Tuple G x1 W) (Mf d o kvs) [a] a (λi h=>∃ok A,IsItemIter h a d i Q.size ep ok A) where
 mem:=-_
 obj:=λi h ⟨ok,A,st⟩ b f=>by
  have e:b=a:=by simpa using f
  subst e;exact⟨_,st,λv z=>by
   have z':Data.fields _=Data.cell v:=z;cases z'⟩
 keep:=λi h h' ⟨ok,A,st⟩ k=>⟨ok,A,k a (-_) _ st⟩
 item:=by
  intro X S T hK j i l s σ H E I hf ⟨ok,A,st⟩ hg;subst S T hK;obtain⟨e,B⟩:=hg;obtain⟨L,z,lo,xs,p,o',U,ep',C,g3,J,g5,g6⟩:=(show gU X.prog X.w H s.heap d (.Ct o (.dT kvs)) from I.hok d _ e);rw[L] at C;cases C;rw[O] at J;cases J;obtain⟨R,N,f2,f3,f4,f5⟩:=hf a (-_);obtain⟨⟨k2,D,u⟩,hx,hk1,hk2,Y⟩:=GO p (aa B);have he:Q[i]?=some (entryOfKey (tupleKind (ig X.prog X.w)) (k2,D,u)):=by
   rw[<- gC,g5,ak,hx];rfl
  refine Pq st L O he λh' io tu sz kp=>⟨_,rfl,wpAny_letOwnedTupleGo_items io λhh e2 M=>?_⟩;have g:H s.heap.objs.size=none:=I.hok.fresh (aB _);have lt:a<s.heap.objs.size:=Heap.lt_size st;have x:∀b q,b≠a->s.heap.get? b=some q->hh.get? b=some q:=λb q f r=>(M.2 b f).trans (kp b q f r);have F:∀b q,H b=some q->b≠a:=λb q r z=>by rw[z,R] at r;cases r
  have QM:hh.get? s.heap.objs.size=some {cls:=.type "tuple",data:=.seq #[.ref D,u]}:=(M.2 _ (Nat.ne_of_gt lt)).trans tu;have I1:Inv X l σ (upd H s.heap.objs.size (.tup [.ref D,kvs[i].2])) {s with heap:=hh,toks:=s.toks}:=by
   refine I.step (g':=s.gens) (d':=s.drawn) (ch:=[a]) (λb f=>?_) (λb q _ _ j r _=>x b q (λz=>j (by simp[z])) r) (λb q _ _ j r _=>⟨q.slots,x b q (λz=>j (by simp[z])) r⟩)
    (λb q _ r n=>by rw[aK (bz (Heap.lt_size r))];exact n) (λb q j r=>⟨q,x b q (λz=>j (by simp[z])) r⟩) (λb ys r=>by rw[aK (aQ r g)];exact r) (λb q y r=>by rw[aK (aQ r g)];exact r)
    (λb ps r=>⟨#[],by rw[aK (aQ r g),r];simp⟩) (λm hm=>?_) (λb q r=>?_) I.bare
   ·have e:b=a:=by simpa using f
    subst e;exact⟨f3,N,f4,f5⟩
   ·obtain⟨q,Z,ep2,hq,r⟩:=hm
    exact⟨q,Z,ep2,x _ q (bN N) hq,r⟩
   ·by_cases f:b=s.heap.objs.size
    ·subst f
     rw[aC] at r;cases r;exact⟨by show 2<=sizeLine;decide,[.ref D,u],.cons rfl (.cons Y .nil),⟨_,QM,rfl,_,rfl⟩⟩
    ·rw[aK f] at r
     refine (I.hok b q r).stay (λc y j t=>?_) (λc t=>by rw[aK (aQ t g)];exact t) λc ys t=>by rw[aK (aQ t g)];exact t
     rcases j with e|e
     ·rw[e] at t ⊢;exact x b y (F b q r) t
     ·exact x c y (F c _ e) t
  refine⟨.ref s.heap.objs.size,_,I1,rfl,⟨_,D,kvs[i].1,kvs[i].2,g,rfl,rfl,aa B,hk2⟩,⟨_,_,e2⟩,λb f=>?_⟩;have e:b=a:=by simpa using f
  subst e;rw[aK (bz lt)];exact R
 done:=by
  intro X S T hK j i l s σ H E I hf ⟨ok,A,st⟩ hg;subst S T hK;obtain⟨e,hle⟩:=hg;obtain⟨L,z,lo,xs,p,o',U,ep',C,g3,J,g5,g6⟩:=(show gU X.prog X.w H s.heap d (.Ct o (.dT kvs)) from I.hok d _ e);rw[L] at C;cases C;rw[O] at J;cases J;obtain⟨R,N,f2,f3,f4,f5⟩:=hf a (-_);have hl:Q.size=kvs.length:=by
   have:=er List.length g5
   rw[ah,<- Paired.length p] at this
   simpa using this
  exact SM (I.ok.hd j) st L O ∅ λh' eb=>⟨rfl,I.turned (t':=s.toks) (λb o f e=>eb b o f e) R N f3 f4 f5⟩
 self:=λ_ _ _ _ _ ⟨_,_,st⟩ h=>kcp_self st h
def aaW(td:TE):TI:=λσ H R=>td σ H λx H1=>∃v d kvs,x=.ref v/\H1 v=some (GN v d)/\H1 d=some (.dT kvs)/\∀o,R (Mf d o kvs) (upd H1 d (.Ct o (.dT kvs)))
theorem Vj{l:Expr}{D:TE}{j:List Expr}{x1}{i:Pos}(hl:PE X l D):PI X (.Tuple j x1 i) l (aaW D):=by
 intro c s B H R I h;refine gV (hl c s B H _ I h) λv a ⟨x,k,m,M,O⟩=>?_;obtain⟨t,d,f,e,L,r,q⟩:=O;subst e;cases M;obtain⟨z,lo,N,n,o,J,F,g,P,A,K⟩:=(show gU X.prog X.w k a.heap d (.dT f) from m.hok d _ r);obtain⟨E,_,_⟩:=(show gU X.prog X.w k a.heap t (GN t d) from m.hok t _ L);have C:Inv X c B (upd k d (.Ct o (.dT f))) a:=m.write (t':=a.toks) (h':=a.heap) (x:=d) (e:=d) (by rw[r];exact True.intro) (.inl rfl) (λb u _ q=>q) ⟨o,g⟩ ⟨g,z,lo,N,Paired.W1 n λp q y=>⟨y.1,by rw[aK (vJ y.2.1 r (by intro z;cases z))];exact y.2.1,y.2.2⟩,o,J,F,g,P,A,K⟩;have G:(upd k d (.Ct o (.dT f))) a.heap.objs.size=none:=by
  rw[aK (bN (bz (Heap.lt_size g)))];exact m.hok.fresh (aB _)
 refine Pp E g A ?_;refine⟨a.heap.objs.size,[a.heap.objs.size],_,_,_,rfl,C.kept (t':=a.toks) λb o e=>Heap.get?_push_of_some _ e,Pu d _ A,⟨_,_,Heap.get?_push_size _ rfl⟩,λb Q=>?_,q o⟩;have e:b=a.heap.objs.size:=by simpa using Q
 subst e;exact C.Ur (aB _) G
theorem aaX{d:Addr}{o:Obj}{kvs:List (List Key×V)}{a:Hp}(h:a d=some (.Ct o (.dT kvs))):∀i H,i<kvs.length->aH a H->(Mf d o kvs).go i H:=λi H b s=>⟨s _ _ h,b⟩
theorem Vk{d:Addr}{o:Obj}{kvs:List (List Key×V)}{a:Hp}(h:a d=some (.Ct o (.dT kvs))):∀H,aH a H->(Mf d o kvs).stop kvs.length H:=λH s=>⟨s _ _ h,aB _⟩
end
end L2
namespace L2
theorem Vl{X:Cx}(K:af)(a:X.K=K):yv X (PySem.binaryOp .Add) (Zf K):=by
 subst a;exact Xl
end L2
namespace TW
open PySem L2 PyProof.Rows
theorem CM{xs f:List T3}(h:xs.Perm f)(u:pq xs)(r:pq f):xs=f:=by
 have c:∀a b:T3,CL a b=false->CL b a=false->a=b:=λa b g k=>by
  have e:¬CL a b=true:=by rw[g];exact aJ
  have d:¬CL b a=true:=by rw[k];exact aJ
  rw[xg] at e d;obtain⟨t,v,y⟩:=a;obtain⟨q,B,o⟩:=b;have w:t=q:=by simp at e d;lia
  subst w;have s:v=B:=by simp at e d;lia
  subst s;have x:y=o:=by simp at e d;lia
  rw[x]
 have n:∀{l:List T3},pq l->l.Pairwise λa b=>CL b a=false:=λ{l} z=>by
  rw[pU];intro i j p A m;exact z i j _ _ m (aa p) (aa A)
 exact List.Perm.eq_of_pairwise (λa b _ _ g k=>c a b k g) (n u) (n r) h
noncomputable def iT(t:T3):List Key×V:=([.inl t.1,.inl t.2.1],.int t.2.2)
noncomputable abbrev keyOf(h c:Int):List Key:=[.inl h,.inl c]
def eV(ts:List T3):Prop:=(ts.map λt=>(t.1,t.2.1)).Nodup
noncomputable def uM(ts:List T3)(h c:Int):Option Int:=(ts.find? λt=>decide (t.1=h/\t.2.1=c)).map λt=>t.2.2
noncomputable def put3(ts:List T3)(h c r:Int):List T3:=(ts.filter λt=>!decide (t.1=h/\t.2.1=c))++[(h,c,r)]
theorem SN{ts:List T3}(n:eV ts){h c r:Int}:uM ts h c=some r↔(h,c,r)∈ts:=by
 unfold uM;constructor
 ·intro e
  cases f:ts.find? λt=>decide (t.1=h/\t.2.1=c) with
  |none=>rw[f] at e;cases e
  |some t =>
   rw[f] at e;cases e;have a:=List.find?_some f;have b:=List.mem_of_find?_eq_some f;have a:t.1=h/\t.2.1=c:=by simpa using a
   obtain⟨m,p,o⟩:=t;obtain⟨rfl,rfl⟩:=a;exact b
 ·intro e
  cases f:ts.find? λt=>decide (t.1=h/\t.2.1=c) with
  |none =>
   have:=List.find?_eq_none.mp f _ e
   simp at this
  |some t =>
   have a:=List.find?_some f;have b:=List.mem_of_find?_eq_some f;have a:t.1=h/\t.2.1=c:=by simpa using a
   obtain⟨i,g⟩:=jM e;obtain⟨j,d⟩:=jM b;have k:(ts.map λt=>(t.1,t.2.1))[i]?=some (h,c):=by rw[ak,g];rfl
   have l:(ts.map λt=>(t.1,t.2.1))[j]?=some (h,c):=by rw[ak,d,<- a.1,<- a.2];rfl
   have:i=j:=(List.getElem?_inj (ai.mp k).1 n).mp (k.trans l.symm)
   subst this;rw[g] at d;cases d;rfl
theorem Vm{ts:List T3}(n:eV ts){h c r:Int}:eV (put3 ts h c r):=by
 unfold eV put3;rw[aS,n9];refine⟨?_,-_,λx g y d=>?_⟩
 ·exact List.Nodup.sublist ((List.filter_sublist).map _) n
 ·obtain⟨t,a,rfl⟩:=aP.mp g
  have b:=(bq.mp a).2;have e:y=(h,c):=by simpa using d
  rw[e];intro z;have f:t.1=h/\t.2.1=c:=⟨(Prod.mk.inj z).1,(Prod.mk.inj z).2⟩;simp[f] at b
theorem oA(t:T3)(h c:Int):(iT t).1=keyOf h c↔t.1=h/\t.2.1=c:=by
 unfold iT keyOf;constructor
 ·intro e
  have a:=(List.cons.inj e).1;have b:=(List.cons.inj (List.cons.inj e).2).1;exact⟨Sum.inl.inj a,Sum.inl.inj b⟩
 ·rintro⟨rfl,rfl⟩
  rfl
theorem GP:∀(ts:List T3) (h c:Int),CH (ts.map iT) (keyOf h c)=(uM ts h c).map V.int
 |[],h,c=>rfl
 |t::ts,h,c=>by
  rw[bH];by_cases e:t.1=h/\t.2.1=c
  ·rw[yY ((oA t h c).mpr e)]
   unfold uM;rw[List.find?_cons_of_pos (by simp[e])];rfl
  ·rw[yZ (λz=>e ((oA t h c).mp z)),GP ts h c]
   unfold uM;rw[List.find?_cons_of_neg (by rw[c6 e];exact aJ)]
noncomputable def CN(h c r:Int)(t:T3):T3:=if t.1=h/\t.2.1=c then (h,c,r) else t
theorem Vn(h c r:Int)(t:T3):((CN h c r t).1,(CN h c r t).2.1)=(t.1,t.2.1):=by
 unfold CN;split
 ·rename_i e
  show (h,c)=(t.1,t.2.1);rw[e.1,e.2]
 ·rfl
theorem JW{h c r:Int}:∀{ts:List T3},eV ts->(∃t∈ts,t.1=h/\t.2.1=c)->(ts.map (CN h c r)).Perm (put3 ts h c r)
 |[],_,⟨_,h,_⟩=>by cases h
 |t::ts,n,g=>by
  have i:eV ts:=(iG.mp n).2;have d:=(iG.mp n).1;unfold put3;by_cases e:t.1=h/\t.2.1=c
  ·have b:∀u∈ts,¬(u.1=h/\u.2.1=c):=λu hu z=>d (aP.mpr ⟨u,hu,Prod.ext (z.1.trans e.1.symm) (z.2.trans e.2.symm)⟩)
   have j:ts.map (CN h c r)=ts:=by
    refine (cK λu hu=>?_).trans (List.map_id ts);unfold CN;rw[b3 (b u hu)];rfl
   have f:ts.filter (λu=>!decide (u.1=h/\u.2.1=c))=ts:=List.filter_eq_self.mpr λu hu=>by rw[c6 (b u hu)];rfl
   rw[bH,j,eB,b3 (by simp[e]),f];have a:CN h c r t=(h,c,r):=by unfold CN;rw[aq e]
   rw[a];exact (List.perm_append_comm (l₁:=[(h,c,r)]) (l₂:=ts))
  ·have a:CN h c r t=t:=by unfold CN;rw[b3 e]
   rw[bH,a,eB,aq (by rw[c6 e];rfl)];refine List.Perm.cons t (JW i ?_);obtain⟨u,hu,z⟩:=g;rcases be.mp hu with rfl|hu
   ·exact b5 z e
   ·exact⟨u,hu,z⟩
theorem JX{xs a:List T3}(b:xs.Perm a)(h c r:Int):(put3 xs h c r).Perm (put3 a h c r):=(b.filter _).append_right _
theorem Pw{ts g:List T3}{h c r:Int}(i:ts.Perm g)(n:eV ts):∃b,putK (ts.map iT) (keyOf h c) (V.int r)=b.map iT/\b.Perm (put3 g h c r)/\eV b:=by
 unfold putK;by_cases a:((ts.map iT).any λf=>decide (f.1=keyOf h c))=true
 ·rw[aq a]
  refine⟨ts.map (CN h c r),?_,?_,?_⟩
  ·rw[cX,cX]
   refine cK λt _=>?_;show (if (iT t).1=keyOf h c then ((iT t).1,V.int r) else iT t)=iT (CN h c r t);unfold CN;by_cases e:t.1=h/\t.2.1=c
   ·rw[aq ((oA t h c).mpr e),aq e,(oA t h c).mpr e]
    rfl
   ·rw[b3 (λz=>e ((oA t h c).mp z)),b3 e]
  ·refine (JW n ?_).trans (JX i h c r)
   obtain⟨f,j,m⟩:=wX.mp a;obtain⟨t,d,rfl⟩:=aP.mp j;exact⟨t,d,(oA t h c).mp (eL m)⟩
  ·unfold eV
   rw[cX]
   have:((λt:T3=>(t.1,t.2.1))∘CN h c r)=λt:T3=>(t.1,t.2.1):=funext λt=>Vn h c r t
   rw[this];exact n
 ·rw[b3 a]
  have k:∀t∈ts,¬(t.1=h/\t.2.1=c):=λt d z=>a (wX.mpr ⟨iT t,aP.mpr ⟨t,d,rfl⟩,cy ((oA t h c).mpr z)⟩);have e:put3 ts h c r=ts++[(h,c,r)]:=by
   unfold put3;rw[List.filter_eq_self.mpr λu l=>by rw[c6 (k u l)];rfl]
  refine⟨ts++[(h,c,r)],by rw[aS];rfl,e▸JX i h c r,e▸Vm n⟩
structure qv(C:Addr)(H:Hp)(p d:Addr)(ts:List T3):Prop where
 ob:∃dx,H p=some (.ins C dx [("kept",.ref d)])
 di:H d=some (.dT (ts.map iT))
theorem qv.mono{C:Addr}{H a:Hp}{p d:Addr}{ts:List T3}(s:aH H a)(h:qv C H p d ts):qv C a p d ts:=by
 obtain⟨⟨c,e⟩,b⟩:=h;exact⟨⟨c,s _ _ e⟩,s _ _ b⟩
def aaY(K:af)(H:Hp)(l:Addr)(ts:List T3):Prop:=∃qs:List Addr,H l=some (.lst (qs.map V.ref))/\gX K H qs ts
def vW(u:HO):Prop:=∀xs,u≠.tup xs/\∀o,u≠.Ct o (.tup xs)
theorem lW{a:List V}:vW (.lst a):=λb=>⟨λe=>(by cases e),λo e=>(by cases e)⟩
theorem adC{kvs:List (List Key×V)}:vW (.dT kvs):=λa=>⟨λe=>(by cases e),λo e=>(by cases e)⟩
theorem aaZ{o:Obj}{kvs:List (List Key×V)}:vW (.Ct o (.dT kvs)):=λa=>⟨λe=>(by cases e),λo e=>(by cases e)⟩
theorem mZ{C a:Addr}{b:List (Str×V)}:vW (.ins C a b):=λc=>⟨λe=>(by cases e),λo e=>(by cases e)⟩
theorem c7.past{K:af}{H f:Hp}{z a:Addr}{u:HO}{xs:List V}(g:H z=some u)(d:vW u)(c:∀b v,H b=some v->b≠z->f b=some v)(h:c7 K H a xs):c7 K f a xs:=by
 rcases h with (h|⟨o,h⟩)|h
 ·exact .inl (.inl (c _ _ h λe=>by subst e;rw[g] at h;exact (d xs).1 (aI h)))
 ·exact .inl (.inr ⟨o,c _ _ h λe=>by subst e;rw[g] at h;exact (d xs).2 o (aI h)⟩)
 ·exact .inr h
theorem gX.past{K:af}{H d:Hp}{z:Addr}{u:HO}{qs:List Addr}{ts:List T3}(f:H z=some u)(e:vW u)(c:∀b v,H b=some v->b≠z->d b=some v)(h:gX K H qs ts):gX K d qs ts :=
 ⟨h.1,λi q t a b=>c7.past f e c (h.2 i q t a b)⟩
theorem cQ{H:Hp}{z:Addr}{o:HO}:∀b v,H b=some v->b≠z->(upd H z o) b=some v:=λb v e a=>by rw[aK a];exact e
theorem gX.snoc{K:af}{H:Hp}{qs:List Addr}{ts:List T3}{q:Addr}{t:T3}(h:gX K H qs ts)(d:c7 K H q (x6 t)):gX K H (qs++[q]) (ts++[t]):=by
 refine⟨by rw[aA,aA,h.1];rfl,λi a u b c=>?_⟩;by_cases z:i<qs.length
 ·rw[aY z] at b
  rw[aY (h.1▸z)] at c;exact h.2 i a u b c
 ·have e:i=qs.length:=by
   have:=(ai.mp b).1
   rw[aA] at this
   have:i<qs.length+1:=this
   lia
  subst e;rw[mT] at b;rw[h.1,mT] at c;cases b;cases c;exact d
theorem gX.nil{K:af}{H:Hp}:gX K H [] []:=⟨rfl,λi q t a=>by cases a⟩
noncomputable def two(f:Bool->Addr):List V:=[.ref (f false),.ref (f true)]
theorem Px{H:Hp}{a b:Addr}{u v:HO}(d:H a=some u)(c:H b=some v)(n:u≠v):a≠b:=λe=>by
 subst e;rw[d] at c;exact n (aI c)
structure Keeps(K:af)(H:Hp)(lk:Addr)(kk:Bool->Addr)(ks:Bool->List T3):Prop where
 hk:H lk=some (.lst (two kk))
 Kp:∀b,aaY K H (kk b) (ks b)
 nk:∀b,kk b≠lk
end TW
namespace L2
open PySem PySem.W PySem.Spec PyProof.Rows
end L2
namespace TW
open PySem L2 PyProof.Rows
theorem MY{J:It}{n:Nat}{q:List (Option Nat)}{g:TG}{F:TT}{D:TE}{C:L2.St}{I:Hp->Prop}{k:Hp}{c:Addr}(B:Nat->V)(f:Nat->Option V)(j:k c=none)
 (go:∀i H,i<n->aH k H->J.go i H) (stop:∀H,aH k H->J.stop n H) (K0:∀i H x a,i<n->aH k H->J.K0 i H x a->a=H/\x=B i) (K:n<=1000)
 (step:∀(i:Nat) (H:Hp) (R:V->Hp->Prop) (S:Hp->Prop),i<n->aH k H->(∀y a,aH H a->f i=some y->R y a)->(∀a,aH H a->f i=none->S a) ->
  g (B i) (jU q C) H λd w=>F d w λb l=>if b=true then D d l R else S l)
 (z:∀H,aH k H->H c=some (.lst ((az n).filterMap f))->I H) :
 ∃W:Nat->Nat->Hp->Prop,(∃m,W 0 m (upd k c (.lst [])))/\∀i m H,W i m H ->
  (J.stop i H/\I H)∨(J.go i H/\∀x a,J.K0 i H x a->g x (jU q C) a λd w=>F d w λb l=>if b=true then D d l λy u=>∃xs,u c=some (.lst xs)/\xs.length<sizeLine /\
   ∃r,r<m/\W (i+1) r (upd u c (.lst (xs++[y]))) else ∃r,r<m/\W (i+1) r l):=by
 have p:∀i,((az i).filterMap f).length<=i:=λi=>by
  have:=List.length_filterMap_le f (az i)
  rwa [bG] at this
 refine fX (n:=n) (λi v _=>v=(az i).filterMap f) j go stop rfl ?_ ?_
 ·rintro i v H o s t rfl x a L
  obtain⟨rfl,rfl⟩:=K0 i H x a o s L;have e:(az (i+1)).filterMap f=(az i).filterMap f++(f i).toList:=by
   rw[iF,List.filterMap_append];cases h:f i <;> simp[h]
  refine step i a _ _ o s (λy u G A=>?_) (λl E A=>?_)
  ·refine d8 j o (s.trans G) (G _ _ t) (cP (aU (p i) (aU (mP o) K))) ?_
   show _=(az (i+1)).filterMap f;rw[e,A];rfl
  ·refine kr o (s.trans E) (E _ _ t) ?_
   show _=(az (i+1)).filterMap f;rw[e,A];simp
 ·rintro v H s t rfl
  exact z H s t
theorem rF{α β:Type}:∀(xs:List α) (F:α->Option β),(az xs.length).filterMap (λi=>xs[i]?.bind F)=xs.filterMap F
 |[],F=>rfl
 |x::xs,F=>by
  have e:((λi:Nat=>(x::xs)[i]?.bind F)∘Nat.succ)=λi=>xs[i]?.bind F:=funext λi=>-_
  rw[bE,List.range_succ_eq_map,dY,List.filterMap_map,e,rF xs F,dY];rfl
theorem SO{K:af}{l c:Addr}{xs:List Int}{o:List (Option Nat)}{g:TG}{C:TT}{A:TE}{z:L2.St}{E:Hp->Prop}{h:Hp}(F:Int->Option V)(k:h c=none)(hl:bQ K h l (xs.map V.int))(J:xs.length<=1000)
 (step:∀(x:Int) (H:Hp) (R:V->Hp->Prop) (S:Hp->Prop),x∈xs->aH h H->(∀y a,aH H a->F x=some y->R y a)->(∀a,aH H a->F x=none->S a) ->
  g (.int x) (jU o z) H λd r=>C d r λb q=>if b=true then A d q R else S q)
 (t:∀H,aH h H->H c=some (.lst (xs.filterMap F))->E H) :
 ∃W:Nat->Nat->Hp->Prop,(∃m,W 0 m (upd h c (.lst [])))/\∀i m H,W i m H ->
  ((K1 K l).stop i H/\E H)∨((K1 K l).go i H/\∀x a,(K1 K l).K0 i H x a->g x (jU o z) a λd r=>C d r λb q=>if b=true then A d q λy w=>∃xs,w c=some (.lst xs)/\xs.length<sizeLine /\
    ∃p,p<m/\W (i+1) p (upd w c (.lst (xs++[y]))) else ∃p,p<m/\W (i+1) p q):=by
 have D:(xs.map V.int).length=xs.length:=ah _;refine MY (n:=xs.length) (λi=>(xs.map V.int).getD i .fM) (λi=>xs[i]?.bind F) k (λi H f s=>zd hl i H (by rw[D];exact f) s) (λH s=>by have:=pX hl H s;rwa [D] at this) (λi H x a f s j=>?_) J (λi H R S f s G L=>?_) (λH s I=>t H s (by rw[<- rF];exact I))
 ·obtain⟨rfl,j⟩:=j
  have j:=j _ (s.seq hl);exact⟨rfl,by rw[au,j];rfl⟩
 ·have e:(xs.map V.int).getD i .fM=V.int xs[i]:=by rw[au,ak,aa f];rfl
  have B:xs[i]?=some xs[i]:=aa f;rw[e];refine step _ H R S (aM f) s (λy a u v=>G y a u ?_) (λa u v=>L a u ?_)
  ·show xs[i]?.bind F=_
   rw[B];exact v
  ·show xs[i]?.bind F=_
   rw[B];exact v
theorem SQ(xs:List Int)(f:Int->Bool):xs.filterMap (λx=>if f x=true then some (V.int x) else none)=(xs.filter f).map V.int:=by
 induction xs with
 |nil=>rfl
 |cons x xs a =>
  by_cases h:f x=true
  ·rw[iw h,bH,<- a,dY];simp only[h,if_true]
  ·rw[iy h,<- a,dY];simp only[h];rfl
theorem sr{K:af}{l c:Addr}{xs:List Int}{j:List (Option Nat)}{g:TG}{w:TT}{v:TE}{u:L2.St}{z:Hp->Prop}{e:Hp}(f:Int->Bool)(h:e c=none)(hl:bQ K e l (xs.map V.int))(C:xs.length<=1000)
 (step:∀(x:Int) (H:Hp) (R:V->Hp->Prop) (S:Hp->Prop),x∈xs->aH e H->(∀a,aH H a->f x=true->R (.int x) a)->(∀a,aH H a->f x=false->S a) ->
  g (.int x) (jU j u) H λd o=>w d o λb n=>if b=true then v d n R else S n)
 (p:∀H,aH e H->H c=some (.lst ((xs.filter f).map V.int))->z H) :
 ∃W:Nat->Nat->Hp->Prop,(∃m,W 0 m (upd e c (.lst [])))/\∀i m H,W i m H ->
  ((K1 K l).stop i H/\z H)∨((K1 K l).go i H/\∀x a,(K1 K l).K0 i H x a->g x (jU j u) a λd o=>w d o λb n=>if b=true then v d n λy t=>∃xs,t c=some (.lst xs)/\xs.length<sizeLine /\
    ∃k,k<m/\W (i+1) k (upd t c (.lst (xs++[y]))) else ∃k,k<m/\W (i+1) k n):=by
 refine SO (λx=>if f x=true then some (V.int x) else none) h hl C (λx H R S D s A E=>step x H R S D s (λa q r=>A _ a q (aq r)) (λa q r=>E a q (b3 (by rw[r];exact aJ)))) (λH s B=>p H s (by rw[<- SQ];exact B))
def Zp(u:HO):Prop:=∀xs,u≠.lst xs/\∀o,u≠.Ct o (.lst xs)
theorem Vo{C a:Addr}{b:List (Str×V)}:Zp (.ins C a b):=λc=>⟨λe=>(by cases e),λo e=>(by cases e)⟩
theorem bQ.past{K:af}{H f:Hp}{z a:Addr}{u:HO}{xs:List V}(g:H z=some u)(d:Zp u)(c:∀b v,H b=some v->b≠z->f b=some v)(h:bQ K H a xs):bQ K f a xs:=by
 rcases h with (h|⟨o,h⟩)|h
 ·exact .inl (.inl (c _ _ h λe=>by subst e;rw[g] at h;exact (d xs).1 (aI h)))
 ·exact .inl (.inr ⟨o,c _ _ h λe=>by subst e;rw[g] at h;exact (d xs).2 o (aI h)⟩)
 ·exact .inr h
noncomputable def FI(c:Option Int):V:=(c.map V.int).getD .fM
theorem CO(i:Int)(c:Option Int):aar (.int i) (FI c)=true:=by cases c <;> rfl
theorem Vp(c:Option Int):yW (FI c)=true:=by cases c <;> rfl
theorem GQ(xs:List Int):Mn .fM (xs.map V.int)=false:=by
 unfold Mn;rw[List.any_map,List.any_eq_false];intro x _;show ¬(Sh (.int x) .fM)=true;simp[Sh]
noncomputable def iU(c:Option Int)(r:Int):Bool:=!decide (V.int r=FI c)
noncomputable def QY(ts:List T3)(so:Option Int)(m5:Int)(cz:Option Int)(os hs:List Int):List Int :=
 match so with
 |none=>os.filter (iU cz)
 |some to=>if to∈hs then [] else match uM ts m5 to with
  |some r=>if r∈os then [r].filter (iU cz) else os.filter (iU cz)
  |none=>os.filter (iU cz)
noncomputable def DO(s to k c:Int):Bool:=if k=1 then decide (V.int c=V.int to) else if k=2 then !decide (V.int c=V.int s) else false
noncomputable def pC(to k:Int):Option Int:=if k=1 then some to else none
theorem made{H:Hp}{x a C:Addr}{d:List (Str×V)}(e:H x=none)(b:H a=none)(c:a≠x):aH H (upd (upd (upd H a (.own x)) x (.ins C a [])) x (.ins C a d)):=by
 rw[KN];exact (aH.new b).trans (aH.new (by rw[aK (bN c)];exact e))
theorem neT{b:Bool}(h:¬b=true):b=false:=by
 cases b
 ·rfl
 ·exact b5 rfl h
end TW
namespace TX
open PySem PySem.StrLaws PySem.Builtin PySem.Builtin.Str
noncomputable abbrev cs(x:Str):List Nat:=x.cps.toList
end TX
namespace TX
open PySem PySem.StrLaws PySem.Builtin PySem.Builtin.Str PySem.NumText
noncomputable abbrev num(n:Int):Str:=Str.ofString (toString n)
end TX
namespace TX
open PySem PySem.StrLaws PySem.Builtin PySem.Builtin.Str
end TX
namespace L2
open PySem PySem.W PySem.Spec PyProof.Rows
theorem GR{α β:Type}{f g:α->Option β}:∀{l:List α},(∀x∈l,f x=g x)->l.filterMap f=l.filterMap g
 |[],_=>rfl
 |x::l,h=>by
  rw[dY,dY,h x (ck ..),GR λy a=>h y (bw _ a)]
theorem SR{α:Type}(xs:List α):((az xs.length).map (λk=>xs.length-1-k)).filterMap (λi=>xs.toArray[i]?)=xs.reverse:=by
 have b:(az xs.length).map (λk=>xs.length-1-k)=(az xs.length).reverse:=by
  refine wW (-_) λi b a=>?_;simp at b a;simp[List.getElem_reverse]
 rw[b,List.filterMap_reverse];congr 1;refine List.ext_getElem? λi=>?_;have a:(az xs.length).filterMap (λi=>xs.toArray[i]?)=xs:=by
  have:=TW.rF xs (λx=>some x)
  rw[List.filterMap_some] at this;refine Eq.trans (GR λi c=>?_) this;rw[List.getElem?_toArray];cases xs[i]? <;> rfl
 rw[a]
theorem GS(a:List Value):slicePick a.toArray none none (some (-1))=a.reverse.toArray:=by
 unfold slicePick;congr 1;have e:sliceBounds none none (some (-1)) a.toArray.size=((a.length:Int)-1,-1,-1):=by
  simp[sliceBounds]
 rw[e,<- SR a];congr 1;unfold sliceRange;by_cases h:a.length=0
 ·simp[h]
 ·have c:((a.length:Int)-1) > -1:=∅
  have b:((a.length:Int)-1 - -1 - -1-1)/(- -1)=(a.length:Int):=by
   have:((a.length:Int)-1 - -1 - -1-1)=(a.length:Int):=∅
   rw[this];show (a.length:Int)/1=_;exact Int.ediv_one _
  simp only[show ¬((-1:Int) > 0) by decide,if_false,c,if_true,b,cZ];refine cK λk d=>?_
  have:=c5.mp d
  lia
section
variable{X:Cx}
def aa0(K:af)(te:TE)(ts:TO):TE:=λσ H Q=>te σ H λx H1=>ts σ H1 λo H2=>∃a xs,x=.ref a/\o=some (-1)/\bQ K H2 a xs/\∀p,H2 p=none->Q (.ref p) (upd H2 p (.lst xs.reverse))
theorem SS{xs:List V}{us:List Value}(h:cD xs us):cD xs.reverse us.reverse:=by
 induction h with
 |nil=>exact .nil
 |cons r t a =>
  rw[List.reverse_cons,List.reverse_cons];exact a.append (.cons r .nil)
theorem MZ{e st:Expr}{k:TE}{ts:TO}{n j:Pos}(O:PE X e k)(hs:PO X (some st) ts):PE X (.Subscript e (.Slice none none (some st) n) j) (aa0 X.K k ts):=by
 intro c s f H Q I h;refine Subscript_ (gV (O c s f H _ I h) λv y ⟨x,z,M,D,J⟩=>?_);refine wpAny_Slice ?_;rw[evalPart_none];refine wpAny_pure ?_;refine wpAny_pure ?_;refine gV (hs c y f z _ M J) λm d ⟨o,t,L,C,a,F,G,B,N,q⟩=>?_;subst G B;cases D;have i:Inv X c f t {d with heap:=d.heap.push {cls:=.type "slice",data:=.fields #[.none,.none,m]}}:=L.kept (t':=d.toks) λb E q=>Heap.get?_push_of_some _ q;obtain⟨g,r,p,u⟩:=i.list N;have l:=r.length;show wpAny (model X.prog X.w) X.A (subscriptTail e (.Slice none none (some st) n) (.ref a) (.ref d.heap.objs.size)) (EP X c f Q) X.xe {d with heap:=d.heap.push {cls:=.type "slice",data:=.fields #[.none,.none,m]}};refine tail_any (ops:=[.ref a,.ref d.heap.objs.size]) p.isList.typeIs slot_list_getitem.lookup ?_ (by with_unfolding_all rfl);refine wpAny_getItem_list_slice p.isList (Heap.IsSliceOf.new ..) .none .none C (-_) ?_ (by rw[aX] <;> lia);rw[GS];refine⟨.ref _,_,i.laid (t':=d.toks) (o:=.lst F.reverse) (λb E q=>Heap.get?_push_of_some _ q) (aB _) ?_,rfl,q _ (i.hok.fresh (aB _))⟩;exact⟨by rw[List.length_reverse];exact u,g.reverse,0,SS r,Heap.get?_push_size _ rfl⟩
end
end L2
namespace TW
open PySem L2 PyProof.Rows
theorem QZ{K:af}{l a:Addr}{xs:List V}{o:List (Option Nat)}{g:TG}{A:TT}{z:TE}{w:L2.St}{B:Hp->Prop}{h:Hp}(f:Nat->Option V)(k:h a=none)(hl:bQ K h l xs)(D:xs.length<=1000)
 (step:∀(i:Nat) (x:V) (H:Hp) (R:V->Hp->Prop) (S:Hp->Prop),xs[i]?=some x->aH h H->(∀y d,aH H d->f i=some y->R y d)->(∀d,aH H d->f i=none->S d) ->
  g x (jU o w) H λc r=>A c r λb q=>if b=true then z c q R else S q)
 (u:∀H,aH h H->H a=some (.lst ((az xs.length).filterMap f))->B H) :
 ∃W:Nat->Nat->Hp->Prop,(∃m,W 0 m (upd h a (.lst [])))/\∀i m H,W i m H ->
  ((K1 K l).stop i H/\B H)∨((K1 K l).go i H/\∀x d,(K1 K l).K0 i H x d->g x (jU o w) d λc r=>A c r λb q=>if b=true then z c q λy v=>∃xs,v a=some (.lst xs)/\xs.length<sizeLine /\
    ∃p,p<m/\W (i+1) p (upd v a (.lst (xs++[y]))) else ∃p,p<m/\W (i+1) p q):=by
 refine MY (n:=xs.length) (λi=>xs.getD i .fM) f k (zd hl) (pX hl) (λi H x d t s j=>?_) D (λi H R S t s C E=>?_) u
 ·obtain⟨rfl,j⟩:=j
  have j:=j _ (s.seq hl);exact⟨rfl,by rw[au,j];rfl⟩
 ·have e:xs.getD i .fM=xs[i]:=by rw[au,aa t];rfl
  rw[e];exact step i _ H R S (aa t) s C E
theorem GU{α β:Type}(xs:List α)(h:α->β):(az xs.length).filterMap (λi=>xs[i]?.map h)=xs.map h:=by
 have e:∀l:List α,l.filterMap (λx=>some (h x))=l.map h:=λl=>by
  induction l with
  |nil=>rfl
  |cons a l b=>rw[dY,b];rfl
 rw[<- e,<- rF xs (λx=>some (h x))];refine GR λi _=>?_;cases xs[i]? <;> rfl
inductive Role where
 |dO|fj|iY|oi (i:Nat)|zj|rows (g:Nat)|kJ|book (g:Nat)|fB (g:Nat)
 |aD|groups|m7|handed (c:Nat)|cW|bW (i:Nat)|letter (i:Nat)|done (i:Nat)|aG (i:Nat)|lX
 deriving DecidableEq
structure xh(H:Hp)(loc:Role->Addr)(ob:Role->Option HO):Prop where
 get:∀r o,ob r=some o->H (loc r)=some o
 inj:∀r q,ob r≠none->ob q≠none->loc r=loc q->r=q
noncomputable def jC(ob:Role->Option HO)(r:Role)(o:HO):Role->Option HO:=λq=>if q=r then some o else ob q
noncomputable def yP(loc:Role->Addr)(r:Role)(a:Addr):Role->Addr:=λq=>if q=r then a else loc q
theorem eT{ob:Role->Option HO}{r:Role}{o:HO}:jC ob r o r=some o:=aq rfl
theorem dP{ob:Role->Option HO}{r q:Role}{o:HO}(h:q≠r):jC ob r o q=ob q:=b3 h
theorem jr{b:Role->Addr}{r:Role}{a:Addr}:yP b r a r=a:=aq rfl
theorem jF{b:Role->Addr}{r q:Role}{a:Addr}(h:q≠r):yP b r a q=b q:=b3 h
def Fp(loc:Role->Addr)(ob:Role->Option HO)(b:Addr):Prop:=∃r,ob r≠none/\loc r=b
section
variable{H H':Hp}{loc:Role->Addr}{ob:Role->Option HO}
theorem xh.mono(h:xh H loc ob)(s:aH H H'):xh H' loc ob:=⟨λr o e=>s _ _ (h.get r o e),h.inj⟩
theorem xh.keep(h:xh H loc ob)(k:∀b o,H b=some o->Fp loc ob b->H' b=some o):xh H' loc ob :=
 ⟨λr o e=>k _ _ (h.get r o e) ⟨r,by rw[e];exact aV o,rfl⟩,h.inj⟩
theorem xh.set(h:xh H loc ob){r:Role}(a:ob r≠none)(o:HO):xh (upd H (loc r) o) loc (jC ob r o):=by
 have c:∀q,jC ob r o q≠none->ob q≠none:=λq b=>by
  by_cases e:q=r
  ·rw[e];exact a
  ·rw[dP e] at b;exact b
 refine⟨λq u e=>?_,λq d g f e=>h.inj q d (c q g) (c d f) e⟩;by_cases z:q=r
 ·subst z
  rw[eT] at e;cases e;exact aC
 ·rw[dP z] at e
  rw[aK (λw=>z (h.inj q r (by rw[e];exact aV u) a w))];exact h.get q u e
theorem xh.new(h:xh H loc ob){p:Addr}(j:H p=none)(r:Role)(o:HO):xh (upd H p o) (yP loc r p) (jC ob r o):=by
 have f:∀q,q≠r->ob q≠none->loc q≠p:=λq k g e=>by
  cases i:ob q with
  |none=>exact g i
  |some u =>
   have:=h.get q u i
   rw[e,j] at this;cases this
 refine⟨λq u e=>?_,λq c b d e=>?_⟩
 ·by_cases z:q=r
  ·subst z
   rw[eT] at e;cases e;rw[jr];exact aC
  ·rw[dP z] at e
   rw[jF z,aK (f q z (by rw[e];exact aV u))];exact h.get q u e
 ·by_cases z:q=r
  ·by_cases a:c=r
   ·rw[z,a]
   ·rw[z,jr,jF a] at e
    rw[dP a] at d;exact b5 e.symm (f c a d)
  ·by_cases a:c=r
   ·rw[a,jr,jF z] at e
    rw[dP z] at b;exact b5 e (f q z b)
   ·rw[jF z,jF a] at e
    rw[dP z] at b;rw[dP a] at d;exact h.inj q c b d e
theorem xh.Zq(h:xh H loc ob){p:Addr}{r:Role}{o:HO}{b:Addr}(d:Fp (yP loc r p) (jC ob r o) b):Fp loc ob b∨b=p:=by
 obtain⟨q,c,a⟩:=d;by_cases z:q=r
 ·rw[z,jr] at a
  exact .inr a.symm
 ·rw[dP z] at c
  rw[jF z] at a;exact .inl ⟨q,c,a⟩
theorem JY{r:Role}(d:ob r≠none){o:HO}{b:Addr}:Fp loc (jC ob r o) b↔Fp loc ob b:=by
 constructor
 ·rintro⟨q,a,c⟩
  refine⟨q,?_,c⟩;by_cases z:q=r
  ·rw[z];exact d
  ·rw[dP z] at a;exact a
 ·rintro⟨q,a,c⟩
  refine⟨q,?_,c⟩;by_cases z:q=r
  ·rw[z,eT];exact aV o
  ·rw[dP z];exact a
end
inductive fR where
 |post (h:Nat)|t9 (h r:Nat)|hand (h c:Nat)|send (h r w:Nat)|twice (h r:Nat)|XO (h r:Nat)
noncomputable def fR.vs:fR->List V
 |.post h=>[.str "post",.int h]
 |.t9 h r=>[.str "come",.int h,.int r]
 |.hand h c=>[.str "hand",.int h,.int c]
 |.send h r w=>[.str "send",.int h,.int r,.int w]
 |.twice h r=>[.str "twice",.int h,.int r]
 |.XO h r=>[.str "lost",.int h,.int r]
structure LS where
 s:Nat
 to:Nat
 kd:Int
 grp:Nat
 old:Bool
 done:List Nat
 aG:List fR
structure Cp where
 l:Nat
 r:Nat
 w:Nat
 h:Nat
noncomputable def Cp.vs(c:Cp):List V:=[.int c.l,.int c.r,.int c.w,.int c.h]
structure NS where
 ws:List (List Nat)
 R:Nat->Nat->RM.Row
 ts:Nat->List T3
 aD:List Nat
 groups:List Nat
 had:List (List Nat)
 ls:List LS
 cps:List Cp
structure TQ where
 rq:Nat->List Addr
 dq:Nat->List Addr
 cq:List Addr
structure NC where
 dO:Addr
 str:Addr
 book:Addr
 post:Addr
 alA:Addr
 let1:Addr
 adD:Addr
noncomputable def rG(c:NC)(dx:Addr)(l:LS):HO:=if l.kd=1 then .ins c.let1 dx [("sender",.int l.s),("to",.int l.to)] else .ins c.adD dx [("sender",.int l.s)]
noncomputable def desc(c:NC)(dx:Role->Addr)(tp:Addr)(loc:Role->Addr)(q:TQ)(s:NS):Role->Option HO
 |.dO=>some (.ins c.dO (dx .dO) [("town",.ref tp),("strands",.ref (loc .fj)),("rows_by_group",.ref (loc .zj)),("books",.ref (loc .kJ)),("homes",.ref (loc .aD)),("groups",.ref (loc .groups)),("handed",.ref (loc .m7)),("letters",.ref (loc .cW)),("copies",.ref (loc .lX))])
 |.fj=>some (.ins c.str (dx .fj) [("town",.ref tp),("upright",.ref (loc .iY))])
 |.iY=>some (.lst ((az s.ws.length).map λi=>.ref (loc (.oi i))))
 |.oi i=>s.ws[i]?.map λw=>.lst (bM w)
 |.zj=>some (.lst ((az 3).map λg=>.ref (loc (.rows g))))
 |.rows g=>if g<3 then some (.lst ((q.rq g).map V.ref)) else none
 |.kJ=>some (.lst ((az 3).map λg=>.ref (loc (.book g))))
 |.book g=>if g<3 then some (.ins c.book (dx (.book g)) [("kept",.ref (loc (.fB g)))]) else none
 |.fB g=>if g<3 then some (.dT ((s.ts g).map iT)) else none
 |.aD=>some (.lst (bM s.aD))
 |.groups=>some (.lst (bM s.groups))
 |.m7=>some (.lst ((az s.had.length).map λi=>.ref (loc (.handed i))))
 |.handed i=>s.had[i]?.map λw=>.lst (bM w)
 |.cW=>some (.lst ((az s.ls.length).map λi=>.ref (loc (.bW i))))
 |.bW i=>s.ls[i]?.map λl=>.ins c.post (dx (.bW i)) [("letter",.ref (loc (.letter i))),("group",.int l.grp),("old",.bl l.old),("done_at",.ref (loc (.done i))),("deeds",.ref (loc (.aG i)))]
 |.letter i=>s.ls[i]?.map λl=>rG c (dx (.letter i)) l
 |.done i=>s.ls[i]?.map λl=>.dK (l.done.map λh:Nat=>(gA (h:Int),.bl true))
 |.aG i=>s.ls[i]?.map λl=>.lst ((q.dq i).map V.ref)
 |.lX=>some (.lst (q.cq.map V.ref))
mutual
noncomputable def M0:PyData->Bool
 |.none=>true
 |.bool _=>true
 |.int _=>true
 |.str _=>true
 |.list _=>false
 |.tuple ds=>DQ ds
 |.dict _=>true
noncomputable def DQ:List PyData->Bool
 |[]=>true
 |d::ds=>M0 d&&DQ ds
end
structure eO(K:af)(H:Hp)(qs:List Addr)(xs:List (List V)):Prop where
 len:qs.length=xs.length
 at':∀(i:Nat) q x,qs[i]?=some q->xs[i]?=some x->c7 K H q x
theorem eO.mono{K:af}{H c:Hp}{qs:List Addr}{xs:List (List V)}(h:eO K H qs xs)(k:∀b x,c7 K H b x->c7 K c b x):eO K c qs xs:=⟨h.len,λi q x a b=>k _ _ (h.at' i q x a b)⟩
noncomputable def gE(n:Nat)(R:Nat->RM.Row):List (List V):=(az n).map λi=>RM.cU (R i)
structure rH(K:af)(H:Hp)(n:Nat)(q:TQ)(s:NS):Prop where
 rows:∀g,g<3->eO K H (q.rq g) (gE n (s.R g))
 aG:∀i l,s.ls[i]?=some l->eO K H (q.dq i) (l.aG.map fR.vs)
 cps:eO K H q.cq (s.cps.map Cp.vs)
theorem rH.mono{K:af}{H a:Hp}{n:Nat}{q:TQ}{s:NS}(h:rH K H n q s)(k:∀b x,c7 K H b x->c7 K a b x):rH K a n q s :=
 ⟨λg c=>(h.rows g c).mono k,λi l e=>(h.aG i l e).mono k,h.cps.mono k⟩
def dF(K:af)(c:NC)(H:Hp)(F:Addr->Prop)(p tp:Addr)(n:Nat)(s:NS):Prop :=
 ∃loc dx q,loc .dO=p/\xh H loc (desc c dx tp loc q s)/\(∀b,F b↔Fp loc (desc c dx tp loc q s) b)/\rH K H n q s
structure Step(H:Hp)(F:Addr->Prop)(H':Hp)(F':Addr->Prop):Prop where
 kp:∀b o,H b=some o->¬F b->H' b=some o
 fr:∀b,F' b->F b∨H b=none
theorem Py{c:NC}{k:Role->Addr}{j:Addr}{i:Role->Addr}{q:TQ}{s:NS}{r:Role}{o:HO}(h:desc c k j i q s r=some o):vW o:=by
 have b:∀{g:Type} {f:g->HO} {x:Option g},(∀a,vW (f a))->x.map f=some o->vW o:=λ{g f x} n e=>by
  cases x with
  |none=>cases e
  |some a=>cases e;exact n a
 have ins:∀{C d:Addr} {m:List (Str×V)},vW (.ins C d m):=mZ;cases r <;> simp only[desc] at h
 all_goals first
  | (cases h;exact mZ)
  | (cases h;exact lW)
  |exact b (λ_=>lW) h
  |exact b (λ_=>mZ) h
  | (split at h
     ·cases h;first|exact lW|exact mZ|exact adC
     ·cases h)
  | (refine b (λl=>?_) h;unfold rG;split <;> exact mZ)
  | (refine b (λl=>?_) h;exact λp=>⟨λe=>(by cases e),λo e=>(by cases e)⟩)
section
variable{K:af}{c:NC}{CT:Addr}{H H':Hp}{F F':Addr->Prop}{p tp ln lr:Addr}{n:Nat}{s s':NS}{ns:List Int}{rs:List R5}
theorem dF.mono(h:dF K c H F p tp n s)(e:aH H H'):dF K c H' F p tp n s:=by
 obtain⟨a,f,q,g,d,i,j⟩:=h;exact⟨a,f,q,g,d.mono e,i,j.mono λb x=>e.eK⟩
theorem dF.M2(h:dF K c H F p tp n s){b:Addr}{o:HO}(i:F b)(e:H b=some o):vW o:=by
 obtain⟨d,f,q,l,j,k,m⟩:=h;obtain⟨r,g,rfl⟩:=(k b).mp i;cases a:desc c f tp d q s r with
 |none=>exact b5 a g
 |some u =>
  have:=j.get r u a
  rw[e] at this;cases this;exact Py a
theorem dF.there(h:dF K c H F p tp n s){b:Addr}(i:F b):∃o,H b=some o:=by
 obtain⟨a,g,q,k,f,j,l⟩:=h;obtain⟨r,e,rfl⟩:=(j b).mp i;cases d:desc c g tp a q s r with
 |none=>exact b5 d e
 |some u=>exact⟨u,f.get r u d⟩
theorem dF.tup(h:dF K c H F p tp n s)(a:∀b o,H b=some o->¬F b->H' b=some o){b:Addr}{x:List V}(e:c7 K H b x):c7 K H' b x:=by
 rcases e with (e|⟨o,e⟩)|e
 ·exact .inl (.inl (a _ _ e λz=>(h.M2 z e x).1 rfl))
 ·exact .inl (.inr ⟨o,a _ _ e λz=>(h.M2 z e x).2 o rfl⟩)
 ·exact .inr e
theorem dF.keep(h:dF K c H F p tp n s)(i:∀b o,H b=some o->F b->H' b=some o)(j:∀b x,c7 K H b x->c7 K H' b x):dF K c H' F p tp n s:=by
 obtain⟨a,g,q,k,f,d,l⟩:=h;exact⟨a,g,q,k,f.keep λb o e z=>i b o e ((d b).mpr z),d,l.mono j⟩
end
mutual
theorem Rep.tups{K:af}{H g:Hp}(c:∀b x,c7 K H b x->c7 K g b x):∀{d:PyData} {v:V},M0 d=true->Rep K H d v->Rep K g d v
 |.none,_,_,h=>h
 |.bool _,_,_,h=>h
 |.int _,_,_,h=>h
 |.str _,_,_,h=>h
 |.list _,_,f,_=>by simp[M0] at f
 |.tuple ds,_,f,⟨a,vs,e,q,r⟩=>⟨a,vs,e,c _ _ q,bS.tups c f r⟩
 |.dict _,_,_,h=>h
theorem bS.tups{K:af}{H a:Hp}(c:∀b x,c7 K H b x->c7 K a b x):∀{ds:List PyData} {vs:List V},DQ ds=true->bS K H ds vs->bS K a ds vs
 |[],_,_,h=>h
 |d::ds,_,f,⟨v,r,e,q,t⟩=>by
  have f:(M0 d&&DQ ds)=true:=f;rw[dw] at f;exact⟨v,r,e,Rep.tups c f.1 q,bS.tups c f.2 t⟩
end
theorem GV:∀rs:List R5,DQ (rs.map R5.D)=true
 |[]=>rfl
 |r::rs=>by
  show (M0 r.D&&DQ (rs.map R5.D))=true;rw[GV rs];rfl
section
variable{K:af}{c:NC}{CT:Addr}{H H':Hp}{F F':Addr->Prop}{p tp ln lr:Addr}{n:Nat}{s s':NS}{ns:List Int}{rs:List R5}
theorem dc.keep(h:dc K CT H tp ln lr ns rs)(k1:∀b o,H b=some o->b=tp∨b=ln∨b=lr->H' b=some o)(e:∀b x,c7 K H b x->c7 K H' b x):dc K CT H' tp ln lr ns rs:=by
 obtain⟨⟨c,f⟩,a,d,g,i⟩:=h;exact⟨⟨c,k1 _ _ f (.inl rfl)⟩,k1 _ _ a (.inr (.inl rfl)),d,k1 _ _ g (.inr (.inr rfl)),bS.tups e (GV rs) i⟩
structure NW(K:af)(c:NC)(CT:Addr)(H:Hp)(F:Addr->Prop)(p tp ln lr:Addr)(ns:List Int)(rs:List R5)(s:NS):Prop where
 dO:dF K c H F p tp ns.length s
 sA:dc K CT H tp ln lr ns rs
 o1:¬F tp
 o2:¬F ln
 o3:¬F lr
theorem NW.mono(h:NW K c CT H F p tp ln lr ns rs s)(e:aH H H'):NW K c CT H' F p tp ln lr ns rs s:=⟨h.dO.mono e,h.sA.mono e,h.o1,h.o2,h.o3⟩
theorem NW.done(h:NW K c CT H F p tp ln lr ns rs s)(st:Step H F H' F')(d:dF K c H' F' p tp ns.length s'):NW K c CT H' F' p tp ln lr ns rs s':=by
 have f:∀b x,c7 K H b x->c7 K H' b x:=λb x=>h.dO.tup st.kp;obtain⟨⟨k,a⟩,i,l,j,m⟩:=id h.sA;have nf:∀b o,H b=some o->¬F b->¬F' b:=λb o e g z=>by
  rcases st.fr b z with w|w
  ·exact g w
  ·rw[e] at w;cases w
 refine⟨d,h.sA.keep (λb o e q=>st.kp b o e ?_) f,nf _ _ a h.o1,nf _ _ i h.o2,nf _ _ j h.o3⟩;rcases q with rfl|rfl|rfl
 ·exact h.o1
 ·exact h.o2
 ·exact h.o3
theorem Step.refl'(e:aH H H'):Step H F H' F:=⟨λb o q _=>e _ _ q,λb z=>.inl z⟩
theorem Step.trans{c:Hp}{d:Addr->Prop}(a:Step H F H' F')(b:Step H' F' c d):Step H F c d:=by
 refine⟨λx o e nf=>b.kp x o (a.kp x o e nf) λz=>?_,λx z=>?_⟩
 ·rcases a.fr x z with w|w
  ·exact nf w
  ·rw[e] at w;cases w
 ·rcases b.fr x z with w|w
  ·exact a.fr x w
  ·by_cases q:F x
   ·exact .inl q
   ·refine .inr ?_
    cases f:H x with
    |none=>rfl
    |some o =>
     have:=a.kp x o f q
     rw[this] at w;cases w
end
theorem xh.join{H:Hp}{i k:Role->Addr}{j c:Role->Option HO}(a:xh H i j)(b:xh H k c)(m:∀r q,j r≠none->c q≠none->i r≠k q) :
 xh H (λr=>if (c r).isSome=true then k r else i r) (λr=>if (c r).isSome=true then c r else j r):=by
 have l:∀{r},(c r).isSome=true->c r≠none:=λ{r} h e=>by rw[e] at h;cases h
 refine⟨λr o e=>?_,λr q f d e=>?_⟩
 ·by_cases z:(c r).isSome=true
  ·rw[aq z] at e ⊢
   exact b.get r o e
  ·rw[b3 z] at e ⊢
   exact a.get r o e
 ·by_cases z:(c r).isSome=true
  ·by_cases g:(c q).isSome=true
   ·simp only[z,g,if_true] at f d e
    exact b.inj r q f d e
   ·simp only[z,g,if_true,if_false] at f d e
    exact b5 e.symm (m q r (by simpa using d) (l z))
  ·by_cases g:(c q).isSome=true
   ·simp only[z,g,if_true,if_false] at f d e
    exact b5 e (m r q (by simpa using f) (l g))
   ·simp only[z,g,if_false] at f d e
    exact a.inj r q (by simpa using f) (by simpa using d) e
structure FJ(H0 H:Hp)(p:Addr)(loc:Role->Addr)(ob:Role->Option HO):Prop where
 own:xh H loc ob
 np:loc .dO=p
 hn:ob .dO≠none
 kp:∀b o,H0 b=some o->b≠p->H b=some o
 fr:∀b,Fp loc ob b->b=p∨H0 b=none
section
variable{H0 H H':Hp}{p:Addr}{loc:Role->Addr}{ob:Role->Option HO}
theorem FJ.free(h:FJ H0 H p loc ob){a:Addr}(c:H a=none):H0 a=none:=by
 cases e:H0 a with
 |none=>rfl
 |some o =>
  by_cases z:a=p
  ·exfalso
   cases b:ob .dO with
   |none=>exact h.hn b
   |some u =>
    have:=h.own.get .dO u b
    rw[h.np,<- z,c] at this;cases this
  ·have:=h.kp a o e z
   rw[c] at this;cases this
theorem FJ.new(h:FJ H0 H p loc ob){a:Addr}(c:H a=none){r:Role}(d:r≠.dO)(o:HO):FJ H0 (upd H a o) p (yP loc r a) (jC ob r o):=by
 refine⟨h.own.new c r o,by rw[jF (bN d)];exact h.np,by rw[dP (bN d)];exact h.hn,λb u e n=>?_,λb f=>?_⟩
 ·have:=h.kp b u e n
  rw[aK (aQ this c)];exact this
 ·rcases h.own.Zq f with z|rfl
  ·exact h.fr b z
  ·exact .inr (h.free c)
theorem FJ.put(h:FJ H0 H p loc ob)(o:HO):FJ H0 (upd H p o) p loc (jC ob .dO o):=by
 have e:=h.own.set (r:=.dO) h.hn o;rw[h.np] at e;refine⟨e,h.np,by rw[eT];exact aV o,λb u q n=>?_,λb a=>h.fr b ((JY h.hn).mp a)⟩;rw[aK n];exact h.kp b u q n
theorem xh.add{H H':Hp}{loc:Role->Addr}{ob:Role->Option HO}(h:xh H loc ob)(s:aH H H'){a:Addr}(c:H a=none){o:HO}(e:H' a=some o)(r:Role):xh H' (yP loc r a) (jC ob r o):=by
 have d:=h.new c r o;refine⟨λq u b=>?_,d.inj⟩;by_cases z:q=r
 ·subst z
  rw[eT] at b;cases b;rw[jr];exact e
 ·rw[dP z] at b
  rw[jF z];exact s _ _ (h.get q u b)
theorem FJ.add(h:FJ H0 H p loc ob)(s:aH H H'){a:Addr}(d:H a=none){o:HO}(e:H' a=some o){r:Role}(f:r≠.dO):FJ H0 H' p (yP loc r a) (jC ob r o):=by
 have c:=h.new d f o;exact⟨h.own.add s d e r,c.np,c.hn,λb u q n=>s _ _ (h.kp b u q n),c.fr⟩
theorem FJ.aa1(h:FJ H0 H p loc ob){r:Role}(a:ob r≠none)(c:r≠.dO)(o:HO):FJ H0 (upd H (loc r) o) p loc (jC ob r o):=by
 refine⟨h.own.set a o,h.np,by rw[dP (bN c)];exact h.hn,λb u e n=>?_,λb d=>h.fr b ((JY a).mp d)⟩;have f:b≠loc r:=λz=>by
  rcases h.fr (loc r) ⟨r,a,rfl⟩ with w|w
  ·exact n (z.trans w)
  ·rw[z,w] at e;cases e
 rw[aK f];exact h.kp b u e n
theorem FJ.ext{loc':Role->Addr}{Ua:Role->Option HO}(h:FJ H0 H p loc ob)(f:∀r,ob r=Ua r)(c:∀r,ob r≠none->loc r=loc' r):FJ H0 H p loc' Ua:=by
 have e:ob=Ua:=funext f;subst e;refine⟨⟨λr o e=>?_,λr q a b e=>h.own.inj r q a b ?_⟩,?_,h.hn,h.kp,λb d=>?_⟩
 ·rw[<- c r (by rw[e];exact aV o)]
  exact h.own.get r o e
 ·rw[c r a,c q b]
  exact e
 ·rw[<- c .dO h.hn]
  exact h.np
 ·obtain⟨r,a,e⟩:=d
  exact h.fr b ⟨r,a,(c r a).trans e⟩
theorem FJ.join{f:Role->Addr}{a:Role->Option HO}(h:FJ H0 H p loc ob)(b:xh H' f a)(g:a .dO=none)(fresh:∀r,a r≠none->H (f r)=none)(s:aH H H') :
 FJ H0 H' p (λr=>if (a r).isSome=true then f r else loc r) (λr=>if (a r).isSome=true then a r else ob r):=by
 refine⟨(h.own.mono s).join b λr q c d e=>?_,?_,?_,λb o e n=>s _ _ (h.kp b o e n),λx j=>?_⟩
 ·cases i:ob r with
  |none=>exact c i
  |some u =>
   have:=h.own.get r u i
   rw[e,fresh q d] at this;cases this
 ·show (if (a .dO).isSome=true then _ else _)=p
  rw[g];exact h.np
 ·show (if (a .dO).isSome=true then _ else _)≠none
  rw[g];exact h.hn
 ·obtain⟨r,c,d⟩:=j
  by_cases z:(a r).isSome=true
  ·simp only[z,if_true] at c d
   rw[<- d];exact .inr (h.free (fresh r c))
  ·simp only[z,if_false] at c d
   exact h.fr x ⟨r,by simpa using c,by simpa using d⟩
end
noncomputable def yQ(ns:List Int)(i:Nat):RM.Row:=⟨ns.getD i 0,0,0,-1⟩
noncomputable def S0(ns:List Int)(rs:List R5)(cl:List (Nat×Nat)):NS where
 ws:=rs.map λr=>az r.d.toNat
 R:=λ_=>yQ ns
 ts:=λ_=>[]
 aD:=cl.map (·.1)
 groups:=cl.map (·.2)
 had:=cl.map λ_=>[]
 ls:=[]
 cps:=[]
noncomputable def SV(C dx tp lu:Addr)(ls:List Addr)(ws:List (List Nat)):Role->Option HO
 |.fj=>some (.ins C dx [("town",.ref tp),("upright",.ref lu)])
 |.iY=>some (.lst (ls.map V.ref))
 |.oi i=>ws[i]?.map λw=>.lst (bM w)
 |_=>none
noncomputable def XQ(sp lu:Addr)(ls:List Addr):Role->Addr
 |.fj=>sp
 |.iY=>lu
 |.oi i=>ls.getD i 0
 |_=>0
theorem aa2{H:Hp}{C sp p n d:Addr}{ls:List Addr}{f:List (List Nat)}(s:H sp=some (.ins C p [("town",.ref n),("upright",.ref d)]))(x:H d=some (.lst (ls.map V.ref)))(hl:ls.length=f.length)
 (A:∀(i:Nat) l w,ls[i]?=some l->f[i]?=some w->H l=some (.lst (bM w))) (nd:ls.Nodup) (D:d∉ls):xh H (XQ sp d ls) (SV C p n d ls f):=by
 have b:∀{i:Nat},SV C p n d ls f (.oi i)≠none->∃(a:i<ls.length),XQ sp d ls (.oi i)=ls[i]:=λ{i} h=>by
  have a:i<ls.length:=by
   rw[hl];by_cases z:i<f.length
   ·exact z
   ·exact b5 (show (f[i]?.map λw=>HO.lst (bM w))=none by rw[jg ∅];rfl) h
  refine⟨a,?_⟩;show ls.getD i 0=ls[i];rw[au,aa a];rfl
 have B:∀{i:Nat} (a:i<ls.length),∃w,H ls[i]=some (.lst (bM w)):=λ{i} a=>⟨f[i]'(hl▸a),A i _ _ (aa a) (aa (hl▸a))⟩;have v:sp≠d:=Px s x (λe=>by cases e);have y:∀{i:Nat} (a:i<ls.length),sp≠ls[i]:=λ{i} a=>by
  obtain⟨w,k⟩:=B a;exact Px s k (λe=>by cases e)
 have u:∀{i:Nat} (a:i<ls.length),d≠ls[i]:=λ{i} a e=>D (e▸aM a);refine⟨λr o e=>?_,λr q m g e=>?_⟩
 ·cases r <;> first|(cases e;done)|skip
  case fj=>cases e;exact s
  case iY=>cases e;exact x
  case oi i =>
   obtain⟨a,c⟩:=b (i:=i) (by rw[e];exact aV o);have k:=aa (hl▸a:i<f.length);have e:(f[i]?.map λw=>HO.lst (bM w))=some o:=e;rw[k] at e;cases e;rw[c];exact A i _ _ (aa a) k
 ·cases r <;> first|exact b5 rfl m|skip
  all_goals cases q <;> first|exact b5 rfl g|rfl|skip
  case fj.iY=>exact b5 e v
  case fj.oi i =>
   obtain⟨a,c⟩:=b g;exact b5 (e.trans c) (y a)
  case iY.fj=>exact b5 e.symm v
  case iY.oi i =>
   obtain⟨a,c⟩:=b g;exact b5 (e.trans c) (u a)
  case oi.fj i =>
   obtain⟨a,c⟩:=b m;exact b5 (e.symm.trans c) (y a)
  case oi.iY i =>
   obtain⟨a,c⟩:=b m;exact b5 (e.symm.trans c) (u a)
  case oi.oi i j =>
   obtain⟨a,c⟩:=b m;obtain⟨E,t⟩:=b g;rw[c,t] at e;have q:ls[i]?=ls[j]?:=by rw[aa a,aa E,e]
   have:=(List.getElem?_inj a nd).mp q
   rw[this]
structure dH(ns:List Int)(rs:List R5):Prop where
 nd:ns.Nodup
 ok:∀r∈rs,r.Ok ns.length
 n1:1<=ns.length
 jb:ns.length<=10
 Ub:rs.length<=20
 pos:∀x∈ns,0<=x
structure BE(ns:List Int)(rs:List R5)(s:NS):Prop where
 wl:s.ws.length=rs.length
 w4:∀w∈s.ws,w.length<=4
 fit:∀g,g<3->w9 ns.length rs.length (s.R g)
noncomputable abbrev Q0(rs:List R5)(ws:List (List Nat))(g:Nat):List Nat:=zg rs ws g rs.length
theorem zk{rs:List R5}{a:List (List Nat)}{g:Nat}:∀k∈Q0 rs a g,k<rs.length:=λk b=>c5.mp (bq.mp b).1
noncomputable def iI(ns:List Int)(rs:List R5)(o:dH ns rs)(ws:List (List Nat))(g:Nat):RM.Net:=aZ ns rs (Q0 rs ws g) o.nd o.ok zk
section
variable{K:af}{c:NC}{CT:Addr}{H H':Hp}{loc dx:Role->Addr}{q:TQ}{p tp ln lr:Addr}{n:Nat}{s:NS}{ns:List Int}{rs:List R5}
theorem xh.strAt(O:xh H loc (desc c dx tp loc q s)):QV c.str H (loc .fj) tp (loc .iY) s.ws:=by
 refine⟨⟨dx .fj,O.get .fj _ rfl⟩,(az s.ws.length).map λi=>loc (.oi i),?_,by rw[ah,bG],λi l w a b=>?_⟩
 ·have:=O.get .iY _ rfl
  rw[this,cX];rfl
 ·have d:=(ai.mp b).1
  rw[ak,dX d] at a;cases a;exact O.get (.oi i) _ (by show (s.ws[i]?.map _)=_;rw[b];rfl)
theorem xh.Lj(O:xh H loc (desc c dx tp loc q s)){g:Nat}(a:g<3):qv c.book H (loc (.book g)) (loc (.fB g)) (s.ts g) :=
 ⟨⟨dx (.book g),O.get (.book g) _ (aq a)⟩,O.get (.fB g) _ (aq a)⟩
theorem qw{f:Nat->V}{m g:Nat}(h:g<m):FG ((az m).map f) (g:Int)=some (f g):=fD (by rw[ak,dX h];rfl)
theorem eO.Lk{l:Addr}{qs:List Addr}{R:Nat->RM.Row}(h:eO K H qs (gE n R))(hl:bQ K H l (qs.map V.ref)):sq K H l n R:=by
 have e:qs.length=n:=by rw[h.len];simp[gE]
 refine⟨qs,hl,e,λi p a=>h.at' i p _ a ?_⟩;have b:=(ai.mp a).1;unfold gE;rw[ak,dX ∅];rfl
theorem kQ{xs:List Nat}{i:Nat}(h:i<xs.length):FG (bM xs) (i:Int)=some (.int (xs[i]:Nat)):=fD (by rw[ak,aa h];rfl)
end
noncomputable def fH{α:Type}(f:Nat->α)(i:Nat)(v:α):Nat->α:=λg=>if g=i then v else f g
theorem cC{α:Type}{f:Nat->α}{i:Nat}{v:α}:fH f i v i=v:=aq rfl
theorem dQ{α:Type}{f:Nat->α}{i g:Nat}{v:α}(h:g≠i):fH f i v g=f g:=b3 h
theorem xh.ext{H:Hp}{c loc':Role->Addr}{ob Ua:Role->Option HO}(h:xh H c ob)(f:∀r,ob r=Ua r)(d:∀r,ob r≠none->c r=loc' r):xh H loc' Ua/\∀b,Fp c ob b↔Fp loc' Ua b:=by
 have e:ob=Ua:=funext f;subst e;refine⟨⟨λr o e=>?_,λr q a b e=>h.inj r q a b ?_⟩,λb=>⟨λ⟨r,a,e⟩=>⟨r,a,(d r a).symm.trans e⟩,λ⟨r,a,e⟩=>⟨r,a,(d r a).trans e⟩⟩⟩
 ·rw[<- d r (by rw[e];exact aV o)]
  exact h.get r o e
 ·rw[d r a,d q b]
  exact e
section
variable{K:af}{c:NC}{H H':Hp}{F:Addr->Prop}{loc dx:Role->Addr}{q:TQ}{p tp:Addr}{n g:Nat}{s:NS}
theorem PB(I:loc .dO=p)(O:xh H loc (desc c dx tp loc q s))(y:∀b,F b↔Fp loc (desc c dx tp loc q s) b)(m:rH K H n q s)(B:g<3){d' d:Addr}(j:H d'=none)
 (L:H' (loc (.book g))=some (.ins c.book d [("kept",.ref d')])) (S:H' d'=some (.dT [])) (D:∀b o,H b=some o->b≠loc (.book g)->H' b=some o) :
 ∃J,dF K c H' J p tp n {s with ts:=fH s.ts g []}/\Step H F H' J:=by
 have A:desc c dx tp loc q s (.book g)≠none:=by
  show (if g<3 then some _ else none)≠none;rw[aq B];exact aV _
 have G:F (loc (.book g)):=(y _).mpr ⟨.book g,A,rfl⟩;have h:∀b o,H b=some o->¬F b->H' b=some o:=λb o e z=>D b o e λw=>z (w▸G);have t:dF K c H F p tp n s:=⟨loc,dx,q,I,O,y,m⟩;have C:=O.set A (.ins c.book d [("kept",.ref d')]);have u:d'≠loc (.book g):=λz=>by
  have:=t.there G
  obtain⟨o,e⟩:=this;rw[z,e] at j;cases j
 have v:(upd H (loc (.book g)) (.ins c.book d [("kept",.ref d')])) d'=none:=by rw[aK u];exact j
 have M:=C.new v (.fB g) (.dT []);have N:xh H' (yP loc (.fB g) d') (jC (jC (desc c dx tp loc q s) (.book g) (.ins c.book d [("kept",.ref d')])) (.fB g) (.dT [])):=by
  refine M.keep λb o e _=>?_;by_cases z:b=d'
  ·rw[z,aC] at e
   cases e;rw[z];exact S
  ·rw[aK z] at e
   by_cases f:b=loc (.book g)
   ·rw[f,aC] at e
    cases e;rw[f];exact L
   ·rw[aK f] at e
    exact D b o e f
 obtain⟨P,Q⟩:=N.ext (Ua:=desc c (λr=>if r=.book g then d else dx r) tp (yP loc (.fB g) d') q {s with ts:=fH s.ts g []}) (loc':=yP loc (.fB g) d') (λr=>by
  cases r <;> first|rfl|skip
  ·rename_i k
   show jC (desc c dx tp loc q s) (.book g) _ (.book k)=(if k<3 then some (HO.ins c.book (if Role.book k=.book g then d else dx (.book k)) [("kept",.ref (yP loc (.fB g) d' (.fB k)))]) else none);by_cases z:k=g
   ·subst z
    rw[eT,aq B,aq rfl,jr]
   ·have E:Role.book k≠.book g:=λe=>z (by cases e;rfl)
    have a:Role.fB k≠.fB g:=λe=>z (by cases e;rfl);rw[dP E,b3 E,jF a];rfl
  ·rename_i k
   show jC (jC (desc c dx tp loc q s) (.book g) _) (.fB g) _ (.fB k)=(if k<3 then some (HO.dT ((fH s.ts g [] k).map iT)) else none);by_cases z:k=g
   ·subst z
    rw[eT,aq B,cC];rfl
   ·have a:Role.fB k≠.fB g:=λe=>z (by cases e;rfl)
    rw[dP a,dQ z];rfl) (λr _=>rfl)
 refine⟨Fp _ _,⟨_,_,q,?_,P,λb=>Iff.rfl,⟨λk T=>(m.rows k T).mono λb x=>t.tup h,λi l e=>(m.aG i l e).mono λb x=>t.tup h,m.cps.mono λb x=>t.tup h⟩⟩,h,λb R=>?_⟩
 ·rw[jF (λz=>by cases z)]
  exact I
 ·rcases C.Zq ((Q b).mpr R) with z|rfl
  ·exact .inl ((y b).mpr ((JY A).mp z))
  ·exact .inr j
theorem XR(D:loc .dO=p)(O:xh H loc (desc c dx tp loc q s))(u:∀b,F b↔Fp loc (desc c dx tp loc q s) b)(h:rH K H n q s)(G:g<3){x:Nat}(U:x<n){a:Addr}{d:RM.Row}(P:c7 K H a (RM.cU d)) :
 ∃E,dF K c (upd H (loc (.rows g)) (.lst (((q.rq g).map V.ref).set x (.ref a)))) E p tp n {s with R:=fH s.R g (RM.upd (s.R g) x d)}/\Step H F (upd H (loc (.rows g)) (.lst (((q.rq g).map V.ref).set x (.ref a)))) E:=by
 have y:desc c dx tp loc q s (.rows g)≠none:=by
  show (if g<3 then some _ else none)≠none;rw[aq G];exact aV _
 have M:F (loc (.rows g)):=(u _).mpr ⟨.rows g,y,rfl⟩;have B:∀b o,H b=some o->¬F b->(upd H (loc (.rows g)) (.lst (((q.rq g).map V.ref).set x (.ref a)))) b=some o:=λb o e z=>by
  have S:b≠loc (.rows g):=λw=>z (w▸M);rw[aK S];exact e
 have T:dF K c H F p tp n s:=⟨loc,dx,q,D,O,u,h⟩;have j:∀{b x},c7 K H b x->_:=λ{b x} e=>T.tup B (b:=b) (x:=x) e;have J:=O.set y (.lst (((q.rq g).map V.ref).set x (.ref a)));obtain⟨L,N⟩:=J.ext (Ua:=desc c dx tp loc {q with rq:=fH q.rq g ((q.rq g).set x a)} {s with R:=fH s.R g (RM.upd (s.R g) x d)}) (loc':=loc) (λr=>by
  cases r <;> first|rfl|skip
  rename_i k;show jC (desc c dx tp loc q s) (.rows g) _ (.rows k)=(if k<3 then some (HO.lst ((fH q.rq g ((q.rq g).set x a) k).map V.ref)) else none);by_cases z:k=g
  ·subst z
   rw[eT,aq G,cC,vI]
  ·rw[dP (λe=>z (by cases e;rfl)),dQ z]
   rfl) (λr _=>rfl)
 refine⟨Fp _ _,⟨loc,dx,_,D,L,λb=>Iff.rfl,⟨λk I=>?_,λi l e=>(h.aG i l e).mono λb x=>j,h.cps.mono λb x=>j⟩⟩,B,λb Q=>.inl ((u b).mpr ((JY y).mp ((N b).mpr Q)))⟩;show eO K _ (fH q.rq g ((q.rq g).set x a) k) (gE n (fH s.R g (RM.upd (s.R g) x d) k));by_cases z:k=g
 ·subst z
  rw[cC,cC];have C:=h.rows k I;have A:(q.rq k).length=n:=by rw[C.len];simp[gE]
  refine⟨by rw[br,A];simp[gE],λi b v f t=>?_⟩;have m:=(ai.mp f).1;rw[br,A] at m;unfold gE at t;rw[ak,dX m] at t;cases t;rw[jO] at f;by_cases w:x=i
  ·subst w
   rw[aq rfl,aq (by rw[A];exact m)] at f;cases f
   have:RM.upd (s.R k) x d x=d:=by unfold RM.upd;rw[aq rfl]
   show c7 K _ a (RM.cU (RM.upd (s.R k) x d x));rw[this];exact j P
  ·rw[b3 w] at f
   have:RM.upd (s.R k) x d i=s.R k i:=by unfold RM.upd;rw[b3 (bN w)]
   show c7 K _ b (RM.cU (RM.upd (s.R k) x d i));rw[this];exact j (C.at' i b _ f (by unfold gE;rw[ak,dX m];rfl))
 ·rw[dQ z,dQ z]
  exact (h.rows k I).mono λb x=>j
end
end TW
namespace TW
open PySem L2 PyProof.Rows
open Classical in
noncomputable def Off(H:Hp)(F:Addr->Prop):Hp:=λb=>if F b then none else H b
section
variable{K:af}{c:NC}{CT:Addr}{H H':Hp}{F F' F1 F2 G:Addr->Prop}{p tp ln lr:Addr}{n:Nat}{s:NS}{ns:List Int}{rs:List R5}
theorem jY{b:Addr}{o:HO}(h:Off H F b=some o):¬F b/\H b=some o:=by
 unfold Off at h;by_cases z:F b
 ·rw[aq z] at h;cases h
 ·rw[b3 z] at h;exact⟨z,h⟩
theorem iZ{b:Addr}{o:HO}(z:¬F b)(h:H b=some o):Off H F b=some o:=by
 unfold Off;rw[b3 z];exact h
theorem cF:aH (Off H F) H:=λb o e=>(jY e).2
theorem iJ(st:Step H F H' F'):aH (Off H F) (Off H' F'):=λb o e=>by
 obtain⟨c,a⟩:=jY e;refine iZ (λz=>?_) (st.kp b o a c);rcases st.fr b z with w|w
 ·exact c w
 ·rw[a] at w;cases w
theorem cR(e:aH H H'):aH (Off H F) (Off H' F):=iJ (Step.refl' e)
theorem Q3{z:Addr}{o:HO}(a:¬F z):Off (upd H z o) F=upd (Off H F) z o:=by
 funext b;by_cases e:b=z
 ·subst e
  rw[aC];exact iZ a aC
 ·rw[aK e]
  unfold Off;rw[aK e]
theorem dF.XS(h:dF K c H F p tp n s){b:Addr}{x:List V}(e:c7 K H b x):c7 K (Off H F) b x:=by
 rcases e with (e|⟨o,e⟩)|e
 ·exact .inl (.inl (iZ (λz=>(h.M2 z e x).1 rfl) e))
 ·exact .inl (.inr ⟨o,iZ (λz=>(h.M2 z e x).2 o rfl) e⟩)
 ·exact .inr e
theorem dc.nw(a:dc K CT (Off H G) tp ln lr ns rs)(N:dF K c H F p tp ns.length s)(sub:∀b,F b->G b):NW K c CT H F p tp ln lr ns rs s:=by
 obtain⟨⟨g,e⟩,d,h,f,i⟩:=id a;exact⟨N,a.mono cF,λz=>(jY e).1 (sub _ z),λz=>(jY d).1 (sub _ z),λz=>(jY f).1 (sub _ z)⟩
end
def Ll(K:af)(H:Hp)(l:Addr)(rs:List R5):Prop:=∃qs:List Addr,H l=some (.lst (qs.map V.ref))/\eO K H qs (rs.map R5.vs)
theorem Ll.keep{K:af}{H a:Hp}{l:Addr}{rs:List R5}(h:Ll K H l rs)(k:∀o,H l=some o->a l=some o)(e:∀b x,c7 K H b x->c7 K a b x):Ll K a l rs:=by
 obtain⟨d,f,c⟩:=h;exact⟨d,k _ f,c.mono e⟩
theorem Ll.Q4{K:af}{H:Hp}{l:Addr}:∀{rs:List R5} {qs:List Addr},eO K H qs (rs.map R5.vs)->bS K H (rs.map R5.D) (qs.map V.ref)
 |[],[],_=>rfl
 |[],_::_,h=>by cases h.len
 |_::_,[],h=>by cases h.len
 |r::rs,q::qs,h=>⟨.ref q,qs.map V.ref,rfl,Rep.MH (ns:=r.ns) (h.at' 0 q _ rfl rfl),Ll.Q4 (l:=l) ⟨Nat.succ.inj h.len,λi p x a b=>h.at' (i+1) p x a b⟩⟩
theorem Q5{F G:Addr->Prop}{H:Hp}(h:∀b,F b->G b):aH (Off H G) (Off H F):=λb o e=>iZ (λz=>(jY e).1 (h b z)) (jY e).2
theorem Vr{H c d:Hp}{F:Addr->Prop}{p:Addr}(t:aH H c)(a:H p=none)(g:∀b o,c b=some o->b≠p->d b=some o)(f:∀b,F b->b=p∨c b=none):aH H (Off d F):=λb o e=>iZ (λz=>by
 rcases f b z with rfl|w
 ·rw[e] at a;cases a
 ·rw[t _ _ e] at w;cases w) (g b o (t b o e) (aQ e a))
end TW
namespace L2
open PySem PySem.Spec PyProof.Rows
structure Lm(K:af)(x qual:Str)(st:Stmt)(f:Addr)(fd:FuncData)(dv:Value):Prop where
 ex:∃(oc:Value) (od:Option Addr) (T:Addr) (o:Obj) (n:Nat) (kV doc pm:Value) (an:Option Addr) (cdv ct:Value) (osl:Array (Option Value)),
  fd=e9 x qual (jE st) (fW st) (aF st) (.ref T) kV doc pm an cdv ct/\K.lookup f=some ⟨oc,od,.func fd,osl⟩/\jx K cdv qual=true/\K.lookup T=some o/\o.data=.seq #[dv] n
 kp:d9 K (.ref f)=true
section
variable{P:Program}{w:World}{K:af}{mg:Str->Option Value}{base:Heap}
theorem Lm.ok{x b:Str}{st:Stmt}{f:Addr}{i:FuncData}{m:Value}{N ps:List Str}{k:Nat}{sp:Sp}(F:Lm K x b st f i m)(S:aO N ps (aF st))(g:∀vs H Q E,sp vs H Q E->vs.length=ps.length)
 (d:∀(c:Value) (A:Around) (a:List Env) (s:Shared) (H:Hp) (vs:List V) (Q:VK) (E:XK),jT k (A.deeper (envOfC b (aF st) s.heap.objs.size f c))->sp vs H Q E ->
  ∃t,iR (oq iS P w K mg base N b (aF st) f c A a s H E).Y7 (fW st) t/\t {nx:=λ_ r=>Q .fM r,rt:=Q} (start N vs) H):cE P w K mg base iS (k+1) f i ps sp:=by
 obtain⟨z,C,T,o,n,kV,l,y,v,c,B,j,rfl,lk,e,_⟩:=F.ex;refine UL lk e S g λA a s H vs Q E p u=>?_;obtain⟨t,h,q⟩:=d c A a s H vs Q E p u;exact⟨t,h.Y7,q⟩
theorem Lm.binds{x a:Str}{st:Stmt}{f:Addr}{g:FuncData}{i:Value}{ps:List Str}{ds:List Value}{m:Nat}(F:Lm K x a st f g i)(v:m+ds.length=ps.length)
 (h:∀(T:Addr) (kV b e:Value) (d:Option Addr) (c ct:Value) (us:List Value),us.length=m ->
  ∃k,bindArgs (e9 x a (jE st) (fW st) (aF st) (.ref T) kV b e d c ct) ⟨us,[]⟩=seqItems? (.ref T) >>= k/\k (some #[i])=pure (ps.zip (us++ds))):Binds K g ps ds:=by
 obtain⟨w,y,T,o,n,kV,b,e,d,c,ct,j,rfl,lk,l,lt,r⟩:=F.ex;intro s us u q;obtain⟨k,p,t⟩:=h T kV b e d c ct us (by rw[aA] at q;lia);exact PySem.W.binds_K u rfl lt r p t
theorem Q6{x a:Str}{st:Stmt}{f T:Addr}{o:Obj}{n:Nat}{i:Value}{j:Value}{m g:Option Addr}{e:Array (Option Value)}{kV d h b ct:Value}(l:K.lookup f=some ⟨j,m,.func (e9 x a (jE st) (fW st) (aF st) (.ref T) kV d h g b ct),e⟩)
 (c:jx K b a=true) (k:d9 K (.ref f)=true) (lt:K.lookup T=some o) (p:o.data=.seq #[i] n):Lm K x a st f (e9 x a (jE st) (fW st) (aF st) (.ref T) kV d h g b ct) i:=⟨⟨j,m,T,o,n,kV,d,h,g,b,ct,e,rfl,l,c,lt,p⟩,k⟩
end
end L2
namespace TW
open PySem L2 PyProof.Rows
structure kR(K:af)(c:NC)(H:Hp)(F:Addr->Prop)(loc dx:Role->Addr)(q:TQ)(p tp:Addr)(n:Nat)(s:NS):Prop where
 hp:loc .dO=p
 own:xh H loc (desc c dx tp loc q s)
 fp:∀b,F b↔Fp loc (desc c dx tp loc q s) b
 tup:rH K H n q s
section
variable{K:af}{c:NC}{H H':Hp}{F:Addr->Prop}{loc dx:Role->Addr}{q:TQ}{p tp:Addr}{n:Nat}{s:NS}
theorem kR.dO(h:kR K c H F loc dx q p tp n s):dF K c H F p tp n s:=⟨loc,dx,q,h.hp,h.own,h.fp,h.tup⟩
theorem kR.mono(h:kR K c H F loc dx q p tp n s)(e:aH H H'):kR K c H' F loc dx q p tp n s:=⟨h.hp,h.own.mono e,h.fp,h.tup.mono λb x=>e.eK⟩
theorem xj(X:kR K c H F loc dx q p tp n s){r:Role}(d:desc c dx tp loc q s r≠none){o:HO}{q':TQ}{s':NS}
 (t:∀x,jC (desc c dx tp loc q s) r o x=desc c dx tp loc q' s' x) (f:(∀b x,c7 K H b x->c7 K (upd H (loc r) o) b x)->rH K (upd H (loc r) o) n q' s') :
 kR K c (upd H (loc r) o) F loc dx q' p tp n s'/\Step H F (upd H (loc r) o) F:=by
 obtain⟨h,O,a,i⟩:=X;have k:F (loc r):=(a _).mpr ⟨r,d,rfl⟩;have m:dF K c H F p tp n s:=⟨loc,dx,q,h,O,a,i⟩;have g:∀b u,H b=some u->¬F b->(upd H (loc r) o) b=some u:=λb u e z=>cQ b u e λw=>z (w▸k);obtain⟨j,l⟩:=(O.set d o).ext (Ua:=desc c dx tp loc q' s') (loc':=loc) t (λx _=>rfl);exact⟨⟨h,j,λb=>(a b).trans ((JY d).symm.trans (l b)),f λb x=>m.tup g⟩,g,λb z=>.inl z⟩
theorem f6{ls:List LS}{i k:Nat}{a:LS}(b:i<ls.length):(ls.set i a)[k]?=if k=i then some a else ls[k]?:=by
 rw[jO];by_cases z:i=k
 ·subst z
  rw[aq rfl,aq b,aq rfl]
 ·rw[b3 z,b3 (bN z)]
noncomputable def m8(c:NC)(dx:Role->Addr)(loc:Role->Addr)(i:Nat)(l:LS):HO:=.ins c.post (dx (.bW i)) [("letter",.ref (loc (.letter i))),("group",.int l.grp),("old",.bl l.old),("done_at",.ref (loc (.done i))),("deeds",.ref (loc (.aG i)))]
theorem XT(X:kR K c H F loc dx q p tp n s){i:Nat}{l:LS}(hl:s.ls[i]?=some l) :
 kR K c (upd H (loc (.bW i)) (m8 c dx loc i {l with old:=true})) F loc dx q p tp n {s with ls:=s.ls.set i {l with old:=true}}/\Step H F (upd H (loc (.bW i)) (m8 c dx loc i {l with old:=true})) F:=by
 have a:=(ai.mp hl).1;refine xj X (r:=.bW i) (q':=q) (by show (s.ls[i]?.map _)≠none;rw[hl];exact aV _) (λx=>?_) (λb=>⟨λg f=>(X.tup.rows g f).mono b,λk d e=>?_,X.tup.cps.mono b⟩)
 ·cases x <;> first|rfl|skip
  ·show some _=some (HO.lst ((az (s.ls.set i _).length).map _))
   rw[br]
  all_goals rename_i k
  ·show jC (desc c dx tp loc q s) (.bW i) _ (.bW k)=((s.ls.set i _)[k]?.map λl=>m8 c dx loc k l)
   rw[f6 a];by_cases z:k=i
   ·subst z
    rw[eT,aq rfl];rfl
   ·rw[dP (λe=>z (by cases e;rfl)),b3 z]
    rfl
  ·show (s.ls[k]?.map λl=>rG c (dx (.letter k)) l)=((s.ls.set i _)[k]?.map λl=>rG c (dx (.letter k)) l)
   rw[f6 a];by_cases z:k=i
   ·subst z
    rw[aq rfl,hl];rfl
   ·rw[b3 z]
  ·show (s.ls[k]?.map λl=>HO.dK (l.done.map λh:Nat=>(gA (h:Int),.bl true)))=((s.ls.set i _)[k]?.map λl=>HO.dK (l.done.map λh:Nat=>(gA (h:Int),.bl true)))
   rw[f6 a];by_cases z:k=i
   ·subst z
    rw[aq rfl,hl];rfl
   ·rw[b3 z]
  ·show (s.ls[k]?.map λ_=>HO.lst ((q.dq k).map V.ref))=((s.ls.set i _)[k]?.map λ_=>HO.lst ((q.dq k).map V.ref))
   rw[f6 a];by_cases z:k=i
   ·subst z
    rw[aq rfl,hl];rfl
   ·rw[b3 z]
 ·have e:(s.ls.set i _)[k]?=some d:=e
  rw[f6 a] at e;by_cases z:k=i
  ·subst z
   rw[aq rfl] at e;cases e;exact (X.tup.aG k l hl).mono b
  ·rw[b3 z] at e
   exact (X.tup.aG k d e).mono b
theorem Vs(X:kR K c H F loc dx q p tp n s){i:Nat}{l:LS}(hl:s.ls[i]?=some l)(ds:List Nat) :
 kR K c (upd H (loc (.done i)) (.dK (ds.map λh:Nat=>(gA (h:Int),.bl true)))) F loc dx q p tp n {s with ls:=s.ls.set i {l with done:=ds}}/\Step H F (upd H (loc (.done i)) (.dK (ds.map λh:Nat=>(gA (h:Int),.bl true)))) F:=by
 have a:=(ai.mp hl).1;refine xj X (r:=.done i) (q':=q) (by show (s.ls[i]?.map _)≠none;rw[hl];exact aV _) (λx=>?_) (λb=>⟨λg f=>(X.tup.rows g f).mono b,λk d e=>?_,X.tup.cps.mono b⟩)
 ·cases x <;> first|rfl|skip
  ·show some _=some (HO.lst ((az (s.ls.set i _).length).map _))
   rw[br]
  all_goals rename_i k
  ·show (s.ls[k]?.map λl=>m8 c dx loc k l)=((s.ls.set i _)[k]?.map λl=>m8 c dx loc k l)
   rw[f6 a];by_cases z:k=i
   ·subst z
    rw[aq rfl,hl];rfl
   ·rw[b3 z]
  ·show (s.ls[k]?.map λl=>rG c (dx (.letter k)) l)=((s.ls.set i _)[k]?.map λl=>rG c (dx (.letter k)) l)
   rw[f6 a];by_cases z:k=i
   ·subst z
    rw[aq rfl,hl];rfl
   ·rw[b3 z]
  ·show jC (desc c dx tp loc q s) (.done i) _ (.done k)=((s.ls.set i _)[k]?.map λl=>HO.dK (l.done.map λh:Nat=>(gA (h:Int),.bl true)))
   rw[f6 a];by_cases z:k=i
   ·subst z
    rw[eT,aq rfl];rfl
   ·rw[dP (λe=>z (by cases e;rfl)),b3 z]
    rfl
  ·show (s.ls[k]?.map λ_=>HO.lst ((q.dq k).map V.ref))=((s.ls.set i _)[k]?.map λ_=>HO.lst ((q.dq k).map V.ref))
   rw[f6 a];by_cases z:k=i
   ·subst z
    rw[aq rfl,hl];rfl
   ·rw[b3 z]
 ·have e:(s.ls.set i _)[k]?=some d:=e
  rw[f6 a] at e;by_cases z:k=i
  ·subst z
   rw[aq rfl] at e;cases e;exact (X.tup.aG k l hl).mono b
  ·rw[b3 z] at e
   exact (X.tup.aG k d e).mono b
theorem CP(X:kR K c H F loc dx q p tp n s){i:Nat}{l:LS}(hl:s.ls[i]?=some l){a:Addr}{d:fR}(w:c7 K H a d.vs) :
 kR K c (upd H (loc (.aG i)) (.lst ((q.dq i).map V.ref++[.ref a]))) F loc dx {q with dq:=fH q.dq i (q.dq i++[a])} p tp n {s with ls:=s.ls.set i {l with aG:=l.aG++[d]}}/\Step H F (upd H (loc (.aG i)) (.lst ((q.dq i).map V.ref++[.ref a]))) F:=by
 have f:=(ai.mp hl).1;refine xj X (r:=.aG i) (q':={q with dq:=fH q.dq i (q.dq i++[a])}) (by show (s.ls[i]?.map _)≠none;rw[hl];exact aV _) (λx=>?_) (λo=>⟨λg y=>(X.tup.rows g y).mono o,λk v e=>?_,X.tup.cps.mono o⟩)
 ·cases x <;> first|rfl|skip
  ·show some _=some (HO.lst ((az (s.ls.set i _).length).map _))
   rw[br]
  all_goals rename_i k
  ·show (s.ls[k]?.map λl=>m8 c dx loc k l)=((s.ls.set i _)[k]?.map λl=>m8 c dx loc k l)
   rw[f6 f];by_cases z:k=i
   ·subst z
    rw[aq rfl,hl];rfl
   ·rw[b3 z]
  ·show (s.ls[k]?.map λl=>rG c (dx (.letter k)) l)=((s.ls.set i _)[k]?.map λl=>rG c (dx (.letter k)) l)
   rw[f6 f];by_cases z:k=i
   ·subst z
    rw[aq rfl,hl];rfl
   ·rw[b3 z]
  ·show (s.ls[k]?.map λl=>HO.dK (l.done.map λh:Nat=>(gA (h:Int),.bl true)))=((s.ls.set i _)[k]?.map λl=>HO.dK (l.done.map λh:Nat=>(gA (h:Int),.bl true)))
   rw[f6 f];by_cases z:k=i
   ·subst z
    rw[aq rfl,hl];rfl
   ·rw[b3 z]
  ·show jC (desc c dx tp loc q s) (.aG i) _ (.aG k)=((s.ls.set i _)[k]?.map λ_=>HO.lst ((fH q.dq i (q.dq i++[a]) k).map V.ref))
   rw[f6 f];by_cases z:k=i
   ·subst z
    rw[eT,aq rfl,cC,aS];rfl
   ·rw[dP (λe=>z (by cases e;rfl)),b3 z,dQ z]
    rfl
 ·show eO K _ (fH q.dq i (q.dq i++[a]) k) _
  have e:(s.ls.set i _)[k]?=some v:=e;rw[f6 f] at e;by_cases z:k=i
  ·subst z
   rw[aq rfl] at e;cases e;rw[cC];show eO K _ _ ((l.aG++[d]).map fR.vs);rw[aS];have t:=(X.tup.aG k l hl).mono o;refine⟨by rw[aA,aA,t.len];rfl,λj b x u m=>?_⟩;rcases AB u with u|⟨rfl,rfl⟩
   ·have A:=(ai.mp u).1
    rw[aY (by rw[<- t.len];exact A)] at m;exact t.at' j b x u m
   ·rw[t.len,bC (aB _)] at m
    rw[fE] at m;cases m;exact o _ _ w
  ·rw[b3 z] at e
   rw[dQ z];exact (X.tup.aG k v e).mono o
theorem Q7(X:kR K c H F loc dx q p tp n s){qs:List Addr}{cps:List Cp}(d:eO K H qs (cps.map Cp.vs)) :
 kR K c (upd H (loc .lX) (.lst (qs.map V.ref))) F loc dx {q with cq:=qs} p tp n {s with cps:=cps}/\Step H F (upd H (loc .lX) (.lst (qs.map V.ref))) F :=
 xj X (r:=.lX) (q':={q with cq:=qs}) (aV _) (λx=>by cases x <;> rfl) (λa=>⟨λg b=>(X.tup.rows g b).mono a,λk l e=>(X.tup.aG k l e).mono a,d.mono a⟩)
theorem Vt(X:kR K c H F loc dx q p tp n s)(hs:List Nat) :
 kR K c (upd H (loc .aD) (.lst (bM hs))) F loc dx q p tp n {s with aD:=hs}/\Step H F (upd H (loc .aD) (.lst (bM hs))) F :=
 xj X (r:=.aD) (q':=q) (aV _) (λx=>by cases x <;> rfl) (λa=>⟨λg b=>(X.tup.rows g b).mono a,λk l e=>(X.tup.aG k l e).mono a,X.tup.cps.mono a⟩)
theorem Vu(X:kR K c H F loc dx q p tp n s){i:Nat}(d:i<s.had.length)(a:List Nat) :
 kR K c (upd H (loc (.handed i)) (.lst (bM a))) F loc dx q p tp n {s with had:=s.had.set i a}/\Step H F (upd H (loc (.handed i)) (.lst (bM a))) F:=by
 refine xj X (r:=.handed i) (q':=q) (by show (s.had[i]?.map _)≠none;rw[aa d];exact aV _) (λx=>?_) (λb=>⟨λg f=>(X.tup.rows g f).mono b,λk l e=>(X.tup.aG k l e).mono b,X.tup.cps.mono b⟩);cases x <;> first|rfl|skip
 ·show some _=some (HO.lst ((az (s.had.set i _).length).map _))
  rw[br]
 ·rename_i k
  show jC (desc c dx tp loc q s) (.handed i) _ (.handed k)=((s.had.set i a)[k]?.map λw=>HO.lst (bM w));rw[jO];by_cases z:k=i
  ·subst z
   rw[eT,aq rfl,aq d];rfl
  ·rw[dP (λe=>z (by cases e;rfl)),b3 (bN z)]
   rfl
end
theorem zl{α:Type}{xs:List α}{i:Nat}{x:α}(h:xs[i]?=some x):xs.set i x=xs:=by
 obtain⟨a,rfl⟩:=ai.mp h;exact List.set_getElem_self a
noncomputable def yR(c:NC)(DE Ln la da ea:Addr)(n:Nat)(l:LS):Role->Option HO
 |.bW i=>if i=n then some (.ins c.post DE [("letter",.ref la),("group",.int l.grp),("old",.bl l.old),("done_at",.ref da),("deeds",.ref ea)]) else none
 |.letter i=>if i=n then some (rG c Ln l) else none
 |.done i=>if i=n then some (.dK (l.done.map λh:Nat=>(gA (h:Int),.bl true))) else none
 |.aG i=>if i=n then some (.lst []) else none
 |_=>none
noncomputable def newL(pa la da ea:Addr):Role->Addr
 |.bW _=>pa
 |.letter _=>la
 |.done _=>da
 |.aG _=>ea
 |_=>0
section
variable{K:af}{c:NC}{H H':Hp}{F:Addr->Prop}{loc dx:Role->Addr}{q:TQ}{p tp:Addr}{n:Nat}{s:NS}
theorem aa3{DE Ln pa la da ea:Addr}{l:LS}(t:H pa=some (.ins c.post DE [("letter",.ref la),("group",.int l.grp),("old",.bl l.old),("done_at",.ref da),("deeds",.ref ea)]))(w:H la=some (rG c Ln l))(u:H da=some (.dK (l.done.map λh:Nat=>(gA (h:Int),.bl true))))(x:H ea=some (.lst []))
 (m:pa≠la) (p:pa≠da) (j:pa≠ea) (k:la≠da) (q:la≠ea) (s:da≠ea):xh H (newL pa la da ea) (yR c DE Ln la da ea n l):=by
 have d:∀{i:Nat} {o:HO} {g:HO},(if i=n then some o else none)=some g->o=g/\i=n:=λ{i o g} e=>by
  by_cases z:i=n
  ·rw[aq z] at e;cases e;exact⟨rfl,z⟩
  ·rw[b3 z] at e;cases e
 have f:∀{i:Nat} {o:HO},(if i=n then some o else none)≠none->i=n:=λ{i o} e=>by
  by_cases z:i=n
  ·exact z
  ·rw[b3 z] at e;exact b5 rfl e
 refine⟨λr o e=>?_,λr v a b e=>?_⟩
 ·cases r <;> first|(cases e;done)|skip
  ·rw[<- (d e).1];exact t
  ·rw[<- (d e).1];exact w
  ·rw[<- (d e).1];exact u
  ·rw[<- (d e).1];exact x
 ·cases r <;> first|exact b5 rfl a|skip
  all_goals cases v <;> first|exact b5 rfl b|skip
  all_goals first
   | (rw[f a,f b];done)
   |exact b5 e m
   |exact b5 e.symm m
   |exact b5 e p
   |exact b5 e.symm p
   |exact b5 e j
   |exact b5 e.symm j
   |exact b5 e k
   |exact b5 e.symm k
   |exact b5 e q
   |exact b5 e.symm q
   |exact b5 e s
   |exact b5 e.symm s
theorem Vv(C:loc .dO=p)(O:xh H loc (desc c dx tp loc q s))(m:∀b,F b↔Fp loc (desc c dx tp loc q s) b)(j:rH K H n q s){DE Ln pa la da ea:Addr}{l:LS}(N:l.aG=[])
 (I:H pa=some (.ins c.post DE [("letter",.ref la),("group",.int l.grp),("old",.bl l.old),("done_at",.ref da),("deeds",.ref ea)])) (Z:H la=some (rG c Ln l)) (P:H da=some (.dK (l.done.map λh:Nat=>(gA (h:Int),.bl true)))) (h4:H ea=some (.lst []))
 (R:pa≠la) (d2:pa≠da) (G:pa≠ea) (L:la≠da) (d5:la≠ea) (d6:da≠ea) (n1:¬F pa) (n2:¬F la) (n3:¬F da) (n4:¬F ea) :
 ∃D,dF K c (upd H (loc .cW) (.lst (((az s.ls.length).map λi=>.ref (loc (.bW i)))++[.ref pa]))) D p tp n {s with ls:=s.ls++[l]} /\
  (∀b o,H b=some o->¬F b->(upd H (loc .cW) (.lst (((az s.ls.length).map λi=>.ref (loc (.bW i)))++[.ref pa]))) b=some o)/\∀b,D b->F b∨b=pa∨b=la∨b=da∨b=ea:=by
 have A:=aa3 (n:=s.ls.length) (c:=c) I Z P h4 R d2 G L d5 d6;have N0:dF K c H F p tp n s:=⟨loc,dx,q,C,O,m,j⟩;have y:desc c dx tp loc q s .cW≠none:=aV _;have T:F (loc .cW):=(m _).mpr ⟨.cW,y,rfl⟩;have t:∀r,yR c DE Ln la da ea s.ls.length l r≠none->¬F (newL pa la da ea r):=λr h=>by
  cases r <;> first|exact b5 rfl h|assumption
 have B:∀b o,H b=some o->¬F b->(upd H (loc .cW) (.lst (((az s.ls.length).map λi=>.ref (loc (.bW i)))++[.ref pa]))) b=some o:=λb u e z=>cQ b u e λw=>z (w▸T);have v:∀b x,c7 K H b x->c7 K _ b x:=λb x=>N0.tup B;have J:=O.join A λr W a b e=>t W b (e▸(m _).mpr ⟨r,a,rfl⟩);have S:=J.set (r:=.cW) y (.lst (((az s.ls.length).map λi=>V.ref (loc (.bW i)))++[.ref pa]));have d:∀{k:Nat},k≠s.ls.length->(s.ls++[l])[k]?=s.ls[k]?:=λ{k} z=>by
  by_cases w:k<s.ls.length
  ·exact aY w
  ·rw[jg (by rw[aA];show s.ls.length+1<=k;lia),jg ∅]
 have f:(s.ls++[l])[s.ls.length]?=some l:=by rw[bC (aB _),fE];rfl
 obtain⟨Q,U⟩:=S.ext (Ua:=desc c (λr=>if r=.bW s.ls.length then DE else if r=.letter s.ls.length then Ln else dx r) tp (λr=>if (yR c DE Ln la da ea s.ls.length l r).isSome=true then newL pa la da ea r else loc r) {q with dq:=fH q.dq s.ls.length []} {s with ls:=s.ls++[l]})
  (loc':=λr=>if (yR c DE Ln la da ea s.ls.length l r).isSome=true then newL pa la da ea r else loc r) (λr=>by
   cases r <;> first|rfl|skip
   ·
    show some _=some (HO.lst ((az (s.ls++[l]).length).map _));rw[aA];show _=some (HO.lst ((az (s.ls.length+1)).map _));rw[iF,aS];congr 2;congr 1
    ·refine cK λi M=>?_
     have z:i≠s.ls.length:=by have:=c5.mp M;lia
     simp[yR,z]
    ·simp[yR,newL]
   all_goals rename_i k
   all_goals by_cases z:k=s.ls.length
   all_goals first|subst z|skip
   all_goals rw[dP (λe=>by cases e)]
   ·simp[yR,newL,desc,f]
   ·have:=d z
    simp[yR,newL,desc,z,this]
   ·simp[yR,newL,desc,f]
   ·have:=d z
    simp[yR,newL,desc,z,this]
   ·simp[yR,newL,desc,f]
   ·have:=d z
    simp[yR,newL,desc,z,this]
   ·simp[yR,newL,desc,f,cC]
   ·have:=d z
    simp[yR,newL,desc,z,this,dQ z]) (λr _=>rfl)
 refine⟨Fp _ _,⟨λr=>if (yR c DE Ln la da ea s.ls.length l r).isSome=true then newL pa la da ea r else loc r,_,_,C,Q,λb=>Iff.rfl,⟨λg X=>(j.rows g X).mono v,λk E e=>?_,j.cps.mono v⟩⟩,B,λb Y=>?_⟩
 ·have e:(s.ls++[l])[k]?=some E:=e
  show eO K _ (fH q.dq s.ls.length [] k) _;by_cases z:k=s.ls.length
  ·subst z
   rw[f] at e;cases e;rw[cC,N];exact⟨rfl,λi b x e=>by cases e⟩
  ·rw[d z] at e
   rw[dQ z];exact (j.aG k E e).mono v
 ·obtain⟨r,a,e⟩:=(JY (ob:=λr=>if (yR c DE Ln la da ea s.ls.length l r).isSome=true then yR c DE Ln la da ea s.ls.length l r else desc c dx tp loc q s r) (r:=.cW) y).mp ((U b).mpr Y)
  by_cases z:(yR c DE Ln la da ea s.ls.length l r).isSome=true
  ·simp only[z,if_true] at e
   subst e;right;cases r <;> first|(cases z;done)|skip
   ·exact .inl rfl
   ·exact .inr (.inl rfl)
   ·exact .inr (.inr (.inl rfl))
   ·exact .inr (.inr (.inr rfl))
  ·simp only[z,if_false] at a e
   exact .inl ((m b).mpr ⟨r,by simpa using a,by simpa using e⟩)
end
theorem XU(a b x y:Int):PyData.eqv (.tuple (([a,b]:List Int).map .int)) (.tuple (([x,y]:List Int).map .int))=decide (a=x/\b=y):=by
 show (PyData.eqv (.int a) (.int x)&&(PyData.eqv (.int b) (.int y)&&true))=_;show ((a==x)&&((b==y)&&true))=_;rw[Bool.and_true,jR];simp
noncomputable def pD(s:NS)(i:Nat)(d:fR):NS:=match s.ls[i]? with|some l=>{s with ls:=s.ls.set i {l with aG:=l.aG++[d]}}|none=>s
theorem fJ{s:NS}{i:Nat}{d:fR}{l:LS}(h:s.ls[i]?=some l):pD s i d={s with ls:=s.ls.set i {l with aG:=l.aG++[d]}}:=by
 unfold pD;rw[h]
theorem SW{α:Type}{f:α->Bool}{xs:List α}{i:Nat}(a:i<xs.length):(xs.take (i+1)).filter f=(xs.take i).filter f++if f xs[i]=true then [xs[i]] else []:=by
 rw[jD a,fP];congr 1;cases e:f xs[i]
 ·rw[b3 (!_),iy (by rw[e];decide)];rfl
 ·rw[aq rfl,iw e];rfl
theorem eO.snoc{K:af}{H:Hp}{qs:List Addr}{xs:List (List V)}{a:Addr}{x:List V}(h:eO K H qs xs)(e:c7 K H a x):eO K H (qs++[a]) (xs++[x]):=by
 refine⟨by rw[aA,aA,h.len];rfl,λj b y c d=>?_⟩;rcases AB c with c|⟨rfl,rfl⟩
 ·have f:=(ai.mp c).1
  rw[aY (by rw[<- h.len];exact f)] at d;exact h.at' j b y c d
 ·rw[h.len,bC (aB _),fE] at d
  cases d;exact e
end TW
namespace RM
variable{N:Net}{S:Nat->Row}
end RM
namespace Gr
structure WQ(n:Nat)(M:List Int):Prop where
 le:∀x:Int,0<=x->x<n->0<=iA M x/\iA M x<=x
 Zn:∀x:Int,0<=x->x<n->iA M (iA M x)=iA M x
theorem DR{n:Nat}{x:Int}(a:0<=x)(b:x<n):iA ((az n).map λk=>((k:Nat):Int)) x=x:=by
 unfold iA;rw[au,ak,dX ∅];show ((x.toNat:Nat):Int)=x;lia
theorem WQ.nil(n:Nat):WQ n ((az n).map λk=>((k:Nat):Int)) :=
 ⟨λx a b=>(by rw[DR a b];lia),λx a b=>(by rw[DR a b,DR a b])⟩
noncomputable def lE(M:List Int)(a b:Int):List Int:=M.map λm=>if m=(if iA M b > iA M a then iA M b else iA M a) then (if iA M b<iA M a then iA M b else iA M a) else m
theorem PD{M:List Int}{a b:Int}:(lE M a b=joinM M b a/\iA M a<=iA M b)∨(lE M a b=joinM M a b/\iA M b<=iA M a):=by
 by_cases h:iA M b<iA M a
 ·refine .inr ⟨?_,∅⟩
  unfold lE joinM;rw[aq h,b3 ∅]
 ·refine .inl ⟨?_,∅⟩
  unfold lE joinM;rw[b3 h];by_cases c:iA M b > iA M a
  ·rw[aq c]
  ·have e:iA M a=iA M b:=∅
   rw[b3 c,e]
theorem WQ.join{n:Nat}{M:List Int}{a b:Int}(L:WQ n M)(hl:M.length=n)(q:0<=a)(r:a<n)(f:0<=b)(g:b<n)(m:iA M b<=iA M a):WQ n (joinM M a b):=by
 have e:∀{x:Int},0<=x->x<n->iA (joinM M a b) x=if iA M x=iA M a then iA M b else iA M x:=λj p=>CJ j ∅
 have o:=L.le b f g;refine⟨λx c d=>?_,λx c d=>?_⟩
 ·have k:=L.le x c d
  rw[e c d];split <;> lia
 ·have k:=L.le x c d
  have i:=L.Zn x c d;have l:=L.Zn b f g;rw[e c d];by_cases h:iA M x=iA M a
  ·rw[aq h,e ∅ ∅,l]
   split <;> rfl
  ·rw[b3 h,e ∅ ∅,i,b3 h]
theorem vR.flip{ps:Ps}{n:Nat}{M:List Int}{a b:Int}(hl:M.length=n)(h:vR ps n (joinM M a b)):vR ps n (joinM M b a):=by
 refine⟨by have:=h.len;unfold joinM at this ⊢;rw[ah] at this ⊢;exact this,λx y c k f l=>?_⟩;have e:=h.iff x y c k f l;rw[CJ c ∅,CJ f ∅] at e ⊢;rw[<- e];generalize iA M x=p;generalize iA M y=q;generalize iA M a=u;generalize iA M b=v;by_cases d:p=u <;> by_cases g:p=v <;> by_cases i:q=u <;> by_cases j:q=v <;> (first|rw[aq d]|rw[b3 d]) <;> (first|rw[aq g]|rw[b3 g]) <;> (first|rw[aq i]|rw[b3 i]) <;> (first|rw[aq j]|rw[b3 j]) <;> constructor <;> intro m <;> lia
theorem Vw{ps:Ps}{n k:Nat}{M:List Int}{a b:Int}(A:vR (ps.take k) n M)(L:WQ n M)(R:Zj ps n)(e:ps[k]?=some (a,b)):vR (ps.take (k+1)) n (lE M a b)/\WQ n (lE M a b):=by
 obtain⟨d,i,f,g,_⟩:=R.h k a b e;have c:=A.len;have s:=A.step R e;rcases PD (M:=M) (a:=a) (b:=b) with ⟨z,h⟩|⟨z,h⟩
 ·rw[z];exact⟨s.flip c,L.join c f g d i h⟩
 ·rw[z];exact⟨s,L.join c d i f g h⟩
theorem SX{ps:Ps}{n:Nat}{M:List Int}(A:vR ps n M)(L:WQ n M)(R:Zj ps n):U4 ps n M:=by
 refine⟨A.len,λh i=>?_⟩;have g:=A.len;have a:(0:Int)<=(h:Int):=∅
 have b:(h:Int)<n:=∅
 obtain⟨c,j⟩:=L.le h a b;have f:M[h]?=some (iA M h):=by
  unfold iA;rw[cZ,au,aa ∅];rfl
 refine⟨iA M h,f,c,(A.iff _ _ c ∅ a b).mp (L.Zn h a b),λm r=>?_⟩;obtain⟨e,d⟩:=R.reach r a b
 have:=(A.iff _ _ a b e d).mpr r
 have:=(L.le m e d).2
 lia
end Gr
namespace L2
open PySem PySem.Spec PyProof.Rows
section
variable{X:Cx}{pos:Pos}
theorem sS(i:Nat){x:Str}{e:Expr}{b:TE}{a:Pos}{ps:List Str}{f:Scope}(S:aO X.N ps f)(g:PE X e b)(h:X.N[i]?=some x:=by rfl)(j:Loc X.env.scope x:=by first|exact Or.inl rfl|exact Or.inr rfl)(d:swapsWith e (some (.Name x a)) pos.line X.env=pure false:=by rfl)(c:X.fn x=true∨X.env.scope.names.lookup x=some .local:=by first|exact .inl rfl|exact .inr rfl|assumption) :
 PS X (.Assign [.Name x a] e pos) (Xc b (iB i)):=aaj S.nd h j g d c
theorem gS(i:Nat){x:Str}(a:X.N.Nodup)(c:X.N[i]?=some x:=by rfl)(d:Loc X.env.scope x:=by first|exact Or.inl rfl|exact Or.inr rfl)(b:X.fn x=true∨X.env.scope.names.lookup x=some .local:=by first|exact .inl rfl|exact .inr rfl|assumption):PG X (.Name x pos) (iB i):=Qq a c d b
theorem gT(i:Nat){x:Str}{ps:List Str}{b:Scope}(S:aO X.N ps b)(c:X.N[i]?=some x:=by rfl)(d:Loc X.env.scope x:=by first|exact Or.inl rfl|exact Or.inr rfl)(a:X.fn x=true∨X.env.scope.names.lookup x=some .local:=by first|exact .inl rfl|exact .inr rfl|assumption):PG X (.Name x pos) (iB i):=Qq S.nd c d a
theorem oR{e:Expr}{a:TE}(b:PE X e a):iR X [.Return (some e) pos] (Xb a):=bL (Ul b)
theorem oB{b j pos'}:iR X [.Return (some (.Constant (.bool b) j pos')) pos] (Xb (tC (.bl b))):=bL (Ul Qp)
theorem oE{e:Expr}{a:TE}(b:PE X e a)(hs:swapsWith e none pos.line X.env=pure false:=by rfl):iR X [.Expr e pos] (Y8 a):=bL (dm b hs)
theorem gz{a:Expr}{b:TE}(c:PE X a b)(d:eN a=true:=by rfl):PA X [a] (fz b vP):=(mX c iz d)
theorem rA{a b:Expr}{c d:TE}(h:PE X a c)(g:PE X b d)(e:eN a=true:=by rfl)(f:eN b=true:=by rfl):PA X [a,b] (fz c (fz d vP)):=(mX h (mX g iz f) e)
theorem IB{a b c:Expr}{d e f:TE}(k:PE X a d)(j:PE X b e)(i:PE X c f)(g:eN a=true:=by rfl)(h:eN b=true:=by rfl)(l:eN c=true:=by rfl):PA X [a,b,c] (fz d (fz e (fz f vP))):=(mX k (mX j (mX i iz l) h) g)
theorem g8{b c d a:Expr}{e g h f:TE}(n:PE X b e)(k:PE X c g)(l:PE X d h)(o:PE X a f)(i:eN b=true:=by rfl)(j:eN c=true:=by rfl)(p:eN d=true:=by rfl)(m:eN a=true:=by rfl):PA X [b,c,d,a] (fz e (fz g (fz h (fz f vP)))):=(mX n (mX k (mX l (mX o iz m) p) j) i)
theorem aN5{d c e b a:Expr}{f j g i h:TE}(k:PE X d f)(q:PE X c j)(s:PE X e g)(t:PE X b i)(o:PE X a h)(l:eN d=true:=by rfl)(m:eN c=true:=by rfl)(n:eN e=true:=by rfl)(r:eN b=true:=by rfl)(p:eN a=true:=by rfl):PA X [d,c,e,b,a] (fz f (fz j (fz g (fz i (fz h vP))))):=(mX k (mX q (mX s (mX t (mX o iz p) r) n) m) l)
theorem aN6{e d f c a b:Expr}{g l i k j h:TE}(n:PE X e g)(u:PE X d l)(w:PE X f i)(x:PE X c k)(r:PE X a j)(s:PE X b h)(o:eN e=true:=by rfl)(p:eN d=true:=by rfl)(q:eN f=true:=by rfl)(v:eN c=true:=by rfl)(t:eN a=true:=by rfl)(m:eN b=true:=by rfl):PA X [e,d,f,c,a,b] (fz g (fz l (fz i (fz k (fz j (fz h vP)))))):=(mX n (mX u (mX w (mX x (mX r (mX s iz m) t) v) q) p) o)
theorem aN7{e d f c a b g:Expr}{h n k m l j i:TE}(p:PE X e h)(y:PE X d n)(A:PE X f k)(B:PE X c m)(u:PE X a l)(w:PE X b j)(t:PE X g i)(q:eN e=true:=by rfl)(r:eN d=true:=by rfl)(s:eN f=true:=by rfl)(z:eN c=true:=by rfl)(x:eN a=true:=by rfl)(o:eN b=true:=by rfl)(v:eN g=true:=by rfl):PA X [e,d,f,c,a,b,g] (fz h (fz n (fz k (fz m (fz l (fz j (fz i vP))))))):=(mX p (mX y (mX A (mX B (mX u (mX w (mX t iz v) o) x) z) s) r) q)
theorem kO{N ps:List Str}{b scope:Scope}(S:aO N ps b)(c:List Str)(a:List (Option Nat))(d:X.env.scope=b:=by rfl)(e:X.N=N:=by rfl)(h:Le scope b N c a=true:=by decide +kernel):jV X scope c a:=Sx d e h
end
section
variable{X:Cx}{a b tg iter:Expr}{ta tb:TE}{pos:Pos}{op:CmpOp}{r:R2}{body:List Stmt}{wi:TI}{g:TG}{ts:TS}
theorem xL(d:PE X a ta)(c:PE X b tb)(hs:CF b:=by exact λ_ _=>rfl):PE X (.Subscript a b pos) (T5 (Sf X.K) ta tb):=QD QE d c hs
theorem xT(d:PE X a ta)(c:PE X b tb)(hs:CF b:=by exact λ_ _=>rfl):PE X (.Subscript a b pos) (T5 (Sg X.K) ta tb):=QD UP d c hs
theorem yL(K:af)(d:PE X a ta)(c:PE X b tb)(f:X.K=K:=by rfl)(e:CF b:=by exact λ_ _=>rfl):PE X (.Subscript a b pos) (T5 (Sf K) ta tb):=QD (U3 K f) d c e
theorem yT(K:af)(d:PE X a ta)(c:PE X b tb)(f:X.K=K:=by rfl)(e:CF b:=by exact λ_ _=>rfl):PE X (.Subscript a b pos) (T5 (Sg K) ta tb):=QD (Xq K f) d c e
theorem qE(c:yv X (compareOp op) r)(f:PE X a ta)(d:PE X b tb)(g:op≠.In:=by decide)(e:op≠.NotIn:=by decide):PE X (.Compare a [op] [b] pos) (T5 r ta tb):=Xf c f d (UD b g e)
theorem qT(c:yv X (compareOp op) r)(f:PE X a ta)(d:PE X b tb)(g:op≠.In:=by decide)(e:op≠.NotIn:=by decide):PT X (.Compare a [op] [b] pos) (Qw (T5 r ta tb)):=o6 c f d (UD b g e)
theorem fS(f:PI X tg iter wi)(a:PG X tg g)(b:iR X body ts)(c:PassesOwn (model X.prog X.w) X.A X.env X.xe:=by exact PassesOwn.never)(e:X.calm=true:=by rfl)(d:∀x,foldedSetIterable iter X.env x=pure x:=by intro _;rfl):PS X (.For tg iter body [] pos) (ac0 wi g ts):=aal c e f a b d
end
section
variable{X:Cx}{x:Str}{p pos:Pos}{e:Expr}{es:List Expr}{te:TE}{t:TA}{id:String}{r:List V->Hp->VK->Prop}
theorem cB(h:ue X (.builtin id) r)(c:X.mg x=none)(j:bootBuiltins x=some (.builtin id))(f:PA X (e::es) t)(d:Gl X x:=by rfl)(g:x≠"__name__" := by decide)(a:(x==("__debug__" : Str))=false:=by decide)
 (i:starEach (e::es) X.env=(false,eval e X.env)::starEach es X.env:=by rfl) (b:(backTo pos (starEach es X.env)).any (·.1)=false:=by rfl):PE X (.Call (.Name x p) (e::es) [] pos) (xy r t):=Mz h d c j f g a i b
theorem lS(d:X.mg "len" = none)(h:PE X e te)(g:Gl X "len" := by rfl)(b:eN e=true:=by rfl)(i:starEach [e] X.env=(false,eval e X.env)::starEach [] X.env:=by rfl)(c:(backTo pos (starEach [] X.env)).any (·.1)=false:=by rfl) :
 PE X (.Call (.Name "len" p) [e] [] pos) (xy (λf H Q=>∃p a,f=[.ref p]/\(bQ X.K H p a∨c7 X.K H p a)/\Q (.int a.length) H) (fz te vP)):=Mz K9 g d PySem.boot_len (mX h iz b) (!_) (!_) i c
end
theorem jL{N P:List Str}{a:Scope}(e:a.kind=.function:=by rfl)(c:a.isCoroutine=false:=by rfl)(f:a.isGenerator=false:=by rfl)(g:N.Nodup:=by decide +kernel)(d:N.take P.length=P:=by rfl)(h:∀x∈P,a.names.lookup x=some .local∨a.names.lookup x=some .cell:=by decide +kernel)(b:∀y∈a.names,y.2≠.free:=by decide +kernel):aO N P a:=⟨e,c,f,g,d,h,b⟩
structure oh(K:af)(mg:Str->Option Value)(x key:Str)(st:Stmt)(f:Addr)(d:FuncData)(ps:List Str):Prop where
 F:OH K x key st f d
 B:Binds K d ps []
 g:mg x=some (.ref f)
structure jh(K:af)(C:Addr)(x key:Str)(st:Stmt)(f:Addr)(d:FuncData)(ps:List Str):Prop where
 F:OH K x key st f d
 B:Binds K d ps []
 m:K4 K C x f
structure M3(K:af)(C:Addr)(key:Str)(st:Stmt)(f:Addr)(d:FuncData)(ps:List Str):Prop where
 F:OH K "__init__" key st f d
 B:Binds K d ps []
 M:Mk K C f
def EG(K:af)(mg:Str->Option Value)(x key:Str)(st:Stmt)(f:Addr):Prop:=∃d,OH K x key st f d/\mg x=some (.ref f)
def EM(K:af)(C:Addr)(x key:Str)(st:Stmt)(f:Addr):Prop:=∃d,OH K x key st f d/\K4 K C x f
structure EC(K:af)(C:Addr):Prop where
 c:IF K C
 Zs:PySem.W.makesIn K C=true
 kc:d9 K (.ref C)=true
section
variable{K:af}{h:Heap}{mg:Str->Option Value}{x key:Str}{st:Stmt}{C f:Addr}{oc:Value}{od an:Option Addr}{osl:Array (Option Value)}{kV doc pm cdv ct:Value}
theorem rV(X:K.In h)(G:h.Ns mainGlobals mg)(a:bU K mainGlobals x=some (some (.ref f)))(l:K.lookup f=some ⟨oc,od,.func (e9 x key (jE st) (fW st) (aF st) .none kV doc pm an cdv ct),osl⟩)(c:jx K cdv key=true)(k:d9 K (.ref f)=true):EG K mg x key st f:=⟨_,UZ l c k,cY X G a⟩
theorem fy(a:aL K (.ref C) x=some (some (.ref f)))(i:PySem.W.isFn K (.ref f)=true)(l:K.lookup f=some ⟨oc,od,.func (e9 x key (jE st) (fW st) (aF st) .none kV doc pm an cdv ct),osl⟩)(c:jx K cdv key=true)(k:d9 K (.ref f)=true):EM K C x key st f:=⟨_,UZ l c k,⟨a,i,k⟩⟩
theorem Zt(c:wR K C Str.empty=true)(a:uI K C=true)(d:PySem.W.plainOver K C=true)(e:aL K (.ref C) "__setattr__" = some (some (.builtin "object.__setattr__")))(b:PySem.W.makesIn K C=true)(f:d9 K (.ref C)=true):EC K C:=⟨⟨c,a,d,e⟩,b,f⟩
end
section
variable{X:Cx}{k k':Nat}{f C:Addr}{fd:FuncData}{ps:List Str}{sp:Sp}{x m key:Str}{st:Stmt}{p pos apos:Pos}{e o:Expr}{es:List Expr}{ta:TE}{t:TA}
theorem cG(F:cE X.prog X.w X.K X.mg X.base iS k f fd ps sp)(i:jT k' X.A)(c:oh X.K X.mg x key st f fd ps)(j:PA X (e::es) t)(a:k<=k':=by decide)(h:Gl X x:=by rfl)
 (b:(x==("__debug__" : Str))=false:=by decide) (l:starEach (e::es) X.env=(false,eval e X.env)::starEach es X.env:=by rfl) (d:(backTo pos (starEach es X.env)).any (·.1)=false:=by rfl) :
 PE X (.Call (.Name x p) (e::es) [] pos) (Zc sp [] E0 t):=Ax F (i.mono a) h c.g c.F.kp c.B .nil mK j b l d
theorem cM{pl:Sem Bool}(l:PE X o ta)(c:IF X.K C)(u:jh X.K C m key st f fd ps)(F:cE X.prog X.w X.K X.mg X.base iS k f fd ps sp)(h:jT k' X.A)(i:PA X (e::es) t)(a:k<=k':=by decide)
 (b:starEach (e::es) X.env=(false,eval e X.env)::starEach es X.env:=by rfl) (d:(backTo pos (starEach es X.env)).any (·.1)=false:=by rfl)
 (j:eval (.Call (.Attribute o m apos) (e::es) [] pos) X.env=(do
  let g <- eval o X.env
  standAt apos.atName
  let (f,first) <- holding [g] (getMethod g m pl)
  callWith pos f first (backTo pos (starEach (e::es) X.env)) (backToKw pos (keywordEach [] X.env))):=by rfl) :
 PE X (.Call (.Attribute o m apos) (e::es) [] pos) (yV C m sp [] E0 ta t):=Ay l c u.m F (h.mono a) u.B .nil mK i b d j
theorem cI(u:M3 X.K C key st f fd ps)(F:cE X.prog X.w X.K X.mg X.base iS k f fd ps sp)(h:jT k' X.A)(d:X.mg x=some (.ref C))(i:PA X (e::es) t)(a:k+1<=k':=by decide)(g:Gl X x:=by rfl)
 (b:(x==("__debug__" : Str))=false:=by decide) (j:starEach (e::es) X.env=(false,eval e X.env)::starEach es X.env:=by rfl) (c:(backTo pos (starEach es X.env)).any (·.1)=false:=by rfl) :
 PE X (.Call (.Name x p) (e::es) [] pos) (UJ C sp [] E0 t):=Qx u.M F (h.mono a) g d u.B .nil mK i b j c
end
section
variable{P:Program}{w:World}{K:af}{mg:Str->Option Value}{base:Heap}
theorem OH.kq{x a:Str}{st:Stmt}{f:Addr}{e:FuncData}{N ps:List Str}{k:Nat}{sp:Sp}(F:OH K x a st f e)(S:aO N ps (aF st))
 (i:∀{c:Value} {A:Around} {b:List Env} {s:Shared} {vs:List V} (H:Hp) (Q:VK) (E:XK),jT k (A.deeper (envOfC a (aF st) s.heap.objs.size f c))->sp vs H Q E ->
  ∃t,iR (oq iS P w K mg base N a (aF st) f c A b s H E).Y7 (fW st) t/\t {nx:=λ_ j=>Q .fM j,rt:=Q} (start N vs) H) (d:∀vs H Q E,sp vs H Q E->vs.length=ps.length:=by intro _ _ _ _ h;cases h;subst_vars;rfl):cE P w K mg base iS (k+1) f e ps sp:=F.ok S d λ_ _ _ _ H _ Q E g h=>i H Q E g h
theorem OH.XW{x a:Str}{st:Stmt}{f:Addr}{e:FuncData}{N ps:List Str}{k:Nat}{sp:Sp}(F:OH K x a st f e)(S:aO N ps (aF st))
 (i:∀{c:Value} {A:Around} {b:List Env} {s:Shared} {vs:List V} (H:Hp) (Q:VK) (E:XK),jT k (A.deeper (envOfC a (aF st) s.heap.objs.size f c))->sp vs H Q E ->
  ∃t,iR (oq (EU P w) P w K mg base N a (aF st) f c A b s H E) (fW st) t/\t {nx:=λ_ j=>Q .fM j,rt:=Q} (start N vs) H) (d:∀vs H Q E,sp vs H Q E->vs.length=ps.length:=by intro _ _ _ _ h;cases h;subst_vars;rfl):cE P w K mg base (EU P w) (k+1) f e ps sp:=F.okX S d λ_ _ _ _ H _ Q E g h=>i H Q E g h
theorem Lm.kq{x a:Str}{st:Stmt}{f:Addr}{e:FuncData}{g:Value}{N ps:List Str}{k:Nat}{sp:Sp}(F:Lm K x a st f e g)(S:aO N ps (aF st))
 (j:∀{c:Value} {A:Around} {b:List Env} {s:Shared} {vs:List V} (H:Hp) (Q:VK) (E:XK),jT k (A.deeper (envOfC a (aF st) s.heap.objs.size f c))->sp vs H Q E ->
  ∃t,iR (oq iS P w K mg base N a (aF st) f c A b s H E).Y7 (fW st) t/\t {nx:=λ_ l=>Q .fM l,rt:=Q} (start N vs) H) (d:∀vs H Q E,sp vs H Q E->vs.length=ps.length:=by intro _ _ _ _ h;cases h;subst_vars;rfl):cE P w K mg base iS (k+1) f e ps sp:=F.ok S d λ_ _ _ _ H _ Q E i h=>j H Q E i h
end
end L2
namespace L2
open PySem PySem.W PySem.Spec PyProof.Rows
noncomputable def XX:Bool->Keyed->Array Keyed->Nat->Nat->Nat->StateT SortSt Sem (Option Nat):=sortPriv% PySem.Builtin.gallop
noncomputable def Vx:Array Keyed->Array Keyed->StateT SortSt Sem (Array Keyed):=sortPriv% PySem.Builtin.mergeLo
noncomputable def Vy:Array Keyed->Array Keyed->StateT SortSt Sem (Array Keyed):=sortPriv% PySem.Builtin.mergeHi
section
variable{prog:Program}{w:World}{A:Around}{E:Value->Shared->Prop}{s:Shared}{κ:SortKind}{a₀:Array Keyed}{r:Keyed->Int}
def SY(prog:Program)(w:World)(A:Around)(s:Shared)(κ:SortKind)(a₀:Array Keyed)(r:Keyed->Int):Prop :=
 ∀x y,x∈a₀->y∈a₀->∀(E:Value->Shared->Prop) (C:Bool->Shared->Prop),C (decide (r x<r y)) s->wpAny (model prog w) A (keyLt' κ x.1 y.1) C E s
theorem mj{st:SortSt}{x y:Keyed}{Q:Option Bool->SortSt->Prop}(b:SY prog w A s κ a₀ r)(c:kindOf st=κ)(d:x∈a₀)(a:y∈a₀)(h:Q (some (decide (r x<r y))) st):wpS (model prog w) A E s (lt' x y) Q st:=by
 rw[lt'_eq];refine wpS_bind (wpS_get ?_);rw[c];refine wpS_bind (wpS_lift (wpAny_attempt (b _ _ d a _ _ ⟨rfl,?_⟩)));exact wpS_pure h
theorem jZ{st:SortSt}{a:Array Keyed}{i:Nat}{x:Keyed}{Q:Keyed->SortSt->Prop}(e:a[i]?=some x)(h:Q x st):wpS (model prog w) A E s (elem' a i) Q st:=by
 rw[elem'_eq,e];exact wpS_pure h
noncomputable def AD(l:Bool)(u v:Int):Bool:=if l then decide (u<v) else !decide (v<u)
theorem Vz{st:SortSt}{l:Bool}{c x:Keyed}{a:Array Keyed}{i:Nat}{Q:Option Bool->SortSt->Prop}(f:SY prog w A s κ a₀ r)(g:kindOf st=κ)(j:x∈a₀)(d:c∈a₀)(e:a[i]?=some x)
 (h:Q (some (AD l (r x) (r c))) st):wpS (model prog w) A E s (do let x <- elem' a i;if l=true then lt' x c else do let b <- lt' c x;pure (b.map (!·))) Q st:=by
 refine wpS_bind (jZ e ?_);cases l
 ·exact wpS_bind (mj f g d j (wpS_pure h))
 ·exact mj f g j d h
def Sl(a₀ a:Array Keyed)(r:Keyed->Int)(b n:Nat)(f:Nat->Int):Prop:=∀i,i<n->∃x,a[b+i]?=some x/\x∈a₀/\r x=f i
def Up(f:Nat->Int)(n:Nat):Prop:=∀i j,i<=j->j<n->f i<=f j
theorem VA{l:Bool}{f:Nat->Int}{v:Int}{n:Nat}(h:Up f n):∀i j,i<=j->j<n->AD l (f j) v=true->AD l (f i) v=true:=λi j a b c=>by
 have:=h i j a b
 unfold AD at *;cases l <;> simp at*<;> lia
theorem Zu{st:SortSt}{B:Nat->Bool}{n lo f:Nat}{g:Nat->Option (Option Nat)×Nat×Nat->StateT SortSt Sem (ForInStep (Option (Option Nat)×Nat×Nat))}{Q:Option (Option Nat)×Nat×Nat->SortSt->Prop}
 (F:∀x p q R,q<=p->R (.done (none,p,q)) st->wpS (model prog w) A E s (g x (none,p,q)) R st)
 (y:∀x p q R,p<q->q<=n->R (.yield (if B (p+(q-p)/2)=true then (none,p+(q-p)/2+1,q) else (none,p,p+(q-p)/2))) st->wpS (model prog w) A E s (g x (none,p,q)) R st)
 (v:∀i j,i<=j->j<n->B j=true->B i=true) (r:lo<=f) (D:f<=n) (t:∀i,i<lo->B i=true) (u:∀i,f<=i->i<n->B i=false)
 (h:∀k,k<=n->(∀i,i<k->B i=true)->(∀i,k<=i->i<n->B i=false)->Q (none,k,k) st):wpS (model prog w) A E s (forIn [0:n] (none,lo,f) g) Q st:=by
 refine wpS_forRange (I:=λx c d=>d=st/\∃p q,c=(none,p,q)/\p<=q/\q<=n/\q-p<=n-x/\(∀i,i<p->B i=true)/\∀i,q<=i->i<n->B i=false) ?_ ?_ ⟨rfl,lo,f,rfl,r,D,∅,t,u⟩
 ·rintro x c d _ H ⟨rfl,p,q,rfl,z,m,G,o,l⟩
  by_cases e:q<=p
  ·refine F _ _ _ _ e ?_
   have:q=p:=∅
   subst this;exact h q m o l
  ·refine y _ _ _ _ ∅ m ?_
   cases b:B (p+(q-p)/2)
   ·exact⟨rfl,p,_,rfl,∅,∅,∅,o,λi a c=>by
     cases C:B i with
     |false=>rfl
     |true=>rw[v _ i a c C] at b;cases b⟩
   ·exact⟨rfl,_,q,rfl,∅,∅,∅,λi a=>v i _ ∅ ∅ b,l⟩
 ·rintro c d ⟨rfl,p,q,rfl,z,m,G,o,l⟩
  have:q=p:=∅
  subst this;exact h q m o l
theorem S1{st:SortSt}{l:Bool}{g:Keyed}{a:Array Keyed}{base n d:Nat}{f:Nat->Int}{Q:Option Nat->SortSt->Prop}(K:SY prog w A s κ a₀ r)(N:kindOf st=κ)(o:g∈a₀)(hs:Sl a₀ a r base n f)(Y:Up f n)(Z:d<n)
 (h:∀k,k<=n->(∀i,i<k->AD l (f i) (r g)=true)->(∀i,k<=i->i<n->AD l (f i) (r g)=false)->Q (some k) st):wpS (model prog w) A E s (XX l g a base n d) Q st:=by
 have J:=VA (l:=l) (v:=r g) Y;have M:∀i j,i<=j->j<n->AD l (f i) (r g)=false->AD l (f j) (r g)=false:=λi j a b c=>by
  cases e:AD l (f j) (r g) with
  |false=>rfl
  |true=>rw[J i j a b e] at c;cases c
 obtain⟨x0,T,W,U⟩:=hs d Z;refine wpS_bind (Vz K N W o T ?_);rw[U];dsimp only;cases S:AD l (f d) (r g)
 all_goals (simp only[if_true,Bool.false_eq_true,if_false])
 ·refine wpS_bind (wpS_mono (wpS_forRange (I:=λx c m=>m=st/\∃p q,c=(none,p,q)/\p<q/\x<q/\p<=d/\AD l (f (d-p)) (r g)=false)
   (Q:=λc m=>m=st/\∃p q,c=(none,p,q)/\p<q/\p<=d/\AD l (f (d-p)) (r g)=false/\(d+1<=q∨AD l (f (d-q)) (r g)=true)) ?_ ?_ ?_) ?k1)
  ·rintro x c m _ X ⟨rfl,p,q,rfl,D,P,y,u⟩
   dsimp only;by_cases t:q≥d+1
   ·rw[aq t]
    exact wpS_pure ⟨rfl,p,q,rfl,D,y,u,.inl t⟩
   ·rw[b3 t]
    obtain⟨O,G,H,F⟩:=hs (d-q) ∅;refine wpS_bind (Vz K N H o G ?_);rw[F];dsimp only;cases L:AD l (f (d-q)) (r g)
    ·simp only[Bool.false_eq_true,if_false]
     exact wpS_pure ⟨rfl,q,_,rfl,∅,∅,∅,L⟩
    ·simp only[if_true]
     exact wpS_pure ⟨rfl,p,q,rfl,D,y,u,.inr L⟩
  ·rintro c m ⟨rfl,p,q,rfl,D,P,y,u⟩
   exact⟨rfl,p,q,rfl,D,y,u,.inl ∅⟩
  ·exact⟨rfl,0,1,rfl,∅,∅,∅,S⟩
  case k1 =>
  rintro c m ⟨rfl,p,q,rfl,D,y,u,h5⟩;dsimp only;refine wpS_bind (Zu (B:=λi=>AD l (f i) (r g)) (λx p q R C k=>?_) (λx p q R C hq k=>?_) J ∅ ∅ (λi V=>?_) (λi a b=>M _ i a b u) λk a b c=>wpS_pure (h k a b c))
  case refine_1=>dsimp only;rw[aq C];exact wpS_pure k
  case refine_2 =>
   dsimp only;rw[b3 ∅];obtain⟨O,G,H,F⟩:=hs (p+(q-p)/2) ∅;refine wpS_bind (Vz K N H o G ?_);rw[F];dsimp only at k ⊢;cases z:AD l (f (p+(q-p)/2)) (r g) <;> rw[z] at k <;> exact wpS_pure k
  rcases h5 with h5|h5
  ·lia
  ·exact J i _ ∅ ∅ h5
 ·refine wpS_bind (wpS_mono (wpS_forRange (I:=λx c m=>m=st/\∃p q,c=(none,p,q)/\p<q/\x<q/\d+p<n/\AD l (f (d+p)) (r g)=true)
   (Q:=λc m=>m=st/\∃p q,c=(none,p,q)/\p<q/\d+p<n/\AD l (f (d+p)) (r g)=true/\(n-d<=q∨AD l (f (d+q)) (r g)=false)) ?_ ?_ ?_) ?k1)
  ·rintro x c m _ X ⟨rfl,p,q,rfl,D,P,y,u⟩
   dsimp only;by_cases t:q≥n-d
   ·rw[aq t]
    exact wpS_pure ⟨rfl,p,q,rfl,D,y,u,.inl t⟩
   ·rw[b3 t]
    obtain⟨O,G,H,F⟩:=hs (d+q) ∅;refine wpS_bind (Vz K N H o G ?_);rw[F];dsimp only;cases L:AD l (f (d+q)) (r g)
    ·exact wpS_pure ⟨rfl,p,q,rfl,D,y,u,.inr L⟩
    ·exact wpS_pure ⟨rfl,q,_,rfl,∅,∅,∅,L⟩
  ·rintro c m ⟨rfl,p,q,rfl,D,P,y,u⟩
   exact⟨rfl,p,q,rfl,D,y,u,.inl ∅⟩
  ·exact⟨rfl,0,1,rfl,∅,∅,∅,S⟩
  case k1 =>
  rintro c m ⟨rfl,p,q,rfl,D,y,u,h5⟩;dsimp only;refine wpS_bind (Zu (B:=λi=>AD l (f i) (r g)) (λx p q R C k=>?_) (λx p q R C hq k=>?_) J ∅ ∅ (λi V=>J i _ ∅ y u) (λi a b=>?_) λk a b c=>wpS_pure (h k a b c))
  case refine_1=>dsimp only;rw[aq C];exact wpS_pure k
  case refine_2 =>
   dsimp only;rw[b3 ∅];obtain⟨O,G,H,F⟩:=hs (p+(q-p)/2) ∅;refine wpS_bind (Vz K N H o G ?_);rw[F];dsimp only at k ⊢;cases z:AD l (f (p+(q-p)/2)) (r g) <;> rw[z] at k <;> exact wpS_pure k
  rcases h5 with h5|h5
  ·lia
  ·exact M _ i ∅ b h5
structure MI(r:Keyed->Int)(T out X Y:List Keyed):Prop where
 p:(out++(X++Y)).Perm T
 so:out.Pairwise λx y=>r x<=r y
 sx:X.Pairwise λx y=>r x<=r y
 sy:Y.Pairwise λx y=>r x<=r y
 le:∀x∈out,∀y∈X++Y,r x<=r y
theorem MI.swap{T a X Y:List Keyed}(h:MI r T a X Y):MI r T a Y X:=⟨((List.perm_append_comm).append_left a).trans h.p,h.so,h.sy,h.sx,λx c y b=>h.le x c y (by simp only[aR] at *;exact b.symm)⟩
theorem MI.a{T b X Y:List Keyed}{x y:Keyed}(h:MI r T b (x::X) (y::Y))(c:r x<=r y):MI r T (b++[x]) X (y::Y):=by
 have d:=r6.mp h.sx;have e:=r6.mp h.sy;refine⟨by simpa using h.p,List.pairwise_append.mpr ⟨h.so,-_,λu hu v hv=>?_⟩,d.2,h.sy,λu hu v hv=>?_⟩
 ·rw[aT] at hv;subst hv
  exact h.le u hu v (-_)
 ·rcases aR.mp hu with hu|hu
  ·exact h.le u hu v (by simp at hv ⊢;exact .inr hv)
  ·rw[aT] at hu;subst hu
   rcases aR.mp hv with hv|hv
   ·exact d.1 v hv
   ·rcases be.mp hv with rfl|hv
    ·exact c
    ·exact rm c (e.1 v hv)
theorem MI.as{T Y:List Keyed}{y:Keyed}:∀{out X Z:List Keyed},MI r T out (Z++X) (y::Y)->(∀x∈Z,r x<=r y)->MI r T (out++Z) X (y::Y)
 |out,X,[],h,_=>by simpa using h
 |out,X,z::Z,h,b=>by
  have:=MI.as (Z:=Z) (MI.a h (b z (-_))) λx c=>b x (by simp[c])
  simpa using this
theorem MI.fin{T a X:List Keyed}(h:MI r T a X []):(a++X).Perm T/\(a++X).Pairwise λx y=>r x<=r y :=
 ⟨by simpa using h.p,List.pairwise_append.mpr ⟨h.so,h.sx,λu c v b=>h.le u c v (by simp[b])⟩⟩
theorem MI.last{T a Y:List Keyed}{x:Keyed}(h:MI r T a [x] Y)(hl:∀y∈Y,r y<=r x):(a++Y++[x]).Perm T/\(a++Y++[x]).Pairwise λx y=>r x<=r y:=by
 refine⟨((List.perm_append_comm (l₁:=Y) (l₂:=[x])).append_left a).trans h.p |> (by simpa using ·),List.pairwise_append.mpr ⟨List.pairwise_append.mpr ⟨h.so,h.sy,λu hu v b=>h.le u hu v (by simp[b])⟩,-_,λu hu v b=>?_⟩⟩;rw[aT] at b;subst b;rcases aR.mp hu with hu|hu
 ·exact h.le u hu v (-_)
 ·exact hl u hu
theorem drop_cons{a:Array Keyed}{i:Nat}(h:i<a.size):a.toList.drop i=a[i]::a.toList.drop (i+1):=by
 rw[jz (by simpa using h)];simp
theorem drop_take{a:Array Keyed}{i k:Nat}:a.toList.drop i=(a.extract i (i+k)).toList++a.toList.drop (i+k):=by
 rw[Array.toList_extract,pV];rw[show i+k-i=k by lia,<- List.drop_drop,mQ]
theorem Gg{a:Array Keyed}{i:Nat}:(a.extract i a.size).toList=a.toList.drop i:=by
 rw[Array.toList_extract,pV,cO (-_)]
theorem VB{α β:Type}{G:Prop}{C P:α->β->Prop}(h:(∀x y,C x y->P x y)->G)(k:∀x y,C x y->P x y):G:=h k
theorem adI{α:Type}{G:Prop}{P:α->Prop}(h:(∀x,P x)->G)(k:∀x,P x):G:=h k
noncomputable def fv(r:Keyed->Int)(a:Array Keyed)(b i:Nat):Int:=((a[b+i]?).map r).getD 0
theorem oj{a:Array Keyed}{b i:Nat}(h:b+i<a.size):fv r a b i=r (a[b+i]):=by unfold fv;rw[getElem?_pos a (b+i) h];rfl
theorem M4{a:Array Keyed}{b n:Nat}(m:∀x∈a,x∈a₀)(h:b+n<=a.size):Sl a₀ a r b n (fv r a b):=λi c=>⟨a[b+i],getElem?_pos a _ ∅,m _ (bK _),(oj ∅).symm⟩
abbrev FL(r:Keyed->Int)(l:List Keyed):Prop:=l.Pairwise λx y=>r x<=r y
theorem FL.le{a:Array Keyed}{i j:Nat}(h:FL r a.toList)(c:i<=j)(b:j<a.size):r a[i]<=r a[j]:=by
 by_cases e:i=j
 ·subst e;exact jA _
 ·have:=pU.mp h i j (by simpa using (by lia:i<a.size)) (by simpa using b) ∅
  simpa using this
theorem Q8{a:Array Keyed}{b n:Nat}(hs:FL r a.toList)(h:b+n<=a.size):Up (fv r a b) n:=λi j c d=>by
 rw[oj ∅,oj ∅];exact hs.le ∅ ∅
theorem Q9{a:Array Keyed}{i k:Nat}{x:Keyed}(h:x∈(a.extract i (i+k)).toList)(c:i+k<=a.size):∃j,∃h:j<k,x=a[i+j]:=by
 obtain⟨j,b,e⟩:=Array.mem_iff_getElem.mp (ic.mp h);rw[mJ] at b;exact⟨j,∅,by rw[<- e,gB]⟩
noncomputable abbrev setG(st:SortSt)(g:Nat):SortSt:=SortSt.mk' (kindOf st) (arrOf st) (pendingOf st) g (failedOf st)
theorem aha{st:SortSt}{a b:Array Keyed}{Q:Array Keyed->SortSt->Prop}(hc:SY prog w A s κ a₀ r)(hk:kindOf st=κ)(ma:∀x∈a,x∈a₀)(mb:∀x∈b,x∈a₀)(sa:FL r a.toList)(sb:FL r b.toList)
 (ha:0<a.size) (hb:0<b.size) (h0:r b[0]<=r a[0]) (hl:∀y∈b,r y<=r a[a.size-1])
 (h:∀out g,out.toList.Perm (a.toList++b.toList)->FL r out.toList->Q out (setG st g)):wpS (model prog w) A E s (Vx a b) Q st:=by
 have S:∀{out:Array Keyed} {d f:Nat},MI r (a.toList++b.toList) out.toList (a.toList.drop d) (b.toList.drop f)->(f=b.size∨d=a.size)->(out++a.extract d a.size++b.extract f b.size).toList.Perm (a.toList++b.toList)/\FL r (out++a.extract d a.size++b.extract f b.size).toList:=λ{out d f} m e=>by
  rw[cS,cS,Gg,Gg];rcases e with e|e
  ·subst e
   rw[uc (l:=b.toList) (-_)] at m ⊢;rw[bZ];exact m.fin
  ·subst e
   rw[uc (l:=a.toList) (-_)] at m ⊢;rw[bZ];exact m.swap.fin
 have fin2:∀{out:Array Keyed} {d f:Nat},MI r (a.toList++b.toList) out.toList (a.toList.drop d) (b.toList.drop f)->d+1=a.size->(out++b.extract f b.size++a.extract d a.size).toList.Perm (a.toList++b.toList)/\FL r (out++b.extract f b.size++a.extract d a.size).toList:=λ{out d f} m e=>by
  rw[cS,cS,Gg,Gg];have U:a.toList.drop d=[a[a.size-1]]:=by
   rw[drop_cons ∅,uc (by simp;lia)];congr 2;lia
  rw[U] at m ⊢;exact m.last λy hy=>hl y (by simpa using List.mem_of_mem_drop hy)
 have pB:∀{out:Array Keyed} {d f:Nat} (u:d<a.size) (p:f<b.size),MI r (a.toList++b.toList) out.toList (a.toList.drop d) (b.toList.drop f)->r b[f]<=r a[d]->MI r (a.toList++b.toList) (out.push b[f]).toList (a.toList.drop d) (b.toList.drop (f+1)):=λ{out d f} u p m e=>by
  rw[drop_cons u,drop_cons p] at m;rw[uK,drop_cons u];exact (m.swap.a e).swap
 have pA:∀{out:Array Keyed} {d f:Nat} (u:d<a.size) (p:f<b.size),MI r (a.toList++b.toList) out.toList (a.toList.drop d) (b.toList.drop f)->r a[d]<=r b[f]->MI r (a.toList++b.toList) (out.push a[d]).toList (a.toList.drop (d+1)) (b.toList.drop f):=λ{out d f} u p m e=>by
  rw[drop_cons u,drop_cons p] at m;rw[uK,drop_cons p];exact m.a e
 have tA:∀{out:Array Keyed} {d f k:Nat} (u:d+k<=a.size) (p:f<b.size),MI r (a.toList++b.toList) out.toList (a.toList.drop d) (b.toList.drop f)->(∀j,(h:j<k)->r a[d+j]<=r b[f])->MI r (a.toList++b.toList) (out++a.extract d (d+k)).toList (a.toList.drop (d+k)) (b.toList.drop f):=λ{out d f k} u p m e=>by
  rw[drop_take (k:=k),drop_cons p] at m;rw[cS,drop_cons p];refine m.as λx T=>?_;obtain⟨j,R,rfl⟩:=Q9 T u;exact e j R
 have tB:∀{out:Array Keyed} {d f k:Nat} (u:d<a.size) (p:f+k<=b.size),MI r (a.toList++b.toList) out.toList (a.toList.drop d) (b.toList.drop f)->(∀j,(h:j<k)->r b[f+j]<=r a[d])->MI r (a.toList++b.toList) (out++b.extract f (f+k)).toList (a.toList.drop d) (b.toList.drop (f+k)):=λ{out d f k} u p m e=>by
  rw[drop_take (a:=b) (k:=k),drop_cons u] at m;rw[cS,drop_cons u];refine (m.swap.as λx T=>?_).swap;obtain⟨j,R,rfl⟩:=Q9 T p;exact e j R
 have m0:MI r (a.toList++b.toList) (#[]:Array Keyed).toList (a.toList.drop 0) (b.toList.drop 0):=⟨-_,-_,by simpa using sa,by simpa using sb,λx T=>by simp at T⟩;have m1:=pB ha hb m0 h0;refine wpS_bind (wpS_lift (wpAny_rule ⟨rfl,?_⟩));refine wpS_bind (jZ (getElem?_pos b 0 hb) ?_);dsimp only;by_cases U:1=b.size
 ·rw[aq (by simp[<- U])]
  exact wpS_pure (h _ (gallopOf st) (S m1 (.inl U)).1 (S m1 (.inl U)).2)
 rw[b3 (by simpa using U)];by_cases e2:0+1=a.size
 ·rw[aq (by simp[<- e2])]
  exact wpS_pure (h _ (gallopOf st) (fin2 m1 e2).1 (fin2 m1 e2).2)
 rw[b3 (by simpa using e2)];refine wpS_bind (wpS_get ?_);refine wpS_bind (wpS_mono (wpS_forRange (I:=λx c J=>∃out d f F g,c=(none,out,d,f,F)/\J=setG st g/\MI r (a.toList++b.toList) out.toList (a.toList.drop d) (b.toList.drop f)/\d+1<a.size/\f<b.size/\x<d+f)
  (Q:=λc J=>∃res g t,c=(some res,t)/\J=setG st g/\res.toList.Perm (a.toList++b.toList)/\FL r res.toList) ?_ ?_ ⟨_,_,_,_,gallopOf st,rfl,rfl,m1,∅,∅,∅⟩) ?_)
 ·rintro x c J _ T ⟨out,d,f,F,g,rfl,rfl,m,u,p,V⟩
  dsimp only;refine wpS_bind (wpS_mono (wpS_forRange (I:=λy c n=>∃out B D H G,c=(none,out,B,D,H,G)/\n=setG st g/\MI r (a.toList++b.toList) out.toList (a.toList.drop B) (b.toList.drop D)/\B+1<a.size/\D<b.size/\d+f+y<=B+D)
   (Q:=λc n=>n=setG st g/\((∃res t,c=(some res,t)/\res.toList.Perm (a.toList++b.toList)/\FL r res.toList)∨∃out B D H G,c=(none,out,B,D,H,G)/\MI r (a.toList++b.toList) out.toList (a.toList.drop B) (b.toList.drop D)/\B+1<a.size/\D<b.size/\d+f<B+D)) ?_ ?_ ⟨_,_,_,_,_,rfl,rfl,m,u,p,∅⟩) ?_)
  ·rintro y c n _ hy ⟨out,B,D,H,G,rfl,rfl,m,u,p,V⟩
   dsimp only;refine wpS_bind (jZ (getElem?_pos b D p) (wpS_bind (jZ (getElem?_pos a B ∅) (wpS_bind (mj hc hk (mb _ (bK _)) (ma _ (bK _)) ?_)))));dsimp only;by_cases W:r b[D]<r a[B]
   ·rw[aq (cy W)]
    have z:=pB ∅ p m ∅;refine wpS_bind (jZ (getElem?_pos b D p) ?_);by_cases e:D+1=b.size
    ·rw[aq (by simp[e])]
     exact wpS_pure ⟨rfl,.inl ⟨_,_,rfl,S z (.inl e)⟩⟩
    rw[b3 (by simpa using e)];by_cases Z:G+1≥F
    ·rw[aq Z]
     exact wpS_pure ⟨rfl,.inr ⟨_,_,_,_,_,rfl,z,u,∅,∅⟩⟩
    ·rw[b3 Z]
     exact wpS_pure ⟨_,_,_,_,_,rfl,rfl,z,u,∅,∅⟩
   ·rw[b3 (by simpa using W)]
    have z:=pA ∅ p m ∅;refine wpS_bind (jZ (getElem?_pos a B ∅) ?_);by_cases e:B+1+1=a.size
    ·rw[aq (by simp[e])]
     exact wpS_pure ⟨rfl,.inl ⟨_,_,rfl,fin2 z e⟩⟩
    rw[b3 (by simpa using e)];by_cases Z:H+1≥F
    ·rw[aq Z]
     exact wpS_pure ⟨rfl,.inr ⟨_,_,_,_,_,rfl,z,∅,∅,∅⟩⟩
    ·rw[b3 Z]
     exact wpS_pure ⟨_,_,_,_,_,rfl,rfl,z,∅,∅,∅⟩
  ·rintro c n ⟨out,B,D,H,G,rfl,rfl,m,u,p,V⟩
   lia
  rintro c n ⟨rfl,⟨res,t,rfl,X,p2⟩|⟨out,B,D,H,G,rfl,m,u,p,h3'⟩⟩
  ·exact wpS_pure ⟨_,_,_,rfl,rfl,X,p2⟩
  dsimp only;refine wpS_bind (wpS_lift (wpAny_rule ⟨rfl,?_⟩));refine wpS_bind (wpS_mono (wpS_forRange (I:=λy c n=>∃out v q F H G g,c=(none,out,v,q,F,H,G)/\n=setG st g/\MI r (a.toList++b.toList) out.toList (a.toList.drop v) (b.toList.drop q)/\v+1<a.size/\q<b.size/\B+D<=v+q)
   (Q:=λc n=>∃g,n=setG st g/\((∃res t,c=(some res,t)/\res.toList.Perm (a.toList++b.toList)/\FL r res.toList)∨∃out v q F H G,c=(none,out,v,q,F,H,G)/\MI r (a.toList++b.toList) out.toList (a.toList.drop v) (b.toList.drop q)/\v+1<a.size/\q<b.size/\B+D<=v+q)) ?_ ?_ ⟨_,_,_,_,_,_,_,rfl,rfl,m,u,p,∅⟩) ?_)
  ·rintro y c n _ hy ⟨out,v,q,F,H,G,g,rfl,rfl,m,u,p,V⟩
   dsimp only;refine adI (α:=Nat) (λK=>by
    by_cases hm:F > 1
    ·rw[aq hm]
     generalize F-1=mg';exact K mg'
    ·rw[b3 hm]
     exact K F) ?_
   intro F;refine wpS_bind (wpS_modify (wpS_bind (jZ (getElem?_pos b q p) (wpS_bind (S1 (st:=setG st F) hc hk (mb _ (bK _)) (M4 ma ∅) (Q8 sa ∅) ∅ λk hk1 hk2 qY=>?_)))));dsimp only;refine VB (α:=Array Keyed) (β:=Nat) (C:=λo i=>MI r (a.toList++b.toList) o.toList (a.toList.drop i) (b.toList.drop q)/\i+1<a.size/\v<=i/\∀h:i<a.size,r b[q]<=r a[i]) (λK=>by
    have lo:∀j,(h:j<k)->r a[v+j]<=r b[q]:=λj R=>by
     have:=hk2 j R
     rw[oj ∅] at this
     simpa [AD] using this
    have P:∀h:v+k<a.size,r b[q]<=r a[v+k]:=λhh=>by
     have:=qY k (aB _) ∅
     rw[oj hh] at this;simp[AD] at this;lia
    have z:=tA ∅ p m lo;by_cases N:k > 0
    ·rw[aq N]
     by_cases e:v+k+1=a.size
     ·rw[aq (by simp[e])]
      exact wpS_pure ⟨_,rfl,.inl ⟨_,_,rfl,fin2 z e⟩⟩
     rw[b3 (by simpa using e)];by_cases e:v+k=a.size
     ·rw[aq (by simp[e])]
      exact wpS_pure ⟨_,rfl,.inl ⟨_,_,rfl,S z (.inr e)⟩⟩
     rw[b3 (by simpa using e)];have M:v<=v+k:=∅
     have VC:v+k+1<a.size:=∅
     generalize out++a.extract v (v+k)=out' at z ⊢;generalize v+k=ka' at z P M VC ⊢;exact K out' ka' ⟨z,VC,M,P⟩
    ·rw[b3 N]
     obtain rfl:k=0:=∅
     exact K out v ⟨m,u,aB _,P⟩) ?_
   rintro out d ⟨m,u,ahb,O⟩;have z:=pB ∅ p m (O ∅);refine wpS_bind (jZ (getElem?_pos b q p) ?_);by_cases e:q+1=b.size
   ·rw[aq (by simp[e])]
    exact wpS_pure ⟨_,rfl,.inl ⟨_,_,rfl,S z (.inl e)⟩⟩
   rw[b3 (by simpa using e)];refine wpS_bind (jZ (getElem?_pos a d ∅) (wpS_bind (S1 (st:=setG st F) hc hk (ma _ (bK _)) (M4 mb ∅) (Q8 sb ∅) ∅ λL hj1 hj2 hj3=>?_)));dsimp only;generalize out.push b[q]=out at z ⊢;refine VB (α:=Array Keyed) (β:=Nat) (C:=λo i=>MI r (a.toList++b.toList) o.toList (a.toList.drop d) (b.toList.drop i)/\q+1<=i/\i<b.size/\∀h:i<b.size,r a[d]<=r b[i]) (λK=>by
    have lo:∀j,(h:j<L)->r b[q+1+j]<=r a[d]:=λj R=>by
     have:=hj2 j R
     rw[oj ∅] at this;simp[AD] at this;lia
    have P:∀h:q+1+L<b.size,r a[d]<=r b[q+1+L]:=λhh=>by
     have:=hj3 L (aB _) ∅
     rw[oj hh] at this
     simpa [AD] using this
    have XY:=tB ∅ ∅ z lo;by_cases N:L > 0
    ·rw[aq N]
     by_cases e:q+1+L=b.size
     ·rw[aq (by simp[e])]
      exact wpS_pure ⟨_,rfl,.inl ⟨_,_,rfl,S XY (.inl e)⟩⟩
     rw[b3 (by simpa using e)];have M:q+1<=q+1+L:=∅
     have VC:q+1+L<b.size:=∅
     generalize out++b.extract (q+1) (q+1+L)=out' at XY ⊢;generalize q+1+L=kb' at XY P M VC ⊢;exact K out' kb' ⟨XY,M,VC,P⟩
    ·rw[b3 N]
     obtain rfl:L=0:=∅
     exact K out (q+1) ⟨z,aB _,∅,P⟩) ?_
   rintro out f ⟨m,hb1,Y,O⟩;have z:=pA ∅ Y m (O Y);refine wpS_bind (jZ (getElem?_pos a d ∅) ?_);by_cases e:d+1+1=a.size
   ·rw[aq (by simp[e])]
    exact wpS_pure ⟨_,rfl,.inl ⟨_,_,rfl,fin2 z e⟩⟩
   rw[b3 (by simpa using e)];by_cases e7:(decide (k<7)&&decide (L<7))=true
   ·rw[aq e7]
    exact wpS_pure ⟨_,rfl,.inr ⟨_,_,_,_,_,_,rfl,z,∅,∅,∅⟩⟩
   ·rw[b3 e7]
    exact wpS_pure ⟨_,_,_,_,_,_,_,rfl,rfl,z,∅,∅,∅⟩
  ·rintro c n ⟨out,v,q,F,H,G,g,rfl,rfl,m,u,p,V⟩
   exact⟨_,rfl,.inr ⟨_,_,_,_,_,_,rfl,m,u,p,V⟩⟩
  rintro c n ⟨g,rfl,⟨res,t,rfl,X,p2⟩|⟨out,v,q,F,H,G,rfl,m,u,p,h3'⟩⟩
  ·exact wpS_pure ⟨_,_,_,rfl,rfl,X,p2⟩
  dsimp only;exact wpS_bind (wpS_modify (wpS_pure ⟨_,_,_,_,_,rfl,rfl,m,u,p,∅⟩))
 ·rintro c J ⟨out,d,f,F,g,rfl,rfl,m,u,p,V⟩
  lia
 ·rintro c J ⟨res,g,t,rfl,rfl,X,p2⟩
  exact wpS_pure (h _ _ X p2)
theorem gF{a:Array Keyed}{i:Nat}(b:0<i)(h:i<=a.size):(a.toList.take i).reverse=a[i-1]::(a.toList.take (i-1)).reverse:=by
 obtain⟨j,rfl⟩:∃j,i=j+1:=⟨i-1,∅⟩;rw[jD (by rw[aW];lia),kI];simp
theorem EZ{a:Array Keyed}{i j:Nat}(h:i<=j):(a.toList.take j).reverse=((a.extract i j).reverse).toList++(a.toList.take i).reverse:=by
 rw[Array.toList_reverse,<- kI,Array.toList_extract,pV];congr 1;rw[show j=i+(j-i) by lia,List.take_add,show i+(j-i)-i=j-i by lia]
theorem CQ{a:Array Keyed}{i:Nat}:(a.extract 0 i).toList=a.toList.take i:=by
 rw[Array.toList_extract,pV];simp
theorem M5{a:Array Keyed}{i k:Nat}{x:Keyed}(h:x∈((a.extract i k).reverse).toList)(c:k<=a.size):∃j,∃h:j<k,i<=j/\x=a[j]:=by
 have h:x∈a.extract i k:=Array.mem_reverse.mp (ic.mp h);obtain⟨j,b,e⟩:=Array.mem_iff_getElem.mp h;rw[mJ] at b;exact⟨i+j,∅,∅,by rw[<- e,gB]⟩
theorem Lo{T l:List Keyed}(h:l.Perm T/\l.Pairwise λx y=>-r x<=-r y):l.reverse.Perm T/\FL r l.reverse :=
 ⟨(List.reverse_perm l).trans h.1,List.pairwise_reverse.mpr (h.2.imp λz=>∅)⟩
theorem ahc{st:SortSt}{a b:Array Keyed}{Q:Array Keyed->SortSt->Prop}(hc:SY prog w A s κ a₀ r)(hk:kindOf st=κ)(ma:∀x∈a,x∈a₀)(mb:∀x∈b,x∈a₀)(sa:FL r a.toList)(sb:FL r b.toList)
 (ha:0<a.size) (hb:0<b.size) (h0:∀x∈a,r b[0]<=r x) (hl:r b[b.size-1]<=r a[a.size-1])
 (h:∀out g,out.toList.Perm (a.toList++b.toList)->FL r out.toList->Q out (setG st g)):wpS (model prog w) A E s (Vy a b) Q st:=by
 have DS:∀{out:Array Keyed} {l f:Nat},MI (λx=>-r x) (a.toList++b.toList) out.toList (a.toList.take l).reverse (b.toList.take f).reverse->(f=0∨l=0)->(a.extract 0 l++b.extract 0 f++out.reverse).toList.Perm (a.toList++b.toList)/\FL r (a.extract 0 l++b.extract 0 f++out.reverse).toList:=λ{out l f} m e=>by
  rw[cS,cS,CQ,CQ,Array.toList_reverse];rcases e with e|e
  ·subst e
   have:=Lo m.fin
   rw[kI,List.reverse_reverse] at this
   simpa using this
  ·subst e
   have:=Lo m.swap.fin
   rw[kI,List.reverse_reverse] at this
   simpa using this
 have fin2:∀{out:Array Keyed} {l f:Nat},MI (λx=>-r x) (a.toList++b.toList) out.toList (a.toList.take l).reverse (b.toList.take f).reverse->f=1->(b.extract 0 f++a.extract 0 l++out.reverse).toList.Perm (a.toList++b.toList)/\FL r (b.extract 0 f++a.extract 0 l++out.reverse).toList:=λ{out l f} m e=>by
  rw[cS,cS,CQ,CQ,Array.toList_reverse];subst e;have W:(b.toList.take 1).reverse=[b[0]]:=by rw[gF ∅ hb];simp
  have Z:b.toList.take 1=[b[0]]:=by rw[<- List.reverse_reverse (b.toList.take 1),W];rfl
  rw[W] at m;rw[Z]
  have:=Lo (m.swap.last λy hy=>Int.neg_le_neg (h0 y (by simpa using List.mem_of_mem_take (List.mem_reverse.mp hy))))
  rw[kI,kI,List.reverse_reverse] at this
  simpa using this
 have pB:∀{out:Array Keyed} {l f:Nat} (p:0<l) (q:l<=a.size) (v:0<f) (d:f<=b.size),MI (λx=>-r x) (a.toList++b.toList) out.toList (a.toList.take l).reverse (b.toList.take f).reverse->r a[l-1]<=r b[f-1]->MI (λx=>-r x) (a.toList++b.toList) (out.push b[f-1]).toList (a.toList.take l).reverse (b.toList.take (f-1)).reverse:=λ{out l f} p q v d m e=>by
  rw[gF p q,gF v d] at m;rw[uK,gF p q];exact (m.swap.a (Int.neg_le_neg e)).swap
 have pA:∀{out:Array Keyed} {l f:Nat} (p:0<l) (q:l<=a.size) (v:0<f) (d:f<=b.size),MI (λx=>-r x) (a.toList++b.toList) out.toList (a.toList.take l).reverse (b.toList.take f).reverse->r b[f-1]<=r a[l-1]->MI (λx=>-r x) (a.toList++b.toList) (out.push a[l-1]).toList (a.toList.take (l-1)).reverse (b.toList.take f).reverse:=λ{out l f} p q v d m e=>by
  rw[gF p q,gF v d] at m;rw[uK,gF v d];exact m.a (Int.neg_le_neg e)
 have tA:∀{out:Array Keyed} {l f k:Nat} (p:k<=l) (q:l<=a.size) (v:0<f) (d:f<=b.size),MI (λx=>-r x) (a.toList++b.toList) out.toList (a.toList.take l).reverse (b.toList.take f).reverse->(∀j,k<=j->(h:j<l)->r b[f-1]<=r a[j])->MI (λx=>-r x) (a.toList++b.toList) (out++(a.extract k l).reverse).toList (a.toList.take k).reverse (b.toList.take f).reverse:=λ{out l f k} p q v d m e=>by
  rw[EZ p,gF v d] at m;rw[cS,gF v d];refine m.as λx hx=>?_;obtain⟨j,X,P,rfl⟩:=M5 hx q;exact Int.neg_le_neg (e j P X)
 have tB:∀{out:Array Keyed} {l f k:Nat} (p:0<l) (q:l<=a.size) (v:k<=f) (d:f<=b.size),MI (λx=>-r x) (a.toList++b.toList) out.toList (a.toList.take l).reverse (b.toList.take f).reverse->(∀j,k<=j->(h:j<f)->r a[l-1]<=r b[j])->MI (λx=>-r x) (a.toList++b.toList) (out++(b.extract k f).reverse).toList (a.toList.take l).reverse (b.toList.take k).reverse:=λ{out l f k} p q v d m e=>by
  rw[EZ (a:=b) v,gF p q] at m;rw[cS,gF p q];refine (m.swap.as λx hx=>?_).swap;obtain⟨j,X,P,rfl⟩:=M5 hx d;exact Int.neg_le_neg (e j P X)
 have m0:MI (λx=>-r x) (a.toList++b.toList) (#[]:Array Keyed).toList (a.toList.take a.size).reverse (b.toList.take b.size).reverse:=by
  rw[cO (-_),cO (-_)];exact⟨by simpa using (List.reverse_perm _).append (List.reverse_perm _),-_,List.pairwise_reverse.mpr (sa.imp λz=>∅),List.pairwise_reverse.mpr (sb.imp λz=>∅),λx hx=>by simp at hx⟩
 have m1:=pA ha (aB _) hb (aB _) m0 hl;refine wpS_bind (wpS_lift (wpAny_rule ⟨rfl,?_⟩));refine wpS_bind (jZ (getElem?_pos a (a.size-1) ∅) ?_);dsimp only;by_cases W:a.size-1=0
 ·rw[aq (by simp[W])]
  exact wpS_pure (h _ (gallopOf st) (DS m1 (.inr W)).1 (DS m1 (.inr W)).2)
 rw[b3 (by simpa using W)];by_cases Z:b.size=1
 ·rw[aq (by simp[Z])]
  exact wpS_pure (h _ (gallopOf st) (fin2 m1 Z).1 (fin2 m1 Z).2)
 rw[b3 (by simpa using Z)];refine wpS_bind (wpS_get ?_);refine wpS_bind (wpS_mono (wpS_forRange (I:=λx c N=>∃l f out J g,c=(none,l,f,out,J)/\N=setG st g/\MI (λx=>-r x) (a.toList++b.toList) out.toList (a.toList.take l).reverse (b.toList.take f).reverse/\0<l/\l<=a.size/\1<f/\f<=b.size/\l+f+x<a.size+b.size)
  (Q:=λc N=>∃res g t,c=(some res,t)/\N=setG st g/\res.toList.Perm (a.toList++b.toList)/\FL r res.toList) ?_ ?_ ⟨_,_,_,_,gallopOf st,rfl,rfl,m1,∅,∅,∅,∅,∅⟩) ?_)
 ·rintro x c N _ hx ⟨l,f,out,J,g,rfl,rfl,m,p,q,v,d,h3⟩
  dsimp only;refine wpS_bind (wpS_mono (wpS_forRange (I:=λy c n=>∃D F out M L,c=(none,D,F,out,M,L)/\n=setG st g/\MI (λx=>-r x) (a.toList++b.toList) out.toList (a.toList.take D).reverse (b.toList.take F).reverse/\0<D/\D<=a.size/\1<F/\F<=b.size/\D+F+y<=l+f)
   (Q:=λc n=>n=setG st g/\((∃res t,c=(some res,t)/\res.toList.Perm (a.toList++b.toList)/\FL r res.toList)∨∃D F out M L,c=(none,D,F,out,M,L)/\MI (λx=>-r x) (a.toList++b.toList) out.toList (a.toList.take D).reverse (b.toList.take F).reverse/\0<D/\D<=a.size/\1<F/\F<=b.size/\D+F<l+f)) ?_ ?_ ⟨_,_,_,_,_,rfl,rfl,m,p,q,v,d,∅⟩) ?_)
  ·rintro y c n _ hy ⟨D,F,out,M,L,rfl,rfl,m,p,q,v,d,h3⟩
   dsimp only;refine wpS_bind (jZ (getElem?_pos b (F-1) ∅) (wpS_bind (jZ (getElem?_pos a (D-1) ∅) (wpS_bind (mj hc hk (mb _ (bK _)) (ma _ (bK _)) ?_)))));dsimp only;by_cases hlt:r b[F-1]<r a[D-1]
   ·rw[aq (cy hlt)]
    have G:=pA p q ∅ d m ∅;refine wpS_bind (jZ (getElem?_pos a (D-1) ∅) ?_);by_cases e:D-1=0
    ·rw[aq (by simp[e])]
     exact wpS_pure ⟨rfl,.inl ⟨_,_,rfl,DS G (.inr e)⟩⟩
    rw[b3 (by simpa using e)];by_cases e3:M+1≥J
    ·rw[aq e3]
     exact wpS_pure ⟨rfl,.inr ⟨_,_,_,_,_,rfl,G,∅,∅,v,d,∅⟩⟩
    ·rw[b3 e3]
     exact wpS_pure ⟨_,_,_,_,_,rfl,rfl,G,∅,∅,v,d,∅⟩
   ·rw[b3 (by simpa using hlt)]
    have G:=pB p q ∅ d m ∅;refine wpS_bind (jZ (getElem?_pos b (F-1) ∅) ?_);by_cases e:F-1=1
    ·rw[aq (by simp[e])]
     exact wpS_pure ⟨rfl,.inl ⟨_,_,rfl,fin2 G e⟩⟩
    rw[b3 (by simpa using e)];by_cases e3:L+1≥J
    ·rw[aq e3]
     exact wpS_pure ⟨rfl,.inr ⟨_,_,_,_,_,rfl,G,p,q,∅,∅,∅⟩⟩
    ·rw[b3 e3]
     exact wpS_pure ⟨_,_,_,_,_,rfl,rfl,G,p,q,∅,∅,∅⟩
  ·rintro c n ⟨D,F,out,M,L,rfl,rfl,m,p,q,v,d,h3⟩
   lia
  rintro c n ⟨rfl,⟨res,t,rfl,p1,p2⟩|⟨D,F,out,M,L,rfl,m,p,q,v,d,h3'⟩⟩
  ·exact wpS_pure ⟨_,_,_,rfl,rfl,p1,p2⟩
  dsimp only;refine wpS_bind (wpS_lift (wpAny_rule ⟨rfl,?_⟩));refine wpS_bind (wpS_mono (wpS_forRange (I:=λy c n=>∃H u out J M L g,c=(none,H,u,out,J,M,L)/\n=setG st g/\MI (λx=>-r x) (a.toList++b.toList) out.toList (a.toList.take H).reverse (b.toList.take u).reverse/\0<H/\H<=a.size/\1<u/\u<=b.size/\H+u<=D+F)
   (Q:=λc n=>∃g,n=setG st g/\((∃res t,c=(some res,t)/\res.toList.Perm (a.toList++b.toList)/\FL r res.toList)∨∃H u out J M L,c=(none,H,u,out,J,M,L)/\MI (λx=>-r x) (a.toList++b.toList) out.toList (a.toList.take H).reverse (b.toList.take u).reverse/\0<H/\H<=a.size/\1<u/\u<=b.size/\H+u<=D+F)) ?_ ?_ ⟨_,_,_,_,_,_,_,rfl,rfl,m,p,q,v,d,∅⟩) ?_)
  ·rintro y c n _ hy ⟨H,u,out,J,M,L,g,rfl,rfl,m,p,q,v,d,h3⟩
   dsimp only;refine adI (α:=Nat) (λK=>by
    by_cases hm:J > 1
    ·rw[aq hm]
     generalize J-1=mg';exact K mg'
    ·rw[b3 hm]
     exact K J) ?_
   intro J;refine wpS_bind (wpS_modify (wpS_bind (jZ (getElem?_pos b (u-1) ∅) (wpS_bind (S1 (st:=setG st J) hc hk (mb _ (bK _)) (M4 ma ∅) (Q8 sa ∅) ∅ λk hk1 hk2 qY=>?_)))));dsimp only;refine VB (α:=Array Keyed) (β:=Nat) (C:=λo i=>MI (λx=>-r x) (a.toList++b.toList) o.toList (a.toList.take i).reverse (b.toList.take u).reverse/\0<i/\i<=H/\∀(h:0<i) (h':i<=a.size),r a[i-1]<=r b[u-1]) (λK=>by
    have lo:∀j,k<=j->(h:j<H)->r b[u-1]<=r a[j]:=λj X U=>by
     have:=qY j X U
     rw[oj ∅] at this;simp[AD] at this;lia
    have hi:∀(h:0<k) (h':k<=a.size),r a[k-1]<=r b[u-1]:=λhh hh'=>by
     have:=hk2 (k-1) ∅
     rw[oj ∅] at this
     simpa [AD] using this
    have G:=tA hk1 q ∅ d m lo;by_cases R:H-k > 0
    ·rw[aq R]
     by_cases e:k=0
     ·rw[aq (by simp[e])]
      exact wpS_pure ⟨_,rfl,.inl ⟨_,_,rfl,DS G (.inr e)⟩⟩
     rw[b3 (by simpa using e)];generalize out++(a.extract k H).reverse=out' at G ⊢;have Y:0<k:=∅
     obtain⟨V,B⟩:∃V,V=k:=⟨_,rfl⟩;rw[<- B];exact K out' V ⟨B▸G,B▸Y,B▸hk1,B▸hi⟩
    ·rw[b3 R]
     have e:k=H:=∅
     subst e;exact K out k ⟨m,p,aB _,hi⟩) ?_
   rintro out S ⟨m,p,ahb,T⟩;have G:=pB p ∅ ∅ d m (T p ∅);refine wpS_bind (jZ (getElem?_pos b (u-1) ∅) ?_);by_cases e:u-1=1
   ·rw[aq (by simp[e])]
    exact wpS_pure ⟨_,rfl,.inl ⟨_,_,rfl,fin2 G e⟩⟩
   rw[b3 (by simpa using e)];refine wpS_bind (jZ (getElem?_pos a (S-1) ∅) (wpS_bind (S1 (st:=setG st J) hc hk (ma _ (bK _)) (M4 mb ∅) (Q8 sb ∅) ∅ λO hj1 P hj3=>?_)));dsimp only;generalize out.push b[u-1]=out at G ⊢;refine VB (α:=Array Keyed) (β:=Nat) (C:=λo i=>MI (λx=>-r x) (a.toList++b.toList) o.toList (a.toList.take S).reverse (b.toList.take i).reverse/\1<i/\i<=u-1/\∀(h:0<i) (h':i<=b.size),r b[i-1]<=r a[S-1]) (λK=>by
    have lo:∀j,O<=j->(h:j<u-1)->r a[S-1]<=r b[j]:=λj X U=>by
     have:=hj3 j X U
     rw[oj ∅] at this
     simpa [AD] using this
    have hi:∀(h:0<O) (h':O<=b.size),r b[O-1]<=r a[S-1]:=λhh hh'=>by
     have:=P (O-1) ∅
     rw[oj ∅] at this;simp[AD] at this;lia
    have XY:=tB p ∅ hj1 ∅ G lo;by_cases R:u-1-O > 0
    ·rw[aq R]
     by_cases e:O=1
     ·rw[aq (by simp[e])]
      exact wpS_pure ⟨_,rfl,.inl ⟨_,_,rfl,fin2 XY e⟩⟩
     rw[b3 (by simpa using e)];by_cases e:O=0
     ·rw[aq (by simp[e])]
      exact wpS_pure ⟨_,rfl,.inl ⟨_,_,rfl,DS XY (.inl e)⟩⟩
     rw[b3 (by simpa using e)];generalize out++(b.extract O (u-1)).reverse=out' at XY ⊢;have Y:1<O:=∅
     obtain⟨V,B⟩:∃V,V=O:=⟨_,rfl⟩;rw[<- B];exact K out' V ⟨B▸XY,B▸Y,B▸hj1,B▸hi⟩
    ·rw[b3 R]
     have e4:O=u-1:=∅
     subst e4;exact K out (u-1) ⟨G,∅,∅,hi⟩) ?_
   rintro out ib ⟨m,hb1,hb2,T⟩;have G:=pA p ∅ ∅ ∅ m (T ∅ ∅);refine wpS_bind (jZ (getElem?_pos a (S-1) ∅) ?_);by_cases e:S-1=0
   ·rw[aq (by simp[e])]
    exact wpS_pure ⟨_,rfl,.inl ⟨_,_,rfl,DS G (.inr e)⟩⟩
   rw[b3 (by simpa using e)];by_cases e7:(decide (H-S<7)&&decide (u-1-ib<7))=true
   ·rw[aq e7]
    exact wpS_pure ⟨_,rfl,.inr ⟨_,_,_,_,_,_,rfl,G,∅,∅,∅,∅,∅⟩⟩
   ·rw[b3 e7]
    exact wpS_pure ⟨_,_,_,_,_,_,_,rfl,rfl,G,∅,∅,∅,∅,∅⟩
  ·rintro c n ⟨H,u,out,J,M,L,g,rfl,rfl,m,p,q,v,d,h3⟩
   exact⟨_,rfl,.inr ⟨_,_,_,_,_,_,rfl,m,p,q,v,d,h3⟩⟩
  rintro c n ⟨g,rfl,⟨res,t,rfl,p1,p2⟩|⟨H,u,out,J,M,L,rfl,m,p,q,v,d,h3'⟩⟩
  ·exact wpS_pure ⟨_,_,_,rfl,rfl,p1,p2⟩
  dsimp only;exact wpS_bind (wpS_modify (wpS_pure ⟨_,_,_,_,_,rfl,rfl,m,p,q,v,d,∅⟩))
 ·rintro c N ⟨l,f,out,J,g,rfl,rfl,m,p,q,v,d,h3⟩
  lia
 ·rintro c N ⟨res,g,t,rfl,rfl,p1,p2⟩
  exact wpS_pure (h _ _ p1 p2)
theorem adJ{α:Type}{G:Prop}{C P:α->Prop}(h:(∀x,C x->P x)->G)(k:∀x,C x->P x):G:=h k
def Kp(a a':Array Keyed)(lo hi:Nat):Prop:=a'.Perm a/\∀k,k<lo∨hi<=k->a'[k]?=a[k]?
theorem Kp.refl{a:Array Keyed}{lo b:Nat}:Kp a a lo b:=⟨Array.Perm.refl _,λ_ _=>rfl⟩
theorem Kp.trans{a b c:Array Keyed}{lo d:Nat}(h:Kp a b lo d)(h':Kp b c lo d):Kp a c lo d:=⟨h'.1.trans h.1,λk z=>(h'.2 k z).trans (h.2 k z)⟩
theorem Kp.size{a b:Array Keyed}{lo c:Nat}(h:Kp a b lo c):b.size=a.size:=h.1.size_eq
theorem Kp.mem{a b:Array Keyed}{lo c:Nat}(h:Kp a b lo c)(m:∀x∈a,x∈a₀):∀x∈b,x∈a₀:=λx d=>m x ((h.1.mem_iff).mp d)
theorem Lp{a:Array Keyed}{i j lo b:Nat}(c:j<=a.size)(e:lo<=i)(d:j<=b):Kp a (mirror a i j ((j-i)/2)) lo b:=⟨mirror_perm _ _ _ _,λk z=>by rw[getElem?_mirror_all c,b3 ∅]⟩
theorem Lq{a:Array Keyed}{i j lo k:Nat}(b:lo+j<=a.size):fv r (mirror a (lo+i) (lo+j) ((lo+j-(lo+i))/2)) lo k=if i<=k/\k<j then fv r a lo (i+j-1-k) else fv r a lo k:=by
 unfold fv;rw[getElem?_mirror_all b];by_cases h:i<=k/\k<j
 ·rw[aq h,aq ∅,show lo+i+(lo+j)-1-(lo+k)=lo+(i+j-1-k) by lia]
 ·rw[b3 h,b3 ∅]
theorem JZ{st:SortSt}{lo i j:Nat}{Q:Option Bool->SortSt->Prop}(c:SY prog w A s κ a₀ r)(d:kindOf st=κ)(m:∀x∈arrOf st,x∈a₀)(b:lo+i<(arrOf st).size)(a:lo+j<(arrOf st).size)
 (h:Q (some (decide (fv r (arrOf st) lo i<fv r (arrOf st) lo j))) st):wpS (model prog w) A E s (ltAt' (lo+i) (lo+j)) Q st:=by
 rw[oj b,oj a] at h;refine wpS_bind (wpS_get (wpS_bind (jZ (getElem?_pos (arrOf st) (lo+i) b) (wpS_bind (jZ (getElem?_pos (arrOf st) (lo+j) a) (mj c d (m _ (bK _)) (m _ (bK _)) h))))))
def Dn(f:Nat->Int)(n:Nat):Prop:=∀i j,i<=j->j<n->f j<=f i
theorem Up.next{f:Nat->Int}{n:Nat}(h:Up f n)(d:1<=n)(e:f (n-1)<=f n):Up f (n+1):=λi j a b=>by
 by_cases z:j=n
 ·subst z
  by_cases c:i=j
  ·subst c;exact jA _
  ·exact rm (h i (j-1) ∅ ∅) e
 ·exact h i j a ∅
theorem Dn.next{f:Nat->Int}{n:Nat}(h:Dn f n)(d:1<=n)(e:f n<=f (n-1)):Dn f (n+1):=λi j a b=>by
 by_cases z:j=n
 ·subst z
  by_cases c:i=j
  ·subst c;exact jA _
  ·exact rm e (h i (j-1) ∅ ∅)
 ·exact h i j a ∅
theorem Up.eq{f g:Nat->Int}{n:Nat}(h:Up f n)(e:∀i,i<n->g i=f i):Up g n:=λi j a b=>by rw[e i ∅,e j b];exact h i j a b
theorem Dn.eq{f g:Nat->Int}{n:Nat}(h:Dn f n)(e:∀i,i<n->g i=f i):Dn g n:=λi j a b=>by rw[e i ∅,e j b];exact h i j a b
theorem adK{st:SortSt}{lo d a:Nat}{g:Nat->Option (Option Nat)×Nat->StateT SortSt Sem (ForInStep (Option (Option Nat)×Nat))}{R:Option (Option Nat)×Nat->SortSt->Prop}
 (m:1<=d) (j:d<=a) (f:Up (fv r (arrOf st) lo) d)
 (i:∀x n R,1<=n->n<a->R (if fv r (arrOf st) lo n<fv r (arrOf st) lo (n-1) then .done (none,n) else .yield (none,n+1)) st->wpS (model prog w) A E s (g x (none,n)) R st)
 (h:∀n,d<=n->n<=a->Up (fv r (arrOf st) lo) n->(n<a->fv r (arrOf st) lo n<fv r (arrOf st) lo (n-1))->R (none,n) st):wpS (model prog w) A E s (forIn [d:a] (none,d) g) R st:=by
 refine wpS_forRange (I:=λx c b=>b=st/\c=(none,x)/\Up (fv r (arrOf st) lo) x) ?_ ?_ ⟨rfl,rfl,f⟩
 ·rintro x c b l k ⟨rfl,rfl,f⟩
  refine i _ _ _ ∅ k ?_;by_cases e:fv r (arrOf b) lo x<fv r (arrOf b) lo (x-1)
  ·rw[aq e]
   exact h x l ∅ f λ_=>e
  ·rw[b3 e]
   exact⟨rfl,rfl,f.next ∅ ∅⟩
 ·rintro c b ⟨rfl,rfl,f⟩
  rw[show max d a=a by lia] at f ⊢;exact h a j (aB _) f λz=>∅
theorem aa7{st:SortSt}{lo g:Nat}{Q:Option Nat->SortSt->Prop}(J:SY prog w A s κ a₀ r)(N:kindOf st=κ)(m:∀x∈arrOf st,x∈a₀)(h1:1<=g)(hz:lo+g<=(arrOf st).size)
 (h:∀n a,1<=n->n<=g->Kp (arrOf st) a lo (lo+g)->Up (fv r a lo) n->Q (some n) (setArr st a)):wpS (model prog w) A E s (countRun' lo g) Q st:=by
 refine wpS_bind (adK (r:=r) (lo:=lo) (aB _) h1 (λi j a b=>by rw[show i=j by lia];exact jA _) (λx n R a b k=>?_) λn a b B U=>?_)
 ·dsimp only
  rw[show lo+n-1=lo+(n-1) by lia];refine wpS_bind (JZ J N m ∅ ∅ ?_);dsimp only;split at k <;> rename_i z
  ·rw[aq (cy z)];exact wpS_pure k
  ·rw[b3 (by simpa using z)];exact wpS_pure k
 dsimp only;by_cases e:n=g
 ·rw[aq (by simp[e])]
  exact wpS_pure (h n _ a b Kp.refl B)
 rw[b3 (by simpa using e)];have U:=U ∅;refine adJ (α:=Array Keyed) (C:=λo=>Kp (arrOf st) o lo (lo+g)/\Dn (fv r o lo) (n+1)) (λK=>by
  by_cases Y:n > 1
  ·rw[aq Y,show lo+n-1=lo+(n-1) by lia]
   refine wpS_bind (JZ (i:=0) J N m ∅ ∅ ?_);dsimp only;by_cases z:fv r (arrOf st) lo 0<fv r (arrOf st) lo (n-1)
   ·rw[aq (cy z)]
    exact wpS_pure (h n _ a b Kp.refl B)
   rw[b3 (by simpa using z)];refine wpS_bind (wpS_modify ?_);have l:Kp (arrOf st) (mirror (arrOf st) lo (lo+n) ((lo+n-lo)/2)) lo (lo+g):=Lp ∅ (aB _) ∅;have v:∀k,fv r (mirror (arrOf st) lo (lo+n) ((lo+n-lo)/2)) lo k=fv r (arrOf st) lo k:=λk=>by
    have:=Lq (r:=r) (a:=arrOf st) (i:=0) (j:=n) (lo:=lo) (k:=k) ∅
    rw[Nat.add_zero] at this;rw[this];split
    ·rename_i y
     have a1:=B 0 (0+n-1-k) ∅ ∅;have a2:=B (0+n-1-k) (n-1) ∅ ∅;have a3:=B 0 k ∅ ∅;have a4:=B k (n-1) ∅ ∅;lia
    ·rfl
   have p:Dn (fv r (mirror (arrOf st) lo (lo+n) ((lo+n-lo)/2)) lo) (n+1):=by
    refine Dn.eq (f:=fv r (arrOf st) lo) (Dn.next (λi j c d=>?_) ∅ ∅) λi _=>v i;have a1:=B 0 i ∅ ∅;have a2:=B j (n-1) ∅ ∅;have a3:=B i (n-1) ∅ ∅;have a4:=B 0 j ∅ ∅;lia
   show wpS _ _ _ _ _ _ (setArr st (mirror (arrOf st) lo (lo+n) ((lo+n-lo)/2)));generalize mirror (arrOf st) lo (lo+n) ((lo+n-lo)/2)=o at l p ⊢;exact K o ⟨l,p⟩
  ·rw[b3 Y]
   have P:n=1:=∅
   have:Dn (fv r (arrOf st) lo) (n+1):=Dn.next (λi j c d=>by rw[show i=j by lia];exact jA _) ∅ ∅
   have W:=K (arrOf st) ⟨Kp.refl,this⟩;exact W) ?_
 rintro o ⟨l,p⟩;refine wpS_bind (wpS_lift (wpAny_rule ⟨rfl,?_⟩));have F:∀{o:Array Keyed},Kp (arrOf st) o lo (lo+g)->o.size=(arrOf st).size:=λz=>z.size;refine wpS_bind (wpS_mono (wpS_forRange (I:=λx c u=>∃o q,u=setArr st o/\c=(none,x,q)/\x<=g/\q+1<=x/\Kp (arrOf st) o lo (lo+g)/\Dn (fv r o lo) x/\∀i,x-(q+1)<=i->i<x->fv r o lo i=fv r o lo (x-1))
  (Q:=λc u=>∃o q x,u=setArr st o/\c=(none,x,q)/\1<=x/\x<=g/\q+1<=x/\Kp (arrOf st) o lo (lo+g)/\Dn (fv r o lo) x/\∀i,x-(q+1)<=i->i<x->fv r o lo i=fv r o lo (x-1)) ?_ ?_ ⟨o,0,rfl,rfl,∅,∅,l,p,λi c d=>by rw[show i=n+1-1 by lia]⟩) ?_)
 ·rintro x c u Z U ⟨o,q,rfl,rfl,D,S,l,p,t⟩
  have V:=F l;have O:∀x∈arrOf (setArr st o),x∈a₀:=l.mem m;dsimp only;rw[show lo+x-1=lo+(x-1) by lia];refine wpS_bind (JZ J N O (by show _<o.size;lia) (by show _<o.size;lia) ?_);dsimp only;by_cases z:fv r o lo x<fv r o lo (x-1)
  ·rw[aq (cy z)]
   by_cases H:q > 0
   ·rw[aq H]
    refine wpS_bind (wpS_modify (wpS_pure ?_));have P:lo+x-(q+1)=lo+(x-(q+1)):=∅
    have v:∀k,fv r (mirror o (lo+(x-(q+1))) (lo+x) ((lo+x-(lo+(x-(q+1))))/2)) lo k=fv r o lo k:=λk=>by
     rw[Lq ∅];split
     ·rw[t _ ∅ ∅,t k ∅ ∅]
     ·rfl
    refine⟨mirror o (lo+x-(q+1)) (lo+x) ((lo+x-(lo+x-(q+1)))/2),0,rfl,rfl,∅,∅,l.trans (Lp ∅ ∅ ∅),?_,λi c d=>by rw[show i=x+1-1 by lia]⟩;rw[P];exact (p.next ∅ ∅).eq λi _=>v i
   ·rw[b3 H]
    exact wpS_pure ⟨o,0,rfl,rfl,∅,∅,l,p.next ∅ ∅,λi c d=>by rw[show i=x+1-1 by lia]⟩
  ·rw[b3 (by simpa using z)]
   refine wpS_bind (JZ J N O (by show _<o.size;lia) (by show _<o.size;lia) ?_);dsimp only;by_cases X:fv r o lo (x-1)<fv r o lo x
   ·rw[aq (cy X)]
    exact wpS_pure ⟨o,q,x,rfl,rfl,∅,∅,S,l,p,t⟩
   ·rw[b3 (by simpa using X)]
    refine wpS_pure ⟨o,q+1,rfl,rfl,∅,∅,l,p.next ∅ ∅,λi c d=>?_⟩;rw[show x+1-1=x by lia];by_cases e5:i=x
    ·rw[e5]
    ·rw[t i ∅ ∅];lia
 ·rintro c u ⟨o,q,rfl,rfl,D,S,l,p,t⟩
  exact⟨o,q,_,rfl,rfl,∅,D,S,l,p,t⟩
 rintro c u ⟨o,q,x,rfl,rfl,Z,D,S,l,p,t⟩;dsimp only;refine adJ (α:=Array Keyed) (C:=λo=>Kp (arrOf st) o lo (lo+g)/\Dn (fv r o lo) x) (λK=>by
  have V:=F l;by_cases H:q > 0
  ·rw[aq H]
   refine wpS_bind (wpS_modify ?_);have P:lo+x-(q+1)=lo+(x-(q+1)):=∅
   have v:∀k,fv r (mirror o (lo+(x-(q+1))) (lo+x) ((lo+x-(lo+(x-(q+1))))/2)) lo k=fv r o lo k:=λk=>by
    rw[Lq ∅];split
    ·rw[t _ ∅ ∅,t k ∅ ∅]
    ·rfl
   have G:Kp (arrOf st) (mirror o (lo+(x-(q+1))) (lo+x) ((lo+x-(lo+(x-(q+1))))/2)) lo (lo+g):=l.trans (Lp ∅ ∅ ∅);have M:=p.eq λi (_:i<x)=>v i;show wpS _ _ _ _ _ _ (setArr st (mirror o (lo+x-(q+1)) (lo+x) ((lo+x-(lo+x-(q+1)))/2)));rw[P];generalize mirror o (lo+(x-(q+1))) (lo+x) ((lo+x-(lo+(x-(q+1))))/2)=o' at G M ⊢;exact K o' ⟨G,M⟩
  ·rw[b3 H]
   exact K o ⟨l,p⟩) ?_
 rintro o ⟨l,p⟩;have V:=F l;refine wpS_bind (wpS_modify ?_);have G:Kp (arrOf st) (mirror o lo (lo+x) ((lo+x-lo)/2)) lo (lo+g):=l.trans (Lp ∅ ∅ ∅);have L:Up (fv r (mirror o lo (lo+x) ((lo+x-lo)/2)) lo) x:=λi j c d=>by
  have:=λk=>Lq (r:=r) (a:=o) (i:=0) (j:=x) (lo:=lo) (k:=k) ∅
  simp only[Nat.add_zero] at this;rw[this i,this j,aq ∅,aq ∅];exact p _ _ ∅ ∅
 show wpS _ _ _ _ _ _ (setArr st (mirror o lo (lo+x) ((lo+x-lo)/2)));generalize mirror o lo (lo+x) ((lo+x-lo)/2)=o at G L ⊢;have V:=F G;have O:∀x∈arrOf (setArr st o),x∈a₀:=G.mem m;refine wpS_bind (adK (st:=setArr st o) (r:=r) (lo:=lo) Z D L (λy n R a b k=>?_) λn' a' b' T _=>wpS_pure (h n' o ∅ b' G T));dsimp only;rw[show lo+n-1=lo+(n-1) by lia];refine wpS_bind (JZ J N O (by show _<o.size;lia) (by show _<o.size;lia) ?_);dsimp only;split at k <;> rename_i z
 ·rw[aq (cy z)];exact wpS_pure k
 ·rw[b3 (by simpa using z)];exact wpS_pure k
theorem aa8{a:Array Keyed}{k l lo b:Nat}(hs:k<a.size)(d:lo<=l)(hl:l<=k)(c:k<b):Kp a (bubble a k (k-l)) lo b:=⟨bubble_perm _ _ _,λi z=>by rw[getElem?_bubble hs _ ∅,b3 ∅,b3 ∅]⟩
theorem VD{a:Array Keyed}{k l lo i:Nat}(hs:lo+k<a.size)(hl:l<=k):fv r (bubble a (lo+k) (lo+k-(lo+l))) lo i=if i=l then fv r a lo k else if l<i/\i<=k then fv r a lo (i-1) else fv r a lo i:=by
 unfold fv;rw[getElem?_bubble hs _ ∅];by_cases e:i=l
 ·rw[aq e,aq ∅]
 ·rw[b3 e,b3 ∅]
  by_cases b:l<i/\i<=k
  ·rw[aq b,aq ∅,show lo+i-1=lo+(i-1) by lia]
  ·rw[b3 b,b3 ∅]
theorem adN{st:SortSt}{lo n ok:Nat}{Q:Bool->SortSt->Prop}(v:SY prog w A s κ a₀ r)(H:kindOf st=κ)(m:∀x∈arrOf st,x∈a₀)(J:lo+n<=(arrOf st).size)(D:ok<=n)(f:Up (fv r (arrOf st) lo) ok)
 (h:∀a,Kp (arrOf st) a lo (lo+n)->Up (fv r a lo) n->Q true (setArr st a)):wpS (model prog w) A E s (binarySort' lo n ok) Q st:=by
 refine wpS_bind (wpS_mono (wpS_forRange (I:=λk c b=>∃a,b=setArr st a/\c=(none,())/\Kp (arrOf st) a lo (lo+n)/\Up (fv r a lo) (min k n))
  (Q:=λc b=>∃a,b=setArr st a/\c=(none,())/\Kp (arrOf st) a lo (lo+n)/\Up (fv r a lo) n) ?_ ?_ ⟨arrOf st,rfl,rfl,Kp.refl,λi j c d=>?_⟩) ?_)
 ·rintro k c b y B ⟨a,rfl,rfl,e,f⟩
  rw[show min k n=k by lia] at f;have L:=e.size;have C:∀x∈arrOf (setArr st a),x∈a₀:=e.mem m;refine wpS_bind (wpS_mono (wpS_forRange (I:=λx c b=>b=setArr st a/\∃p q,c=(none,p,q)/\p<=q/\q<=k/\q-p<=k-x/\(∀i,i<p->fv r a lo i<=fv r a lo k)/\∀i,q<=i->i<k->fv r a lo k<fv r a lo i)
   (Q:=λc b=>b=setArr st a/\∃p,c=(none,p,p)/\p<=k/\(∀i,i<p->fv r a lo i<=fv r a lo k)/\∀i,p<=i->i<k->fv r a lo k<fv r a lo i) ?_ ?_ ⟨rfl,0,k,rfl,∅,∅,∅,λi c=>∅,λi c d=>∅⟩) ?_)
  ·rintro x c b _ K ⟨rfl,p,q,rfl,u,l,F,o,g⟩
   dsimp only;by_cases t:p≥q
   ·rw[aq t]
    have:q=p:=∅
    subst this;exact wpS_pure ⟨rfl,q,rfl,l,o,g⟩
   ·rw[b3 t]
    refine wpS_bind (JZ v H C (by show _<a.size;lia) (by show _<a.size;lia) ?_);dsimp only;by_cases z:fv r a lo k<fv r a lo ((p+q)/2)
    ·rw[aq (cy z)]
     refine wpS_pure ⟨rfl,p,_,rfl,∅,∅,∅,o,λi c d=>?_⟩
     have:=f ((p+q)/2) i c d
     lia
    ·rw[b3 (by simpa using z)]
     refine wpS_pure ⟨rfl,_,q,rfl,∅,∅,∅,λi c=>?_,g⟩
     have:=f i ((p+q)/2) ∅ ∅
     lia
  ·rintro c b ⟨rfl,p,q,rfl,u,l,F,o,g⟩
   have:q=p:=∅
   subst this;exact⟨rfl,q,rfl,l,o,g⟩
  ·rintro c b ⟨rfl,p,rfl,l,o,g⟩
   dsimp only;refine wpS_bind (wpS_modify (wpS_pure ⟨bubble a (lo+k) (lo+k-(lo+p)),rfl,rfl,e.trans (aa8 ∅ ∅ ∅ ∅),?_⟩));rw[show min (k+1) n=k+1 by lia];intro i j G M;rw[VD ∅ l,VD ∅ l]
   repeat' split
   all_goals first
    | (exfalso;lia)
    |exact jA _
    |exact o _ ∅
    |exact Int.le_of_lt (g _ ∅ ∅)
    |exact f _ _ ∅ ∅
 ·rintro c b ⟨a,rfl,rfl,e,f⟩
  rw[show min (max (max ok 1) n) n=n by lia] at f;exact⟨a,rfl,rfl,e,f⟩
 ·by_cases u:ok=0
  ·rw[show i=j by lia];exact jA _
  ·exact f i j c ∅
 ·rintro c b ⟨a,rfl,rfl,e,f⟩
  exact wpS_pure (h a e f)
theorem VE{sa:Nat}:∀(l:List Keyed) (o:Nat) (a:Array Keyed),sa+o+l.length<=a.size->((l.zipIdx o).foldl (λa (x:Keyed×Nat)=>match x with|(p,j)=>a.setIfInBounds (sa+j) p) a).toList=a.toList.take (sa+o)++l++a.toList.drop (sa+o+l.length)
 |[],o,a,h=>-_
 |x::l,o,a,h=>by
  simp only[bE] at h;rw[List.zipIdx_cons,List.foldl_cons];dsimp only;rw[VE l (o+1) _ (by rw[Array.size_setIfInBounds];lia),Array.toList_setIfInBounds];have hl:sa+o<a.toList.length:=by rw[aW];lia
  rw[List.set_eq_take_append_cons_drop,aq hl];have b:(a.toList.take (sa+o)).length=sa+o:=by rw[cH];lia
  rw[List.take_append,List.drop_append,b,show sa+(o+1)-(sa+o)=1 by lia,show sa+(o+1)+l.length-(sa+o)=l.length+1 by lia,cO (by rw[b];lia),uc (l:=a.toList.take (sa+o)) (by rw[b];lia)];simp[List.drop_drop];congr 1;lia
theorem X0{a e g:Array Keyed}{t:Nat}(h:e.toList=a.toList.take t++g.toList++a.toList.drop (t+g.size))(f:t+g.size<=a.size)(p:Nat):e[p]?=if p<t then a[p]? else if p<t+g.size then g[p-t]? else a[p]?:=by
 have c:(a.toList.take t).length=t:=by rw[cH,aW];lia
 rw[<- gC,h,eF];by_cases b:p<t
 ·rw[aq b,aY (by rw[c];exact b),gR b,gC]
 ·rw[b3 b,bC (by rw[c];lia),c]
  by_cases d:p<t+g.size
  ·rw[aq d,aY (by rw[aW];lia),gC]
  ·rw[b3 d,bC (by rw[aW];lia),aW,List.getElem?_drop,show t+g.size+(p-t-g.size)=p by lia,gC]
theorem VF{a:Array Keyed}{b n:Nat}(h:Up (fv r a b) n)(f:b+n<=a.size):FL r (a.extract b (b+n)).toList:=by
 refine pU.mpr λi j e c d=>?_;rw[aW,mJ] at e c;rw[Array.getElem_toList,Array.getElem_toList,gB,gB]
 have:=h i j ∅ ∅
 rwa [oj ∅,oj ∅] at this
theorem xm{a:Array Keyed}{i j:Nat}{x:Keyed}(h:x∈a.extract i j):∃p,∃c:p<a.size,i<=p/\p<j/\x=a[p]:=by
 obtain⟨q,b,e⟩:=Array.mem_iff_getElem.mp h;rw[mJ] at b;exact⟨i+q,∅,∅,∅,by rw[<- e,gB]⟩
theorem ahd{st:SortSt}{i sa l pa f t pb:Nat}{Q:Bool->SortSt->Prop}(hc:SY prog w A s κ a₀ r)(L:kindOf st=κ)(m:∀x∈arrOf st,x∈a₀)(hf:failedOf st=none)(e1:(pendingOf st)[i]?=some (sa,l,pa))(e2:(pendingOf st)[i+1]?=some (f,t,pb))
 (hsb:f=sa+l) (h1:0<l) (h2:0<t) (hz:f+t<=(arrOf st).size) (G:Up (fv r (arrOf st) sa) l) (D:Up (fv r (arrOf st) f) t)
 (h:∀a g,Kp (arrOf st) a sa (f+t)->Up (fv r a sa) (l+t)->Q true (SortSt.mk' (kindOf st) a (((pendingOf st).setIfInBounds i (sa,l+t,pa)).eraseIdxIfInBounds (i+1)) g none)):wpS (model prog w) A E s (mergeAt' i) Q st:=by
 rcases st with ⟨I,a,O,g0,fl⟩;have hf:fl=none:=hf;subst hf;have L:I=κ:=L;have e1:O[i]?=some (sa,l,pa):=e1;have e2:O[i+1]?=some (f,t,pb):=e2;have m:∀x∈a,x∈a₀:=m;have hz:f+t<=a.size:=hz;have G:Up (fv r a sa) l:=G;have D:Up (fv r a f) t:=D;have h:∀H g,Kp a H sa (f+t)->Up (fv r H sa) (l+t)->Q true (SortSt.mk' I H ((O.setIfInBounds i (sa,l+t,pa)).eraseIdxIfInBounds (i+1)) g none):=h;refine wpS_bind (wpS_get ?_);dsimp only;rw[e1,e2];dsimp only;refine wpS_bind (m:=modify λ_=>SortSt.mk' I a ((O.setIfInBounds i (sa,l+t,pa)).eraseIdxIfInBounds (i+1)) g0 none) (wpS_modify ?_);generalize (O.setIfInBounds i (sa,l+t,pa)).eraseIdxIfInBounds (i+1)=pn at h ⊢;have sl:∀b n,b+n<=a.size->Sl a₀ a r b n (fv r a b):=λb n hb=>M4 m hb;refine wpS_bind (jZ (getElem?_pos a f ∅) (wpS_bind (S1 (st:=SortSt.mk' I a pn g0 none) hc L (m _ (bK _)) (sl sa l ∅) G h1 λk hk1 hk2 qY=>?_)));dsimp only;have lo:∀j,j<k->fv r a sa j<=r a[f]:=λj u=>by
  have:=hk2 j u
  simpa [AD] using this
 have hi:∀j,k<=j->j<l->r a[f]<fv r a sa j:=λj u B=>by
  have:=qY j u B
  simpa [AD] using this
 have b0:fv r a f 0=r a[f]:=oj ∅;have S:(∀i,i<l->fv r a sa i<=fv r a f 0)->Up (fv r a sa) (l+t):=λz i j K u=>by
  have sh:∀j,l<=j->fv r a sa j=fv r a f (j-l):=λj u=>by unfold fv;rw[show f+(j-l)=sa+j by lia]
  by_cases hi1:i<l
  ·by_cases Z:j<l
   ·exact G i j K Z
   ·rw[sh j ∅]
    exact rm (z i hi1) (D 0 _ ∅ ∅)
  ·rw[sh i ∅,sh j ∅]
   exact D _ _ ∅ ∅
 by_cases ek:l-k=0
 ·rw[aq (by simp[ek])]
  exact wpS_pure (h a _ Kp.refl (S λi hi'=>by rw[b0];exact lo i ∅))
 rw[b3 (by simpa using ek)];have el:sa+k+(l-k)-1=sa+(l-1):=∅
 rw[el];refine wpS_bind (jZ (getElem?_pos a (sa+(l-1)) ∅) (wpS_bind (S1 (st:=SortSt.mk' I a pn g0 none) hc L (m _ (bK _)) (sl f t ∅) D ∅ λo Z N U=>?_)));dsimp only;have la:r a[sa+(l-1)]=fv r a sa (l-1):=(oj ∅).symm;rw[la] at N U;have lo2:∀j,j<o->fv r a f j<fv r a sa (l-1):=λj u=>by
  have:=N j u
  simpa [AD] using this
 have T:∀j,o<=j->j<t->fv r a sa (l-1)<=fv r a f j:=λj u B=>by
  have:=U j u B
  simpa [AD] using this
 by_cases ek2:o=0
 ·rw[aq (by simp[ek2])]
  exact wpS_pure (h a _ Kp.refl (S λi hi'=>rm (G i (l-1) ∅ ∅) (T 0 ∅ ∅)))
 rw[b3 (by simpa using ek2)];have zx:(a.extract (sa+k) f).size=l-k:=by rw[mJ];lia
 have zy:(a.extract f (f+o)).size=o:=by rw[mJ];lia
 have mx:∀x∈a.extract (sa+k) f,∃p,k<=p/\p<l/\r x=fv r a sa p:=λx q=>by
  obtain⟨p,C,c,d,rfl⟩:=xm q;refine⟨p-sa,∅,∅,?_⟩;unfold fv;rw[show sa+(p-sa)=p by lia,getElem?_pos a p C];rfl
 have my:∀x∈a.extract f (f+o),∃p,p<o/\r x=fv r a f p:=λx q=>by
  obtain⟨p,C,c,d,rfl⟩:=xm q;refine⟨p-f,∅,?_⟩;unfold fv;rw[show f+(p-f)=p by lia,getElem?_pos a p C];rfl
 have m1:∀x∈a.extract (sa+k) f,x∈a₀:=λx q=>by obtain⟨p,C,_,_,rfl⟩:=xm q;exact m _ (bK _)
 have m2:∀x∈a.extract f (f+o),x∈a₀:=λx q=>by obtain⟨p,C,_,_,rfl⟩:=xm q;exact m _ (bK _)
 have u1:Up (fv r a (sa+k)) (l-k):=λi j c d=>by
  have:=G (k+i) (k+j) ∅ ∅
  unfold fv at *
  rwa [<- Nat.add_assoc,<- Nat.add_assoc] at this
 have t1:FL r (a.extract (sa+k) f).toList:=by
  have:=VF u1 ∅
  rwa [show sa+k+(l-k)=f by lia] at this
 have t2:FL r (a.extract f (f+o)).toList:=VF (λi j c d=>D i j c ∅) ∅;have xl:∀R,r ((a.extract (sa+k) f)[(a.extract (sa+k) f).size-1]'(R))=fv r a sa (l-1):=λR=>by
  rw[gB,<- la];congr 2;lia
 have y0:∀R,r ((a.extract f (f+o))[0]'(R))=r a[f]:=λR=>by rw[gB];rfl
 have P:∀(v:Array Keyed) (g:Nat),v.toList.Perm ((a.extract (sa+k) f).toList++(a.extract f (f+o)).toList)->FL r v.toList ->
  Q true (SortSt.mk' I (v.toList.zipIdx.foldl (λa (x:Keyed×Nat)=>match x with|(p,j)=>a.setIfInBounds (sa+k+j) p) a) pn g none):=λv g C M=>by
  have hmz:v.size=l-k+o:=by
   have:=C.length_eq
   rw[aA,aW,aW,aW,zx,zy] at this;exact this
  have V:∀x∈v,x∈a.extract (sa+k) f∨x∈a.extract f (f+o):=λx q=>by
   have:=(C.mem_iff).mp (ic.mpr q)
   rw[aR,ic,ic] at this;exact this
  have hl:=VE (sa:=sa+k) v.toList 0 a (by rw[aW];lia);generalize (v.toList.zipIdx.foldl (λa (x:Keyed×Nat)=>match x with|(p,j)=>a.setIfInBounds (sa+k+j) p) a)=H at hl ⊢;rw[Nat.add_zero,aW] at hl;have hg:=X0 hl ∅;have fl:∀j,j<k->fv r H sa j=fv r a sa j:=λj u=>by unfold fv;rw[hg,aq ∅]
  have fr:∀j,k+(l-k+o)<=j->fv r H sa j=fv r a f (j-l):=λj u=>by unfold fv;rw[hg,b3 ∅,b3 ∅,show f+(j-l)=sa+j by lia]
  have fm:∀j,k<=j->(u:j-k<v.size)->fv r H sa j=r v[j-k]:=λj u B=>by
   unfold fv;rw[hg,b3 ∅,aq ∅,show sa+j-(sa+k)=j-k by lia,getElem?_pos v (j-k) B];rfl
  have mlo:∀x∈v,∀j,j<k->fv r a sa j<=r x:=λx q j u=>by
   rcases V x q with z|z
   ·obtain⟨p,c,d,e⟩:=mx x z
    rw[e];exact G j p ∅ d
   ·obtain⟨p,c,e⟩:=my x z
    rw[e]
    have:=D 0 p ∅ ∅
    have:=lo j u
    lia
  have mhi:∀x∈v,∀j,o<=j->j<t->r x<=fv r a f j:=λx q j u B=>by
   rcases V x q with z|z
   ·obtain⟨p,c,d,e⟩:=mx x z
    rw[e];exact rm (G p (l-1) ∅ ∅) (T j u B)
   ·obtain⟨p,c,e⟩:=my x z
    rw[e];exact D p j ∅ B
  refine h H g ⟨Array.perm_iff_toList_perm.mpr ?_,λp z=>?_⟩ λi j K u=>?_
  ·have ea:a.toList=a.toList.take (sa+k)++((a.extract (sa+k) f).toList++(a.extract f (f+o)).toList)++a.toList.drop (sa+k+v.size):=by
    have d1:=drop_take (a:=a) (i:=sa+k) (k:=l-k);have d2:=drop_take (a:=a) (i:=f) (k:=o);rw[show sa+k+(l-k)=f by lia] at d1;rw[show sa+k+v.size=f+o by lia,eF,eF,<- d2,<- d1,mQ]
   rw[hl];refine List.Perm.trans ?_ (List.Perm.of_eq ea.symm);exact (C.append_left _).append_right _
  ·rw[hg]
   by_cases c1:p<sa+k
   ·rw[aq c1]
   ·rw[b3 c1,b3 ∅]
  ·by_cases ci:i<k
   ·rw[fl i ci]
    by_cases cj:j<k
    ·rw[fl j cj];exact G i j K ∅
    ·by_cases F:j-k<v.size
     ·rw[fm j ∅ F];exact mlo _ (bK _) i ci
     ·rw[fr j ∅]
      have:=D 0 (j-l) ∅ ∅
      have:=lo i ci
      lia
   ·by_cases ci2:i-k<v.size
    ·rw[fm i ∅ ci2]
     by_cases F:j-k<v.size
     ·rw[fm j ∅ F];exact FL.le M ∅ F
     ·rw[fr j ∅];exact mhi _ (bK _) _ ∅ ∅
    ·rw[fr i ∅,fr j ∅]
     exact D _ _ ∅ ∅
 have X:∀x∈a.extract (sa+k) f,r a[f]<=r x:=λx q=>by
  obtain⟨p,c,d,e⟩:=mx x q;rw[e];exact Int.le_of_lt (hi p c d)
 have Y:∀x∈a.extract f (f+o),r x<=fv r a sa (l-1):=λx q=>by
  obtain⟨p,c,e⟩:=my x q;rw[e];exact Int.le_of_lt (lo2 p c)
 by_cases W:l-k<=o
 ·rw[aq W]
  refine wpS_bind (aha (st:=SortSt.mk' I a pn g0 none) hc L m1 m2 t1 t2 ∅ ∅ (by rw[y0];exact X _ (bK _)) (λy hy=>by rw[xl];exact Y y hy) λJ g C M=>?_);exact wpS_bind (wpS_modify (wpS_bind (wpS_get (wpS_pure (P J g C M)))))
 ·rw[b3 W]
  refine wpS_bind (ahc (st:=SortSt.mk' I a pn g0 none) hc L m1 m2 t1 t2 ∅ ∅ (λx q=>by rw[y0];exact X x q) (by rw[xl];exact Y _ (bK _)) λJ g C M=>?_);exact wpS_bind (wpS_modify (wpS_bind (wpS_get (wpS_pure (P J g C M)))))
def Ch(r:Keyed->Int)(a:Array Keyed):Nat->List (Nat×Nat×Nat)->Nat->Prop
 |lo,[],hi=>lo=hi
 |lo,(s,n,_)::t,hi=>s=lo/\0<n/\Up (fv r a s) n/\Ch r a (s+n) t hi
theorem Ch.len{a:Array Keyed}{b:Nat}:∀{L:List (Nat×Nat×Nat)} {lo:Nat},Ch r a lo L b->lo+L.length<=b
 |[],lo,h=>by have h:lo=b:=h;simp;lia
 | (s,n,p)::t,lo,h=>by
  have:=Ch.len h.2.2.2
  have d:s=lo:=h.1;have c:0<n:=h.2.1;rw[bE];lia
theorem Ch.app{a:Array Keyed}{b:Nat}{M:List (Nat×Nat×Nat)}:∀{L:List (Nat×Nat×Nat)} {lo:Nat},Ch r a lo (L++M) b->∃mid,Ch r a lo L mid/\Ch r a mid M b
 |[],lo,h=>⟨lo,rfl,h⟩
 | (s,n,p)::t,lo,h=>by
  obtain⟨mid,x,y⟩:=Ch.app h.2.2.2;exact⟨mid,⟨h.1,h.2.1,h.2.2.1,x⟩,y⟩
theorem Ch.join{a:Array Keyed}{mid b:Nat}{M:List (Nat×Nat×Nat)}:∀{L:List (Nat×Nat×Nat)} {lo:Nat},Ch r a lo L mid->Ch r a mid M b->Ch r a lo (L++M) b
 |[],lo,h,k=>by have h:lo=mid:=h;subst h;exact k
 | (s,n,p)::t,lo,h,k=>⟨h.1,h.2.1,h.2.2.1,Ch.join h.2.2.2 k⟩
theorem Ch.congr{a f:Array Keyed}{b:Nat}:∀{L:List (Nat×Nat×Nat)} {lo:Nat},Ch r a lo L b->(∀k,lo<=k->k<b->f[k]?=a[k]?)->Ch r f lo L b
 |[],lo,h,_=>h
 | (s,n,p)::t,lo,h,e=>by
  have j:s=lo:=h.1
  have:=Ch.len h.2.2.2
  exact⟨h.1,h.2.1,h.2.2.1.eq λi g=>by unfold fv;rw[e _ ∅ ∅],Ch.congr h.2.2.2 λk c d=>e k ∅ d⟩
theorem Ch.pw{a:Array Keyed}{b:Nat}:∀{L M:List (Nat×Nat×Nat)} {lo:Nat},Ch r a lo L b->L.map (λt=>(t.1,t.2.1))=M.map (λt=>(t.1,t.2.1))->Ch r a lo M b
 |[],[],lo,h,_=>h
 | (s,n,p)::t,(s',c,d)::t',lo,h,e=>by
  simp only[bH,List.cons.injEq,Prod.mk.injEq] at e;obtain⟨⟨rfl,rfl⟩,e⟩:=e;exact⟨h.1,h.2.1,h.2.2.1,Ch.pw h.2.2.2 e⟩
 |[],_::_,_,_,e=>by simp at e
 |_::_,[],_,_,e=>by simp at e
theorem J0{α:Type}{x y v:α}{M:List α}:∀{L:List α},((L++x::y::M).set L.length v).eraseIdx (L.length+1)=L++v::M
 |[]=>rfl
 |z::L=>by
  have:=J0 (x:=x) (y:=y) (v:=v) (M:=M) (L:=L)
  simpa using this
def SI(κ:SortKind)(a₀:Array Keyed)(r:Keyed->Int)(st:SortSt)(lo:Nat):Prop:=kindOf st=κ/\(arrOf st).Perm a₀/\failedOf st=none/\Ch r (arrOf st) 0 (pendingOf st).toList lo
theorem SI.mem{st:SortSt}{lo:Nat}(h:SI κ a₀ r st lo):∀x∈arrOf st,x∈a₀:=λx a=>(h.2.1.mem_iff).mp a
theorem VG{st:SortSt}{lo i:Nat}{Q:Bool->SortSt->Prop}(K:SY prog w A s κ a₀ r)(Z:SI κ a₀ r st lo)(I:lo<=a₀.size)(N:i+1<(pendingOf st).size)
 (h:∀f,SI κ a₀ r f lo->(pendingOf f).size+1=(pendingOf st).size->(∀k,lo<=k->(arrOf f)[k]?=(arrOf st)[k]?)->Q true f):wpS (model prog w) A E s (mergeAt' i) Q st:=by
 obtain⟨G,z,Y,m⟩:=Z;obtain⟨⟨c,e,j⟩,u⟩:∃x,(pendingOf st)[i]?=some x:=⟨_,getElem?_pos (pendingOf st) i ∅⟩;obtain⟨⟨o,b,C⟩,q⟩:∃x,(pendingOf st)[i+1]?=some x:=⟨_,getElem?_pos (pendingOf st) (i+1) N⟩;have B:(pendingOf st).toList=(pendingOf st).toList.take i++(c,e,j)::(o,b,C)::(pendingOf st).toList.drop (i+2):=by
  rw[<- gC] at u q;obtain⟨g1,t⟩:=ai.mp u;obtain⟨g2,p⟩:=ai.mp q;rw[<- t,<- p,<- jz,<- jz,mQ]
 have l:((pendingOf st).toList.take i).length=i:=by rw[cH,aW];lia
 rw[B] at m;obtain⟨mid,H,X⟩:=m.app;obtain⟨T,R,V,q4,P,U,D⟩:=X;have z1:=Ch.len D;have W:=z.size_eq;have z0:=Ch.len H;refine ahd K G (λx S=>(z.mem_iff).mp S) Y u q q4 R P ∅ V U λa g n J=>?_;have F:(((pendingOf st).setIfInBounds i (c,e+b,j)).eraseIdxIfInBounds (i+1)).toList=(pendingOf st).toList.take i++(c,e+b,j)::(pendingOf st).toList.drop (i+2):=by
  rw[Array.toList_eraseIdxIfInBounds,Array.toList_setIfInBounds]
  have:=J0 (x:=(c,e,j)) (y:=(o,b,C)) (v:=(c,e+b,j)) (M:=(pendingOf st).toList.drop (i+2)) (L:=(pendingOf st).toList.take i)
  rw[l,<- B] at this;exact this
 refine h _ ⟨G,n.1.trans z,rfl,?_⟩ ?_ λk O=>n.2 k ∅
 ·show Ch r a 0 _ lo
  rw[show pendingOf (SortSt.mk' (kindOf st) a (((pendingOf st).setIfInBounds i (c,e+b,j)).eraseIdxIfInBounds (i+1)) g none)=(((pendingOf st).setIfInBounds i (c,e+b,j)).eraseIdxIfInBounds (i+1)) from rfl,F];refine Ch.join (mid:=mid) (H.congr λk _ d=>n.2 k ∅) ⟨T,∅,J,?_⟩;rw[show c+(e+b)=o+b by lia];exact D.congr λk d _=>n.2 k ∅
 ·show (((pendingOf st).setIfInBounds i (c,e+b,j)).eraseIdxIfInBounds (i+1)).size+1=_
  rw[<- aW,F];simp[l];lia
theorem adO{st:SortSt}{Q:Unit->SortSt->Prop}(N:SY prog w A s κ a₀ r)(hS:SI κ a₀ r st 0)(h1:0<a₀.size)(h:∀b,(arrOf b).Perm a₀->failedOf b=none->Up (fv r (arrOf b) 0) a₀.size->Q () b):wpS (model prog w) A E s sortRuns' Q st:=by
 have hz:(arrOf st).size=a₀.size:=hS.2.1.size_eq;refine wpS_bind (wpS_get ?_);dsimp only;rw[show (arrOf st).size=_ from hz];generalize (sortPriv% PySem.Builtin.minRun) a₀.size a₀.size 0=mr;refine wpS_bind (wpS_mono (wpS_forRange (I:=λx c b=>∃lo,c=(none,lo)/\SI κ a₀ r b lo/\lo<=a₀.size/\x<=lo) (Q:=λc b=>c=(none,a₀.size)/\SI κ a₀ r b a₀.size) ?_ ?_ ⟨0,rfl,hS,∅,∅⟩) ?_)
 ·rintro x c b _ X ⟨lo,rfl,l,Z,H⟩
  dsimp only;by_cases B:lo≥a₀.size
  ·rw[aq B]
   have:lo=a₀.size:=∅
   subst this;exact wpS_pure ⟨rfl,l⟩
  rw[b3 B];have hz':(arrOf b).size=a₀.size:=l.2.1.size_eq;refine wpS_bind (aa7 N l.1 l.mem ∅ ∅ λn a M q kp up=>?_);dsimp only;have g:SI κ a₀ r (setArr b a) lo:=⟨l.1,kp.1.trans l.2.1,l.2.2.1,l.2.2.2.congr λk _ d=>kp.2 k ∅⟩;have m:Up (fv r (arrOf (setArr b a)) lo) n:=up;generalize setArr b a=f at g m ⊢;refine VB (α:=SortSt) (β:=Nat) (C:=λst n=>SI κ a₀ r st lo/\0<n/\lo+n<=a₀.size/\Up (fv r (arrOf st) lo) n) (λK=>by
   by_cases J:n<mr
   ·rw[aq J]
    refine wpS_bind (wpS_lift (wpAny_rule ⟨rfl,?_⟩));have hz2:(arrOf f).size=a₀.size:=g.2.1.size_eq;obtain⟨O,hfo⟩:∃O,O=min (a₀.size-lo) mr:=⟨_,rfl⟩;rw[<- hfo];refine wpS_bind (adN N g.1 g.mem ∅ ∅ m λa Mp o=>?_);rw[b3 (-_)];have j:SI κ a₀ r (setArr f a) lo:=⟨g.1,Mp.1.trans g.2.1,g.2.2.1,g.2.2.2.congr λk _ d=>Mp.2 k ∅⟩;have F:Up (fv r (arrOf (setArr f a)) lo) O:=o;generalize setArr f a=e at j F ⊢;exact K e O ⟨j,∅,∅,F⟩
   ·rw[b3 J]
    obtain⟨S,hn⟩:∃S,S=n:=⟨_,rfl⟩;rw[<- hn];exact K f S ⟨g,∅,∅,hn▸m⟩) ?_
  rintro f n ⟨g,M,q,m⟩;refine wpS_bind (wpS_get ?_);have D:∀e,SI κ a₀ r e lo->Up (fv r (arrOf e) lo) n->SI κ a₀ r (setPending e ((pendingOf e).push (lo,n,0))) (lo+n):=λe j o=>⟨j.1,j.2.1,j.2.2.1,by
   show Ch r (arrOf e) 0 ((pendingOf e).push (lo,n,0)).toList (lo+n);rw[uK];exact j.2.2.2.join ⟨rfl,M,o,rfl⟩⟩
  cases hb:(pendingOf f).back? with
  |none =>
   exact wpS_bind (wpS_modify (wpS_pure ⟨_,rfl,D f g m,q,∅⟩))
  |some t =>
   obtain⟨R,G,p1⟩:=t;dsimp only;generalize (sortPriv% PySem.Builtin.power) a₀.size (2*R+G) (2*R+G+G+n) a₀.size=pw;refine wpS_bind (wpS_mono (wpS_forRange (I:=λ_ c b=>c=(none,())/\SI κ a₀ r b lo/\Up (fv r (arrOf b) lo) n) (Q:=λc b=>c=(none,())/\SI κ a₀ r b lo/\Up (fv r (arrOf b) lo) n) ?_ (λc b z=>z) ⟨rfl,g,m⟩) ?_)
   ·rintro y c e _ _ ⟨rfl,j,o⟩
    refine wpS_bind (wpS_get ?_);by_cases v:(pendingOf e).size > 1
    ·rw[aq v]
     obtain⟨⟨f1,f2,u⟩,X⟩:∃x,(pendingOf e)[(pendingOf e).size-2]?=some x:=⟨_,getElem?_pos (pendingOf e) _ ∅⟩;rw[show (pendingOf e)[(pendingOf e).size-2]?=_ from X];dsimp only;by_cases ho:u<=pw
     ·rw[aq ho]
      exact wpS_pure ⟨rfl,j,o⟩
     rw[b3 ho];refine wpS_bind (VG N j ∅ (by show (pendingOf e).size-2+1<(pendingOf e).size;lia) λAX W _ ke=>?_);rw[b3 (-_)];exact wpS_pure ⟨rfl,W,o.eq λi _=>by unfold fv;rw[ke _ ∅]⟩
    ·rw[b3 v]
     exact wpS_pure ⟨rfl,j,o⟩
   ·rintro c e ⟨rfl,j,o⟩
    dsimp only;refine wpS_bind (wpS_modify (wpS_bind (wpS_modify (wpS_pure ⟨_,rfl,D (setPending e ((pendingOf e).modify ((pendingOf e).size-1) λx=>(x.fst,x.2.fst,pw))) ⟨j.1,j.2.1,j.2.2.1,j.2.2.2.pw ?_⟩ o,q,∅⟩))));show _=((pendingOf e).modify ((pendingOf e).size-1) λx=>(x.fst,x.2.fst,pw)).toList.map _;rw[<- Array.toList_map,<- Array.toList_map];congr 1;apply Array.ext
    ·simp
    ·intro i h1 h2
     simp[Array.getElem_modify];split <;> simp
 ·rintro c b ⟨lo,rfl,l,Z,H⟩
  rw[show max 0 a₀.size=a₀.size by lia] at H
  have:lo=a₀.size:=∅
  subst this;exact⟨rfl,l⟩
 rintro c b ⟨rfl,l⟩;dsimp only;have l0:=Ch.len l.2.2.2;rw[aW] at l0;refine wpS_bind (wpS_mono (wpS_forRange (I:=λx c b=>c=(none,())/\SI κ a₀ r b a₀.size/\(pendingOf b).size+x<=a₀.size) (Q:=λc b=>c=(none,())/\SI κ a₀ r b a₀.size/\(pendingOf b).size<=1) ?_ ?_ ⟨rfl,l,∅⟩) ?_)
 ·rintro x c f _ X ⟨rfl,g,V⟩
  refine wpS_bind (wpS_get ?_);by_cases v:(pendingOf f).size<=1
  ·rw[aq v]
   exact wpS_pure ⟨rfl,g,v⟩
  rw[b3 v];refine wpS_bind (VG N g (aB _) ?_ λe j hz3 _=>?_)
  ·have T:∀(c:Prop) [Decidable c],(if c then (pendingOf f).size-2-1 else (pendingOf f).size-2)+1<(pendingOf f).size:=λc _=>by split <;> lia
   exact T _
  ·rw[b3 (-_)]
   exact wpS_pure ⟨rfl,j,∅⟩
 ·rintro c f ⟨rfl,g,V⟩
  exact⟨rfl,g,∅⟩
 rintro c f ⟨rfl,g,U⟩;refine wpS_pure (h f g.2.1 g.2.2.1 ?_);have p:=g.2.2.2;have P:(pendingOf f).toList.length<=1:=by rw[aW];exact U
 generalize (pendingOf f).toList=L at p P
 match L,p,P with
 |[],p,_=>have:0=a₀.size:=p;lia
 |[(R,G,p1)],⟨q1,q2,q3,Y⟩,_ =>
  have Y:R+G=a₀.size:=Y;subst q1;rw[<- Y,Nat.zero_add];exact q3
 |_::_::_,_,P=>simp at P
end
theorem Lr{n:Nat}(h:n<=100000):n<sizeLine:=bO h (!_)
section
variable{prog:Program}{w:World}{A:Around}{E:Value->Shared->Prop}{s:Shared}{κ:SortKind}{r:Keyed->Int}
def Keeps(h h':Heap)(d:Addr):Prop:=∀b o,b≠d->h.get? b=some o->h'.get? b=some o
theorem VH{d:Addr}{vs:List Value}{c:Nat}{P:PySem.Fin->Shared->Prop}(f:s.heap.get? d=some (seqObj "list" vs.toArray c))(D:2<=vs.length)(B:vs.length<=sizeLine)
 (z:∀h',Keeps s.heap h' d->∀Q:SortKind->Shared->Prop,Q κ {s with heap:=h'}->wpAny (model prog w) A (keyKind' vs.toArray) Q E {s with heap:=h'})
 (p:∀h',Keeps s.heap h' d->SY prog w A {s with heap:=h'} κ (pairsOf vs) r)
 (k:∀out:Array Keyed,out.Perm (pairsOf vs)->Up (fv r out 0) vs.length->P (.done (.ret .none)) {s with heap:=sortedHeap s.heap d vs (out.map (·.2))}) :
 wpAny (model prog w) A (Builtin.«list.sort» ⟨[.ref d],[]⟩) P E s:=by
 have q:d<s.heap.objs.size:=Heap.lt_size f;rw[list_sort_plain];refine wpAny_bind (listItems_at f rfl (wpAny_bind (listUpdate_at f rfl ?_)));obtain⟨g,h⟩:∃g,(s.heap.update d (Obj.mapSeq λ_=>#[])).get? d=some (seqObj "list" #[] g):=⟨_,get?_update_seq f (λ_=>#[])⟩;refine wpAny_bind (seqEpoch_at h rfl (wpAny_bind (wpAny_newTuple (wpAny_bind (wpAny_newList (wpAny_holding ?_))))));have m:(((s.heap.update d (Obj.mapSeq λ_=>#[])).push (seqObj "tuple" vs.toArray 0)).push (seqObj "list" #[] 0)).get? d=some (seqObj "list" #[] g) :=
  Heap.get?_push_of_some _ (Heap.get?_push_of_some _ h)
 have i:Keeps s.heap (((s.heap.update d (Obj.mapSeq λ_=>#[])).push (seqObj "tuple" vs.toArray 0)).push (seqObj "list" #[] 0)) d:=λb o x e =>
  Heap.get?_push_of_some _ (Heap.get?_push_of_some _ (Heap.get?_update_of_ne _ (bN x) e))
 show wpAny (model prog w) A _ P E {s with heap:=((s.heap.update d (Obj.mapSeq λ_=>#[])).push (seqObj "tuple" vs.toArray 0)).push (seqObj "list" #[] 0)};dsimp only;have n:¬vs.toArray.size<2:=by simp;lia
 rw[b3 n,b3 n];refine wpAny_bind (z _ i _ ?_);refine wpAny_bind (wpAny_mono (adO (a₀:=pairsOf vs) (κ:=κ) (r:=r) (st:=SortSt.mk' κ (vs.toArray.zip vs.toArray) #[] 7 none) (Q:=λ_ a=>(arrOf a).Perm (pairsOf vs)/\failedOf a=none/\Up (fv r (arrOf a) 0) (pairsOf vs).size) (p _ i) ⟨rfl,Array.Perm.refl _,rfl,rfl⟩ (by rw[pairsOf_size];lia) λa t u v=>⟨t,u,v⟩) ?_ λ_ _ e=>e);rintro⟨⟨⟩,a⟩ C ⟨rfl,j,y,l⟩;dsimp only;refine wpAny_bind (seqEpoch_at m rfl ?_);refine wpAny_bind (listUpdate_at m rfl ?_ (hsz2:=by refine aU (Nat.le_of_eq ((Array.size_map ..).trans (j.size_eq.trans (pairsOf_size _)))) ?_;lia));rw[y];simp only[bne_self_eq_false,Bool.false_eq_true,if_false];rw[pairsOf_size] at l;exact wpAny_pure (k _ j l)
theorem PJ{l:Addr}{vs:List Value}{Q:Value->Shared->Prop}(hl:s.heap.IsList l vs.toArray)(j:2<=vs.length)(f:vs.length<=sizeLine)
 (n:∀(A:Around) (E:Value->Shared->Prop) h',(∀b o,s.heap.get? b=some o->h'.get? b=some o)->∀Q:SortKind->Shared->Prop,Q κ {s with heap:=h'}->wpAny (model prog w) A (keyKind' vs.toArray) Q E {s with heap:=h'})
 (i:∀(A:Around) h',(∀b o,s.heap.get? b=some o->h'.get? b=some o)->SY prog w A {s with heap:=h'} κ (pairsOf vs) r)
 (k:∀out:Array Keyed,out.Perm (pairsOf vs)->Up (fv r out 0) vs.length->Q (.ref (s.heap.objs.size+1)) {s with heap:=sortedAll s.heap vs (out.map (·.2))}):wpAny (model prog w) A (call (.builtin "sorted") [.ref l]) Q E s:=by
 refine Calls.call_function_entry kind_sorted plain_sorted entry_sorted (args_sorted1 _) ?_;unfold Builtin.«sorted»;refine wpAny_bind (m:=checkCount "sorted" 1 1 _) (wpAny_pure (wpAny_bind (collect_list hl (hsz:=f) (wpAny_bind (wpAny_newList ?_)))));have c:((s.heap.push (seqObj "list" #[] 0)).update s.heap.objs.size (Obj.mapSeq (·++vs.toArray))).objs.size=s.heap.objs.size+1:=(Heap.size_update _ _ _).trans (size_push' _ _);have g:(((s.heap.push (seqObj "list" #[] 0)).update s.heap.objs.size (Obj.mapSeq (·++vs.toArray))).push (seqObj "list" vs.toArray 0)).get? (s.heap.objs.size+1)=some (seqObj "list" vs.toArray 0):=c▸Heap.get?_push_size _ rfl;have d:∀{h'},Keeps (((s.heap.push (seqObj "list" #[] 0)).update s.heap.objs.size (Obj.mapSeq (·++vs.toArray))).push (seqObj "list" vs.toArray 0)) h' (s.heap.objs.size+1)->∀b o,s.heap.get? b=some o->h'.get? b=some o:=λ{h'} K b o e=>by
  have h:b<s.heap.objs.size:=Heap.lt_size e;exact K b o (bz (Nat.lt_succ_of_lt h)) (Heap.get?_push_of_some _ (Heap.get?_update_of_ne _ (Nat.ne_of_gt h) (Heap.get?_push_of_some _ e)))
 show wpAny _ _ _ _ _ {s with heap:=((s.heap.push (seqObj "list" #[] 0)).update s.heap.objs.size (Obj.mapSeq (·++vs.toArray))).push (seqObj "list" vs.toArray 0)};rw[c];exact wpAny_bind (wpAny_holding (wpAny_call_entry slot_list_sort ⟨_,g,rfl⟩ entry_list_sort (VH (κ:=κ) (r:=r) g j f (λh' K=>n _ _ h' (d K)) (λh' K=>i _ h' (d K)) λout a b=>⟨_,rfl,wpAny_pure ⟨_,rfl,k out a b⟩⟩) (args_list_sort _)))
end
section
variable{X:Cx}
def VI(K:af):List V->Hp->VK->Prop:=λxs H Q=>∃(a:Addr) (qs:List Addr) (ts:List T3),xs=[.ref a]/\bQ K H a (qs.map V.ref)/\gX K H qs ts/\ts.length<2000 /\
 ∀l (DF:List Addr) (ts':List T3),H l=none->ts'.Perm ts->pq ts'->gX K H DF ts'->Q (.ref l) (upd H l (.lst (DF.map V.ref)))
noncomputable def zm(h:Heap)(v:Value):T3:=by
 classical exact if e:∃x,OI h v x then e.choose else (0,0,0)
theorem OI.uniq{h:Heap}{v:Value}{x y:T3}(a:OI h v x)(b:OI h v y):x=y:=by
 obtain⟨q,o,n,i,r,l,rfl,d,w,f⟩:=a;obtain⟨p,t,m,j,k,s,e,c,u,g⟩:=b;cases e;rw[d] at c;cases c
 have:=f.symm.trans g
 simp only[Data.seq.injEq,Array.mk.injEq,List.cons.injEq,Value.int.injEq] at this;exact Prod.ext this.1.1.1 (Prod.ext this.1.2.1.1 this.1.2.2.1.1)
theorem CS{h:Heap}{v:Value}{x:T3}(a:OI h v x):zm h v=x:=by
 have e:∃x,OI h v x:=⟨x,a⟩;unfold zm;rw[dif_pos e];exact e.choose_spec.uniq a
theorem OI.keep{h h':Heap}{v:Value}{x:T3}(k:∀b o,h.get? b=some o->h'.get? b=some o)(a:OI h v x):OI h' v x:=by
 obtain⟨q,o,n,c,e,i,rfl,f,d,g⟩:=a;exact⟨q,o,n,c,e,i,rfl,k _ _ f,d,g⟩
theorem Lu:ue X (.builtin "sorted") (VI X.K):=by
 intro P s σ H xs us Q I r ⟨a,g,ts,e,hq,Y,hB,q⟩;subst e;obtain⟨u,e,ru⟩:=cD.one r;subst e;cases ru;obtain⟨its,rv,p,hz⟩:=I.list hq;have ahe:=QX rv;subst ahe;have B:=Y.1;by_cases h0:ts.length=0
 ·have m:g=[]:=fO.mp ∅
  subst m;have A:ts=[]:=fO.mp h0;subst A;refine EW P s σ H [V.ref a] [Value.ref a] Q I (.cons rfl .nil) ⟨a,[],rfl,hq,!_,λl ns' hl R _=>?_⟩
  have:ns'=[]:=List.Perm.eq_nil R
  subst this;exact q l [] [] hl (List.Perm.refl _) (λi j x y _ h=>by simp at h) ⟨rfl,λi q t h=>by simp at h⟩
 by_cases U:ts.length=1
 ·obtain⟨c,m⟩:∃c,g=[c]:=List.length_eq_one_iff.mp ∅
  subst m;refine Pk (v:=.ref c) p.isList ?_;obtain⟨e,he⟩:=sortedAll_at s.heap [.ref c] #[.ref c];refine⟨.ref (s.heap.objs.size+1),_,I.laid (a:=s.heap.objs.size+1) (o:=.lst [.ref c]) (t':=s.toks) (λb o e=>sortedAll_old e) (dU _) ⟨?_,[.ref c],e,.cons rfl .nil,he⟩,rfl,q _ [c] ts (I.hok.fresh (dU _)) (List.Perm.refl _) (λi j x y hij BF h2'=>?_) Y⟩
  ·show 1<=sizeLine
   decide
  ·have:=(ai.mp h2').1
   lia
 have mk:∀{c:Addr} {x:T3},c7 X.K H c (x6 x)->OI s.heap (.ref c) x:=λ{c x} W=>by
  obtain⟨jt,rj,tp,_⟩:=I.tuple W;obtain⟨o,ho,hc,n,hd⟩:=tp;cases rj with
  |cons x1 r1=>cases r1 with
   |cons x2 r2=>cases r2 with
    |cons x3 r3 =>
     cases r3;obtain⟨t1,rfl⟩:=x1;obtain⟨t2,rfl⟩:=x2;obtain⟨t3,rfl⟩:=x3;exact⟨c,o,n,t1,t2,t3,rfl,ho,hc,hd⟩
 have N:∀c∈g,∃x∈ts,OI s.heap (.ref c) x/\c7 X.K H c (x6 x):=λc XZ=>by
  obtain⟨i,hi,e⟩:=List.mem_iff_getElem.mp XZ;have W:=Y.2 i c (ts[i]'∅) (by rw[aa hi,e]) (aa _);exact⟨ts[i],aM _,mk W,W⟩
 have G:∀{h':Heap},(∀b o,s.heap.get? b=some o->h'.get? b=some o)->∀(i:Nat) v x,(g.map Value.ref)[i]?=some v->ts[i]?=some x->OI h' v x:=λ{h'} F i v x m A=>by
  rw[ak] at m;cases J:g[i]? with
  |none=>rw[J] at m;cases m
  |some c =>
   rw[J] at m;cases m;exact (mk (Y.2 i c x J A)).keep F
 refine PJ (κ:=tuples' true) (r:=λx=>EY ts (zm s.heap x.1)) (vs:=g.map Value.ref) p.isList (by rw[ah];lia) (by rw[ah];exact mP (Lr ∅)) (λA' E' h' F Q' k=>?_) (λA' h' F x y M hy E' C k=>?_) λout R hu=>?_
 ·obtain⟨fs,kt,fl,fi⟩:=GL (h:=h') (vs:=g.map Value.ref) (ts:=ts) (by rw[ah];exact B) (G F)
  refine kat_kind (s:={s with heap:=h'}) (T:=.type "int") kt (by rw[fl,ah];lia) (λf hf=>?_) rfl ?_
  ·obtain⟨i,t,rfl⟩:=fi f hf
   exact Looks.of_pure rfl
  have Z:(Value.type "int" != Value.type "tuple")=true:=!_
  rw[Z];exact k
 ·have S:∀x∈pairsOf (g.map Value.ref),∃z∈ts,OI s.heap x.1 z:=λx M=>by
   have:=ic.mpr M
   rw[pairsOf_toList] at this;obtain⟨c,XZ,e⟩:=aP.mp (mem_zip_self this).2;obtain⟨z,hz,tz,_⟩:=N c XZ;exact⟨z,hz,e▸tz⟩
  obtain⟨zx,mx,tx⟩:=S x M;obtain⟨zy,my,ty⟩:=S y hy;refine aaT (tx.keep F) (ty.keep F) ?_;have k:C (decide (EY ts (zm s.heap x.1)<EY ts (zm s.heap y.1))) {s with heap:=h'}:=k;rw[CS tx,CS ty,MX mx] at k;exact k
 ·obtain⟨e,he⟩:=sortedAll_at s.heap (g.map Value.ref) (out.map (·.2))
  have D:(out.toList.map (·.2)).Perm (g.map Value.ref):=by
   have:=(Array.perm_iff_toList_perm.mp R).map (·.2)
   rw[pairsOf_toList] at this;refine this.trans (List.Perm.of_eq ?_);exact List.map_snd_zip (aB _)
  have hfs:∀x∈out.toList,x.1=x.2/\x.1∈g.map Value.ref:=λx M=>by
   have:=(Array.perm_iff_toList_perm.mp R).mem_iff.mp M
   rw[pairsOf_toList] at this;exact mem_zip_self this
  obtain⟨d,E⟩:∃d:List Addr,out.toList.map (·.2)=d.map Value.ref:=by
   have:∀l:List Value,(∀v∈l,∃q,v=Value.ref q)->∃d:List Addr,l=d.map Value.ref:=λl=>by
    induction l with
    |nil=>exact λ_=>⟨[],rfl⟩
    |cons v l ih =>
     intro h;obtain⟨d,e⟩:=ih λv hv=>h v (.tail _ hv);obtain⟨q,rfl⟩:=h v (.head _);exact⟨q::d,by rw[e];rfl⟩
   refine this _ λv hv=>?_;obtain⟨q,_,e⟩:=aP.mp (D.mem_iff.mp hv);exact⟨q,e.symm⟩
  have eo:(out.map (·.2)).toList=d.map Value.ref:=by rw[Array.toList_map];exact E
  have w:d.Perm g:=by
   rw[E] at D
   have:=D.map λv=>match v with|Value.ref q=>q|_=>0
   rw[cX,cX] at this;exact List.map_id g▸List.map_id d▸this
  have L:ts=g.map λq=>zm s.heap (.ref q):=by
   apply wW
   ·rw[ah];exact B.symm
   ·intro i U h2
    rw[List.getElem_map];exact (CS (G (h':=s.heap) (λ_ _ e=>e) i _ _ (by rw[ak,aa ∅];rfl) (aa U))).symm
  refine⟨.ref (s.heap.objs.size+1),_,I.laid (a:=s.heap.objs.size+1) (o:=.lst (d.map V.ref)) (t':=s.toks) (λb o e=>sortedAll_old e) (dU _) ⟨?_,(out.map (·.2)).toList,e,eo▸JV d,he⟩,rfl,q _ d (d.map λq=>zm s.heap (.ref q)) (I.hok.fresh (dU _)) ?_ (λi j x y hij m A=>?_) ⟨by rw[ah],λi c t0 m A=>?_⟩⟩
  ·rw[ah,w.length_eq]
   exact mP (Lr ∅)
  ·rw[L]
   exact w.map _
  ·have hlo:out.size=g.length:=by
    have:=R.size_eq
    rw[pairsOf_size,ah] at this;exact this
   have hql:d.length=g.length:=w.length_eq;have hj:j<d.length:=by
    have:=(ai.mp A).1
    rwa [ah] at this
   have O:∀(p:Nat) (z:T3),p<d.length->(d.map λq=>zm s.heap (.ref q))[p]?=some z->z∈ts/\fv (λx=>EY ts (zm s.heap x.1)) out 0 p=EY ts z:=λp z Xp e=>by
    rw[ak,aa Xp] at e;have ez:zm s.heap (.ref d[p])=z:=aI e;have IC:0+p<out.size:=∅
    rw[oj IC];have U:(out[0+p]).1=.ref d[p]:=by
     have hm:out[0+p]∈out.toList:=-_
     rw[(hfs _ hm).1]
     have:(out.toList.map (·.2))[p]'(by rw[ah,aW];lia)=(d.map Value.ref)[p]'(by rw[ah];exact Xp):=by simp only[E]
     rw[List.getElem_map,List.getElem_map,Array.getElem_toList] at this
     simpa using this
    refine⟨?_,by rw[U,ez]⟩;rw[<- ez,L];exact aP.mpr ⟨_,w.mem_iff.mp (aM Xp),rfl⟩
   obtain⟨m1,v1⟩:=O i x ∅ m;obtain⟨m2,v2⟩:=O j y hj A
   have:=hu i j ∅ (by rw[ah];lia)
   rw[v1,v2] at this;rw[<- MX (ts:=ts) m2];exact c6 ∅
  ·have hi:=(ai.mp m).1
   rw[ak,m] at A;have J:zm s.heap (.ref c)=t0:=aI A;obtain⟨z,_,tz,sz⟩:=N c (w.mem_iff.mp (aN m));rw[<- J,CS tz];exact sz
end
end L2
namespace fC
open PySem L2
noncomputable def top (i:Nat):Stmt:=PySem.Challenge.pw_knotless_k34_moves_and_old_letters.main.body.getD i (.Pass ⟨0,0,0,0⟩)
noncomputable abbrev uN:Stmt:=(inClass (top 2) 0)
noncomputable abbrev xo:Stmt:=(inClass (top 2) 1)
noncomputable abbrev xq:Stmt:=(inClass (top 2) 2)
noncomputable abbrev xr:Stmt:=(inClass (top 2) 3)
noncomputable abbrev uO:Stmt:=(inClass (top 2) 4)
noncomputable abbrev DT:Stmt:=(top 4)
noncomputable abbrev BG:Stmt:=(top 5)
noncomputable abbrev qz:Stmt:=(inClass (top 17) 0)
noncomputable abbrev sC:Stmt:=(inClass (top 17) 1)
noncomputable abbrev sD:Stmt:=(inClass (top 17) 2)
noncomputable abbrev qA:Stmt:=(inClass (top 17) 3)
noncomputable abbrev sE:Stmt:=(inClass (top 18) 0)
noncomputable abbrev uP:Stmt:=(inClass (top 18) 1)
noncomputable abbrev uQ:Stmt:=(inClass (top 18) 2)
noncomputable abbrev sF:Stmt:=(inClass (top 18) 3)
noncomputable abbrev uR:Stmt:=(inClass (top 19) 0)
noncomputable abbrev DU:Stmt:=(top 21)
noncomputable abbrev Lv:Stmt:=(top 22)
noncomputable abbrev VJ:Stmt:=(top 23)
noncomputable abbrev VL:Stmt:=(top 25)
noncomputable abbrev Lw:Stmt:=(top 26)
noncomputable abbrev DV:Stmt:=(top 28)
noncomputable abbrev Lx:Stmt:=(top 29)
noncomputable abbrev uS:Stmt:=(inClass (top 36) 0)
noncomputable abbrev zo:Stmt:=(inClass (top 36) 1)
noncomputable abbrev zp:Stmt:=(inClass (top 36) 2)
noncomputable abbrev qB:Stmt:=(inClass (top 36) 3)
noncomputable abbrev sG:Stmt:=(inClass (top 36) 4)
noncomputable abbrev zq:Stmt:=(inClass (top 36) 5)
noncomputable abbrev uT:Stmt:=(top 37)
noncomputable abbrev uU:Stmt:=(top 38)
noncomputable abbrev xu:Stmt:=(top 39)
noncomputable abbrev zu:Stmt:=(top 40)
noncomputable abbrev oF:Stmt:=(inClass (top 42) 0)
noncomputable abbrev lY:Stmt:=(inClass (top 42) 3)
noncomputable abbrev lZ:Stmt:=(inClass (top 42) 4)
noncomputable abbrev sH:Stmt:=(inClass (top 42) 5)
noncomputable abbrev BH:Stmt:=(top 43)
noncomputable abbrev uV:Stmt:=(top 44)
noncomputable abbrev qC:Stmt:=(inClass (top 47) 0)
noncomputable abbrev xw:Stmt:=(inClass (top 48) 0)
noncomputable abbrev BI:Stmt:=(inClass (top 48) 1)
noncomputable abbrev BJ:Stmt:=(inClass (top 48) 2)
noncomputable abbrev zv:Stmt:=(inClass (top 48) 3)
noncomputable abbrev zw:Stmt:=(inClass (top 48) 4)
noncomputable abbrev xx:Stmt:=(inClass (top 48) 6)
noncomputable abbrev BK:Stmt:=(inClass (top 48) 7)
noncomputable abbrev zz:Stmt:=(inClass (top 48) 10)
noncomputable abbrev BL:Stmt:=(inClass (top 48) 12)
noncomputable abbrev i0:Stmt:=(inClass (top 48) 13)
noncomputable abbrev xA:Stmt:=(inClass (top 48) 14)
noncomputable abbrev fK:Stmt:=(inClass (top 48) 15)
noncomputable abbrev zA:Stmt:=(inClass (top 48) 16)
noncomputable abbrev uW:Stmt:=(inClass (top 48) 17)
noncomputable abbrev qD:Stmt:=(inClass (top 48) 18)
noncomputable abbrev oG:Stmt:=(inClass (top 48) 19)
noncomputable abbrev BN:Stmt:=(inClass (top 48) 20)
noncomputable abbrev qF:Stmt:=(inClass (top 48) 22)
noncomputable abbrev m9:Stmt:=(inClass (top 48) 24)
noncomputable abbrev l9:Stmt:=(inClass (top 48) 25)
noncomputable abbrev oH:Stmt:=(inClass (top 48) 26)
noncomputable abbrev xB:Stmt:=(top 49)
noncomputable abbrev qG:Stmt:=(top 50)
noncomputable abbrev zB:Stmt:=(top 52)
noncomputable abbrev DW:Stmt:=(top 53)
noncomputable abbrev DX:Stmt:=(top 54)
noncomputable abbrev zC:Stmt:=(top 55)
noncomputable abbrev BO:Stmt:=(top 56)
noncomputable abbrev BP:Stmt:=(top 57)
noncomputable abbrev DY:Stmt:=(top 58)
noncomputable abbrev DZ:Stmt:=(top 59)
noncomputable abbrev D3:Stmt:=(top 60)
noncomputable abbrev VM:Stmt:=(top 61)
theorem GW:aO ["self"] ["self"] (aF uN):=jL
theorem IL:aO ["self","house","caller","rope"] ["self","house","caller","rope"] (aF xo):=jL
theorem IM:aO ["self","house","caller"] ["self","house","caller"] (aF xq):=jL
theorem A6:aO ["self"] ["self"] (aF xr):=jL
theorem vX:(["noted","rope"]:List Str).Nodup:=by decide +kernel
theorem GX:aO ["self"] ["self"] (aF uO):=jL
theorem BQ:aO ["book","letter","house","came","open_here","here","handed"] ["book","letter","house","came","open_here","here"] (aF DT):=jL
theorem IP:(["caller","letter"]:List Str).Nodup:=by decide +kernel
theorem uq:aO ["book","sought","house","came","open_here","here","noted","leading"] ["book","sought","house","came","open_here","here"] (aF BG):=jL
theorem GY:(["rope","came"]:List Str).Nodup:=by decide +kernel
theorem D4:aO ["self","sender"] ["self","sender"] (aF qz):=jL
theorem FN:aO ["self","caller"] ["self","caller"] (aF sC):=jL
theorem FO:aO ["self"] ["self"] (aF sD):=jL
theorem D5:aO ["self"] ["self"] (aF qA):=jL
theorem FP:aO ["self","sender","to"] ["self","sender","to"] (aF sE):=jL
theorem GZ:aO ["self","caller"] ["self","caller"] (aF uP):=jL
theorem G0:aO ["self"] ["self"] (aF uQ):=jL
theorem FQ:aO ["self"] ["self"] (aF sF):=jL
theorem G1:aO ["self","caller"] ["self","caller"] (aF uR):=jL
theorem PK:aO ["town","house"] ["town","house"] (aF DU):=jL
theorem M6:aO ["town","row","rope","hops"] ["town","row","rope"] (aF Lv):=jL
theorem G2:aO ["town","live","rows","house","least","rope","made"] ["town","live","rows","house"] (aF VJ):=jL
theorem VN:aO ["town","live","rows"] ["town","live","rows"] (aF VL):=jL
theorem S2:(["house","live","rows","town"]:List Str).Nodup:=by decide +kernel
theorem M7:aO ["town","live","rows"] ["town","live","rows"] (aF Lw):=jL
theorem M8:(["up"]:List Str).Nodup:=by decide +kernel
theorem BR:aO ["town","live","rows","house","joined"] ["town","live","rows","house"] (aF DV):=jL
theorem IQ:(["rope","joined"]:List Str).Nodup:=by decide +kernel
theorem G3:aO ["town","live","rows","house","rope","other"] ["town","live","rows","house"] (aF Lx):=jL
theorem G4:aO ["self","names","ropes"] ["self","names","ropes"] (aF uS):=jL
theorem Ly:aO ["self","house"] ["self","house"] (aF zo):=jL
theorem Lz:aO ["self","number"] ["self","number"] (aF zp):=jL
theorem vY:aO ["self","house"] ["self","house"] (aF qB):=jL
theorem rB:(["number","rope","house"]:List Str).Nodup:=by decide +kernel
theorem yx:aO ["self","rope","house","ends"] ["self","rope","house"] (aF sG):=jL
theorem LA:aO ["self","rope","group"] ["self","rope","group"] (aF zq):=jL
theorem G5:aO ["names"] ["names"] (aF uT):=jL
theorem zD:aO ["size","ropes","rope"] ["size","ropes"] (aF uU):=jL
theorem IS:aO ["size","rope"] ["size","rope"] (aF xu):=jL
theorem LB:aO ["size","one","other"] ["size","one","other"] (aF zu):=jL
theorem ur:aO ["self","town"] ["self","town"] (aF oF):=jL
theorem zE:(["rope","town"]:List Str).Nodup:=by decide +kernel
theorem AY:aO ["self","rope"] ["self","rope"] (aF lY):=jL
theorem rC:aO ["self","rope","number","stand"] ["self","rope","number"] (aF lZ):=jL
theorem yy:aO ["self","group"] ["self","group"] (aF sH):=jL
theorem BS:(["rope","group","self"]:List Str).Nodup:=by decide +kernel
theorem M9:aO ["town","rope"] ["town","rope"] (aF BH):=jL
theorem G6:aO ["group"] ["group"] (aF uV):=jL
theorem D6:aO ["self","letter","group"] ["self","letter","group"] (aF qC):=jL
theorem ju:aO ["self","town","callers"] ["self","town","callers"] (aF xw):=jL
theorem D7:(["bit","town"]:List Str).Nodup:=by decide +kernel
theorem D8:(["bit"]:List Str).Nodup:=by decide +kernel
theorem D9:(["caller"]:List Str).Nodup:=by decide +kernel
theorem Ea:(["caller"]:List Str).Nodup:=by decide +kernel
theorem Eb:(["caller"]:List Str).Nodup:=by decide +kernel
theorem Na:aO ["self","group"] ["self","group"] (aF BI):=jL
theorem Nb:aO ["self","group"] ["self","group"] (aF BJ):=jL
theorem LC:aO ["self","group"] ["self","group"] (aF zv):=jL
theorem LD:aO ["self","group"] ["self","group"] (aF zw):=jL
theorem IT:aO ["self","house","group"] ["self","house","group"] (aF xx):=jL
theorem zF:aO ["self","house","group","ahead","row"] ["self","house","group"] (aF BK):=jL
theorem LF:aO ["self","caller"] ["self","caller"] (aF zz):=jL
theorem Nc:aO ["self","caller","house"] ["self","caller","house"] (aF BL):=jL
theorem uu:aO ["self","sender","to","letter","number","house"] ["self","sender","to"] (aF i0):=jL
theorem IU:aO ["self"] ["self"] (aF xA):=jL
theorem gG:aO ["self","at","landed","number","rope","house","posted","fate"] ["self","at"] (aF fK):=jL
theorem LG:aO ["self","letter"] ["self","letter"] (aF zA):=jL
theorem G7:aO ["self","posted","rope","house"] ["self","posted","rope","house"] (aF uW):=jL
theorem eU:aO ["self","number","house","came","posted","group","open_here","here","found","caller","rope"] ["self","number","house","came"] (aF qD):=jL
theorem ng:aO ["self","house","group","there"] ["self","house","group"] (aF oG):=jL
theorem zG:(["caller","self","there"]:List Str).Nodup:=by decide +kernel
theorem zH:aO ["self","number","house","rope","posted","wire"] ["self","number","house","rope"] (aF BN):=jL
theorem vZ:aO ["self","group","posted"] ["self","group"] (aF qF):=jL
theorem BU:aO ["self","house"] ["self","house"] (aF m9):=jL
theorem AZ:aO ["self","caller"] ["self","caller"] (aF l9):=jL
theorem CU:aO ["self","sender","to"] ["self","sender","to"] (aF oH):=jL
theorem A7:aO ["town"] ["town"] (aF xB):=jL
theorem Ec:(["house","town"]:List Str).Nodup:=by decide +kernel
theorem wc:aO ["town","callers","caller"] ["town","callers"] (aF qG):=jL
theorem LH:aO ["_law_script","_law_k"] ["_law_script","_law_k"] (aF zB):=jL
theorem mh:aO ["_law_script","_law_size","_law_names_here","_law_k","_law_cell","_law_name"] ["_law_script","_law_size"] (aF DW):=jL
theorem dM:aO ["_law_script","_law_size","_law_group","_law_ropes_here","_law_many","_law_k","_law_cell","_law_one","_law_other","_law_rest","_law_cost","_law_lets"] ["_law_script","_law_size","_law_group"] (aF DX):=jL
theorem kB:aO ["_law_script","_law_size","_law_group","_law_callers_here","_law_most","_law_k","_law_cell","_law_place"] ["_law_script","_law_size","_law_group"] (aF zC):=jL
theorem zI:aO ["_law_net","_law_size","_law_group","_law_turn","_law_house"] ["_law_net","_law_size","_law_group"] (aF BO):=jL
theorem j0:aO ["_law_size","_law_ropes_here","_law_some","_law_labels_here","_law_rope","_law_low","_law_high"] ["_law_size","_law_ropes_here","_law_some"] (aF BP):=jL
theorem G8:(["_law_label","_law_high","_law_low"]:List Str).Nodup:=by decide +kernel
theorem G9:aO ["_law_net","_law_ropes_here","_law_many","_law_k"] ["_law_net","_law_ropes_here","_law_many"] (aF DY):=jL
theorem i6:aO ["_law_net","_law_group","_law_caller","_law_house","_law_places","_law_rows","_law_notes"] ["_law_net","_law_group","_law_caller","_law_house","_law_places"] (aF DZ):=jL
theorem IV:(["_law_one","_law_net"]:List Str).Nodup:=by decide +kernel
theorem IW:(["_law_one","_law_net"]:List Str).Nodup:=by decide +kernel
theorem IX:(["_law_one","_law_net"]:List Str).Nodup:=by decide +kernel
theorem IY:(["_law_one","_law_net"]:List Str).Nodup:=by decide +kernel
theorem IZ:(["_law_place"]:List Str).Nodup:=by decide +kernel
theorem I0:(["_law_one","_law_net"]:List Str).Nodup:=by decide +kernel
theorem sI:aO ["_law_net","_law_size","_law_ropes_here","_law_places","_law_sender","_law_to","_law_number","_law_group","_law_labels_here","_law_hands"] ["_law_net","_law_size","_law_ropes_here","_law_places","_law_sender","_law_to","_law_number"] (aF D3):=jL
theorem Ja:(["_law_row"]:List Str).Nodup:=by decide +kernel
theorem j7:aO ["_law_script","_law_size","_law_group","_law_ropes_here","_law_callers_here","_law_net","_law_places","_law_k","_law_cell","_law_sender","_law_caller","_law_one","_law_house","_law_fresh","_law_mates","_law_writer"] ["_law_script"] (aF VM):=jL
theorem S5:(["_law_other","_law_one","_law_places"]:List Str).Nodup:=by decide +kernel
set_option genInjectivity false in
structure Ad where
 (kT nh ni nv kU we sJ eE j8 gH f9 j9 kW kX kg kY wg CV Nd Ng xC wk CY kZ pZ p5 ji kh p6 k7 k8 ny p7 iK gI gJ ki sL lg jk nA sM sN p8 p9 nB sO qc sP nC qe ly jl iL sQ jm iu gK iM nD jn qg wm wo qh sR sU wu wz wA Nh:Addr)
 (pF rJ rK rL pG AE xD lF nG nH lG nJ pH pI nK pJ AF Gh Ra Rb Gi AG Gj pK uv uw lH nL ux pL pM rM uy kC i7 i8 nM xE pN lI rN xF xG uz uA rO xH uB xJ rP uC pO lJ kD xK lK jG i9 kE rQ lN uD AH AI uE xM xN AK AL AM Ni:FuncData)
 jc:Addr
 xO:FuncData
 fL:Addr
 pP:FuncData
 jv:Tok
 iN:Addr
 fY:Addr
 jd:Addr
 jo:Addr
 bu:Addr
 dg:Addr
 eZ:Addr
 cN:Addr
 CZ:Addr
 AN:Addr
 pQ:Tok
 rR:Tok
 rS:Tok
 rT:Tok
 nN:Tok
 fk:Addr
structure Txt(K:af)(mg:Str->Option Value)(t:Ad):Prop where
 uX:M3 K t.eZ "Book.__init__" uN t.kT t.pF ["self"]
 C0:jh K t.eZ "learn" "Book.learn" xo t.nh t.rJ ["self","house","caller","rope"]
 C1:jh K t.eZ "known" "Book.known" xq t.ni t.rK ["self","house","caller"]
 xP:jh K t.eZ "notes" "Book.notes" xr t.nv t.rL ["self"]
 uY:jh K t.eZ "forget" "Book.forget" uO t.kU t.pG ["self"]
 J1:oh K mg "targets" "targets" DT t.we t.AE ["book","letter","house","came","open_here","here"]
 Hf:oh K mg "ropes_on" "ropes_on" BG t.sJ t.xD ["book","sought","house","came","open_here","here"]
 qH:M3 K t.iN "Letter.__init__" qz t.eE t.lF ["self","sender"]
 zJ:jh K t.iN "meant" "Letter.meant" sC t.j8 t.nG ["self","caller"]
 nO:jh K t.iN "seeks" "Letter.seeks" sD t.gH t.nH ["self"]
 lO:jh K t.iN "number" "Letter.number" qA t.f9 t.lG ["self"]
 zK:M3 K t.fY "ToOne.__init__" sE t.j9 t.nJ ["self","sender","to"]
 A8:jh K t.fY "meant" "ToOne.meant" uP t.kW t.pH ["self","caller"]
 uZ:jh K t.fY "seeks" "ToOne.seeks" uQ t.kX t.pI ["self"]
 sV:jh K t.fY "number" "ToOne.number" sF t.kg t.nK ["self"]
 A9:jh K t.jd "meant" "ToAll.meant" uR t.kY t.pJ ["self","caller"]
 Ed:oh K mg "own_row" "own_row" DU t.wg t.AF ["town","house"]
 LI:oh K mg "offer" "offer" Lv t.CV t.Gh ["town","row","rope"]
 Zv:oh K mg "due" "due" VJ t.Nd t.Ra ["town","live","rows","house"]
 Zw:oh K mg "ups" "ups" VL t.Ng t.Rb ["town","live","rows"]
 C2:oh K mg "opens" "opens" Lw t.xC t.Gi ["town","live","rows"]
 J2:oh K mg "open_at" "open_at" DV t.wk t.AG ["town","live","rows","house"]
 Rc:oh K mg "up_of" "up_of" Lx t.CY t.Gj ["town","live","rows","house"]
 Ba:M3 K t.bu "Town.__init__" uS t.kZ t.pK ["self","names","ropes"]
 E1:jh K t.bu "name" "Town.name" zo t.pZ t.uv ["self","house"]
 zL:jh K t.bu "rope" "Town.rope" zp t.p5 t.uw ["self","number"]
 lP:jh K t.bu "ropes_at" "Town.ropes_at" qB t.ji t.lH ["self","house"]
 nP:jh K t.bu "far_end" "Town.far_end" sG t.kh t.nL ["self","rope","house"]
 E2:jh K t.bu "lets" "Town.lets" zq t.p6 t.ux ["self","rope","group"]
 Bb:oh K mg "check_names" "check_names" uT t.k7 t.pL ["names"]
 Bc:oh K mg "check_ropes" "check_ropes" uU t.k8 t.pM ["size","ropes"]
 C3:oh K mg "check_rope" "check_rope" xu t.ny t.rM ["size","rope"]
 E3:oh K mg "joins_two" "joins_two" zu t.p7 t.uy ["size","one","other"]
 wB:M3 K t.dg "Strands.__init__" oF t.iK t.kC ["self","town"]
 mq:jh K t.dg "standing" "Strands.standing" lY t.gI t.i7 ["self","rope"]
 mz:jh K t.dg "wire_for" "Strands.wire_for" lZ t.gJ t.i8 ["self","rope","number"]
 sW:jh K t.dg "live" "Strands.live" sH t.ki t.nM ["self","group"]
 Hg:oh K mg "wires_of" "wires_of" BH t.sL t.xE ["town","rope"]
 fc:oh K mg "check_group" "check_group" uV t.lg t.pN ["group"]
 yz:M3 K t.jo "Posted.__init__" qC t.jk t.lI ["self","letter","group"]
 C4:M3 K t.cN "Net.__init__" xw t.nA t.rN ["self","town","callers"]
 mC:jh K t.cN "rows" "Net.rows" BI t.sM t.xF ["self","group"]
 xQ:jh K t.cN "live" "Net.live" BJ t.sN t.xG ["self","group"]
 qi:jh K t.cN "opens" "Net.opens" zv t.p8 t.uz ["self","group"]
 uF:jh K t.cN "notes" "Net.notes" zw t.p9 t.uA ["self","group"]
 C5:jh K t.cN "row_at" "Net.row_at" xx t.nB t.rO ["self","house","group"]
 Hh:jh K t.cN "call" "Net.call" BK t.sO t.xH ["self","house","group"]
 E4:jh K t.cN "place" "Net.place" zz t.qc t.uB ["self","caller"]
 Hi:jh K t.cN "move" "Net.move" BL t.sP t.xJ ["self","caller","house"]
 sX:Lm K "post" "Net.post" i0 t.jc t.xO (.none)
 PL:Binds K t.xO ["self","sender","to"] [.none]
 PM:Binds K t.xO ["self","sender","to"] []
 Hj:K4 K t.cN "post" t.jc
 xR:jh K t.cN "flying" "Net.flying" xA t.nC t.rP ["self"]
 lz:Lm K "pass_on" "Net.pass_on" fK t.fL t.pP (.int 0 t.jv)
 Jb:Binds K t.pP ["self","at"] [.int 0 t.jv]
 WR:Binds K t.pP ["self","at"] []
 Jc:K4 K t.cN "pass_on" t.fL
 E6:jh K t.cN "story" "Net.story" zA t.qe t.uC ["self","letter"]
 Be:jh K t.cN "fate_of" "Net.fate_of" uW t.ly t.pO ["self","posted","rope","house"]
 qI:jh K t.cN "do_letter" "Net.do_letter" qD t.jl t.lJ ["self","number","house","came"]
 wC:jh K t.cN "callers_at" "Net.callers_at" oG t.iL t.kD ["self","house","group"]
 Hl:jh K t.cN "send" "Net.send" BN t.sQ t.xK ["self","number","house","rope"]
 qJ:jh K t.cN "take_news" "Net.take_news" qF t.jm t.lK ["self","group"]
 nQ:jh K t.cN "check_house" "Net.check_house" m9 t.iu t.jG ["self","house"]
 gM:jh K t.cN "check_caller" "Net.check_caller" l9 t.gK t.i9 ["self","caller"]
 wD:jh K t.cN "check_pair" "Net.check_pair" oH t.iM t.kE ["self","sender","to"]
 C6:oh K mg "first_rows" "first_rows" xB t.nD t.rQ ["town"]
 yC:oh K mg "check_callers" "check_callers" qG t.jn t.lN ["town","callers"]
 gx:oh K mg "_law_cell_at" "_law_cell_at" zB t.qg t.uD ["_law_script","_law_k"]
 J3:oh K mg "_law_names" "_law_names" DW t.wm t.AH ["_law_script","_law_size"]
 J4:oh K mg "_law_ropes" "_law_ropes" DX t.wo t.AI ["_law_script","_law_size","_law_group"]
 E7:oh K mg "_law_callers" "_law_callers" zC t.qh t.uE ["_law_script","_law_size","_law_group"]
 Ho:oh K mg "_law_rounds" "_law_rounds" BO t.sR t.xM ["_law_net","_law_size","_law_group"]
 Hq:oh K mg "_law_labels" "_law_labels" BP t.sU t.xN ["_law_size","_law_ropes_here","_law_some"]
 AO:oh K mg "_law_drain" "_law_drain" DY t.wu t.AK ["_law_net","_law_ropes_here","_law_many"]
 J6:oh K mg "_law_moved" "_law_moved" DZ t.wz t.AL ["_law_net","_law_group","_law_caller","_law_house","_law_places"]
 J7:oh K mg "_law_found" "_law_found" D3 t.wA t.AM ["_law_net","_law_size","_law_ropes_here","_law_places","_law_sender","_law_to","_law_number"]
 VO:oh K mg "law" "law" VM t.Nh t.Ni ["_law_script"]
 Hr:IF K t.iN
 VP:mg "Letter" = some (.ref t.iN)
 Uc:dB K t.iN "sender"
 Zx:dB K t.iN "to"
 pR:IF K t.fY
 Yc:mg "ToOne" = some (.ref t.fY)
 sY:dB K t.fY "sender"
 xS:dB K t.fY "to"
 xU:IF K t.jd
 Yd:mg "ToAll" = some (.ref t.jd)
 nR:dB K t.jd "sender"
 aa9:dB K t.jd "to"
 dG:IF K t.jo
 VQ:mg "Posted" = some (.ref t.jo)
 gZ:dB K t.jo "letter"
 kj:dB K t.jo "group"
 xV:dB K t.jo "old"
 oJ:dB K t.jo "done_at"
 iO:dB K t.jo "deeds"
 fG:IF K t.bu
 aba:mg "Town" = some (.ref t.bu)
 sZ:dB K t.bu "house_names"
 gO:dB K t.bu "rope_tuples"
 mL:dB K t.bu "size"
 uG:dB K t.bu "many"
 jw:IF K t.dg
 S6:mg "Strands" = some (.ref t.dg)
 nS:dB K t.dg "town"
 nU:dB K t.dg "upright"
 xW:IF K t.eZ
 abb:mg "Book" = some (.ref t.eZ)
 qj:dB K t.eZ "kept"
 bD:IF K t.cN
 adR:mg "Net" = some (.ref t.cN)
 oK:dB K t.cN "town"
 vc:dB K t.cN "strands"
 kK:dB K t.cN "rows_by_group"
 qk:dB K t.cN "books"
 iV:dB K t.cN "homes"
 kG:dB K t.cN "groups"
 C7:dB K t.cN "handed"
 ff:dB K t.cN "letters"
 nV:dB K t.cN "copies"
 zM:mg "opens_opens" = some (.ref t.xC)
 Jd:K4 K t.jd "seeks" t.gH
 Hs:K4 K t.jd "number" t.f9
 Ye:Mk K t.jd t.eE
 Ef:Zo K t.iN "__init__" t.eE
 VR:mg "NoWire" = some (.ref t.CZ)
 VS:U8 K t.CZ
 S8:mg "NoGroup" = some (.ref t.AN)
 S9:U8 K t.AN
 Je:mg "MOST_HOUSES" = some (.int 10 t.pQ)
 LL:mg "MOST_ROPES" = some (.int 20 t.rR)
 LM:mg "MOST_WIRES" = some (.int 4 t.rS)
 LN:mg "ALL_GROUPS" = some (.int 7 t.rT)
 Ht:mg "MOST_CALLERS" = some (.int 20 t.nN)
 nW:mg "GROUP_BITS" = some (.ref t.fk)
 gu:∀H,c7 K H t.fk [.int 1,.int 2,.int 4]
 iP:mg "len" = none
 tw:mg "list" = none
 gv:mg "range" = none
 E8:mg "enumerate" = none
 VT:mg "min" = none
 adS:mg "max" = none
 adT:mg "set" = none
 Nj:mg "sorted" = none
theorem Tc{α:Type}{M:List α->Prop}(h:∀a,M [a]):∀us:List α,us.length=1->M us
 |[_],_=>h _
theorem C8{α:Type}{M:List α->Prop}(h:∀a b,M [a,b]):∀us:List α,us.length=2->M us
 |[_,_],_=>h _ _
theorem Hu{α:Type}{M:List α->Prop}(h:∀a b c,M [a,b,c]):∀us:List α,us.length=3->M us
 |[_,_,_],_=>h _ _ _
theorem gf{α:Type}{M:List α->Prop}(h:∀a b c d,M [a,b,c,d]):∀us:List α,us.length=4->M us
 |[_,_,_,_],_=>h _ _ _ _
theorem el5{α:Type}{M:List α->Prop}(h:∀a b d e c,M [a,b,d,e,c]):∀us:List α,us.length=5->M us
 |[_,_,_,_,_],_=>h _ _ _ _ _
theorem el6{α:Type}{M:List α->Prop}(h:∀a b e f c d,M [a,b,e,f,c,d]):∀us:List α,us.length=6->M us
 |[_,_,_,_,_,_],_=>h _ _ _ _ _ _
theorem el7{α:Type}{M:List α->Prop}(h:∀a b e g c d f,M [a,b,e,g,c,d,f]):∀us:List α,us.length=7->M us
 |[_,_,_,_,_,_,_],_=>h _ _ _ _ _ _ _
theorem abd{K:af}{h:Heap}{b:Str->Option Value}(X:K.In h)(G:h.Ns mainGlobals b){kT nh ni nv kU we sJ p j8 I D j9 kW kX kg kY wg CV Nd Ng J wk CY kZ pZ p5 ji U p6 k7 k8 ny p7 iK gI gJ ki sL lg jk nA sM sN p8 p9 nB sO qc sP nC qe ly jl iL sQ jm iu gK iM nD jn qg wm wo qh sR sU wu wz wA Nh:Addr}
 {Nk E9 Fb Fc s Fd:Value} {Nl Fe:Option Addr} {Nm:Array (Option Value)} {l:Addr}
 {r:Addr} {LO:Option Addr} {Np:Nat} {LP:Array (Option Value)}
 {Hv zO zP zQ R zR:Value} {Hw zS:Option Addr} {Hy:Array (Option Value)} {n:Addr}
 {u:Addr} {FT:Option Addr} {Hz:Nat} {FU:Array (Option Value)}
 {M:Tok}
 {e:Addr}
 {i:Addr}
 {k:Addr}
 {g:Addr}
 {d:Addr}
 {f:Addr}
 {j:Addr}
 {a:Addr}
 {L:Addr}
 {w:Addr}
 {pQ:Tok}
 {Y:Tok}
 {rS:Tok}
 {rT:Tok}
 {nN:Tok}
 {q:Addr} {Jf:Option Addr} {LQ:Nat} {Jg Jh Ji:Tok} {Jj:Array (Option Value)}
 (Eh:bU K mainGlobals "Letter" = some (some (.ref e)))
 (HB:bU K mainGlobals "ToOne" = some (some (.ref i)))
 (HC:bU K mainGlobals "ToAll" = some (some (.ref k)))
 (Ei:bU K mainGlobals "Posted" = some (some (.ref g)))
 (LR:bU K mainGlobals "Town" = some (some (.ref d)))
 (BW:bU K mainGlobals "Strands" = some (some (.ref f)))
 (LU:bU K mainGlobals "Book" = some (some (.ref j)))
 (PN:bU K mainGlobals "Net" = some (some (.ref a)))
 (ve:EM K j "__init__" "Book.__init__" uN kT)
 (xY:EM K j "learn" "Book.learn" xo nh)
 (xZ:EM K j "known" "Book.known" xq ni)
 (x8:EM K j "notes" "Book.notes" xr nv)
 (vf:EM K j "forget" "Book.forget" uO kU)
 (Ej:EG K b "targets" "targets" DT we)
 (BX:EG K b "ropes_on" "ropes_on" BG sJ)
 (qK:EM K e "__init__" "Letter.__init__" qz p)
 (tE:EM K e "meant" "Letter.meant" sC j8)
 (tF:EM K e "seeks" "Letter.seeks" sD I)
 (qL:EM K e "number" "Letter.number" qA D)
 (tG:EM K i "__init__" "ToOne.__init__" sE j9)
 (vg:EM K i "meant" "ToOne.meant" uP kW)
 (vh:EM K i "seeks" "ToOne.seeks" uQ kX)
 (tH:EM K i "number" "ToOne.number" sF kg)
 (vj:EM K k "meant" "ToAll.meant" uR kY)
 (Ek:EG K b "own_row" "own_row" DU wg)
 (LV:EG K b "offer" "offer" Lv CV)
 (VU:EG K b "due" "due" VJ Nd)
 (VV:EG K b "ups" "ups" VL Ng)
 (LW:EG K b "opens" "opens" Lw J)
 (El:EG K b "open_at" "open_at" DV wk)
 (LX:EG K b "up_of" "up_of" Lx CY)
 (vm:EM K d "__init__" "Town.__init__" uS kZ)
 (zT:EM K d "name" "Town.name" zo pZ)
 (zU:EM K d "rope" "Town.rope" zp p5)
 (qM:EM K d "ropes_at" "Town.ropes_at" qB ji)
 (tK:EM K d "far_end" "Town.far_end" sG U)
 (zV:EM K d "lets" "Town.lets" zq p6)
 (vn:EG K b "check_names" "check_names" uT k7)
 (vp:EG K b "check_ropes" "check_ropes" uU k8)
 (x9:EG K b "check_rope" "check_rope" xu ny)
 (zW:EG K b "joins_two" "joins_two" zu p7)
 (oN:EM K f "__init__" "Strands.__init__" oF iK)
 (mD:EM K f "standing" "Strands.standing" lY gI)
 (mE:EM K f "wire_for" "Strands.wire_for" lZ gJ)
 (tL:EM K f "live" "Strands.live" sH ki)
 (BY:EG K b "wires_of" "wires_of" BH sL)
 (vq:EG K b "check_group" "check_group" uV lg)
 (qN:EM K g "__init__" "Posted.__init__" qC jk)
 (ya:EM K a "__init__" "Net.__init__" xw nA)
 (BZ:EM K a "rows" "Net.rows" BI sM)
 (Ca:EM K a "live" "Net.live" BJ sN)
 (zX:EM K a "opens" "Net.opens" zv p8)
 (zY:EM K a "notes" "Net.notes" zw p9)
 (yb:EM K a "row_at" "Net.row_at" xx nB)
 (Cb:EM K a "call" "Net.call" BK sO)
 (zZ:EM K a "place" "Net.place" zz qc)
 (Cc:EM K a "move" "Net.move" BL sP)
 (Cd:aL K (.ref a) "post" = some (some (.ref l)))
 (Ce:PySem.W.isFn K (.ref l)=true)
 (Cf:K.lookup l=some ⟨Nk,Nl,.func (e9 "post" "Net.post" (jE i0) (fW i0) (aF i0) (.ref r) E9 Fb Fc Fe s Fd),Nm⟩)
 (Cg:jx K s "Net.post" = true)
 (yc:d9 K (.ref l)=true)
 (z6:K.lookup r=some ⟨.type "tuple",LO,.seq #[.none] Np,LP⟩)
 (yd:EM K a "flying" "Net.flying" xA nC)
 (vt:aL K (.ref a) "pass_on" = some (some (.ref n)))
 (vz:PySem.W.isFn K (.ref n)=true)
 (vA:K.lookup n=some ⟨Hv,Hw,.func (e9 "pass_on" "Net.pass_on" (jE fK) (fW fK) (aF fK) (.ref u) zO zP zQ zS R zR),Hy⟩)
 (vB:jx K R "Net.pass_on" = true)
 (pS:d9 K (.ref n)=true)
 (tM:K.lookup u=some ⟨.type "tuple",FT,.seq #[.int 0 M] Hz,FU⟩)
 (z7:EM K a "story" "Net.story" zA qe)
 (vC:EM K a "fate_of" "Net.fate_of" uW ly)
 (qO:EM K a "do_letter" "Net.do_letter" qD jl)
 (oO:EM K a "callers_at" "Net.callers_at" oG iL)
 (Ci:EM K a "send" "Net.send" BN sQ)
 (qP:EM K a "take_news" "Net.take_news" qF jm)
 (nY:EM K a "check_house" "Net.check_house" m9 iu)
 (mF:EM K a "check_caller" "Net.check_caller" l9 gK)
 (oQ:EM K a "check_pair" "Net.check_pair" oH iM)
 (ye:EG K b "first_rows" "first_rows" xB nD)
 (qQ:EG K b "check_callers" "check_callers" qG jn)
 (z8:EG K b "_law_cell_at" "_law_cell_at" zB qg)
 (Em:EG K b "_law_names" "_law_names" DW wm)
 (Eo:EG K b "_law_ropes" "_law_ropes" DX wo)
 (z9:EG K b "_law_callers" "_law_callers" zC qh)
 (Cj:EG K b "_law_rounds" "_law_rounds" BO sR)
 (Ck:EG K b "_law_labels" "_law_labels" BP sU)
 (Ep:EG K b "_law_drain" "_law_drain" DY wu)
 (Er:EG K b "_law_moved" "_law_moved" DZ wz)
 (Es:EG K b "_law_found" "_law_found" D3 wA)
 (VW:EG K b "law" "law" VM Nh)
 (F:EC K e)
 (oS:aL K (.ref e) "sender" = some none)
 (yf:aL K (.ref e) "to" = some none)
 (x:EC K i)
 (qR:aL K (.ref i) "sender" = some none)
 (Ab:aL K (.ref i) "to" = some none)
 (O:EC K k)
 (qS:aL K (.ref k) "sender" = some none)
 (Ac:aL K (.ref k) "to" = some none)
 (N:EC K g)
 (oU:aL K (.ref g) "letter" = some none)
 (qU:aL K (.ref g) "group" = some none)
 (vD:aL K (.ref g) "old" = some none)
 (nZ:aL K (.ref g) "done_at" = some none)
 (qV:aL K (.ref g) "deeds" = some none)
 (B:EC K d)
 (kL:aL K (.ref d) "house_names" = some none)
 (kM:aL K (.ref d) "rope_tuples" = some none)
 (yg:aL K (.ref d) "size" = some none)
 (yh:aL K (.ref d) "many" = some none)
 (y:EC K f)
 (qW:aL K (.ref f) "town" = some none)
 (mH:aL K (.ref f) "upright" = some none)
 (E:EC K j)
 (yi:aL K (.ref j) "kept" = some none)
 (A:EC K a)
 (Af:aL K (.ref a) "town" = some none)
 (tN:aL K (.ref a) "strands" = some none)
 (ko:aL K (.ref a) "rows_by_group" = some none)
 (yj:aL K (.ref a) "books" = some none)
 (yk:aL K (.ref a) "homes" = some none)
 (vE:aL K (.ref a) "groups" = some none)
 (vF:aL K (.ref a) "handed" = some none)
 (tO:aL K (.ref a) "letters" = some none)
 (vG:aL K (.ref a) "copies" = some none)
 (tP:bU K mainGlobals "opens_opens" = some (some (.ref J)))
 (tQ:aL K (.ref k) "seeks" = some (some (.ref I)))
 (qX:aL K (.ref k) "number" = some (some (.ref D)))
 (HF:aL K (.ref k) "__init__" = some (some (.ref p)))
 (oV:PySem.W.specialIn K (.ref e) "__getattribute__" = some (some (.builtin "type.__getattribute__")))
 (oW:PySem.W.readsIn K e (.type "type")=true)
 (oX:PySem.W.findCls K (.ref e) (.type "type") "__init__" = some (.val (.ref p)))
 (Et:bU K mainGlobals "NoWire" = some (some (.ref L)))
 (Eu:U8 K L)
 (Cm:bU K mainGlobals "NoGroup" = some (some (.ref w)))
 (Cn:U8 K w)
 (vH:bU K mainGlobals "MOST_HOUSES" = some (some (.int 10 pQ)))
 (yl:bU K mainGlobals "MOST_ROPES" = some (some (.int 20 Y)))
 (ym:bU K mainGlobals "MOST_WIRES" = some (some (.int 4 rS)))
 (yo:bU K mainGlobals "ALL_GROUPS" = some (some (.int 7 rT)))
 (tR:bU K mainGlobals "MOST_CALLERS" = some (some (.int 20 nN)))
 (yp:bU K mainGlobals "GROUP_BITS" = some (some (.ref q)))
 (yq:K.lookup q=some ⟨.type "tuple",Jf,.seq #[.int 1 Jg,.int 2 Jh,.int 4 Ji] LQ,Jj⟩)
 (VX:bU K mainGlobals "len" = some none)
 (PR:bU K mainGlobals "list" = some none)
 (LY:bU K mainGlobals "range" = some none)
 (Ag:bU K mainGlobals "enumerate" = some none)
 (VY:bU K mainGlobals "min" = some none)
 (VZ:bU K mainGlobals "max" = some none)
 (V0:bU K mainGlobals "set" = some none)
 (HG:bU K mainGlobals "sorted" = some none):∃t,Txt K b t:=by
 obtain⟨pF,Bf,Bg⟩:=ve;obtain⟨rJ,Dd,LZ⟩:=xY;obtain⟨rK,De,L0⟩:=xZ;obtain⟨rL,Df,L1⟩:=x8;obtain⟨pG,Bj,Jk⟩:=vf;obtain⟨AE,Z,Td⟩:=Ej;obtain⟨xD,HH,PU⟩:=BX;obtain⟨lF,yD,o⟩:=qK;obtain⟨nG,Ah,HJ⟩:=tE;obtain⟨nH,Ai,T⟩:=tF;obtain⟨lG,yE,P⟩:=qL;obtain⟨nJ,Aj,Ak⟩:=tG;obtain⟨pH,Bk,Jl⟩:=vg;obtain⟨pI,Bl,Jm⟩:=vh;obtain⟨nK,Al,HK⟩:=tH;obtain⟨pJ,Bm,Jo⟩:=vj;obtain⟨AF,J9,Te⟩:=Ek;obtain⟨Gh,Rf,Yg⟩:=LV;obtain⟨Ra,Zy,C⟩:=VU;obtain⟨Rb,Zz,S⟩:=VV;obtain⟨Gi,Rg,Yh⟩:=LW;obtain⟨AG,Ka,Tf⟩:=El;obtain⟨Gj,Rh,Yi⟩:=LX;obtain⟨pK,Bo,Bp⟩:=vm;obtain⟨uv,Ff,Nr⟩:=zT;obtain⟨uw,Fg,Nt⟩:=zU;obtain⟨lH,yF,FW⟩:=qM;obtain⟨nL,Am,HL⟩:=tK;obtain⟨ux,Fi,Nu⟩:=zV;obtain⟨pL,Bq,Jp⟩:=vn;obtain⟨pM,Br,Jq⟩:=vp;obtain⟨rM,Dg,L3⟩:=x9;obtain⟨uy,Fj,Nv⟩:=zW;obtain⟨kC,wG,wH⟩:=oN;obtain⟨i7,tT,Co⟩:=mD;obtain⟨i8,tU,Cq⟩:=mE;obtain⟨nM,An,HM⟩:=tL;obtain⟨xE,HN,PV⟩:=BY;obtain⟨pN,Bs,Jr⟩:=vq;obtain⟨lI,yG,yH⟩:=qN;obtain⟨rN,Dh,Di⟩:=ya;obtain⟨xF,HP,PX⟩:=BZ;obtain⟨xG,HQ,PY⟩:=Ca;obtain⟨uz,Fk,Ny⟩:=zX;obtain⟨uA,Fl,Nz⟩:=zY;obtain⟨rO,Dj,L4⟩:=yb;obtain⟨xH,HR,PZ⟩:=Cb;obtain⟨uB,Fq,NB⟩:=zZ;obtain⟨xJ,HS,P0⟩:=Cc;have v:=Q6 (st:=i0) Cf Cg yc z6 rfl;obtain⟨rP,Dk,L5⟩:=yd;have z:=Q6 (st:=fK) vA vB pS tM rfl;obtain⟨uC,Ft,ND⟩:=z7;obtain⟨pO,Bt,Js⟩:=vC;obtain⟨lJ,yI,FY⟩:=qO;obtain⟨kD,wI,Ew⟩:=oO;obtain⟨xK,HU,P1⟩:=Ci;obtain⟨lK,yJ,FZ⟩:=qP;obtain⟨jG,uH,Dl⟩:=nY;obtain⟨i9,tV,Cr⟩:=mF;obtain⟨kE,wJ,Ex⟩:=oQ;obtain⟨rQ,Dm,L6⟩:=ye;obtain⟨lN,yK,F0⟩:=qQ;obtain⟨uD,Fv,NF⟩:=z8;obtain⟨AH,Kc,Tg⟩:=Em;obtain⟨AI,V,Th⟩:=Eo;obtain⟨uE,Fw,NH⟩:=z9;obtain⟨xM,HV,P4⟩:=Cj;obtain⟨xN,HW,P5⟩:=Ck;obtain⟨AK,Ke,Ti⟩:=Ep;obtain⟨AL,Kf,Tj⟩:=Er;obtain⟨AM,Kg,Tn⟩:=Es;obtain⟨Ni,ZA,Q⟩:=VW;exact⟨⟨kT,nh,ni,nv,kU,we,sJ,p,j8,I,D,j9,kW,kX,kg,kY,wg,CV,Nd,Ng,J,wk,CY,kZ,pZ,p5,ji,U,p6,k7,k8,ny,p7,iK,gI,gJ,ki,sL,lg,jk,nA,sM,sN,p8,p9,nB,sO,qc,sP,nC,qe,ly,jl,iL,sQ,jm,iu,gK,iM,nD,jn,qg,wm,wo,qh,sR,sU,wu,wz,wA,Nh,pF,rJ,rK,rL,pG,AE,xD,lF,nG,nH,lG,nJ,pH,pI,nK,pJ,AF,Gh,Ra,Rb,Gi,AG,Gj,pK,uv,uw,lH,nL,ux,pL,pM,rM,uy,kC,i7,i8,nM,xE,pN,lI,rN,xF,xG,uz,uA,rO,xH,uB,xJ,rP,uC,pO,lJ,kD,xK,lK,jG,i9,kE,rQ,lN,uD,AH,AI,uE,xM,xN,AK,AL,AM,Ni,l,(e9 "post" "Net.post" (jE i0) (fW i0) (aF i0) (.ref r) E9 Fb Fc Fe s Fd),n,(e9 "pass_on" "Net.pass_on" (jE fK) (fW fK) (aF fK) (.ref u) zO zP zQ zS R zR),M,e,i,k,g,d,f,j,a,L,w,pQ,Y,rS,rT,nN,q⟩,⟨⟨Bf,Bf.binds λ_ _ _ _ _ _=>Tc λ_=>rfl,⟨E.Zs,Bg.at_,Bg.fn,E.kc⟩⟩,
  ⟨Dd,Dd.binds λ_ _ _ _ _ _=>gf λ_ _ _ _=>rfl,LZ⟩,
  ⟨De,De.binds λ_ _ _ _ _ _=>Hu λ_ _ _=>rfl,L0⟩,
  ⟨Df,Df.binds λ_ _ _ _ _ _=>Tc λ_=>rfl,L1⟩,
  ⟨Bj,Bj.binds λ_ _ _ _ _ _=>Tc λ_=>rfl,Jk⟩,
  ⟨Z,Z.binds λ_ _ _ _ _ _=>el6 λ_ _ _ _ _ _=>rfl,Td⟩,
  ⟨HH,HH.binds λ_ _ _ _ _ _=>el6 λ_ _ _ _ _ _=>rfl,PU⟩,
  ⟨yD,yD.binds λ_ _ _ _ _ _=>C8 λ_ _=>rfl,⟨F.Zs,o.at_,o.fn,F.kc⟩⟩,
  ⟨Ah,Ah.binds λ_ _ _ _ _ _=>C8 λ_ _=>rfl,HJ⟩,
  ⟨Ai,Ai.binds λ_ _ _ _ _ _=>Tc λ_=>rfl,T⟩,
  ⟨yE,yE.binds λ_ _ _ _ _ _=>Tc λ_=>rfl,P⟩,
  ⟨Aj,Aj.binds λ_ _ _ _ _ _=>Hu λ_ _ _=>rfl,⟨x.Zs,Ak.at_,Ak.fn,x.kc⟩⟩,
  ⟨Bk,Bk.binds λ_ _ _ _ _ _=>C8 λ_ _=>rfl,Jl⟩,
  ⟨Bl,Bl.binds λ_ _ _ _ _ _=>Tc λ_=>rfl,Jm⟩,
  ⟨Al,Al.binds λ_ _ _ _ _ _=>Tc λ_=>rfl,HK⟩,
  ⟨Bm,Bm.binds λ_ _ _ _ _ _=>C8 λ_ _=>rfl,Jo⟩,
  ⟨J9,J9.binds λ_ _ _ _ _ _=>C8 λ_ _=>rfl,Te⟩,
  ⟨Rf,Rf.binds λ_ _ _ _ _ _=>Hu λ_ _ _=>rfl,Yg⟩,
  ⟨Zy,Zy.binds λ_ _ _ _ _ _=>gf λ_ _ _ _=>rfl,C⟩,
  ⟨Zz,Zz.binds λ_ _ _ _ _ _=>Hu λ_ _ _=>rfl,S⟩,
  ⟨Rg,Rg.binds λ_ _ _ _ _ _=>Hu λ_ _ _=>rfl,Yh⟩,
  ⟨Ka,Ka.binds λ_ _ _ _ _ _=>gf λ_ _ _ _=>rfl,Tf⟩,
  ⟨Rh,Rh.binds λ_ _ _ _ _ _=>gf λ_ _ _ _=>rfl,Yi⟩,
  ⟨Bo,Bo.binds λ_ _ _ _ _ _=>Hu λ_ _ _=>rfl,⟨B.Zs,Bp.at_,Bp.fn,B.kc⟩⟩,
  ⟨Ff,Ff.binds λ_ _ _ _ _ _=>C8 λ_ _=>rfl,Nr⟩,
  ⟨Fg,Fg.binds λ_ _ _ _ _ _=>C8 λ_ _=>rfl,Nt⟩,
  ⟨yF,yF.binds λ_ _ _ _ _ _=>C8 λ_ _=>rfl,FW⟩,
  ⟨Am,Am.binds λ_ _ _ _ _ _=>Hu λ_ _ _=>rfl,HL⟩,
  ⟨Fi,Fi.binds λ_ _ _ _ _ _=>Hu λ_ _ _=>rfl,Nu⟩,
  ⟨Bq,Bq.binds λ_ _ _ _ _ _=>Tc λ_=>rfl,Jp⟩,
  ⟨Br,Br.binds λ_ _ _ _ _ _=>C8 λ_ _=>rfl,Jq⟩,
  ⟨Dg,Dg.binds λ_ _ _ _ _ _=>C8 λ_ _=>rfl,L3⟩,
  ⟨Fj,Fj.binds λ_ _ _ _ _ _=>Hu λ_ _ _=>rfl,Nv⟩,
  ⟨wG,wG.binds λ_ _ _ _ _ _=>C8 λ_ _=>rfl,⟨y.Zs,wH.at_,wH.fn,y.kc⟩⟩,
  ⟨tT,tT.binds λ_ _ _ _ _ _=>C8 λ_ _=>rfl,Co⟩,
  ⟨tU,tU.binds λ_ _ _ _ _ _=>Hu λ_ _ _=>rfl,Cq⟩,
  ⟨An,An.binds λ_ _ _ _ _ _=>C8 λ_ _=>rfl,HM⟩,
  ⟨HN,HN.binds λ_ _ _ _ _ _=>C8 λ_ _=>rfl,PV⟩,
  ⟨Bs,Bs.binds λ_ _ _ _ _ _=>Tc λ_=>rfl,Jr⟩,
  ⟨yG,yG.binds λ_ _ _ _ _ _=>Hu λ_ _ _=>rfl,⟨N.Zs,yH.at_,yH.fn,N.kc⟩⟩,
  ⟨Dh,Dh.binds λ_ _ _ _ _ _=>Hu λ_ _ _=>rfl,⟨A.Zs,Di.at_,Di.fn,A.kc⟩⟩,
  ⟨HP,HP.binds λ_ _ _ _ _ _=>C8 λ_ _=>rfl,PX⟩,
  ⟨HQ,HQ.binds λ_ _ _ _ _ _=>C8 λ_ _=>rfl,PY⟩,
  ⟨Fk,Fk.binds λ_ _ _ _ _ _=>C8 λ_ _=>rfl,Ny⟩,
  ⟨Fl,Fl.binds λ_ _ _ _ _ _=>C8 λ_ _=>rfl,Nz⟩,
  ⟨Dj,Dj.binds λ_ _ _ _ _ _=>Hu λ_ _ _=>rfl,L4⟩,
  ⟨HR,HR.binds λ_ _ _ _ _ _=>Hu λ_ _ _=>rfl,PZ⟩,
  ⟨Fq,Fq.binds λ_ _ _ _ _ _=>C8 λ_ _=>rfl,NB⟩,
  ⟨HS,HS.binds λ_ _ _ _ _ _=>Hu λ_ _ _=>rfl,P0⟩,
  v,
  (v.binds (ps:=["self","sender","to"]) (ds:=[.none]) (m:=2) rfl λ_ _ _ _ _ _ _=>C8 λ_ _=>⟨_,rfl,rfl⟩),
  (v.binds (ps:=["self","sender","to"]) (ds:=[]) (m:=3) rfl λ_ _ _ _ _ _ _=>Hu λ_ _ _=>⟨_,rfl,rfl⟩),
  ⟨Cd,Ce,yc⟩,
  ⟨Dk,Dk.binds λ_ _ _ _ _ _=>Tc λ_=>rfl,L5⟩,
  z,
  (z.binds (ps:=["self","at"]) (ds:=[.int 0 M]) (m:=1) rfl λ_ _ _ _ _ _ _=>Tc λ_=>⟨_,rfl,rfl⟩),
  (z.binds (ps:=["self","at"]) (ds:=[]) (m:=2) rfl λ_ _ _ _ _ _ _=>C8 λ_ _=>⟨_,rfl,rfl⟩),
  ⟨vt,vz,pS⟩,
  ⟨Ft,Ft.binds λ_ _ _ _ _ _=>C8 λ_ _=>rfl,ND⟩,
  ⟨Bt,Bt.binds λ_ _ _ _ _ _=>gf λ_ _ _ _=>rfl,Js⟩,
  ⟨yI,yI.binds λ_ _ _ _ _ _=>gf λ_ _ _ _=>rfl,FY⟩,
  ⟨wI,wI.binds λ_ _ _ _ _ _=>Hu λ_ _ _=>rfl,Ew⟩,
  ⟨HU,HU.binds λ_ _ _ _ _ _=>gf λ_ _ _ _=>rfl,P1⟩,
  ⟨yJ,yJ.binds λ_ _ _ _ _ _=>C8 λ_ _=>rfl,FZ⟩,
  ⟨uH,uH.binds λ_ _ _ _ _ _=>C8 λ_ _=>rfl,Dl⟩,
  ⟨tV,tV.binds λ_ _ _ _ _ _=>C8 λ_ _=>rfl,Cr⟩,
  ⟨wJ,wJ.binds λ_ _ _ _ _ _=>Hu λ_ _ _=>rfl,Ex⟩,
  ⟨Dm,Dm.binds λ_ _ _ _ _ _=>Tc λ_=>rfl,L6⟩,
  ⟨yK,yK.binds λ_ _ _ _ _ _=>C8 λ_ _=>rfl,F0⟩,
  ⟨Fv,Fv.binds λ_ _ _ _ _ _=>C8 λ_ _=>rfl,NF⟩,
  ⟨Kc,Kc.binds λ_ _ _ _ _ _=>C8 λ_ _=>rfl,Tg⟩,
  ⟨V,V.binds λ_ _ _ _ _ _=>Hu λ_ _ _=>rfl,Th⟩,
  ⟨Fw,Fw.binds λ_ _ _ _ _ _=>Hu λ_ _ _=>rfl,NH⟩,
  ⟨HV,HV.binds λ_ _ _ _ _ _=>Hu λ_ _ _=>rfl,P4⟩,
  ⟨HW,HW.binds λ_ _ _ _ _ _=>Hu λ_ _ _=>rfl,P5⟩,
  ⟨Ke,Ke.binds λ_ _ _ _ _ _=>Hu λ_ _ _=>rfl,Ti⟩,
  ⟨Kf,Kf.binds λ_ _ _ _ _ _=>el5 λ_ _ _ _ _=>rfl,Tj⟩,
  ⟨Kg,Kg.binds λ_ _ _ _ _ _=>el7 λ_ _ _ _ _ _ _=>rfl,Tn⟩,
  ⟨ZA,ZA.binds λ_ _ _ _ _ _=>Tc λ_=>rfl,Q⟩,
  F.c,
  (cY X G Eh),
  oS,
  yf,
  x.c,
  (cY X G HB),
  qR,
  Ab,
  O.c,
  (cY X G HC),
  qS,
  Ac,
  N.c,
  (cY X G Ei),
  oU,
  qU,
  vD,
  nZ,
  qV,
  B.c,
  (cY X G LR),
  kL,
  kM,
  yg,
  yh,
  y.c,
  (cY X G BW),
  qW,
  mH,
  E.c,
  (cY X G LU),
  yi,
  A.c,
  (cY X G PN),
  Af,
  tN,
  ko,
  yj,
  yk,
  vE,
  vF,
  tO,
  vG,
  (cY X G tP),
  ⟨tQ,T.fn,T.kp⟩,
  ⟨qX,P.fn,P.kp⟩,
  ⟨O.Zs,HF,o.fn,O.kc⟩,
  ⟨oV,oW,oX,o.kp⟩,
  (cY X G Et),
  Eu,
  (cY X G Cm),
  Cn,
  (cY X G vH),
  (cY X G yl),
  (cY X G ym),
  (cY X G yo),
  (cY X G tR),
  (cY X G yp),
  (λH=>.inr ⟨_,_,_,yq,rfl,rfl,k9,(.cons ⟨_,rfl⟩ (.cons ⟨_,rfl⟩ (.cons ⟨_,rfl⟩ .nil)))⟩),
  (gQ X G VX),
  (gQ X G PR),
  (gQ X G LY),
  (gQ X G Ag),
  (gQ X G VY),
  (gQ X G VZ),
  (gQ X G V0),
  (gQ X G HG)⟩⟩
end fC
namespace fC
open PySem L2 TW PyProof.Rows
open RM (cU ku bh bg)
seal L2.PE L2.PA L2.PT L2.PW L2.PS L2.iR L2.PG L2.lB L2.PI L2.lD
theorem bA{CX:Sd}{P:Program}{w:World}{K:af}{c:Str->Option Value}{base:Heap}{N:List Str}{b:Str}{scope:Scope}{f:Addr}{d:Value}{A:Around}{a:List Env}{s:Shared}{H:Hp}{E:XK}:(oq CX P w K c base N b scope f d A a s H E).K=K:=rfl
local macro_rules|`(tactic|left)=>`(tactic|try dsimp only[bA])
section
variable{P:Program}{w:World}{K:af}{mg:Str->Option Value}{base:Heap}
inductive V1(K:af)(vs:List V)(H:Hp)(Q:VK)(E:XK):Prop
 |mk (a:Addr) (ns:List Int) (k:Int):vs=[.ref a,.int k]->bQ K H a (ns.map V.int)->0<=k->Q (.int (ns.getD k.toNat 0)) H->V1 K vs H Q E
theorem gw{t:Ad}(T:Txt K mg t):cE P w K mg base iS 1 t.qg t.uD ["_law_script","_law_k"]  (V1 K):=by
 refine T.gx.F.kq LH λH Q E g h=>?_
 ·obtain⟨a,ns,i,rfl,b,f,k⟩:=h
  refine⟨_,(av (cT (qT ug (pv 1) (lS T.iP (pv 0))) (oR (xL (pv 0) (pv 1))) bB) (oR aE)),?_⟩
  left
  refine⟨_,rfl,_,rfl,a,_,rfl,.inl b,_,_,rfl,rfl,_,rfl,?_⟩;refine kP (λc=>?_) (λc=>?_)
  ·have d:i<ns.length:=by simpa using c
   refine⟨_,rfl,_,rfl,a,_,_,_,rfl,rfl,b,MJ f d,k⟩
  ·have d:¬i<ns.length:=by simpa using c
   have e:ns.getD i.toNat 0=0:=by
    rw[au,jg ∅];rfl
   rw[e] at k;exact k
inductive Ri(vs:List V)(H:Hp)(Q:VK)(E:XK):Prop
 |mk (n a b:Int):vs=[.int n,.int a,.int b]->0<=a->a<n->0<=b->b<n->a≠b->Q (.bl true) H->Ri  vs H Q E
theorem L7{t:Ad}(T:Txt K mg t):cE P w K mg base iS 1 t.p7 t.uy ["size","one","other"]  Ri:=by
 refine T.E3.F.kq LB λH Q E i h=>?_
 ·obtain⟨n,a,b,rfl,e,c,f,g,d,k⟩:=h
  refine⟨_,(oR (Uj (Mw rz ug aE (pv 1) (pv 0)) (Uj (Mw rz ug aE (pv 2) (pv 0)) (aae (qE uf (pv 1) (pv 2)))))),?_⟩
  left
  refine⟨_,rfl,_,_,rfl,rfl,_,rfl,?_⟩;rw[cy e];refine iC ⟨_,rfl,_,_,rfl,rfl,_,rfl,?_⟩;rw[cy c];refine iC ⟨_,rfl,_,_,rfl,rfl,_,rfl,?_⟩;rw[cy f];refine iC ⟨_,rfl,_,_,rfl,rfl,_,rfl,?_⟩;rw[cy g];refine iC ⟨_,rfl,_,rfl,rfl,?_⟩;rw[c6 (λz=>d (V.int.inj z))];exact k
inductive Fx(K:af)(vs:List V)(H:Hp)(Q:VK)(E:XK):Prop
 |mk (n:Int) (p:Addr) (a b c d e:Int):vs=[.int n,.ref p]->c7 K H p (adx a b c d e)->Va n a b c d e->Q .fM H->Fx K vs H Q E
theorem Jt{t:Ad}(T:Txt K mg t):cE P w K mg base iS 2 t.ny t.rM ["size","rope"]  (Fx K):=by
 refine T.C3.F.kq IS λH Q E m h=>?_
 ·obtain⟨n,p,a,b,c,d,e,rfl,f,r,k⟩:=h
  obtain⟨i,s,u,x,o,y,l,j,q,g⟩:=r;refine⟨_,(av (cT (qT uf (lS T.iP (pv 1)) aE) dS bB) (av (cT (lR (Bw (cG (L7 T) m T.E3 (IB (pv 0) (xT (pv 1) aE) (xT (pv 1) aE))))) dS bB) (av (cT (qT ug (xT (pv 1) aE) aE) dS bB) (av (cT (lR (jS rz rz aE (xT (pv 1) aE) (mU rfl T.LM (v:=.int 4) ⟨_,rfl⟩))) dS bB) (bL (cT (lR (jS rz rz aE (xT (pv 1) aE) (mU rfl T.LN (v:=.int 7) ⟨_,rfl⟩))) dS bB)))))),?_⟩
  left
  refine⟨_,rfl,p,_,rfl,.inr f,rfl,_,rfl,gD ?_⟩;refine⟨_,rfl,_,rfl,p,_,_,_,rfl,rfl,f,rfl,_,rfl,p,_,_,_,rfl,rfl,f,rfl,?_⟩;refine⟨_,_,_,rfl,i,s,u,x,o,_,rfl,gD ?_⟩;refine⟨_,rfl,p,_,_,_,rfl,rfl,f,rfl,_,_,rfl,rfl,_,rfl,?_⟩;rw[c6 (show ¬c<1 by lia)];refine gD ?_;refine⟨_,rfl,p,_,_,_,rfl,rfl,f,rfl,_,_,rfl,rfl,_,rfl,?_⟩;rw[cy l];refine iC ?_;refine⟨_,_,rfl,rfl,_,rfl,?_⟩;rw[cy j];refine gD ?_;refine⟨_,rfl,p,_,_,_,rfl,rfl,f,rfl,_,_,rfl,rfl,_,rfl,?_⟩;rw[cy q];refine iC ?_;refine⟨_,_,rfl,rfl,_,rfl,?_⟩;rw[cy g];refine gD ?_;exact k
inductive Dp(K:af)(vs:List V)(H:Hp)(Q:VK)(E:XK):Prop
 |mk (n:Int) (l:Addr) (rs:List R5):vs=[.int n,.ref l]->GI K H l rs->rs.length<=20->(∀r∈rs,r.Ok n)->Q .fM H->Dp K vs H Q E
theorem HX{t:Ad}(T:Txt K mg t):cE P w K mg base iS 3 t.k8 t.pM ["size","ropes"]  (Dp K):=by
 refine T.Bc.F.kq zD λH Q E q h=>?_
 ·obtain⟨n,l,o,rfl,z,B,r,k⟩:=h
  obtain⟨f,d,A,u⟩:=z.at;refine⟨_,(av (cT (qT Qv (lS T.iP (pv 1)) (mU rfl T.LL (v:=.int 20) ⟨_,rfl⟩)) dS bB) (bL (fS (ir (pv 1)) (gT 2 zD) (oE (cG (Jt T) q T.C3 (rA (pv 0) (pv 2))))))),?_⟩
  left
  refine⟨_,rfl,l,_,rfl,.inl d,_,_,rfl,rfl,_,rfl,?_⟩;rw[c6 (show ¬(20:Int)<f.length by lia)];refine gD ?_;refine⟨_,rfl,l,rfl,⟨_,d⟩,vM (K:=K) (a:=l) (xs:=f) (λi b c=>c=H/\∃v,b=[some (.int n),some (.ref l),v]) ⟨rfl,_,rfl⟩ (λi b c _ ⟨e,_⟩=>by rw[e];exact d) ?_ ?_⟩
  ·rintro i y b c m ⟨rfl,v,rfl⟩
   have s:i<f.length:=(ai.mp m).1;have g:o[i]?=some o[i]:=-_
   obtain⟨p,j,x⟩:=u i _ g;rw[m] at j;cases j;refine⟨_,rfl,_,rfl,n,p,_,_,_,_,_,rfl,x,r _ (aN g),rfl,_,rfl⟩
  ·rintro b c ⟨rfl,v,rfl⟩
   exact k
inductive Dq(K:af)(vs:List V)(H:Hp)(Q:VK)(E:XK):Prop
 |mk (l:Addr) (ns:List Int):vs=[.ref l]->bQ K H l (ns.map V.int)->1<=ns.length->ns.length<=10->(∀n∈ns,0<=n)->ns.Nodup->(∀H',aH H H'->Q .fM H')->Dq K vs H Q E
theorem HY{t:Ad}(T:Txt K mg t):cE P w K mg base iS 1 t.k7 t.pL ["names"]  (Dq K):=by
 refine T.Bb.F.kq G5 λH Q E q h=>?_
 ·obtain⟨l,ns,rfl,a,n,r,g,j,k⟩:=h
  refine⟨_,(av (cT (lR (jS rz rz aE (lS T.iP (pv 0)) (mU rfl T.Je (v:=.int 10) ⟨_,rfl⟩))) dS bB) (av (cT (qT ug (cB (Sw rfl) T.VT boot_min (gz (pv 0))) aE) dS bB) (bL (cT (qT uf (cB Sv T.iP PySem.boot_len (gz (fV (Su rfl) (by rfl) T.adT boot_set (gz (pv 0))))) (lS T.iP (pv 0))) dS bB)))),?_⟩
  left
  refine⟨_,rfl,l,_,rfl,.inl a,_,_,rfl,rfl,_,rfl,?_⟩;rw[cy (show (1:Int)<=(ns.map V.int).length by rw[ah];lia)];refine iC ?_;refine⟨_,_,rfl,rfl,_,rfl,?_⟩;rw[cy (show ((ns.map V.int).length:Int)<=10 by rw[ah];lia)];refine gD ?_;refine⟨_,rfl,l,ns,rfl,a,∅,λm f c=>?_⟩;refine⟨_,_,rfl,rfl,_,rfl,?_⟩;rw[c6 (show ¬m<0 by have:=g m f;lia)];refine gD ?_;refine⟨_,rfl,l,ns,rfl,a,bF (show ns.length+1<100 by lia) (!_),λp b=>?_⟩;have d:=aH.new (o:=.set (λe=>(firstMet (λi=>ns.getD i 0) ns.length).any (·==e)) (firstMet (λi=>ns.getD i 0) ns.length).length) b;refine⟨p,_,_,rfl,aC,_,rfl,l,_,rfl,.inl (d.seq a),rfl,_,rfl,?_⟩;rw[GJ ns j,ah];simp only[decide_true,Bool.not_true];refine gD ?_;exact k _ (aH.new b)
inductive V2(K:af)(C:Addr)(vs:List V)(H:Hp)(Q:VK)(E:XK):Prop
 |mk (p dx l1 l2:Addr) (ns:List Int) (rs:List R5):vs=[.ref p,.ref l1,.ref l2]->H p=some (.ins C dx [])->bQ K H l1 (ns.map V.int)->GI K H l2 rs->1<=ns.length->ns.length<=10->(∀n∈ns,0<=n)->ns.Nodup->rs.length<=20->(∀r∈rs,r.Ok ns.length)->(∀ln lr H',H ln=none->H lr=none->dc K C H' p ln lr ns rs->(∀b o,H b=some o->b≠p->H' b=some o)->Q .fM H')->V2 K C vs H Q E
theorem HZ{t:Ad}(T:Txt K mg t):cE P w K mg base iS 4 t.kZ t.pK ["self","names","ropes"]  (V2 K t.bu):=by
 refine T.Ba.F.kq G4 λH Q E hr h=>?_
 ·obtain⟨p,f,z,y,ns,rs,rfl,hp,O,hR,h1,h2,h3,h4,h5,h6,k⟩:=h
  refine⟨_,(av (dm (cG (HY T) hr T.Bb (gz (pv 1)))) (av (dm (cG (HX T) hr T.Bc (rA (lS T.iP (pv 1)) (pv 2)))) (av (fZ (pv 0) (fV gp (by rfl) T.tw boot_list (gz (pv 1))) rfl) (av (fZ (pv 0) (fV gp (by rfl) T.tw boot_list (gz (pv 2))) rfl) (av (fZ (pv 0) (lS T.iP (pv 1)) rfl) (bL (fZ (pv 0) (lS T.iP (pv 2)) rfl))))))),?_⟩
  left
  refine⟨_,rfl,z,ns,rfl,O,h1,h2,h3,h4,λH1 r=>?_⟩;refine⟨_,rfl,z,_,rfl,.inl (r.seq O),?_⟩;refine⟨_,rfl,(ns.length:Int),y,rs,-_,hR.mono r,h5,h6,?_⟩;have d:=r _ _ hp;have N:=hR.mono r;have G:=r.seq O;obtain⟨_,i,e,hq,Ud⟩:=id N;cases e;refine⟨_,rfl,z,_,rfl,.inl G,λg Y=>?_⟩;have m:p≠g:=aQ d Y;have s2:=aH.new (o:=.lst (ns.map V.int)) Y;refine⟨_,rfl,p,_,f,[],rfl,s2 _ _ d,T.fG,T.sZ,!_,?_⟩;rw[dJ (names:=[]) rfl rfl];generalize n:upd (upd H1 g (.lst (ns.map V.int))) p (.ins t.bu f ([]++[(Str.ofString "house_names",V.ref g)]))=H2;have I:∀b o,H1 b=some o->b≠p->H2 b=some o:=λb o e a=>by rw[<- n,aK a];exact s2 _ _ e
  have c:H2 p=some (.ins t.bu f [(Str.ofString "house_names",V.ref g)]):=by rw[<- n];exact aC
  have M:H2 g=some (.lst (ns.map V.int)):=by rw[<- n,aK (bN m),aC]
  have fr2:∀{b:Addr},H1 b=none->b≠p->b≠g->H2 b=none:=λ{b} e n1 n2=>by rw[<- n,aK n1,aK n2];exact e
  have S:bQ K H2 z (ns.map V.int):=Az (λb o e a=>I b o e a) d G;have J:bQ K H2 y i:=Az (λb o e a=>I b o e a) d hq;have U:bS K H2 (rs.map R5.D) i:=jW (λb o e a=>I b o e a) d Ud;refine⟨_,rfl,y,_,rfl,.inl J,λj v=>?_⟩;have l:p≠j:=aQ c v;have s3:=aH.new (o:=.lst i) v;refine⟨_,rfl,p,_,f,_,rfl,s3 _ _ c,T.fG,T.gO,(by show 1<1000;decide),?_⟩;rw[dJ (names:=["house_names"]) rfl (by decide +kernel)];generalize x:upd (upd H2 j (.lst i)) p (.ins t.bu f ([(Str.ofString "house_names",V.ref g)]++[(Str.ofString "rope_tuples",V.ref j)]))=H3;have A:∀b o,H2 b=some o->b≠p->H3 b=some o:=λb o e a=>by rw[<- x,aK a];exact s3 _ _ e
  have s:H3 p=some (.ins t.bu f [(Str.ofString "house_names",V.ref g),(Str.ofString "rope_tuples",V.ref j)]):=by rw[<- x];exact aC
  have hr3:H3 j=some (.lst i):=by rw[<- x,aK (bN l),aC]
  have W:=A _ _ M (bN m);have R:bQ K H3 z (ns.map V.int):=Az A c S;have WS:bQ K H3 y i:=Az A c J;have Z:bS K H3 (rs.map R5.D) i:=jW A c U;refine⟨_,rfl,z,_,rfl,.inl R,_,rfl,p,_,f,_,rfl,s,T.fG,T.mL,(by show 2<1000;decide),?_⟩;rw[dJ (names:=["house_names","rope_tuples"]) rfl (by decide +kernel)];generalize B:upd H3 p (.ins t.bu f ([(Str.ofString "house_names",V.ref g),(Str.ofString "rope_tuples",V.ref j)]++[(Str.ofString "size",V.int ((ns.map V.int).length:Nat))]))=H4;have C:∀b o,H3 b=some o->b≠p->H4 b=some o:=λb o e a=>by rw[<- B,aK a];exact e
  have Tp:H4 p=some (.ins t.bu f [(Str.ofString "house_names",V.ref g),(Str.ofString "rope_tuples",V.ref j),(Str.ofString "size",V.int ((ns.map V.int).length:Nat))]):=by rw[<- B];exact aC
  have X:bQ K H4 y i:=Az C s WS;have ahk:bS K H4 (rs.map R5.D) i:=jW C s Z;refine⟨_,rfl,y,_,rfl,.inl X,_,rfl,p,_,f,_,rfl,Tp,T.fG,T.uG,(by show 3<1000;decide),?_⟩;rw[dJ (names:=["house_names","rope_tuples","size"]) rfl (by decide +kernel)];have L:∀b o,H4 b=some o->b≠p->∀u,(upd H4 p u) b=some o:=λb o e a u=>by rw[aK a];exact e
  have Ue:i.length=rs.length:=by rw[Ud.length,ah]
  refine k g j _ (r.free Y) ?_ ⟨⟨f,?_⟩,?_,i,?_,jW (λb o e a=>L b o e a _) Tp ahk⟩ ?_
  ·cases q:H j with
   |none=>rfl
   |some o =>
    have:=I j o (r _ _ q) (λe=>l e.symm)
    rw[v] at this;cases this
  ·rw[aC,Ue,ah]
   rfl
  ·exact L _ _ (C _ _ W (bN m)) (bN m) _
  ·exact L _ _ (C _ _ hr3 (bN l)) (bN l) _
  ·exact λb o e a=>L _ _ (C _ _ (A _ _ (I _ _ (r _ _ e) a) a) a) a _
inductive V3(K:af)(C:Addr)(vs:List V)(H:Hp)(Q:VK)(E:XK):Prop
 |mk (p ln lr:Addr) (ns:List Int) (rs:List R5) (i:Nat) (n:Int):vs=[.ref p,.int i]->dc K C H p ln lr ns rs->ns[i]?=some n->Q (.int n) H->V3 K C vs H Q E
theorem L8{t:Ad}(T:Txt K mg t):cE P w K mg base iS 1 t.pZ t.uv ["self","house"]  (V3 K t.bu):=by
 refine T.E1.F.kq Ly λH Q E j h=>?_
 ·obtain⟨p,f,o,q,l,i,n,rfl,d,b,k⟩:=h
  obtain⟨⟨a,e⟩,c,r,g,m⟩:=id d;refine⟨_,(oR (xL (bf (pv 0) rfl) (pv 1))),?_⟩
  left
  refine⟨_,rfl,p,_,a,_,_,rfl,e,T.fG,T.sZ,rfl,_,rfl,f,_,_,_,rfl,rfl,bQ.of c,fD (v:=V.int n) (by rw[ak,b];rfl),k⟩
inductive V4(K:af)(C:Addr)(vs:List V)(H:Hp)(Q:VK)(E:XK):Prop
 |mk (p ln lr:Addr) (ns:List Int) (rs:List R5) (i:Nat) (r:R5):vs=[.ref p,.int i]->dc K C H p ln lr ns rs->rs[i]?=some r->(∀q,H q=some (.tup r.vs)∨c7 K H q r.vs->Q (.ref q) H)->V4 K C vs H Q E
theorem Dr{t:Ad}(T:Txt K mg t):cE P w K mg base iS 1 t.p5 t.uw ["self","number"]  (V4 K t.bu):=by
 refine T.zL.F.kq Lz λH Q E u h=>?_
 ·obtain⟨p,y,m,ns,x,i,r,rfl,f,c,k⟩:=h
  obtain⟨⟨b,j⟩,s,z,a,l⟩:=id f;obtain⟨v,g,n⟩:=l.get (i:=i) (d:=r.D) (by rw[ak,c];rfl);obtain⟨q,e,o⟩:=Rep.zc (ns:=r.ns) n;subst e;refine⟨_,(oR (xL (bf (pv 0) rfl) (pv 1))),?_⟩
  left
  exact⟨_,rfl,p,_,b,_,_,rfl,j,T.fG,T.gO,rfl,_,rfl,m,_,_,_,rfl,rfl,bQ.of a,fD g,k q (.inr o)⟩
inductive ZC(K:af)(C:Addr)(vs:List V)(H:Hp)(Q:VK)(E:XK):Prop
 |mk (p ln lr:Addr) (ns:List Int) (rs:List R5) (i:Nat) (r:R5) (h:Int):vs=[.ref p,.int i,.int h]->dc K C H p ln lr ns rs->rs[i]?=some r->Q (.int (if h=r.a then r.b else r.a)) H->ZC K C vs H Q E
theorem qZ{t:Ad}(T:Txt K mg t):cE P w K mg base iS 1 t.kh t.nL ["self","rope","house"]  (ZC K t.bu):=by
 refine T.nP.F.kq yx λH Q E A h=>?_
 ·obtain⟨p,C,u,ns,B,i,r,x,rfl,m,l,k⟩:=h
  obtain⟨⟨j,o⟩,z,G,b,s⟩:=id m;obtain⟨v,n,y⟩:=s.get (i:=i) (d:=r.D) (by rw[ak,l];rfl);obtain⟨q,e,g⟩:=Rep.zc (ns:=r.ns) y;subst e;refine⟨_,(av (sS 3 yx (xL (bf (pv 0) rfl) (pv 1))) (oR (vK (qT vO (pv 2) (xT (pv 3) aE)) (xT (pv 3) aE) (xT (pv 3) aE)))),?_⟩
  left
  refine⟨_,rfl,p,_,j,_,_,rfl,o,T.fG,T.gO,rfl,_,rfl,u,_,_,_,rfl,rfl,bQ.of b,fD n,?_⟩;refine⟨_,rfl,_,rfl,q,_,_,_,rfl,rfl,g,rfl,rfl,_,rfl,?_⟩;refine kP (λc=>?_) (λc=>?_)
  ·have f:x=r.a:=by simpa using c
   rw[aq f] at k;exact⟨_,rfl,q,_,_,_,rfl,rfl,g,rfl,k⟩
  ·have f:¬x=r.a:=by simpa using c
   rw[b3 f] at k;exact⟨_,rfl,q,_,_,_,rfl,rfl,g,rfl,k⟩
inductive adX(K:af)(C:Addr)(vs:List V)(H:Hp)(Q:VK)(E:XK):Prop
 |mk (p ln lr:Addr) (ns:List Int) (rs:List R5) (h:Int):vs=[.ref p,.int h]->dc K C H p ln lr ns rs->rs.length<=20->(∀l H',aH H H'->H l=none->H' l=some (.lst (bM (T9 rs h rs.length)))->Q (.ref l) H')->adX K C vs H Q E
theorem oY{t:Ad}(T:Txt K mg t):cE P w K mg base iS 1 t.ji t.lH ["self","house"]  (adX K t.bu):=by
 refine T.lP.F.kq vY λH Q E hr h=>?_
 ·obtain⟨p,ln,lr,ns,rs,x,rfl,Y,Ao,k⟩:=h
  obtain⟨⟨W,hp⟩,hn,B,g,S⟩:=id Y;have X:B.length=rs.length:=by rw[S.length,ah]
  refine⟨_,(oR (gq (kO vY ["number","rope","house"] [none,none,some 1]) rfl (QO rfl T.E8 (gz (bf (pv 0) rfl))) (λ_ _ _ _=>by exact (QS K rfl (n:=2) rfl (vL (gS 0 rB) (vL (gS 1 rB) KW)))) (λ_ _ _ _=>by exact (rE (o6 (GC K rfl) (pv 2) (iH (rA (yT K (pv 1) aE) (yT K (pv 1) aE))) (by with_unfolding_all rfl)))) (λ_ _ _ _=>by exact (pv 0)))),?_⟩
  left
  refine⟨_,rfl,p,_,W,_,_,rfl,hp,T.fG,T.gO,rfl,lr,B,rfl,bQ.of g,λj f=>?_⟩;refine fX (n:=B.length) (λi m _=>m=bM (T9 rs x i)) f (aaI (bQ.of g)) (U1 (bQ.of g)) rfl ?_ ?_
  ·rintro i m z M l A r y H3 ⟨q,v,I,rfl,rfl,Z⟩
   have C:=Z B (l.seq (bQ.of g));have J:rs[i]?=some rs[i]:=-_
   obtain⟨v',u,hD⟩:=S.get (i:=i) (d:=(rs[i]).D) (by rw[ak,J];rfl);rw[C] at u;cases u;obtain⟨b,e,hb⟩:=Rep.zc (ns:=(rs[i]).ns) hD;subst e;have s:=(l.out (o:=.tup [.int (i:Nat),.ref b]) (l.free I)).eK hb;have nq:j≠q:=aQ A I;refine⟨q,_,rfl,c7.of aC,rfl,_,_,rfl,_,_,rfl,rfl,?_⟩;refine⟨_,rfl,_,rfl,b,_,_,_,rfl,rfl,s,rfl,_,rfl,b,_,_,_,rfl,rfl,s,rfl,e8,λc L=>?_⟩;refine⟨c,_,rfl,.inr (c7.of aC),rfl,rfl,_,rfl,?_⟩;have eb:Mn (V.int x) [V.int rs[i].a,V.int rs[i].b]=isAt rs x i:=by
    unfold isAt;rw[J];exact aaQ _ _ _
   have N:=l.out (o:=.tup [.int (i:Nat),.ref b]) (l.free I);have U:=N.out (o:=.tup [V.int rs[i].a,V.int rs[i].b]) (N.free L);have R:(upd (upd z q (HO.tup [V.int (i:Nat),V.ref b])) c (HO.tup [V.int rs[i].a,V.int rs[i].b])) j=some (.lst m):=by
    have O:(upd z q (HO.tup [V.int (i:Nat),V.ref b])) j=some (.lst m):=by rw[aK nq];exact A
    rw[aK (aQ O L)];exact O
   try dsimp only
   rw[b3 aJ,eb];have hl:m.length<sizeLine:=by rw[r,ah];exact bO (aU (XF rs x i) ∅) (cP (aB _))
   refine kP (λG=>?_) (λG=>?_)
   ·exact⟨_,rfl,d8 f M U R hl (by rw[r,MR,aq G,lV])⟩
   ·exact kr M U R (by rw[r,MR,b3 G,bZ])
  ·intro m z l A r
   rw[X] at r;exact k j z l f (by rw[A,r])
inductive NI(K:af)(C:Addr)(vs:List V)(H:Hp)(Q:VK)(E:XK):Prop
 |mk (p ln lr:Addr) (ns:List Int) (rs:List R5) (i:Nat) (n:Int):vs=[.ref p,.int i]->dc K C H p ln lr ns rs->ns[i]?=some n->(∀q H',aH H H'->c7 K H' q (cU ⟨n,0,0,-1⟩)->Q (.ref q) H')->NI K C vs H Q E
theorem Ia{t:Ad}(T:Txt K mg t):cE P w K mg base iS 2 t.wg t.AF ["town","house"]  (NI K t.bu):=by
 refine T.Ed.F.kq PK λH Q E d h=>?_
 ·obtain⟨p,j,g,l,e,i,n,rfl,a,c,k⟩:=h
  obtain⟨⟨b,f⟩,_,_,_⟩:=id a;refine⟨_,(oR (iH (g8 (cM (pv 0) T.fG T.E1 (L8 T) d (gz (pv 1))) aE aE om))),?_⟩
  left
  refine⟨_,rfl,p,b,_,rfl,f,rfl,_,rfl,p,j,g,l,e,i,n,rfl,a,c,J8,λq m=>?_⟩;exact k q _ (aH.new m) (c7.of aC)
inductive Rj(K:af)(C:Addr)(vs:List V)(H:Hp)(Q:VK)(E:XK):Prop
 |mk (p ln lr:Addr) (ns:List Int) (rs:List R5) (i:Nat) (x:R5) (a:Addr) (r:RM.Row):vs=[.ref p,.ref a,.int i]->dc K C H p ln lr ns rs->rs[i]?=some x->c7 K H a (cU r)->(¬r.ho+1<ns.length->∀H',aH H H'->Q .fM H')->(r.ho+1<ns.length->∀q H',aH H H'->c7 K H' q (cU ⟨r.hd,r.co+x.c,r.ho+1,i⟩)->Q (.ref q) H')->Rj K C vs H Q E
theorem NJ{t:Ad}(T:Txt K mg t):cE P w K mg base iS 2 t.CV t.Gh ["town","row","rope"]  (Rj K t.bu):=by
 refine T.LI.F.kq M6 λH Q E n h=>?_
 ·obtain⟨p,v,s,ns,o,i,x,a,r,rfl,g,l,d,B,m⟩:=h
  obtain⟨⟨f,j⟩,_,_,_⟩:=id g;refine⟨_,(av (sS 3 M6 (bx gm (xT (pv 1) aE) aE)) (av (cT (qT ac6 (pv 3) (bf (pv 0) rfl)) (oR om) bB) (oR (iH (g8 (xT (pv 1) aE) (bx gm (xT (pv 1) aE) (xT (cM (pv 0) T.fG T.zL (Dr T) n (gz (pv 2))) aE)) (pv 3) (pv 2)))))),?_⟩
  left
  refine⟨_,rfl,a,_,_,_,rfl,rfl,d,rfl,_,_,rfl,rfl,?_⟩;refine⟨_,rfl,_,rfl,p,_,f,_,_,rfl,j,T.fG,T.mL,rfl,_,_,rfl,rfl,_,rfl,?_⟩;refine kP (λe=>?_) (λe=>?_)
  ·have k:(ns.length:Int)<=r.ho+1:=eL e
   exact B ∅ _ (aH.refl _)
  ·have k:¬(ns.length:Int)<=r.ho+1:=of_decide_eq_false (eq_false_of_ne_true e)
   refine⟨_,rfl,a,_,_,_,rfl,rfl,d,rfl,_,rfl,a,_,_,_,rfl,rfl,d,rfl,_,rfl,p,f,_,rfl,j,rfl,_,rfl,p,v,s,ns,o,i,x,rfl,g,l,λq A=>?_⟩;have b:c7 K H q x.vs:=A.elim (λz=>c7.of z) id;refine⟨q,_,_,_,rfl,rfl,b,rfl,_,_,rfl,rfl,_,rfl,_,rfl,J8,λu y=>?_⟩;refine m ∅ u _ (aH.new y) (c7.of ?_);rw[aC];show some (HO.tup [.int r.hd,.int (r.co+x.c),.int (r.ho+1),.int (i:Int)])=some (HO.tup [.int r.hd,.int (r.co+x.c),.int (r.ho+1),ku (i:Int)]);rw[bg ∅]
inductive ZD(K:af)(C:Addr)(vs:List V)(H:Hp)(Q:VK)(E:XK):Prop
 |mk (p ln lr c b:Addr) (ns:List Int) (rs:List R5) (live:List Nat) (nd:ns.Nodup) (ok:∀r∈rs,r.Ok ns.length) (hl:∀k∈live,k<rs.length) (R:Nat->RM.Row) (h:Nat):vs=[.ref p,.ref c,.ref b,.int h]->dc K C H p ln lr ns rs->bQ K H c (bM live)->sq K H b ns.length R->h<ns.length->rs.length<=20->RM.Sane (aZ ns rs live nd ok hl) R->(∀q d H',aH H H'->c7 K H' q (cU d)->RM.U9 (N:=aZ ns rs live nd ok hl) ns.length R h d->Q (.ref q) H')->ZD K C vs H Q E
theorem abg{t:Ad}(T:Txt K mg t):cE P w K mg base iS 3 t.Nd t.Ra ["town","live","rows","house"]  (ZD K t.bu):=by
 refine T.Zv.F.kq G2 λH Q E hr h=>?_
 ·obtain⟨p,ln,lr,c,b,ns,rs,e,n,m,i,R,x,rfl,hT,hC,hR,hx,Ao,aaP,k⟩:=h
  obtain⟨⟨dx,hp⟩,_,_,_⟩:=id hT;obtain⟨ps,hP,ePs,Yj⟩:=hR;have enm:(aZ ns rs e n m i).nm x=ns[x]:=by show ns.getD x 0=_;simp[au,hx]
  refine⟨_,(av (sS 4 G2 (cG (Ia T) hr T.Ed (rA (pv 0) (pv 3)))) (av (fS (ir (cM (pv 0) T.fG T.lP (oY T) hr (gz (pv 3)))) (gT 5 G2) (bL (cT (o6 vQ (pv 5) (pv 1) (by with_unfolding_all rfl)) (av (sS 6 G2 (cG (NJ T) hr T.LI (IB (pv 0) (xL (pv 2) (cM (pv 0) T.fG T.nP (qZ T) hr (rA (pv 5) (pv 3)))) (pv 5)))) (bL (cT (PW.pt (KU (qT K2 (pv 6) om) (KS (qT (aaN (Nat.lt_of_succ_lt (MF hr))) (Gz UO (pv 6) QB (CD aE)) (Gz UO (pv 4) QB (CD aE)))))) (bL (sS 4 G2 (pv 6))) bB))) bB))) (oR (pv 4)))),?_⟩
  left
  refine⟨_,rfl,_,rfl,p,ln,lr,ns,rs,x,ns[x],rfl,hT,aa hx,λp0 H0 s0 hp0=>?_⟩;have hown:c7 K H0 p0 (cU (RM.own (aZ ns rs e n m i) x)):=by unfold RM.own;rw[enm];exact hp0
  refine⟨_,rfl,p,dx,_,rfl,s0 _ _ hp,rfl,_,rfl,p,ln,lr,ns,rs,x,rfl,hT.mono s0,Ao,λl H1 s1 O6 M=>?_⟩;have s01:=s0.trans s1;refine⟨l,rfl,⟨_,bQ.of M⟩,?_⟩;generalize N:T9 rs (x:Int) rs.length=v at M;refine vM (K:=K) (a:=l) (xs:=bM v) (λj σ Z=>aH H1 Z/\∃(q:Addr) (d:RM.Row) (v5 v6:Option V),σ=[some (.ref p),some (.ref c),some (.ref b),some (.int x),some (.ref q),v5,v6]/\c7 K Z q (cU d) /\
   (d=RM.own (aZ ns rs e n m i) x∨∃f g,f∈v.take j/\RM.Gf (aZ ns rs e n m i) f x g/\(R g).ho+1<ns.length/\d=RM.over (aZ ns rs e n m i) f (R g))/\RM.le d (RM.own (aZ ns rs e n m i) x) /\
   ∀f g,f∈v.take j->RM.Gf (aZ ns rs e n m i) f x g->(R g).ho+1<ns.length->RM.le d (RM.over (aZ ns rs e n m i) f (R g)))
   ⟨aH.refl _,p0,RM.own (aZ ns rs e n m i) x,_,_,rfl,s1.eK hown,.inl rfl,RM.le_refl _,λf g he=>by simp at he⟩ (λj σ Z _ z=>bQ.of (z.1 _ _ M)) ?_ ?_
  ·rintro j y σ Z hj ⟨s2,q,d,v5,v6,rfl,hq,d1,d2,W⟩
   have I:j<v.length:=by
    have:=(ai.mp hj).1
    rw[ah] at this;exact this
   rw[ak,aa I] at hj;cases hj;have et:v.take (j+1)=v.take j++[v[j]]:=by rw[List.take_add_one,aa I];rfl
   have O:v[j]∈v:=aM I;have ZE:∀A∈v.take j,A<v[j]:=λA s=>XG (N▸Vd rs (x:Int) rs.length) I s;have J:(d=RM.own (aZ ns rs e n m i) x∨∃f g,f∈v.take j++[v[j]]/\RM.Gf (aZ ns rs e n m i) f x g/\(R g).ho+1<ns.length/\d=RM.over (aZ ns rs e n m i) f (R g)):=d1.imp id λ⟨a1,a2,a3,a4⟩=>⟨a1,a2,eY _ a3,a4⟩;rw[et];show iB 5 (V.int ((v[j]:Nat):Int)) _ _ _;generalize v[j]=f at O ZE J;rw[<- N,AA] at O;obtain⟨Tq,hat⟩:=O;have Y:=s01.trans s2;refine⟨_,rfl,_,rfl,c,_,rfl,.inl (Y.seq hC),rfl,rZ e,_,rfl,?_⟩
   try dsimp only
   rw[b3 aJ,ze];refine kP (λL=>?_) (λL=>?_)
   case refine_2 =>
    have L:f∉e:=λz=>L (cy z);refine⟨s2,q,d,_,_,rfl,hq,J,d2,λA g s pY X=>?_⟩;rcases aR.mp s with z|z
    ·exact W A g z pY X
    ·rw[aT.mp z] at pY
     exact b5 pY.1 L
   have L:f∈e:=eL L;have S:rs[f]?=some rs[f]:=aa Tq;have pY:RM.Gf (aZ ns rs e n m i) f x (fQ rs[f] x):=(uh L).mpr ⟨hat,rfl⟩;have hgn:fQ rs[f] x<ns.length:=pY.lt.2.1;have hgs:=aaP _ hgn;have V6:(if (x:Int)=rs[f].a then rs[f].b else rs[f].a)=((fQ rs[f] x:Nat):Int):=by
    have o:=m _ (aM Tq);have h1:=o.a0;have h2:=o.b0;unfold fQ;split <;> lia
   have V7:(aZ ns rs e n m i).c f=rs[f].c:=by show ((rs[f]?).map λr=>r.c).getD 0=_;rw[S];rfl
   have fu:∀g,RM.Gf (aZ ns rs e n m i) f x g->g=fQ rs[f] x:=λg a=>((uh L).mp a).2;generalize fQ rs[f] x=g at pY hgn hgs V6 fu;have hpg:ps[g]?=some ps[g]:=aa ∅;have abh:FG (ps.map V.ref) (if (x:Int)=rs[f].a then rs[f].b else rs[f].a)=some (.ref ps[g]):=by rw[V6];exact fD (by rw[ak,hpg];rfl)
   have hrg:=Y.eK (Yj g _ hpg);refine⟨_,rfl,_,rfl,_,rfl,p,dx,_,rfl,Y _ _ hp,rfl,_,rfl,_,rfl,p,ln,lr,ns,rs,f,rs[f],x,rfl,hT.mono Y,S,b,_,_,_,rfl,rfl,Y.seq hP,abh,_,rfl,?_⟩;refine⟨p,ln,lr,ns,rs,f,rs[f],ps[g],R g,rfl,hT.mono Y,S,hrg,λX H3 s3=>?_,λX u H3 s3 hu=>?_⟩
   ·refine⟨_,rfl,rfl,_,rfl,gD (gD ?_)⟩
    refine⟨s2.trans s3,q,d,_,_,rfl,s3.eK hq,J,d2,λA D s C U=>?_⟩;rcases aR.mp s with z|z
    ·exact W A D z C U
    ·rw[aT.mp z] at C
     rw[fu D C] at U;exact b5 U X
   have eov:(⟨(R g).hd,(R g).co+rs[f].c,(R g).ho+1,f⟩:RM.Row)=RM.over (aZ ns rs e n m i) f (R g):=by unfold RM.over;rw[V7]
   rw[eov] at hu;have WS:=s3.eK hq;have G:=s2.trans s3;refine⟨_,rfl,rfl,_,rfl,iC ?_⟩;have lex:GG [V.int (RM.over (aZ ns rs e n m i) f (R g)).hd,V.int (RM.over (aZ ns rs e n m i) f (R g)).co,V.int (RM.over (aZ ns rs e n m i) f (R g)).ho] [V.int d.hd,V.int d.co,V.int d.ho] (decide (RM.lt (RM.over (aZ ns rs e n m i) f (R g)) d)):=RM.Xy (by
    rcases d1 with z|⟨A,D,s,_,_,z⟩
    ·rw[z]
     intro _ _ e3
     have:(R g).ho+1=0:=e3
     lia
    ·have hlt':=ZE A s
     rw[z];intro e1 e2 e3 e4;rcases e4 with e4|⟨_,e4|⟨_,e4|⟨_,e4⟩⟩⟩
     ·lia
     ·lia
     ·lia
     ·have:((f:Nat):Int)<((A:Nat):Int):=e4
      lia)
   have nw:∀r:RM.Row,¬(HT.n6 (cU r).length 0 none=0/\HT.n6 (cU r).length (cU r).length (some 3)=(cU r).length):=λr z=>b5 z.2 (by show HT.n6 4 4 (some 3)≠4;decide);have ct:∀r:RM.Row,IG (cU r) none (some 3)=[V.int r.hd,V.int r.co,V.int r.ho]:=λr=>rfl;refine⟨_,rfl,_,rfl,u,_,rfl,hu,nw _,λz1 hz1=>?_⟩;rw[ct];have t1:=aH.new (o:=.tup [V.int (RM.over (aZ ns rs e n m i) f (R g)).hd,V.int (RM.over (aZ ns rs e n m i) f (R g)).co,V.int (RM.over (aZ ns rs e n m i) f (R g)).ho]) hz1;refine⟨_,rfl,_,rfl,q,_,rfl,t1.eK WS,nw _,λz2 hz2=>?_⟩;rw[ct];have t2:=aH.new (o:=.tup [V.int d.hd,V.int d.co,V.int d.ho]) hz2;have G:=G.trans (t1.trans t2);have hu:=(t1.trans t2).eK hu;have WS:=(t1.trans t2).eK WS;refine⟨z1,z2,_,_,_,rfl,rfl,c7.of (t2 _ _ aC),c7.of aC,rfl,lex,_,rfl,?_⟩;by_cases B:RM.lt (RM.over (aZ ns rs e n m i) f (R g)) d
   ·rw[cy B]
    refine iC ?_;refine⟨_,rfl,G,u,_,_,_,rfl,hu,.inr ⟨f,g,bJ _ (aT.mpr rfl),pY,X,rfl⟩,RM.le_trans (RM.Zm B) d2,λA D s C U=>?_⟩;rcases aR.mp s with z|z
    ·exact RM.le_trans (RM.Zm B) (W A D z C U)
    ·rw[aT.mp z] at C ⊢
     rw[fu D C];exact RM.le_refl _
   ·rw[c6 B]
    refine gD ⟨G,q,d,_,_,rfl,WS,J,d2,λA D s C U=>?_⟩;rcases aR.mp s with z|z
    ·exact W A D z C U
    ·rw[aT.mp z] at C ⊢
     rw[fu D C];exact B
  ·rintro σ Z ⟨s2,q,d,v5,v6,rfl,hq,d1,d2,W⟩
   rw[ah,cO (aB _)] at W;refine⟨_,rfl,k q d Z (s01.trans s2) hq ⟨d1.imp id λ⟨a1,a2,_,a4⟩=>⟨a1,a2,a4⟩,d2,λf g pY X=>W f g ?_ pY X⟩⟩;rw[<- N,AA];exact⟨i f pY.1,((uh pY.1).mp pY).1⟩
inductive V8(K:af)(C:Addr)(vs:List V)(H:Hp)(Q:VK)(E:XK):Prop
 |mk (p ln lr c b:Addr) (ns:List Int) (rs:List R5) (live:List Nat) (nd:ns.Nodup) (ok:∀r∈rs,r.Ok ns.length) (hl:∀k∈live,k<rs.length) (R:Nat->RM.Row) (h:Nat):vs=[.ref p,.ref c,.ref b,.int h]->dc K C H p ln lr ns rs->bQ K H c (bM live)->sq K H b ns.length R->h<ns.length->rs.length<=20->w9 ns.length rs.length R->(∀v H',aH H H'->uL K H' v (zf (aZ ns rs live nd ok hl) R h)->Q v H')->V8 K C vs H Q E
theorem V9{t:Ad}(T:Txt K mg t):cE P w K mg base iS 3 t.CY t.Gj ["town","live","rows","house"]  (V8 K t.bu):=by
 refine T.Rc.F.kq G3 λH Q E D h=>?_
 ·obtain⟨p,ln,Y,c,b,ns,rs,live,nd,ok,q,R,i,rfl,M,hC,O,hin,Ao,fit,k⟩:=h
  obtain⟨⟨dx,hp⟩,_,_,_⟩:=id M;obtain⟨s,L,ePs,Yj⟩:=id O;have B:s[i]?=some s[i]:=aa ∅;have x:FG (s.map V.ref) (i:Int)=some (.ref s[i]):=fD (by rw[ak,B];rfl);have y:=Yj i _ B;have fi:=fit i hin;refine⟨_,(av (sS 4 G3 (xT (xL (pv 2) (pv 3)) aE)) (av (cT (PW.pt (acV (o6 wY (pv 4) (pv 1) (by with_unfolding_all rfl)) (aad (o6 wY (pv 4) (cM (pv 0) T.fG T.lP (oY T) D (gz (pv 3))) (by with_unfolding_all rfl))))) (oR om) bB) (av (sS 5 G3 (cM (pv 0) T.fG T.nP (qZ T) D (rA (pv 4) (pv 3)))) (av (cT (qT GB (cG (NJ T) D T.LI (IB (pv 0) (xL (pv 2) (pv 5)) (pv 4))) (xL (pv 2) (pv 3))) (oR om) bB) (oR (iH (rA (pv 4) (pv 5)))))))),?_⟩
  left
  refine⟨_,rfl,_,rfl,Lg L x (XH y rfl ?_)⟩;have f:∀{H3:Hp},aH H H3->(∀k g,¬RM.ow (aZ ns rs live nd ok q) R k i g)->Q .fM H3:=λs3 no=>k .fM _ s3 (by rw[MS no];rfl);show iB 4 (ku (R i).by_) _ _ _;rcases fi.by_ with N|⟨b0,b1⟩
  ·rw[show ku (R i).by_=V.fM by rw[N];rfl]
   refine⟨_,rfl,_,rfl,c,_,rfl,.inl hC,rfl,rZ live,_,rfl,?_⟩
   try dsimp only
   rw[aq rfl,XI];refine iC (iC (f (aH.refl _) λn g t=>?_))
   have:=t.by
   lia
  obtain⟨d,ekk⟩:∃d:Nat,(R i).by_=(d:Int):=⟨(R i).by_.toNat,∅⟩;have I:d<rs.length:=∅
  rw[show ku (R i).by_=V.int (d:Nat) by rw[ekk,bg ∅]];have r:∀n g,RM.ow (aZ ns rs live nd ok q) R n i g->n=d:=λn g t=>by have:=t.by;lia
  refine⟨_,rfl,_,rfl,c,_,rfl,.inl hC,rfl,rZ live,_,rfl,?_⟩
  try dsimp only
  rw[aq rfl,ze];by_cases z:d∈live
  case neg =>
   rw[c6 z];refine iC (iC (f (aH.refl _) λn g t=>?_))
   have:=r n g t
   subst this;exact z t.pY.1
  rw[cy z];refine gD ?_;refine⟨_,rfl,_,rfl,p,dx,_,rfl,hp,rfl,_,rfl,p,ln,Y,ns,rs,i,rfl,M,Ao,λl H1 v O6 S=>?_⟩;refine⟨l,_,rfl,.inl (bQ.of S),rfl,rZ _,_,rfl,?_⟩
  try dsimp only
  rw[aq rfl,ze];by_cases m:d∈T9 rs (i:Int) rs.length
  case neg =>
   rw[c6 m];refine iC (f v λn g t=>?_)
   have:=r n g t
   subst this;exact m (AA.mpr ⟨I,((uh z).mp t.pY).1⟩)
  rw[cy m];refine gD ?_;have m:=(AA.mp m).2;have G:rs[d]?=some rs[d]:=aa I;have V6:=QU (h:=i) I ok;have W:fQ rs[d] i<ns.length:=Pe I ok;have J:=Vf (ns:=ns) (rs:=rs) (live:=live) (nd:=nd) (ok:=ok) (hl:=q) (R:=R) (h:=i) z;have V7:=ady (ns:=ns) (live:=live) (nd:=nd) (ok:=ok) (hl:=q) I;have o:∀g,RM.ow (aZ ns rs live nd ok q) R d i g->g=fQ rs[d] i:=λg t=>aaS t;refine⟨_,rfl,p,dx,_,rfl,v _ _ hp,rfl,_,rfl,_,rfl,p,ln,Y,ns,rs,d,rs[d],i,rfl,M.mono v,G,?_⟩;show iB 5 (V.int (if (i:Int)=rs[d].a then rs[d].b else rs[d].a)) _ _ _;rw[V6];generalize fQ rs[d] i=g at V6 W J o;have C:s[g]?=some s[g]:=aa ∅;have abh:FG (s.map V.ref) (g:Int)=some (.ref s[g]):=fD (by rw[ak,C];rfl);refine⟨_,rfl,_,rfl,_,rfl,Lg (v.seq L) abh ⟨_,rfl,p,ln,Y,ns,rs,d,rs[d],s[g],R g,rfl,M.mono v,G,v.eK (Yj g _ C),λIb H2 U=>?_,λIb u H2 U hu=>?_⟩⟩
  ·have j:=v.trans U
   refine⟨_,rfl,_,rfl,Lg (j.seq L) x ⟨.none,RM.t8 (R i),rfl,RM.vS (j.eK y),rfl,RM.vU _,bO (cJ (aU (fN _ _) (!_)) _) D.units,_,rfl,?_⟩⟩;refine iC (f j λn A t=>?_);have e1:=r n A t;subst e1;have Z:=o A t;subst Z;exact Ib t.cut
  ·have j:=v.trans U
   have eov:(⟨(R g).hd,(R g).co+rs[d].c,(R g).ho+1,d⟩:RM.Row)=RM.over (aZ ns rs live nd ok q) d (R g):=by unfold RM.over;rw[V7]
   rw[eov] at hu;refine⟨_,rfl,_,rfl,Lg (j.seq L) x ⟨RM.t8 (RM.over (aZ ns rs live nd ok q) d (R g)),RM.t8 (R i),RM.vS hu,RM.vS (j.eK y),RM.vU _,RM.vU _,bO (cJ (aU (fN _ _) (by rw[RM.DL];decide)) _) D.units,_,rfl,?_⟩⟩;rw[RM.MP (show (-1:Int)<=(d:Nat) by lia) fi.by1];by_cases e:RM.over (aZ ns rs live nd ok q) d (R g)=R i
   case neg =>
    rw[c6 e];refine iC (f j λn A t=>?_);have e1:=r n A t;subst e1;have Z:=o A t;subst Z;exact e t.eq.symm
   rw[cy e];refine gD ?_;have hh:RM.ow (aZ ns rs live nd ok q) R d i g:=by
    obtain⟨g2,t⟩:=J.mpr ⟨m,Ib,e.symm⟩
    have:=o g2 t
    subst this;exact t
   refine⟨_,rfl,_,rfl,e8,λo2 X=>?_⟩;exact k (.ref o2) _ (j.trans (aH.new X)) (by rw[uo.mpr hh];exact⟨o2,rfl,c7.of aC⟩)
inductive ZF(K:af)(C:Addr)(vs:List V)(H:Hp)(Q:VK)(E:XK):Prop
 |mk (p ln lr c b:Addr) (ns:List Int) (rs:List R5) (live:List Nat) (nd:ns.Nodup) (ok:∀r∈rs,r.Ok ns.length) (hl:∀k∈live,k<rs.length) (R:Nat->RM.Row):vs=[.ref p,.ref c,.ref b]->dc K C H p ln lr ns rs->bQ K H c (bM live)->sq K H b ns.length R->ns.length<=12->rs.length<=20->w9 ns.length rs.length R->(∀l H',aH H H'->H l=none->aaR K H' l ns.length (zf (aZ ns rs live nd ok hl) R)->Q (.ref l) H')->ZF K C vs H Q E
theorem abl{t:Ad}(T:Txt K mg t):cE P w K mg base iS 4 t.Ng t.Rb ["town","live","rows"]  (ZF K t.bu):=by
 refine T.Zw.F.kq VN λH Q E S h=>?_
 ·obtain⟨p,W,V,c,b,ns,C,d,G,D,A,R,rfl,B,L,s,Y,N,u,k⟩:=h
  obtain⟨⟨J,U⟩,_,_,_⟩:=id B;refine⟨_,(oR (gq (kO VN ["house","live","rows","town"] [none,some 1,some 2,some 0]) rfl (eS rfl T.gv (gz (bf (pv 0) rfl))) (λ_ _ _ _=>by exact (gS 0 S2)) (λ_ _ _ _=>by exact iD) (λ_ _ _ _=>by exact (cG (V9 T) S T.Rc (g8 (pv 3) (pv 1) (pv 2) (pv 0)))))),?_⟩
  left
  refine⟨_,rfl,p,_,J,_,_,rfl,U,T.fG,T.mL,rfl,(ns.length:Int),rfl,∅,∅,λy a=>?_⟩;refine fX (n:=((ns.length:Int)).toNat) (λi l m=>l.length=i/\∀(j:Nat) v,l[j]?=some v->uL K m v (zf (aZ ns C d G D A) R j)) a w6 mW ⟨rfl,λj v e=>by simp at e⟩ ?_ ?_
  ·rintro i l m M g o ⟨q,f⟩ x H3 ⟨rfl,rfl⟩
   refine⟨_,rfl,_,rfl,_,rfl,_,rfl,p,W,V,c,b,ns,C,d,G,D,A,R,i,by rw[fU];rfl,B.mono g,g.seq L,s.mono g,∅,N,u,λv Z r O=>?_⟩;refine d8 a M (g.trans r) (r _ _ o) (by rw[q];exact cP ∅) ⟨by rw[aA,q];rfl,λj w e=>?_⟩;refine uL.lst (r _ _ o) ?_;rcases AB e with z|⟨X,I⟩
   ·exact (f j w z).mono r
   ·rw[X,I,q];exact O
  rintro l m g o ⟨q,f⟩;exact k y m g a ⟨l,o,∅,f⟩
inductive Rl(K:af)(C:Addr)(vs:List V)(H:Hp)(Q:VK)(E:XK):Prop
 |mk (p ln lr c b:Addr) (ns:List Int) (rs:List R5) (live:List Nat) (nd:ns.Nodup) (ok:∀r∈rs,r.Ok ns.length) (hl:∀k∈live,k<rs.length) (R:Nat->RM.Row):vs=[.ref p,.ref c,.ref b]->dc K C H p ln lr ns rs->bQ K H c (bM live)->sq K H b ns.length R->ns.length<=12->rs.length<=20->w9 ns.length rs.length R->(∀l os H',aH H H'->H l=none->H' l=some (.lst (bM os))->c8 (aZ ns rs live nd ok hl) R os->os.length<=12->Q (.ref l) H')->Rl K C vs H Q E
theorem NK{t:Ad}(T:Txt K mg t):cE P w K mg base iS 5 t.xC t.Gi ["town","live","rows"]  (Rl K t.bu):=by
 refine T.C2.F.kq M7 λH Q E hr h=>?_
 ·obtain⟨p,ln,lr,c,b,ns,W,a,N,S,L,R,rfl,hT,hC,I,Wa,Ao,V,k⟩:=h
  refine⟨_,(oR (cB EW T.Nj boot_sorted (gz (gq (kO M7 ["up"] [none]) rfl (ir (cG (abl T) hr T.Zw (IB (pv 0) (pv 1) (pv 2)))) (λ_ _ _ _=>by exact (gS 0 M8)) (λ_ _ _ _=>by exact (rE (qT K2 (pv 0) om))) (λ_ _ _ _=>by exact (yT K (pv 0) aE)))))),?_⟩
  left
  refine⟨_,rfl,_,rfl,_,rfl,p,ln,lr,c,b,ns,W,a,N,S,L,R,rfl,hT,hC,I,Wa,Ao,V,λlu H2 s2 alX hO=>?_⟩;obtain⟨X,f,evs,M⟩:=hO;refine⟨lu,rfl,⟨_,bQ.of f⟩,λJ j=>?_⟩;refine fX (n:=X.length) (λi O _=>∃d:List Nat,O=bM d/\d.length<=i/\d.Nodup/\∀k,k∈d↔∃h g,h<i/\RM.ow (aZ ns W a N S L) R k h g) j (zd (bQ.of f)) (pX (bQ.of f)) ⟨[],rfl,bI _,jy,λk=>⟨λz=>b5 z (-_),λ⟨_,_,z,_⟩=>b5 z (Nat.not_lt_zero _)⟩⟩ ?_ ?_
  ·rintro i O H3 D r G ⟨d,rfl,Z,C,A⟩ y H4 ⟨rfl,hv⟩
   have s:=hv _ (r.seq (bQ.of f));rw[aa D] at s;cases s;have m:=(M i _ (aa D)).mono r;generalize X[i]=v at m;cases B:zf (aZ ns W a N S L) R i with
   |none =>
    rw[B] at m;have m:v=.fM:=m;subst m;refine⟨_,rfl,rfl,_,rfl,gD ?_⟩;refine kr D r G ⟨d,rfl,∅,C,λk=>(A k).trans ⟨λ⟨h,g,z,t⟩=>⟨h,g,∅,t⟩,λ⟨h,g,z,t⟩=>⟨h,g,?_,t⟩⟩⟩;by_cases e:h=i
    ·subst e
     rw[uo.mpr t] at B;cases B
    ·lia
   |some q =>
    rw[B] at m;obtain⟨t1,rfl,ht⟩:=m;have o:=(uo (k:=q.1) (g:=q.2)).mp B;refine⟨_,rfl,rfl,_,rfl,iC ?_⟩;refine⟨_,rfl,t1,_,0,_,rfl,rfl,ht,rfl,?_⟩;refine d8 j D r G (by rw[ah];exact cP ∅) ⟨d++[q.1],by rw[lV],by rw[aA];exact Nat.add_le_add_right Z 1,Gr.BC C λz=>?_,λk=>?_⟩
    ·obtain⟨h,g,z1,t⟩:=(A _).mp z
     have:=(t.one o).1
     lia
    ·rw[aR,aT,A]
     constructor
     ·rintro (⟨h,g,z,t⟩|rfl)
      ·exact⟨h,g,∅,t⟩
      ·exact⟨i,q.2,∅,o⟩
     ·rintro⟨h,g,z,t⟩
      by_cases e:h=i
      ·subst e
       exact .inr (t.uniq o).1
      ·exact .inl ⟨h,g,∅,t⟩
  rintro O H3 r G ⟨d,rfl,Z,C,A⟩;refine⟨J,d.map λk:Nat=>(k:Int),rfl,bQ.of (by rw[G,iX]),by rw[ah];lia,λl ms Y u pw=>?_⟩;obtain⟨os,U,o1,o2,o3⟩:=MT u pw C;rw[U];have x:=s2.trans r;refine k l os _ (x.trans (aH.new Y)) (x.free Y) aC ⟨o1,λk=>?_⟩ ∅;rw[o2,A];constructor
  ·rintro⟨h,g,_,t⟩;exact⟨h,g,t⟩
  ·rintro⟨h,g,t⟩
   have:h<ns.length:=(ow.lt t).1
   exact⟨h,g,∅,t⟩
theorem Kh{p:Nat->Bool}{xs:List Nat}{i:Nat}(a:i<xs.length):(xs.take (i+1)).filter p=(xs.take i).filter p++if p xs[i] then [xs[i]] else []:=by
 rw[jD a,fP];congr 1;cases e:p xs[i]
 ·rw[b3 (!_),iy (by rw[e];decide)];rfl
 ·rw[aq rfl,iw e];rfl
inductive NN(K:af)(C:Addr)(vs:List V)(H:Hp)(Q:VK)(E:XK):Prop
 |mk (p ln lr c b:Addr) (ns:List Int) (rs:List R5) (live:List Nat) (nd:ns.Nodup) (ok:∀r∈rs,r.Ok ns.length) (hl:∀k∈live,k<rs.length) (R:Nat->RM.Row) (h:Int):vs=[.ref p,.ref c,.ref b,.int h]->dc K C H p ln lr ns rs->bQ K H c (bM live)->sq K H b ns.length R->ns.length<=12->rs.length<=20->w9 ns.length rs.length R->(∀l os H',aH H H'->H l=none->H' l=some (.lst (bM (os.filter (isAt rs h))))->c8 (aZ ns rs live nd ok hl) R os->os.length<=12->Q (.ref l) H')->NN K C vs H Q E
theorem P6{t:Ad}(T:Txt K mg t):cE P w K mg base iS 6 t.wk t.AG ["town","live","rows","house"]  (NN K t.bu):=by
 refine T.J2.F.kq BR λH Q E U h=>?_
 ·obtain⟨p,W,V,c,b,X,rs,o,nd,ok,O,R,x,rfl,G,hC,v,Y,S,D,k⟩:=h
  refine⟨_,(av (sS 4 BR (cM (pv 0) T.fG T.lP (oY T) U (gz (pv 3)))) (oR (gq (kO BR ["rope","joined"] [none,some 4]) rfl (ir (Ax (NK T) (U.mono (!_)) rfl T.zM T.C2.F.kp T.C2.B .nil mK (IB (pv 0) (pv 1) (pv 2)))) (λ_ _ _ _=>by exact (gS 0 IQ)) (λ_ _ _ _=>by exact (rE (o6 (GC K rfl) (pv 0) (pv 1) (by with_unfolding_all rfl)))) (λ_ _ _ _=>by exact (pv 0))))),?_⟩
  left
  obtain⟨⟨Z,hp⟩,_⟩:=id G;refine⟨_,rfl,p,Z,_,rfl,hp,rfl,_,rfl,p,W,V,X,rs,x,rfl,G,S,λlj H1 l al0 I=>?_⟩;refine⟨_,rfl,_,rfl,_,rfl,p,W,V,c,b,X,rs,o,nd,ok,O,R,rfl,G.mono l,l.seq hC,v.mono l,Y,S,D,λlo os H2 A Tr d j N=>?_⟩;have L:=A _ _ I;have M:∀k∈os,decide (k∈T9 rs x rs.length)=isAt rs x k:=λk hk=>by
   obtain⟨h,g,t⟩:=(j.2 k).mp hk;have C:k<rs.length:=O k t.pY.1;by_cases z:isAt rs x k=true
   ·rw[z];exact cy (AA.mpr ⟨C,z⟩)
   ·rw[Bool.not_eq_true] at z
    rw[z];refine c6 λy=>?_;rw[(AA.mp y).2] at z;cases z
  refine⟨lo,rfl,⟨_,bQ.of d⟩,λJ a=>?_⟩;refine fX (n:=(bM os).length) (λi s _=>s=bM ((os.take i).filter (isAt rs x))) a (zd (bQ.of d)) (pX (bQ.of d)) rfl ?_ ?_
  ·rintro i s H3 q f m rfl y H4 ⟨rfl,r⟩
   have r:=r _ (f.seq (bQ.of d));have e:i<os.length:=by rw[ah] at q;exact q
   rw[ak,aa e] at r;cases r;refine⟨_,rfl,_,rfl,lj,_,rfl,.inl (bQ.of (f _ _ L)),rfl,rZ _,_,rfl,?_⟩
   try dsimp only
   rw[b3 aJ,ze,M _ (aM e)];refine kP (λu=>?_) (λu=>?_)
   ·refine⟨_,rfl,?_⟩
    refine d8 a q f m ?_ ?_
    ·rw[ah]
     refine cP (aU (bY _ _) ?_);rw[cH];lia
    ·rw[Kh e,aq u,lV]
   ·refine kr q f m ?_
    rw[Kh e,b3 u,bZ]
  ·rintro s H3 f m rfl
   rw[ah,List.take_length] at m;have Yk:=(l.trans A).trans f;exact k J os _ Yk ((l.trans A).free a) m j N
inductive Wb(K:af)(C:Addr)(vs:List V)(H:Hp)(Q:VK)(E:XK):Prop
 |mk (p ln lr:Addr) (ns:List Int) (rs:List R5) (i:Nat) (r:R5) (g:Nat) (z:Int):vs=[.ref p,.int i,.int g]->dc K C H p ln lr ns rs->rs[i]?=some r->([1,2,4]:List Int)[g]?=some z->Q (.bl (!decide (Builtin.bitAnd r.e z=0))) H->Wb K C vs H Q E
theorem Ma{t:Ad}(T:Txt K mg t):cE P w K mg base iS 1 t.p6 t.ux ["self","rope","group"]  (Wb K t.bu):=by
 refine T.E2.F.kq LA λH Q E A h=>?_
 ·obtain⟨p,C,o,ns,B,i,r,g,z,rfl,j,f,c,k⟩:=h
  obtain⟨⟨b,m⟩,y,G,a,n⟩:=id j;obtain⟨v,l,s⟩:=n.get (i:=i) (d:=r.D) (by rw[ak,f];rfl);obtain⟨q,e,x⟩:=Rep.zc (ns:=r.ns) s;subst e;refine⟨_,(oR (qE uf (bx aap (xT (xL (bf (pv 0) rfl) (pv 1)) aE) (xT (mU rfl T.nW (v:=.ref t.fk) rfl) (pv 2))) aE)),?_⟩
  left
  refine⟨_,rfl,p,_,b,_,_,rfl,m,T.fG,T.gO,rfl,_,rfl,o,_,_,_,rfl,rfl,bQ.of a,fD l,?_⟩;refine⟨q,_,_,_,rfl,rfl,x,rfl,?_⟩;have u:([.int 1,.int 2,.int 4]:List V)[g]?=some (.int z):=by
   have e:([.int 1,.int 2,.int 4]:List V)=([1,2,4]:List Int).map V.int:=rfl;rw[e,ak,c];rfl
  refine⟨_,rfl,_,_,_,_,rfl,rfl,T.gu H,fD u,_,_,rfl,rfl,rfl,?_⟩;have e:decide (V.int (Builtin.bitAnd r.e z)=V.int 0)=decide (Builtin.bitAnd r.e z=0):=-_
  rw[e];exact k
inductive Kl(K:af)(C:Addr)(vs:List V)(H:Hp)(Q:VK)(E:XK):Prop
 |mk (p ln lr:Addr) (ns:List Int) (rs:List R5) (i:Nat) (r:R5):vs=[.ref p,.int i]->dc K C H p ln lr ns rs->rs[i]?=some r->Q (.int r.d) H->Kl K C vs H Q E
theorem NO{t:Ad}(T:Txt K mg t):cE P w K mg base iS 2 t.sL t.xE ["town","rope"]  (Kl K t.bu):=by
 refine T.Hg.F.kq M9 λH Q E e h=>?_
 ·obtain⟨p,l,j,m,f,i,r,rfl,b,d,k⟩:=h
  obtain⟨⟨c,g⟩,_⟩:=id b;refine⟨_,(oR (xT (cM (pv 0) T.fG T.zL (Dr T) e (gz (pv 1))) aE)),?_⟩
  left
  refine⟨_,rfl,p,c,_,rfl,g,rfl,_,rfl,p,l,j,m,f,i,r,rfl,b,d,λq a=>?_⟩;have a:c7 K H q r.vs:=a.elim c7.of id;exact⟨q,_,_,_,rfl,rfl,a,rfl,k⟩
inductive Ie(K:af)(CT C NW:Addr)(vs:List V)(H:Hp)(Q:VK)(E:XK):Prop
 |mk (p tp lu ln lr:Addr) (ns:List Int) (rs:List R5) (ws:List (List Nat)) (i:Int):vs=[.ref p,.int i]->dc K CT H tp ln lr ns rs->QV C H p tp lu ws->ws.length=rs.length->(∀(j:Nat) w l H',i=(j:Int)->ws[j]?=some w->aH H H'->H l=none->H' l=some (.lst (bM w))->Q (.ref l) H')->(¬(0<=i/\i<rs.length)->E (.ref NW) none H)->Ie K CT C NW vs H Q E
theorem A0{t:Ad}(T:Txt K mg t):cE P w K mg base (EU P w) 1 t.gI t.i7 ["self","rope"]  (Ie K t.bu t.dg t.CZ):=by
 refine T.mq.F.XW AY λH Q E C h=>?_
 ·obtain⟨p,x,v,L,J,M,rs,o,i,rfl,A,B,I,k,r⟩:=h
  obtain⟨⟨q,s⟩,b,n,y,m⟩:=id B;obtain⟨⟨D,f⟩,_⟩:=id A;refine⟨_,(av (cT (lR (jS rz ug aE (pv 1) (bf (bf (pv 0) rfl) rfl))) (bL (MN rfl T.VR T.VS C.hd sf)) bB) (oR (fV gp (by rfl) T.tw boot_list (gz (xL (bf (pv 0) rfl) (pv 1)))))),?_⟩
  left
  refine⟨_,rfl,_,_,rfl,rfl,_,rfl,?_⟩;by_cases e:0<=i
  case neg =>
   rw[c6 e];exact gD ⟨_,rfl,iC (r λz=>e z.1)⟩
  rw[cy e];refine iC ?_;refine⟨_,rfl,p,_,q,_,_,rfl,s,T.jw,T.nS,rfl,x,_,D,_,_,rfl,f,T.fG,T.uG,rfl,_,_,rfl,rfl,_,rfl,?_⟩;by_cases d:i<(rs.length:Int)
  case neg =>
   rw[c6 d];exact iC (r λz=>d z.2)
  rw[cy d];refine gD ?_;obtain⟨j,rfl⟩:∃j:Nat,i=(j:Int):=⟨i.toNat,∅⟩;have G:j<o.length:=∅
  have c:o[j]?=some o[j]:=aa G;have a:b[j]?=some b[j]:=aa ∅;have g:FG (b.map V.ref) (j:Int)=some (.ref b[j]):=fD (by rw[ak,a];rfl);refine⟨_,rfl,p,_,q,_,_,rfl,s,T.jw,T.nU,rfl,_,rfl,v,_,_,_,rfl,rfl,bQ.of n,g,b[j],_,rfl,.inl (bQ.of (m j _ _ a c)),λl u=>?_⟩;exact k j _ l _ rfl c (aH.new u) u aC
inductive Rm(NG:Addr)(vs:List V)(H:Hp)(Q:VK)(E:XK):Prop
 |mk (g:Int):vs=[.int g]->(0<=g/\g<3->Q .fM H)->(¬(0<=g/\g<3)->E (.ref NG) none H)->Rm NG vs H Q E
theorem tW{t:Ad}(T:Txt K mg t):cE P w K mg base (EU P w) 1 t.lg t.pN ["group"]  (Rm t.AN):=by
 refine T.fc.F.XW G6 λH Q E d h=>?_
 ·obtain⟨g,rfl,k,c⟩:=h
  refine⟨_,(bL (cT (lR (jS rz ug aE (pv 0) (lS T.iP (mU rfl T.nW (v:=.ref t.fk) rfl)))) (bL (MN rfl T.S8 T.S9 d.hd sf)) bB)),?_⟩
  left
  refine⟨_,rfl,_,_,rfl,rfl,_,rfl,?_⟩;by_cases a:0<=g
  case neg =>
   rw[c6 a];exact gD ⟨_,rfl,iC (c λz=>a z.1)⟩
  rw[cy a];refine iC ?_;refine⟨_,_,rfl,.inr (T.gu H),_,_,rfl,rfl,_,rfl,?_⟩;by_cases b:g<3
  case neg =>
   have e:decide (g<((([.int 1,.int 2,.int 4]:List V).length:Nat):Int))=false:=c6 b;rw[e];exact iC (c λz=>b z.2)
  have e:decide (g<((([.int 1,.int 2,.int 4]:List V).length:Nat):Int))=true:=cy b;rw[e];exact gD (k ⟨a,b⟩)
inductive Wc(K:af)(CT C NG:Addr)(vs:List V)(H:Hp)(Q:VK)(E:XK):Prop
 |mk (p tp lu ln lr:Addr) (ns:List Int) (rs:List R5) (ws:List (List Nat)) (g:Int):vs=[.ref p,.int g]->dc K CT H tp ln lr ns rs->QV C H p tp lu ws->ws.length=rs.length->rs.length<=20->(∀r∈rs,1<=r.e/\r.e<=7)->(∀(gg:Nat) l H',g=(gg:Int)->gg<3->aH H H'->H l=none->H' l=some (.lst (bM (zg rs ws gg rs.length)))->Q (.ref l) H')->(¬(0<=g/\g<3)->E (.ref NG) none H)->Wc K CT C NG vs H Q E
theorem Ga{t:Ad}(T:Txt K mg t):cE P w K mg base (EU P w) 2 t.ki t.nM ["self","group"]  (Wc K t.bu t.dg t.AN):=by
 refine T.sW.F.XW yy λH Q E U h=>?_
 ·obtain⟨p,s,X,ln,lr,ns,rs,d,g,rfl,R,hW,ew,Ao,he,k,Y⟩:=h
  obtain⟨⟨y,I⟩,L,G,els,D⟩:=id hW;obtain⟨⟨W,j⟩,_⟩:=id R;refine⟨_,(av (dm (Ax (tW T) (U.mono (!_)) rfl T.fc.g T.fc.F.kp T.fc.B .nil Zl (gz (pv 1)))) (oR (gq (kO yy ["rope","group","self"] [none,some 1,some 0]) rfl (eS rfl T.gv (gz (bf (bf (pv 0) rfl) rfl))) (λ_ _ _ _=>by exact (gS 0 BS)) (λ_ _ _ _=>by exact (rE (PW.pt (KU (SJ K rfl (yL K (Ge K rfl (pv 2) rfl) (pv 0)) (λ_=>rfl)) (KS (Bw (cM (Ge K rfl (pv 2) rfl) T.fG T.E2 (Ma T) U (rA (pv 0) (pv 1))))))))) (λ_ _ _ _=>by exact (pv 0))))),?_⟩
  left
  refine⟨_,rfl,g,rfl,λhg=>?_,Y⟩;obtain⟨a,rfl⟩:∃a:Nat,g=(a:Int):=⟨g.toNat,∅⟩;have l:a<3:=∅
  obtain⟨z,O⟩:=ag5 l;refine⟨_,rfl,p,_,y,_,_,rfl,I,T.jw,T.nS,rfl,s,_,W,_,_,rfl,j,T.fG,T.uG,rfl,_,rfl,(by show -(2^62)<=((rs.length:Nat):Int);lia),(by show ((rs.length:Nat):Int)<2^62;lia),λJ c=>?_⟩;refine fX (n:=(((rs.length:Nat):Int)).toNat) (λi A _=>A=bM (zg rs d a i)) c w6 mW rfl ?_ ?_
  ·rintro i A N u b m rfl x H3 ⟨rfl,rfl⟩
   have M:i<rs.length:=by simpa using u
   have C:rs[i]?=some rs[i]:=aa M;have r:d[i]?=some d[i]:=aa ∅;have o:L[i]?=some L[i]:=aa ∅;have Z:(bM (zg rs d a i)).length<sizeLine:=by rw[ah];exact cP (by have:=Ph rs d a i;lia)
   have v:isLive rs d a i=((!(d[i]).isEmpty)&&QW (rs[i]).e a):=by unfold isLive;rw[C,r]
   refine⟨_,rfl,p,_,y,_,_,rfl,b _ _ I,T.jw,T.nU,rfl,_,rfl,X,_,_,V.ref L[i],rfl,rfl,bQ.of (b _ _ G),(by rw[fU];exact fD (by rw[ak,o];rfl)),?_⟩;refine⟨!(bM d[i]).isEmpty,?_,?_⟩
   ·exact .inl ⟨_,bQ.of (b _ _ (D i _ _ o r)),rfl⟩
   cases f:d[i] with
   |nil =>
    refine gD (kr u b m ?_);rw[zh,v,f];simp
   |cons y0 r0 =>
    refine iC ?_;refine⟨_,rfl,p,_,y,_,_,rfl,b _ _ I,T.jw,T.nS,rfl,s,W,_,rfl,b _ _ j,rfl,_,rfl,_,rfl,s,ln,lr,ns,rs,i,rs[i],a,z,(by show [V.ref s,V.int (0+(i:Int)),V.int (a:Nat)]=_;rw[fU]),R.mono b,C,O,_,rfl,?_⟩;have q:=he _ (aN C);rw[Vg q.1 q.2 O];cases S:QW rs[i].e a with
    |true =>
     refine iC ⟨_,rfl,d8 c u b m Z ?_⟩;rw[zh,v,f,S,fU];exact (lV _ _).symm
    |false =>
     refine gD (kr u b m ?_);rw[zh,v,f,S];simp
  ·rintro A N b m rfl
   exact k a J N rfl l b c (by rw[m,cZ])
inductive Ro(K:af)(vs:List V)(H:Hp)(Q:VK)(E:XK):Prop
 |mk (p C dx:Addr) (s:Int):vs=[.ref p,.int s]->H p=some (.ins C dx [])->IF K C->dB K C "sender" -> Q .fM (upd H p (.ins C dx [("sender",.int s)]))->Ro K vs H Q E
theorem wK{t:Ad}(T:Txt K mg t):cE P w K mg base iS 1 t.eE t.lF ["self","sender"]  (Ro K):=by
 refine T.qH.F.kq D4 λH Q E e h=>?_
 ·obtain⟨p,C,a,f,rfl,b,d,c,k⟩:=h
  refine⟨_,(bL (fZ (pv 0) (pv 1) rfl)),?_⟩
  left
  exact⟨_,rfl,_,rfl,p,C,a,[],rfl,b,d,c,!_,k⟩
inductive NP(vs:List V)(H:Hp)(Q:VK)(E:XK):Prop
 |mk (p:Addr) (c:Int):vs=[.ref p,.int c]->Q (.bl false) H->NP  vs H Q E
theorem Gb{t:Ad}(T:Txt K mg t):cE P w K mg base iS 1 t.j8 t.nG ["self","caller"]  NP:=by
 refine T.zJ.F.kq FN λH Q E a h=>?_
 ·obtain⟨p,c,rfl,k⟩:=h
  exact⟨_,oB,k⟩
inductive NQ(vs:List V)(H:Hp)(Q:VK)(E:XK):Prop
 |mk (p:Addr):vs=[.ref p]->Q .fM H->NQ  vs H Q E
theorem yM{t:Ad}(T:Txt K mg t):cE P w K mg base iS 1 t.gH t.nH ["self"]  NQ:=by
 refine T.nO.F.kq FO λH Q E a h=>?_
 ·obtain⟨p,rfl,k⟩:=h
  exact⟨_,(oR om),k⟩
inductive AQ(K:af)(vs:List V)(H:Hp)(Q:VK)(E:XK):Prop
 |mk (p C dx:Addr) (s:Int):vs=[.ref p]->H p=some (.ins C dx [("sender",.int s)])->IF K C->dB K C "sender" -> Q (.int s) H->AQ K vs H Q E
theorem wL{t:Ad}(T:Txt K mg t):cE P w K mg base iS 1 t.f9 t.lG ["self"]  (AQ K):=by
 refine T.lO.F.kq D5 λH Q E e h=>?_
 ·obtain⟨p,C,a,f,rfl,b,d,c,k⟩:=h
  exact⟨_,(oR (bf (pv 0) rfl)),_,rfl,p,C,a,_,_,rfl,b,d,c,rfl,k⟩
inductive Km(C:Addr)(vs:List V)(H:Hp)(Q:VK)(E:XK):Prop
 |mk (p dx:Addr) (s to:Int):vs=[.ref p,.int s,.int to]->H p=some (.ins C dx [])->(∀H',H' p=some (.ins C dx [("sender",.int s),("to",.int to)])->(∀b o,H b=some o->b≠p->H' b=some o)->Q .fM H')->Km C vs H Q E
theorem Gc{t:Ad}(T:Txt K mg t):cE P w K mg base iS 2 t.j9 t.nJ ["self","sender","to"]  (Km t.fY):=by
 refine T.zK.F.kq FP λH Q E d h=>?_
 ·obtain⟨p,a,g,i,rfl,f,k⟩:=h
  refine⟨_,(av (dm (Pj (mU rfl T.VP (v:=.ref t.iN) rfl) T.Ef (wK T) (d.mono (!_)) T.qH.B .nil mK (rA (pv 0) (pv 1)))) (bL (fZ (pv 0) (pv 2) rfl))),?_⟩
  left
  refine⟨rfl,_,rfl,_,rfl,p,t.fY,a,g,rfl,f,T.pR,T.sY,?_⟩;refine⟨_,rfl,_,rfl,p,t.fY,a,_,rfl,aC,T.pR,T.xS,(by show 1<1000;decide),?_⟩;rw[dJ (names:=["sender"]) rfl (by decide +kernel)];exact k _ aC λb o e c=>by rw[aK c,aK c];exact e
inductive NR(C:Addr)(vs:List V)(H:Hp)(Q:VK)(E:XK):Prop
 |mk (p dx:Addr) (s to c:Int):vs=[.ref p,.int c]->H p=some (.ins C dx [("sender",.int s),("to",.int to)])->Q (.bl (decide (V.int c=V.int to))) H->NR C vs H Q E
theorem Ig{t:Ad}(T:Txt K mg t):cE P w K mg base iS 1 t.kW t.pH ["self","caller"]  (NR t.fY):=by
 refine T.A8.F.kq GZ λH Q E d h=>?_
 ·obtain⟨p,a,f,e,c,rfl,b,k⟩:=h
  exact⟨_,(oR (qE vO (pv 1) (bf (pv 0) rfl))),_,rfl,_,rfl,p,_,a,_,_,rfl,b,T.pR,T.xS,rfl,rfl,k⟩
inductive NT(C:Addr)(vs:List V)(H:Hp)(Q:VK)(E:XK):Prop
 |mk (p dx:Addr) (s to:Int):vs=[.ref p]->H p=some (.ins C dx [("sender",.int s),("to",.int to)])->Q (.int to) H->NT C vs H Q E
theorem Ih{t:Ad}(T:Txt K mg t):cE P w K mg base iS 1 t.kX t.pI ["self"]  (NT t.fY):=by
 refine T.uZ.F.kq G0 λH Q E c h=>?_
 ·obtain⟨p,a,e,d,rfl,b,k⟩:=h
  exact⟨_,(oR (bf (pv 0) rfl)),_,rfl,p,_,a,_,_,rfl,b,T.pR,T.xS,rfl,k⟩
inductive Ey(C:Addr)(vs:List V)(H:Hp)(Q:VK)(E:XK):Prop
 |mk (p dx:Addr) (s to:Int):vs=[.ref p]->H p=some (.ins C dx [("sender",.int s),("to",.int to)])->Q (.int (s+to+1)) H->Ey C vs H Q E
theorem Gd{t:Ad}(T:Txt K mg t):cE P w K mg base iS 1 t.kg t.nK ["self"]  (Ey t.fY):=by
 refine T.sV.F.kq FQ λH Q E c h=>?_
 ·obtain⟨p,a,e,d,rfl,b,k⟩:=h
  exact⟨_,(oR (bx gm (bx gm (bf (pv 0) rfl) (bf (pv 0) rfl)) aE)),_,rfl,p,_,a,_,_,rfl,b,T.pR,T.sY,rfl,_,rfl,p,_,a,_,_,rfl,b,T.pR,T.xS,rfl,_,_,rfl,rfl,_,_,rfl,rfl,k⟩
inductive NU(C:Addr)(vs:List V)(H:Hp)(Q:VK)(E:XK):Prop
 |mk (p dx:Addr) (s c:Int):vs=[.ref p,.int c]->H p=some (.ins C dx [("sender",.int s)])->Q (.bl (!decide (V.int c=V.int s))) H->NU C vs H Q E
theorem Ii{t:Ad}(T:Txt K mg t):cE P w K mg base iS 1 t.kY t.pJ ["self","caller"]  (NU t.jd):=by
 refine T.A9.F.kq G1 λH Q E d h=>?_
 ·obtain⟨p,a,e,c,rfl,b,k⟩:=h
  exact⟨_,(oR (qE uf (pv 1) (bf (pv 0) rfl))),_,rfl,_,rfl,p,_,a,_,_,rfl,b,T.xU,T.nR,rfl,rfl,k⟩
inductive Rp(C:Addr)(vs:List V)(H:Hp)(Q:VK)(E:XK):Prop
 |mk (p dx:Addr):vs=[.ref p]->H p=some (.ins C dx [])->(∀d H',H d=none->qv C H' p d []->(∀b o,H b=some o->b≠p->H' b=some o)->Q .fM H')->Rp C vs H Q E
theorem Ij{t:Ad}(T:Txt K mg t):cE P w K mg base iS 1 t.kT t.pF ["self"]  (Rp t.eZ):=by
 refine T.uX.F.kq GW λH Q E i h=>?_
 ·obtain⟨p,f,rfl,c,k⟩:=h
  refine⟨_,(bL (fZ (pv 0) MD rfl)),?_⟩
  left
  refine λd a=>⟨_,rfl,p,t.eZ,f,[],rfl,?_,T.xW,T.qj,!_,?_⟩
  ·rw[aK (aQ c a)];exact c
  ·refine k d _ a ⟨⟨f,aC⟩,?_⟩ λb o e g=>?_
   ·rw[aK (aQ c a).symm];exact aC
   ·rw[aK g,aK (aQ e a)];exact e
inductive Rq(C:Addr)(vs:List V)(H:Hp)(Q:VK)(E:XK):Prop
 |mk (p d:Addr) (ts:List T3) (h c r:Int):vs=[.ref p,.int h,.int c,.int r]->qv C H p d ts->ts.length<10000->(∀H',H' d=some (.dT (putK (ts.map iT) (keyOf h c) (.int r)))->(∀b o,H b=some o->b≠d->H' b=some o)->Q .fM H')->Rq C vs H Q E
theorem Ju{t:Ad}(T:Txt K mg t):cE P w K mg base iS 1 t.nh t.rJ ["self","house","caller","rope"]  (Rq t.eZ):=by
 refine T.C0.F.kq IL λH Q E i h=>?_
 ·obtain⟨p,d,g,n,q,r,rfl,⟨⟨f,j⟩,a⟩,m,k⟩:=h
  refine⟨_,(bL (QK (MF i) (bf (pv 0) rfl) (iH (rA (pv 1) (pv 2))) (pv 3) rfl)),?_⟩
  left
  refine⟨_,rfl,_,rfl,p,t.eZ,f,_,_,rfl,j,T.xW,T.qj,rfl,_,rfl,_,rfl,e8,λb c=>?_⟩;have l:d≠b:=aQ a c;refine⟨d,_,rfl,MC.t (k:=keyOf n q) (kvs:=g.map iT) (by rw[aK l];exact a) aC (by rw[ah];exact Nat.lt_trans m (by show 10000<2^24;decide)),?_⟩;exact k _ aC λx o e nx=>by rw[aK nx,aK (aQ e c)];exact e
inductive Rr(C:Addr)(vs:List V)(H:Hp)(Q:VK)(E:XK):Prop
 |mk (p d:Addr) (ts:List T3) (h c:Int):vs=[.ref p,.int h,.int c]->qv C H p d ts->(∀H',aH H H'->Q (((uM ts h c).map V.int).getD .fM) H')->Rr C vs H Q E
theorem Jv{t:Ad}(T:Txt K mg t):cE P w K mg base iS 1 t.ni t.rK ["self","house","caller"]  (Rr t.eZ):=by
 refine T.C1.F.kq IM λH Q E i h=>?_
 ·obtain⟨p,d,m,e,f,rfl,⟨⟨g,j⟩,a⟩,k⟩:=h
  refine⟨_,(oR (UX (MF i) (bf (pv 0) rfl) (iH (rA (pv 1) (pv 2))) ⟨rfl,rfl,rfl,rfl⟩)),?_⟩
  left
  refine⟨_,rfl,p,t.eZ,g,_,_,rfl,j,T.xW,T.qj,rfl,d,rfl,.inr ⟨_,.inl a⟩,_,rfl,_,rfl,e8,λb l=>?_⟩;have c:=aH.new (o:=.tup [.int e,.int f]) l;refine⟨_,IJ.t (k:=keyOf e f) (c _ _ a) aC,?_⟩;rw[GP];exact k _ c
inductive Rt(K:af)(C:Addr)(vs:List V)(H:Hp)(Q:VK)(E:XK):Prop
 |mk (p d:Addr) (ts:List T3):vs=[.ref p]->qv C H p d ts->ts.length<2000->(∀l (qs:List Addr) (us:List T3) H',aH H H'->H l=none->H' l=some (.lst (qs.map V.ref))->gX K H' qs us->us.Perm ts->pq us->Q (.ref l) H')->Rt K C vs H Q E
theorem Jw{t:Ad}(T:Txt K mg t):cE P w K mg base iS 1 t.nv t.rL ["self"]  (Rt K t.eZ):=by
 refine T.xP.F.kq A6 λH Q E hr h=>?_
 ·obtain⟨p,d,j,rfl,⟨⟨dx,Z⟩,y⟩,h64,k⟩:=h
  refine⟨_,(oR (cB Lu T.Nj boot_sorted (gz (XN (gq (kO A6 ["noted","rope"] [none,none]) rfl (Vj (aay PySem.F.plainAttrs_dict PySem.F.slot_dict_items PySem.F.type_dict_items Vi (bf (pv 0) rfl))) (λ_ _ _ _=>by exact (QS K rfl (n:=2) rfl (vL (gS 0 vX) (vL (gS 1 vX) KW)))) (λ_ _ _ _=>by exact iD) (λ_ _ _ _=>by exact (bx (Vl K rfl) (pv 0) (iH (gz (pv 1)))))))))),?_⟩
  left
  refine⟨d,j.map iT,y,?_⟩;refine⟨_,rfl,p,t.eZ,dx,_,_,rfl,Z,T.xW,T.qj,rfl,?_⟩;refine⟨.inr (.inr (.inl ⟨rfl,.inr ⟨_,y⟩⟩)),d,_,rfl,rfl,y,λv hv=>?_⟩;have X:=aH.new (o:=GN v d) hv;have B:=aC (H:=H) (a:=v) (o:=GN v d);have A:=X _ _ y;generalize upd H v (GN v d)=H1 at X B A;refine⟨v,d,_,rfl,B,A,λo=>?_⟩;intro D f;have g:=aC (H:=H1) (a:=d) (o:=.Ct o (.dT (j.map iT)));have hH:∀{s:Hp},aH (upd H1 d (.Ct o (.dT (j.map iT)))) s->aH H (upd s d (.dT (j.map iT))):=λ{s} m b u e=>by
   by_cases z:b=d
   ·subst z
    rw[y] at e;cases e;exact aC
   ·rw[aK z]
    exact m _ _ (by rw[aK z];exact X _ _ e)
  generalize upd H1 d (.Ct o (.dT (j.map iT)))=H2 at g hH f;refine fX (n:=(j.map iT).length) (λi S s=>∃r:List Addr,S=r.map V.ref/\gX K s r (j.take i)) f (aaX g) (Vk g) ⟨[],rfl,gX.nil⟩ ?_ ?_
  ·rintro i S s W m Y ⟨r,rfl,I⟩ x H4 ⟨q,kb,ky,vv,hq,rfl,rfl,G,C⟩
   have J:i<j.length:=by rw[ah] at W;exact W
   rw[ak,aa J] at G;cases G;generalize N:j[i]=u;have hu:j[i]?=some u:=by rw[aa J,N]
   obtain⟨R,U,M⟩:=u;rw[N] at C;have u4:=aH.new (o:=.tup [.ref kb,.int M]) hq;refine⟨q,_,rfl,c7.of aC,rfl,_,_,rfl,_,_,rfl,rfl,?_⟩;refine⟨_,rfl,_,rfl,aaa,λb hb=>?_⟩;have u5:=aH.new (o:=.tup [V.int M]) hb;refine⟨kb,b,[.int R,.int U],_,rfl,rfl,c7.of (u5 _ _ (u4 _ _ C)),c7.of aC,(-_),k9,λz=>(by cases z),λ_ c hc=>?_⟩;have u6:=aH.new (o:=.tup ([V.int R,.int U]++[.int M])) hc;have s7:=u4.trans (u5.trans u6);have L:=s7 _ _ Y;have O:r.length=i:=by rw[I.1,cH];lia
   refine d8 f W (m.trans s7) L (by rw[ah];exact Lr ∅) ⟨r++[c],-_,?_⟩;rw[List.take_add_one,hu];exact gX.past L lW cQ (gX.snoc (t:=(R,U,M)) (I.mono s7) (c7.of aC))
  ·rintro S s m Y ⟨r,rfl,I⟩
   have Tt:D≠d:=(aQ g f).symm;rw[ah,List.take_length] at I;refine⟨o,m _ _ g,?_⟩;refine⟨D,r,j,rfl,bQ.of (by rw[aK Tt];exact Y),gX.past (m _ _ g) aaZ cQ I,h64,λl DF us O Z hs N=>?_⟩;exact k l DF us _ ((hH m).trans (aH.new O)) ((hH m).free O) aC (N.mono (aH.new O)) Z hs
inductive NV(C:Addr)(vs:List V)(H:Hp)(Q:VK)(E:XK):Prop
 |mk (p d:Addr) (ts:List T3):vs=[.ref p]->qv C H p d ts->(∀d' H',H d'=none->qv C H' p d' []->(∀b o,H b=some o->b≠p->H' b=some o)->Q .fM H')->NV C vs H Q E
theorem Ik{t:Ad}(T:Txt K mg t):cE P w K mg base iS 1 t.kU t.pG ["self"]  (NV t.eZ):=by
 refine T.uY.F.kq GX λH Q E m h=>?_
 ·obtain⟨p,d,l,rfl,⟨⟨f,c⟩,j⟩,k⟩:=h
  refine⟨_,(bL (fZ (pv 0) MD rfl)),?_⟩
  left
  refine λg a=>⟨_,rfl,p,t.eZ,f,[("kept",.ref d)],rfl,?_,T.xW,T.qj,(by show 1<1000;decide),?_⟩
  ·rw[aK (aQ c a)];exact c
  ·refine k g _ a ⟨⟨f,aC⟩,?_⟩ λb o e i=>?_
   ·rw[aK (aQ c a).symm];exact aC
   ·rw[aK i,aK (aQ e a)];exact e
inductive ad1(K:af)(C:Addr)(vs:List V)(H:Hp)(Q:VK)(E:XK):Prop
 |mk (bk d lo lh:Addr) (ts:List T3) (so cz:Option Int) (m5:Int) (os hs:List Int):vs=[.ref bk,FI so,.int m5,FI cz,.ref lo,.ref lh]->qv C H bk d ts->bQ K H lo (os.map V.int)->bQ K H lh (hs.map V.int)->os.length<=1000->(∀l H',aH H H'->H l=none->H' l=some (.lst ((QY ts so m5 cz os hs).map V.int))->Q (.ref l) H')->ad1 K C vs H Q E
theorem NX{t:Ad}(T:Txt K mg t):cE P w K mg base iS 2 t.sJ t.xD ["book","sought","house","came","open_here","here"]  (ad1 K t.eZ):=by
 refine T.Hf.F.kq uq λH Q E hr h=>?_
 ·obtain⟨W,d,lo,lh,N,so,f,U,os,u,rfl,X,D,hH,O,k⟩:=h
  refine⟨_,(av (cT (o6 vQ (pv 1) (pv 5) (by with_unfolding_all rfl)) (oR (jB iz)) bB) (av (sS 6 uq (vK (qT UC (pv 1) om) om (cM (pv 0) T.xW T.C1 (Jv T) hr (rA (pv 2) (pv 1))))) (av (sS 7 uq (vK (o6 vQ (pv 6) (pv 4) (by with_unfolding_all rfl)) (jB (gz (pv 6))) (pv 4))) (oR (gq (kO uq ["rope","came"] [none,some 3]) rfl (ir (pv 7)) (λ_ _ _ _=>by exact (gS 0 GY)) (λ_ _ _ _=>by exact (rE (qT uf (pv 0) (pv 1)))) (λ_ _ _ _=>by exact (pv 0))))))),?_⟩
  left
  obtain⟨dx,M⟩:=X.ob;refine⟨_,rfl,_,rfl,lh,_,rfl,.inl hH,Vp so,rY u,_,rfl,?_⟩;cases so with
  |none =>
   refine JU (by show Mn .fM _=false;exact GQ u) ?_;refine⟨_,rfl,rfl,_,rfl,adA (cy rfl) ?_⟩;refine⟨_,rfl,_,rfl,lo,_,rfl,.inl D,rfl,rY os,_,rfl,JU (by show Mn .fM _=false;exact GQ os) ?_⟩;refine⟨_,rfl,_,rfl,lo,rfl,⟨_,D⟩,λc a=>?_⟩;refine sr (iU f) a D O (λx m R S _ q A j=>?_) (λm q g=>k c m q a g);refine⟨_,rfl,_,rfl,CO x f,_,rfl,?_⟩;exact kP (λe=>⟨_,rfl,A _ (aH.refl _) e⟩) (λe=>j _ (aH.refl _) (neT e))
  |some p =>
   refine kP (λe=>?_) (λe=>?_)
   ·refine⟨bI _,λl v=>k l _ (aH.new v) v ?_⟩
    have J:p∈u:=by
     have e:Mn (.int p) (u.map V.int)=true:=e;rw[vV] at e;exact eL e
    show _=some (HO.lst (List.map V.int (if p∈u then [] else _)));rw[aq J];exact aC
   ·have J:¬p∈u:=λz=>e (by show Mn (.int p) (u.map V.int)=true;rw[vV];exact cy z)
    refine⟨_,rfl,rfl,_,rfl,JU (c6 λz=>by cases z) ?_⟩;refine⟨_,rfl,W,dx,_,rfl,M,rfl,_,rfl,_,rfl,W,d,N,U,p,rfl,X,λY B=>?_⟩;have n:∀l b,aH H b->H l=none->b l=some (.lst ((match uM N U p with
     |some r=>if r∈os then [r].filter (iU f) else os.filter (iU f)
     |none=>os.filter (iU f)).map V.int))->Q (.ref l) b:=λl b s v g=>k l b s v (by
     show _=some (HO.lst (List.map V.int (if p∈u then [] else _)));rw[b3 J];exact g)
    have i:=B.seq D;cases hk:uM N U p with
    |none =>
     rw[hk] at n;refine⟨_,rfl,_,rfl,lo,_,rfl,.inl i,rfl,rY os,_,rfl,JU (by show Mn .fM _=false;exact GQ os) ?_⟩;refine⟨_,rfl,_,rfl,lo,rfl,⟨_,i⟩,λc a=>?_⟩;refine sr (iU f) a i O (λx m R S _ q A j=>?_) (λm q g=>n c m (B.trans q) (B.free a) g);refine⟨_,rfl,_,rfl,CO x f,_,rfl,?_⟩;exact kP (λe=>⟨_,rfl,A _ (aH.refl _) e⟩) (λe=>j _ (aH.refl _) (neT e))
    |some r =>
     rw[hk] at n;dsimp only[Option.map_some,Option.getD_some];refine⟨_,rfl,_,rfl,lo,_,rfl,.inl i,rfl,rY os,_,rfl,kP (λC=>?_) (λC=>?_)⟩
     ·have y:r∈os:=by
       have C:Mn (.int r) (os.map V.int)=true:=C;rw[vV] at C;exact eL C
      have n:∀l b,aH H b->H l=none->b l=some (.lst (([r].filter (iU f)).map V.int))->Q (.ref l) b:=λl b s v g=>n l b s v (by
       show _=some (HO.lst (List.map V.int (if r∈os then _ else _)));rw[aq y];exact g)
      refine⟨_,rfl,aaa,λG L=>?_⟩;have I:=aH.new (o:=.lst [V.int r]) L;have j:bQ K (upd Y G (.lst [V.int r])) G ([r].map V.int):=bQ.of aC;generalize upd Y G (.lst [V.int r])=m at I j;refine⟨_,rfl,G,rfl,⟨_,j⟩,λc a=>?_⟩;refine sr (iU f) a j (by show 1<=1000;decide) (λx H3 R S _ Z A j=>?_) (λH3 Z g=>n c H3 (B.trans (I.trans Z)) (B.free (I.free a)) g);refine⟨_,rfl,_,rfl,CO x f,_,rfl,?_⟩;exact kP (λe=>⟨_,rfl,A _ (aH.refl _) e⟩) (λe=>j _ (aH.refl _) (neT e))
     ·have y:¬r∈os:=λz=>C (by show Mn (.int r) (os.map V.int)=true;rw[vV];exact cy z)
      have n:∀l b,aH H b->H l=none->b l=some (.lst ((os.filter (iU f)).map V.int))->Q (.ref l) b:=λl b s v g=>n l b s v (by
       show _=some (HO.lst (List.map V.int (if r∈os then _ else _)));rw[b3 y];exact g)
      refine⟨_,rfl,_,rfl,lo,rfl,⟨_,i⟩,λc a=>?_⟩;refine sr (iU f) a i O (λx m R S _ q A j=>?_) (λm q g=>n c m (B.trans q) (B.free a) g);refine⟨_,rfl,_,rfl,CO x f,_,rfl,?_⟩;exact kP (λe=>⟨_,rfl,A _ (aH.refl _) e⟩) (λe=>j _ (aH.refl _) (neT e))
inductive Kn(K:af)(C cL c1 cA:Addr)(vs:List V)(H:Hp)(Q:VK)(E:XK):Prop
 |mk (bk d la lo lh:Addr) (ts:List T3) (s to kd m5:Int) (cz:Option Int) (os hs:List Int):vs=[.ref bk,.ref la,.int m5,FI cz,.ref lo,.ref lh]->qv C H bk d ts->EX cL c1 cA H la s to kd->bQ K H lo (os.map V.int)->bQ K H lh (hs.map V.int)->os.length<=1000->hs.length<=1000->(∀p l1 l2 H',aH H H'->H p=none->H l1=none->H l2=none->l1≠l2->H' p=some (.tup [.ref l1,.ref l2])->H' l1=some (.lst ((hs.filter (DO s to kd)).map V.int))->H' l2=some (.lst ((QY ts (pC to kd) m5 cz os hs).map V.int))->Q (.ref p) H')->Kn K C cL c1 cA vs H Q E
theorem P7{t:Ad}(T:Txt K mg t):cE P w K mg base iS 3 t.we t.AE ["book","letter","house","came","open_here","here"]  (Kn K t.eZ t.iN t.fY t.jd):=by
 refine T.J1.F.kq BQ λH Q E r h=>?_
 ·obtain⟨O,d,g,lo,L,D,I,z,kd,J,C,os,G,rfl,U,hL,W,A,X,M,k⟩:=h
  refine⟨_,(av (ou (i:=6) BQ.nd rfl (Or.inl rfl) (kO BQ ["caller","letter"] [none,some 1]) rfl (ir (pv 5)) (λ_ _ _ _=>by exact (gS 0 IP)) (λ_ _ _ _=>by exact (rE (Bw (DN (cM (pv 1) T.Hr T.zJ (Gb T) r (gz (pv 0))) (DN (cM (pv 1) T.pR T.A8 (Ig T) r (gz (pv 0))) (cM (pv 1) T.xU T.A9 (Ii T) r (gz (pv 0)))))))) (λ_ _ _ _=>by exact (pv 0))) (oR (iH (rA (pv 6) (cG (NX T) r T.Hf (aN6 (pv 0) (DN (kN (pv 1) T.Hr T.nO.m (yM T) (r.mono (!_)) T.nO.B .nil mK) (DN (kN (pv 1) T.pR T.uZ.m (Ih T) (r.mono (!_)) T.uZ.B .nil mK) (kN (pv 1) T.xU T.Jd (yM T) (r.mono (!_)) T.nO.B .nil mK))) (pv 2) (pv 3) (pv 4) (pv 5))))))),?_⟩
  left
  refine⟨_,rfl,L,rfl,⟨_,A⟩,λs q=>?_⟩;refine sr (DO I z kd) q A M (λx N R S _ b Z Y=>?_) (λN b hy=>?_)
  ·have y:=hL.mono b
   cases y with
   |bare c f =>
    exact .inl ⟨_,rfl,g,c,_,rfl,f,rfl,_,rfl,g,x,rfl,_,rfl,Y _ (aH.refl _) rfl⟩
   |one c f =>
    refine .inr (.inl ⟨_,rfl,g,c,_,rfl,f,rfl,_,rfl,g,c,I,z,x,rfl,f,_,rfl,?_⟩);exact kP (λe=>⟨_,rfl,Z _ (aH.refl _) e⟩) (λe=>Y _ (aH.refl _) (neT e))
   |all c f =>
    refine .inr (.inr ⟨_,rfl,g,c,_,rfl,f,rfl,_,rfl,g,c,I,x,rfl,f,_,rfl,?_⟩);exact kP (λe=>⟨_,rfl,Z _ (aH.refl _) e⟩) (λe=>Y _ (aH.refl _) (neT e))
  ·have y:=hL.mono b
   have rest:∀j l,aH N l->N j=none->l j=some (.lst ((QY D (pC z kd) J C os G).map V.int))->2<=sizeLine/\∀p,l p=none->Q (.ref p) (upd l p (.tup [.ref s,.ref j])):=λj l n a v=>by
    refine⟨!_,λp hp=>?_⟩;have u:=aH.new (o:=.tup [V.ref s,.ref j]) hp;exact k p s j _ ((b.trans n).trans u) (b.free (n.free hp)) q (b.free a) (aQ hy a) aC (u _ _ (n _ _ hy)) (u _ _ v)
   refine⟨_,rfl,_,rfl,?_⟩;cases y with
   |bare c f =>
    exact .inl ⟨_,rfl,g,c,_,rfl,f,rfl,g,rfl,_,rfl,_,rfl,_,rfl,_,rfl,O,d,lo,L,D,none,C,J,os,G,rfl,U.mono b,b.seq W,b.seq A,X,λj l n a v=>rest j l n a v⟩
   |one c f =>
    exact .inr (.inl ⟨_,rfl,g,c,_,rfl,f,rfl,g,c,I,z,rfl,f,_,rfl,_,rfl,_,rfl,_,rfl,O,d,lo,L,D,some z,C,J,os,G,rfl,U.mono b,b.seq W,b.seq A,X,λj l n a v=>rest j l n a v⟩)
   |all c f =>
    exact .inr (.inr ⟨_,rfl,g,c,_,rfl,f,rfl,g,rfl,_,rfl,_,rfl,_,rfl,_,rfl,O,d,lo,L,D,none,C,J,os,G,rfl,U.mono b,b.seq W,b.seq A,X,λj l n a v=>rest j l n a v⟩)
inductive Ko(K:af)(vs:List V)(H:Hp)(Q:VK)(E:XK):Prop
 |mk (a:Addr) (cs:List Int) (n:Nat):vs=[.ref a,.int n]->bQ K H a (cs.map V.int)->1<=n->n<=10->(∀l H' (xs:List Int),aH H H'->H l=none->H' l=some (.lst (xs.map V.int))->xs.length=n->xs.Nodup->(∀x∈xs,0<=x)->Q (.ref l) H')->Ko K vs H Q E
theorem P8{t:Ad}(T:Txt K mg t):cE P w K mg base iS 2 t.wm t.AH ["_law_script","_law_size"]  (Ko K):=by
 refine T.J3.F.kq mh λH Q E M h=>?_
 ·obtain⟨a,cs,n,rfl,O,hn1,hn,k⟩:=h
  refine⟨_,(av (sS 2 mh (jB iz)) (av (fS (eS rfl T.gv (gz (pv 1))) (gT 3 mh) (av (sS 4 mh (cG (gw T) M T.gx (rA (pv 0) (bx gm aE (pv 3))))) (av (sS 5 mh (bx dZ (bx fh (pv 4) aE) aE)) (av (cT (qT vO (bx dZ (pv 4) aE) aE) (bL (sS 5 mh (bx dZ (bx fh (pv 4) aE) (bx Gs (bx UA aE aE) aE)))) bB) (av (Uq PassesOwn.never (o6 vQ (pv 5) (pv 2) (by with_unfolding_all rfl)) (bL (sS 5 mh (bx gm (pv 5) aE)))) (oE (yw bX b9 b6 gY (pv 2) (gz (pv 5))))))))) (av (cT (qT vO (bx dZ (bx fh (cG (gw T) M T.gx (rA (pv 0) aE)) aE) aE) aE) (oR (MZ (pv 2) (CD (ac2 aaq aE)))) bB) (oR (pv 2))))),?_⟩
  left
  refine⟨bI _,λl J=>?_⟩;refine⟨_,rfl,(n:Int),rfl,∅,∅,?_⟩;refine vN (n:=((n:Int)).toNat) (λi f m=>aH H m/\∃(d:List Int) (B G C:Option V),f=[some (.ref a),some (.int n),some (.ref l),B,G,C]/\m l=some (.lst (d.map V.int))/\d.length=i/\d.Nodup/\∀x∈d,0<=x)
   ⟨aH.new J,[],none,none,none,rfl,aC,rfl,jy,λx g=>b5 g (-_)⟩ ?_ ?_
  ·rintro i f m hi ⟨j,d,B,G,C,rfl,g,N,r,p⟩
   rw[fU];refine⟨_,rfl,_,rfl,_,_,rfl,rfl,a,cs,_,rfl,j.seq O,∅,?_⟩;dsimp only[iB];generalize cs.getD _ 0=c;refine⟨_,rfl,_,_,rfl,rfl,⟨!_,!_⟩,_,_,rfl,rfl,(by show (0:Int)<40;decide),?_⟩;dsimp only[iB];refine aaO (λf L=>L=m/\∃z:Int,0<=z/\f=[some (.ref a),some (.int n),some (.ref l),some (.int (i:Nat)),some (.int c),some (.int z)]) ?_ λnx=>?_
   case refine_2 =>
    refine⟨_,rfl,_,_,rfl,rfl,(by show (0:Int)<3;decide),rfl,_,rfl,kP (λe=>?_) (λe=>?_)⟩
    ·exact⟨_,rfl,_,_,rfl,rfl,⟨!_,!_⟩,_,_,rfl,rfl,⟨!_,!_,!_⟩,_,_,rfl,rfl,_,_,rfl,rfl,(by show (0:Int)<10^(60:Int).toNat-20;decide),nx _ _ ⟨rfl,_,bT _ (!_),rfl⟩⟩
    ·exact nx _ _ ⟨rfl,_,bT _ (!_),rfl⟩
   rintro f L ⟨rfl,z,I,rfl⟩;refine Uy (λf A=>A=L/\∃x:Int,0<=x/\f=[some (.ref a),some (.int n),some (.ref l),some (.int (i:Nat)),some (.int c),some (.int x)])
    (λ(f:L2.St) (_:Hp)=>match f[5]? with|some (some (V.int x))=>above d x|_=>0) ⟨rfl,_,I,rfl⟩ ?_ ?_
   ·rintro f A ⟨rfl,x,s,rfl⟩
    refine⟨_,rfl,_,rfl,l,_,rfl,.inl (bQ.of g),rfl,rY d,_,rfl,?_⟩
    try dsimp only
    rw[b3 aJ,vV];refine kP (λc=>?_) (λc=>?_)
    ·have D:x∈d:=eL c
     exact⟨_,rfl,_,_,rfl,rfl,⟨rfl,x+1,∅,rfl⟩,Vb D⟩
    ·have D:x∉d:=λz=>c (cy z)
     refine⟨_,rfl,.inl ⟨rfl,_,bQ.of g⟩,_,rfl,l,_,_,rfl,rfl,g,?_,?_⟩
     ·rw[ah];exact cP ∅
     ·refine⟨j.out J,d++[x],_,_,_,rfl,?_,?_,Gr.BC r D,?_⟩
      ·rw[aC,aS];rfl
      ·simp[N]
      ·intro y X
       rcases aR.mp X with z|z
       ·exact p y z
       ·have:y=x:=by simpa using z
        rw[this];exact s
   ·rintro f A Q1 Q2 hq ⟨v,e1,u,Y,q,S,e3,W,R,U,b,e7,Z⟩
    exact⟨v,e1,u,Y,q,S,e3,W,R,U,b,e7,hq _ _ Z⟩
  ·rintro f m ⟨j,d,B,G,C,rfl,g,N,r,p⟩
   refine⟨_,rfl,a,cs,1,rfl,j.seq O,!_,_,_,rfl,rfl,⟨!_,!_⟩,_,_,rfl,rfl,(by show (0:Int)<2;decide),rfl,_,rfl,kP (λe=>?_) (λe=>?_)⟩
   ·refine⟨_,rfl,_,rfl,_,rfl,l,_,rfl,rfl,bQ.of g,λl2 o=>?_⟩
    rw[<- List.map_reverse];exact k l2 _ d.reverse (j.trans (aH.new o)) (j.free o) aC (by rw[List.length_reverse];lia) ((List.reverse_perm d).nodup_iff.mpr r) λx g=>p x (List.mem_reverse.mp g)
   ·exact⟨_,rfl,k l m d j J g ∅ r p⟩
theorem Yl{x:Int}{g:Nat}(e:1<=x)(c:x<=7)(d:g<3):1<=Builtin.bitOr x (1*2^((g:Int)).toNat)/\Builtin.bitOr x (1*2^((g:Int)).toNat)<=7:=by
 have b:x=1∨x=2∨x=3∨x=4∨x=5∨x=6∨x=7:=∅
 have a:g=0∨g=1∨g=2:=∅
 rcases a with rfl|rfl|rfl <;> rcases b with rfl|rfl|rfl|rfl|rfl|rfl|rfl <;> decide +kernel
def ZG(K:af)(H:Hp)(l:Addr)(rs:List R5):Prop:=∃qs:List Addr,H l=some (.lst (qs.map V.ref))/\eO K H qs (rs.map R5.vs)
theorem eO.snoc{K:af}{H:Hp}{qs:List Addr}{xs:List (List V)}{q:Addr}{x:List V}(h:eO K H qs xs)(d:c7 K H q x):eO K H (qs++[q]) (xs++[x]):=by
 refine⟨by rw[aA,aA,h.len];rfl,λi a u b c=>?_⟩;by_cases z:i<qs.length
 ·rw[aY z] at b
  rw[aY (h.len▸z)] at c;exact h.at' i a u b c
 ·have e:i=qs.length:=by
   have:=(ai.mp b).1
   rw[aA] at this
   have:i<qs.length+1:=this
   lia
  subst e;rw[mT] at b;rw[h.len,mT] at c;cases b;cases c;exact d
inductive Kq(K:af)(vs:List V)(H:Hp)(Q:VK)(E:XK):Prop
 |mk (a:Addr) (cs:List Int) (n g:Nat):vs=[.ref a,.int n,.int g]->bQ K H a (cs.map V.int)->1<=n->n<=10->g<3->(∀l H' (rs:List R5),aH H H'->H l=none->ZG K H' l rs->rs.length<=14->(∀r∈rs,r.Ok n)->Q (.ref l) H')->Kq K vs H Q E
theorem P9{t:Ad}(T:Txt K mg t):cE P w K mg base iS 2 t.wo t.AI ["_law_script","_law_size","_law_group"]  (Kq K):=by
 refine T.J4.F.kq dM λH Q E hr h=>?_
 ·obtain⟨a,cs,n,g,rfl,hS,hn1,hn,hg,k⟩:=h
  refine⟨_,(av (sS 3 dM (jB iz)) (av (sS 4 dM aE) (av (cT (qT Qv (pv 1) aE) (bL (sS 4 dM (bx gm (bx Gs (pv 1) aE) (bx dZ (bx fh (cG (gw T) hr T.gx (rA (pv 0) aE)) aE) aE)))) bB) (av (fS (eS rfl T.gv (gz (pv 4))) (gT 5 dM) (av (sS 6 dM (cG (gw T) hr T.gx (rA (pv 0) (bx gm aE (pv 5))))) (av (sS 7 dM (bx dZ (bx fh (pv 6) aE) (pv 1))) (av (sS 8 dM (bx dZ (bx gm (bx gm (pv 7) aE) (bx dZ (bx fh (pv 6) aE) (bx Gs (pv 1) aE))) (pv 1))) (av (cT (qT ug (pv 5) (bx Gs (pv 1) aE)) (av (sS 7 dM (bx gm (pv 5) aE)) (bL (sS 8 dM (bx dZ (bx fh (pv 6) aE) (bx gm (pv 5) aE))))) bB) (av (sS 9 dM (bx fh (pv 6) aE)) (av (sS 10 dM (bx gm aE (bx dZ (pv 9) aE))) (av (cT (qT vO (bx dZ (bx fh (pv 9) aE) aE) aE) (bL (sS 10 dM (bx gm aE (bx dZ (bx fh (pv 9) aE) (bx Gs (bx UA aE aE) aE))))) bB) (av (sS 11 dM (bx gm aE (bx dZ (bx fh (pv 9) aE) aE))) (av (cT (qT Qv (bx dZ (bx fh (pv 9) aE) aE) aE) (bL (sS 11 dM (bx ac5 (pv 11) (bx aao aE (pv 2))))) bB) (av (cT (qT vO (bx dZ (pv 6) aE) aE) (bL (aak (i:=7) (j:=8) rfl dM.nd rfl rfl (!_) rfl rfl (rA (pv 8) (pv 7)) rfl)) bB) (oE (yw bX b9 b6 gY (pv 3) (gz (iH (aN5 (pv 7) (pv 8) (pv 10) (bx gm aE (bx dZ (bx fh (pv 9) aE) aE)) (pv 11))))))))))))))))) (oR (pv 3)))))),?_⟩
  left
  refine⟨bI _,λl hl=>?_⟩;have U:=aH.new (o:=.lst []) hl;have O6:=aC (H:=H) (a:=l) (o:=.lst []);generalize upd H l (.lst [])=H0 at U O6;dsimp only[iB];refine b4 λN hN=>?_;refine hN [some (.ref a),some (.int n),some (.int g),some (.ref l),some (.int 0),none,none,none,none,none,none,none] H0 ?_;refine um (λd H1=>H1=H0/\∃m:Nat,m<=14/\(0<m->2<=n)/\d=[some (.ref a),some (.int n),some (.int g),some (.ref l),some (.int (m:Nat)),none,none,none,none,none,none,none]) ?_ λI nx=>?_
  case refine_2 =>
   refine⟨_,rfl,_,_,rfl,rfl,_,rfl,kP (λe=>?_) (λe=>?_)⟩
   ·have h2:(1:Int)<n:=eL e
    refine⟨_,rfl,_,_,rfl,rfl,_,rfl,a,cs,1,rfl,U.seq hS,!_,_,_,rfl,rfl,⟨!_,!_⟩,_,_,rfl,rfl,(by show (0:Int)<6;decide),_,_,rfl,rfl,nx _ _ ?_⟩;generalize cs.getD _ 0/3=y;have q1:=bT y (show (6:Int)≠0 by decide);have q2:=cu y (show (0:Int)<6 by decide);refine⟨rfl,((n:Int)-1+y%6).toNat,∅,λ_=>∅,?_⟩;rw[Int.toNat_of_nonneg ∅];rfl
   ·exact nx _ _ ⟨rfl,0,∅,λz=>b5 z (!_),rfl⟩
  rintro d H1 ⟨rfl,m,hm,h2,rfl⟩;refine⟨_,rfl,(m:Int),rfl,∅,∅,?_⟩;refine GK (n:=((m:Int)).toNat) (λi d v=>aH H v/\∃(rs:List R5) (v5 Z X v8 J p f:Option V),d=[some (.ref a),some (.int n),some (.int g),some (.ref l),some (.int (m:Nat)),v5,Z,X,v8,J,p,f]/\ZG K v l rs/\rs.length=i/\∀r∈rs,r.Ok n)
   ⟨U,[],_,_,_,_,_,_,_,rfl,⟨[],O6,⟨rfl,λi q x e=>by cases e⟩⟩,rfl,λr u=>b5 u (-_)⟩ ?_ ?_
  ·rintro i d v Nf OJ hi ⟨C,rs,v5,Z,X,v8,J,p,f,rfl,⟨qs,A,A1⟩,ei,ok⟩
   rw[fU];have hi':i<m:=by simpa using hi
   have h2:2<=n:=h2 ∅;refine b4 λNx dj=>?_;refine⟨_,rfl,_,rfl,_,_,rfl,rfl,a,cs,_,rfl,C.seq hS,∅,?_⟩;dsimp only[iB];generalize cs.getD _ 0=c;refine dj _ _ ?_;obtain⟨o1,o2,o3,o4,o5⟩:=XC (n:=n) (x:=c/2) (y:=c/13) ∅;refine⟨_,rfl,_,_,rfl,rfl,⟨!_,!_⟩,_,rfl,_,_,rfl,rfl,(by show (0:Int)<n;lia),?_⟩;refine⟨_,rfl,_,_,rfl,rfl,_,rfl,_,_,rfl,rfl,⟨!_,!_⟩,_,rfl,_,_,rfl,rfl,_,_,rfl,rfl,(by show 0<(n:Int)-1;lia),_,_,rfl,rfl,_,rfl,_,_,rfl,rfl,(by show (0:Int)<n;lia),?_⟩;dsimp only[iB];refine um (λd H3=>H3=v/\∃x y:Int,(0<=x/\x<n/\0<=y/\y<n/\x≠y)/\d=[some (.ref a),some (.int n),some (.int g),some (.ref l),some (.int (m:Nat)),some (.int (i:Nat)),some (.int c),some (.int x),some (.int y),J,p,f]) ?_ λI nx=>?_
   case refine_2 =>
    refine⟨_,rfl,_,rfl,_,_,rfl,rfl,_,_,rfl,rfl,_,rfl,kP (λe=>?_) (λe=>?_)⟩
    ·have e:(i:Int)<(n:Int)-1:=eL e
     refine⟨_,rfl,_,_,rfl,rfl,?_⟩;refine⟨_,rfl,_,_,rfl,rfl,⟨!_,!_⟩,_,rfl,_,_,rfl,rfl,_,_,rfl,rfl,(by show (0:Int)<(i:Int)+1;lia),nx _ _ ⟨rfl,(i:Int)+1,c/2%((i:Int)+1),?_,rfl⟩⟩;have q1:=bT (c/2) (show (i:Int)+1≠0 by lia);have q2:=cu (c/2) (show (0:Int)<(i:Int)+1 by lia);lia
    ·exact nx _ _ ⟨rfl,_,_,⟨o1,o2,o3,o4,o5⟩,rfl⟩
   rintro d H3 ⟨rfl,x,y,⟨L,G,R,M,O⟩,rfl⟩;refine⟨_,rfl,_,_,rfl,rfl,⟨!_,!_⟩,?_⟩;dsimp only[iB];generalize c/97=rt;refine⟨_,rfl,_,_,rfl,rfl,(by show (0:Int)<3;decide),_,_,rfl,rfl,?_⟩;dsimp only[iB];refine um (λd S=>S=H3/\∃z:Int,1<=z/\d=[some (.ref a),some (.int n),some (.int g),some (.ref l),some (.int (m:Nat)),some (.int (i:Nat)),some (.int c),some (.int x),some (.int y),some (.int rt),some (.int z),f]) ?_ λI nx=>?_
   case refine_2 =>
    refine⟨_,rfl,_,_,rfl,rfl,⟨!_,!_⟩,_,_,rfl,rfl,(by show (0:Int)<3;decide),rfl,_,rfl,kP (λe=>?_) (λe=>?_)⟩
    ·refine⟨_,rfl,_,_,rfl,rfl,⟨!_,!_⟩,_,_,rfl,rfl,⟨!_,!_,!_⟩,_,_,rfl,rfl,_,_,rfl,rfl,(by show (0:Int)<10^(60:Int).toNat-1;decide),_,_,rfl,rfl,nx _ _ ⟨rfl,_,?_,rfl⟩⟩
     have:=bT (rt/9) (show (10:Int)^(60:Int).toNat-1≠0 by decide)
     lia
    ·refine nx _ _ ⟨rfl,_,?_,rfl⟩
     have:=bT rt (show (3:Int)≠0 by decide)
     lia
   rintro d S ⟨rfl,z,hz,rfl⟩;refine⟨_,rfl,_,_,rfl,rfl,⟨!_,!_⟩,_,_,rfl,rfl,(by show (0:Int)<7;decide),_,_,rfl,rfl,?_⟩;dsimp only[iB];refine um (λd H5=>H5=S/\∃e:Int,1<=e/\e<=7/\d=[some (.ref a),some (.int n),some (.int g),some (.ref l),some (.int (m:Nat)),some (.int (i:Nat)),some (.int c),some (.int x),some (.int y),some (.int rt),some (.int z),some (.int e)]) ?_ λI nx=>?_
   case refine_2 =>
    have q1:=bT (rt/11) (show (7:Int)≠0 by decide);have q2:=cu (rt/11) (show (0:Int)<7 by decide);refine⟨_,rfl,_,_,rfl,rfl,⟨!_,!_⟩,_,_,rfl,rfl,(by show (0:Int)<4;decide),_,_,rfl,rfl,_,rfl,kP (λe=>?_) (λe=>?_)⟩
    ·have b:=Yl (x:=1+rt/11%7) ∅ ∅ hg
     exact⟨_,rfl,_,rfl,_,_,rfl,rfl,⟨∅,∅,!_⟩,_,_,rfl,rfl,nx _ _ ⟨rfl,_,b.1,b.2,rfl⟩⟩
    ·exact nx _ _ ⟨rfl,_,∅,∅,rfl⟩
   rintro d H5 ⟨rfl,le,Y,W,rfl⟩;refine um (λd D=>aH H5 D/\∃x y:Int,(0<=x/\x<n/\0<=y/\y<n/\x≠y)/\d=[some (.ref a),some (.int n),some (.int g),some (.ref l),some (.int (m:Nat)),some (.int (i:Nat)),some (.int c),some (.int x),some (.int y),some (.int rt),some (.int z),some (.int le)]) ?_ λI nx=>?_
   case refine_2 =>
    refine⟨_,rfl,_,_,rfl,rfl,(by show (0:Int)<2;decide),rfl,_,rfl,kP (λe=>?_) (λe=>?_)⟩
    ·exact⟨_,rfl,_,rfl,_,_,rfl,nx _ _ ⟨aH.refl _,y,x,⟨R,M,L,G,bN O⟩,rfl⟩⟩
    ·exact nx _ _ ⟨aH.refl _,x,y,⟨L,G,R,M,O⟩,rfl⟩
   rintro d D ⟨s6,x,y,⟨L,G,R,M,O⟩,rfl⟩;have hl6:=s6 _ _ A;refine⟨_,rfl,.inl ⟨rfl,_,bQ.of hl6⟩,_,rfl,_,rfl,_,rfl,_,rfl,_,_,rfl,rfl,⟨!_,!_⟩,_,_,rfl,rfl,(by show (0:Int)<4;decide),_,_,rfl,rfl,_,rfl,aa4,λq hq=>?_⟩;have u7:=aH.new (o:=.tup [V.int x,.int y,.int z,.int (1+rt/5%4),.int le]) hq;have B:=aC (H:=D) (a:=q) (o:=.tup [V.int x,.int y,.int z,.int (1+rt/5%4),.int le]);generalize upd D q (.tup [V.int x,.int y,.int z,.int (1+rt/5%4),.int le])=H7 at u7 B;have s:=s6.trans u7;have WT:=s _ _ A;have ahq:=A1.mono λb x=>s.eK;have q1:=bT (rt/5) (show (4:Int)≠0 by decide);have q2:=cu (rt/5) (show (0:Int)<4 by decide);refine⟨l,_,_,rfl,rfl,WT,(by rw[ah,A1.len,ah];exact cP ∅),?_⟩;refine OJ _ _ ⟨(C.trans s).out hl,rs++[⟨x,y,z,1+rt/5%4,le⟩],_,_,_,_,_,_,_,rfl,⟨qs++[q],?_,?_⟩,by rw[aA,ei];rfl,λr u=>?_⟩
   ·rw[aC,aS];rfl
   ·rw[aS]
    exact (eO.snoc ahq (c7.of B)).mono λb x=>c7.past WT lW cQ
   ·rcases aR.mp u with w'|w'
    ·exact ok r w'
    ·rw[aT.mp w']
     exact⟨L,G,R,M,O,hz,by show 1<=1+rt/5%4;lia,by show 1+rt/5%4<=4;lia,Y,W⟩
  ·rintro d v ⟨C,rs,v5,Z,X,v8,J,p,f,rfl,hR,ei,ok⟩
   exact⟨_,rfl,k l v rs C hl hR (by rw[ei];simpa using hm) ok⟩
theorem Kr{K:af}{H:Hp}{l q:Addr}{qs:List Addr}{cl:List (Nat×Nat)}{pl a:Nat}(hl:H l=some (.lst (qs.map V.ref)))(d:eO K H qs (cl.map λc=>[.int c.1,.int c.2]))(e:H q=some (.tup [V.int pl,.int a])) :
 (upd H l (.lst (qs.map V.ref++[.ref q]))) l=some (.lst ((qs++[q]).map V.ref))/\eO K (upd H l (.lst (qs.map V.ref++[.ref q]))) (qs++[q]) ((cl++[(pl,a)]).map λc=>[.int c.1,.int c.2]):=by
 refine⟨by rw[aC,aS];rfl,?_⟩;rw[aS];exact (eO.snoc d (c7.of e)).mono λb x=>c7.past hl lW cQ
inductive Fy(K:af)(vs:List V)(H:Hp)(Q:VK)(E:XK):Prop
 |mk (a:Addr) (cs:List Int) (n g:Nat):vs=[.ref a,.int n,.int g]->bQ K H a (cs.map V.int)->1<=n->n<=10->g<3->(∀l (qs:List Addr) H' (cl:List (Nat×Nat)),aH H H'->H l=none->H' l=some (.lst (qs.map V.ref))->eO K H' qs (cl.map λc=>[.int c.1,.int c.2])->1<=cl.length->cl.length<=20->(∀c∈cl,c.1<n/\c.2<3)->Q (.ref l) H')->Fy K vs H Q E
theorem Mb{t:Ad}(T:Txt K mg t):cE P w K mg base iS 2 t.qh t.uE ["_law_script","_law_size","_law_group"]  (Fy K):=by
 refine T.E7.F.kq kB λH Q E X h=>?_
 ·obtain⟨a,cs,n,g,rfl,Z,hn1,hn,hg,k⟩:=h
  refine⟨_,(av (sS 3 kB (jB iz)) (av (sS 4 kB (xL (jB (IB aE aE aE)) (bx dZ (bx fh (cG (gw T) X T.gx (rA (pv 0) aE)) aE) aE))) (av (fS (eS rfl T.gv (gz (bx gm aE (bx dZ (bx fh (cG (gw T) X T.gx (rA (pv 0) aE)) aE) (pv 4))))) (gT 5 kB) (av (sS 6 kB (bx fh (cG (gw T) X T.gx (rA (pv 0) (bx gm aE (bx dZ (pv 5) aE)))) (bx gm aE (bx By aE (bx fh (pv 5) aE))))) (av (sS 7 kB (bx dZ (pv 6) (pv 1))) (bL (cT (qT vO (bx dZ (bx fh (pv 6) aE) aE) aE) (oE (yw bX b9 b6 gY (pv 3) (gz (iH (rA (pv 7) (bx dZ (bx gm (bx gm (pv 2) aE) (bx dZ (bx fh (pv 6) aE) aE)) aE)))))) (oE (yw bX b9 b6 gY (pv 3) (gz (iH (rA (pv 7) (pv 2))))))))))) (oR (pv 3))))),?_⟩
  left
  refine⟨bI _,λl J=>?_⟩;have s0:=aH.new (o:=.lst []) J;have O6:=aC (H:=H) (a:=l) (o:=.lst []);generalize upd H l (.lst [])=H0 at s0 O6;refine⟨k9,λl1 h1=>?_⟩;have R:=aH.new (o:=.lst [V.int 6,V.int 6,V.int 20]) h1;have D:=aC (H:=H0) (a:=l1) (o:=.lst [V.int 6,V.int 6,V.int 20]);have A:=R _ _ O6;have L:=s0.trans R;generalize upd H0 l1 (.lst [V.int 6,V.int 6,V.int 20])=H1 at R D A L;refine⟨_,rfl,a,cs,1,rfl,L.seq Z,!_,_,_,rfl,rfl,⟨!_,!_⟩,_,_,rfl,rfl,(by show (0:Int)<3;decide),?_⟩;obtain⟨u,hmo,S⟩:=ag4 (x:=6) (y:=6) (z:=20) (i:=cs.getD (1:Int).toNat 0/7%3) 1 20 (!_) (!_) (!_) (bT _ (!_)) (cu _ (!_));refine⟨l1,_,_,_,rfl,rfl,bQ.of D,S,?_⟩;dsimp only[iB];refine⟨_,rfl,a,cs,1,rfl,L.seq Z,!_,_,_,rfl,rfl,⟨!_,!_⟩,_,rfl,_,_,rfl,rfl,(by show 0<u;lia),_,_,rfl,rfl,?_⟩;have q1:=bT (cs.getD (1:Int).toNat 0/36) (show u≠0 by lia);have q2:=cu (cs.getD (1:Int).toNat 0/36) (show 0<u by lia);obtain⟨m,em⟩:∃m:Nat,1+cs.getD (1:Int).toNat 0/36%u=(m:Int):=⟨(1+cs.getD (1:Int).toNat 0/36%u).toNat,∅⟩;have hm1:1<=m:=∅
  have al6:m<=20:=∅
  refine⟨(m:Int),(by rw[<- em]),∅,∅,?_⟩;refine GK (n:=m) (λi σ p=>aH H p/\∃(G:List Addr) (cl:List (Nat×Nat)) (v5 W U:Option V),σ=[some (.ref a),some (.int n),some (.int g),some (.ref l),some (.int u),v5,W,U]/\p l=some (.lst (G.map V.ref))/\eO K p G (cl.map λc=>[.int c.1,.int c.2])/\cl.length=i/\∀c∈cl,c.1<n/\c.2<3)
   ⟨L,[],[],_,_,_,rfl,A,⟨rfl,λi q x e=>by cases e⟩,rfl,λc hc=>b5 hc (-_)⟩ ?_ ?_
  ·rintro i σ p Nf OJ hi ⟨B,G,cl,v5,W,U,rfl,f,v,Y,N⟩
   rw[fU];have e6:=bT (i:Int) (show (6:Int)≠0 by decide);have d6:0<=(i:Int)/6:=Int.ediv_nonneg ∅ (!_);have d6':(i:Int)/6<=20:=∅
   refine⟨_,rfl,_,rfl,_,_,rfl,rfl,(by show (0:Int)<6;decide),_,_,rfl,rfl,a,cs,_,rfl,B.seq Z,∅,_,rfl,_,_,rfl,rfl,⟨!_,!_⟩,_,_,rfl,rfl,.inl ⟨!_,!_⟩,_,_,rfl,rfl,_,_,rfl,rfl,⟨∅,∅⟩,?_⟩;dsimp only[iB];generalize cs.getD _ 0/(1+7*((i:Int)/6))=c;refine⟨_,rfl,_,rfl,_,_,rfl,rfl,(by show (0:Int)<n;lia),?_⟩;dsimp only[iB];have I:=bT c (show (n:Int)≠0 by lia);have M:=cu c (show (0:Int)<n by lia);obtain⟨r,O⟩:∃r:Nat,c%(n:Int)=(r:Int):=⟨(c%(n:Int)).toNat,∅⟩;rw[O];have C:r<n:=∅
   refine⟨_,rfl,_,_,rfl,rfl,⟨!_,!_⟩,_,_,rfl,rfl,(by show (0:Int)<4;decide),rfl,_,rfl,kP (λe=>?_) (λe=>?_)⟩
   ·have g1:=bT ((g:Int)+1+c/44%2) (show (3:Int)≠0 by decide)
    have g2:=cu ((g:Int)+1+c/44%2) (show (0:Int)<3 by decide);obtain⟨gr,egr⟩:∃gr:Nat,((g:Int)+1+c/44%2)%3=(gr:Int):=⟨(((g:Int)+1+c/44%2)%3).toNat,∅⟩;refine⟨_,rfl,.inl ⟨rfl,_,bQ.of f⟩,_,rfl,_,rfl,_,_,rfl,rfl,_,rfl,_,_,rfl,rfl,⟨!_,!_⟩,_,_,rfl,rfl,(by show (0:Int)<2;decide),_,_,rfl,rfl,_,_,rfl,rfl,(by show (0:Int)<3;decide),e8,λq hq=>?_⟩;have s:=aH.new (o:=.tup [V.int r,.int (((g:Int)+1+c/44%2)%3)]) hq;have d:=aC (H:=p) (a:=q) (o:=.tup [V.int r,.int (((g:Int)+1+c/44%2)%3)]);generalize upd p q (.tup [V.int r,.int (((g:Int)+1+c/44%2)%3)])=H3 at s d;rw[egr] at d;have j:=s _ _ f;obtain⟨I,M⟩:=Kr (cl:=cl) j (v.mono λb x=>s.eK) d;refine⟨l,_,_,rfl,rfl,j,(by rw[ah,v.len,ah];exact cP ∅),OJ _ _ ⟨(B.trans s).out J,_,_,_,_,_,rfl,I,M,by rw[aA,Y];rfl,λz hz=>?_⟩⟩;rcases aR.mp hz with w'|w'
    ·exact N z w'
    ·rw[aT.mp w']
     exact⟨C,by show gr<3;lia⟩
   ·refine⟨_,rfl,.inl ⟨rfl,_,bQ.of f⟩,_,rfl,_,rfl,e8,λq hq=>?_⟩
    have s:=aH.new (o:=.tup [V.int r,.int g]) hq;have d:=aC (H:=p) (a:=q) (o:=.tup [V.int r,.int g]);generalize upd p q (.tup [V.int r,.int g])=H3 at s d;have j:=s _ _ f;obtain⟨I,M⟩:=Kr (cl:=cl) j (v.mono λb x=>s.eK) d;refine⟨l,_,_,rfl,rfl,j,(by rw[ah,v.len,ah];exact cP ∅),OJ _ _ ⟨(B.trans s).out J,_,_,_,_,_,rfl,I,M,by rw[aA,Y];rfl,λz hz=>?_⟩⟩;rcases aR.mp hz with w'|w'
    ·exact N z w'
    ·rw[aT.mp w']
     exact⟨C,hg⟩
  ·rintro σ p ⟨B,G,cl,v5,W,U,rfl,f,v,Y,N⟩
   exact⟨_,rfl,k l G p cl B J f v ∅ ∅ N⟩
inductive Il(K:af)(CT C:Addr)(vs:List V)(H:Hp)(Q:VK)(E:XK):Prop
 |mk (p dx tp ln lr:Addr) (ns:List Int) (rs:List R5):vs=[.ref p,.ref tp]->H p=some (.ins C dx [])->dc K CT H tp ln lr ns rs->rs.length<=20->(∀r∈rs,1<=r.d/\r.d<=4)->(∀lu (ls:List Addr) H',H lu=none->(∀l∈ls,H l=none)->lu∉ls->ls.Nodup->ls.length=rs.length->H' p=some (.ins C dx [("town",.ref tp),("upright",.ref lu)])->H' lu=some (.lst (ls.map V.ref))->(∀(j:Nat) l r,ls[j]?=some l->rs[j]?=some r->H' l=some (.lst (bM (az r.d.toNat))))->(∀b o,H b=some o->b≠p->H' b=some o)->Q .fM H')->Il K CT C vs H Q E
theorem Du{t:Ad}(T:Txt K mg t):cE P w K mg base iS 3 t.iK t.kC ["self","town"]  (Il K t.bu t.dg):=by
 refine T.wB.F.kq ur λH Q E hr h=>?_
 ·obtain⟨p,R,A,ln,lr,ns,rs,rfl,hp,hT,Ao,hw,k⟩:=h
  refine⟨_,(av (fZ (pv 0) (pv 1) rfl) (bL (fZ (pv 0) (gq (kO ur ["rope","town"] [none,some 1]) rfl (eS rfl T.gv (gz (bf (pv 1) rfl))) (λ_ _ _ _=>by exact (gS 0 zE)) (λ_ _ _ _=>by exact iD) (λ_ _ _ _=>by exact (fV (GD rfl) (by rfl) T.tw boot_list (gz (fV ES (by rfl) T.gv boot_range (gz (cG (NO T) hr T.Hg (rA (pv 1) (pv 0))))))))) rfl))),?_⟩
  left
  obtain⟨⟨dt,htp⟩,_⟩:=id hT;have ZH:A≠p:=vJ htp hp λz=>by have:=(HO.ins.inj z).2.2;cases this
  refine⟨_,rfl,_,rfl,p,_,R,[],rfl,hp,T.jw,T.nS,!_,?_⟩;rw[dJ (names:=[]) rfl rfl];generalize C:upd H p (.ins t.dg R ([]++[(Str.ofString "town",V.ref A)]))=H1;have k1:∀b o,H b=some o->b≠p->H1 b=some o:=λb o e W=>by rw[<- C,aK W];exact e
  have v:H1 p=some (.ins t.dg R [(Str.ofString "town",V.ref A)]):=by rw[<- C];exact aC
  have D:=hT.but k1 hp ZH;have f1:∀{l:Addr},H1 l=none->H l=none:=λ{l} e=>by
   cases q:H l with
   |none=>rfl
   |some o =>
    by_cases z:l=p
    ·rw[z,v] at e;cases e
    ·have:=k1 _ _ q z
     rw[e] at this;cases this
  obtain⟨⟨dt,ahr⟩,_⟩:=id D;refine⟨_,rfl,A,_,dt,_,_,rfl,ahr,T.fG,T.uG,rfl,_,rfl,(by show -(2^62)<=((rs.length:Nat):Int);lia),(by show ((rs.length:Nat):Int)<2^62;lia),λc a=>?_⟩;refine fX (n:=(((rs.length:Nat):Int)).toNat) (λi ys N=>∃f:List Addr,ys=f.map V.ref/\f.length=i/\f.Nodup/\(∀l∈f,H l=none/\N l≠none)/\∀(j:Nat) l r,f[j]?=some l->rs[j]?=some r->N l=some (.lst (bM (az r.d.toNat)))/\l≠c) a w6 mW ⟨[],rfl,rfl,jy,λl s=>(by cases s),λj l r e=>by simp at e⟩ ?_ ?_
  ·rintro i ys N S y U ⟨f,rfl,u,nd,m,g⟩ x H3 ⟨rfl,rfl⟩
   have S:i<rs.length:=by simpa using S
   have Y:rs[i]?=some rs[i]:=aa S;have wi:=hw _ (aN Y);obtain⟨d,ed⟩:∃d:Nat,rs[i].d=(d:Int):=⟨rs[i].d.toNat,∅⟩;refine⟨_,rfl,_,rfl,A,ln,lr,ns,rs,i,rs[i],(by show [V.ref A,V.int (0+(i:Int))]=_;rw[fU]),D.mono y,Y,?_⟩;refine⟨rs[i].d,rfl,λq hq=>?_⟩;have O:=aH.new (o:=.OL 0 rs[i].d) hq;refine⟨q,d,rfl,(by rw[aC,ed]),∅,λl s=>?_⟩;have O6:H l=none:=f1 ((y.trans O).free s);have nl:l∉f:=λz=>(m l z).2 (O.free s);have L:=O.trans (aH.new (o:=.lst ((az d).map λk=>V.int (k:Nat))) s);have V5:=L _ _ U;have Ym:(upd (upd H3 q (.OL 0 rs[i].d)) l (.lst ((az d).map λk=>V.int (k:Nat)))) l=some (.lst (bM (az d))):=aC;have ZI:l≠c:=(aQ (O _ _ U) s).symm;generalize upd (upd H3 q (.OL 0 rs[i].d)) l (.lst ((az d).map λk=>V.int (k:Nat)))=H4 at L V5 Ym;refine d8 a (by simpa using S) (y.trans L) V5 (by rw[ah,u];exact cP ∅) ⟨f++[l],by rw[aS];rfl,by rw[aA,u];rfl,Gr.BC nd nl,λJ X=>?_,λj J r I G=>?_⟩
   ·rcases aR.mp X with z|z
    ·obtain⟨z1,M⟩:=m J z
     refine⟨z1,?_⟩;by_cases q:J=c
     ·rw[q,aC];exact aV _
     ·rw[aK q]
      cases e:H3 J with
      |none=>exact b5 e M
      |some o=>rw[L _ _ e];exact aV _
    ·rw[aT.mp z]
     exact⟨O6,by rw[aK ZI,Ym];exact aV _⟩
   ·rcases AB I with I|⟨rfl,rfl⟩
    ·obtain⟨z1,M⟩:=g j J r I G
     exact⟨by rw[aK M];exact L _ _ z1,M⟩
    ·rw[u,Y] at G
     cases G;rw[ed,cZ];exact⟨by rw[aK ZI];exact Ym,ZI⟩
  ·rintro ys N y U ⟨f,rfl,u,nd,m,g⟩
   have u:f.length=rs.length:=by simpa using u
   have npa:p≠c:=aQ v a;have B:=y _ _ v;refine⟨_,rfl,p,_,R,_,rfl,B,T.jw,T.nU,(by show 1<1000;decide),?_⟩;rw[dJ (names:=["town"]) rfl (by decide +kernel)];refine k c f _ (f1 a) (λl s=>(m l s).1) (λz=>?_) nd u aC (by rw[aK (bN npa)];exact U) (λj l r I G=>?_) λb o e W=>by rw[aK W];exact y _ _ (k1 _ _ e W)
   ·obtain⟨j,hj⟩:=jM z
    have Z:=(ai.mp hj).1;exact (g j c _ hj (aa (u▸Z))).2 rfl
   ·have z:=(g j l r I G).1
    rw[aK (vJ z B (by intro z;cases z))];exact z
inductive Fz(K:af)(C:Addr)(vs:List V)(H:Hp)(Q:VK)(E:XK):Prop
 |mk (tp ln lr:Addr) (ns:List Int) (rs:List R5):vs=[.ref tp]->dc K C H tp ln lr ns rs->ns.length<=12->(∀l (qs:List Addr) H',aH H H'->H l=none->H' l=some (.lst (qs.map V.ref))->eO K H' qs (gE ns.length (yQ ns))->Q (.ref l) H')->Fz K C vs H Q E
theorem Jx{t:Ad}(T:Txt K mg t):cE P w K mg base iS 3 t.nD t.rQ ["town"]  (Fz K t.bu):=by
 refine T.C6.F.kq A7 λH Q E y h=>?_
 ·obtain⟨s,C,B,ns,z,rfl,u,G,k⟩:=h
  refine⟨_,(oR (gq (kO A7 ["house","town"] [none,some 0]) rfl (eS rfl T.gv (gz (bf (pv 0) rfl))) (λ_ _ _ _=>by exact (gS 0 Ec)) (λ_ _ _ _=>by exact iD) (λ_ _ _ _=>by exact (cG (Ia T) y T.Ed (rA (pv 1) (pv 0)))))),?_⟩
  left
  obtain⟨⟨A,m⟩,_⟩:=id u;refine⟨_,rfl,s,_,A,_,_,rfl,m,T.fG,T.mL,rfl,(ns.length:Int),rfl,∅,∅,λp a=>?_⟩;refine fX (n:=((ns.length:Int)).toNat) (λi l g=>∃c:List Addr,l=c.map V.ref/\eO K g c (gE i (yQ ns))) a w6 mW ⟨[],rfl,⟨rfl,λi q x e=>by cases e⟩⟩ ?_ ?_
  ·rintro i l g d j o ⟨c,rfl,f⟩ x L ⟨rfl,rfl⟩
   have d:i<ns.length:=by simpa using d
   rw[fU];refine⟨_,rfl,_,rfl,s,C,B,ns,z,i,ns[i],rfl,u.mono j,aa d,λq I r D=>?_⟩;have v:=r _ _ o;have J:c.length=i:=by rw[f.len];simp[gE]
   refine d8 a (by simpa using d) (j.trans r) v (by rw[ah];exact cP ∅) ⟨c++[q],by rw[aS];rfl,?_⟩;have e:gE (i+1) (yQ ns)=gE i (yQ ns)++[cU ⟨ns[i],0,0,-1⟩]:=by
    unfold gE;rw[iF,aS,bH,List.map_nil];congr 3;unfold yQ;rw[au,aa d];rfl
   rw[e];exact (eO.snoc (f.mono λb x=>r.eK) D).mono λb x=>c7.past v lW cQ
  ·rintro l g j o ⟨c,rfl,f⟩
   rw[show ((ns.length:Int)).toNat=ns.length from rfl] at f;exact k p c g j a o f
inductive Aq(K:af)(C:Addr)(vs:List V)(H:Hp)(Q:VK)(E:XK):Prop
 |mk (tp ln lr lc:Addr) (ns:List Int) (rs:List R5) (qs:List Addr) (cl:List (Nat×Nat)):vs=[.ref tp,.ref lc]->dc K C H tp ln lr ns rs->bQ K H lc (qs.map V.ref)->eO K H qs (cl.map λc=>[.int c.1,.int c.2])->cl.length<=20->(∀c∈cl,c.1<ns.length/\c.2<3)->Q .fM H->Aq K C vs H Q E
theorem Ez{t:Ad}(T:Txt K mg t):cE P w K mg base iS 1 t.jn t.lN ["town","callers"]  (Aq K t.bu):=by
 refine T.yC.F.kq wc λH Q E M h=>?_
 ·obtain⟨u,R,O,g,ns,N,d,cl,rfl,C,r,B,L,o,k⟩:=h
  refine⟨_,(av (cT (qT Qv (lS T.iP (pv 1)) (mU rfl T.Ht (v:=.int 20) ⟨_,rfl⟩)) dS bB) (bL (fS (ir (pv 1)) (gT 2 wc) (av (cT (qT uf (lS T.iP (pv 2)) aE) dS bB) (av (cT (lR (jS rz ug aE (xT (pv 2) aE) (bf (pv 0) rfl))) dS bB) (bL (cT (lR (jS rz ug aE (xT (pv 2) aE) (lS T.iP (mU rfl T.nW (v:=.ref t.fk) rfl)))) dS bB))))))),?_⟩
  left
  obtain⟨⟨D,n⟩,_⟩:=id C;have I:d.length=cl.length:=by rw[B.len,ah]
  refine⟨_,rfl,g,_,rfl,.inl r,_,_,rfl,rfl,_,rfl,JU (c6 (by rw[ah];lia)) ?_⟩;refine⟨_,rfl,g,rfl,⟨_,r⟩,vM (K:=K) (a:=g) (xs:=d.map V.ref) (λi j c=>c=H/\∃p:Option V,j=[some (.ref u),some (.ref g),p]) ⟨rfl,_,rfl⟩ (λi j c _ z=>by rw[z.1];exact r) ?_ ?_⟩
  ·rintro i y j c m ⟨rfl,p,rfl⟩
   have b:=(ai.mp m).1;rw[ah] at b;have e:i<cl.length:=I▸b;have J:y=.ref d[i]:=by
    rw[ak,aa b] at m;exact (aI m).symm
   subst J;have f:c7 K c d[i] [.int cl[i].1,.int cl[i].2]:=B.at' i _ _ (aa b) (by rw[ak,aa e];rfl);obtain⟨A,x⟩:=o _ (aM e);generalize d[i]=q at f;generalize cl[i]=cc at f A x;obtain⟨s,l⟩:=cc;refine⟨_,rfl,q,_,rfl,.inr f,rfl,_,rfl,JU (by show (!decide (V.int 2=V.int 2))=false;rw[cy rfl];rfl) ?_⟩;refine⟨_,rfl,q,_,_,_,rfl,rfl,f,rfl,_,_,rfl,rfl,_,rfl,?_⟩;rw[cy (show (0:Int)<=(s:Int) by lia)];refine iC ⟨_,rfl,u,_,D,_,_,rfl,n,T.fG,T.mL,rfl,_,_,rfl,rfl,_,rfl,?_⟩;rw[cy (show (s:Int)<(ns.length:Int) by have:s<ns.length:=A;lia)];refine gD ?_;refine⟨_,rfl,q,_,_,_,rfl,rfl,f,rfl,_,_,rfl,rfl,_,rfl,?_⟩;rw[cy (show (0:Int)<=(l:Int) by lia)];refine iC ⟨_,_,rfl,.inr (T.gu _),_,_,rfl,rfl,_,rfl,?_⟩;have G:decide ((l:Int)<((([.int 1,.int 2,.int 4]:List V).length:Nat):Int))=true:=cy (by show (l:Int)<3;have:l<3:=x;lia);rw[G];exact gD ⟨rfl,_,rfl⟩
  ·rintro j c ⟨rfl,p,rfl⟩
   exact k
end
noncomputable abbrev nc(t:Ad):NC:=⟨t.cN,t.dg,t.eZ,t.jo,t.iN,t.fY,t.jd⟩
section
variable{P:Program}{w:World}{K:af}{mg:Str->Option Value}{base:Heap}
inductive Ks(K:af)(CT:Addr)(c:NC)(vs:List V)(H:Hp)(Q:VK)(E:XK):Prop
 |mk (p dx tp ln lr lc:Addr) (ns:List Int) (rs:List R5) (qs:List Addr) (cl:List (Nat×Nat)):vs=[.ref p,.ref tp,.ref lc]->H p=some (.ins c.dO dx [])->dc K CT H tp ln lr ns rs->ns.length<=12->rs.length<=20->(∀r∈rs,1<=r.d/\r.d<=4)->bQ K H lc (qs.map V.ref)->eO K H qs (cl.map λc=>[.int c.1,.int c.2])->cl.length<=20->(∀c∈cl,c.1<ns.length/\c.2<3)->(∀F H',dF K c H' F p tp ns.length (S0 ns rs cl)->(∀b o,H b=some o->b≠p->H' b=some o)->(∀b,F b->b=p∨H b=none)->Q .fM H')->Ks K CT c vs H Q E
noncomputable abbrev nf(fs:List (Str×V))(k:Str)(v:V):List (Str×V):=fs++[(k,v)]
structure FA(K:af)(CT:Addr)(H:Hp)(tp ln lr lc:Addr)(ns:List Int)(rs:List R5)(qs:List Addr)(cl:List (Nat×Nat)):Prop where
 sA:dc K CT H tp ln lr ns rs
 Yn:bQ K H lc (qs.map V.ref)
 tup:eO K H qs (cl.map λc=>[.int c.1,.int c.2])
theorem FA.mono{d c g f a:Addr}{H e:Hp}{ns:List Int}{rs:List R5}{qs:List Addr}{cl:List (Nat×Nat)}(h:FA K d H c g f a ns rs qs cl)(s:aH H e):FA K d e c g f a ns rs qs cl:=⟨h.sA.mono s,s.seq h.Yn,h.tup.mono λb x=>s.eK⟩
theorem FA.put{f a i g d p C j:Addr}{H:Hp}{ns:List Int}{rs:List R5}{qs:List Addr}{cl:List (Nat×Nat)}{k:List (Str×V)}{o:HO}(h:FA K f H a i g d ns rs qs cl)(c:H p=some (.ins C j k))(n:a≠p):FA K f (upd H p o) a i g d ns rs qs cl :=
 ⟨h.sA.but (λb u e l=>by rw[aK l];exact e) c n,bQ.past c Vo cQ h.Yn,h.tup.mono λb x=>c7.past c mZ cQ⟩
theorem wM(la:Nat->Addr)(i:Nat)(l:Addr):(az (i+1)).map (λg=>V.ref (fH la i l g))=(az i).map (λg=>V.ref (la g))++[.ref l]:=by
 rw[iF,aS,bH,List.map_nil,cC];congr 1;refine cK λg a=>?_;rw[dQ (bz (c5.mp a))]
noncomputable def abn(loc:Role->Addr)(acc:Addr)(la:Nat->Addr):Role->Addr
 |.zj=>acc
 |.rows g=>la g
 |r=>loc r
noncomputable def Wu(ob:Role->Option HO)(la:Nat->Addr)(rq:Nat->List Addr)(i:Nat):Role->Option HO
 |.zj=>some (.lst ((az i).map λg=>.ref (la g)))
 |.rows g=>if g<i then some (.lst ((rq g).map V.ref)) else none
 |r=>ob r
noncomputable def Yo(loc:Role->Addr)(acc:Addr)(lb ld:Nat->Addr):Role->Addr
 |.kJ=>acc
 |.book g=>lb g
 |.fB g=>ld g
 |r=>loc r
noncomputable def BV(C:Addr)(ob:Role->Option HO)(Qa lb ld:Nat->Addr)(i:Nat):Role->Option HO
 |.kJ=>some (.lst ((az i).map λg=>.ref (lb g)))
 |.book g=>if g<i then some (.ins C (Qa g) [("kept",.ref (ld g))]) else none
 |.fB g=>if g<i then some (.dT []) else none
 |r=>ob r
noncomputable def ad2(loc:Role->Addr)(acc:Addr)(lh:Nat->Addr):Role->Addr
 |.m7=>acc
 |.handed g=>lh g
 |r=>loc r
noncomputable def obH(ob:Role->Option HO)(lh:Nat->Addr)(i:Nat):Role->Option HO
 |.m7=>some (.lst ((az i).map λg=>.ref (lh g)))
 |.handed g=>if g<i then some (.lst []) else none
 |r=>ob r
noncomputable def dxF(dx We:Addr)(Qa:Nat->Addr):Role->Addr
 |.dO=>dx
 |.fj=>We
 |.book g=>Qa g
 |_=>0
noncomputable def ad3(p sp lu:Addr)(ls:List Addr)(acc:Addr)(la:Nat->Addr)(acb:Addr)(lb ld:Nat->Addr)(WU Yp Yq:Addr)(lh:Nat->Addr)(acl g7:Addr):Role->Addr
 |.dO=>p
 |.fj=>sp
 |.iY=>lu
 |.oi i=>ls.getD i 0
 |.zj=>acc
 |.rows g=>la g
 |.kJ=>acb
 |.book g=>lb g
 |.fB g=>ld g
 |.aD=>WU
 |.groups=>Yp
 |.m7=>Yq
 |.handed i=>lh i
 |.cW=>acl
 |.lX=>g7
 |_=>0
theorem Jy{t:Ad}(T:Txt K mg t):cE P w K mg base iS 5 t.nA t.rN ["self","town","callers"]  (Ks K t.bu (nc t)):=by
 refine T.C4.F.kq ju λH Q E hr h=>?_
 ·obtain⟨p,s,y,ln,lr,lc,ns,rs,qs,cl,rfl,hp,hT,h12,Ao,hw,hL,A1,Wf,hok,k⟩:=h
  refine⟨_,(av (dm (cG (Ez T) hr T.yC (rA (pv 1) (pv 2)))) (av (fZ (pv 0) (pv 1) rfl) (av (fZ (pv 0) (cI T.wB (Du T) hr T.S6 (gz (pv 1))) rfl) (av (fZ (pv 0) (gq (kO ju ["bit","town"] [none,some 1]) rfl (Uu (mU rfl T.nW (v:=.ref t.fk) rfl)) (λ_ _ _ _=>by exact (gS 0 D7)) (λ_ _ _ _=>by exact iD) (λ_ _ _ _=>by exact (cG (Jx T) hr T.C6 (gz (pv 1))))) rfl) (av (fZ (pv 0) (gq (kO ju ["bit"] [none]) rfl (Uu (mU rfl T.nW (v:=.ref t.fk) rfl)) (λ_ _ _ _=>by exact (gS 0 D8)) (λ_ _ _ _=>by exact iD) (λ_ _ _ _=>by exact (UK T.uX.M (Ij T) (hr.mono (!_)) rfl T.abb T.uX.B .nil mK))) rfl) (av (fZ (pv 0) (gq (kO ju ["caller"] [none]) rfl (ir (pv 2)) (λ_ _ _ _=>by exact (gS 0 D9)) (λ_ _ _ _=>by exact iD) (λ_ _ _ _=>by exact (yT K (pv 0) aE))) rfl) (av (fZ (pv 0) (gq (kO ju ["caller"] [none]) rfl (ir (pv 2)) (λ_ _ _ _=>by exact (gS 0 Ea)) (λ_ _ _ _=>by exact iD) (λ_ _ _ _=>by exact (yT K (pv 0) aE))) rfl) (av (fZ (pv 0) (gq (kO ju ["caller"] [none]) rfl (ir (pv 2)) (λ_ _ _ _=>by exact (gS 0 Eb)) (λ_ _ _ _=>by exact iD) (λ_ _ _ _=>by exact (jB iz))) rfl) (av (fZ (pv 0) (jB iz) rfl) (bL (fZ (pv 0) (jB iz) rfl))))))))))),?_⟩
  left
  obtain⟨⟨dt,htp⟩,htn,vs,htr,_⟩:=id hT;have ZH:y≠p:=vJ htp hp λz=>by have:=(HO.ins.inj z).2.2;cases this
  refine b4 λNx L=>?_;refine⟨_,rfl,_,rfl,y,ln,lr,lc,ns,rs,qs,cl,rfl,hT,hL,A1,Wf,hok,L _ _ ?_⟩;have B0:FJ H H p (λ_=>p) (λr=>if r=.dO then some (.ins t.cN s []) else none):=by
   refine⟨⟨λr o e=>?_,λr q h1 h2 _=>?_⟩,rfl,-_,λb o e _=>e,λb hb=>.inl ?_⟩
   ·by_cases z:r=.dO
    ·rw[aq z] at e;cases e;exact hp
    ·rw[b3 z] at e;cases e
   ·have g:∀{r:Role},(if r=Role.dO then some (HO.ins t.cN s []) else none)≠none->r=.dO:=λ{r} h=>by
     by_cases z:r=.dO
     ·exact z
     ·rw[b3 z] at h;exact b5 rfl h
    rw[g h1,g h2]
   ·obtain⟨_,_,e⟩:=hb
    exact e.symm
  refine b4 λNx L=>?_;refine⟨_,rfl,_,rfl,p,_,s,[],rfl,hp,T.bD,T.oK,!_,?_⟩;rw[dJ (names:=[]) rfl rfl];refine L _ _ ?_;have B1:=B0.put (.ins t.cN s ([]++[(Str.ofString "town",V.ref y)]));have hT1:dc K t.bu (upd H p (.ins t.cN s ([]++[(Str.ofString "town",V.ref y)]))) y ln lr ns rs:=hT.but (λb o e n=>by rw[aK n];exact e) hp ZH;have hp1:=aC (H:=H) (a:=p) (o:=.ins t.cN s ([]++[(Str.ofString "town",V.ref y)]));have kq1:∀b x,c7 K H b x->c7 K (upd H p (.ins t.cN s ([]++[(Str.ofString "town",V.ref y)]))) b x:=λb x=>c7.past hp mZ cQ;have hL1:=bQ.past hp Vo (cQ (o:=.ins t.cN s ([]++[(Str.ofString "town",V.ref y)]))) hL;have abp:=A1.mono kq1;generalize upd H p (.ins t.cN s ([]++[(Str.ofString "town",V.ref y)]))=H1 at B1 hT1 hp1 hL1 abp;refine b4 λNx L=>?_;refine⟨_,rfl,λI We YZ oM hne=>?_⟩;have t2:aH H1 (upd (upd H1 We (.own I)) I (.ins t.dg We [])):=(aH.new oM).trans (aH.new (by rw[aK (bN hne)];exact YZ));refine⟨I,We,y,ln,lr,ns,rs,rfl,aC,hT1.mono t2,Ao,hw,λlu J H2 hlu hls nlu nd el h2p h2u h2w kp=>⟨rfl,?_⟩⟩;have s2:aH H1 H2:=λb o e=>kp b o (t2 b o e) (aQ e YZ);have ad5:H1 lu=none:=t2.free hlu;have ad6:∀l∈J,H1 l=none:=λl hl=>t2.free (hls l hl);have OS:xh H2 (XQ I lu J) (SV t.dg We y lu J (rs.map λr=>az r.d.toNat)):=by
   refine aa2 h2p h2u (by rw[ah];exact el) (λi l w' e1 e2=>?_) nd nlu;rw[ak] at e2;cases e3:rs[i]? with
   |none=>rw[e3] at e2;cases e2
   |some r=>rw[e3] at e2;cases e2;exact h2w i l r e1 e3
  have B2:=B1.join OS rfl (λr m=>by
   cases r <;> first|exact b5 rfl m|skip
   ·exact YZ
   ·exact ad5
   ·rename_i i
    show H1 (J.getD i 0)=none;by_cases z:i<J.length
    ·rw[au,aa z]
     exact ad6 _ (aM z)
    ·exact b5 (show ((rs.map λr:R5=>az r.d.toNat)[i]?.map λw=>HO.lst (bM w))=none by rw[jg (by rw[ah];lia)];rfl) m) s2
  have ad7:FA K t.bu H2 y ln lr lc ns rs qs cl:=⟨hT1.mono s2,s2.seq hL1,abp.mono λb x=>s2.eK⟩;have hp2:=s2 _ _ hp1;refine⟨_,rfl,p,_,s,_,rfl,hp2,T.bD,T.vc,(by show 1<1000;decide),?_⟩;rw[dJ (names:=["town"]) rfl (by decide +kernel)];refine L _ _ ?_;have B3:=B2.put (.ins t.cN s (([]++[(Str.ofString "town",V.ref y)])++[(Str.ofString "strands",V.ref I)]));have abr:=ad7.put hp2 ZH (o:=.ins t.cN s (([]++[(Str.ofString "town",V.ref y)])++[(Str.ofString "strands",V.ref I)]));have hp3:=aC (H:=H2) (a:=p) (o:=.ins t.cN s (([]++[(Str.ofString "town",V.ref y)])++[(Str.ofString "strands",V.ref I)]));generalize upd H2 p (.ins t.cN s (([]++[(Str.ofString "town",V.ref y)])++[(Str.ofString "strands",V.ref I)]))=H3 at B3 abr hp3;generalize ahu:(λr=>if (SV t.dg We y lu J (rs.map λr:R5=>az r.d.toNat) r).isSome=true then XQ I lu J r else p)=Im at B3;generalize rW:(jC (λr=>if (SV t.dg We y lu J (rs.map λr:R5=>az r.d.toNat) r).isSome=true then SV t.dg We y lu J (rs.map λr:R5=>az r.d.toNat) r else jC (λr=>if r=.dO then some (.ins t.cN s []) else none) .dO (.ins t.cN s ([]++[(Str.ofString "town",V.ref y)])) r) .dO (.ins t.cN s (([]++[(Str.ofString "town",V.ref y)])++[(Str.ofString "strands",V.ref I)])))=ia at B3;refine b4 λNx L=>?_;refine⟨_,rfl,⟨_,T.gu _⟩,λA hacc=>?_⟩;refine fX (n:=3) (λi ys X=>∃(O:Nat->Addr) (G:Nat->List Addr),ys=(az i).map (λg=>.ref (O g))/\FJ H X p (abn Im A O) (Wu ia O G i)/\(∀g,g<i->eO K X (G g) (gE ns.length (yQ ns)))) hacc (Vc (T.gu _)) (MQ (T.gu _)) ?_ ?_ ?_
  ·refine⟨λ_=>0,λ_=>[],rfl,(B3.new hacc (r:=.zj) (!_) (.lst [])).ext (λr=>?_) (λr m=>?_),λg D=>b5 D ∅⟩
   ·cases r <;> first|rfl|skip
    rename_i g;show ia (.rows g)=_;rw[show ia (.rows g)=none by rw[<- rW];rfl];show none=(if g<0 then some (HO.lst (([]:List Addr).map V.ref)) else none);rw[b3 (Nat.not_lt_zero g)]
   ·cases r <;> first|rfl|skip
    rename_i g;exact b5 (show ia (.rows g)=none by rw[<- rW];rfl) m
  ·rintro i ys X U sx W ⟨O,G,rfl,B,hR⟩ x H4 ⟨rfl,hx⟩
   refine⟨_,rfl,y,ln,lr,ns,rs,rfl,(abr.mono sx).sA,h12,λl DF H5 s5 hl h5 ht=>?_⟩;have Zr:=s5 _ _ W;have B5:=((B.add s5 hl h5 (r:=.rows i) (λz=>by cases z)).aa1 (r:=.zj) (aV _) (λz=>by cases z) (.lst ((az i).map (λg=>V.ref (O g))++[.ref l])));have hl5:l≠A:=(aQ W hl).symm;refine d8 hacc U (sx.trans s5) Zr (by rw[ah,bG];exact cP ∅) ⟨fH O i l,fH G i DF,(wM O i l).symm,B5.ext (λr=>?_) (λr m=>?_),λg D=>?_⟩
   ·cases r <;> first|rfl|skip
    ·show some (HO.lst _)=some (HO.lst _)
     rw[wM]
    ·rename_i g
     show jC (Wu ia O G i) (.rows i) _ (.rows g)=if g<i+1 then some (HO.lst ((fH G i DF g).map V.ref)) else none
     by_cases z:g=i
     ·subst z
      rw[eT,aq ∅,cC]
     ·rw[dP (λe=>z (by cases e;rfl)),dQ z]
      show (if g<i then some (HO.lst ((G g).map V.ref)) else none)=_;by_cases z2:g<i
      ·rw[aq z2,aq ∅]
      ·rw[b3 z2,b3 ∅]
   ·cases r <;> first|rfl|skip
    rename_i g;show yP (abn Im A O) (.rows i) l (.rows g)=fH O i l g;by_cases z:g=i
    ·subst z
     rw[jr,cC]
    ·rw[jF (λe=>z (by cases e;rfl)),dQ z]
     rfl
   ·by_cases z:g=i
    ·subst z
     rw[cC];exact ht.mono λb x=>c7.past Zr lW cQ
    ·rw[dQ z]
     exact ((hR g ∅).mono λb x=>s5.eK).mono λb x=>c7.past Zr lW cQ
  rintro ys H4 s4 W ⟨O,G,rfl,B4,hR4⟩;have aea:=abr.mono s4;have Tp:=s4 _ _ hp3;refine⟨_,rfl,p,_,s,_,rfl,Tp,T.bD,T.kK,(by show 2<1000;decide),?_⟩;rw[dJ (names:=["town","strands"]) rfl (by decide +kernel)];refine L _ _ ?_;generalize eo5:HO.ins t.cN s ((([]++[(Str.ofString "town",V.ref y)])++[(Str.ofString "strands",V.ref I)])++[(Str.ofString "rows_by_group",V.ref A)])=o5;have B5:=B4.put o5;have abt:=aea.put Tp ZH (o:=o5);have WV:=aC (H:=H4) (a:=p) (o:=o5);have hR5:∀g,g<3->eO K (upd H4 p o5) (G g) (gE ns.length (yQ ns)):=λg D=>(hR4 g D).mono λb x=>c7.past Tp mZ cQ;generalize upd H4 p o5=H5 at B5 abt WV hR5;generalize aeb:abn Im A O=Wg at B5;generalize abu:jC (Wu ia O G 3) .dO o5=Yr at B5;have n5:∀g,Yr .kJ=none/\Yr (.book g)=none/\Yr (.fB g)=none:=λg=>by rw[<- abu,<- rW];exact⟨rfl,rfl,rfl⟩
  refine b4 λNx L=>?_;refine⟨_,rfl,⟨_,T.gu _⟩,λC Ys=>?_⟩;refine fX (n:=3) (λi ys X=>∃(N ld Qa:Nat->Addr),ys=(az i).map (λg=>.ref (N g))/\FJ H X p (Yo Wg C N ld) (BV t.eZ Yr Qa N ld i)) Ys (Vc (T.gu _)) (MQ (T.gu _)) ?_ ?_ ?_
  ·refine⟨λ_=>0,λ_=>0,λ_=>0,rfl,(B5.new Ys (r:=.kJ) (λz=>by cases z) (.lst [])).ext (λr=>?_) (λr m=>?_)⟩
   ·cases r <;> first|rfl|skip
    ·rename_i g
     show Yr (.book g)=(if g<0 then some (HO.ins t.eZ 0 [("kept",.ref 0)]) else none);rw[b3 (Nat.not_lt_zero g)];exact (n5 g).2.1
    ·rename_i g
     show Yr (.fB g)=(if g<0 then some (HO.dT []) else none);rw[b3 (Nat.not_lt_zero g)];exact (n5 g).2.2
   ·cases r <;> first|rfl|skip
    ·rename_i g
     exact b5 (n5 g).2.1 m
    ·rename_i g
     exact b5 (n5 g).2.2 m
  ·rintro i ys X U sx W ⟨N,ld,Qa,rfl,B⟩ x H6 ⟨rfl,hx⟩
   refine λbp DE Zk ahy hne=>?_;have t6:aH H6 (upd (upd H6 DE (.own bp)) bp (.ins t.eZ DE [])):=(aH.new ahy).trans (aH.new (by rw[aK (bN hne)];exact Zk));refine⟨bp,DE,rfl,aC,λd H7 hd hB kp=>⟨rfl,?_⟩⟩;have s7:aH H6 H7:=λb o e=>kp b o (t6 b o e) (aQ e Zk);have hd6:H6 d=none:=t6.free hd;obtain⟨⟨Vq,h7b⟩,h7d⟩:=hB;have nbd:bp≠d:=Px h7b h7d (λe=>by cases e);have sm:aH H6 (hide H7 d):=λb o e=>by
    have nb:b≠d:=aQ e hd6;show (if b=d then none else H7 b)=some o;rw[b3 nb];exact s7 _ _ e
   have sm2:aH (hide H7 d) H7:=λb o e=>by
    have e:(if b=d then none else H7 b)=some o:=e;by_cases z:b=d
    ·rw[aq z] at e;cases e
    ·rw[b3 z] at e;exact e
   have hmb:(hide H7 d) bp=some (.ins t.eZ Vq [("kept",.ref d)]):=by
    show (if bp=d then none else H7 bp)=_;rw[b3 nbd];exact h7b
   have hmd:(hide H7 d) d=none:=aq rfl;have B1:=B.add sm Zk hmb (r:=.book i) (λz=>by cases z);have B2:=B1.add sm2 hmd h7d (r:=.fB i) (λz=>by cases z);have B3:=B2.aa1 (r:=.kJ) (aV _) (λz=>by cases z) (.lst ((az i).map (λg=>V.ref (N g))++[.ref bp]));refine d8 Ys U (sx.trans s7) (s7 _ _ W) (by rw[ah,bG];exact cP ∅) ⟨fH N i bp,fH ld i d,fH Qa i Vq,(wM N i bp).symm,B3.ext (λr=>?_) (λr m=>?_)⟩
   ·cases r <;> first|rfl|skip
    ·show some (HO.lst _)=some (HO.lst _)
     rw[wM]
    ·rename_i g
     show jC (BV t.eZ Yr Qa N ld i) (.book i) _ (.book g)=if g<i+1 then some (HO.ins t.eZ (fH Qa i Vq g) [("kept",.ref (fH ld i d g))]) else none
     by_cases z:g=i
     ·subst z
      rw[eT,aq ∅,cC,cC]
     ·rw[dP (λe=>z (by cases e;rfl)),dQ z,dQ z]
      show (if g<i then some (HO.ins t.eZ (Qa g) [("kept",.ref (ld g))]) else none)=_;by_cases z2:g<i
      ·rw[aq z2,aq ∅]
      ·rw[b3 z2,b3 ∅]
    ·rename_i g
     show jC (jC (BV t.eZ Yr Qa N ld i) (.book i) _) (.fB i) _ (.fB g)=if g<i+1 then some (HO.dT []) else none
     by_cases z:g=i
     ·subst z
      rw[eT,aq ∅];rfl
     ·rw[dP (λe=>z (by cases e;rfl))]
      show (if g<i then some (HO.dT []) else none)=_;by_cases z2:g<i
      ·rw[aq z2,aq ∅]
      ·rw[b3 z2,b3 ∅]
   ·cases r <;> first|rfl|skip
    ·rename_i g
     show yP (Yo Wg C N ld) (.book i) bp (.book g)=fH N i bp g;by_cases z:g=i
     ·subst z
      rw[jr,cC]
     ·rw[jF (λe=>z (by cases e;rfl)),dQ z]
      rfl
    ·rename_i g
     show yP (yP (Yo Wg C N ld) (.book i) bp) (.fB i) d (.fB g)=fH ld i d g;by_cases z:g=i
     ·subst z
      rw[jr,cC]
     ·rw[jF (λe=>z (by cases e;rfl)),dQ z]
      rfl
  rintro ys H6 s6 W ⟨N,ld,Qa,rfl,B6⟩;have aec:=abt.mono s6;have hR6:∀g,g<3->eO K H6 (G g) (gE ns.length (yQ ns)):=λg D=>(hR5 g D).mono λb x=>s6.eK;have ZZ:=s6 _ _ WV;subst eo5;refine⟨_,rfl,p,_,s,_,rfl,ZZ,T.bD,T.qk,(by show 3<1000;decide),?_⟩;rw[dJ (names:=["town","strands","rows_by_group"]) rfl (by decide +kernel)];refine L _ _ ?_;generalize eo7:HO.ins t.cN s (((([]++[(Str.ofString "town",V.ref y)])++[(Str.ofString "strands",V.ref I)])++[(Str.ofString "rows_by_group",V.ref A)])++[(Str.ofString "books",V.ref C)])=o7;have B7:=B6.put o7;have Qc:=aec.put ZZ ZH (o:=o7);have hp7:=aC (H:=H6) (a:=p) (o:=o7);have hR7:∀g,g<3->eO K (upd H6 p o7) (G g) (gE ns.length (yQ ns)):=λg D=>(hR6 g D).mono λb x=>c7.past ZZ mZ cQ;generalize upd H6 p o7=H7 at B7 Qc hp7 hR7;have kF:(qs.map V.ref).length=cl.length:=by rw[ah,Qc.tup.len,ah]
  have aed:∀{i:Nat} {x:V} {X:Hp},(qs.map V.ref)[i]?=some x->FA K t.bu X y ln lr lc ns rs qs cl->∃(U:i<cl.length) (q:Addr),x=.ref q/\c7 K X q [.int cl[i].1,.int cl[i].2]:=λ{i x X} hx ev=>by
   have U:=(ai.mp hx).1;rw[kF] at U;have hq:i<qs.length:=by rw[<- ah (f:=V.ref),kF];exact U
   refine⟨U,qs[i],?_,ev.tup.at' i _ _ (aa hq) (by rw[ak,aa U];rfl)⟩;rw[ak,aa hq] at hx;exact (aI hx).symm
  refine b4 λNx L=>?_;refine⟨_,rfl,lc,rfl,⟨_,Qc.Yn⟩,λWU abv=>?_⟩;refine QZ (λi=>cl[i]?.map λc=>V.int (c.1:Nat)) abv Qc.Yn ∅ (λi x X R S hx sx h1 h2=>?_) (λH8 s8 W=>?_)
  ·obtain⟨U,q,rfl,hq⟩:=aed hx (Qc.mono sx)
   exact⟨_,rfl,q,_,_,_,rfl,rfl,hq,rfl,h1 _ _ (aH.refl _) (by rw[aa U];rfl)⟩
  rw[kF,GU] at W;have B8:=B7.add s8 abv W (r:=.aD) (λz=>by cases z);have aee:=Qc.mono s8;have qb:=s8 _ _ hp7;subst eo7;refine⟨_,rfl,p,_,s,_,rfl,qb,T.bD,T.iV,(by show 4<1000;decide),?_⟩;rw[dJ (names:=["town","strands","rows_by_group","books"]) rfl (by decide +kernel)];refine L _ _ ?_;generalize eo9:HO.ins t.cN s ((((([]++[(Str.ofString "town",V.ref y)])++[(Str.ofString "strands",V.ref I)])++[(Str.ofString "rows_by_group",V.ref A)])++[(Str.ofString "books",V.ref C)])++[(Str.ofString "homes",V.ref WU)])=o9;have B9:=B8.put o9;have Tu:=aee.put qb ZH (o:=o9);have hp9:=aC (H:=H8) (a:=p) (o:=o9);have hR9:∀g,g<3->eO K (upd H8 p o9) (G g) (gE ns.length (yQ ns)):=λg D=>((hR7 g D).mono λb x=>s8.eK).mono λb x=>c7.past qb mZ cQ;generalize upd H8 p o9=H9 at B9 Tu hp9 hR9;refine b4 λNx L=>?_;refine⟨_,rfl,lc,rfl,⟨_,Tu.Yn⟩,λYp abw=>?_⟩;refine QZ (λi=>cl[i]?.map λc=>V.int (c.2:Nat)) abw Tu.Yn ∅ (λi x X R S hx sx h1 h2=>?_) (λT7 MG W=>?_)
  ·obtain⟨U,q,rfl,hq⟩:=aed hx (Tu.mono sx)
   exact⟨_,rfl,q,_,_,_,rfl,rfl,hq,rfl,h1 _ _ (aH.refl _) (by rw[aa U];rfl)⟩
  rw[kF,GU] at W;have B10:=B9.add MG abw W (r:=.groups) (λz=>by cases z);have ZJ:=Tu.mono MG;have Yt:=MG _ _ hp9;subst eo9;refine⟨_,rfl,p,_,s,_,rfl,Yt,T.bD,T.kG,(by show 5<1000;decide),?_⟩;rw[dJ (names:=["town","strands","rows_by_group","books","homes"]) rfl (by decide +kernel)];refine L _ _ ?_;generalize ahD:HO.ins t.cN s (((((([]++[(Str.ofString "town",V.ref y)])++[(Str.ofString "strands",V.ref I)])++[(Str.ofString "rows_by_group",V.ref A)])++[(Str.ofString "books",V.ref C)])++[(Str.ofString "homes",V.ref WU)])++[(Str.ofString "groups",V.ref Yp)])=ja;have PF:=B10.put ja;have Ru:=ZJ.put Yt ZH (o:=ja);have abx:=aC (H:=T7) (a:=p) (o:=ja);have aby:∀g,g<3->eO K (upd T7 p ja) (G g) (gE ns.length (yQ ns)):=λg D=>((hR9 g D).mono λb x=>MG.eK).mono λb x=>c7.past Yt mZ cQ;generalize upd T7 p ja=H11 at PF Ru abx aby;generalize abz:yP (yP (Yo Wg C N ld) .aD WU) .groups Yp=ZK at PF;generalize ZL:jC (jC (jC (jC (jC (BV t.eZ Yr Qa N ld 3) .dO _) .aD _) .dO _) .groups _) .dO ja=Wh at PF;have n11:∀g,Wh .m7=none/\Wh (.handed g)=none:=λg=>by rw[<- ZL,<- abu,<- rW];exact⟨rfl,rfl⟩
  refine b4 λNx L=>?_;refine⟨_,rfl,lc,rfl,⟨_,Ru.Yn⟩,λYq Tt=>?_⟩;refine fX (n:=(qs.map V.ref).length) (λi ys X=>∃Y:Nat->Addr,ys=(az i).map (λg=>.ref (Y g))/\FJ H X p (ad2 ZK Yq Y) (obH Wh Y i)) Tt (zd Ru.Yn) (pX Ru.Yn) ?_ ?_ ?_
  ·refine⟨λ_=>0,rfl,(PF.new Tt (r:=.m7) (λz=>by cases z) (.lst [])).ext (λr=>?_) (λr m=>?_)⟩
   ·cases r <;> first|rfl|skip
    rename_i g;show Wh (.handed g)=(if g<0 then some (HO.lst []) else none);rw[b3 (Nat.not_lt_zero g)];exact (n11 g).2
   ·cases r <;> first|rfl|skip
    rename_i g;exact b5 (n11 g).2 m
  ·rintro i ys X U sx W ⟨Y,rfl,B⟩ x u0 ⟨rfl,hx⟩
   refine⟨bI _,λl hl=>?_⟩;have u:=aH.new (o:=.lst []) hl;have B3:=(B.new hl (r:=.handed i) (λz=>by cases z) (.lst [])).aa1 (r:=.m7) (aV _) (λz=>by cases z) (.lst ((az i).map (λg=>V.ref (Y g))++[.ref l]));refine d8 Tt U (sx.trans u) (u _ _ W) (by rw[ah,bG];exact cP ∅) ⟨fH Y i l,(wM Y i l).symm,B3.ext (λr=>?_) (λr m=>?_)⟩
   ·cases r <;> first|rfl|skip
    ·show some (HO.lst _)=some (HO.lst _)
     rw[wM]
    ·rename_i g
     show jC (obH Wh Y i) (.handed i) _ (.handed g)=if g<i+1 then some (HO.lst []) else none
     by_cases z:g=i
     ·subst z
      rw[eT,aq ∅]
     ·rw[dP (λe=>z (by cases e;rfl))]
      show (if g<i then some (HO.lst []) else none)=_;by_cases z2:g<i
      ·rw[aq z2,aq ∅]
      ·rw[b3 z2,b3 ∅]
   ·cases r <;> first|rfl|skip
    rename_i g;show yP (ad2 ZK Yq Y) (.handed i) l (.handed g)=fH Y i l g;by_cases z:g=i
    ·subst z
     rw[jr,cC]
    ·rw[jF (λe=>z (by cases e;rfl)),dQ z]
     rfl
  rintro ys u0 s12 W ⟨Y,rfl,B12⟩;rw[kF] at B12;have aeg:∀g,g<3->eO K u0 (G g) (gE ns.length (yQ ns)):=λg D=>(aby g D).mono λb x=>s12.eK;have abB:=s12 _ _ abx;subst ahD;refine⟨_,rfl,p,_,s,_,rfl,abB,T.bD,T.C7,(by show 6<1000;decide),?_⟩;rw[dJ (names:=["town","strands","rows_by_group","books","homes","groups"]) rfl (by decide +kernel)];refine L _ _ ?_;generalize ahF:HO.ins t.cN s ((((((([]++[(Str.ofString "town",V.ref y)])++[(Str.ofString "strands",V.ref I)])++[(Str.ofString "rows_by_group",V.ref A)])++[(Str.ofString "books",V.ref C)])++[(Str.ofString "homes",V.ref WU)])++[(Str.ofString "groups",V.ref Yp)])++[(Str.ofString "handed",V.ref Yq)])=Eg;have B13:=B12.put Eg;have abC:=aC (H:=u0) (a:=p) (o:=Eg);have abD:∀g,g<3->eO K (upd u0 p Eg) (G g) (gE ns.length (yQ ns)):=λg D=>(aeg g D).mono λb x=>c7.past abB mZ cQ;generalize upd u0 p Eg=lQ at B13 abC abD;refine b4 λNx L=>?_;refine⟨bI _,λZ abE=>?_⟩;have B14:=B13.new abE (r:=.cW) (λz=>by cases z) (.lst []);have u14:=aH.new (o:=.lst []) abE;have Yu:=u14 _ _ abC;have abF:∀g,g<3->eO K (upd lQ Z (.lst [])) (G g) (gE ns.length (yQ ns)):=λg D=>(abD g D).mono λb x=>u14.eK;generalize upd lQ Z (.lst [])=H14 at B14 Yu abF;subst ahF;refine⟨_,rfl,p,_,s,_,rfl,Yu,T.bD,T.ff,(by show 7<1000;decide),?_⟩;rw[dJ (names:=["town","strands","rows_by_group","books","homes","groups","handed"]) rfl (by decide +kernel)];refine L _ _ ?_;generalize ahK:HO.ins t.cN s (((((((([]++[(Str.ofString "town",V.ref y)])++[(Str.ofString "strands",V.ref I)])++[(Str.ofString "rows_by_group",V.ref A)])++[(Str.ofString "books",V.ref C)])++[(Str.ofString "homes",V.ref WU)])++[(Str.ofString "groups",V.ref Yp)])++[(Str.ofString "handed",V.ref Yq)])++[(Str.ofString "letters",V.ref Z)])=D0;have B15:=B14.put D0;have aeh:=aC (H:=H14) (a:=p) (o:=D0);have aei:∀g,g<3->eO K (upd H14 p D0) (G g) (gE ns.length (yQ ns)):=λg D=>(abF g D).mono λb x=>c7.past Yu mZ cQ;generalize upd H14 p D0=H15 at B15 aeh aei;refine⟨bI _,λg7 aej=>?_⟩;have B16:=B15.new aej (r:=.lX) (λz=>by cases z) (.lst []);have u16:=aH.new (o:=.lst []) aej;have abG:=u16 _ _ aeh;have aek:∀g,g<3->eO K (upd H15 g7 (.lst [])) (G g) (gE ns.length (yQ ns)):=λg D=>(aei g D).mono λb x=>u16.eK;generalize upd H15 g7 (.lst [])=H16 at B16 abG aek;subst ahK;refine⟨_,rfl,p,_,s,_,rfl,abG,T.bD,T.nV,(by show 8<1000;decide),?_⟩;rw[dJ (names:=["town","strands","rows_by_group","books","homes","groups","handed","letters"]) rfl (by decide +kernel)];generalize ahL:HO.ins t.cN s ((((((((([]++[(Str.ofString "town",V.ref y)])++[(Str.ofString "strands",V.ref I)])++[(Str.ofString "rows_by_group",V.ref A)])++[(Str.ofString "books",V.ref C)])++[(Str.ofString "homes",V.ref WU)])++[(Str.ofString "groups",V.ref Yp)])++[(Str.ofString "handed",V.ref Yq)])++[(Str.ofString "letters",V.ref Z)])++[(Str.ofString "copies",V.ref g7)])=X7;have B17:=B16.put X7;have ael:∀g,g<3->eO K (upd H16 p X7) (G g) (gE ns.length (yQ ns)):=λg D=>(aek g D).mono λb x=>c7.past abG mZ cQ;generalize upd H16 p X7=H17 at B17 ael;subst ahL ZL abz abu aeb rW ahu;have hws:(rs.map λr:R5=>az r.d.toNat).length=J.length:=by rw[ah];exact el.symm
  have ahN:J.map V.ref=(az (rs.map λr:R5=>az r.d.toNat).length).map λi=>V.ref (J.getD i 0):=by
   rw[hws];refine wW (-_) λi h1 h2=>?_;simp at h1;simp[h1]
  have O3:FJ H H17 p (ad3 p I lu J A O C N ld WU Yp Yq Y Z g7) (desc (nc t) (dxF s We Qa) y (ad3 p I lu J A O C N ld WU Yp Yq Y Z g7) ⟨G,λ_=>[],[]⟩ (S0 ns rs cl)):=by
   refine B17.ext (λr=>?_) (λr m=>?_)
   ·cases r <;> first|rfl|skip
    case iY =>
     show some (HO.lst (J.map V.ref))=some (HO.lst ((az (rs.map λr:R5=>az r.d.toNat).length).map λi=>V.ref (J.getD i 0)));rw[<- ahN]
    case oi j =>
     show (if ((rs.map λr:R5=>az r.d.toNat)[j]?.map λw=>HO.lst (bM w)).isSome=true then ((rs.map λr:R5=>az r.d.toNat)[j]?.map λw=>HO.lst (bM w)) else none)=((rs.map λr:R5=>az r.d.toNat)[j]?.map λw=>HO.lst (bM w));cases (rs.map λr:R5=>az r.d.toNat)[j]? <;> rfl
    case aD =>
     show some (HO.lst _)=some (HO.lst ((cl.map (·.1)).map _));rw[cX];rfl
    case groups =>
     show some (HO.lst _)=some (HO.lst ((cl.map (·.2)).map _));rw[cX];rfl
    case m7 =>
     show some (HO.lst ((az cl.length).map λg=>V.ref (Y g)))=some (HO.lst ((az (cl.map λ_=>([]:List Nat)).length).map λg=>V.ref (Y g)));rw[ah]
    case handed j =>
     show (if j<cl.length then some (HO.lst []) else none)=((cl.map λ_=>([]:List Nat))[j]?.map λw=>HO.lst (bM w));rw[ak];by_cases z:j<cl.length
     ·rw[aq z,aa z]
      rfl
     ·rw[b3 z,jg ∅]
      rfl
   ·cases r <;> first|rfl|exact b5 rfl m|skip
    case oi j =>
     show (if ((rs.map λr:R5=>az r.d.toNat)[j]?.map λw=>HO.lst (bM w)).isSome=true then J.getD j 0 else p)=J.getD j 0;have m:(if ((rs.map λr:R5=>az r.d.toNat)[j]?.map λw=>HO.lst (bM w)).isSome=true then ((rs.map λr:R5=>az r.d.toNat)[j]?.map λw=>HO.lst (bM w)) else none)≠none:=m;cases e:(rs.map λr:R5=>az r.d.toNat)[j]? with
     |none=>rw[e] at m;exact b5 rfl m
     |some w'=>rfl
  refine k _ H17 ⟨_,dxF s We Qa,⟨G,λ_=>[],[]⟩,O3.np,O3.own,λb=>Iff.rfl,⟨ael,λi l e=>?_,⟨rfl,λi q x e=>by cases e⟩⟩⟩ O3.kp O3.fr;cases e
inductive Mc(K:af)(c:NC)(vs:List V)(H:Hp)(Q:VK)(E:XK):Prop
 |mk (F:Addr->Prop) (p tp:Addr) (n g:Nat) (s:NS):vs=[.ref p,.int g]->dF K c H F p tp n s->g<3->(∀l (qs:List Addr) H',aH H H'->H l=none->H' l=some (.lst (qs.map V.ref))->eO K H' qs (gE n (s.R g))->Q (.ref l) H')->Mc K c vs H Q E
theorem mO{t:Ad}(T:Txt K mg t):cE P w K mg base iS 2 t.sM t.xF ["self","group"]  (Mc K (nc t)):=by
 refine T.mC.F.kq Na λH Q E i h=>?_
 ·obtain⟨F,p,m,n,g,st,rfl,⟨a,r,q,j,O,s,f⟩,c,k⟩:=h
  refine⟨_,(av (dm (Ax (tW T) (i.mono (!_)) rfl T.fc.g T.fc.F.kp T.fc.B .nil QT (gz (pv 1)))) (oR (fV gp (by rfl) T.tw boot_list (gz (xL (bf (pv 0) rfl) (pv 1)))))),?_⟩
  left
  have e:=O.get .dO _ rfl;rw[j] at e;refine⟨_,rfl,g,rfl,λ_=>?_,λz=>b5 ⟨∅,∅⟩ z⟩;refine⟨_,rfl,p,_,_,_,_,rfl,e,T.bD,T.kK,rfl,_,rfl,a .zj,_,_,_,rfl,rfl,bQ.of (O.get .zj _ rfl),qw c,a (.rows g),_,rfl,.inl (bQ.of (O.get (.rows g) _ (aq c))),λl d=>?_⟩;have u:=aH.new (o:=.lst ((q.rq g).map V.ref)) d;exact k l (q.rq g) _ u d aC ((f.rows g c).mono λb x=>u.eK)
inductive Rv(K:af)(CT:Addr)(c:NC)(vs:List V)(H:Hp)(Q:VK)(E:XK):Prop
 |mk (F:Addr->Prop) (p tp ln lr:Addr) (ns:List Int) (rs:List R5) (s:NS) (g:Nat):vs=[.ref p,.int g]->NW K c CT H F p tp ln lr ns rs s->dH ns rs->BE ns rs s->g<3->(∀l H',aH H H'->H l=none->H' l=some (.lst (bM (Q0 rs s.ws g)))->Q (.ref l) H')->Rv K CT c vs H Q E
theorem Ar{t:Ad}(T:Txt K mg t):cE P w K mg base iS 3 t.sN t.xG ["self","group"]  (Rv K t.bu (nc t)):=by
 refine T.xQ.F.kq Nb λH Q E j h=>?_
 ·obtain⟨F,p,d,v,u,A,o,st,g,rfl,N,ok,i,I,k⟩:=h
  refine⟨_,(oR (Ay (bf (pv 0) rfl) T.jw T.sW.m (Ga T) (j.mono (!_)) T.sW.B .nil QT (gz (pv 1)))),?_⟩
  left
  obtain⟨a,e,q,n,O,G,D⟩:=N.dO;have c:=O.get .dO _ rfl;rw[n] at c;refine⟨_,rfl,p,_,_,_,_,rfl,c,T.bD,T.vc,rfl,a .fj,e .fj,_,rfl,O.get .fj _ rfl,rfl,_,rfl,a .fj,d,a .iY,v,u,A,o,st.ws,g,rfl,N.sA,O.strAt,i.wl,ok.Ub,(λr b=>⟨(ok.ok r b).e1,(ok.ok r b).e7⟩),λs l C J _ x y f=>?_,λz=>b5 ⟨∅,∅⟩ z⟩
  have:s=g:=∅
  subst this;exact k l C x y f
inductive Io(K:af)(CT:Addr)(c:NC)(vs:List V)(H:Hp)(Q:VK)(E:XK):Prop
 |mk (F:Addr->Prop) (p tp ln lr:Addr) (ns:List Int) (rs:List R5) (s:NS) (o:dH ns rs) (g:Nat):vs=[.ref p,.int g]->NW K c CT H F p tp ln lr ns rs s->BE ns rs s->g<3->(∀l os H',aH H H'->H l=none->H' l=some (.lst (bM os))->c8 (iI ns rs o s.ws g) (s.R g) os->os.length<=12->Q (.ref l) H')->Io K CT c vs H Q E
theorem rX{t:Ad}(T:Txt K mg t):cE P w K mg base iS 6 t.p8 t.uz ["self","group"]  (Io K t.bu (nc t)):=by
 refine T.qi.F.kq LC λH Q E e h=>?_
 ·obtain⟨F,p,d,o,n,ns,m,st,ok,g,rfl,N,j,f,k⟩:=h
  refine⟨_,(oR (Ax (NK T) (e.mono (!_)) rfl T.zM T.C2.F.kp T.C2.B .nil mK (IB (bf (pv 0) rfl) (cM (pv 0) T.bD T.xQ (Ar T) e (gz (pv 1))) (cM (pv 0) T.bD T.mC (mO T) e (gz (pv 1)))))),?_⟩
  left
  obtain⟨M,S,q,C,O,Y,X⟩:=id N.dO;have c:=O.get .dO _ rfl;rw[C] at c;refine⟨_,rfl,p,_,_,_,_,rfl,c,T.bD,T.oK,rfl,?_⟩;refine⟨_,rfl,p,_,_,rfl,c,rfl,_,rfl,F,p,d,o,n,ns,m,st,g,rfl,N,ok,j,f,λv V a u s=>?_⟩;have r:=N.mono a;refine⟨_,rfl,p,_,_,rfl,a _ _ c,rfl,_,rfl,F,p,d,ns.length,g,st,rfl,r.dO,f,λA W U b z J D=>?_⟩;refine⟨d,o,n,v,A,ns,m,_,ok.nd,ok.ok,zk,st.R g,rfl,r.sA.mono b,bQ.of (b _ _ s),D.Lk (bQ.of J),by have:=ok.jb;lia,ok.Ub,j.fit g f,λl os I y G L x i=>?_⟩;exact k l os I (a.trans (b.trans y)) ((a.trans b).free G) L x i
inductive Ip(K:af)(c:NC)(vs:List V)(H:Hp)(Q:VK)(E:XK):Prop
 |mk (F:Addr->Prop) (p tp:Addr) (n g:Nat) (s:NS):vs=[.ref p,.int g]->dF K c H F p tp n s->g<3->(s.ts g).length<2000->(∀l (qs:List Addr) (us:List T3) H',aH H H'->H l=none->H' l=some (.lst (qs.map V.ref))->gX K H' qs us->us.Perm (s.ts g)->pq us->Q (.ref l) H')->Ip K c vs H Q E
theorem yr{t:Ad}(T:Txt K mg t):cE P w K mg base iS 2 t.p9 t.uA ["self","group"]  (Ip K (nc t)):=by
 refine T.uF.F.kq LD λH Q E d h=>?_
 ·obtain⟨F,p,j,n,g,st,rfl,⟨a,f,q,i,O,o,l⟩,c,b,k⟩:=h
  refine⟨_,(av (dm (Ax (tW T) (d.mono (!_)) rfl T.fc.g T.fc.F.kp T.fc.B .nil QT (gz (pv 1)))) (oR (kN (xL (bf (pv 0) rfl) (pv 1)) T.xW T.xP.m (Jw T) (d.mono (!_)) T.xP.B .nil mK))),?_⟩
  left
  have e:=O.get .dO _ rfl;rw[i] at e;refine⟨_,rfl,g,rfl,λ_=>?_,λz=>b5 ⟨∅,∅⟩ z⟩;exact⟨_,rfl,p,_,_,_,_,rfl,e,T.bD,T.qk,rfl,_,rfl,a .kJ,_,_,_,rfl,rfl,bQ.of (O.get .kJ _ rfl),qw c,a (.book g),f (.book g),_,rfl,O.get (.book g) _ (aq c),rfl,a (.book g),a (.fB g),st.ts g,rfl,O.Lj c,b,k⟩
inductive NY(K:af)(CT:Addr)(c:NC)(vs:List V)(H:Hp)(Q:VK)(E:XK):Prop
 |mk (F:Addr->Prop) (p tp ln lr:Addr) (ns:List Int) (rs:List R5) (s:NS) (h:Nat):vs=[.ref p,.int h]->NW K c CT H F p tp ln lr ns rs s->h<ns.length->Q .fM H->NY K CT c vs H Q E
theorem tX{t:Ad}(T:Txt K mg t):cE P w K mg base iS 1 t.iu t.jG ["self","house"]  (NY K t.bu (nc t)):=by
 refine T.nQ.F.kq BU λH Q E m h=>?_
 ·obtain⟨F,p,c,r,o,ns,n,st,x,rfl,N,j,k⟩:=h
  refine⟨_,(bL (cT (lR (jS rz ug aE (pv 1) (bf (bf (pv 0) rfl) rfl))) dS bB)),?_⟩
  left
  obtain⟨f,g,q,d,O,l,i⟩:=id N.dO;obtain⟨⟨e,a⟩,_⟩:=id N.sA;have b:=O.get .dO _ rfl;rw[d] at b;refine⟨_,rfl,_,_,rfl,rfl,_,rfl,?_⟩;rw[cy (show (0:Int)<=(x:Int) by lia)];refine iC ⟨_,rfl,p,_,_,_,_,rfl,b,T.bD,T.oK,rfl,c,_,e,_,_,rfl,a,T.fG,T.mL,rfl,_,_,rfl,rfl,_,rfl,?_⟩;rw[cy (show (x:Int)<(ns.length:Int) by lia)];exact gD k
inductive Ku(K:af)(c:NC)(vs:List V)(H:Hp)(Q:VK)(E:XK):Prop
 |mk (F:Addr->Prop) (p tp:Addr) (n x:Nat) (s:NS):vs=[.ref p,.int x]->dF K c H F p tp n s->x<s.aD.length->Q .fM H->Ku K c vs H Q E
theorem iE{t:Ad}(T:Txt K mg t):cE P w K mg base iS 1 t.gK t.i9 ["self","caller"]  (Ku K (nc t)):=by
 refine T.gM.F.kq AZ λH Q E j h=>?_
 ·obtain⟨F,p,d,n,x,st,rfl,⟨a,e,q,c,O,i,f⟩,g,k⟩:=h
  refine⟨_,(bL (cT (lR (jS rz ug aE (pv 1) (lS T.iP (bf (pv 0) rfl)))) dS bB)),?_⟩
  left
  have b:=O.get .dO _ rfl;rw[c] at b;refine⟨_,rfl,_,_,rfl,rfl,_,rfl,?_⟩;rw[cy (show (0:Int)<=(x:Int) by lia)];refine iC ⟨_,rfl,p,_,_,_,_,rfl,b,T.bD,T.iV,rfl,a .aD,_,rfl,.inl (bQ.of (O.get .aD _ rfl)),_,_,rfl,rfl,_,rfl,?_⟩;rw[ah,cy (show (x:Int)<(st.aD.length:Int) by lia)];exact gD k
inductive NZ(K:af)(CT:Addr)(c:NC)(vs:List V)(H:Hp)(Q:VK)(E:XK):Prop
 |mk (F:Addr->Prop) (p tp ln lr:Addr) (ns:List Int) (rs:List R5) (s:NS) (h g:Nat):vs=[.ref p,.int h,.int g]->NW K c CT H F p tp ln lr ns rs s->h<ns.length->g<3->(∀q H',aH H H'->c7 K H' q (cU (s.R g h))->Q (.ref q) H')->NZ K CT c vs H Q E
theorem Jz{t:Ad}(T:Txt K mg t):cE P w K mg base iS 3 t.nB t.rO ["self","house","group"]  (NZ K t.bu (nc t)):=by
 refine T.C5.F.kq IT λH Q E f h=>?_
 ·obtain⟨F,p,d,s,r,ns,o,st,x,g,rfl,N,e,u,k⟩:=h
  refine⟨_,(av (dm (cM (pv 0) T.bD T.nQ (tX T) f (gz (pv 1)))) (oR (xL (cM (pv 0) T.bD T.mC (mO T) f (gz (pv 2))) (pv 1)))),?_⟩
  left
  obtain⟨z,A,q,n,O,D,C⟩:=id N.dO;have c:=O.get .dO _ rfl;rw[n] at c;refine⟨_,rfl,p,_,_,rfl,c,rfl,_,rfl,F,p,d,s,r,ns,o,st,x,rfl,N,e,?_⟩;refine⟨_,rfl,p,_,_,rfl,c,rfl,_,rfl,F,p,d,ns.length,g,st,rfl,N.dO,u,λl b j m G y i=>?_⟩;have B:b.length=ns.length:=by rw[i.len];simp[gE]
  have a:x<b.length:=∅
  refine⟨_,rfl,l,_,_,_,rfl,rfl,bQ.of y,fD (v:=.ref b[x]) (by rw[ak,aa a];rfl),k _ j m (i.at' x _ _ (aa a) ?_)⟩;unfold gE;rw[ak,dX e];rfl
inductive Oa(K:af)(c:NC)(vs:List V)(H:Hp)(Q:VK)(E:XK):Prop
 |mk (F:Addr->Prop) (p tp:Addr) (n x:Nat) (s:NS) (hx:x<s.aD.length):vs=[.ref p,.int x]->dF K c H F p tp n s->Q (.int (s.aD[x]:Nat)) H->Oa K c vs H Q E
theorem Me{t:Ad}(T:Txt K mg t):cE P w K mg base iS 2 t.qc t.uB ["self","caller"]  (Oa K (nc t)):=by
 refine T.E4.F.kq LF λH Q E e h=>?_
 ·obtain⟨F,p,d,n,x,st,c,rfl,N,k⟩:=h
  refine⟨_,(av (dm (cM (pv 0) T.bD T.gM (iE T) e (gz (pv 1)))) (oR (xL (bf (pv 0) rfl) (pv 1)))),?_⟩
  left
  obtain⟨b,g,q,f,O,j,i⟩:=id N;have a:=O.get .dO _ rfl;rw[f] at a;refine⟨_,rfl,p,_,_,rfl,a,rfl,_,rfl,F,p,d,n,x,st,rfl,N,c,?_⟩;exact⟨_,rfl,p,_,_,_,_,rfl,a,T.bD,T.iV,rfl,_,rfl,b .aD,_,_,_,rfl,rfl,bQ.of (O.get .aD _ rfl),kQ c,k⟩
inductive Kv(K:af)(c:NC)(vs:List V)(H:Hp)(Q:VK)(E:XK):Prop
 |mk (F:Addr->Prop) (p tp:Addr) (n:Nat) (s:NS):vs=[.ref p]->dF K c H F p tp n s->(∀l (qs:List Addr) H',aH H H'->H l=none->H' l=some (.lst (qs.map V.ref))->eO K H' qs (s.cps.map Cp.vs)->Q (.ref l) H')->Kv K c vs H Q E
theorem JA{t:Ad}(T:Txt K mg t):cE P w K mg base iS 1 t.nC t.rP ["self"]  (Kv K (nc t)):=by
 refine T.xR.F.kq IU λH Q E m h=>?_
 ·obtain⟨F,p,g,n,st,rfl,N,k⟩:=h
  refine⟨_,(oR (fV gp (by rfl) T.tw boot_list (gz (bf (pv 0) rfl)))),?_⟩
  left
  obtain⟨a,i,q,f,O,j,e⟩:=id N;have d:=O.get .dO _ rfl;rw[f] at d;refine⟨_,rfl,p,_,_,_,_,rfl,d,T.bD,T.nV,rfl,a .lX,_,rfl,.inl (bQ.of (O.get .lX _ rfl)),λl c=>?_⟩;have u:=aH.new (o:=.lst (q.cq.map V.ref)) c;exact k l q.cq _ u c aC (e.cps.mono λb x=>u.eK)
noncomputable def ql(g:Nat)(l:LS):LS:=if l.grp=g then {l with old:=true} else l
noncomputable def Dw(s:NS)(g:Nat):NS:={s with ts:=fH s.ts g [],ls:=s.ls.map (ql g)}
inductive Rx(K:af)(c:NC)(vs:List V)(H:Hp)(Q:VK)(E:XK):Prop
 |mk (F:Addr->Prop) (p tp:Addr) (n g:Nat) (s:NS):vs=[.ref p,.int g]->dF K c H F p tp n s->g<3->(∀F' H',dF K c H' F' p tp n (Dw s g)->Step H F H' F'->Q .fM H')->Rx K c vs H Q E
theorem wN{t:Ad}(T:Txt K mg t):cE P w K mg base iS 2 t.jm t.lK ["self","group"]  (Rx K (nc t)):=by
 refine T.qJ.F.kq vZ λH Q E hr h=>?_
 ·obtain⟨F,p,R,n,g,st,rfl,⟨f,dx,q,Z,O,hF,hT⟩,v,k⟩:=h
  refine⟨_,(av (dm (kN (xL (bf (pv 0) rfl) (pv 1)) T.xW T.uY.m (Ik T) (hr.mono (!_)) T.uY.B .nil mK)) (bL (fS (ir (bf (pv 0) rfl)) (gT 2 vZ) (bL (cT (qT vO (bf (pv 2) rfl) (pv 1)) (bL (fZ (pv 2) Qp rfl)) bB))))),?_⟩
  left
  have bP:=O.get .dO _ rfl;rw[Z] at bP;refine⟨_,rfl,p,_,_,_,_,rfl,bP,T.bD,T.qk,rfl,_,rfl,f .kJ,_,_,_,rfl,rfl,bQ.of (O.get .kJ _ rfl),qw v,f (.book g),dx (.book g),_,rfl,O.get (.book g) _ (aq v),rfl,f (.book g),f (.fB g),st.ts g,rfl,O.Lj v,λd' U N hB kp=>?_⟩;obtain⟨⟨Vq,D⟩,C⟩:=hB;obtain⟨s,N',G⟩:=PB Z O hF hT v N D C kp;obtain⟨b,j,q',Y,x,I,M⟩:=N';have X:kR K (nc t) U s b j q' p R n {st with ts:=fH st.ts g []}:=⟨Y,x,I,M⟩;have W:=x.get .dO _ rfl;rw[Y] at W;have Yv:=x.get .cW _ rfl;refine⟨_,rfl,p,_,_,_,_,rfl,W,T.bD,T.ff,rfl,b .cW,rfl,⟨_,bQ.of Yv⟩,vM (K:=K) (a:=b .cW) (xs:=(az st.ls.length).map λi=>.ref (b (.bW i))) (λi u o=>kR K (nc t) o s b j q' p R n {st with ts:=fH st.ts g [],ls:=(st.ls.take i).map (ql g)++st.ls.drop i}/\Step U s o s/\∃J:Option V,u=[some (.ref p),some (.int g),J]) ⟨by rw[List.take_zero,List.drop_zero];exact X,Step.refl' (aH.refl _),_,rfl⟩ (λi u o _ z=>?_) ?_ ?_⟩
  ·have e:=z.1.own.get .cW _ rfl
   have el:((st.ls.take i).map (ql g)++st.ls.drop i).length=st.ls.length:=by
    rw[aA,ah,<- aA,mQ]
   refine bQ.of (e.trans ?_);show some (HO.lst ((az ((st.ls.take i).map (ql g)++st.ls.drop i).length).map _))=_;rw[el]
  ·rintro i y u o A ⟨r,c,J,rfl⟩
   have d:i<st.ls.length:=by
    have:=(ai.mp A).1
    rw[ah,bG] at this;exact this
   rw[ak,dX d] at A;cases A;have l:((st.ls.take i).map (ql g)++st.ls.drop i)[i]?=some st.ls[i]:=by
    rw[bC (by rw[ah,cH];lia),ah,cH,Nat.min_eq_left ∅,fE,List.getElem?_drop,Nat.add_zero];exact aa d
   have S:=r.own.get (.bW i) (m8 (nc t) j b i st.ls[i]) (by show (((st.ls.take i).map (ql g)++st.ls.drop i)[i]?.map _)=_;rw[l];rfl);have next:(st.ls.take (i+1)).map (ql g)++st.ls.drop (i+1)=((st.ls.take i).map (ql g)++st.ls.drop i).set i (ql g st.ls[i]):=by
    rw[List.take_add_one,aa d,aS,eF,mS _ _ (by rw[ah,cH];lia),ah,cH,Nat.min_eq_left ∅,fE,jz d];rfl
   rw[next];refine⟨_,rfl,_,_,_,_,_,rfl,S,T.dG,T.kj,rfl,_,rfl,rfl,_,rfl,kP (λe=>?_) (λe=>?_)⟩
   ·have e:(st.ls[i]).grp=g:=by
     have:=V.int.inj (eL e)
     lia
    refine⟨_,rfl,_,_,_,_,rfl,S,T.dG,T.xV,(by show 5<1000;decide),?_⟩;obtain⟨X3,L⟩:=XT r l;refine⟨?_,c.trans L,_,rfl⟩;unfold ql;rw[aq e];exact X3
   ·have e:¬(st.ls[i]).grp=g:=λz=>e (cy (by rw[z]))
    refine⟨?_,c,_,rfl⟩
    have:ql g st.ls[i]=st.ls[i]:=b3 e
    rw[this,zl l];exact r
  ·rintro u o ⟨r,c,J,rfl⟩
   rw[ah,bG,cO (aB _),List.drop_eq_nil_of_le (aB _),bZ] at r;exact k s o r.dO (G.trans c)
noncomputable def FD(s:NS)(g x:Nat)(d:RM.Row):NS:=if d=s.R g x then s else Dw {s with R:=fH s.R g (RM.upd (s.R g) x d)} g
inductive Ob(K:af)(CT:Addr)(c:NC)(vs:List V)(H:Hp)(Q:VK)(E:XK):Prop
 |mk (F:Addr->Prop) (p tp ln lr:Addr) (ns:List Int) (rs:List R5) (s:NS) (o:dH ns rs) (x g:Nat):vs=[.ref p,.int x,.int g]->NW K c CT H F p tp ln lr ns rs s->BE ns rs s->x<ns.length->g<3->(∀d F' H',RM.U9 (N:=iI ns rs o s.ws g) ns.length (s.R g) x d->BD ns.length rs.length d->dF K c H' F' p tp ns.length (FD s g x d)->Step H F H' F'->Q (.bl (!decide (d=s.R g x))) H')->Ob K CT c vs H Q E
theorem Oc{t:Ad}(T:Txt K mg t):cE P w K mg base iS 4 t.sO t.xH ["self","house","group"]  (Ob K t.bu (nc t)):=by
 refine T.Hh.F.kq zF λH Q E c h=>?_
 ·obtain⟨F,p,n,L,B,ns,X,st,ok,x,g,rfl,N,s,f,a,k⟩:=h
  refine⟨_,(av (sS 3 zF (cM (pv 0) T.bD T.C5 (Jz T) c (rA (pv 1) (pv 2)))) (av (sS 4 zF (cG (abg T) c T.Zv (g8 (bf (pv 0) rfl) (cM (pv 0) T.bD T.xQ (Ar T) c (gz (pv 2))) (cM (pv 0) T.bD T.mC (mO T) c (gz (pv 2))) (pv 1)))) (av (cT (qT DK (pv 4) (pv 3)) oB bB) (av (KZ (pv 4) (KY (xL (bf (pv 0) rfl) (pv 2)) (pv 1) set_list)) (av (dm (cM (pv 0) T.bD T.qJ (wN T) c (gz (pv 2)))) oB))))),?_⟩
  left
  obtain⟨loc,dx,q,hp,O,hF,hT⟩:=id N.dO;have U:=O.get .dO _ rfl;rw[hp] at U;refine⟨_,rfl,p,_,_,rfl,U,rfl,_,rfl,_,rfl,F,p,n,L,B,ns,X,st,x,g,rfl,N,f,a,λq1 H1 M J=>?_⟩;have N1:=N.mono M;have C:=M _ _ U;refine⟨_,rfl,p,_,_,_,_,rfl,C,T.bD,T.oK,rfl,?_⟩;refine⟨_,rfl,p,_,_,rfl,C,rfl,_,rfl,F,p,n,L,B,ns,X,st,g,rfl,N1,ok,s,a,λl2 H2 y hl2 h2=>?_⟩;have N2:=N1.mono y;refine⟨_,rfl,p,_,_,rfl,y _ _ C,rfl,_,rfl,F,p,n,ns.length,g,st,rfl,N2.dO,a,λl3 qs H3 A hl3 h3 ht=>?_⟩;have N3:=N2.mono A;refine⟨_,rfl,n,L,B,l2,l3,ns,X,_,ok.nd,ok.ok,zk,st.R g,x,rfl,N3.sA,bQ.of (A _ _ h2),ht.Lk (bQ.of h3),f,ok.Ub,(s.fit g a).aaP,λq4 d Y s4 j b=>?_⟩;have v:=XE (s.fit g a) f ok.pos b;have N4:=N3.mono s4;have r:=y.trans (A.trans s4);have l:=M.trans r;refine⟨_,rfl,_,rfl,RM.t8 d,RM.t8 (st.R g x),RM.vS j,RM.vS (r.eK J),RM.vU _,RM.vU _,bO (cJ (aU (fN _ _) (by rw[RM.DL];decide:(RM.t8 d).depth<=64)) _) c.units,?_⟩;rw[RM.MP v.by1 (s.fit g a x f).by1];refine⟨_,rfl,kP (λe=>?_) (λe=>?_)⟩
  ·have m:d=st.R g x:=eL e
   have:=k d F Y b v (by unfold FD;rw[aq m];exact N4.dO) (Step.refl' l)
   rw[cy m] at this;exact this
  ·have m:¬d=st.R g x:=λz=>e (cy z)
   obtain⟨G,WW,i,Tp,u,W,o⟩:=id N4.dO;have Z:=u.get .dO _ rfl;rw[Tp] at Z;have I:(i.rq g).length=ns.length:=by rw[(o.rows g a).len];simp[gE]
   obtain⟨F5,S,JF⟩:=XR Tp u W o a f j;refine⟨_,rfl,_,rfl,p,_,_,_,_,rfl,Z,T.bD,T.kK,rfl,_,rfl,G .zj,_,_,_,rfl,rfl,bQ.of (u.get .zj _ rfl),qw a,_,rfl,G (.rows g),_,_,_,rfl,rfl,u.get (.rows g) _ (aq a),CK (by rw[ah,I];exact f),?_⟩;generalize upd Y (G (.rows g)) (.lst (((i.rq g).map V.ref).set x (.ref q4)))=H5 at S JF;obtain⟨Wg,tS,q5,WV,O5,hF5,hT5⟩:=id S;have ZN:=O5.get .dO _ rfl;rw[WV] at ZN;refine⟨_,rfl,p,_,_,rfl,ZN,rfl,_,rfl,F5,p,n,ns.length,g,_,rfl,S,a,λF6 H6 N6 D=>?_⟩
   have:=k d F6 H6 b v (by unfold FD;rw[b3 m];exact N6) ((Step.refl' l).trans (JF.trans D))
   rw[c6 m] at this;exact this
theorem Au{n:Nat}(h:n<=1000000):n<sizeLine:=bO h (by show 1000000<2^24;decide)
inductive Ry(K:af)(c:NC)(vs:List V)(H:Hp)(Q:VK)(E:XK):Prop
 |mk (F:Addr->Prop) (p tp:Addr) (n x:Nat) (to:Option Nat) (s:NS):vs=[.ref p,.int x,FI (to.map λy:Nat=>(y:Int))]->dF K c H F p tp n s->x<s.aD.length->s.groups.length=s.aD.length->(∀y,to=some y->y<s.aD.length/\s.groups[y]?=s.groups[x]?)->Q .fM H->Ry K c vs H Q E
theorem Dy{t:Ad}(T:Txt K mg t):cE P w K mg base iS 2 t.iM t.kE ["self","sender","to"]  (Ry K (nc t)):=by
 refine T.wD.F.kq CU λH Q E i h=>?_
 ·obtain⟨F,p,g,n,x,o,st,rfl,N,s,m,f,k⟩:=h
  refine⟨_,(av (dm (cM (pv 0) T.bD T.gM (iE T) i (gz (pv 1)))) (bL (cT (qT K2 (pv 2) om) (av (dm (cM (pv 0) T.bD T.gM (iE T) i (gz (pv 2)))) (bL (cT (qT uf (xL (bf (pv 0) rfl) (pv 1)) (xL (bf (pv 0) rfl) (pv 2))) dS bB))) bB))),?_⟩
  left
  obtain⟨d,v,q,u,O,A,z⟩:=id N;have b:=O.get .dO _ rfl;rw[u] at b;refine⟨_,rfl,p,_,_,rfl,b,rfl,_,rfl,F,p,g,n,x,st,rfl,N,s,?_⟩;cases o with
  |none=>exact⟨_,rfl,rfl,_,rfl,gD k⟩
  |some y =>
   obtain⟨r,j⟩:=f y rfl;refine⟨_,rfl,rfl,_,rfl,iC ?_⟩;refine⟨_,rfl,p,_,_,rfl,b,rfl,_,rfl,F,p,g,n,y,st,rfl,N,r,?_⟩;have a:=bQ.of (K:=K) (O.get .groups _ rfl);have l:x<st.groups.length:=∅
   have c:y<st.groups.length:=∅
   have e:st.groups[y]=st.groups[x]:=by
    rw[aa c,aa l] at j;exact aI j
   refine⟨_,rfl,p,_,_,_,_,rfl,b,T.bD,T.kG,rfl,_,rfl,d .groups,_,_,_,rfl,rfl,a,kQ l,_,rfl,p,_,_,_,_,rfl,b,T.bD,T.kG,rfl,_,rfl,d .groups,_,_,_,rfl,rfl,a,kQ c,rfl,_,rfl,?_⟩;rw[e,cy rfl];exact gD k
noncomputable def fF(s:NS)(x h:Nat):NS:=if s.aD[x]?=some h then s else Dw {s with aD:=s.aD.set x h} (s.groups.getD x 0)
inductive Rz(K:af)(CT:Addr)(c:NC)(vs:List V)(H:Hp)(Q:VK)(E:XK):Prop
 |mk (F:Addr->Prop) (p tp ln lr:Addr) (ns:List Int) (rs:List R5) (s:NS) (x h:Nat):vs=[.ref p,.int x,.int h]->NW K c CT H F p tp ln lr ns rs s->x<s.aD.length->s.groups.length=s.aD.length->(∀g∈s.groups,g<3)->h<ns.length->(∀F' H',NW K c CT H' F' p tp ln lr ns rs (fF s x h)->Step H F H' F'->Q .fM H')->Rz K CT c vs H Q E
theorem Oe{t:Ad}(T:Txt K mg t):cE P w K mg base iS 3 t.sP t.xJ ["self","caller","house"]  (Rz K t.bu (nc t)):=by
 refine T.Hi.F.kq Nc λH Q E n h=>?_
 ·obtain⟨F,p,i,M,L,ns,J,st,x,y,rfl,N,j,A,m,B,k⟩:=h
  refine⟨_,(av (dm (cM (pv 0) T.bD T.gM (iE T) n (gz (pv 1)))) (av (dm (cM (pv 0) T.bD T.nQ (tX T) n (gz (pv 2)))) (bL (cT (qT uf (pv 2) (xL (bf (pv 0) rfl) (pv 1))) (av (KZ (pv 2) (KY (bf (pv 0) rfl) (pv 1) set_list)) (oE (cM (pv 0) T.bD T.qJ (wN T) n (gz (xL (bf (pv 0) rfl) (pv 1)))))) bB)))),?_⟩
  left
  obtain⟨a,u,q,hp,O,I,C⟩:=id N.dO;have X:kR K (nc t) H F a u q p i ns.length st:=⟨hp,O,I,C⟩;have g:=O.get .dO _ rfl;rw[hp] at g;have f:=O.get .aD _ rfl;have r:x<st.groups.length:=∅
  refine⟨_,rfl,p,_,_,rfl,g,rfl,_,rfl,F,p,i,ns.length,x,st,rfl,N.dO,j,?_⟩;refine⟨_,rfl,p,_,_,rfl,g,rfl,_,rfl,F,p,i,M,L,ns,J,st,y,rfl,N,B,?_⟩;refine⟨_,rfl,_,rfl,p,_,_,_,_,rfl,g,T.bD,T.iV,rfl,_,rfl,a .aD,_,_,_,rfl,rfl,bQ.of f,kQ j,rfl,_,rfl,?_⟩;unfold fF at k;rw[aa j] at k;by_cases e:st.aD[x]=y
  ·rw[aq (by rw[e])] at k
   rw[e,cy rfl];exact gD (k F H N (Step.refl' (aH.refl _)))
  ·rw[b3 (λz=>e (aI z))] at k
   rw[c6 (λz=>e (by have:=V.int.inj z;lia))];refine iC ?_;refine⟨_,rfl,_,rfl,p,_,_,_,_,rfl,g,T.bD,T.iV,rfl,_,rfl,a .aD,_,_,x,rfl,rfl,f,(by rw[ah];exact CK j),?_⟩;have D:(bM st.aD).set x (.int (y:Nat))=bM (st.aD.set x y):=by rw[bM,bM,vI]
   rw[D];obtain⟨c,b⟩:=Vt X (st.aD.set x y);generalize upd H (a .aD) (.lst (bM (st.aD.set x y)))=H1 at c b;have o:=c.own.get .dO _ rfl;rw[c.hp] at o;have l:=bQ.of (K:=K) (c.own.get .groups _ rfl);have S:=N.done b c.dO;have R:st.groups.getD x 0=st.groups[x]:=by rw[au,aa r];rfl
   rw[R] at k;refine⟨_,rfl,p,_,_,rfl,o,rfl,_,rfl,p,_,_,_,_,rfl,o,T.bD,T.kG,rfl,_,rfl,a .groups,_,_,_,rfl,rfl,l,kQ r,F,p,i,ns.length,st.groups[x],_,rfl,c.dO,m _ (aM r),λs v G d=>?_⟩;exact k s v (S.done d G) (b.trans d)
noncomputable def EA(s:NS)(h g x:Nat):Bool:=decide (s.aD[x]?=some h/\s.groups[x]?=some g)
noncomputable def rD(s:NS)(h g:Nat):List Nat:=(az s.aD.length).filter (EA s h g)
theorem yt{f:Nat->Bool}{i:Nat}:(az (i+1)).filter f=(az i).filter f++if f i=true then [i] else []:=by
 rw[iF,fP];congr 1;cases e:f i
 ·rw[b3 (!_),iy (by rw[e];decide)];rfl
 ·rw[aq rfl,iw e];rfl
inductive RA(K:af)(c:NC)(vs:List V)(H:Hp)(Q:VK)(E:XK):Prop
 |mk (F:Addr->Prop) (p tp:Addr) (n h g:Nat) (s:NS):vs=[.ref p,.int h,.int g]->dF K c H F p tp n s->s.groups.length=s.aD.length->s.aD.length<=20->(∀l H',aH H H'->H l=none->H' l=some (.lst (bM (rD s h g)))->Q (.ref l) H')->RA K c vs H Q E
theorem Dz{t:Ad}(T:Txt K mg t):cE P w K mg base iS 1 t.iL t.kD ["self","house","group"]  (RA K (nc t)):=by
 refine T.wC.F.kq ng λH Q E X h=>?_
 ·obtain⟨F,p,tp,n,c,g,st,rfl,N,W,Ao,k⟩:=h
  refine⟨_,(av (sS 3 ng (iH (rA (pv 1) (pv 2)))) (oR (gq (kO ng ["caller","self","there"] [none,some 0,some 3]) rfl (eS rfl T.gv (gz (lS T.iP (bf (pv 0) rfl)))) (λ_ _ _ _=>by exact (gS 0 zG)) (λ_ _ _ _=>by exact (rE (qT (Xw K rfl X.units) (iH (rA (yL K (Ge K rfl (pv 1) rfl) (pv 0)) (yL K (Ge K rfl (pv 1) rfl) (pv 0)))) (pv 2)))) (λ_ _ _ _=>by exact (pv 0))))),?_⟩
  left
  refine⟨_,rfl,_,rfl,e8,λU x=>?_⟩;have m:=aH.new (o:=.tup [V.int c,V.int g]) x;have G:=aC (H:=H) (a:=U) (o:=.tup [V.int c,V.int g]);generalize upd H U (.tup [V.int c,V.int g])=H1 at m G;obtain⟨d,dx,q,Y,O,hF,hT⟩:=N.mono m;have A:=O.get .dO _ rfl;rw[Y] at A;have j:=bQ.of (K:=K) (O.get .aD _ rfl);have u:=bQ.of (K:=K) (O.get .groups _ rfl);refine⟨_,rfl,p,_,_,_,_,rfl,A,T.bD,T.iV,rfl,d .aD,_,rfl,.inl j,(((bM st.aD).length:Nat):Int),rfl,∅,by rw[ah];lia,λz b=>?_⟩;rw[ah];refine fX (n:=((st.aD.length:Int)).toNat) (λi r _=>r=bM ((az i).filter (EA st c g))) b w6 mW rfl ?_ ?_
  ·rintro i r S I e v rfl y H4 ⟨rfl,rfl⟩
   rw[fU];have f:i<st.aD.length:=∅
   have l:i<st.groups.length:=∅
   have J:=e _ _ A;refine⟨_,rfl,p,_,_,_,_,rfl,J,T.bD,T.iV,rfl,_,rfl,d .aD,_,_,_,rfl,rfl,e.seq j,kQ f,_,rfl,p,_,_,_,_,rfl,J,T.bD,T.kG,rfl,_,rfl,d .groups,_,_,_,rfl,rfl,e.seq u,kQ l,e8,λz1 B=>?_⟩;have D:=aH.new (o:=.tup [V.int (st.aD[i]:Nat),V.int (st.groups[i]:Nat)]) B;have C:=e.trans D;have R:=D _ _ v;refine⟨_,rfl,.tuple (([(st.aD[i]:Int),(st.groups[i]:Int)]:List Int).map .int),.tuple (([(c:Int),(g:Int)]:List Int).map .int),Rep.MH (ns:=[(st.aD[i]:Int),(st.groups[i]:Int)]) (c7.of aC),Rep.MH (ns:=[(c:Int),(g:Int)]) (c7.of (C _ _ G)),jX _,jX _,(by show PyData.depthAll _+1<=64;rw[oz];decide),_,rfl,?_⟩
   try dsimp only
   have Z:EA st c g i=decide ((st.aD[i]:Int)=(c:Int)/\(st.groups[i]:Int)=(g:Int)):=by
    unfold EA;rw[aa f,aa l,decide_eq_decide];constructor
    ·rintro⟨M,L⟩
     exact⟨by rw[aI M],by rw[aI L]⟩
    ·rintro⟨M,L⟩
     exact⟨er some ∅,er some ∅⟩
   rw[XU,<- Z];refine kP (λs=>?_) (λs=>?_)
   ·refine⟨_,rfl,?_⟩
    refine d8 b I C R ?_ ?_
    ·rw[ah]
     refine cP (aU (bY _ _) ?_);rw[bG];lia
    ·rw[yt,aq s,lV]
   ·refine kr I C R ?_
    rw[yt,b3 s,bZ]
  ·rintro r S e v rfl
   have Yk:=m.trans e;exact k z S Yk (m.free b) v
inductive Kw(K:af)(CT C NW:Addr)(vs:List V)(H:Hp)(Q:VK)(E:XK):Prop
 |mk (p tp lu ln lr:Addr) (ns:List Int) (rs:List R5) (ws:List (List Nat)) (i x:Int):vs=[.ref p,.int i,.int x]->dc K CT H tp ln lr ns rs->QV C H p tp lu ws->ws.length=rs.length->(∀(j:Nat) w H',i=(j:Int)->ws[j]?=some w->aH H H'->(w=[]->Q .fM H')/\(∀k:Nat,w[(x%(w.length:Int)).toNat]?=some k->w≠[]->Q (.int (k:Nat)) H'))->(¬(0<=i/\i<rs.length)->E (.ref NW) none H)->Kw K CT C NW vs H Q E
theorem A2{t:Ad}(T:Txt K mg t):cE P w K mg base (EU P w) 2 t.gJ t.i8 ["self","rope","number"]  (Kw K t.bu t.dg t.CZ):=by
 refine T.mz.F.XW rC λH Q E r h=>?_
 ·obtain⟨p,A,u,S,R,W,N,Z,i,x,rfl,L,n,s,k,G⟩:=h
  obtain⟨⟨C,O⟩,_⟩:=id n;refine⟨_,(av (sS 3 rC (Ay (pv 0) T.jw T.mq.m (A0 T) (r.mono (!_)) T.mq.B .nil Zl (gz (pv 1)))) (av (cT (qT DK (pv 3) (jB iz)) (oR om) bB) (oR (xL (pv 3) (bx dZ (pv 2) (lS T.iP (pv 3))))))),?_⟩
  left
  refine⟨_,rfl,p,C,_,rfl,O,rfl,_,rfl,p,A,u,S,R,W,N,Z,i,rfl,L,n,s,λj e l H1 v hj D O6 U=>?_,G⟩;refine⟨_,rfl,bI _,λq X=>?_⟩;have g:=aH.new (o:=.lst []) X;have c:=g _ _ U;refine⟨.list ((e.map λk:Nat=>(k:Int)).map .int),.list [],⟨l,_,rfl,bQ.of c,(by rw[iX];exact pW _)⟩,⟨q,_,rfl,bQ.of aC,rfl⟩,jX _,rfl,bO (cJ (aU (Nat.min_le_right _ _) (!_)) _) r.units,_,rfl,?_⟩;obtain⟨Y,I⟩:=k j e _ v hj (D.trans g);cases e with
  |nil=>exact iC (Y rfl)
  |cons y b =>
   refine gD ?_;have a:(0:Int)<(((y::b).length:Nat):Int):=by rw[bE];lia
   have M:=bT x (show (((y::b).length:Nat):Int)≠0 by lia);have J:=cu x a;have d:(x%(((y::b).length:Nat):Int)).toNat<(y::b).length:=∅
   refine⟨_,rfl,_,rfl,_,rfl,l,_,rfl,.inl (bQ.of c),_,_,rfl,(by rw[ah]),a,?_⟩;obtain⟨z,f⟩:∃z,(y::b)[(x%(((y::b).length:Nat):Int)).toNat]?=some z:=⟨_,aa d⟩;refine⟨l,_,_,V.int (z:Nat),rfl,rfl,bQ.of c,?_,I z f (by intro z;cases z)⟩;rw[show x%(((y::b).length:Nat):Int)=(((x%(((y::b).length:Nat):Int)).toNat:Nat):Int) by lia];exact fD (by rw[ak,f];rfl)
noncomputable def Av(l:LS)(h:Nat):Bool:=(CH (l.done.map λh:Nat=>((gA (h:Int):Key),V.bl true)) (gA (h:Int))).isSome
inductive RB(K:af)(CT:Addr)(c:NC)(vs:List V)(H:Hp)(Q:VK)(E:XK):Prop
 |mk (F:Addr->Prop) (loc dx:Role->Addr) (q:TQ) (p tp ln lr:Addr) (ns:List Int) (rs:List R5) (s:NS) (o:dH ns rs) (i r h:Nat) (l:LS):vs=[.ref p,.ref (loc (.bW i)),.int r,.int h]->kR K c H F loc dx q p tp ns.length s->NW K c CT H F p tp ln lr ns rs s->BE ns rs s->s.ls[i]?=some l->l.grp<3->(∀os H',aH H H'->c8 (iI ns rs o s.ws l.grp) (s.R l.grp) os->os.length<=12->Q (.str (if r∈os then (if Av l h=true then "twice" else "come") else "lost")) H')->RB K CT c vs H Q E
theorem Iq{t:Ad}(T:Txt K mg t):cE P w K mg base iS 7 t.ly t.pO ["self","posted","rope","house"]  (RB K t.bu (nc t)):=by
 refine T.Be.F.kq G7 λH Q E s h=>?_
 ·obtain⟨F,a,x,q,p,v,C,B,G,A,st,o,i,r,D,l,rfl,X,N,y,b,I,k⟩:=h
  refine⟨_,(av (cT (o6 wY (pv 2) (cM (pv 0) T.bD T.qi (rX T) s (gz (bf (pv 1) rfl))) (by with_unfolding_all rfl)) (oR sf) bB) (oR (vK (aac (aaB (MF s) (pv 3) (bf (pv 1) rfl)) (by with_unfolding_all rfl)) sf sf))),?_⟩
  left
  have u:=X.own.get .dO _ rfl;rw[X.hp] at u;have n:=X.own.get (.bW i) (m8 (nc t) x a i l) (by show (st.ls[i]?.map _)=_;rw[b];rfl);have j:=X.own.get (.done i) (.dK (l.done.map λh:Nat=>(gA (h:Int),.bl true))) (by show (st.ls[i]?.map _)=_;rw[b];rfl);refine⟨_,rfl,_,rfl,p,_,_,rfl,u,rfl,_,rfl,a (.bW i),_,_,_,_,rfl,n,T.dG,T.kj,rfl,F,p,v,C,B,G,A,st,o,l.grp,rfl,N,y,I,λlo os z f J c d m=>⟨lo,_,rfl,.inl (bQ.of c),rfl,rZ _,_,rfl,?_⟩⟩
  try dsimp only
  rw[aq rfl,ze];have k:=k os z f d m;by_cases e:r∈os
  ·rw[aq e] at k
   rw[cy e];refine gD ?_;refine⟨_,rfl,_,rfl,a (.bW i),_,_,_,_,rfl,f _ _ n,T.dG,T.oJ,rfl,a (.done i),_,rfl,IJ.k (k:=.inl (D:Int)) (f _ _ j),_,rfl,?_⟩;unfold Av at k;refine kP (λg=>?_) (λg=>?_)
   ·rw[aq g] at k
    exact k
   ·rw[b3 g] at k
    exact k
  ·rw[b3 e] at k
   rw[c6 e];exact iC k
noncomputable def gP(l:LS):Nat:=if l.kd=1 then l.s+l.to+1 else l.s
theorem Yx{t:Ad}(T:Txt K mg t){b a:Role->Addr}{f:L2.St}{H:Hp}{Q:VK}{i:Nat}{l:LS}(j:∀Q:VK,Q (.ref (a (.bW i))) H->Bv 4 f H Q)(h:H (a (.bW i))=some (m8 (nc t) b a i l))(c:H (a (.letter i))=some (rG (nc t) (b (.letter i)) l))(q:Q (.int (gP l:Nat)) H) :
 yV t.iN (Str.ofString "number") (AQ K) [] E0 (Gx K (Bv 4) (Str.ofString "letter")) vP f H Q∨yV t.fY (Str.ofString "number") (Ey t.fY) [] E0 (Gx K (Bv 4) (Str.ofString "letter")) vP f H Q∨yV t.jd (Str.ofString "number") (AQ K) [] E0 (Gx K (Bv 4) (Str.ofString "letter")) vP f H Q:=by
 by_cases e:l.kd=1
 ·have d:H (a (.letter i))=some (.ins t.fY (b (.letter i)) [("sender",.int l.s),("to",.int l.to)]):=by rw[c];unfold rG;rw[aq e]
  have g:V.int ((l.s:Int)+(l.to:Int)+1)=.int (gP l:Nat):=by unfold gP;rw[aq e];rfl
  refine .inr (.inl ?_);unfold yV Gx;exact (j _ ⟨a (.bW i),_,_,_,_,rfl,h,T.dG,T.gZ,rfl,a (.letter i),b (.letter i),_,rfl,d,rfl,a (.letter i),b (.letter i),l.s,l.to,rfl,d,(by rw[g];exact q)⟩)
 ·have d:H (a (.letter i))=some (.ins t.jd (b (.letter i)) [("sender",.int l.s)]):=by rw[c];unfold rG;rw[b3 e]
  have g:V.int (l.s:Int)=.int (gP l:Nat):=by unfold gP;rw[b3 e]
  refine .inr (.inr ?_);unfold yV Gx;exact (j _ ⟨a (.bW i),_,_,_,_,rfl,h,T.dG,T.gZ,rfl,a (.letter i),b (.letter i),_,rfl,d,rfl,a (.letter i),t.jd,b (.letter i),l.s,rfl,d,T.xU,T.nR,(by rw[g];exact q)⟩)
noncomputable def Of(s:NS)(i h r x f:Nat):NS:={pD s i (.send h r x) with cps:=s.cps++[⟨i,r,x,f⟩]}
inductive RC(K:af)(CT:Addr)(c:NC)(vs:List V)(H:Hp)(Q:VK)(E:XK):Prop
 |mk (F:Addr->Prop) (p tp ln lr:Addr) (ns:List Int) (rs:List R5) (s:NS) (i h r:Nat) (l:LS) (re:R5) (w:List Nat) (x:Nat):vs=[.ref p,.int i,.int h,.int r]->NW K c CT H F p tp ln lr ns rs s->dH ns rs->BE ns rs s->s.ls[i]?=some l->l.aG.length<1000000->s.cps.length<1000000->rs[r]?=some re->s.ws[r]?=some w->w[(((gP l:Nat):Int)%(w.length:Int)).toNat]?=some x->w≠[]->(∀F' H',NW K c CT H' F' p tp ln lr ns rs (Of s i h r x (fQ re h))->Step H F H' F'->Q .fM H')->RC K CT c vs H Q E
theorem Og{t:Ad}(T:Txt K mg t):cE P w K mg base iS 3 t.sQ t.xK ["self","number","house","rope"]  (RC K t.bu (nc t)):=by
 refine T.Hl.F.kq zH λH Q E n h=>?_
 ·obtain⟨F,p,C,ln,lr,ns,D,st,i,e,r,l,re,w',x,rfl,N,tok,Dv,b,hld,hcl,f,hw,L,W,k⟩:=h
  refine⟨_,(av (sS 4 zH (xL (bf (pv 0) rfl) (pv 1))) (av (sS 5 zH (Ay (bf (pv 0) rfl) T.jw T.mz.m (A2 T) (n.mono (!_)) T.mz.B .nil QT (rA (pv 3) (DN (kN (bf (pv 4) rfl) T.Hr T.lO.m (wL T) (n.mono (!_)) T.lO.B .nil mK) (DN (kN (bf (pv 4) rfl) T.pR T.sV.m (Gd T) (n.mono (!_)) T.sV.B .nil mK) (kN (bf (pv 4) rfl) T.xU T.Hs (wL T) (n.mono (!_)) T.lO.B .nil mK)))))) (av (dm (yw bX b9 b6 gY (bf (pv 4) rfl) (gz (iH (g8 sf (pv 2) (pv 3) (pv 5)))))) (oE (yw bX b9 b6 gY (bf (pv 0) rfl) (gz (iH (g8 (pv 1) (pv 3) (pv 5) (cM (bf (pv 0) rfl) T.fG T.nP (qZ T) n (rA (pv 3) (pv 2))))))))))),?_⟩
  left
  obtain⟨a,y,q,hp,O,hF,hT⟩:=id N.dO;have X:=O.get .dO _ rfl;rw[hp] at X;have U:=(ai.mp b).1;have M:=(ai.mp f).1;have Yv:=O.get .cW _ rfl;have IC:=O.get (.bW i) (m8 (nc t) y a i l) (by show (st.ls[i]?.map _)=_;rw[b];rfl);have Y:=O.get (.letter i) (rG (nc t) (y (.letter i)) l) (by show (st.ls[i]?.map _)=_;rw[b];rfl);refine⟨_,rfl,p,_,_,_,_,rfl,X,T.bD,T.ff,rfl,_,rfl,a .cW,_,_,_,rfl,rfl,bQ.of Yv,qw U,?_⟩;refine⟨_,rfl,p,_,_,_,_,rfl,X,T.bD,T.vc,rfl,a .fj,y .fj,_,rfl,O.get .fj _ rfl,rfl,_,rfl,?_⟩;have v:=O.get (.aG i) (.lst ((q.dq i).map V.ref)) (by show (st.ls[i]?.map _)=_;rw[b];rfl);refine Yx T (l:=l) (λQ q=>⟨_,rfl,q⟩) IC Y ?_;refine⟨a .fj,C,a .iY,ln,lr,ns,D,st.ws,r,(gP l:Nat),rfl,N.sA,O.strAt,Dv.wl,λj w2 H1 ej A s=>⟨λz=>?_,λkk hk _=>?_⟩,λz=>b5 ⟨∅,∅⟩ z⟩
  ·have:j=r:=∅
   subst this;rw[hw] at A;cases A;exact b5 z W
  have:j=r:=∅
  subst this;rw[hw] at A;cases A;rw[L] at hk;cases hk;have X1:kR K (nc t) H1 F a y q p C ns.length st:=kR.mono ⟨hp,O,hF,hT⟩ s;have Qd:=(X1.tup.aG i _ b).len;rw[ah] at Qd;refine⟨_,rfl,a (.bW i),_,_,_,_,rfl,s _ _ IC,T.dG,T.iO,rfl,.inl ⟨rfl,_,bQ.of (s _ _ v)⟩,_,rfl,_,rfl,_,rfl,J8,λz1 R=>?_⟩;have G:=aH.new (o:=.tup [V.str "send",V.int e,V.int j,V.int x]) R;refine⟨a (.aG i),_,_,rfl,rfl,G _ _ (s _ _ v),Au (by rw[ah,Qd];lia),?_⟩;obtain⟨c,I⟩:=CP (X1.mono G) b (d:=.send e j x) (c7.of aC);have g:=(Step.refl' (F:=F) (s.trans G)).trans I;have S:=N.done g c.dO;generalize upd (upd H1 z1 (.tup [V.str "send",V.int e,V.int j,V.int x])) (a (.aG i)) (.lst ((q.dq i).map V.ref++[.ref z1]))=H2 at c g S;have J:=c.own.get .dO _ rfl;rw[c.hp] at J;have u:=c.own.get .lX _ rfl;obtain⟨⟨dt,Z⟩,_⟩:=id S.sA;have ZO:q.cq.length=st.cps.length:=by
   have z:=c.tup.cps.len;rw[ah] at z;exact z
  obtain⟨_,rfl⟩:=ai.mp f;refine⟨_,rfl,p,_,_,_,_,rfl,J,T.bD,T.nV,rfl,.inl ⟨rfl,_,bQ.of u⟩,_,rfl,_,rfl,_,rfl,_,rfl,p,_,_,_,_,rfl,J,T.bD,T.oK,rfl,C,dt,_,rfl,Z,rfl,_,rfl,_,rfl,C,ln,lr,ns,D,j,_,e,rfl,S.sA,f,?_⟩;rw[QU (h:=e) M tok.ok];refine⟨J8,λz2 hz2=>?_⟩;have u2:=aH.new (o:=.tup [V.int i,V.int j,V.int x,V.int (fQ D[j] e:Nat)]) hz2;refine⟨a .lX,_,_,rfl,rfl,u2 _ _ u,Au (by rw[ah,ZO];lia),?_⟩;have X3:=c.mono u2;obtain⟨X4,AX⟩:=Q7 X3 (qs:=q.cq++[z2]) (cps:=st.cps++[⟨i,j,x,fQ D[j] e⟩]) (by rw[aS];exact X3.tup.cps.snoc (c7.of aC));rw[aS] at X4 AX;have JF:=(g.trans (Step.refl' (F:=F) u2)).trans AX;refine k F _ ?_ JF;unfold Of;rw[fJ b];exact N.done JF X4.dO
end
section
noncomputable def jI(ds:List Nat)(h:Nat):List Nat:=if h∈ds then ds else ds++[h]
theorem Tv{ds:List Nat}{h:Nat}:putK (ds.map λh:Nat=>((gA (h:Int):Key),V.bl true)) (gA (h:Int)) (V.bl true)=(jI ds h).map λh:Nat=>((gA (h:Int):Key),V.bl true):=by
 have e:((ds.map λh:Nat=>((gA (h:Int):Key),V.bl true)).any λb=>decide (b.1=(gA (h:Int):Key)))=decide (h∈ds):=by
  rw[jR,List.any_map,wX,decide_eq_true_iff];constructor
  ·rintro⟨x,a,e⟩
   have e:=Sum.inl.inj (eL e)
   have:x=h:=∅
   exact this▸a
  ·exact λa=>⟨h,a,cy rfl⟩
 unfold putK jI;rw[e];by_cases z:h∈ds
 ·rw[aq (cy z),aq z,cX]
  refine cK λx _=>?_;show (if _ then _ else _)=_;split <;> rfl
 ·rw[b3 (by rw[decide_eq_true_iff];exact z),b3 z,aS]
  rfl
structure Fr(s s':NS):Prop where
 ws:s'.ws=s.ws
 R:s'.R=s.R
 ts:s'.ts=s.ts
 aD:s'.aD=s.aD
 groups:s'.groups=s.groups
 lt:∀(i:Nat) (l:LS),s.ls[i]?=some l->∃l':LS,s'.ls[i]?=some l'/\l'.s=l.s/\l'.to=l.to/\l'.kd=l.kd/\l'.grp=l.grp/\l'.old=l.old
theorem Fr.refl(s:NS):Fr s s:=⟨rfl,rfl,rfl,rfl,rfl,λ_ l h=>⟨l,h,rfl,rfl,rfl,rfl,rfl⟩⟩
theorem Fr.trans{a b c:NS}(f:Fr a b)(g:Fr b c):Fr a c:=by
 refine⟨g.ws.trans f.ws,g.R.trans f.R,g.ts.trans f.ts,g.aD.trans f.aD,g.groups.trans f.groups,λi l h=>?_⟩;obtain⟨q,e,n,k,p,j,d⟩:=f.lt i l h;obtain⟨o,r,f1,f2,t,s,m⟩:=g.lt i q e;exact⟨o,r,f1.trans n,f2.trans k,t.trans p,s.trans j,m.trans d⟩
theorem Fr.ok{ns:List Int}{rs:List R5}{s s':NS}(f:Fr s s')(h:BE ns rs s):BE ns rs s' :=
 ⟨by rw[f.ws];exact h.wl,by rw[f.ws];exact h.w4,by rw[f.R];exact h.fit⟩
theorem ZP{s:NS}{i:Nat}{l a:LS}{had:List (List Nat)}{cps:List Cp}(hl:s.ls[i]?=some l)(d:a.s=l.s)(f:a.to=l.to)(g:a.kd=l.kd)(c:a.grp=l.grp)(e:a.old=l.old):Fr s {s with ls:=s.ls.set i a,had:=had,cps:=cps}:=by
 refine⟨rfl,rfl,rfl,rfl,rfl,λk b h=>?_⟩;show ∃b,(s.ls.set i a)[k]?=some b/\_;rw[f6 (ai.mp hl).1];by_cases z:k=i
 ·subst z
  rw[hl] at h;cases h;exact⟨a,aq rfl,d,f,g,c,e⟩
 ·exact⟨b,by rw[b3 z];exact h,rfl,rfl,rfl,rfl,rfl⟩
theorem RD{s:NS}{i:Nat}{d:fR}:Fr s (pD s i d):=by
 cases h:s.ls[i]? with
 |none=>unfold pD;rw[h];exact Fr.refl s
 |some l=>rw[fJ h];exact ZP h rfl rfl rfl rfl rfl
structure Bd(n m D:Nat)(s:NS):Prop where
 gl:s.groups.length=s.aD.length
 Ao:s.aD.length<=20
 g3:∀g∈s.groups,g<3
 hm:∀h∈s.aD,h<n
 hl:s.had.length=s.aD.length
 hb:∀w∈s.had,w.length<=D
 ll:s.ls.length<=D
 lb:∀l∈s.ls,l.aG.length+s.cps.length<=D/\l.done.length<=D/\l.grp<3/\(l.kd=1∨l.kd=2)
 cb:s.cps.length<=D
 cl:∀c∈s.cps,c.l<s.ls.length/\c.r<m/\c.h<n
 tb:∀g,50*(s.ts g).length<=D/\eV (s.ts g)
theorem Bd.mono{n m D a:Nat}{s:NS}(b:Bd n m D s)(h:D<=a):Bd n m a s :=
 ⟨b.gl,b.Ao,b.g3,b.hm,b.hl,λw z=>aU (b.hb w z) h,aU b.ll h,λl z=>⟨aU (b.lb l z).1 h,aU (b.lb l z).2.1 h,(b.lb l z).2.2⟩,aU b.cb h,b.cl,λg=>⟨aU (b.tb g).1 h,(b.tb g).2⟩⟩
theorem Bd.set{n m D:Nat}{s:NS}{i:Nat}{l a:LS}(b:Bd n m D s)(k:Nat)(hl:s.ls[i]?=some l){cps:List Cp}{had:List (List Nat)}(u:cps.length<=s.cps.length+1)(k2:cps.length<=s.cps.length∨2<=k)(k1:1<=k)(t:a.aG.length+cps.length<=l.aG.length+s.cps.length+k)(v:a.done.length<=l.done.length+k)(o:a.grp=l.grp)(f:a.kd=l.kd)
 (j:∀c∈cps,c∈s.cps∨(c.l<s.ls.length/\c.r<m/\c.h<n)) (q:had.length=s.had.length) (p:∀w∈had,w.length<=D+k):Bd n m (D+k) {s with ls:=s.ls.set i a,had:=had,cps:=cps}:=by
 have d:=b.lb l (aN hl);refine⟨b.gl,b.Ao,b.g3,b.hm,q.trans b.hl,p,?_,λe z=>?_,?_,λc z=>?_,λg=>⟨aU (b.tb g).1 (wV _ _),(b.tb g).2⟩⟩
 ·show (s.ls.set i a).length<=_
  rw[br]
  have:=b.ll
  lia
 ·rcases List.mem_or_eq_of_mem_set z with z|rfl
  ·have h:=b.lb e z
   refine⟨?_,?_,h.2.2⟩
   ·show e.aG.length+cps.length<=_
    have:=h.1
    lia
   ·have:=h.2.1
    lia
  ·refine⟨?_,?_,o▸d.2.2.1,f▸d.2.2.2⟩
   ·show e.aG.length+cps.length<=_
    have:=d.1
    lia
   ·have:=d.2.1
    lia
 ·show cps.length<=_
  have:=b.cb
  lia
 ·show c.l<(s.ls.set i a).length/\_
  rw[br];rcases j c z with y|y
  ·exact b.cl c y
  ·exact y
theorem Bd.ami{n m D:Nat}{s:NS}(b:Bd n m D s)(i:Nat)(d:fR):Bd n m (D+1) (pD s i d):=by
 cases h:s.ls[i]? with
 |none=>unfold pD;rw[h];exact b.mono (dU D)
 |some l =>
  rw[fJ h];refine b.set 1 h (dU _) (.inl (aB _)) (aB _) ?_ (dU _) rfl rfl (λc z=>.inl z) rfl (λw z=>Nat.le_succ_of_le (b.hb w z));show (l.aG++[d]).length+_<=_;rw[aA];show l.aG.length+1+_<=_;lia
noncomputable def eX(s:NS)(i h:Nat)(l:LS):NS:={s with ls:=s.ls.set i {l with done:=jI l.done h}}
theorem Mg{s:NS}{i h:Nat}{l:LS}(hl:s.ls[i]?=some l):Fr s (eX s i h l):=ZP hl rfl rfl rfl rfl rfl
theorem RE{n m D:Nat}{s:NS}{i h:Nat}{l:LS}(b:Bd n m D s)(hl:s.ls[i]?=some l):Bd n m (D+1) (eX s i h l):=by
 refine b.set 1 hl (dU _) (.inl (aB _)) (aB _) (dU _) ?_ rfl rfl (λc z=>.inl z) rfl (λw z=>Nat.le_succ_of_le (b.hb w z));show (jI l.done h).length<=_;unfold jI;split
 ·exact dU _
 ·rw[aA];exact aB _
noncomputable def tY(s:NS)(i c:Nat):NS:={s with had:=s.had.set c (s.had.getD c []++[i])}
noncomputable def lA(i h:Nat)(s:NS)(c:Nat):NS:=pD (tY s i c) i (.hand h c)
theorem Gk{s:NS}{i h c:Nat}:Fr s (lA i h s c):=Fr.trans (b:=tY s i c) ⟨rfl,rfl,rfl,rfl,rfl,λ_ l h=>⟨l,h,rfl,rfl,rfl,rfl,rfl⟩⟩ RD
theorem Mh{n m D:Nat}{s:NS}{i h c:Nat}(b:Bd n m D s):Bd n m (D+1) (lA i h s c):=by
 have q:∀w∈(tY s i c).had,w.length<=D+1:=λw z=>by
  rcases List.mem_or_eq_of_mem_set z with y|rfl
  ·exact Nat.le_succ_of_le (b.hb w y)
  ·rw[aA]
   refine Nat.add_le_add_right ?_ 1;rw[au];cases e:s.had[c]? with
   |none=>exact bI _
   |some w=>exact b.hb w (aN e)
 unfold lA;cases d:s.ls[i]? with
 |none =>
  unfold pD;rw[show (tY s i c).ls[i]?=none from d];have a:=b.mono (dU D);exact⟨a.gl,a.Ao,a.g3,a.hm,by show (s.had.set _ _).length=_;rw[br];exact a.hl,q,a.ll,a.lb,a.cb,a.cl,a.tb⟩
 |some l =>
  rw[fJ (show (tY s i c).ls[i]?=some l from d)];refine b.set 1 d (dU _) (.inl (aB _)) (aB _) ?_ (dU _) rfl rfl (λc z=>.inl z) (by show (s.had.set _ _).length=_;rw[br]) q;show (l.aG++[_]).length+s.cps.length<=_;rw[aA];show l.aG.length+1+s.cps.length<=_;lia
noncomputable def fT(ws:List (List Nat))(r k:Nat):Nat:=match ws[r]? with|some w=>w.getD (k%w.length) 0|none=>0
noncomputable def c9(rs:List R5)(r h:Nat):Nat:=match rs[r]? with|some re=>fQ re h|none=>0
noncomputable def Tw(s:NS)(i:Nat):Nat:=match s.ls[i]? with|some l=>gP l|none=>0
noncomputable def tZ(rs:List R5)(i h:Nat)(s:NS)(r:Nat):NS:=Of s i h r (fT s.ws r (Tw s i)) (c9 rs r h)
theorem Gm{rs:List R5}{s:NS}{i h r:Nat}:Fr s (tZ rs i h s r):=Fr.trans (RD (i:=i) (d:=.send h r (fT s.ws r (Tw s i)))) ⟨rfl,rfl,rfl,rfl,rfl,λ_ l h=>⟨l,h,rfl,rfl,rfl,rfl,rfl⟩⟩
theorem Pe{ns:List Int}{rs:List R5}(o:dH ns rs){r h:Nat}(a:r<rs.length):c9 rs r h<ns.length:=by
 unfold c9;rw[aa a];have k:=o.ok _ (aM a);have d:=k.a0;have c:=k.b0;have b:=k.a1;have e:=k.b1;show fQ _ _<_;unfold fQ;split <;> lia
theorem RG{ns:List Int}{rs:List R5}(o:dH ns rs){D:Nat}{s:NS}{i h r:Nat}(b:Bd ns.length rs.length D s)(d:i<s.ls.length)(e:r<rs.length):Bd ns.length rs.length (D+2) (tZ rs i h s r):=by
 have a:=aa d;unfold tZ Of;rw[fJ a];refine b.set 2 a (by rw[aA];exact aB _) (.inr (aB _)) (!_) ?_ (wV _ _) rfl rfl (λc z=>?_) rfl (λw z=>aU (b.hb w z) (wV _ _))
 ·show (s.ls[i].aG++[_]).length+(s.cps++[_]).length<=_
  rw[aA,aA];show s.ls[i].aG.length+1+(s.cps.length+1)<=_;lia
 ·rcases aR.mp z with y|y
  ·exact .inl y
  ·rw[aT] at y
   subst y;exact .inr ⟨d,e,Pe o e⟩
theorem yu{f:NS->Nat->NS}(h:∀s x,Fr s (f s x)):∀(xs:List Nat) (s:NS),Fr s (xs.foldl f s)
 |[],s=>Fr.refl s
 |x::xs,s=>(h s x).trans (yu h xs (f s x))
theorem AR{n m k:Nat}{f:NS->Nat->NS}(I:NS->Prop):∀(xs:List Nat) (s:NS) (D:Nat),(∀s x D,x∈xs->I s->Bd n m D s->I (f s x)/\Bd n m (D+k) (f s x))->I s->Bd n m D s->Bd n m (D+k*xs.length) (xs.foldl f s)
 |[],s,D,_,_,b=>b
 |x::xs,s,D,h,i,b=>by
  obtain⟨c,a⟩:=h s x D ck i b
  have:=AR I xs (f s x) (D+k) (λs y D z=>h s y D (bw _ z)) c a
  refine this.mono (Nat.le_of_eq ?_);rw[bE,Nat.mul_succ];lia
theorem Ky{f:NS->Nat->NS}{xs:List Nat}{s:NS}{j:Nat}(h:j<xs.length):(xs.take (j+1)).foldl f s=f ((xs.take j).foldl f s) xs[j]:=by
 rw[jD h,List.foldl_append];rfl
noncomputable def jJ(s:NS)(l:LS)(h:Nat):List Nat:=(rD s h l.grp).filter λc=>DO l.s l.to l.kd c
noncomputable def Aw(rs:List R5)(s:NS)(l:LS)(h:Nat)(cz:Option Nat)(os:List Nat):List Nat:=(QY (s.ts l.grp) (pC l.to l.kd) h (cz.map λk:Nat=>(k:Int)) ((os.filter (isAt rs h)).map λk:Nat=>(k:Int)) ((rD s h l.grp).map λk:Nat=>(k:Int))).map Int.toNat
noncomputable def RH(rs:List R5)(s:NS)(i h:Nat)(l:LS)(cz:Option Nat)(os:List Nat):NS:=(Aw rs s l h cz os).foldl (tZ rs i h) ((jJ s l h).foldl (lA i h) (eX s i h l))
theorem Gn{ts:List T3}{c:Option Int}{a:Int}{cz:Option Int}{os hs:List Int}:(∀x∈QY ts c a cz os hs,x∈os)/\(QY ts c a cz os hs).length<=os.length:=by
 have f:(∀x∈os.filter (iU cz),x∈os)/\(os.filter (iU cz)).length<=os.length:=⟨λx z=>(bq.mp z).1,bY _ _⟩;unfold QY;split
 ·exact f
 ·split
  ·exact⟨λx z=>b5 z (-_),bI _⟩
  ·split
   ·split
    ·rename_i r _ b
     refine⟨λx z=>?_,?_⟩
     ·have:=(bq.mp z).1
      rw[aT] at this;exact this▸b
     ·refine aU (bY _ _) ?_
      show 1<=os.length;cases os with
      |nil=>cases b
      |cons=>simp
    ·exact f
   ·exact f
theorem Yy{rs:List R5}{s:NS}{l:LS}{h:Nat}{cz:Option Nat}{os:List Nat}:(QY (s.ts l.grp) (pC l.to l.kd) h (cz.map λk:Nat=>(k:Int)) ((os.filter (isAt rs h)).map λk:Nat=>(k:Int)) ((rD s h l.grp).map λk:Nat=>(k:Int))).map V.int=bM (Aw rs s l h cz os):=by
 unfold Aw;rw[bM,cX];refine cK λx a=>?_;obtain⟨k,_,rfl⟩:=aP.mp (Gn.1 x a);rfl
theorem RI{rs:List R5}{s:NS}{l:LS}{h:Nat}{cz:Option Nat}{os:List Nat}:(∀r∈Aw rs s l h cz os,r∈os)/\(Aw rs s l h cz os).length<=os.length:=by
 unfold Aw;refine⟨λr a=>?_,?_⟩
 ·obtain⟨x,c,rfl⟩:=aP.mp a
  obtain⟨k,b,rfl⟩:=aP.mp (Gn.1 x c);exact (bq.mp b).1
 ·rw[ah]
  refine aU Gn.2 ?_;rw[ah];exact bY _ _
theorem Oh{s:NS}{l:LS}{h:Nat}:(∀c∈jJ s l h,c<s.aD.length)/\(jJ s l h).length<=s.aD.length:=by
 unfold jJ rD;refine⟨λc z=>c5.mp (bq.mp (bq.mp z).1).1,?_⟩;refine aU (bY _ _) (aU (bY _ _) ?_);rw[bG];exact aB _
theorem AS{ns:List Int}{rs:List R5}{o:dH ns rs}{s:NS}{g:Nat}{os:List Nat}(O:c8 (iI ns rs o s.ws g) (s.R g) os){r:Nat}(c:r∈os):r<rs.length/\∃w,s.ws[r]?=some w/\w≠[]:=by
 obtain⟨a,b,t⟩:=(O.2 r).mp c;have m:r∈Q0 rs s.ws g:=t.pY.1;refine⟨zk r m,?_⟩;have e:=(bq.mp m).2;unfold isLive at e;split at e
 ·rename_i h w f d
  refine⟨w,d,λz=>?_⟩;subst z;cases e
 ·cases e
theorem Qe{rs:List R5}{s:NS}{i h:Nat}{l:LS}{cz:Option Nat}{os:List Nat}(hl:s.ls[i]?=some l):Fr s (RH rs s i h l cz os):=((Mg hl).trans (yu (λ_ _=>Gk) _ _)).trans (yu (λ_ _=>Gm) _ _)
end
section
variable{P:Program}{w:World}{K:af}{mg:Str->Option Value}{base:Heap}
theorem abJ{c:NC}{H:Hp}{a b:Addr}{l:LS}{d:Addr}(h:H a=some (rG c b l))(k:l.kd=1∨l.kd=2):EX d c.let1 c.adD H a l.s l.to l.kd:=by
 rcases k with e|e
 ·rw[e]
  refine .one b ?_;rw[h];unfold rG;rw[aq e]
 ·rw[e]
  refine .all b ?_;rw[h];unfold rG;rw[b3 (by rw[e];decide)]
inductive ZQ(K:af)(CT:Addr)(c:NC)(vs:List V)(H:Hp)(Q:VK)(E:XK):Prop
 |mk (F:Addr->Prop) (p tp ln lr:Addr) (ns:List Int) (rs:List R5) (s:NS) (o:dH ns rs) (i h:Nat) (cz:Option Nat) (l:LS) (D:Nat):vs=[.ref p,.int i,.int h,FI (cz.map λk:Nat=>(k:Int))]->NW K c CT H F p tp ln lr ns rs s->BE ns rs s->Bd ns.length rs.length D s->D<=900000->s.ls[i]?=some l->(∀os F' H',c8 (iI ns rs o s.ws l.grp) (s.R l.grp) os->os.length<=12->NW K c CT H' F' p tp ln lr ns rs (RH rs s i h l cz os)->Step H F H' F'->Q .fM H')->ZQ K CT c vs H Q E
theorem wO{t:Ad}(T:Txt K mg t):cE P w K mg base iS 7 t.jl t.lJ ["self","number","house","came"]  (ZQ K t.bu (nc t)):=by
 refine T.qI.F.kq eU λH Q E Z h=>?_
 ·obtain⟨F,p,tp,ln,lr,ns,rs,st,o,i,f,M,l,D,rfl,N,Dv,bd,hD,C,k⟩:=h
  refine⟨_,(av (sS 4 eU (xL (bf (pv 0) rfl) (pv 1))) (av (sS 5 eU (bf (pv 4) rfl)) (av (QK (MF Z) (bf (pv 4) rfl) (pv 2) Qp rfl) (av (sS 6 eU (cG (P6 T) Z T.J2 (g8 (bf (pv 0) rfl) (cM (pv 0) T.bD T.xQ (Ar T) Z (gz (pv 5))) (cM (pv 0) T.bD T.mC (mO T) Z (gz (pv 5))) (pv 2)))) (av (sS 7 eU (cM (pv 0) T.bD T.wC (Dz T) Z (rA (pv 2) (pv 5)))) (av (sS 8 eU (cG (P7 T) Z T.J1 (aN6 (xL (bf (pv 0) rfl) (pv 5)) (bf (pv 4) rfl) (pv 2) (pv 3) (pv 6) (pv 7)))) (av (fS (ir (xT (pv 8) aE)) (gT 9 eU) (av (dm (yw bX b9 b6 gY (xL (bf (pv 0) rfl) (pv 9)) (gz (pv 1)))) (oE (yw bX b9 b6 gY (bf (pv 4) rfl) (gz (iH (IB sf (pv 2) (pv 9)))))))) (bL (fS (ir (xT (pv 8) aE)) (gT 10 eU) (oE (cM (pv 0) T.bD T.Hl (Og T) Z (IB (pv 1) (pv 2) (pv 10))))))))))))),?_⟩
  left
  obtain⟨g,dx,q,hp,O,hF,hT⟩:=id N.dO;have X:kR K (nc t) H F g dx q p tp ns.length st:=⟨hp,O,hF,hT⟩;have bP:=O.get .dO _ rfl;rw[hp] at bP;have hil:=(ai.mp C).1;obtain⟨lb1,lb2,hg,lkd⟩:=bd.lb l (aN C);have Yv:=O.get .cW _ rfl;have IC:=O.get (.bW i) (m8 (nc t) dx g i l) (by show (st.ls[i]?.map _)=_;rw[C];rfl);have hdo:=O.get (.done i) (.dK (l.done.map λh:Nat=>(gA (h:Int),.bl true))) (by show (st.ls[i]?.map _)=_;rw[C];rfl);refine b4 λNx J=>?_;refine⟨_,rfl,p,_,_,_,_,rfl,bP,T.bD,T.ff,rfl,_,rfl,g .cW,_,_,_,rfl,rfl,bQ.of Yv,qw hil,J _ _ ?_⟩;refine b4 λNx J=>?_;refine⟨_,rfl,g (.bW i),_,_,_,_,rfl,IC,T.dG,T.kj,rfl,J _ _ ?_⟩;refine b4 λNx J=>?_;refine⟨_,rfl,g (.bW i),_,_,_,_,rfl,IC,T.dG,T.oJ,rfl,_,rfl,g (.done i),_,rfl,MC.k (k:=.inl (f:Int)) hdo (Au (by rw[ah];lia)),?_⟩;rw[Tv];refine J _ _ ?_;obtain⟨X1,st1⟩:=Vs X C (jI l.done f);have N1:=N.done st1 X1.dO;generalize upd H (g (.done i)) (.dK ((jI l.done f).map λh:Nat=>((gA (h:Int):Key),V.bl true)))=H1 at X1 st1 N1;have fr1:=Mg (h:=f) C;have ZR:=RE (h:=f) bd C;have es1:eX st i f l={st with ls:=st.ls.set i {l with done:=jI l.done f}}:=rfl;rw[<- es1] at X1 N1;have EB:(eX st i f l).ls[i]?=some {l with done:=jI l.done f}:=by
   show (st.ls.set i _)[i]?=_;rw[f6 hil,aq rfl]
  have ets:(eX st i f l).ts=st.ts:=rfl;have ehe:rD (eX st i f l) f l.grp=rD st f l.grp:=rfl;have k1:∀os F' H',c8 (iI ns rs o (eX st i f l).ws l.grp) ((eX st i f l).R l.grp) os->os.length<=12->NW K (nc t) t.bu H' F' p tp ln lr ns rs ((Aw rs st l f M os).foldl (tZ rs i f) ((jJ st l f).foldl (lA i f) (eX st i f l)))->Step H1 F H' F'->Q .fM H':=λos F' H' a b c d=>k os F' H' a b c (st1.trans d);have Tz:=fr1.ok Dv;have ehd:jJ st l f=(rD (eX st i f l) f l.grp).filter λc:Nat=>DO l.s l.to l.kd c:=rfl;have ego:∀os,Aw rs st l f M os=(QY ((eX st i f l).ts l.grp) (pC l.to l.kd) f (M.map λk:Nat=>(k:Int)) ((os.filter (isAt rs f)).map λk:Nat=>(k:Int)) ((rD (eX st i f l) f l.grp).map λk:Nat=>(k:Int))).map Int.toNat:=λos=>rfl;have hgi:∀os,(QY ((eX st i f l).ts l.grp) (pC l.to l.kd) f (M.map λk:Nat=>(k:Int)) ((os.filter (isAt rs f)).map λk:Nat=>(k:Int)) ((rD (eX st i f l) f l.grp).map λk:Nat=>(k:Int))).map V.int=bM (Aw rs st l f M os):=λos=>Yy;have G:∀os,(∀r∈Aw rs st l f M os,r∈os)/\(Aw rs st l f M os).length<=os.length:=λos=>RI;have S:(∀c∈jJ st l f,c<(eX st i f l).aD.length)/\(jJ st l f).length<=(eX st i f l).aD.length:=Oh;have hhi:((rD (eX st i f l) f l.grp).map λk:Nat=>(k:Int)).filter (DO l.s l.to l.kd)=(jJ st l f).map λk:Nat=>(k:Int):=by
   rw[ehd,List.filter_map];rfl
  generalize Aw rs st l f M=L at k1 hgi G;generalize jJ st l f=n at k1 S hhi;generalize eX st i f l=m at X1 N1 ZR k1 EB Tz hgi S hhi;have amn:=(ai.mp EB).1;have jH:=X1.own.get .dO _ rfl;rw[X1.hp] at jH;refine b4 λNx J=>?_;refine⟨_,rfl,p,_,_,_,_,rfl,jH,T.bD,T.oK,rfl,?_⟩;refine⟨_,rfl,p,_,_,rfl,jH,rfl,_,rfl,F,p,tp,ln,lr,ns,rs,m,l.grp,rfl,N1,o,Tz,hg,λa1 H2 t2 ha1 h1=>?_⟩;refine⟨_,rfl,p,_,_,rfl,t2 _ _ jH,rfl,_,rfl,F,p,tp,ns.length,l.grp,m,rfl,(N1.mono t2).dO,hg,λa2 qs H3 t3 ha2 h2 ht=>?_⟩;refine⟨_,rfl,tp,ln,lr,a1,a2,ns,rs,_,o.nd,o.ok,zk,m.R l.grp,f,rfl,(N1.mono (t2.trans t3)).sA,bQ.of (t3 _ _ h1),ht.Lk (bQ.of h2),by have:=o.jb;lia,o.Ub,Tz.fit l.grp hg,λlo os H4 t4 Tr hlo hO h12=>J _ _ ?_⟩;have To:=t2.trans (t3.trans t4);refine b4 λNx J=>?_;refine⟨_,rfl,p,_,_,rfl,To _ _ jH,rfl,_,rfl,_,rfl,F,p,tp,ns.length,f,l.grp,m,rfl,(N1.mono To).dO,ZR.gl,ZR.Ao,λlh H5 t5 ahU hlh=>J _ _ ?_⟩;have Ss:=To.trans t5;have X5:=X1.mono Ss;have abK:=t5 _ _ hlo;have aer:=X5.own.get (.bW i) (m8 (nc t) dx g i {l with done:=jI l.done f}) (by show (m.ls[i]?.map _)=_;rw[EB];rfl);have aes:=X5.own.get (.letter i) (rG (nc t) (dx (.letter i)) {l with done:=jI l.done f}) (by show (m.ls[i]?.map _)=_;rw[EB];rfl);rw[iX] at abK hlh;refine b4 λNx J=>?_;refine⟨_,rfl,p,_,_,_,_,rfl,Ss _ _ jH,T.bD,T.qk,rfl,_,rfl,g .kJ,_,_,_,rfl,rfl,bQ.of (X5.own.get .kJ _ rfl),qw hg,_,rfl,g (.bW i),_,_,_,_,rfl,aer,T.dG,T.gZ,rfl,_,rfl,_,rfl,_,rfl,_,rfl,g (.book l.grp),g (.fB l.grp),g (.letter i),lo,lh,m.ts l.grp,l.s,l.to,l.kd,f,M.map λk:Nat=>(k:Int),_,_,rfl,X5.own.Lj hg,abJ aes lkd,bQ.of abK,bQ.of hlh,?_,?_,λtq b1 b2 H6 t6 ahX ahY ahZ amo htq hb1 hb2=>J _ _ ?_⟩
  ·rw[ah]
   have:=bY (isAt rs f) os
   lia
  ·rw[ah]
   unfold rD
   have:=bY (EA m f l.grp) (az m.aD.length)
   rw[bG] at this
   have:=ZR.Ao
   lia
  rw[hhi,<- iX] at hb1;rw[hgi os] at hb2;have G:=G os;have k1:=k1 os;generalize L os=L at hb2 G k1;have t16:=Ss.trans t6;have X6:=X1.mono t16;have nF:∀{b},H5 b=none->¬F b:=λ{b} e z=>by
   obtain⟨u,e'⟩:=X5.dO.there z;rw[e] at e';cases e'
  have nq:=nF ahX;have n1:=nF ahY;have n2:=nF ahZ;have aet:Step H1 F H6 F:=Step.refl' t16;refine b4 λNx J=>?_;refine⟨_,rfl,tq,_,0,_,rfl,rfl,c7.of htq,rfl,b1,rfl,⟨_,bQ.of hb1⟩,JR (K:=K) (a:=b1) (xs:=bM n) (λj σ H7=>∃(q7:TQ) (v9:Option V),kR K (nc t) H7 F g dx q7 p tp ns.length ((n.take j).foldl (lA i f) m)/\Step H6 F H7 F/\σ=[some (.ref p),some (.int i),some (.int f),some (FI (M.map λk:Nat=>(k:Int))),some (.ref (g (.bW i))),some (.int l.grp),some (.ref lo),some (.ref lh),some (.ref tq),v9,none]) ⟨q,none,X6,Step.refl' (aH.refl _),rfl⟩ (λj σ H7 _ z=>?_) ?_ ?_⟩
  ·obtain⟨q7,v9,U,Lc,rfl⟩:=z
   exact bQ.of (Lc.kp _ _ hb1 n1)
  ·rintro j y σ H7 Nf OJ hj ⟨q7,v9,U,Lc,rfl⟩
   have B:j<n.length:=by
    have:=(ai.mp hj).1
    rw[ah] at this;exact this
   rw[ak,aa B] at hj;cases hj;rw[Ky B] at OJ;have b7:Bd ns.length rs.length (D+1+1*(n.take j).length) ((n.take j).foldl (lA i f) m):=AR (λ_=>True) _ _ _ (λs x D _ _ b=>⟨trivial,Mh b⟩) trivial ZR;have f7:Fr m ((n.take j).foldl (lA i f) m):=yu (λ_ _=>Gk) _ _;have hjt:(n.take j).length<=20:=by
    rw[cH]
    have:=S.2
    have:=ZR.Ao
    lia
   obtain⟨l7,WT,_⟩:=f7.lt i _ EB;have v:n[j]<((n.take j).foldl (lA i f) m).had.length:=by
    rw[b7.hl,f7.aD];exact S.1 _ (aM B)
   generalize (n.take j).foldl (lA i f) m=A at U b7 WT v OJ;show iB 9 (V.int ((n[j]:Nat):Int)) _ _ _;generalize n[j]=c at v OJ;have ZS:=U.own.get .dO _ rfl;rw[U.hp] at ZS;have HA:=U.own.get (.handed c) (.lst (bM A.had[c])) (by show (A.had[c]?.map _)=_;rw[aa v];rfl);have hwl:=b7.hb _ (aM v);have hdl:=(b7.lb l7 (aN WT)).1;refine⟨_,rfl,p,_,_,_,_,rfl,ZS,T.bD,T.C7,rfl,_,rfl,g .m7,_,_,_,rfl,rfl,bQ.of (U.own.get .m7 _ rfl),qw v,.inl ⟨rfl,_,bQ.of HA⟩,_,rfl,g (.handed c),_,_,rfl,rfl,HA,Au (by rw[ah];lia),?_⟩;obtain⟨X8,Wj⟩:=Vu U v (A.had[c]++[i]);rw[lV] at X8 Wj;generalize upd H7 (g (.handed c)) (.lst (bM A.had[c]++[V.int i]))=H8 at X8 Wj;have es:{A with had:=A.had.set c (A.had[c]++[i])}=tY A i c:=by
    unfold tY;rw[au,aa v];rfl
   rw[es] at X8;have W:(tY A i c).ls[i]?=some l7:=WT;have ah0:=X8.own.get (.bW i) (m8 (nc t) dx g i l7) (by show ((tY A i c).ls[i]?.map _)=_;rw[W];rfl);have aev:=X8.own.get (.aG i) (.lst ((q7.dq i).map V.ref)) (by show ((tY A i c).ls[i]?.map _)=_;rw[W];rfl);have Qd:=(X8.tup.aG i _ W).len;rw[ah] at Qd;refine⟨_,rfl,g (.bW i),_,_,_,_,rfl,ah0,T.dG,T.iO,rfl,.inl ⟨rfl,_,bQ.of aev⟩,_,rfl,_,rfl,k9,λz1 hz1=>?_⟩;have u1:=aH.new (o:=.tup [V.str "hand",V.int f,V.int c]) hz1;refine⟨g (.aG i),_,_,rfl,rfl,u1 _ _ aev,Au (by rw[ah,Qd];lia),?_⟩;obtain⟨X9,Ug⟩:=CP (X8.mono u1) W (d:=.hand f c) (c7.of aC);rw[<- fJ W] at X9;exact OJ _ _ ⟨_,_,X9,(Lc.trans Wj).trans ((Step.refl' (F:=F) u1).trans Ug),rfl⟩
  ·rintro σ H7 ⟨q7,v9,U,Lc,rfl⟩
   refine J _ _ ?_;rw[ah,List.take_length] at U;have b7:Bd ns.length rs.length (D+1+1*n.length) (n.foldl (lA i f) m):=AR (λ_=>True) _ _ _ (λs x D _ _ b=>⟨trivial,Mh b⟩) trivial ZR;have f7:Fr m (n.foldl (lA i f) m):=yu (λ_ _=>Gk) _ _;have hjt:n.length<=20:=by
    have:=S.2
    have:=ZR.Ao
    lia
   have N7:=N1.done (aet.trans Lc) U.dO;obtain⟨l7,WT,_⟩:=f7.lt i _ EB;have aew:=f7.ok Tz;have hO7:c8 (iI ns rs o (n.foldl (lA i f) m).ws l.grp) ((n.foldl (lA i f) m).R l.grp) os:=by rw[f7.ws,f7.R];exact hO
   generalize n.foldl (lA i f) m=A at U b7 WT N7 k1 aew hO7;refine⟨_,rfl,tq,_,1,_,rfl,rfl,c7.of (Lc.kp _ _ htq nq),rfl,b2,rfl,⟨_,bQ.of (Lc.kp _ _ hb2 n2)⟩,JR (K:=K) (a:=b2) (xs:=bM L) (λj σ H8=>∃(F8:Addr->Prop) (v10:Option V),NW K (nc t) t.bu H8 F8 p tp ln lr ns rs ((L.take j).foldl (tZ rs i f) A)/\Step H6 F H8 F8/\σ=[some (.ref p),some (.int i),some (.int f),some (FI (M.map λk:Nat=>(k:Int))),some (.ref (g (.bW i))),some (.int l.grp),some (.ref lo),some (.ref lh),some (.ref tq),v9,v10]) ⟨F,none,N7,Lc,rfl⟩ (λj σ H8 _ z=>?_) ?_ ?_⟩
   ·obtain⟨F8,v10,N8,Wj,rfl⟩:=z
    exact bQ.of (Wj.kp _ _ hb2 n2)
   ·rintro j y σ H8 Nf OJ hj ⟨F8,v10,N8,Wj,rfl⟩
    have B:j<L.length:=by
     have:=(ai.mp hj).1
     rw[ah] at this;exact this
    rw[ak,aa B] at hj;cases hj;rw[Ky B] at OJ;have hgl:∀r∈L,r<rs.length:=λr Z=>(AS hO7 (G.1 r Z)).1;have f8:Fr A ((L.take j).foldl (tZ rs i f) A):=yu (λ_ _=>Gm) _ _;have b8:Bd ns.length rs.length (D+1+1*n.length+2*(L.take j).length) ((L.take j).foldl (tZ rs i f) A):=AR (λs=>i<s.ls.length) _ _ _ (λs x D hx hi b=>⟨by
     obtain⟨l',e,_⟩:=(Gm (rs:=rs) (h:=f) (i:=i) (r:=x) (s:=s)).lt i _ (aa hi);exact (ai.mp e).1,RG o b hi (hgl x (List.mem_of_mem_take hx))⟩) (ai.mp WT).1 b7
    have amr:(L.take j).length<=12:=by
     rw[cH]
     have:=G.2
     lia
    obtain⟨hrl,I,hw,hwn⟩:=AS hO7 (G.1 _ (aM B));rw[<- f8.ws] at hw;obtain⟨Y,W,_⟩:=f8.lt i _ WT;have aex:=f8.ok aew;generalize (L.take j).foldl (tZ rs i f) A=s8 at N8 b8 W hw aex OJ;show iB 10 (V.int ((L[j]:Nat):Int)) _ _ _;generalize L[j]=r at hrl hw OJ;obtain⟨ams,su,q8,qb,O8,hF8,hT8⟩:=id N8.dO;have ZT:=O8.get .dO _ rfl;rw[qb] at ZT;have hdl:=(b8.lb Y (aN W)).1;have v:=b8.cb;have hwl:gP Y%I.length<I.length:=Nat.mod_lt _ (List.length_pos_iff.mpr hwn);have hwx:I[(((gP Y:Nat):Int)%(I.length:Int)).toNat]?=some I[gP Y%I.length]:=by
     rw[show (((gP Y:Nat):Int)%(I.length:Int))=((gP Y%I.length:Nat):Int) from rfl,cZ];exact aa hwl
    have hre:=aa hrl;refine⟨_,rfl,p,_,_,rfl,ZT,rfl,_,rfl,_,rfl,_,rfl,F8,p,tp,ln,lr,ns,rs,s8,i,f,r,Y,rs[r],I,_,rfl,N8,o,aex,W,∅,∅,hre,hw,hwx,hwn,λF9 H9 N9 Ug=>?_⟩;refine OJ _ _ ⟨F9,_,?_,Wj.trans Ug,rfl⟩;have e1:fT s8.ws r (Tw s8 i)=I[gP Y%I.length]:=by
     unfold fT Tw;rw[hw,W];show I.getD (gP Y%I.length) 0=_;rw[au,aa hwl];rfl
    have e2:c9 rs r f=fQ rs[r] f:=by
     unfold c9;rw[hre]
    unfold tZ;rw[e1,e2];exact N9
   ·rintro σ H8 ⟨F8,v10,N8,Wj,rfl⟩
    rw[ah,List.take_length] at N8;exact k1 F8 H8 hO h12 N8 (aet.trans Wj)
theorem abL{a b:TS}{D:Ends}{c:L2.St}{H:Hp}(J:L2.St->Hp->Prop)(d:∀c H,J c H->b D c H)(h:∀N:L2.St->Hp->Prop,(∀c H,J c H->N c H)->a {D with nx:=N} c H):Uk a b D c H:=h _ d
inductive RJ(C:Addr)(vs:List V)(H:Hp)(Q:VK)(E:XK):Prop
 |mk (p dx la:Addr) (g:Int):vs=[.ref p,.ref la,.int g]->H p=some (.ins C dx [])->(∀da ea H',H da=none->H ea=none->da≠ea->H' p=some (.ins C dx [("letter",.ref la),("group",.int g),("old",.bl false),("done_at",.ref da),("deeds",.ref ea)])->H' da=some (.dK [])->H' ea=some (.lst [])->(∀b o,H b=some o->b≠p->H' b=some o)->Q .fM H')->RJ C vs H Q E
theorem ED{t:Ad}(T:Txt K mg t):cE P w K mg base iS 1 t.jk t.lI ["self","letter","group"]  (RJ t.jo):=by
 refine T.yz.F.kq D6 λH Q E u h=>?_
 ·obtain⟨p,j,s,g,rfl,r,k⟩:=h
  refine⟨_,(av (fZ (pv 0) (pv 1) rfl) (av (fZ (pv 0) (pv 2) rfl) (av (fZ (pv 0) Qp rfl) (av (fZ (pv 0) UW rfl) (bL (fZ (pv 0) (jB iz) rfl)))))),?_⟩
  left
  refine⟨_,rfl,_,rfl,p,_,j,_,rfl,r,T.dG,T.gZ,(!_),?_⟩;rw[dJ (names:=[]) rfl rfl];refine⟨_,rfl,_,rfl,p,_,j,_,rfl,aC,T.dG,T.kj,(by show 1<1000;decide),?_⟩;rw[dJ (names:=["letter"]) rfl (by decide +kernel),KN];refine⟨_,rfl,p,_,j,_,rfl,aC,T.dG,T.xV,(by show 2<1000;decide),?_⟩;rw[dJ (names:=["letter","group"]) rfl (by decide +kernel),KN];intro i a;have d:H i=none:=by
   by_cases z:i=p
   ·subst z;rw[aC] at a;cases a
   ·rw[aK z] at a;exact a
  have q:p≠i:=aQ r d;refine⟨_,rfl,p,_,j,_,rfl,(by rw[aK q];exact aC),T.dG,T.oJ,(by show 3<1000;decide),?_⟩;rw[dJ (names:=["letter","group","old"]) rfl (by decide +kernel)];refine⟨bI _,λm c=>?_⟩;have l:m≠p:=λz=>by subst z;rw[aC] at c;cases c
  rw[aK l] at c;have f:i≠m:=λz=>by subst z;rw[aC] at c;cases c
  rw[aK (bN f),aK l] at c;refine⟨_,rfl,p,_,j,_,rfl,(by rw[aK (bN l)];exact aC),T.dG,T.iO,(by show 4<1000;decide),?_⟩;rw[dJ (names:=["letter","group","old","done_at"]) rfl (by decide +kernel)];refine k i m _ d c f aC ?_ ?_ λb o e n=>?_
  ·rw[aK (bN q),aK f,aK (bN q)];exact aC
  ·rw[aK l];exact aC
  ·rw[aK n,aK (aQ e c),aK n,aK (aQ e d),aK n];exact e
noncomputable def cV(s:NS)(x:Nat)(to:Option Nat):LS:={s:=x,to:=to.getD 0,kd:=if to.isSome=true then 1 else 2,grp:=s.groups.getD x 0,old:=false,done:=[],aG:=[]}
noncomputable def Kz(s:NS)(l:LS):NS:={s with ls:=s.ls++[l]}
noncomputable def gi(s:NS)(x:Nat)(to:Option Nat):NS:={s with ls:=s.ls++[{cV s x to with aG:=[.post (s.aD.getD x 0)]}]}
noncomputable def gW(rs:List R5)(s:NS)(x:Nat)(to:Option Nat)(os:List Nat):NS:=RH rs (gi s x to) s.ls.length (s.aD.getD x 0) {cV s x to with aG:=[.post (s.aD.getD x 0)]} none os
theorem TH{s:NS}{x:Nat}{to:Option Nat}:pD (Kz s (cV s x to)) s.ls.length (.post (s.aD.getD x 0))=gi s x to:=by
 rw[fJ (l:=cV s x to) (by show (s.ls++[_])[s.ls.length]?=_;rw[bC (aB _),fE];rfl)];show {s with ls:=(s.ls++[_]).set s.ls.length _}={s with ls:=_};congr 1;rw[mS _ _ (aB _),fE];rfl
theorem jK{s:NS}{l:LS}:(s.ls++[l])[s.ls.length]?=some l:=by rw[bC (aB _),fE];rfl
theorem RK{n m D:Nat}{s:NS}{x:Nat}{to:Option Nat}(b:Bd n m D s)(f:x<s.aD.length):Bd n m (D+1) (gi s x to):=by
 have a:=b.mono (dU D);refine⟨a.gl,a.Ao,a.g3,a.hm,a.hl,a.hb,?_,λl z=>?_,a.cb,λc z=>?_,a.tb⟩
 ·show (s.ls++[_]).length<=_
  rw[aA];exact Nat.add_le_add_right b.ll 1
 ·rcases aR.mp z with y|y
  ·exact a.lb l y
  ·rw[aT] at y
   subst y;refine⟨?_,bI _,?_,?_⟩
   ·show 1+s.cps.length<=D+1
    have:=b.cb
    lia
   ·show s.groups.getD x 0<3
    have d:x<s.groups.length:=by rw[b.gl];exact f
    rw[au,aa d];exact b.g3 _ (aM d)
   ·show (if _ then (1:Int) else 2)=1∨(if _ then (1:Int) else 2)=2
    split
    ·exact .inl rfl
    ·exact .inr rfl
 ·obtain⟨e,g⟩:=b.cl c z
  refine⟨?_,g⟩;show c.l<(s.ls++[_]).length;rw[aA];exact bF e (wV _ _)
inductive RL(K:af)(CT:Addr)(c:NC)(vs:List V)(H:Hp)(Q:VK)(E:XK):Prop
 |mk (F:Addr->Prop) (p tp ln lr:Addr) (ns:List Int) (rs:List R5) (s:NS) (o:dH ns rs) (x:Nat) (to:Option Nat) (D:Nat):vs=[.ref p,.int x,FI (to.map λy:Nat=>(y:Int))]->NW K c CT H F p tp ln lr ns rs s->BE ns rs s->Bd ns.length rs.length D s->D<=800000->x<s.aD.length->(∀y,to=some y->y<s.aD.length/\s.groups[y]?=s.groups[x]?)->(∀os F' H',c8 (iI ns rs o s.ws (s.groups.getD x 0)) (s.R (s.groups.getD x 0)) os->os.length<=12->NW K c CT H' F' p tp ln lr ns rs (gW rs s x to os)->Step H F H' F'->Q (.int s.ls.length) H')->RL K CT c vs H Q E
theorem FE{t:Ad}(T:Txt K mg t):cE P w K mg base iS 8 t.jc t.xO ["self","sender","to"]  (RL K t.bu (nc t)):=by
 refine T.sX.kq uu λH Q E X h=>?_
 ·obtain⟨F,p,tp,ln,lr,ns,rs,st,o,x,c,D,rfl,N,Dv,bd,hD,hx,hto,k⟩:=h
  refine⟨_,(av (dm (cM (pv 0) T.bD T.wD (Dy T) X (rA (pv 1) (pv 2)))) (av (sS 3 uu (vK (qT UC (pv 2) om) (Qx T.Ye (wK T) (X.mono (!_)) rfl T.Yd T.qH.B .nil mK (gz (pv 1))) (cI T.zK (Gc T) X T.Yc (rA (pv 1) (pv 2))))) (av (sS 4 uu (lS T.iP (bf (pv 0) rfl))) (av (dm (yw bX b9 b6 gY (bf (pv 0) rfl) (gz (cI T.yz (ED T) X T.VQ (rA (pv 3) (xL (bf (pv 0) rfl) (pv 1))))))) (av (sS 5 uu (xL (bf (pv 0) rfl) (pv 1))) (av (dm (yw bX b9 b6 gY (bf (xL (bf (pv 0) rfl) (pv 4)) rfl) (gz (iH (rA sf (pv 5)))))) (av (dm (cM (pv 0) T.bD T.qI (wO T) X (IB (pv 4) (pv 5) om))) (oR (pv 4))))))))),?_⟩
  left
  obtain⟨n,dx,q,hp,O,hF,hT⟩:=id N.dO;have bP:=O.get .dO _ rfl;rw[hp] at bP;have Mr:x<st.groups.length:=by rw[bd.gl];exact hx
  refine b4 λW j=>?_;refine⟨_,rfl,p,_,_,rfl,bP,rfl,_,rfl,_,rfl,F,p,tp,ns.length,x,c,st,rfl,N.dO,hx,bd.gl,hto,j _ _ ?_⟩;refine abL (λσ r=>∃la Ln,aH H r/\H la=none/\r la=some (rG (nc t) Ln (cV st x c))/\σ=[some (.ref p),some (.int x),some (FI (c.map λy:Nat=>(y:Int))),some (.ref la),none,none]) ?_ (λN hN=>?_)
  rotate_left
  ·cases c with
   |none =>
    refine⟨_,rfl,rfl,_,rfl,iC ?_⟩;refine⟨_,rfl,λz dz S I A=>⟨z,_,dz,x,rfl,aC,T.xU,T.nR,rfl,?_⟩⟩;exact hN _ _ ⟨z,dz,made S I A,S,aC,rfl⟩
   |some y =>
    refine⟨_,rfl,rfl,_,rfl,gD ?_⟩;refine⟨_,rfl,_,rfl,λz dz S I A=>⟨z,dz,x,y,rfl,aC,λH3 hy3 kp=>⟨rfl,?_⟩⟩⟩;exact hN _ _ ⟨z,dz,λb u e=>kp b u (((aH.new I).trans (aH.new (by rw[aK (bN A)];exact S))) b u e) (aQ e S),S,hy3,rfl⟩
  rintro σ r ⟨la,Ln,s,Yz,hla,rfl⟩;have jH:=s _ _ bP;have N1:=N.mono s;obtain⟨O1,T1⟩:=And.intro (O.mono s) (hT.mono λb x=>s.eK (a:=b) (xs:=x));have YA:=O1.get .cW _ rfl;refine b4 λW j=>?_;refine⟨_,rfl,p,_,_,_,_,rfl,jH,T.bD,T.ff,rfl,n .cW,_,rfl,.inl (bQ.of YA),?_⟩;rw[ah,bG];refine j _ _ ?_;refine b4 λW j=>?_;refine⟨_,rfl,p,_,_,_,_,rfl,jH,T.bD,T.ff,rfl,.inl ⟨rfl,_,bQ.of YA⟩,_,rfl,_,rfl,p,_,_,_,_,rfl,jH,T.bD,T.kG,rfl,_,rfl,n .groups,_,_,_,rfl,rfl,bQ.of (O1.get .groups _ rfl),kQ Mr,λpa DE f YB YC=>⟨pa,DE,la,_,rfl,aC,λda ea H2 M TF nde h2p h2d h2e Mp=>⟨rfl,?_⟩⟩⟩;have m:aH r H2:=λb u e=>Mp b u (((aH.new YB).trans (aH.new (by rw[aK (bN YC)];exact f))) b u e) (aQ e f);have C:r da=none:=by
   cases e:r da with
   |none=>rfl
   |some u =>
    have:=((aH.new (o:=.own pa) YB).trans (aH.new (o:=.ins t.jo DE []) (by rw[aK (bN YC)];exact f))) _ _ e
    rw[M] at this;cases this
  have G:r ea=none:=by
   cases e:r ea with
   |none=>rfl
   |some u =>
    have:=((aH.new (o:=.own pa) YB).trans (aH.new (o:=.ins t.jo DE []) (by rw[aK (bN YC)];exact f))) _ _ e
    rw[TF] at this;cases this
  have nF:∀{b},r b=none->¬F b:=λ{b} e z=>by
   obtain⟨u,Y⟩:=N1.dO.there z;rw[e] at Y;cases Y
  have nFl:¬F la:=λz=>by
   obtain⟨u,Y⟩:=N.dO.there z;rw[Yz] at Y;cases Y
  have npd:pa≠da:=λz=>by rw[<- z,aC] at M;cases M
  have npe:pa≠ea:=λz=>by rw[<- z,aC] at TF;cases TF
  have ZI:∀{b},r b=none->la≠b:=λ{b} e=>aQ hla e;have eg:st.groups.getD x 0=st.groups[x]:=by rw[au,aa Mr];rfl
  have aey:=m _ _ YA;refine⟨n .cW,_,_,rfl,rfl,aey,Au (by rw[ah,bG];have:=bd.ll;lia),?_⟩;obtain⟨F3,N3,kp3,fr3⟩:=Vv (l:=cV st x c) (DE:=DE) (Ln:=Ln) (pa:=pa) (la:=la) (da:=da) (ea:=ea) hp (O1.mono m) hF (T1.mono λb x=>m.eK (a:=b) (xs:=x)) rfl (by show _=some (HO.ins _ _ [_,(_,V.int ((st.groups.getD x 0:Nat):Int)),_,_,_]);rw[eg];exact h2p) (m _ _ hla) h2d h2e (bN (ZI f)) npd npe (ZI C) (ZI G) nde (nF f) nFl (nF C) (nF G);have v:Step H F _ F3:=⟨λb u e z=>kp3 b u (m _ _ (s _ _ e)) z,λb z=>by
   rcases fr3 b z with y|rfl|rfl|rfl|rfl
   ·exact .inl y
   ·exact .inr (s.free f)
   ·exact .inr Yz
   ·exact .inr (s.free C)
   ·exact .inr (s.free G)⟩
  have W3:=N.done v N3;generalize upd H2 (n .cW) (.lst (((az st.ls.length).map λi=>V.ref (n (.bW i)))++[.ref pa]))=H3 at v W3 N3;refine j _ _ ?_;obtain⟨L,Qf,q3,hp3,R,hF3,hT3⟩:=id W3.dO;have X3:kR K (nc t) H3 F3 L Qf q3 p tp ns.length (Kz st (cV st x c)):=⟨hp3,R,hF3,hT3⟩;have DA:=R.get .dO _ rfl;rw[hp3] at DA;have g:(Kz st (cV st x c)).ls[st.ls.length]?=some (cV st x c):=jK;have YD:st.ls.length<(Kz st (cV st x c)).ls.length:=(ai.mp g).1;have eh:st.aD.getD x 0=st.aD[x]:=by rw[au,aa hx];rfl
  refine b4 λW j=>?_;refine⟨_,rfl,p,_,_,_,_,rfl,DA,T.bD,T.iV,rfl,_,rfl,L .aD,_,_,_,rfl,rfl,bQ.of (R.get .aD _ rfl),kQ hx,j _ _ ?_⟩;have Wk:=R.get (.bW st.ls.length) (m8 (nc t) Qf L st.ls.length (cV st x c)) (by show ((Kz st (cV st x c)).ls[st.ls.length]?.map _)=_;rw[g];rfl);have Z:=R.get (.aG st.ls.length) (.lst ((q3.dq st.ls.length).map V.ref)) (by show ((Kz st (cV st x c)).ls[st.ls.length]?.map _)=_;rw[g];rfl);have Qd:=(X3.tup.aG _ _ g).len;rw[ah] at Qd;refine b4 λW j=>?_;refine⟨_,rfl,p,_,_,_,_,rfl,DA,T.bD,T.ff,rfl,_,rfl,L .cW,_,_,_,rfl,rfl,bQ.of (R.get .cW _ rfl),qw YD,L (.bW st.ls.length),_,_,_,_,rfl,Wk,T.dG,T.iO,rfl,.inl ⟨rfl,_,bQ.of Z⟩,_,rfl,e8,λz1 hz1=>?_⟩;have u1:=aH.new (o:=.tup [V.str "post",V.int (st.aD[x]:Nat)]) hz1;refine⟨L (.aG st.ls.length),_,_,rfl,rfl,u1 _ _ Z,Au (by rw[ah,Qd];exact bI _),?_⟩;obtain⟨U,AX⟩:=CP (X3.mono u1) g (d:=.post st.aD[x]) (c7.of aC);rw[<- fJ g,<- eh,TH] at U;rw[<- eh] at AX u1;rw[<- eh];have J:=v.trans ((Step.refl' (F:=F3) u1).trans AX);have W4:=N.done J U.dO;generalize upd (upd H3 z1 (.tup [V.str "post",V.int (st.aD.getD x 0:Nat)])) (L (.aG st.ls.length)) (.lst ((q3.dq st.ls.length).map V.ref++[.ref z1]))=H4 at U J W4;refine j _ _ ?_;have As:=U.own.get .dO _ rfl;rw[U.hp] at As;have abO:BE ns rs (gi st x c):=⟨Dv.wl,Dv.w4,Dv.fit⟩;refine b4 λW j=>?_;refine⟨_,rfl,p,_,_,rfl,As,rfl,_,rfl,_,rfl,F3,p,tp,ln,lr,ns,rs,gi st x c,o,st.ls.length,st.aD.getD x 0,none,{cV st x c with aG:=[.post (st.aD.getD x 0)]},D+1,rfl,W4,abO,RK bd hx,∅,jK,λos F5 H5 hO h12 W5 JF=>?_⟩;exact j _ _ ⟨_,rfl,k os F5 H5 hO h12 W5 (J.trans JF)⟩
theorem ZU{ns:List Int}{rs:List R5}(o:dH ns rs){D:Nat}{s:NS}{i h:Nat}{l:LS}{cz:Option Nat}{os:List Nat}(b:Bd ns.length rs.length D s)(hl:s.ls[i]?=some l)(O:c8 (iI ns rs o s.ws l.grp) (s.R l.grp) os)(q:os.length<=12):Bd ns.length rs.length (D+45) (RH rs s i h l cz os):=by
 have j:=RE (h:=h) b hl;have f1:=Mg (h:=h) hl;have n:Bd ns.length rs.length (D+1+1*(jJ s l h).length) ((jJ s l h).foldl (lA i h) (eX s i h l)):=AR (λ_=>True) _ _ _ (λs x D _ _ b=>⟨trivial,Mh b⟩) trivial j;have p:Fr (eX s i h l) ((jJ s l h).foldl (lA i h) (eX s i h l)):=yu (λ_ _=>Gk) _ _;obtain⟨u,a,_⟩:=(f1.trans p).lt i l hl;have t:=(Oh (s:=s) (l:=l) (h:=h)).2;have w:=b.Ao;have d:=RI (rs:=rs) (s:=s) (l:=l) (h:=h) (cz:=cz) (os:=os);have y:=d.2;have g:=AR (k:=2) (f:=tZ rs i h) (λs=>i<s.ls.length) (Aw rs s l h cz os) _ _ (λs x D m c b=>⟨by
  obtain⟨v,e,_⟩:=(Gm (rs:=rs) (h:=h) (i:=i) (r:=x) (s:=s)).lt i _ (aa c);exact (ai.mp e).1,RG o b c (AS O (d.1 x m)).1⟩) (ai.mp a).1 n
 exact g.mono ∅
noncomputable def yN(l:LS)(cp:Cp)(os:List Nat):Str:=if cp.r∈os then (if Av l cp.h=true then "twice" else "come") else "lost"
noncomputable def gj(l:LS)(cp:Cp)(os:List Nat):fR:=if cp.r∈os then (if Av l cp.h=true then .twice cp.h cp.r else .t9 cp.h cp.r) else .XO cp.h cp.r
theorem YE{l:LS}{cp:Cp}{os:List Nat}:(gj l cp os).vs=[.str (yN l cp os),.int cp.h,.int cp.r]:=by
 unfold gj yN;split
 ·split <;> rfl
 ·rfl
noncomputable def comes(l:LS)(cp:Cp)(os:List Nat):Bool:=decide (cp.r∈os)&&!Av l cp.h
theorem TJ{l:LS}{cp:Cp}{os:List Nat}:decide (V.str (yN l cp os)=V.str "come")=comes l cp os:=by
 unfold yN comes;by_cases e:cp.r∈os
 ·rw[aq e,cy e]
  cases Av l cp.h
  ·rw[b3 (!_)];decide +kernel
  ·rw[aq rfl];decide +kernel
 ·rw[b3 e,c6 e,Bool.false_and];decide +kernel
noncomputable def Oi(s:NS)(a:Nat):NS:={s with cps:=s.cps.eraseIdx a}
noncomputable def Bu(s:NS)(g:Nat)(ts:List T3):NS:={s with ts:=fH s.ts g ts}
noncomputable def je(s:NS)(a:Nat)(cp:Cp)(l:LS)(os:List Nat):NS:={s with cps:=s.cps.eraseIdx a,ls:=s.ls.set cp.l {l with aG:=l.aG++[gj l cp os]}}
noncomputable def bR(s:NS)(a:Nat)(cp:Cp)(l:LS)(os:List Nat)(ts:List T3):NS:=if l.old=true then je s a cp l os else Bu (je s a cp l os) l.grp ts
noncomputable def gy(rs:List R5)(s:NS)(a:Nat)(cp:Cp)(l:LS)(os:List Nat)(ts:List T3):NS :=
 if comes l cp os=true then RH rs (bR s a cp l os ts) cp.l cp.h {l with aG:=l.aG++[gj l cp os]} (some cp.r) os else je s a cp l os
theorem EF{n m D:Nat}{s:NS}{a:Nat}{cp:Cp}{l:LS}{os:List Nat}(b:Bd n m D s)(hl:s.ls[cp.l]?=some l)(d:a<s.cps.length):Bd n m (D+1) (je s a cp l os):=by
 have e:(s.cps.eraseIdx a).length+1=s.cps.length:=by
  rw[List.length_eraseIdx,aq d];lia
 refine b.set 1 hl ∅ (.inl ∅) (aB _) ?_ (dU _) rfl rfl (λc z=>.inl (List.mem_of_mem_eraseIdx z)) rfl (λw z=>Nat.le_succ_of_le (b.hb w z));show (l.aG++[_]).length+_<=_;rw[aA];show l.aG.length+1+_<=_;lia
theorem Wl{ts a:List T3}{h c r:Int}(p:a.Perm (put3 ts h c r)):a.length<=ts.length+1:=by
 rw[p.length_eq];unfold put3;rw[aA];exact Nat.add_le_add_right (bY _ _) 1
theorem YF{n m D:Nat}{s:NS}{g:Nat}{ts:List T3}{h c r:Int}(b:Bd n m D s)(p:ts.Perm (put3 (s.ts g) h c r))(e:eV ts):Bd n m (D+50) (Bu s g ts):=by
 have a:=b.mono (wV D 50);refine⟨a.gl,a.Ao,a.g3,a.hm,a.hl,a.hb,a.ll,a.lb,a.cb,a.cl,λd=>?_⟩;show 50*(fH s.ts g ts d).length<=_/\eV (fH s.ts g ts d);by_cases z:d=g
 ·subst z
  rw[cC];refine⟨?_,e⟩
  have:=Wl p
  have:=(b.tb d).1
  lia
 ·rw[dQ z]
  exact a.tb d
theorem EH{s:NS}{a:Nat}{cp:Cp}{l:LS}{os:List Nat}(hl:s.ls[cp.l]?=some l):(je s a cp l os).ls[cp.l]?=some {l with aG:=l.aG++[gj l cp os]}:=by
 show (s.ls.set cp.l _)[cp.l]?=_;rw[f6 (ai.mp hl).1,aq rfl]
theorem qm{s:NS}{a:Nat}{cp:Cp}{l:LS}{os:List Nat}{ts:List T3}(hl:s.ls[cp.l]?=some l):(bR s a cp l os ts).ls[cp.l]?=some {l with aG:=l.aG++[gj l cp os]}:=by
 unfold bR;split
 ·exact EH hl
 ·exact EH (a:=a) hl
theorem wQ{s:NS}{a:Nat}{cp:Cp}{l:LS}{os:List Nat}{ts:List T3}:(bR s a cp l os ts).ws=s.ws/\(bR s a cp l os ts).R=s.R/\(bR s a cp l os ts).aD=s.aD/\(bR s a cp l os ts).groups=s.groups:=by
 unfold bR;split <;> exact⟨rfl,rfl,rfl,rfl⟩
theorem Oj{n m D:Nat}{s:NS}{a:Nat}{cp:Cp}{l:LS}{os:List Nat}{ts:List T3}{h c r:Int}(b:Bd n m D s)(hl:s.ls[cp.l]?=some l)(d:a<s.cps.length)(p:ts.Perm (put3 (s.ts l.grp) h c r))(e:eV ts):Bd n m (D+51) (bR s a cp l os ts):=by
 unfold bR;split
 ·exact (EF b hl d).mono ∅
 ·exact (YF (h:=h) (c:=c) (r:=r) (EF b hl d) p e).mono ∅
theorem YG{ns:List Int}{rs:List R5}(o:dH ns rs){D:Nat}{s:NS}{a:Nat}{cp:Cp}{l:LS}{os:List Nat}{ts:List T3}{h c r:Int}(b:Bd ns.length rs.length D s)(hl:s.ls[cp.l]?=some l)(f:a<s.cps.length)(O:c8 (iI ns rs o s.ws l.grp) (s.R l.grp) os)(d:os.length<=12)(p:ts.Perm (put3 (s.ts l.grp) h c r))(g:eV ts):Bd ns.length rs.length (D+100) (gy rs s a cp l os ts):=by
 unfold gy;split
 ·have e:=wQ (s:=s) (a:=a) (cp:=cp) (l:=l) (os:=os) (ts:=ts)
  exact (ZU o (Oj (h:=h) (c:=c) (r:=r) b hl f p g) (qm hl) (by rw[e.1,e.2.1];exact O) d).mono ∅
 ·exact (EF b hl f).mono ∅
theorem _root_.TW.eO.erase{H:Hp}{qs:List Addr}{xs:List (List V)}(h:eO K H qs xs)(a:Nat):eO K H (qs.eraseIdx a) (xs.eraseIdx a):=by
 refine⟨by rw[List.length_eraseIdx,List.length_eraseIdx,h.len],λi q x b c=>?_⟩;rw[List.getElem?_eraseIdx] at b c;by_cases z:i<a
 ·rw[aq z] at b c
  exact h.at' i q x b c
 ·rw[b3 z] at b c
  exact h.at' (i+1) q x b c
theorem EI{α β:Type}(f:α->β):∀(xs:List α) (a:Nat),(xs.map f).eraseIdx a=(xs.eraseIdx a).map f
 |[],_=>rfl
 |_::_,0=>rfl
 |x::xs,a+1=>er (f x::·) (EI f xs a)
theorem Wm{c:NC}{H d:Hp}{F:Addr->Prop}{a i:Role->Addr}{q:TQ}{p h:Addr}{n g:Nat}{s:NS}(X:kR K c H F a i q p h n s)(f:g<3)(ts:List T3)(v:d (a (.fB g))=some (.dT (ts.map iT)))(w:∀b o,H b=some o->b≠a (.fB g)->d b=some o) :
 kR K c d F a i q p h n (Bu s g ts)/\Step H F d F:=by
 obtain⟨y,j⟩:=xj X (r:=.fB g) (o:=.dT (ts.map iT)) (q':=q) (s':=Bu s g ts) (by show (if g<3 then some _ else none)≠none;rw[aq f];exact aV _) (λx=>by
  cases x <;> first|rfl|skip
  rename_i k;show jC (desc c i h a q s) (.fB g) _ (.fB k)=(if k<3 then some (HO.dT ((fH s.ts g ts k).map iT)) else none);by_cases z:k=g
  ·subst z
   rw[eT,aq f,cC]
  ·rw[dP (λe=>z (by cases e;rfl)),dQ z]
   rfl) (λm=>⟨λg f=>(X.tup.rows g f).mono m,λk l e=>(X.tup.aG k l e).mono m,X.tup.cps.mono m⟩)
 have t:aH (upd H (a (.fB g)) (.dT (ts.map iT))) d:=λb u e=>by
  by_cases z:b=a (.fB g)
  ·rw[z,aC] at e
   cases e;rw[z];exact v
  ·rw[aK z] at e
   exact w b u e z
 exact⟨y.mono t,j.trans (Step.refl' t)⟩
theorem YH{t:Ad}(T:Txt K mg t){b a:Role->Addr}{f:L2.St}{H:Hp}{Q:VK}{i:Nat}{l:LS}(h:∀Q:VK,Q (.ref (a (.bW i))) H->Bv 6 f H Q)(g:H (a (.bW i))=some (m8 (nc t) b a i l))(c:H (a (.letter i))=some (rG (nc t) (b (.letter i)) l))(q:Q (.int l.s) H) :
 Gx K (Gx K (Bv 6) (Str.ofString "letter")) (Str.ofString "sender") f H Q:=by
 by_cases e:l.kd=1
 ·have d:H (a (.letter i))=some (.ins t.fY (b (.letter i)) [("sender",.int l.s),("to",.int l.to)]):=by rw[c];unfold rG;rw[aq e]
  unfold Gx;exact (h _ ⟨a (.bW i),_,_,_,_,rfl,g,T.dG,T.gZ,rfl,a (.letter i),_,b (.letter i),_,_,rfl,d,T.pR,T.sY,rfl,q⟩)
 ·have d:H (a (.letter i))=some (.ins t.jd (b (.letter i)) [("sender",.int l.s)]):=by rw[c];unfold rG;rw[b3 e]
  unfold Gx;exact (h _ ⟨a (.bW i),_,_,_,_,rfl,g,T.dG,T.gZ,rfl,a (.letter i),_,b (.letter i),_,_,rfl,d,T.xU,T.nR,rfl,q⟩)
inductive RN(K:af)(CT:Addr)(c:NC)(vs:List V)(H:Hp)(Q:VK)(E:XK):Prop
 |mk (F:Addr->Prop) (p tp ln lr:Addr) (ns:List Int) (rs:List R5) (s:NS) (o:dH ns rs) (a D:Nat) (cp:Cp) (l:LS):vs=[.ref p,.int a]->NW K c CT H F p tp ln lr ns rs s->BE ns rs s->Bd ns.length rs.length D s->D<=400000->s.cps[a]?=some cp->s.ls[cp.l]?=some l->(∀os ts F' H',c8 (iI ns rs o s.ws l.grp) (s.R l.grp) os->os.length<=12->ts.Perm (put3 (s.ts l.grp) cp.h l.s cp.r)->eV ts->NW K c CT H' F' p tp ln lr ns rs (gy rs s a cp l os ts)->Step H F H' F'->Q (.str (yN l cp os)) H')->RN K CT c vs H Q E
theorem Ir{t:Ad}(T:Txt K mg t):cE P w K mg base iS 8 t.fL t.pP ["self","at"]  (RN K t.bu (nc t)):=by
 refine T.lz.kq gG λH Q E hr h=>?_
 ·obtain⟨F,p,tp,ln,lr,ns,B,st,o,a,D,cp,l,rfl,N,C,Y,hD,L,g,k⟩:=h
  refine⟨_,(av (cT (lR (jS rz ug aE (pv 1) (lS T.iP (bf (pv 0) rfl)))) dS bB) (av (sS 2 gG (yw bX PySem.F.slot_list_pop PySem.F.type_list_pop US (bf (pv 0) rfl) (gz (pv 1)))) (av (sS 3 gG (xT (pv 2) aE)) (av (sS 4 gG (xT (pv 2) aE)) (av (sS 5 gG (xT (pv 2) aE)) (av (sS 6 gG (xL (bf (pv 0) rfl) (pv 3))) (av (sS 7 gG (cM (pv 0) T.bD T.Be (Iq T) hr (IB (pv 6) (pv 4) (pv 5)))) (av (dm (yw bX b9 b6 gY (bf (pv 6) rfl) (gz (iH (IB (pv 7) (pv 5) (pv 4)))))) (av (cT (qT vO (pv 7) sf) (av (cT (lR (Bw (bf (pv 6) rfl))) (oE (cM (xL (bf (pv 0) rfl) (bf (pv 6) rfl)) T.xW T.C0 (Ju T) hr (IB (pv 5) (bf (bf (pv 6) rfl) rfl) (pv 4)))) bB) (oE (cM (pv 0) T.bD T.qI (wO T) hr (IB (pv 3) (pv 5) (pv 4))))) bB) (oR (pv 7))))))))))),?_⟩
  left
  obtain⟨b,y,q,hp,O,hF,hT⟩:=id N.dO;have X:kR K (nc t) H F b y q p tp ns.length st:=⟨hp,O,hF,hT⟩;have bP:=O.get .dO _ rfl;rw[hp] at bP;have S:=(ai.mp L).1;have hil:=(ai.mp g).1;have hcb:=Y.cb;obtain⟨lb1,lb2,M,lkd⟩:=Y.lb l (aN g);obtain⟨ts,ets,u,A⟩:=Pw (h:=(cp.h:Int)) (c:=(l.s:Int)) (r:=(cp.r:Int)) (List.Perm.refl (st.ts l.grp)) (Y.tb l.grp).2;have v:=O.get .lX _ rfl;have ZO:q.cq.length=st.cps.length:=by
   have z:=hT.cps.len;rw[ah] at z;exact z
  have Z:a<q.cq.length:=∅
  refine b4 λx f=>?_;refine⟨_,rfl,_,_,rfl,rfl,_,rfl,?_⟩;rw[cy (show (0:Int)<=(a:Int) by lia)];refine iC ⟨_,rfl,p,_,_,_,_,rfl,bP,T.bD,T.nV,rfl,b .lX,_,rfl,.inl (bQ.of v),_,_,rfl,rfl,_,rfl,?_⟩;rw[ah,ZO,cy (show (a:Int)<(st.cps.length:Int) by lia)];refine gD (f _ _ ?_);refine b4 λx f=>?_;refine⟨_,rfl,p,_,_,_,_,rfl,bP,T.bD,T.nV,rfl,.inl ⟨rfl,_,bQ.of v⟩,_,rfl,b .lX,_,a,a,_,rfl,rfl,v,∅,∅,(K7 (by rw[ah,ZO];exact CK S)).1,(by rw[ak,aa Z];rfl),?_⟩;have htu:c7 K H q.cq[a] cp.vs:=hT.cps.at' a _ _ (aa Z) (by rw[ak,L];rfl);obtain⟨m,j⟩:=Q7 X (qs:=q.cq.eraseIdx a) (cps:=st.cps.eraseIdx a) (by rw[<- EI];exact hT.cps.erase a);rw[EI];have TL:c7 K _ q.cq[a] cp.vs:=N.dO.tup j.kp htu;generalize upd H (b .lX) (.lst ((q.cq.eraseIdx a).map V.ref))=H1 at m j TL;generalize q.cq[a]=qa at TL;refine f _ _ ?_;have es:{st with cps:=st.cps.eraseIdx a}=Oi st a:=rfl;rw[es] at m;have EB:(Oi st a).ls[cp.l]?=some l:=g;have N1:=N.done j m.dO;have jH:=m.own.get .dO _ rfl;rw[m.hp] at jH;have aeB:=m.own.get (.bW cp.l) (m8 (nc t) y b cp.l l) (by show ((Oi st a).ls[cp.l]?.map _)=_;rw[EB];rfl);refine b4 λx f=>?_;refine⟨_,rfl,qa,_,0,_,rfl,rfl,TL,rfl,f _ _ ?_⟩;refine b4 λx f=>?_;refine⟨_,rfl,qa,_,1,_,rfl,rfl,TL,rfl,f _ _ ?_⟩;refine b4 λx f=>?_;refine⟨_,rfl,qa,_,3,_,rfl,rfl,TL,rfl,f _ _ ?_⟩;refine b4 λx f=>?_;refine⟨_,rfl,p,_,_,_,_,rfl,jH,T.bD,T.ff,rfl,_,rfl,b .cW,_,_,_,rfl,rfl,bQ.of (m.own.get .cW _ rfl),qw hil,f _ _ ?_⟩;have Tz:BE ns B (Oi st a):=⟨C.wl,C.w4,C.fit⟩;refine b4 λx f=>?_;refine⟨_,rfl,p,_,_,rfl,jH,rfl,_,rfl,_,rfl,_,rfl,F,b,y,_,p,tp,ln,lr,ns,B,Oi st a,o,cp.l,cp.r,cp.h,l,rfl,m,N1,Tz,EB,M,λos H2 s2 hO U=>?_⟩;have ef:(if cp.r∈os then (if Av l cp.h=true then "twice" else "come") else "lost" : Str)=yN l cp os:=rfl;rw[ef];refine f _ _ ?_;have k:=k os ts;have X2:=m.mono s2;have aeC:=s2 _ _ aeB;have J:=X2.own.get (.aG cp.l) (.lst ((q.dq cp.l).map V.ref)) (by show ((Oi st a).ls[cp.l]?.map _)=_;rw[EB];rfl);have Qd:=(X2.tup.aG cp.l _ EB).len;rw[ah] at Qd;have Qd:(q.dq cp.l).length=l.aG.length:=Qd;refine b4 λx f=>?_;refine⟨_,rfl,b (.bW cp.l),_,_,_,_,rfl,aeC,T.dG,T.iO,rfl,.inl ⟨rfl,_,bQ.of J⟩,_,rfl,_,rfl,_,rfl,k9,λz1 hz1=>?_⟩;have u1:=aH.new (o:=.tup [V.str (yN l cp os),V.int cp.h,V.int cp.r]) hz1;refine⟨b (.aG cp.l),_,_,rfl,rfl,u1 _ _ J,Au (by rw[ah,Qd];lia),?_⟩;obtain⟨i,st3⟩:=CP (X2.mono u1) EB (d:=gj l cp os) (by rw[YE];exact c7.of aC);have Wn:=(j.trans (Step.refl' (F:=F) (s2.trans u1))).trans st3;generalize upd (upd H2 z1 (.tup [V.str (yN l cp os),V.int cp.h,V.int cp.r])) (b (.aG cp.l)) (.lst ((q.dq cp.l).map V.ref++[.ref z1]))=H3 at i Wn;refine f _ _ ?_;have es:{Oi st a with ls:=(Oi st a).ls.set cp.l {l with aG:=l.aG++[gj l cp os]}}=je st a cp l os:=rfl;rw[es] at i;have DA:=i.own.get .dO _ rfl;rw[i.hp] at DA;have YD:=EH (a:=a) (os:=os) g;have Wk:=i.own.get (.bW cp.l) (m8 (nc t) y b cp.l {l with aG:=l.aG++[gj l cp os]}) (by show ((je st a cp l os).ls[cp.l]?.map _)=_;rw[YD];rfl);have ah6:=i.own.get (.letter cp.l) (rG (nc t) (y (.letter cp.l)) {l with aG:=l.aG++[gj l cp os]}) (by show ((je st a cp l os).ls[cp.l]?.map _)=_;rw[YD];rfl);have N3:=N.done Wn i.dO;refine⟨_,rfl,rfl,_,rfl,?_⟩;rw[TJ];by_cases e:comes l cp os=true
  ·have k:∀F' H',NW K (nc t) t.bu H' F' p tp ln lr ns B (RH B (bR st a cp l os ts) cp.l cp.h {l with aG:=l.aG++[gj l cp os]} (some cp.r) os)->Step H F H' F'->Q (.str (yN l cp os)) H':=λF' H' W z=>k F' H' hO U u A (by unfold gy;rw[aq e];exact W) z
   rw[e];refine iC ?_;refine um (λσ H4=>kR K (nc t) H4 F b y {q with cq:=q.cq.eraseIdx a,dq:=fH q.dq cp.l (q.dq cp.l++[z1])} p tp ns.length (bR st a cp l os ts)/\Step H F H4 F/\σ=[some (.ref p),some (.int a),some (.ref qa),some (.int cp.l),some (.int cp.r),some (.int cp.h),some (.ref (b (.bW cp.l))),some (.str (yN l cp os))]) ?_ (λN' hN=>?_)
   ·rintro σ H4 ⟨I,AX,rfl⟩
    have As:=I.own.get .dO _ rfl;rw[I.hp] at As;have G:=wQ (s:=st) (a:=a) (cp:=cp) (l:=l) (os:=os) (ts:=ts);have abO:BE ns B (bR st a cp l os ts):=⟨by rw[G.1];exact C.wl,by rw[G.1];exact C.w4,by rw[G.2.1];exact C.fit⟩;refine⟨_,rfl,p,_,_,rfl,As,rfl,_,rfl,_,rfl,_,rfl,F,p,tp,ln,lr,ns,B,bR st a cp l os ts,o,cp.l,cp.h,some cp.r,{l with aG:=l.aG++[gj l cp os]},D+51,rfl,N.done AX I.dO,abO,Oj Y g S u A,∅,qm g,λos' F5 H5 n _ W5 JF=>?_⟩;have n:c8 (iI ns B o (bR st a cp l os ts).ws l.grp) ((bR st a cp l os ts).R l.grp) os':=n;rw[G.1,G.2.1] at n;rw[n.uniq hO] at W5;exact⟨_,rfl,k F5 H5 W5 (AX.trans JF)⟩
   ·refine⟨_,rfl,b (.bW cp.l),_,_,_,_,rfl,Wk,T.dG,T.xV,rfl,_,rfl,?_⟩
    cases eo:l.old with
    |true =>
     refine gD ?_;refine hN _ _ ⟨?_,Wn,rfl⟩;unfold bR;rw[aq eo];exact i
    |false =>
     refine iC ?_;refine⟨_,rfl,p,_,_,_,_,rfl,DA,T.bD,T.qk,rfl,_,rfl,b (.bW cp.l),_,_,_,_,rfl,Wk,T.dG,T.kj,rfl,b .kJ,_,_,_,rfl,rfl,bQ.of (i.own.get .kJ _ rfl),qw M,b (.book l.grp),y (.book l.grp),_,rfl,i.own.get (.book l.grp) _ (aq M),rfl,_,rfl,?_⟩;refine YH T (λQ q=>⟨_,rfl,q⟩) Wk ah6 ?_;refine⟨_,rfl,b (.book l.grp),b (.fB l.grp),st.ts l.grp,cp.h,l.s,cp.r,rfl,i.own.Lj M,?_,λH4 h4 kp4=>?_⟩
     ·have:=(Y.tb l.grp).1
      lia
     ·rw[ets] at h4
      obtain⟨I,AX⟩:=Wm i M ts h4 kp4;refine hN _ _ ⟨?_,Wn.trans AX,rfl⟩;unfold bR;rw[b3 (by rw[eo];decide)];exact I
  ·have e':comes l cp os=false:=by simpa using e
   rw[e'];refine gD ?_;refine⟨_,rfl,k F H3 hO U u A ?_ Wn⟩;unfold gy;rw[e',b3 (!_)];exact N3
end
section
inductive Rw(rs:List R5)(os:List Nat)(r0:Nat)(x:Nat):Nat->Prop
 |refl:Rw rs os r0 x x
 |step {y r:Nat} (t:Rw rs os r0 x y) (hr:r∈os) (ne:r≠r0) (ha:isAt rs (y:Int) r=true):Rw rs os r0 x (c9 rs r y)
inductive Ds(N:RM.Net)(R:Nat->RM.Row)(c:Nat):Nat->Prop
 |self:Ds N R c c
 |on {r x y:Nat} (t:RM.ow N R r x y) (d:Ds N R c y):Ds N R c x
theorem Ds.rank{N:RM.Net}{R:Nat->RM.Row}{c x:Nat}(d:Ds N R c x):(R c).ho<=(R x).ho:=by
 induction d with
 |self=>exact jA _
 |on t _ a=>have:=t.ho;lia
variable{ns:List Int}{rs:List R5}{os:List Nat}{live:List Nat}{nd:ns.Nodup}{ok:∀r∈rs,r.Ok ns.length}{hl:∀k∈live,k<rs.length}{R:Nat->RM.Row}
theorem Qg{r x:Nat}(a:r∈live)(b:isAt rs (x:Int) r=true):RM.Gf (aZ ns rs live nd ok hl) r x (c9 rs r x):=by
 refine (uh a).mpr ⟨b,?_⟩;unfold c9;rw[aa (hl r a)]
theorem RO{N:RM.Net}{r a b x y:Nat}(h:RM.Gf N r a b)(e:RM.Gf N r x y):(a=x/\b=y)∨(a=y/\b=x):=by
 rcases h.2 with ⟨d,f⟩|⟨d,f⟩ <;> rcases e.2 with ⟨g,c⟩|⟨g,c⟩ <;> lia
theorem Ol{r x:Nat}(f:r<rs.length)(ok:∀r∈rs,r.Ok ns.length)(c:isAt rs (x:Int) r=true):isAt rs ((c9 rs r x:Nat):Int) r=true/\c9 rs r (c9 rs r x)=x/\c9 rs r x≠x/\c9 rs r x<ns.length:=by
 have o:=ok _ (aM f);have k:=o.a0;have m:=o.b0;have j:=o.ab;have n:=o.a1;have l:=o.b1;have h:∀y,c9 rs r y=fQ rs[r] y:=λy=>by unfold c9;rw[aa f]
 have g:∀y:Int,isAt rs y r=(decide (y=rs[r].a) || decide (y=rs[r].b)):=λy=>by unfold isAt;rw[aa f]
 rw[h,h,g];rw[g] at c;have c:(decide ((x:Int)=rs[r].a) || decide ((x:Int)=rs[r].b))=true:=c;rw[Bool.or_eq_true,decide_eq_true_iff,decide_eq_true_iff] at c;show (decide _ || decide _)=true/\fQ rs[r] (fQ rs[r] x)=x/\fQ rs[r] x≠x/\fQ rs[r] x<_;rw[Bool.or_eq_true,decide_eq_true_iff,decide_eq_true_iff];unfold fQ;rcases c with e|e
 ·rw[aq e]
  have d:((rs[r].b.toNat:Nat):Int)=rs[r].b:=∅
  rw[d,b3 (bN j)];lia
 ·have i:¬(x:Int)=rs[r].a:=∅
  rw[b3 i];have d:((rs[r].a.toNat:Nat):Int)=rs[r].a:=∅
  rw[d,aq rfl];lia
theorem RP(O:c8 (aZ ns rs live nd ok hl) R os){r0 c p:Nat}(f:RM.ow (aZ ns rs live nd ok hl) R r0 c p){r y z:Nat}(h:r∈os)(e:r≠r0)(i:RM.Gf (aZ ns rs live nd ok hl) r y z)(d:Ds (aZ ns rs live nd ok hl) R c y):Ds (aZ ns rs live nd ok hl) R c z:=by
 obtain⟨a,b,t⟩:=(O.2 r).mp h;rcases RO t.pY i with ⟨rfl,rfl⟩|⟨rfl,rfl⟩
 ·cases d with
  |self=>exact b5 (t.uniq f).1 e
  |on j g =>
   obtain⟨_,rfl⟩:=t.uniq j;exact g
 ·exact .on t d
theorem YI(O:c8 (aZ ns rs live nd ok hl) R os){r x:Nat}(f:r∈os)(h:isAt rs (x:Int) r=true):¬Rw rs os r x (c9 rs r x):=by
 intro t;obtain⟨c,p,i⟩:=(O.2 r).mp f;have l:∀k∈os,k∈live:=λk s=>by
  obtain⟨a,b,t⟩:=(O.2 k).mp s;exact t.pY.1
 have q:∀{y z:Nat},Rw rs os r y z->Ds (aZ ns rs live nd ok hl) R c y->Ds (aZ ns rs live nd ok hl) R c z:=λ{y z} t=>by
  induction t with
  |refl=>exact id
  |step t f j h m=>exact λd=>RP O i f j (Qg (l _ f) h) (m d)
 have g:∀{y z:Nat},Rw rs os r y z->Ds (aZ ns rs live nd ok hl) R c z->Ds (aZ ns rs live nd ok hl) R c y:=λ{y z} t=>by
  induction t with
  |refl=>exact id
  |step t f j h m=>exact λd=>m (RP O i f j (Qg (l _ f) h).symm d)
 have e:=i.ho;rcases RO i.pY (Qg (l r f) h) with ⟨rfl,n⟩|⟨o,rfl⟩
 ·have:=(q t .self).rank
  rw[<- n] at this;lia
 ·have:=(g t (o▸.self)).rank
  lia
theorem Rw.trans{r0 x y z:Nat}(a:Rw rs os r0 x y)(b:Rw rs os r0 y z):Rw rs os r0 x z:=by
 induction b with
 |refl=>exact a
 |step t d c e f=>exact .step f d c e
theorem Rw.symm{r0 x y:Nat}(ok:∀r∈rs,r.Ok ns.length)(lt:∀k∈os,k<rs.length)(a:Rw rs os r0 x y):Rw rs os r0 y x:=by
 induction a with
 |refl=>exact .refl
 |@step y r t b c e f =>
  obtain⟨d,g,_⟩:=Ol (lt r b) ok e
  have:Rw rs os r0 (c9 rs r y) y:=by
   have:=Rw.step (rs:=rs) (os:=os) (r0:=r0) (x:=c9 rs r y) .refl b c d
   rw[g] at this;exact this
  exact this.trans f
structure En where
 h:Nat
 fr:Option (Nat×Nat)
noncomputable def En.by?(e:En):Option Nat:=e.fr.map (·.1)
noncomputable def goes(rs:List R5)(os:List Nat)(e:En):List Nat:=os.filter λr=>isAt rs (e.h:Int) r&&!decide (some r=e.by?)
theorem iQ{e:En}{r:Nat}:r∈goes rs os e↔r∈os/\isAt rs (e.h:Int) r=true/\some r≠e.by?:=by
 unfold goes;rw[bq,dw,Bool.not_eq_true',decide_eq_false_iff_not]
end
section
variable{P:Program}{w:World}{K:af}{mg:Str->Option Value}{base:Heap}
inductive Om(K:af)(c:NC)(vs:List V)(H:Hp)(Q:VK)(E:XK):Prop
 |mk (F:Addr->Prop) (p tp:Addr) (n i:Nat) (s:NS) (l:LS):vs=[.ref p,.int i]->dF K c H F p tp n s->s.ls[i]?=some l->(∀a (qs:List Addr) H',aH H H'->H a=none->H' a=some (.lst (qs.map V.ref))->eO K H' qs (l.aG.map fR.vs)->Q (.ref a) H')->Om K c vs H Q E
theorem Mi{t:Ad}(T:Txt K mg t):cE P w K mg base iS 1 t.qe t.uC ["self","letter"]  (Om K (nc t)):=by
 refine T.E6.F.kq LG λH Q E B h=>?_
 ·obtain⟨F,p,z,n,i,st,l,rfl,N,d,k⟩:=h
  refine⟨_,(av (cT (lR (jS rz ug aE (pv 1) (lS T.iP (bf (pv 0) rfl)))) dS bB) (oR (fV gp (by rfl) T.tw boot_list (gz (bf (xL (bf (pv 0) rfl) (pv 1)) rfl))))),?_⟩
  left
  obtain⟨c,r,q,y,O,A,v⟩:=id N;have g:=O.get .dO _ rfl;rw[y] at g;have f:=(ai.mp d).1;have j:=O.get .cW _ rfl;have s:=O.get (.bW i) (m8 (nc t) r c i l) (by show (st.ls[i]?.map _)=_;rw[d];rfl);have e:=O.get (.aG i) (.lst ((q.dq i).map V.ref)) (by show (st.ls[i]?.map _)=_;rw[d];rfl);refine⟨_,rfl,_,_,rfl,rfl,_,rfl,?_⟩;rw[cy (show (0:Int)<=(i:Int) by lia)];refine iC ⟨_,rfl,p,_,_,_,_,rfl,g,T.bD,T.ff,rfl,c .cW,_,rfl,.inl (bQ.of j),_,_,rfl,rfl,_,rfl,?_⟩;rw[ah,bG,cy (show (i:Int)<(st.ls.length:Int) by lia)];refine gD ?_;refine⟨_,rfl,p,_,_,_,_,rfl,g,T.bD,T.ff,rfl,_,rfl,c .cW,_,_,_,rfl,rfl,bQ.of j,qw f,c (.bW i),_,_,_,_,rfl,s,T.dG,T.iO,rfl,c (.aG i),_,rfl,.inl (bQ.of e),λa m=>?_⟩;have u:=aH.new (o:=.lst ((q.dq i).map V.ref)) m;exact k a (q.dq i) _ u m aC ((v.aG i l d).mono λb x=>u.eK)
noncomputable def dW:fR->Str
 |.post _=>"post"
 |.t9 _ _=>"come"
 |.hand _ _=>"hand"
 |.send _ _ _=>"send"
 |.twice _ _=>"twice"
 |.XO _ _=>"lost"
noncomputable def dI:fR->List Int
 |.post h=>[h]
 |.t9 h r=>[h,r]
 |.hand h c=>[h,c]
 |.send h r w=>[h,r,w]
 |.twice h r=>[h,r]
 |.XO h r=>[h,r]
theorem RQ(d:fR):d.vs=.str (dW d)::(dI d).map V.int:=by cases d <;> rfl
theorem YJ(d:fR):FG (V.str (dW d)::(dI d).map V.int) 0=some (V.str (dW d)):=fD (j:=0) rfl
end
section
structure Fo(ns:List Int)(rs:List R5)(os:List Nat):Prop where
 lt:∀r∈os,r<rs.length
 ok:∀r∈rs,r.Ok ns.length
 cut:∀r∈os,∀x:Nat,isAt rs (x:Int) r=true->¬Rw rs os r x (c9 rs r x)
 ri:os.Pairwise (·<·)
variable{ns:List Int}{rs:List R5}{os:List Nat}
theorem Fo.of{live:List Nat}{nd:ns.Nodup}{ok:∀r∈rs,r.Ok ns.length}{hl:∀k∈live,k<rs.length}{R:Nat->RM.Row}(O:c8 (aZ ns rs live nd ok hl) R os):Fo ns rs os:=⟨MV O,ok,λ_ a _ b=>YI O a b,O.1⟩
theorem Fo.back(F:Fo ns rs os){r x:Nat}(a:r∈os)(b:isAt rs (x:Int) r=true):isAt rs ((c9 rs r x:Nat):Int) r=true/\c9 rs r (c9 rs r x)=x/\c9 rs r x≠x/\c9 rs r x<ns.length:=Ol (F.lt r a) F.ok b
theorem Fo.two(F:Fo ns rs os){r x y:Nat}(d:r∈os)(g:isAt rs (x:Int) r=true)(e:isAt rs (y:Int) r=true):y=x∨y=c9 rs r x:=by
 have c:=F.lt r d;have o:=F.ok _ (aM c);have i:=o.a0;have h:=o.b0;have f:∀y:Int,isAt rs y r=(decide (y=rs[r].a) || decide (y=rs[r].b)):=λy=>by unfold isAt;rw[aa c]
 rw[f,Bool.or_eq_true,decide_eq_true_iff,decide_eq_true_iff] at g e;unfold c9;rw[aa c];show y=x∨y=fQ rs[r] x;unfold fQ;split <;> lia
theorem Fo.symm(F:Fo ns rs os){r0 x y:Nat}(a:Rw rs os r0 x y):Rw rs os r0 y x:=a.symm F.ok F.lt
theorem Fo.avoid(F:Fo ns rs os){q x z f:Nat}(h:q∈os)(d:isAt rs (x:Int) q=true)(a:isAt rs (x:Int) f=true)(t:Rw rs os q (c9 rs q x) z):Rw rs os f (c9 rs q x) z:=by
 induction t with
 |refl=>exact .refl
 |@step y r t b i c j =>
  refine .step j b (λe=>?_) c;subst e;rcases F.two b a c with e|e
  ·subst e
   exact F.cut q h y d (F.symm t)
  ·have g:=Rw.step t b i c
   rw[e,(F.back b a).2.1] at g;exact F.cut q h x d (F.symm g)
theorem Rw.first(F:Fo ns rs os){r0 x z:Nat}(t:Rw rs os r0 x z)(f:x≠z):∃a,a∈os/\a≠r0/\isAt rs (x:Int) a=true/\Rw rs os a (c9 rs a x) z:=by
 induction t with
 |refl=>exact b5 rfl f
 |@step y r t b h c j =>
  by_cases e:x=y
  ·subst e
   exact⟨r,b,h,c,.refl⟩
  ·obtain⟨a,i,k,d,l⟩:=j e
   refine⟨a,i,k,d,?_⟩;by_cases g:r=a
   ·subst g
    rcases F.two b d c with z|z
    ·exact b5 z.symm e
    ·exact b5 (by rw[z,(F.back b d).2.1]) f
   ·exact .step l b g c
theorem Fo.one(F:Fo ns rs os){q r x z:Nat}(a:q∈os)(f:r∈os)(c:isAt rs (x:Int) q=true)(b:isAt rs (x:Int) r=true)(i:Rw rs os q (c9 rs q x) z)(g:Rw rs os r (c9 rs r x) z):q=r:=by
 by_cases e:q=r
 ·exact e
 ·have h:=F.avoid a c b i
  have d:Rw rs os r x (c9 rs q x):=.step .refl a e c;exact b5 ((d.trans h).trans (F.symm g)) (F.cut r f x b)
theorem Fo.all(F:Fo ns rs os){r0 x z:Nat}(t:Rw rs os r0 x z):Rw rs os rs.length x z:=by
 induction t with
 |refl=>exact .refl
 |step t a d b c=>exact .step c a (bz (F.lt _ a)) b
noncomputable def nx(rs:List R5)(e:En)(r:Nat):En:=⟨c9 rs r e.h,some (r,e.h)⟩
def Bh(rs:List R5)(os:List Nat)(e:En)(z:Nat):Prop:=Rw rs os (e.by?.getD rs.length) e.h z
structure WJ(ns:List Int)(rs:List R5)(os:List Nat)(f:Nat)(D Pn:List En):Prop where
 nd:((D++Pn).map (·.h)).Nodup
 fr:∀e∈D++Pn,∀r p,e.fr=some (r,p)->r∈os/\isAt rs (p:Int) r=true/\c9 rs r p=e.h/\(∃e'∈D,e'.h=p)/\Rw rs os r f p
 f0:∀e∈D++Pn,e.fr=none->e.h=f
 lt:∀e∈D++Pn,e.h<ns.length
theorem WJ.zero{f:Nat}(b:f<ns.length):WJ ns rs os f [] [⟨f,none⟩] :=
 ⟨-_,λe a r p h=>(by rw[aT.mp a] at h;cases h),λe a _=>(by rw[aT.mp a]),λe a=>(by rw[aT.mp a];exact b)⟩
variable{f:Nat}{D Pn A B:List En}{e:En}
theorem WJ.side(F:Fo ns rs os)(w:WJ ns rs os f D Pn)(j:e∈D++Pn){r0:Nat}(n:r0∈os)(l:isAt rs (e.h:Int) r0=true)(k:some r0≠e.by?):Rw rs os r0 f e.h:=by
 cases z:e.fr with
 |none=>rw[w.f0 e j z];exact .refl
 |some q =>
  obtain⟨r,p⟩:=q;obtain⟨a,i,d,_,m⟩:=w.fr e j r p z;have b:r≠r0:=λq=>k (by unfold En.by?;rw[z,<- q];rfl);obtain⟨g,c,_⟩:=F.back a i;rw[d] at g c;have t:=F.avoid a g l (by rw[c];exact F.symm m);rw[c] at t
  have:=Rw.step (F.symm t) a b i
  rw[d] at this;exact this
theorem DB(nd:((D++Pn).map (·.h)).Nodup)(b:e∈Pn):∀a∈D,a.h≠e.h:=λa c z=>by
 rw[aS,n9] at nd;exact nd.2.2 _ (bV c) _ (bV b) z
theorem WJ.next(F:Fo ns rs os)(w:WJ ns rs os f D (A++e::B)){gs:List Nat}(P:gs.Nodup)(s:∀r∈gs,r∈goes rs os e):WJ ns rs os f (D++[e]) (A++B++gs.map (nx rs e)):=by
 have t:e∈A++e::B:=-_
 have m:e∈D++(A++e::B):=bJ _ t;have E:=DB w.nd t;have pm:((D++[e])++(A++B++gs.map (nx rs e))).Perm ((D++(A++e::B))++gs.map (nx rs e)):=by
  have c:([e]++(A++B)).Perm (A++e::B):=by
   show (e::(A++B)).Perm _;exact List.perm_middle.symm
  have i:=(c.append_left D).append_right (gs.map (nx rs e))
  simpa [eF] using i
 have H:∀r∈gs,∀b∈D++(A++e::B),b.h≠c9 rs r e.h:=λr j b g z=>by
  obtain⟨c,i,G⟩:=iQ.mp (s r j);have N:=w.side F m c i G;obtain⟨Q,V,W,_⟩:=F.back c i;by_cases q:some r=b.by?
  ·unfold En.by? at q
   cases y:b.fr with
   |none=>rw[y] at q;cases q
   |some v =>
    obtain⟨O,p⟩:=v;rw[y] at q;have q:r=O:=aI q;subst q;obtain⟨_,o,J,⟨C,K,I⟩,_⟩:=w.fr b g r p y
    have:p=e.h:=by
     have:=(F.back c o).2.1
     rw[J,z,V] at this;exact this.symm
    exact E C K (I.trans this)
  ·have L:=w.side F g c (by rw[z];exact Q) q
   rw[z] at L;exact F.cut r c e.h i ((F.symm N).trans L)
 have l:∀b,b∈(D++[e])++(A++B++gs.map (nx rs e))->b∈D++(A++e::B)∨∃r∈gs,b=nx rs e r:=λb g=>by
  rcases aR.mp (pm.mem_iff.mp g) with h|h
  ·exact .inl h
  ·obtain⟨r,j,z⟩:=aP.mp h
   exact .inr ⟨r,j,z.symm⟩
 refine⟨?_,λb g r p h=>?_,λb g h=>?_,λb g=>?_⟩
 ·rw[(pm.map (·.h)).nodup_iff,aS,n9]
  refine⟨w.nd,?_,λx S y R=>?_⟩
  ·rw[cX]
   refine List.pairwise_map.mpr (List.Pairwise.imp_of_mem ?_ P);intro r k j d M z;obtain⟨c,i,_⟩:=iQ.mp (s r j);obtain⟨u,o,_⟩:=iQ.mp (s k d);have z:c9 rs r e.h=c9 rs k e.h:=z
   have:=Rw.step (rs:=rs) (os:=os) (r0:=r) (x:=e.h) .refl u (bN M) o
   rw[<- z] at this;exact F.cut r c e.h i this
  ·obtain⟨a,U,rfl⟩:=aP.mp S
   obtain⟨b,g,rfl⟩:=aP.mp R;obtain⟨r,j,rfl⟩:=aP.mp g;exact H r j a U
 ·rcases l b g with n|⟨k,d,rfl⟩
  ·obtain⟨u,o,J,⟨C,K,I⟩,T⟩:=w.fr b n r p h
   exact⟨u,o,J,⟨C,eY _ K,I⟩,T⟩
  ·obtain⟨c,i,G⟩:=iQ.mp (s k d)
   cases h;exact⟨c,i,rfl,⟨e,-_,rfl⟩,w.side F m c i G⟩
 ·rcases l b g with n|⟨k,d,rfl⟩
  ·exact w.f0 b n h
  ·cases h
 ·rcases l b g with n|⟨k,d,rfl⟩
  ·exact w.lt b n
  ·obtain⟨c,i,_⟩:=iQ.mp (s k d)
   exact (F.back c i).2.2.2
structure EE where
 e:En
 gs:List Nat
 wf:Nat->Nat
noncomputable def Wo(e:En):fR:=match e.fr with|none=>.post e.h|some (r,_)=>.t9 e.h r
noncomputable def EE.Oo(hs:Nat->List Nat)(x:EE):List fR:=Wo x.e::((hs x.e.h).map (fR.hand x.e.h)++x.gs.map λr=>.send x.e.h r (x.wf r))
noncomputable def dN(rs:List R5)(r:Nat):Nat:=match rs[r]? with|some re=>re.d.toNat|none=>0
structure LJ(ns:List Int)(rs:List R5)(os:List Nat)(hs:Nat->List Nat)(one:Option Nat)(f:Nat)(dn:List Nat)(ds:List fR)(Pn:List En)(E:List EE):Prop where
 dn:dn=E.map (·.e.h)
 ds:ds=E.flatMap (EE.Oo hs)
 wj:WJ ns rs os f (E.map (·.e)) Pn
 gs:∀x∈E,x.gs.Nodup/\∀r∈x.gs,r∈goes rs os x.e/\x.wf r<dN rs r/\nx rs x.e r∈E.map (·.e)++Pn
 od:∀(k:Nat) x,E[k]?=some x->∀r p,x.e.fr=some (r,p)->∃(j:Nat) (y:EE),j<k/\E[j]?=some y/\y.e.h=p/\r∈y.gs
 h0:∀(k:Nat) x,E[k]?=some x->(x.e.fr=none↔k=0)
 pf:∀e∈Pn,∀r p,e.fr=some (r,p)->∃y∈E,y.e.h=p/\r∈y.gs
 pn:∀e∈Pn,e.fr=none->E=[]
 al:one=none->∀x∈E,x.gs=goes rs os x.e
 to:∀z,one=some z->z∈E.map (·.e.h)∨(∃e∈Pn,Bh rs os e z)∨¬Rw rs os rs.length f z
theorem LJ.zero{hs:Nat->List Nat}{one:Option Nat}(a:f<ns.length):LJ ns rs os hs one f [] [] [⟨f,none⟩] [] :=
 ⟨rfl,rfl,WJ.zero a,λx h=>(by cases h),λk x h=>(by cases h),λk x h=>(by cases h),λe b r p h=>(by rw[aT.mp b] at h;cases h),λ_ _ _=>rfl,λ_ x h=>(by cases h),λz _=>(by
  by_cases h:Rw rs os rs.length f z
  ·exact .inr (.inl ⟨_,aT.mpr rfl,h⟩)
  ·exact .inr (.inr h))⟩
theorem LJ.next{hs:Nat->List Nat}{one:Option Nat}{dn:List Nat}{ds:List fR}{E:List EE}{gs:List Nat}{wf:Nat->Nat}(F:Fo ns rs os)(w:LJ ns rs os hs one f dn ds (A++e::B) E)(N:gs.Nodup)(D:∀r∈gs,r∈goes rs os e/\wf r<dN rs r)(al:one=none->gs=goes rs os e)(to:∀z,one=some z->Bh rs os e z->e.h=z∨∃r∈gs,Bh rs os (nx rs e r) z) :
 e.h∉dn/\LJ ns rs os hs one f (dn++[e.h]) (ds++EE.Oo hs ⟨e,gs,wf⟩) (A++B++gs.map (nx rs e)) (E++[⟨e,gs,wf⟩]):=by
 have g:e∈A++e::B:=-_
 have u:=DB w.wj.nd g;have sub:∀b,b∈E.map (·.e)++(A++e::B)->b∈(E.map (·.e)++[e])++(A++B++gs.map (nx rs e)):=λb hb=>by
  simp only[aR,be] at hb ⊢;rcases hb with h|h|h|h
  ·exact .inl (.inl h)
  ·exact .inr (.inl (.inl h))
  ·exact .inl (.inr (.inl h))
  ·exact .inr (.inl (.inr h))
 have t:∀(k:Nat) x,(E++[(⟨e,gs,wf⟩:EE)])[k]?=some x->E[k]?=some x∨(k=E.length/\x=⟨e,gs,wf⟩):=λk x h=>by
  by_cases z:k<E.length
  ·rw[aY z] at h;exact .inl h
  ·have P:=(ai.mp h).1
   rw[aA] at P
   have:k=E.length:=by simp at P;lia
   subst this;rw[bC (aB _),fE] at h;exact .inr ⟨rfl,(aI h).symm⟩
 have I:∀{k:Nat} {x:EE},E[k]?=some x->(E++[(⟨e,gs,wf⟩:EE)])[k]?=some x:=λ{k x} h=>by rw[aY (ai.mp h).1];exact h
 have K:(E++[(⟨e,gs,wf⟩:EE)]).map (·.e)=E.map (·.e)++[e]:=by rw[aS];rfl
 refine⟨λz=>?_,⟨by rw[w.dn,aS];rfl,by rw[w.ds,List.flatMap_append];simp,by rw[K];exact w.wj.next F N λr l=>(D r l).1,λx n=>?_,λk x h r p i=>?_,λk x h=>?_,λb hb r p i=>?_,λb hb C=>?_,λd x n=>?_,λz J=>?_⟩⟩
 ·rw[w.dn] at z
  obtain⟨x,n,Q⟩:=aP.mp z;exact u x.e (bV n) Q
 ·rw[K]
  rcases aR.mp n with h|h
  ·exact⟨(w.gs x h).1,λr l=>let ⟨a,b,c⟩:=(w.gs x h).2 r l;⟨a,b,sub _ c⟩⟩
  ·rw[aT.mp h]
   exact⟨N,λr l=>⟨(D r l).1,(D r l).2,bJ _ (bJ _ (bV l))⟩⟩
 ·rcases t k x h with h|⟨rfl,rfl⟩
  ·obtain⟨j,y,d,m,H,T⟩:=w.od k x h r p i
   exact⟨j,y,d,I m,H,T⟩
  ·obtain⟨y,d,m,H⟩:=w.pf e g r p i
   obtain⟨j,O⟩:=jM d;exact⟨j,y,(ai.mp O).1,I O,m,H⟩
 ·rcases t k x h with h|⟨rfl,rfl⟩
  ·exact w.h0 k x h
  ·constructor
   ·intro z
    rw[w.pn e g z];rfl
   ·intro z
    cases q:e.fr with
    |none=>rfl
    |some v =>
     obtain⟨y,d,_⟩:=w.pf e g v.1 v.2 q;rw[fO.mp z] at d;cases d
 ·rcases aR.mp hb with h|h
  ·obtain⟨y,d,m⟩:=w.pf b (by simp only[aR,be] at h ⊢;rcases h with h|h;exact .inl h;exact .inr (.inr h)) r p i
   exact⟨y,eY _ d,m⟩
  ·obtain⟨S,s,rfl⟩:=aP.mp h
   cases i;exact⟨⟨e,gs,wf⟩,-_,rfl,s⟩
 ·rcases aR.mp hb with h|h
  ·exfalso
   have o:b∈A++e::B:=by simp only[aR,be] at h ⊢;rcases h with h|h;exact .inl h;exact .inr (.inr h)
   have d:=w.wj.f0 b (bJ _ o) C;have L:=w.pn b o C;have nd:=w.wj.nd;rw[L] at nd;have nd:((A++e::B).map (·.h)).Nodup:=nd;have G:e.fr=none:=by
    cases q:e.fr with
    |none=>rfl
    |some v =>
     obtain⟨y,d,_⟩:=w.pf e g v.1 v.2 q;rw[L] at d;cases d
   have m:=w.wj.f0 e (bJ _ g) G;rw[aS,bH,n9] at nd;obtain⟨_,M,R⟩:=nd;rw[iG] at M;rcases aR.mp h with h|h
   ·exact R _ (bV h) e.h (-_) (d.trans m.symm)
   ·exact M.1 (by rw[m,<- d];exact bV h)
  ·obtain⟨S,s,rfl⟩:=aP.mp h
   cases C
 ·rcases aR.mp n with h|h
  ·exact w.al d x h
  ·rw[aT.mp h];exact al d
 ·rw[aS]
  rcases w.to z J with h|⟨b,hb,h⟩|h
  ·exact .inl (eY _ h)
  ·by_cases q:b=e
   ·subst q
    rcases to z J h with h|⟨r,l,h⟩
    ·exact .inl (by rw[<- h];simp)
    ·exact .inr (.inl ⟨_,bJ _ (bV l),h⟩)
   ·refine .inr (.inl ⟨b,eY _ ?_,h⟩)
    simp only[aR,be] at hb ⊢;rcases hb with hb|hb|hb
    ·exact .inl hb
    ·exact b5 hb q
    ·exact .inr hb
  ·exact .inr (.inr h)
theorem LJ.abR{hs:Nat->List Nat}{one:Option Nat}{c:List Nat}{ds:List fR}{E:List EE}(F:Fo ns rs os)(w:LJ ns rs os hs one f c ds Pn E):∀x∈E,Rw rs os rs.length f x.e.h:=λx b=>by
 cases z:x.e.fr with
 |none=>rw[w.wj.f0 x.e (eY _ (bV b)) z];exact .refl
 |some q =>
  obtain⟨a,d,i,_,g⟩:=w.wj.fr x.e (eY _ (bV b)) q.1 q.2 z
  have:=Rw.step (F.all g) a (bz (F.lt _ a)) d
  rw[i] at this;exact this
theorem LJ.YK{hs:Nat->List Nat}{a:List Nat}{ds:List fR}{E:List EE}{z:Nat}(w:LJ ns rs os hs (some z) f a ds [] E)(t:Rw rs os rs.length f z):∃x∈E,x.e.h=z:=by
 rcases w.to z rfl with h|⟨e,b,_⟩|h
 ·obtain⟨x,c,e⟩:=aP.mp h
  exact⟨x,c,e⟩
 ·cases b
 ·exact b5 t h
end
section
variable{ns:List Int}{rs:List R5}{os:List Nat}{s:NS}{l:LS}{i h:Nat}
theorem Oq:∀(cs:List Nat) (s:NS) (l:LS),s.ls[i]?=some l->∃had,cs.foldl (lA i h) s={s with had:=had,ls:=s.ls.set i {l with aG:=l.aG++cs.map (fR.hand h)}}
 |[],s,l,e=>⟨s.had,by
  show s={s with had:=s.had,ls:=s.ls.set i {l with aG:=l.aG++[]}};rw[bZ,zl e]⟩
 |c::cs,s,l,e=>by
  have f:=(ai.mp e).1;have b:(tY s i c).ls[i]?=some l:=e;have a:lA i h s c={s with had:=s.had.set c (s.had.getD c []++[i]),ls:=s.ls.set i {l with aG:=l.aG++[.hand h c]}}:=by
   unfold lA;rw[fJ b];rfl
  obtain⟨had,d⟩:=Oq cs (lA i h s c) {l with aG:=l.aG++[.hand h c]} (by rw[a];show (s.ls.set i _)[i]?=_;rw[f6 f,aq rfl]);refine⟨had,?_⟩;rw[List.foldl_cons,d,a];show {s with had:=had,ls:=(s.ls.set i _).set i _}=_;rw[List.set_set];simp only[eF,bH];rfl
theorem Ot:∀(gs:List Nat) (s:NS) (l:LS),s.ls[i]?=some l->gs.foldl (tZ rs i h) s={s with cps:=s.cps++gs.map λr=>⟨i,r,fT s.ws r (gP l),c9 rs r h⟩,ls:=s.ls.set i {l with aG:=l.aG++gs.map λr=>.send h r (fT s.ws r (gP l))}}
 |[],s,l,e=>by
  show s={s with cps:=s.cps++[],ls:=s.ls.set i {l with aG:=l.aG++[]}};rw[bZ,bZ,zl e]
 |r::gs,s,l,e=>by
  have c:=(ai.mp e).1;have b:Tw s i=gP l:=by unfold Tw;rw[e]
  have a:tZ rs i h s r={s with cps:=s.cps++[⟨i,r,fT s.ws r (gP l),c9 rs r h⟩],ls:=s.ls.set i {l with aG:=l.aG++[.send h r (fT s.ws r (gP l))]}}:=by
   unfold tZ Of;rw[fJ e,b]
  rw[List.foldl_cons,Ot gs (tZ rs i h s r) {l with aG:=l.aG++[.send h r (fT s.ws r (gP l))]} (by rw[a];show (s.ls.set i _)[i]?=_;rw[f6 c,aq rfl]),a];show {s with cps:=_,ls:=(s.ls.set i _).set i _}=_;rw[List.set_set];simp only[eF,bH];rfl
theorem FF{cz:Option Nat}(e:s.ls[i]?=some l):∃had,RH rs s i h l cz os={s with had:=had,cps:=s.cps++(Aw rs s l h cz os).map λr=>⟨i,r,fT s.ws r (gP l),c9 rs r h⟩,ls:=s.ls.set i {l with done:=jI l.done h,aG:=l.aG++((jJ s l h).map (fR.hand h)++(Aw rs s l h cz os).map λr=>.send h r (fT s.ws r (gP l)))}}:=by
 have a:=(ai.mp e).1;unfold RH;have b:(eX s i h l).ls[i]?=some {l with done:=jI l.done h}:=by
  show (s.ls.set i _)[i]?=_;rw[f6 a,aq rfl]
 obtain⟨had,c⟩:=Oq (h:=h) (jJ s l h) (eX s i h l) _ b;refine⟨had,?_⟩;rw[c,Ot _ _ {l with done:=jI l.done h,aG:=l.aG++(jJ s l h).map (fR.hand h)} (by show ((s.ls.set i _).set i _)[i]?=_;rw[f6 (by rw[br];exact a),aq rfl])];show {s with had:=had,cps:=_,ls:=((s.ls.set i _).set i _).set i _}=_;rw[List.set_set,List.set_set];simp only[eF];rfl
theorem Ou{ds:List Nat}{h:Nat}{l:LS}(e:l.done=ds):Av l h=decide (h∈ds):=by
 unfold Av;rw[e];clear e;induction ds with
 |nil=>rfl
 |cons d ds a =>
  rw[bH];by_cases z:d=h
  ·subst z
   rw[yY rfl];simp
  ·rw[yZ (λe=>z (by have:=Sum.inl.inj e;lia)),a]
   have:¬h=d:=λe=>z e.symm
   simp[this]
def NL(rs:List R5)(os:List Nat)(aD:List Nat)(ts:List T3):Prop:=∀t∈ts,∃h c r:Nat,t=((h:Int),(c:Int),(r:Int))/\r∈os/\isAt rs (h:Int) r=true/\Rw rs os r (c9 rs r h) (aD.getD c 0)
theorem Gp{e:En}:((((os.filter (isAt rs e.h)).map λk:Nat=>(k:Int)).filter (iU (e.by?.map λk:Nat=>(k:Int)))).map Int.toNat)=goes rs os e:=by
 unfold goes;rw[List.filter_map,cX,List.filter_filter]
 have:(Int.toNat∘λk:Nat=>(k:Int))=id:=by funext k;exact cZ k
 rw[this,List.map_id];refine List.filter_congr λr _=>?_;rw[Bool.and_comm];congr 1;show iU (e.by?.map λk:Nat=>(k:Int)) (r:Int)=_;unfold iU;congr 1;rw[decide_eq_decide];cases e.by? with
 |none=>exact⟨λz=>(by cases z),λz=>(by cases z)⟩
 |some q=>exact⟨λz=>(by have z:V.int (r:Int)=V.int (q:Int):=z;have:=V.int.inj z;rw[show r=q by lia]),λz=>(by rw[aI z];rfl)⟩
theorem Mj(F:Fo ns rs os){e:En}:(goes rs os e).Nodup:=List.Nodup.sublist List.filter_sublist (F.ri.imp λh=>bz h)
theorem Wp{g c:Nat}:c∈rD s h g↔s.aD[c]?=some h/\s.groups[c]?=some g:=by
 unfold rD EA;rw[bq,decide_eq_true_iff,c5];exact⟨λz=>z.2,λz=>⟨(ai.mp z.1).1,z⟩⟩
theorem ZV(F:Fo ns rs os){e:En}(X:eV (s.ts l.grp))(U:NL rs os s.aD (s.ts l.grp))(kd:l.kd=1∨l.kd=2)(L:l.kd=1->l.to<s.aD.length/\s.groups[l.to]?=some l.grp) :
 (Aw rs s l e.h e.by? os).Nodup/\(∀r∈Aw rs s l e.h e.by? os,r∈goes rs os e)/\(l.kd=2->Aw rs s l e.h e.by? os=goes rs os e)/\(l.kd=1->Bh rs os e (s.aD.getD l.to 0)->e.h=s.aD.getD l.to 0∨∃r∈Aw rs s l e.h e.by? os,Bh rs os (nx rs e r) (s.aD.getD l.to 0)):=by
 rcases kd with H|k2
 ·obtain⟨I,Z⟩:=L H
  have D:s.aD[l.to]?=some (s.aD.getD l.to 0):=by rw[au,aa I];rfl
  generalize Q:s.aD.getD l.to 0=z at D;have j:¬l.kd=2:=∅
  have n:pC (l.to:Int) l.kd=some (l.to:Int):=by unfold pC;rw[aq H]
  have A:∀a,a=goes rs os e->a.Nodup/\(∀r∈a,r∈goes rs os e)/\(l.kd=2->a=goes rs os e)/\(l.kd=1->Bh rs os e z->e.h=z∨∃r∈a,Bh rs os (nx rs e r) z):=λa S=>by
   subst S;refine⟨Mj F,λ_ h=>h,λ_=>rfl,λ_ b=>?_⟩;by_cases q:e.h=z
   ·exact .inl q
   ·obtain⟨r,i,f,w,x⟩:=Rw.first F b q
    refine .inr ⟨r,iQ.mpr ⟨i,w,λy=>?_⟩,x⟩;rw[<- y] at f;exact f rfl
  unfold Aw QY;rw[n]
  try dsimp only
  by_cases u:(l.to:Int)∈(rD s e.h l.grp).map λk:Nat=>(k:Int)
  ·rw[aq u]
   obtain⟨c,J,B⟩:=aP.mp u;have B:c=l.to:=∅
   subst B
   have:=(Wp.mp J).1
   rw[D] at this;exact⟨jy,λr d=>(by cases d),λy=>b5 y j,λ_ _=>.inl (aI this).symm⟩
  ·rw[b3 u]
   cases N:uM (s.ts l.grp) e.h l.to with
   |none=>exact A _ Gp
   |some q =>
    try dsimp only
    by_cases v:q∈(os.filter (isAt rs e.h)).map λk:Nat=>(k:Int)
    ·rw[aq v]
     obtain⟨k,W,P⟩:=aP.mp v;subst P;obtain⟨G,C⟩:=bq.mp W;obtain⟨K,T,O,p,r1,Y,g⟩:=U _ ((SN X).mp N);have m:e.h=K:=by have:=er (·.1) p;simp at this;lia
     have t:l.to=T:=by have:=er (·.2.1) p;simp at this;lia
     have o:k=O:=by have:=er (·.2.2) p;simp at this;lia
     subst m t o;rw[Q] at g;have E:iU (e.by?.map λk:Nat=>(k:Int)) (k:Int)=true↔some k≠e.by?:=by
      unfold iU;rw[Bool.not_eq_true',decide_eq_false_iff_not];refine not_congr ?_;cases e.by? with
      |none=>exact⟨λz=>(by cases z),λz=>(by cases z)⟩
      |some q=>exact⟨λz=>(by have z:V.int (k:Int)=V.int (q:Int):=z;have:=V.int.inj z;rw[show k=q by lia]),λz=>(by rw[aI z];rfl)⟩
     by_cases b:iU (e.by?.map λk:Nat=>(k:Int)) (k:Int)=true
     ·rw[iw b]
      show [((k:Int)).toNat].Nodup/\_;rw[cZ];refine⟨-_,λr d=>?_,λy=>b5 y j,λ_ _=>.inr ⟨k,-_,g⟩⟩;rw[aT.mp d];exact iQ.mpr ⟨G,C,E.mp b⟩
     ·rw[iy b]
      refine⟨jy,λr d=>(by cases d),λy=>b5 y j,λ_ R=>?_⟩;by_cases y:e.h=z
      ·exact .inl y
      ·exfalso
       obtain⟨r,i,f,w,x⟩:=Rw.first F R y
       have:=F.one G i C w g x
       subst this;refine b (E.mpr λy=>?_);rw[<- y] at f;exact f rfl
    ·rw[b3 v]
     exact A _ Gp
 ·have n:pC (l.to:Int) l.kd=none:=by unfold pC;rw[b3 ∅]
  have M:Aw rs s l e.h e.by? os=goes rs os e:=by
   unfold Aw QY;rw[n];exact Gp
  rw[M];exact⟨Mj F,λ_ h=>h,λ_=>rfl,λy=>∅⟩
noncomputable def WX(aD groups:List Nat)(x:Nat)(to:Option Nat)(h:Nat):List Nat:=(az aD.length).filter λc=>decide (aD[c]?=some h/\groups[c]?=groups[x]?)&&match to with|none=>!decide (c=x)|some y=>decide (c=y)
structure LK(aD groups:List Nat)(x:Nat)(to:Option Nat)(l:LS):Prop where
 sn:l.s=x
 tt:l.to=to.getD 0
 kd:l.kd=if to.isSome=true then 1 else 2
 gr:groups[x]?=some l.grp
 hx:x<aD.length
 ht:∀y,to=some y->y<aD.length/\groups[y]?=groups[x]?
theorem LK.hand{x:Nat}{to:Option Nat}(k:LK s.aD s.groups x to l):jJ s l h=WX s.aD s.groups x to h:=by
 unfold jJ rD WX;rw[List.filter_filter];refine List.filter_congr λc a=>?_;rw[Bool.and_comm,k.gr];congr 1;unfold DO;rw[k.kd,k.tt,k.sn];cases to with
 |none =>
  rw[b3 (!_),aq (!_)];show (Bool.not _)=Bool.not _;congr 1;rw[decide_eq_decide];exact⟨λz=>by have:=V.int.inj z;lia,λz=>by rw[z]⟩
 |some y =>
  rw[aq (-_)];show _=decide (c=y);rw[decide_eq_decide];exact⟨λz=>by have:=V.int.inj z;simp at this;lia,λz=>by rw[z];rfl⟩
theorem LK.kinds{x:Nat}{to:Option Nat}(k:LK s.aD s.groups x to l):(l.kd=1∨l.kd=2)/\(l.kd=1->l.to<s.aD.length/\s.groups[l.to]?=some l.grp)/\(to=none->l.kd=2)/\∀y,to=some y->l.kd=1/\l.to=y:=by
 have c:=k.kd;have d:=k.tt;have e:=k.ht;cases to with
 |none=>exact⟨.inr c,λz=>by rw[c] at z;exact b5 z (!_),λ_=>c,λy z=>(by cases z)⟩
 |some y =>
  obtain⟨a,b⟩:=e y rfl;have d:l.to=y:=d;exact⟨.inl c,λ_=>by rw[d];exact⟨a,b.trans k.gr⟩,λz=>(by cases z),λf z=>⟨c,by rw[d];exact aI z⟩⟩
noncomputable def JB(rs:List R5)(c:Cp):En:=⟨c.h,some (c.r,c9 rs c.r c.h)⟩
noncomputable def pend(rs:List R5)(cps:List Cp)(i:Nat):List En:=(cps.filter λc=>decide (c.l=i)).map (JB rs)
theorem qq{cps cs:List Cp}:pend rs (cps++cs) i=pend rs cps i++pend rs cs i:=by unfold pend;rw[fP,aS]
theorem DC(F:Fo ns rs os){e:En}{gs:List Nat}{wf:Nat->Nat}(c:∀r∈gs,r∈goes rs os e){j:Nat}:pend rs (gs.map λr=>(⟨i,r,wf r,c9 rs r e.h⟩:Cp)) j=if j=i then gs.map (nx rs e) else []:=by
 unfold pend;rw[List.filter_map,cX];by_cases z:j=i
 ·subst z
  rw[aq rfl,List.filter_eq_self.mpr (λr _=>-_)];refine cK λr a=>?_;obtain⟨d,b,_⟩:=iQ.mp (c r a);show (⟨c9 rs r e.h,some (r,c9 rs r (c9 rs r e.h))⟩:En)=⟨c9 rs r e.h,some (r,e.h)⟩;rw[(F.back d b).2.1]
 ·rw[b3 z,List.filter_eq_nil_iff.mpr (λr _=>by simp[bN z])]
  rfl
theorem YL{cps:List Cp}{a:Nat}{cp:Cp}(h:cps[a]?=some cp):cps=cps.take a++cp::cps.drop (a+1)/\cps.eraseIdx a=cps.take a++cps.drop (a+1):=by
 obtain⟨b,rfl⟩:=ai.mp h;refine⟨?_,List.eraseIdx_eq_take_drop_succ ..⟩;rw[<- jz b,mQ]
theorem Wq{cps:List Cp}{a:Nat}{cp:Cp}(h:cps[a]?=some cp):∃A B,pend rs cps cp.l=A++JB rs cp::B/\pend rs (cps.eraseIdx a) cp.l=A++B/\∀j,j≠cp.l->pend rs (cps.eraseIdx a) j=pend rs cps j:=by
 obtain⟨c,b⟩:=YL h;refine⟨pend rs (cps.take a) cp.l,pend rs (cps.drop (a+1)) cp.l,?_,by rw[b,qq],λj d=>?_⟩
 ·conv=>lhs;rw[c]
  rw[qq];congr 1;unfold pend;rw[iw (-_)];rfl
 ·rw[b]
  conv=>rhs;rw[c]
  rw[qq,qq];congr 1;unfold pend;rw[iy (by simp[bN d])]
end
section
variable{ns:List Int}{rs:List R5}{s:NS}{os:Nat->List Nat}{b:Nat}{Ls:List (Nat×Option Nat)}
structure AJ(ns:List Int)(rs:List R5)(os:Nat->List Nat)(b:Nat)(Ls:List (Nat×Option Nat))(s:NS):Prop where
 fo:∀g,g<3->Fo ns rs (os g)
 wr:∀g,g<3->∀r∈os g,∀k,fT s.ws r k<dN rs r
 ll:s.ls.length=b+Ls.length
 nl:∀g,g<3->NL rs (os g) s.aD (s.ts g)
 li:∀(i x:Nat) (to:Option Nat),Ls[i]?=some (x,to)->∃l E,s.ls[b+i]?=some l/\l.old=false/\LK s.aD s.groups x to l/\LJ ns rs (os l.grp) (WX s.aD s.groups x to) (to.map λy=>s.aD.getD y 0) (s.aD.getD x 0) l.done l.aG (pend rs s.cps (b+i)) E/\E≠[]
theorem Qh{aD a:List Nat}{x:Nat}{to:Option Nat}{l:LS}(k:LK aD a x to l){b:LS}(d:b.s=l.s)(e:b.to=l.to)(f:b.kd=l.kd)(c:b.grp=l.grp):LK aD a x to b:=⟨d.trans k.sn,e.trans k.tt,f.trans k.kd,k.gr.trans (by rw[c]),k.hx,k.ht⟩
theorem RS{aD:List Nat}{to:Option Nat}{z:Nat}(h:(to.map λy=>aD.getD y 0)=some z):∃y,to=some y/\aD.getD y 0=z:=by
 cases to with
 |none=>cases h
 |some y=>exact⟨y,rfl,aI h⟩
theorem AJ.post{n m D x:Nat}{to:Option Nat}(j:Bd n m D s)(R:n=ns.length)(h:AJ ns rs os b Ls s)(p:x<s.aD.length)(Z:∀y,to=some y->y<s.aD.length/\s.groups[y]?=s.groups[x]?):AJ ns rs os b (Ls++[(x,to)]) (gW rs s x to (os (s.groups.getD x 0))):=by
 have Mr:x<s.groups.length:=by rw[j.gl];exact p
 have eg:s.groups[x]?=some (s.groups.getD x 0):=by rw[au,aa Mr];rfl
 have g3:s.groups.getD x 0<3:=j.g3 _ (aN eg);have H:s.aD.getD x 0<ns.length:=by
  rw[<- R];refine j.hm _ ?_;rw[au,aa p];exact aM p
 generalize w:s.aD.getD x 0=f at H;generalize a:s.groups.getD x 0=g at eg g3;have F:=h.fo g g3;have d:LK s.aD s.groups x to {cV s x to with aG:=[.post f]}:=⟨rfl,rfl,rfl,eg.trans (by show some g=some (s.groups.getD x 0);rw[a]),p,Z⟩;have go:=ZV (s:=gi s x to) (l:={cV s x to with aG:=[.post f]}) (e:=⟨f,none⟩) F (by show eV (s.ts (s.groups.getD x 0));exact (j.tb _).2) (by show NL rs (os g) s.aD (s.ts (s.groups.getD x 0));rw[a];exact h.nl g g3) d.kinds.1 d.kinds.2.1;obtain⟨V,S⟩:=FF (rs:=rs) (os:=os g) (h:=f) (cz:=none) (s:=gi s x to) (i:=s.ls.length) (l:={cV s x to with aG:=[.post f]}) (by show (s.ls++[_])[s.ls.length]?=_;rw[w];exact jK);have N:gW rs s x to (os g)=RH rs (gi s x to) s.ls.length f {cV s x to with aG:=[.post f]} none (os g):=by unfold gW;rw[w]
 rw[N,S];have hh:jJ (gi s x to) {cV s x to with aG:=[.post f]} f=WX s.aD s.groups x to f:=LK.hand (s:=gi s x to) d;rw[hh];generalize eG:Aw rs (gi s x to) {cV s x to with aG:=[.post f]} f none (os g)=gs;obtain⟨P,q,O,o⟩:gs.Nodup/\(∀r∈gs,r∈goes rs (os g) ⟨f,none⟩)/\((cV s x to).kd=2->gs=goes rs (os g) ⟨f,none⟩)/\((cV s x to).kd=1->Bh rs (os g) ⟨f,none⟩ (s.aD.getD (cV s x to).to 0)->f=s.aD.getD (cV s x to).to 0∨∃r∈gs,Bh rs (os g) (nx rs ⟨f,none⟩ r) (s.aD.getD (cV s x to).to 0)):=by rw[<- eG];exact go
 have TM:∀t,(gi s x to).ls.set s.ls.length t=s.ls++[t]:=λt=>by
  show (s.ls++[_]).set s.ls.length t=_;rw[mS _ _ (aB _),fE];rfl
 rw[TM];have u:pend rs s.cps s.ls.length=[]:=by
  unfold pend;rw[List.filter_eq_nil_iff.mpr λc L=>?_]
  ·rfl
  ·have:=(j.cl c L).1
   simp;lia
 obtain⟨_,J⟩:=(LJ.zero (os:=os g) (hs:=WX s.aD s.groups x to) (one:=to.map λy=>s.aD.getD y 0) H).next (A:=[]) (B:=[]) (gs:=gs) (wf:=λr=>fT s.ws r (gP {cV s x to with aG:=[.post f]})) F P (λr G=>⟨q r G,h.wr g g3 r (iQ.mp (q r G)).1 _⟩) (λz=>O (d.kinds.2.2.1 (by cases to with|none=>rfl|some y=>cases z))) (λz M=>by
  obtain⟨y,U,Q⟩:=RS M;obtain⟨W,T⟩:=d.kinds.2.2.2 y U;have o:=o W;rw[T] at o;rw[<- Q];exact o)
 refine⟨h.fo,h.wr,?_,h.nl,λi K v k=>?_⟩
 ·show (s.ls++[_]).length=_
  rw[aA,aA,h.ll];rfl
 ·by_cases z:i<Ls.length
  ·rw[aY z] at k
   obtain⟨l,E,C,h2,h3,h4,X⟩:=h.li i K v k;refine⟨l,E,?_,h2,h3,?_,X⟩
   ·show (s.ls++[_])[b+i]?=_
    rw[aY (ai.mp C).1];exact C
   ·show LJ ns rs _ _ _ _ _ _ (pend rs (s.cps++_) (b+i)) E
    rw[qq,DC F (e:=⟨f,none⟩) q,b3 (by have:=h.ll;lia),bZ];exact h4
  ·have I:=(ai.mp k).1
   rw[aA] at I;have Y:i=Ls.length:=by simp at I;lia
   subst Y;rw[bC (aB _),fE] at k;cases k;refine⟨{cV s x to with done:=jI [] f,aG:=[.post f]++((WX s.aD s.groups x to f).map (fR.hand f)++gs.map λr=>.send f r (fT s.ws r (gP {cV s x to with aG:=[.post f]})))},[⟨⟨f,none⟩,gs,λr=>fT s.ws r (gP {cV s x to with aG:=[.post f]})⟩],?_,rfl,Qh d rfl rfl rfl rfl,?_,-_⟩
   ·show (s.ls++[_])[b+Ls.length]?=_
    rw[<- h.ll];exact jK
   ·show LJ ns rs (os (s.groups.getD x 0)) _ _ (s.aD.getD x 0) (jI [] f) _ (pend rs (s.cps++_) (b+Ls.length)) _
    rw[<- h.ll,qq,u,DC F (e:=⟨f,none⟩) q,aq rfl,a,w];exact J
theorem AJ.pass{n m D a i x:Nat}{to:Option Nat}{cp:Cp}{l:LS}{ts:List T3}(bd:Bd n m D s)(h:AJ ns rs os b Ls s)(R:s.cps[a]?=some cp)(hl:s.ls[cp.l]?=some l)(hi:Ls[i]?=some (x,to))(I:cp.l=b+i)(pt:ts.Perm (put3 (s.ts l.grp) cp.h l.s cp.r))(oe:eV ts) :
 comes l cp (os l.grp)=true/\AJ ns rs os b Ls (gy rs s a cp l (os l.grp) ts):=by
 obtain⟨l0,E,Z,h2,L,o,h5⟩:=h.li i x to hi;rw[<- I,hl] at Z;cases Z;have Mr:s.groups[x]?=some l.grp:=L.gr;have g3:l.grp<3:=bd.g3 _ (aN Mr);have F:=h.fo l.grp g3;obtain⟨A,B,w,X,O⟩:=Wq (rs:=rs) R;rw[<- I,w] at o;generalize ee:JB rs cp=e at w o;have c:cp.h=e.h:=by rw[<- ee];rfl
 have Q:e.fr=some (cp.r,c9 rs cp.r cp.h):=by rw[<- ee];rfl
 have eb:e.by?=some cp.r:=by unfold En.by?;rw[Q];rfl
 have P:e∈E.map (·.e)++(A++e::B):=-_
 obtain⟨M,q2,q3,q4,q5⟩:=o.wj.fr e P _ _ Q;have q6:isAt rs (cp.h:Int) cp.r=true/\c9 rs cp.r (c9 rs cp.r cp.h)=cp.h:=by
  have:=F.back M q2
  rw[q3,<- c] at this;exact⟨this.1,q3.trans c.symm⟩
 have nd:e.h∉l.done:=λz=>by
  rw[o.dn] at z;obtain⟨y,hy,ey⟩:=aP.mp z;exact DB o.wj.nd (-_) y.e (bV hy) ey
 have v:Av l cp.h=false:=by rw[Ou rfl,c];exact c6 nd
 have YM:comes l cp (os l.grp)=true:=by
  unfold comes;rw[v,cy M];rfl
 refine⟨YM,?_⟩;have C:gj l cp (os l.grp)=.t9 cp.h cp.r:=by
  unfold gj;rw[v,aq M,b3 (!_)]
 have u:=(ai.mp hl).1;have S:NL rs (os l.grp) s.aD ts:=λt N=>by
  have N:=pt.mem_iff.mp N;unfold put3 at N;rcases aR.mp N with z|z
  ·exact h.nl _ g3 t (bq.mp z).1
  ·refine⟨cp.h,l.s,cp.r,aT.mp z,M,q6.1,?_⟩
   rw[L.sn];exact F.symm q5
 have p:∀g,g<3->NL rs (os g) s.aD (fH s.ts l.grp ts g):=λg hg=>by
  by_cases z:g=l.grp
  ·subst z;rw[cC];exact S
  ·rw[dQ z];exact h.nl g hg
 unfold gy bR;rw[YM,aq rfl,b3 (show ¬l.old=true by rw[h2];decide),C];have T:(Bu (je s a cp l (os l.grp)) l.grp ts).ls[cp.l]?=some {l with aG:=l.aG++[.t9 cp.h cp.r]}:=by
  show (s.ls.set cp.l {l with aG:=l.aG++[gj l cp (os l.grp)]})[cp.l]?=_;rw[C,f6 u,aq rfl]
 obtain⟨had,ed⟩:=FF (rs:=rs) (os:=os l.grp) (h:=cp.h) (cz:=some cp.r) T;have G:LK s.aD s.groups x to {l with aG:=l.aG++[.t9 cp.h cp.r]}:=Qh L rfl rfl rfl rfl;have Y:=ZV (s:=Bu (je s a cp l (os l.grp)) l.grp ts) (l:={l with aG:=l.aG++[.t9 cp.h cp.r]}) (e:=e) F (by show eV (fH s.ts l.grp ts l.grp);rw[cC];exact oe) (p _ g3) G.kinds.1 G.kinds.2.1;have hh:jJ (Bu (je s a cp l (os l.grp)) l.grp ts) {l with aG:=l.aG++[.t9 cp.h cp.r]} cp.h=WX s.aD s.groups x to cp.h:=LK.hand (s:=Bu (je s a cp l (os l.grp)) l.grp ts) G;rw[ed,hh];rw[eb,<- c] at Y;generalize Aw rs (Bu (je s a cp l (os l.grp)) l.grp ts) {l with aG:=l.aG++[.t9 cp.h cp.r]} cp.h (some cp.r) (os l.grp)=gs at Y;obtain⟨gn,H,ga,K⟩:=Y;obtain⟨_,J⟩:=o.next (gs:=gs) (wf:=λr=>fT s.ws r (gP {l with aG:=l.aG++[.t9 cp.h cp.r]})) F gn (λr hr=>⟨H r hr,h.wr _ g3 r (iQ.mp (H r hr)).1 _⟩) (λz=>ga (G.kinds.2.2.1 (by cases to with|none=>rfl|some y=>cases z))) (λz hz=>by
  obtain⟨y,e1,e2⟩:=RS hz;obtain⟨w1,w2⟩:=G.kinds.2.2.2 y e1;have K:=K w1;rw[w2] at K;rw[<- e2,<- c];exact K)
 have q:∀(k:Nat) (f:LS),((Bu (je s a cp l (os l.grp)) l.grp ts).ls.set cp.l f)[k]?=if k=cp.l then some f else s.ls[k]?:=λk f=>by
  show ((s.ls.set cp.l _).set cp.l f)[k]?=_;rw[List.set_set,f6 u]
 refine⟨h.fo,h.wr,?_,p,λj x' U W=>?_⟩
 ·show ((s.ls.set cp.l _).set cp.l _).length=_
  rw[br,br];exact h.ll
 ·by_cases z:j=i
  ·subst z
   rw[hi] at W;cases W;refine⟨{l with done:=jI l.done cp.h,aG:=l.aG++[.t9 cp.h cp.r]++((WX s.aD s.groups x to cp.h).map (fR.hand cp.h)++gs.map λr=>.send cp.h r (fT s.ws r (gP {l with aG:=l.aG++[.t9 cp.h cp.r]})))},E++[⟨e,gs,λr=>fT s.ws r (gP {l with aG:=l.aG++[.t9 cp.h cp.r]})⟩],by rw[<- I];refine (q cp.l _).trans ?_;rw[aq rfl];rfl,h2,Qh L rfl rfl rfl rfl,?_,-_⟩
   ·show LJ ns rs (os l.grp) _ _ _ (jI l.done cp.h) _ (pend rs (s.cps.eraseIdx a++gs.map λr=>(⟨cp.l,r,_,c9 rs r cp.h⟩:Cp)) (b+j)) _
    have d:=DC (i:=cp.l) (j:=cp.l) (wf:=λr=>fT s.ws r (gP {l with aG:=l.aG++[.t9 cp.h cp.r]})) F H;rw[aq rfl,<- c] at d;rw[<- I,qq,X];unfold jI;rw[b3 (by rw[c];exact nd)];refine Eq.mp ?_ J;congr 1
    ·rw[c]
    ·show l.aG++(Wo e::_)=l.aG++[.t9 cp.h cp.r]++_
     rw[eF];congr 1;unfold Wo;rw[Q];show _=fR.t9 cp.h cp.r::_;rw[c];rfl
    ·congr 1
     exact d.symm
  ·obtain⟨f,E',r1,r2,r3,r4,r5⟩:=h.li j x' U W
   have V:b+j≠cp.l:=∅
   refine⟨f,E',(q (b+j) _).trans ((b3 V).trans r1),r2,r3,?_,r5⟩;show LJ ns rs _ _ _ _ _ _ (pend rs (s.cps.eraseIdx a++gs.map λr=>(⟨cp.l,r,_,c9 rs r cp.h⟩:Cp)) (b+j)) E';have d:=DC (i:=cp.l) (j:=b+j) (wf:=λr=>fT s.ws r (gP {l with aG:=l.aG++[.t9 cp.h cp.r]})) F H;rw[b3 V,<- c] at d;rw[qq,O _ V];have d:pend rs (gs.map λr=>(⟨cp.l,r,fT s.ws r (gP {l with aG:=l.aG++[.t9 cp.h cp.r]}),c9 rs r cp.h⟩:Cp)) (b+j)=[]:=d;refine Eq.mp ?_ r4;congr 1;exact (bZ _).symm.trans (er _ d.symm)
end
section
structure SD(ns:List Int)(rs:List R5)(bs:List (List Bool))(cl:List (Nat×Nat))(D:Nat)(s:NS):Prop where
 ok:BE ns rs s
 bd:Bd ns.length rs.length D s
 ws:s.ws=bs.map stand
 fit:Fit rs bs
 hm:s.aD=cl.map (·.1)
 gr:s.groups=cl.map (·.2)
variable{ns:List Int}{rs:List R5}{bs:List (List Bool)}{cl:List (Nat×Nat)}{D:Nat}{s:NS}
theorem SD.mono{a:Nat}(h:SD ns rs bs cl D s)(e:D<=a):SD ns rs bs cl a s:=⟨h.ok,h.bd.mono e,h.ws,h.fit,h.hm,h.gr⟩
theorem YN{n m:Nat}{g:Nat}(b:Bd n m D s):Bd n m D (Dw s g):=by
 refine⟨b.gl,b.Ao,b.g3,b.hm,b.hl,b.hb,by show (s.ls.map _).length<=D;rw[ah];exact b.ll,λl z=>?_,b.cb,λc z=>by show c.l<(s.ls.map _).length/\_;rw[ah];exact b.cl c z,λa=>?_⟩
 ·obtain⟨e,d,rfl⟩:=aP.mp z
  unfold ql;split
  ·exact b.lb e d
  ·exact b.lb e d
 ·show 50*(fH s.ts g [] a).length<=D/\eV (fH s.ts g [] a)
  by_cases z:a=g
  ·subst z
   rw[cC];exact⟨bI _,jy⟩
  ·rw[dQ z]
   exact b.tb a
theorem SD.news(h:SD ns rs bs cl D s)(g:Nat):SD ns rs bs cl D (Dw s g):=⟨⟨h.ok.wl,h.ok.w4,h.ok.fit⟩,YN h.bd,h.ws,h.fit,h.hm,h.gr⟩
theorem SD.call{g x:Nat}{d:RM.Row}(h:SD ns rs bs cl D s)(b:BD ns.length rs.length d):SD ns rs bs cl D (FD s g x d):=by
 unfold FD;split
 ·exact h
 ·refine SD.news (s:={s with R:=fH s.R g (RM.upd (s.R g) x d)}) ⟨⟨h.ok.wl,h.ok.w4,λk a=>?_⟩,⟨h.bd.gl,h.bd.Ao,h.bd.g3,h.bd.hm,h.bd.hl,h.bd.hb,h.bd.ll,h.bd.lb,h.bd.cb,h.bd.cl,h.bd.tb⟩,h.ws,h.fit,h.hm,h.gr⟩ g
  show w9 _ _ (fH s.R g (RM.upd (s.R g) x d) k);by_cases z:k=g
  ·subst z
   rw[cC];intro i c;unfold RM.upd;split
   ·exact b
   ·exact h.ok.fit k a i c
  ·rw[dQ z]
   exact h.ok.fit k a
theorem SD.move{x y:Nat}(h:SD ns rs bs cl D s)(c:x<cl.length)(f:y<ns.length):SD ns rs bs (cl.set x (y,cl[x].2)) D (fF s x y):=by
 have d:x<s.aD.length:=by rw[h.hm,ah];exact c
 have a:(cl.set x (y,cl[x].2)).map (·.2)=cl.map (·.2):=by
  rw[vI];refine zl ?_;rw[ak,aa c];rfl
 unfold fF;split
 ·rename_i e
  refine⟨h.ok,h.bd,h.ws,h.fit,?_,by rw[a];exact h.gr⟩;rw[vI,<- h.hm];exact (zl e).symm
 ·refine SD.news (s:={s with aD:=s.aD.set x y}) ⟨⟨h.ok.wl,h.ok.w4,h.ok.fit⟩,?_,h.ws,h.fit,by show s.aD.set x y=_;rw[vI,<- h.hm],by rw[a];exact h.gr⟩ _
  have b:=h.bd;refine⟨by show s.groups.length=(s.aD.set x y).length;rw[br];exact b.gl,by show (s.aD.set x y).length<=20;rw[br];exact b.Ao,b.g3,λz g=>?_,by show s.had.length=(s.aD.set x y).length;rw[br];exact b.hl,b.hb,b.ll,b.lb,b.cb,b.cl,b.tb⟩;rcases List.mem_or_eq_of_mem_set g with w|rfl
  ·exact b.hm z w
  ·exact f
theorem Ml{i h:Nat}{l:LS}{cz:Option Nat}{os:List Nat}(hl:s.ls[i]?=some l):(RH rs s i h l cz os).ws=s.ws/\(RH rs s i h l cz os).R=s.R/\(RH rs s i h l cz os).aD=s.aD/\(RH rs s i h l cz os).groups=s.groups:=by
 have f:=Qe (rs:=rs) (h:=h) (cz:=cz) (os:=os) hl;exact⟨f.ws,f.R,f.aD,f.groups⟩
theorem SD.post{x:Nat}{to:Option Nat}{os:List Nat}(o:dH ns rs)(h:SD ns rs bs cl D s)(g:x<s.aD.length)(O:c8 (iI ns rs o s.ws (s.groups.getD x 0)) (s.R (s.groups.getD x 0)) os)(b:os.length<=12):SD ns rs bs cl (D+100) (gW rs s x to os):=by
 obtain⟨a,f,j,d⟩:=Ml (rs:=rs) (h:=s.aD.getD x 0) (cz:=none) (os:=os) (s:=gi s x to) (i:=s.ls.length) (l:={cV s x to with aG:=[.post (s.aD.getD x 0)]}) jK;have e:=ZU o (h:=s.aD.getD x 0) (cz:=none) (RK (to:=to) h.bd g) jK O b;exact⟨⟨(er List.length a).trans h.ok.wl,λw c=>h.ok.w4 w (by rw[show (gW rs s x to os).ws=s.ws from a] at c;exact c),by rw[show (gW rs s x to os).R=s.R from f];exact h.ok.fit⟩,e.mono ∅,a.trans h.ws,h.fit,j.trans h.hm,d.trans h.gr⟩
theorem SD.pass{a:Nat}{cp:Cp}{l:LS}{os:List Nat}{ts:List T3}{h' c r:Int}(o:dH ns rs)(h:SD ns rs bs cl D s)(hl:s.ls[cp.l]?=some l)(n:a<s.cps.length)(O:c8 (iI ns rs o s.ws l.grp) (s.R l.grp) os)(i:os.length<=12)(p:ts.Perm (put3 (s.ts l.grp) h' c r))(v:eV ts):SD ns rs bs cl (D+100) (gy rs s a cp l os ts):=by
 have m:=YG o (a:=a) (cp:=cp) h.bd hl n O i p v;have e:(gy rs s a cp l os ts).ws=s.ws/\(gy rs s a cp l os ts).R=s.R/\(gy rs s a cp l os ts).aD=s.aD/\(gy rs s a cp l os ts).groups=s.groups:=by
  unfold gy;split
  ·obtain⟨k,u,t,q⟩:=wQ (s:=s) (a:=a) (cp:=cp) (l:=l) (os:=os) (ts:=ts)
   obtain⟨b,f,g,d⟩:=Ml (rs:=rs) (h:=cp.h) (cz:=some cp.r) (os:=os) (qm (a:=a) (os:=os) (ts:=ts) hl);exact⟨b.trans k,f.trans u,g.trans t,d.trans q⟩
  ·exact⟨rfl,rfl,rfl,rfl⟩
 obtain⟨b,f,g,d⟩:=e;exact⟨⟨(er List.length b).trans h.ok.wl,λw j=>h.ok.w4 w (by rw[b] at j;exact j),by rw[f];exact h.ok.fit⟩,m,b.trans h.ws,h.fit,g.trans h.hm,d.trans h.gr⟩
end
section
variable{ns:List Int}{rs:List R5}{os:List Nat}{s s':NS}{g:Nat}
def Led(rs:List R5)(os:List Nat)(s:NS)(g h c r:Nat):Prop:=r∈os/\isAt rs (h:Int) r=true/\s.groups[c]?=some g/\Rw rs os r (c9 rs r h) (s.aD.getD c 0)
structure RT(rs:List R5)(os:List Nat)(g:Nat)(s:NS):Prop where
 nt:∀t∈s.ts g,∃h c r:Nat,t=((h:Int),(c:Int),(r:Int))/\Led rs os s g h c r
 cp:∀c∈s.cps,∀l,s.ls[c.l]?=some l->l.grp=g->l.old=false->Led rs os s g c.h l.s c.r
def lC(s:NS):Prop:=∀l∈s.ls,s.groups[l.s]?=some l.grp
structure Ld(o:dH ns rs)(s:NS):Prop where
 sd:lC s
 ld:∀g,g<3->∀os,c8 (iI ns rs o s.ws g) (s.R g) os->RT rs os g s
theorem Led.of{h c r:Nat}(a:Led rs os s g h c r)(b:s'.groups=s.groups)(d:∀c,s.groups[c]?=some g->s'.aD.getD c 0=s.aD.getD c 0):Led rs os s' g h c r:=⟨a.1,a.2.1,by rw[b];exact a.2.2.1,by rw[d c a.2.2.1];exact a.2.2.2⟩
theorem RT.of(a:RT rs os g s)(n:∀t∈s'.ts g,t∈s.ts g)(f:s'.groups=s.groups)(d:∀c,s.groups[c]?=some g->s'.aD.getD c 0=s.aD.getD c 0)(i:∀c∈s'.cps,∀b,s'.ls[c.l]?=some b->b.grp=g->b.old=false->c∈s.cps/\∃l,s.ls[c.l]?=some l/\l.s=b.s/\l.grp=g/\l.old=false):RT rs os g s':=by
 refine⟨λt h=>?_,λc h b k o v=>?_⟩
 ·obtain⟨h,c,r,e,q⟩:=a.nt t (n t h)
  exact⟨h,c,r,e,q.of f d⟩
 ·obtain⟨p,l,m,u,w,j⟩:=i c h b k o v
  have:=(a.cp c p l m w j).of f d
  rw[u] at this;exact this
theorem Wr(h:lC s)(d:s'.groups=s.groups)(hl:∀a∈s'.ls,∃l∈s.ls,a.s=l.s/\a.grp=l.grp):lC s':=λa b=>by
 obtain⟨l,f,c,e⟩:=hl a b;rw[d,c,e];exact h l f
theorem Qi{l:LS}{k:Nat}:(ql k l).s=l.s/\(ql k l).grp=l.grp:=by unfold ql;split <;> exact⟨rfl,rfl⟩
theorem news_at{k i:Nat}{a:LS}(h:(Dw s k).ls[i]?=some a):∃l,s.ls[i]?=some l/\a=ql k l:=by
 have h:(s.ls.map (ql k))[i]?=some a:=h;rw[ak] at h;cases e:s.ls[i]? with
 |none=>rw[e] at h;cases h
 |some l=>rw[e] at h;exact⟨l,rfl,(aI h).symm⟩
theorem Ov(h:lC s)(k:Nat):lC (Dw s k):=Wr h rfl λc a=>by
 obtain⟨l,b,rfl⟩:=aP.mp a;exact⟨l,b,Qi⟩
theorem RT.Ws:RT rs os g (Dw s g):=by
 refine⟨λt h=>?_,λc _ e d a b=>?_⟩
 ·have h:t∈fH s.ts g [] g:=h
  rw[cC] at h;cases h
 ·exfalso
  obtain⟨l,f,rfl⟩:=news_at d;unfold ql at a b;split at b
  ·cases b
  ·rename_i z
   rw[b3 z] at a;exact z a
theorem RT.news(a:RT rs os g s)(k:Nat):RT rs os g (Dw s k):=by
 by_cases z:g=k
 ·subst z
  exact RT.Ws
 ·refine a.of (λt h=>?_) rfl (λ_ _=>rfl) λc h m j d b=>?_
  ·have h:t∈fH s.ts k [] g:=h
   rw[dQ z] at h;exact h
  ·obtain⟨l,i,rfl⟩:=news_at j
   have e:=Qi (l:=l) (k:=k);have f:¬l.grp=k:=λq=>z (by rw[<- d,e.2,q]);unfold ql at b;rw[b3 f] at b;exact⟨h,l,i,e.1.symm,e.2▸d,b⟩
theorem Ld.call{o:dH ns rs}{x:Nat}{d:RM.Row}(h:Ld o s):Ld o (FD s g x d):=by
 unfold FD;split
 ·exact h
 ·refine⟨Ov (s:={s with R:=fH s.R g (RM.upd (s.R g) x d)}) h.sd g,λk i os O=>?_⟩
  by_cases z:k=g
  ·subst z
   exact RT.Ws
  ·have O:c8 (iI ns rs o s.ws k) (fH s.R g (RM.upd (s.R g) x d) k) os:=O
   rw[dQ z] at O;exact RT.news (s:={s with R:=fH s.R g (RM.upd (s.R g) x d)}) ((h.ld k i os O).of (λt h=>h) rfl (λ_ _=>rfl) λc h b a e f=>⟨h,b,a,rfl,e,f⟩) g
theorem Ld.move{o:dH ns rs}{x y:Nat}(h:Ld o s)(j:x<s.groups.length):Ld o (fF s x y):=by
 unfold fF;split
 ·exact h
 ·refine⟨Ov (s:={s with aD:=s.aD.set x y}) h.sd _,λk i os O=>?_⟩
  by_cases z:k=s.groups.getD x 0
  ·subst z
   exact RT.Ws
  ·refine RT.news (s:={s with aD:=s.aD.set x y}) ((h.ld k i os O).of (λt h=>h) rfl (λc b=>?_) λc h e d f g=>⟨h,e,d,rfl,f,g⟩) _
   show (s.aD.set x y).getD c 0=s.aD.getD c 0;have a:x≠c:=λq=>by
    subst q;rw[au,b] at z;exact z rfl
   rw[au,au,jO,b3 a]
end
section
variable{ns:List Int}{rs:List R5}{os:List Nat}{s:NS}{g:Nat}
theorem ZW{l:LS}{h:Nat}{cz:Option Nat}:∀r∈Aw rs s l h cz os,r∈os/\isAt rs (h:Int) r=true/\some r≠cz:=λr c=>by
 unfold Aw at c;obtain⟨x,a,rfl⟩:=aP.mp c;have b:iU (cz.map λk:Nat=>(k:Int)) x=true:=by
  unfold QY at a;split at a
  ·exact (bq.mp a).2
  ·split at a
   ·cases a
   ·split at a
    ·split at a
     ·exact (bq.mp a).2
     ·exact (bq.mp a).2
    ·exact (bq.mp a).2
 obtain⟨k,d,rfl⟩:=aP.mp (Gn.1 x a);rw[cZ];refine⟨(bq.mp d).1,(bq.mp d).2,λz=>?_⟩;rw[<- z] at b;unfold iU at b;rw[Bool.not_eq_true',decide_eq_false_iff_not] at b;exact b rfl
theorem Ld.post{o:dH ns rs}{x:Nat}{to:Option Nat}(h:Ld o s)(M:x<s.aD.length)(H:x<s.groups.length)(g:∀c∈s.cps,c.l<s.ls.length)(q:c8 (iI ns rs o s.ws (s.groups.getD x 0)) (s.R (s.groups.getD x 0)) os):Ld o (gW rs s x to os):=by
 have n:s.groups[x]?=some (s.groups.getD x 0):=by rw[au,aa H];rfl
 unfold gW;generalize p:s.aD.getD x 0=f;obtain⟨D,B⟩:=FF (rs:=rs) (os:=os) (h:=f) (cz:=none) (s:=gi s x to) (i:=s.ls.length) (l:={cV s x to with aG:=[.post f]}) (by show (s.ls++[_])[s.ls.length]?=_;rw[p];exact jK);rw[B];have m:=ZW (rs:=rs) (os:=os) (s:=gi s x to) (l:={cV s x to with aG:=[.post f]}) (h:=f) (cz:=none);generalize Aw rs (gi s x to) {cV s x to with aG:=[.post f]} f none os=gs at m;have I:∀b,(gi s x to).ls.set s.ls.length b=s.ls++[b]:=λb=>by
  show (s.ls++[_]).set s.ls.length b=_;rw[mS _ _ (aB _),fE];rfl
 rw[I];refine⟨λb v=>?_,λk K G O=>?_⟩
 ·rcases aR.mp v with z|z
  ·exact h.sd b z
  ·rw[aT.mp z]
   exact n
 ·have a:=h.ld k K G O
  refine⟨λt E=>a.nt t E,λc u b d e w=>?_⟩;have d:(s.ls++[_])[c.l]?=some b:=d;rcases aR.mp u with z|z
  ·rw[aY (g c z)] at d
   exact a.cp c z b d e w
  ·obtain⟨r,C,rfl⟩:=aP.mp z
   rw[jK] at d;cases d;have e:s.groups.getD x 0=k:=e;subst e;have L:=q.uniq O;subst L;have F:=Fo.of O;obtain⟨j,A,_⟩:=m r C;obtain⟨y,J,_⟩:=F.back j A;refine⟨j,y,n,?_⟩;show Rw rs os r (c9 rs r (c9 rs r f)) (s.aD.getD x 0);rw[J,p];exact .refl
theorem Ld.pass{o:dH ns rs}{a:Nat}{cp:Cp}{l:LS}{ts:List T3}(h:Ld o s)(U:∀c∈s.cps,c.l<s.ls.length)(I:s.cps[a]?=some cp)(hl:s.ls[cp.l]?=some l)(hg:l.grp<3)(N:c8 (iI ns rs o s.ws l.grp) (s.R l.grp) os)(pt:ts.Perm (put3 (s.ts l.grp) cp.h l.s cp.r)):Ld o (gy rs s a cp l os ts):=by
 have J:=(ai.mp hl).1;have y:=aN I;have F:=Fo.of N;have j:∀(m:NS) (w:LS),w.s=l.s->w.grp=l.grp->w.old=l.old->m.ls=s.ls.set cp.l w->∀(i:Nat) d,m.ls[i]?=some d->∃e,s.ls[i]?=some e/\e.s=d.s/\e.grp=d.grp/\e.old=d.old:=λm w e1 W Z K i d n=>by
  rw[K,f6 J] at n;by_cases z:i=cp.l
  ·rw[aq z] at n
   cases n;exact⟨l,by rw[z];exact hl,e1.symm,W.symm,Z.symm⟩
  ·rw[b3 z] at n
   exact⟨d,n,rfl,rfl,rfl⟩
 have x:∀m:NS,m.groups=s.groups->(∀(i:Nat) d,m.ls[i]?=some d->∃e,s.ls[i]?=some e/\e.s=d.s/\e.grp=d.grp/\e.old=d.old)->lC m:=λm eg st=>Wr h.sd eg λd G=>by
  obtain⟨i,n⟩:=jM G;obtain⟨e,g,v,u,_⟩:=st i d n;exact⟨e,aN g,v.symm,u.symm⟩
 unfold gy;split
 ·have le:=wQ (s:=s) (a:=a) (cp:=cp) (l:=l) (os:=os) (ts:=ts)
  have V:(bR s a cp l os ts).cps=s.cps.eraseIdx a:=by unfold bR;split <;> rfl
  have K:(bR s a cp l os ts).ls=s.ls.set cp.l {l with aG:=l.aG++[gj l cp os]}:=by unfold bR;split <;> rfl
  obtain⟨had,ed⟩:=FF (rs:=rs) (os:=os) (h:=cp.h) (cz:=some cp.r) (qm (a:=a) (os:=os) (ts:=ts) hl);rw[ed];have Q:=ZW (rs:=rs) (os:=os) (s:=bR s a cp l os ts) (l:={l with aG:=l.aG++[gj l cp os]}) (h:=cp.h) (cz:=some cp.r);generalize Aw rs (bR s a cp l os ts) {l with aG:=l.aG++[gj l cp os]} cp.h (some cp.r) os=gs at Q;have st:=j {bR s a cp l os ts with had:=had,cps:=(bR s a cp l os ts).cps++gs.map λr=>(⟨cp.l,r,fT (bR s a cp l os ts).ws r (gP {l with aG:=l.aG++[gj l cp os]}),c9 rs r cp.h⟩:Cp),ls:=(bR s a cp l os ts).ls.set cp.l {l with done:=jI l.done cp.h,aG:=l.aG++[gj l cp os]++((jJ (bR s a cp l os ts) {l with aG:=l.aG++[gj l cp os]} cp.h).map (fR.hand cp.h)++gs.map λr=>.send cp.h r (fT (bR s a cp l os ts).ws r (gP {l with aG:=l.aG++[gj l cp os]})))}} {l with done:=jI l.done cp.h,aG:=l.aG++[gj l cp os]++((jJ (bR s a cp l os ts) {l with aG:=l.aG++[gj l cp os]} cp.h).map (fR.hand cp.h)++gs.map λr=>.send cp.h r (fT (bR s a cp l os ts).ws r (gP {l with aG:=l.aG++[gj l cp os]})))} rfl rfl rfl (by rw[K,List.set_set]);refine⟨x _ le.2.2.2 st,λk L A O=>?_⟩;have O:c8 (iI ns rs o (bR s a cp l os ts).ws k) ((bR s a cp l os ts).R k) A:=O;rw[le.1,le.2.1] at O;have b:=h.ld k L A O;have E:∀c,s.groups[c]?=some k->(bR s a cp l os ts).aD.getD c 0=s.aD.getD c 0:=λc _=>by rw[le.2.2.1]
  refine⟨λt f=>?_,λc p d H B C=>?_⟩
  ·have old:t∈s.ts k->∃h c r:Nat,t=((h:Int),(c:Int),(r:Int))/\Led rs A _ k h c r:=λz=>by
    obtain⟨G,c',r',e',q⟩:=b.nt t z;exact⟨G,c',r',e',q.of le.2.2.2 E⟩
   have f:t∈(bR s a cp l os ts).ts k:=f;unfold bR at f;split at f
   ·exact old f
   ·rename_i no
    have f:t∈fH s.ts l.grp ts k:=f;by_cases z:k=l.grp
    ·subst z
     rw[cC] at f;have f:=pt.mem_iff.mp f;unfold put3 at f;rcases aR.mp f with w'|w'
     ·exact old (bq.mp w').1
     ·refine⟨cp.h,l.s,cp.r,aT.mp w',?_⟩
      exact (b.cp cp y l hl rfl (by simpa using no)).of le.2.2.2 E
    ·rw[dQ z] at f
     exact old f
  ·obtain⟨e,g,v,u,D⟩:=st c.l d H
   have p:c∈(bR s a cp l os ts).cps++_:=p;rw[V] at p;rcases aR.mp p with z|z
   ·have:=(b.cp c (List.mem_of_mem_eraseIdx z) e g (u.trans B) (D.trans C)).of le.2.2.2 E
    rw[v] at this;exact this
   ·obtain⟨r,X,rfl⟩:=aP.mp z
    have g:s.ls[cp.l]?=some e:=g;rw[hl] at g;cases g;have ek:l.grp=k:=u.trans B;subst ek;have T:=N.uniq O;subst T;have q:=b.cp cp y l hl rfl (D.trans C);obtain⟨P,M,Y⟩:=Q r X;obtain⟨S,b2,_⟩:=F.back P M;have ne:cp.r≠r:=λz=>Y (by rw[z]);have t1:=F.avoid q.1 q.2.1 M q.2.2.2;have t2:Rw rs os r cp.h (c9 rs cp.r cp.h):=.step .refl q.1 ne q.2.1;have q':Led rs os s l.grp (c9 rs r cp.h) l.s r:=⟨P,S,q.2.2.1,by rw[b2];exact t2.trans t1⟩
    have:=q'.of le.2.2.2 E
    rw[v] at this;exact this
 ·have st:=j (je s a cp l os) {l with aG:=l.aG++[gj l cp os]} rfl rfl rfl rfl
  refine⟨x _ rfl st,λk L A O=>?_⟩;refine (h.ld k L A O).of (λt h=>h) rfl (λ_ _=>rfl) λc p d H B C=>?_;obtain⟨e,g,v,u,D⟩:=st c.l d H;exact⟨List.mem_of_mem_eraseIdx p,e,g,v,u.trans B,D.trans C⟩
theorem aeG{o:dH ns rs}{cl:List (Nat×Nat)}:Ld o (S0 ns rs cl):=⟨λl h=>(by cases h),λg _ os _=>⟨λt h=>(by cases h),λc h=>(by cases h)⟩⟩
end
section
variable{P:Program}{w:World}{K:af}{mg:Str->Option Value}{base:Heap}
noncomputable def Qj(x:List Int):PyData:=.tuple (x.map .int)
theorem Ow{H:Hp}:∀{qs:List Addr} {xs:List (List Int)},eO K H qs (xs.map λx=>x.map V.int)->bS K H (xs.map Qj) (qs.map V.ref)
 |[],[],_=>rfl
 |[],_::_,h=>by cases h.len
 |_::_,[],h=>by cases h.len
 |q::qs,x::xs,h=>⟨.ref q,qs.map V.ref,rfl,Rep.MH (ns:=x) (h.at' 0 q _ rfl rfl),Ow ⟨Nat.succ.inj h.len,λi p y a b=>h.at' (i+1) p y a b⟩⟩
theorem Ox:∀xs:List (List Int),PyData.canLayAll0 (xs.map Qj)=true
 |[]=>rfl
 |x::xs=>by
  show (PyData.canLayAll0 (x.map .int)&&PyData.canLayAll0 (xs.map Qj))=true;rw[Ox xs,jX];rfl
theorem KA:∀xs:List (List Int),PyData.depthAll (xs.map Qj)<=1
 |[]=>!_
 |x::xs=>by
  show max (PyData.depthAll (x.map .int)+1) (PyData.depthAll (xs.map Qj))<=1
  have:=KA xs
  have:=oz x
  lia
theorem YQ{ds:List PyData}:(PyData.list ds).eqv (.list [])=ds.isEmpty:=by cases ds <;> rfl
noncomputable def dD(d:fR):PyData:=.tuple (.str (dW d)::(dI d).map .int)
theorem EJ{H:Hp}:∀{qs:List Addr} {ds:List fR},eO K H qs (ds.map fR.vs)->bS K H (ds.map dD) (qs.map V.ref)
 |[],[],_=>rfl
 |[],_::_,h=>by cases h.len
 |_::_,[],h=>by cases h.len
 |q::qs,d::ds,h=>⟨.ref q,qs.map V.ref,rfl,⟨q,V.str (dW d)::(dI d).map V.int,rfl,by rw[<- RQ];exact h.at' 0 q _ rfl rfl,⟨_,_,rfl,rfl,pW _⟩⟩,EJ ⟨Nat.succ.inj h.len,λi p x a b=>h.at' (i+1) p x a b⟩⟩
theorem YR(d:fR):PyData.strOk (dW d)=true:=by
 cases d
 ·exact (by decide +kernel:PyData.strOk "post" = true)
 ·exact (by decide +kernel:PyData.strOk "come" = true)
 ·exact (by decide +kernel:PyData.strOk "hand" = true)
 ·exact (by decide +kernel:PyData.strOk "send" = true)
 ·exact (by decide +kernel:PyData.strOk "twice" = true)
 ·exact (by decide +kernel:PyData.strOk "lost" = true)
theorem oZ:∀ds:List fR,PyData.canLayAll0 (ds.map dD)=true
 |[]=>rfl
 |d::ds=>by
  show ((PyData.strOk (dW d)&&PyData.canLayAll0 ((dI d).map .int))&&PyData.canLayAll0 (ds.map dD))=true;rw[oZ ds,jX,YR];rfl
theorem Iv:∀ds:List fR,PyData.depthAll (ds.map dD)<=1
 |[]=>!_
 |d::ds=>by
  show max (max 0 (PyData.depthAll ((dI d).map .int))+1) (PyData.depthAll (ds.map dD))<=1
  have:=Iv ds
  have:=oz (dI d)
  lia
noncomputable def ZX(t:T3):PyData:=.tuple (([t.1,t.2.1,t.2.2]:List Int).map .int)
theorem Oz{H:Hp}:∀{qs:List Addr} {us:List T3},gX K H qs us->bS K H (us.map ZX) (qs.map V.ref)
 |[],[],_=>rfl
 |[],_::_,h=>by cases h.1
 |_::_,[],h=>by cases h.1
 |q::qs,u::us,h=>⟨.ref q,qs.map V.ref,rfl,Rep.MH (ns:=[u.1,u.2.1,u.2.2]) (h.2 0 q u rfl rfl),Oz ⟨Nat.succ.inj h.1,λi p x a b=>h.2 (i+1) p x a b⟩⟩
theorem OA:∀us:List T3,PyData.canLayAll0 (us.map ZX)=true
 |[]=>rfl
 |u::us=>by
  show (PyData.canLayAll0 (([u.1,u.2.1,u.2.2]:List Int).map .int)&&PyData.canLayAll0 (us.map ZX))=true;rw[OA us,jX];rfl
theorem KC:∀us:List T3,PyData.depthAll (us.map ZX)<=1
 |[]=>!_
 |u::us=>by
  show max (PyData.depthAll (([u.1,u.2.1,u.2.2]:List Int).map .int)+1) (PyData.depthAll (us.map ZX))<=1
  have:=KC us
  have:=oz [u.1,u.2.1,u.2.2]
  lia
end
section
variable{K:af}{H H' H2:Hp}{G:Addr->Prop}
def ID(H:Hp)(G:Addr->Prop):Prop:=∀b,G b->∃o,H b=some o/\vW o
theorem ID.mono(h:ID H G)(s:aH H H'):ID H' G:=λb z=>by
 obtain⟨o,c,a⟩:=h b z;exact⟨o,s _ _ c,a⟩
theorem ID.free(h:ID H G){b:Addr}(e:H b=none):¬G b:=λz=>by
 obtain⟨o,a,_⟩:=h b z;rw[e] at a;cases a
theorem ID.XS(h:ID H G){b:Addr}{x:List V}(e:c7 K H b x):c7 K (Off H G) b x:=by
 rcases e with (e|⟨o,e⟩)|e
 ·refine .inl (.inl (iZ (λz=>?_) e))
  obtain⟨u,a,c⟩:=h b z;rw[e] at a;cases a;exact (c x).1 rfl
 ·refine .inl (.inr ⟨o,iZ (λz=>?_) e⟩)
  obtain⟨u,a,c⟩:=h b z;rw[e] at a;cases a;exact (c x).2 o rfl
 ·exact .inr e
theorem ID.or(h:ID H G){b:Addr}{xs:List V}(e:H b=some (.lst xs)):ID H λx=>G x∨x=b:=λx z=>by
 rcases z with z|rfl
 ·exact h x z
 ·exact⟨_,e,lW⟩
theorem Qk{z:Addr}{o:HO}(a:G z):Off (upd H z o) G=Off H G:=by
 funext b;unfold TW.Off;split
 ·rfl
 ·rename_i n
  exact aK λe=>n (e▸a)
def Dt(K:af)(H H':Hp)(d:PyData)(v:V):Prop:=∀G,ID H G->Rep K (Off H' G) d v
theorem Dt.rep{d:PyData}{v:V}(h:Dt K H H' d v):Rep K H' d v:=(h (λ_=>False) λ_ z=>z.elim).mono cF
end
section
theorem AU(y:Int){n:Nat}(h:0<n):∃x:Nat,y%(n:Int)=(x:Int)/\x<n:=by
 have b:=bT y (show (n:Int)≠0 by lia);have a:=cu y (show (0:Int)<(n:Int) by lia);exact⟨(y%(n:Int)).toNat,∅,∅⟩
noncomputable def t7(c:Cp):List Int:=[c.l,c.r,c.w,c.h]
theorem abT(cps:List Cp):cps.map Cp.vs=(cps.map t7).map λx=>x.map V.int:=by rw[cX];rfl
end
section
variable{ns:List Int}{rs:List R5}{os:List Nat}{s:NS}
theorem Wt(F:Fo ns rs os){l:LS}{e:En}:(Aw rs s l e.h e.by? os).Nodup/\∀r∈Aw rs s l e.h e.by? os,r∈goes rs os e:=by
 have a:((((os.filter (isAt rs e.h)).map λk:Nat=>(k:Int)).filter (iU (e.by?.map λk:Nat=>(k:Int)))).map Int.toNat).Nodup/\∀r∈(((os.filter (isAt rs e.h)).map λk:Nat=>(k:Int)).filter (iU (e.by?.map λk:Nat=>(k:Int)))).map Int.toNat,r∈goes rs os e:=by
  rw[Gp];exact⟨Mj F,λ_ h=>h⟩
 unfold Aw QY;split
 ·exact a
 ·split
  ·exact⟨jy,λr b=>by cases b⟩
  ·split
   ·rename_i q _
    split
    ·rename_i i
     have sub:∀r∈([q].filter (iU (e.by?.map λk:Nat=>(k:Int)))).map Int.toNat,r∈goes rs os e:=λr b=>by
      refine a.2 r ?_;obtain⟨y,g,d⟩:=aP.mp b;obtain⟨f,c⟩:=bq.mp g;rw[aT.mp f] at d c;exact aP.mpr ⟨q,bq.mpr ⟨i,c⟩,d⟩
     refine⟨?_,sub⟩;rw[eB];split <;> simp
    ·exact a
   ·exact a
theorem WJ.Q4(F:Fo ns rs os){f:Nat}{D i:List En}(w:WJ ns rs os f D i):(D++i).length<=rs.length+1:=by
 have l:∀L:List En,(L.map (·.h)).Nodup->(∀e∈L,e∈D++i)->(∀e∈L,e.fr≠none)->L.length<=rs.length:=λL nd sub fr=>by
  have u:(L.map λe=>e.by?.getD rs.length).Nodup:=by
   rw[List.Nodup,List.pairwise_map] at nd ⊢;refine List.Pairwise.imp_of_mem ?_ nd;intro a b E H K t;cases p:a.fr with
   |none=>exact fr a E p
   |some M =>
    cases s:b.fr with
    |none=>exact fr b H s
    |some S =>
     obtain⟨G,N⟩:=M;obtain⟨J,U⟩:=S;have R:G=J:=by
      unfold En.by? at t;rw[p,s] at t;exact t
     subst R;obtain⟨y,C,P,_,Q⟩:=w.fr a (sub a E) _ _ p;obtain⟨V,T,v,_,x⟩:=w.fr b (sub b H) _ _ s;rcases F.two y C T with z|z
     ·rw[z] at v
      exact K (P.symm.trans v)
     ·rw[z] at x
      exact F.cut G y N C ((F.symm Q).trans x)
  have I:∀r∈L.map (λe=>e.by?.getD rs.length),r∈az rs.length:=λr o=>by
   obtain⟨e,c,d⟩:=aP.mp o;cases z:e.fr with
   |none=>exact b5 z (fr e c)
   |some q =>
    obtain⟨O,W⟩:=q;unfold En.by? at d;rw[z] at d;have d:O=r:=d;subst d;exact c5.mpr (F.lt _ (w.fr e (sub e c) _ _ z).1)
  have:=u.length_le_of_subset I
  rwa [ah,bG] at this
 by_cases o:∃e∈D++i,e.fr=none
 ·obtain⟨e,c,d⟩:=o
  obtain⟨A,B,k⟩:=List.append_of_mem c;have nd:=w.nd;rw[k] at nd ⊢;have pm:(A++e::B).Perm (e::(A++B)):=List.perm_middle;have g:((e::(A++B)).map (·.h)).Nodup:=(pm.map _).nodup_iff.mp nd;rw[bH,iG] at g;have m:∀j∈A++B,j∈D++i:=λj n=>by
   rw[k];exact pm.mem_iff.mpr (bw _ n)
  have:=l (A++B) g.2 m λj n z=>g.1 (by
   rw[w.f0 e c d,<- w.f0 j (m j n) z];exact bV n)
  rw[pm.length_eq];simp only[bE];lia
 ·have:=l (D++i) w.nd (λe c=>c) λe c z=>o ⟨e,c,z⟩
  lia
structure J5(ns:List Int)(rs:List R5)(os:List Nat)(i g num:Nat)(D:List En)(s:NS):Prop where
 all:∀c∈s.cps,c.l=i
 wj:∃f,WJ ns rs os f D (s.cps.map (JB rs))
 lt:∃l,s.ls[i]?=some l/\l.done=D.map (·.h)/\l.grp=g/\gP l=num
def Wd(os:List Nat)(ws:List (List Nat))(num:Nat)(ds:List fR):Prop:=∀d∈ds,∀h r x,d=.send h r x->r∈os/\x=fT ws r num
theorem ZY{h num:Nat}{hs gs:List Nat}{b:List (List Nat)}(i:∀r∈gs,r∈os):Wd os b num (hs.map (fR.hand h)++gs.map λr=>.send h r (fT b r num)):=λd g k r x e=>by
 rcases aR.mp g with z|z
 ·obtain⟨c,_,f⟩:=aP.mp z
  rw[<- f] at e;cases e
 ·obtain⟨l,a,j⟩:=aP.mp z
  rw[<- j] at e;cases e;exact⟨i _ a,rfl⟩
theorem OB(F:Fo ns rs os){i h num:Nat}{e:En}(g:e.h=h){gs:List Nat}{c:List (List Nat)}(d:∀r∈gs,r∈goes rs os e):(gs.map λr=>(⟨i,r,fT c r num,c9 rs r h⟩:Cp)).map (JB rs)=gs.map (nx rs e):=by
 rw[cX];refine cK λr a=>?_;obtain⟨f,b,_⟩:=iQ.mp (d r a);subst g;show (⟨c9 rs r e.h,some (r,c9 rs r (c9 rs r e.h))⟩:En)=⟨c9 rs r e.h,some (r,e.h)⟩;rw[(F.back f b).2.1]
theorem J5.post{n m I x:Nat}{to:Option Nat}(F:Fo ns rs os)(u:Bd n m I s)(D:n=ns.length)(k:x<s.aD.length)(y:s.cps=[]) :
 ∃l,(gW rs s x to os).ls[s.ls.length]?=some l/\J5 ns rs os s.ls.length (s.groups.getD x 0) (gP (cV s x to)) [⟨s.aD.getD x 0,none⟩] (gW rs s x to os)/\Wd os s.ws (gP (cV s x to)) l.aG/\(gW rs s x to os).ls.length=s.ls.length+1:=by
 have o:s.aD.getD x 0<ns.length:=by
  rw[<- D];refine u.hm _ ?_;rw[au,aa k];exact aM k
 generalize q:s.aD.getD x 0=f at o;have z:gW rs s x to os=RH rs (gi s x to) s.ls.length f {cV s x to with aG:=[.post f]} none os:=by unfold gW;rw[q]
 obtain⟨H,E⟩:=FF (rs:=rs) (os:=os) (h:=f) (cz:=none) (s:=gi s x to) (i:=s.ls.length) (l:={cV s x to with aG:=[.post f]}) (by show (s.ls++[_])[s.ls.length]?=_;rw[q];exact jK);have go:(Aw rs (gi s x to) {cV s x to with aG:=[.post f]} f none os).Nodup/\∀r∈Aw rs (gi s x to) {cV s x to with aG:=[.post f]} f none os,r∈goes rs os ⟨f,none⟩:=Wt (e:=⟨f,none⟩) F;rw[z,E];generalize Aw rs (gi s x to) {cV s x to with aG:=[.post f]} f none os=gs at go;generalize jJ (gi s x to) {cV s x to with aG:=[.post f]} f=hs;have p:∀g,(gi s x to).ls.set s.ls.length g=s.ls++[g]:=λg=>by
  show (s.ls++[_]).set s.ls.length g=_;rw[mS _ _ (aB _),fE];rfl
 have J:∀C v,gP {cV s x to with aG:=C,done:=v}=gP (cV s x to):=λ_ _=>rfl;have w:=(WJ.zero (rs:=rs) (os:=os) o).next (A:=[]) (B:=[]) F go.1 go.2;have j:(gi s x to).cps++gs.map (λr=>(⟨s.ls.length,r,fT s.ws r (gP (cV s x to)),c9 rs r f⟩:Cp))=gs.map λr=>⟨s.ls.length,r,fT s.ws r (gP (cV s x to)),c9 rs r f⟩:=by
  show s.cps++_=_;rw[y];rfl
 obtain⟨L,b⟩:∃L:LS,L={cV s x to with done:=jI [] f,aG:=[.post f]++(hs.map (fR.hand f)++gs.map λr=>.send f r (fT s.ws r (gP (cV s x to))))}:=⟨_,rfl⟩;refine⟨L,?_,⟨λc a=>?_,⟨f,?_⟩,L,?_,by rw[b];rfl,by rw[b];rfl,by rw[b];rfl⟩,?_,?_⟩
 ·show ((gi s x to).ls.set s.ls.length _)[s.ls.length]?=_
  rw[p,b];exact jK
 ·have a:c∈(gi s x to).cps++gs.map λr=>(⟨s.ls.length,r,fT s.ws r (gP (cV s x to)),c9 rs r f⟩:Cp):=a
  rw[j] at a;obtain⟨r,_,rfl⟩:=aP.mp a;rfl
 ·show WJ ns rs os f _ (((gi s x to).cps++gs.map λr=>(⟨s.ls.length,r,fT s.ws r (gP (cV s x to)),c9 rs r f⟩:Cp)).map (JB rs))
  rw[j,OB F (e:=⟨f,none⟩) rfl go.2];exact w
 ·show ((gi s x to).ls.set s.ls.length _)[s.ls.length]?=_
  rw[p,b];exact jK
 ·rw[b]
  intro d hd h r t e;rcases be.mp hd with rfl|hd
  ·cases e
  ·exact ZY (λr G=>(iQ.mp (go.2 r G)).1) d hd h r t e
 ·show ((gi s x to).ls.set s.ls.length _).length=_
  rw[br];exact aA
theorem J5.pass{i g num:Nat}{D:List En}{cp:Cp}{l:LS}{ts:List T3}(F:Fo ns rs os)(j:J5 ns rs os i g num D s)(b:s.cps[0]?=some cp)(hl:s.ls[cp.l]?=some l) :
 yN l cp os = "come" /\ ∃e m n,J5 ns rs os i g num (D++[e]) (gy rs s 0 cp l os ts)/\(gy rs s 0 cp l os ts).ls[i]?=some m/\m.aG=l.aG++n/\Wd os s.ws num n/\(gy rs s 0 cp l os ts).ls.length=s.ls.length:=by
 obtain⟨f,wj⟩:=j.wj;obtain⟨l0,I,K,W,M⟩:=j.lt;have u:=j.all cp (aN b);rw[u,I] at hl;cases hl;obtain⟨rest,t⟩:∃rest,s.cps=cp::rest:=by
  cases e:s.cps with
  |nil=>rw[e] at b;cases b
  |cons c r=>rw[e] at b;cases b;exact⟨r,rfl⟩
 rw[t,bH] at wj;generalize L:JB rs cp=e at wj;have q:e.h=cp.h:=by rw[<- L];rfl
 have J:e.fr=some (cp.r,c9 rs cp.r cp.h):=by rw[<- L];rfl
 have R:e.by?=some cp.r:=by unfold En.by?;rw[J];rfl
 have v:e∈D++e::rest.map (JB rs):=-_
 obtain⟨E,q2,q3,q4,q5⟩:=wj.fr e v _ _ J;have nd:e.h∉l.done:=λz=>by
  rw[K] at z;obtain⟨y,U,X⟩:=aP.mp z;exact DB wj.nd (-_) y U X
 have k:Av l cp.h=false:=by rw[Ou rfl,<- q];exact c6 nd
 have Z:comes l cp os=true:=by
  unfold comes;rw[k,cy E];rfl
 refine⟨by unfold yN;rw[aq E,k,b3 (!_)],e,?_⟩;have G:gj l cp os=.t9 cp.h cp.r:=by
  unfold gj;rw[k,aq E,b3 (!_)]
 have o:s.ls[cp.l]?=some l:=by rw[u];exact I
 have C:=(ai.mp o).1;have x:=qm (a:=0) (os:=os) (ts:=ts) o;obtain⟨Y,V⟩:=FF (rs:=rs) (os:=os) (h:=cp.h) (cz:=some cp.r) x;have go:=Wt (s:=bR s 0 cp l os ts) (l:={l with aG:=l.aG++[gj l cp os]}) (e:=e) F;rw[R,q] at go;unfold gy;rw[aq Z,V];generalize Aw rs (bR s 0 cp l os ts) {l with aG:=l.aG++[gj l cp os]} cp.h (some cp.r) os=gs at go;generalize jJ (bR s 0 cp l os ts) {l with aG:=l.aG++[gj l cp os]} cp.h=hs;have T:(bR s 0 cp l os ts).ws=s.ws:=wQ.1;have P:(bR s 0 cp l os ts).cps=rest:=by
  unfold bR;split
  ·show s.cps.eraseIdx 0=rest
   rw[t];rfl
  ·show s.cps.eraseIdx 0=rest
   rw[t];rfl
 have H:(bR s 0 cp l os ts).ls.length=s.ls.length:=by
  unfold bR;split
  ·exact br
  ·exact br
 have N:gP {l with aG:=l.aG++[gj l cp os]}=num:=M;rw[T,P,N];have w:=wj.next (A:=[]) (B:=rest.map (JB rs)) F go.1 go.2;have p:∀m,((bR s 0 cp l os ts).ls.set cp.l m)[i]?=some m:=λm=>by
  rw[<- u,jO,aq rfl,aq (by rw[H];exact C)]
 refine⟨_,[.t9 cp.h cp.r]++(hs.map (fR.hand cp.h)++gs.map λr=>.send cp.h r (fT s.ws r num)),⟨λc O=>?_,⟨f,?_⟩,_,p _,?_,W,M⟩,p _,?_,?_,?_⟩
 ·rcases aR.mp O with z|z
  ·exact j.all c (by rw[t];exact bw _ z)
  ·obtain⟨r,_,rfl⟩:=aP.mp z
   exact u
 ·show WJ ns rs os f _ ((rest++gs.map λr=>(⟨cp.l,r,fT s.ws r num,c9 rs r cp.h⟩:Cp)).map (JB rs))
  rw[aS,OB F q go.2];exact w
 ·show jI l.done cp.h=_
  unfold jI;rw[b3 (by rw[<- q];exact nd),K,aS,<- q];rfl
 ·show (l.aG++[gj l cp os])++_=_
  rw[G,eF]
 ·intro d hd h r Q e
  rcases be.mp hd with rfl|hd
  ·cases e
  ·exact ZY (λr S=>(iQ.mp (go.2 r S)).1) d hd h r Q e
 ·show ((bR s 0 cp l os ts).ls.set cp.l _).length=_
  rw[br];exact H
theorem J5.len(F:Fo ns rs os){i g num:Nat}{D:List En}(j:J5 ns rs os i g num D s):D.length+s.cps.length<=rs.length+1:=by
 obtain⟨f,wj⟩:=j.wj
 have:=wj.Q4 F
 rwa [aA,ah] at this
end
section
variable{P:Program}{w:World}{K:af}{mg:Str->Option Value}{base:Heap}
inductive Iw(K:af)(vs:List V)(H:Hp)(Q:VK)(E:XK):Prop
 |mk (n:Nat) (b c:Addr) (rs:List R5) (ks:List Nat):vs=[.int n,.ref b,.ref c]->Ll K H b rs->bQ K H c (bM ks)->(∀k∈ks,k<rs.length)->(∀r∈rs,r.Ok n)->n<=12->(∀l (M:List Int) H',aH H H'->H l=none->H' l=some (.lst (M.map V.int))->Gr.U4 (mY rs ks) n M->Q (.ref l) H')->Iw K vs H Q E
theorem OC{t:Ad}(T:Txt K mg t):cE P w K mg base iS 1 t.sU t.xN ["_law_size","_law_ropes_here","_law_some"]  (Iw K):=by
 refine T.Hq.F.kq j0 λH Q E hr h=>?_
 ·obtain⟨n,b,c,rs,g,rfl,hB,hC,L,ok,Wa,k⟩:=h
  refine⟨_,(av (sS 3 j0 (fV (GD rfl) (by rfl) T.tw boot_list (gz (fV ES (by rfl) T.gv boot_range (gz (pv 0)))))) (av (fS (ir (pv 2)) (gT 4 j0) (av (sS 5 j0 (cB (JG rfl) T.VT boot_min (rA (xL (pv 3) (xT (xL (pv 1) (pv 4)) aE)) (xL (pv 3) (xT (xL (pv 1) (pv 4)) aE))))) (av (sS 6 j0 (cB (Sa rfl) T.adS boot_max (rA (xL (pv 3) (xT (xL (pv 1) (pv 4)) aE)) (xL (pv 3) (xT (xL (pv 1) (pv 4)) aE))))) (bL (ou (i:=3) j0.nd rfl (Or.inl rfl) (kO j0 ["_law_label","_law_high","_law_low"] [none,some 6,some 5]) rfl (ir (pv 3)) (λ_ _ _ _=>by exact (gS 0 G8)) (λ_ _ _ _=>by exact iD) (λ_ _ _ _=>by exact (vK (qT vO (pv 0) (pv 1)) (pv 2) (pv 0)))))))) (oR (pv 3)))),?_⟩
  left
  have inR:=MU ok L;obtain⟨v,hL,A1⟩:=id hB;have Ue:v.length=rs.length:=by rw[A1.len,ah]
  refine⟨_,rfl,_,rfl,λr O=>?_⟩;refine⟨r,n,rfl,aC,∅,λf N=>?_⟩;have s2:=(aH.new (o:=.OL 0 (n:Int)) O).trans (aH.new (o:=.lst (bM (az n))) N);have Y:H f=none:=(aH.new (o:=.OL 0 (n:Int)) O).free N;have U:upd (upd H r (.OL 0 (n:Int))) f (.lst (bM (az n))) f=some (.lst (((az n).map λk=>((k:Nat):Int)).map V.int)):=by rw[aC,iX]
  generalize upd (upd H r (.OL 0 (n:Int))) f (.lst (bM (az n)))=H2 at s2 U;refine⟨_,rfl,c,rfl,⟨_,s2.seq hC⟩,vM (K:=K) (a:=c) (xs:=bM g) (λi σ s=>aH H s/\∃(f:Addr) (M:List Int) (v4 v5 v6:Option V),σ=[some (.int (n:Nat)),some (.ref b),some (.ref c),some (.ref f),v4,v5,v6]/\H f=none/\s f=some (.lst (M.map V.int))/\Gr.vR ((mY rs g).take i) n M/\Gr.WQ n M) ⟨s2,f,_,_,_,_,rfl,Y,U,Gr.vR.nil n,Gr.WQ.nil n⟩ (λi σ s _ z=>z.1.seq hC) ?_ ?_⟩
  ·rintro i y σ s hi ⟨C,f,M,v4,v5,v6,rfl,Y,A,D,q⟩
   have u:i<g.length:=by
    have:=(ai.mp hi).1
    rw[ah] at this;exact this
   rw[ak,aa u] at hi;cases hi;have Tq:=L _ (aM u);have S:(mY rs g)[i]?=some (rs[g[i]].a,rs[g[i]].b):=by
    show (g.map (pairOf rs))[i]?=_;rw[ak,aa u];show some (pairOf rs g[i])=_;rw[DM Tq]
   show iB 4 (V.int ((g[i]:Nat):Int)) _ _ _;generalize g[i]=d at Tq S;have hp:(v.map V.ref)[d]?=some (V.ref (v[d]'∅)):=by rw[ak,aa];rfl
   have J:=A1.at' d (v[d]'∅) (rs[d]).vs (aa _) (by rw[ak,aa Tq];rfl);have X:FG (v.map V.ref) (d:Int)=some (.ref (v[d]'∅)):=fD hp;generalize v[d]'∅=pt at X J;have m:=ok _ (aM Tq);have hl:=D.len;have a0:=m.a0;have a1:=m.a1;have b0:=m.b0;have b1:=m.b1;have p:bQ K s f (M.map V.int):=bQ.of A;have l:=bQ.of (K:=K) (C _ _ hL);have WV:=C.eK J;refine⟨_,rfl,_,rfl,_,rfl,b,_,_,_,rfl,rfl,l,X,pt,_,0,_,rfl,rfl,WV,rfl,f,_,_,_,rfl,rfl,p,Li a0 ∅,_,rfl,_,rfl,_,rfl,b,_,_,_,rfl,rfl,l,X,pt,_,1,_,rfl,rfl,WV,rfl,f,_,_,_,rfl,rfl,p,Li b0 ∅,_,_,rfl,?_⟩;refine⟨_,rfl,_,rfl,_,rfl,b,_,_,_,rfl,rfl,l,X,pt,_,0,_,rfl,rfl,WV,rfl,f,_,_,_,rfl,rfl,p,Li a0 ∅,_,rfl,_,rfl,_,rfl,b,_,_,_,rfl,rfl,l,X,pt,_,1,_,rfl,rfl,WV,rfl,f,_,_,_,rfl,rfl,p,Li b0 ∅,_,_,rfl,?_⟩;obtain⟨hM2,hL2⟩:=Gr.Vw D q inR S;have hjl:(Gr.lE M rs[d].a rs[d].b).length=M.length:=by unfold Gr.lE;rw[ah]
   refine⟨_,rfl,f,rfl,⟨_,p⟩,λaia RU=>?_⟩;refine fX (n:=(M.map V.int).length) (λj ys _=>ys=((Gr.lE M rs[d].a rs[d].b).take j).map V.int) RU (zd p) (pX p) rfl ?_ ?_
   ·rintro j ys H6 hj R hy B x H7 ⟨rfl,hx⟩
    have I:=hx _ (R.seq p);have G:=hj;rw[ah] at hj;rw[ak,aa hj] at I;cases I;have W:ys.length<sizeLine:=by
     rw[B,ah]
     have:=List.length_take_le j (Gr.lE M rs[d].a rs[d].b)
     exact cP ∅
    have Z:(Gr.lE M rs[d].a rs[d].b)[j]?=some (if M[j]=(if Gr.iA M rs[d].b > Gr.iA M rs[d].a then Gr.iA M rs[d].b else Gr.iA M rs[d].a) then (if Gr.iA M rs[d].b<Gr.iA M rs[d].a then Gr.iA M rs[d].b else Gr.iA M rs[d].a) else M[j]):=by
     unfold Gr.lE;rw[ak,aa hj];rfl
    refine⟨_,rfl,_,rfl,rfl,_,rfl,?_⟩;refine kP (λc=>?_) (λc=>?_)
    ·have ce:=V.int.inj (eL c)
     rw[aq ce] at Z;exact⟨_,rfl,d8 RU G R hy W (by rw[B];exact (o8 Z).symm)⟩
    ·have ce:¬M[j]=(if Gr.iA M rs[d].b > Gr.iA M rs[d].a then Gr.iA M rs[d].b else Gr.iA M rs[d].a):=λz=>c (cy (er V.int z))
     rw[b3 ce] at Z;exact⟨_,rfl,d8 RU G R hy W (by rw[B];exact (o8 Z).symm)⟩
   ·rintro ys H6 R hy B
    rw[ah,cO ∅] at B;exact⟨C.trans R,aia,_,_,_,_,rfl,C.free RU,by rw[hy,B],hM2,hL2⟩
  ·rintro σ s ⟨C,f,M,v4,v5,v6,rfl,Y,A,D,q⟩
   rw[ah] at D;have e:(mY rs g).take g.length=mY rs g:=cO (by show (g.map _).length<=_;rw[ah];exact aB _);rw[e] at D;exact⟨_,rfl,k f M s C Y A (Gr.SX D q inR)⟩
end
section
variable{ns:List Int}{rs:List R5}{bs:List (List Bool)}{cl:List (Nat×Nat)}{os:Nat->List Nat}{Ls:List (Nat×Option Nat)}{b D:Nat}{s:NS}
noncomputable def Wv(rs:List R5)(r:Nat):Nat:=match rs[r]? with|some re=>re.a.toNat|none=>0
noncomputable def Ww(rs:List R5)(r:Nat):Nat:=match rs[r]? with|some re=>re.b.toNat|none=>0
section
variable{os:List Nat}
theorem Fo.ends(F:Fo ns rs os){r:Nat}(i:r∈os):isAt rs (Wv rs r:Int) r=true/\isAt rs (Ww rs r:Int) r=true/\c9 rs r (Wv rs r)=Ww rs r/\c9 rs r (Ww rs r)=Wv rs r/\Wv rs r<ns.length/\Ww rs r<ns.length/\∀x:Nat,isAt rs (x:Int) r=true->x=Wv rs r∨x=Ww rs r:=by
 have c:=F.lt r i;have o:=F.ok _ (aM c);have j:=o.a0;have l:=o.b0;have m:=o.ab;have n:=o.a1;have k:=o.b1;have d:∀y:Int,isAt rs y r=(decide (y=rs[r].a) || decide (y=rs[r].b)):=λy=>by unfold isAt;rw[aa c]
 have f:Wv rs r=rs[r].a.toNat:=by unfold Wv;rw[aa c]
 have g:Ww rs r=rs[r].b.toNat:=by unfold Ww;rw[aa c]
 have e:∀y,c9 rs r y=fQ rs[r] y:=λy=>by unfold c9;rw[aa c]
 rw[e,e,d,d,f,g];unfold fQ;refine⟨by simp;lia,by simp;lia,?_,?_,∅,∅,λx h=>?_⟩
 ·rw[aq ∅]
 ·rw[b3 ∅]
 ·rw[d,Bool.or_eq_true,decide_eq_true_iff,decide_eq_true_iff] at h
  lia
end
theorem Wx{a:Nat}{cp:Cp}{l:LS}{os:List Nat}{ts:List T3}(hl:s.ls[cp.l]?=some l):(gy rs s a cp l os ts).ls.length=s.ls.length:=by
 unfold gy;split
 ·obtain⟨b,c⟩:=FF (rs:=rs) (os:=os) (h:=cp.h) (cz:=some cp.r) (qm (a:=a) (os:=os) (ts:=ts) hl)
  rw[c];show ((bR s a cp l os ts).ls.set _ _).length=_;rw[br];unfold bR;split <;> exact br
 ·exact br
theorem aeJ{o:dH ns rs}{g:Nat}{os:List Nat}(h:Ld o s)(b:g<3)(O:c8 (iI ns rs o s.ws g) (s.R g) os):NL rs os s.aD (s.ts g):=λt a=>by
 obtain⟨d,c,r,e,q⟩:=(h.ld g b os O).nt t a;exact⟨d,c,r,e,q.1,q.2.1,q.2.2.2⟩
theorem KD{a:Nat}{cp:Cp}{l:LS}{os:List Nat}{ts:List T3}(hl:s.ls[cp.l]?=some l):(gy rs s a cp l os ts).ws=s.ws/\(gy rs s a cp l os ts).R=s.R/\(gy rs s a cp l os ts).aD=s.aD/\(gy rs s a cp l os ts).groups=s.groups:=by
 unfold gy;by_cases c:comes l cp os=true
 ·rw[aq c]
  obtain⟨b,k,j,i⟩:=wQ (s:=s) (a:=a) (cp:=cp) (l:=l) (os:=os) (ts:=ts);obtain⟨f,e,g,d⟩:=Ml (rs:=rs) (h:=cp.h) (cz:=some cp.r) (os:=os) (qm (a:=a) (os:=os) (ts:=ts) hl);exact⟨f.trans b,e.trans k,g.trans j,d.trans i⟩
 ·rw[b3 c]
  exact⟨rfl,rfl,rfl,rfl⟩
theorem Wy{os:List Nat}(F:Fo ns rs os){x z:Nat}:Rw rs os rs.length x z↔Gr.Reach (mY rs os) (x:Int) (z:Int):=by
 have d:∀{k:Nat} {r:Nat},os[k]?=some r->(mY rs os)[k]?=some ((Wv rs r:Int),(Ww rs r:Int)):=λ{k r} e=>by
  have c:=F.lt r (aN e);have o:=F.ok _ (aM c);have A:=o.a0;have G:=o.b0;show (os.map (pairOf rs))[k]?=_;rw[ak,e];show some (pairOf rs r)=_;rw[DM c];unfold Wv Ww;rw[aa c];show some (rs[r].a,rs[r].b)=some (((rs[r].a.toNat:Nat):Int),((rs[r].b.toNat:Nat):Int));rw[Int.toNat_of_nonneg A,Int.toNat_of_nonneg G]
 constructor
 ·intro t
  induction t with
  |refl=>exact .refl _
  |@step y r t c I E i =>
   obtain⟨k,s⟩:=jM c;obtain⟨_,_,h,f,_,_,H⟩:=F.ends c;refine .step (k:=k) i ?_;rcases H y E with e|e
   ·rw[e,h];exact .inl (d s)
   ·rw[e,f];exact .inr (d s)
 ·intro t
  have g:∀{u v:Int},Gr.Reach (mY rs os) u v->∀x:Nat,u=(x:Int)->∃z:Nat,v=(z:Int)/\Rw rs os rs.length x z:=λ{u v} t=>by
   induction t with
   |refl=>exact λx e=>⟨x,e,.refl⟩
   |@step y v k t ad i =>
    intro x e;obtain⟨p,J,n⟩:=i x e;cases q:os[k]? with
    |none =>
     exfalso
     have:(mY rs os)[k]?=none:=by show (os.map (pairOf rs))[k]?=none;rw[ak,q];rfl
     rcases ad with w|w <;> (rw[this] at w;cases w)
    |some r =>
     have c:=aN q;obtain⟨D,B,h,f,_⟩:=F.ends c;have j:=bz (F.lt r c);rcases ad with w|w
     ·rw[d q] at w
      obtain⟨m,l⟩:=Prod.mk.inj (aI w)
      have:p=Wv rs r:=∅
      subst this;exact⟨Ww rs r,l.symm,h▸.step n c j D⟩
     ·rw[d q] at w
      obtain⟨m,l⟩:=Prod.mk.inj (aI w)
      have:p=Ww rs r:=∅
      subst this;exact⟨Wv rs r,m.symm,f▸.step n c j B⟩
  obtain⟨C,e,q⟩:=g t x rfl
  have:z=C:=∅
  rw[this];exact q
end
section
structure A3(ns:List Int)(rs:List R5)(o:dH ns rs)(bs:List (List Bool))(cl:List (Nat×Nat))(D:Nat)(s:NS):Prop extends SD ns rs bs cl D s where
 ld:Ld o s
variable{ns:List Int}{rs:List R5}{o:dH ns rs}{bs:List (List Bool)}{cl:List (Nat×Nat)}{D:Nat}{s s':NS}
theorem A3.b0(h:A3 ns rs o bs cl D s):SD ns rs bs cl D s:=⟨h.ok,h.bd,h.ws,h.fit,h.hm,h.gr⟩
theorem A3.mono{a:Nat}(h:A3 ns rs o bs cl D s)(e:D<=a):A3 ns rs o bs cl a s:=⟨h.b0.mono e,h.ld⟩
theorem A3.call{g x:Nat}{d:RM.Row}(h:A3 ns rs o bs cl D s)(a:BD ns.length rs.length d):A3 ns rs o bs cl D (FD s g x d):=⟨h.b0.call a,h.ld.call⟩
theorem A3.move{x y:Nat}(h:A3 ns rs o bs cl D s)(a:x<cl.length)(b:y<ns.length):A3 ns rs o bs (cl.set x (y,cl[x].2)) D (fF s x y):=⟨h.b0.move a b,h.ld.move (by rw[h.gr,ah];exact a)⟩
theorem A3.post{x:Nat}{to:Option Nat}{os:List Nat}(h:A3 ns rs o bs cl D s)(b:x<s.aD.length)(O:c8 (iI ns rs o s.ws (s.groups.getD x 0)) (s.R (s.groups.getD x 0)) os)(a:os.length<=12):A3 ns rs o bs cl (D+100) (gW rs s x to os):=⟨h.b0.post o b O a,h.ld.post b (by rw[h.bd.gl];exact b) (λc d=>(h.bd.cl c d).1) O⟩
theorem A3.pass{a:Nat}{cp:Cp}{l:LS}{os:List Nat}{ts:List T3}(h:A3 ns rs o bs cl D s)(hl:s.ls[cp.l]?=some l)(b:s.cps[a]?=some cp)(O:c8 (iI ns rs o s.ws l.grp) (s.R l.grp) os)(d:os.length<=12)(p:ts.Perm (put3 (s.ts l.grp) cp.h l.s cp.r))(f:eV ts):A3 ns rs o bs cl (D+100) (gy rs s a cp l os ts):=⟨h.b0.pass o hl (ai.mp b).1 O d p f,h.ld.pass (λc e=>(h.bd.cl c e).1) b hl (h.bd.lb l (aN hl)).2.2.1 O p⟩
inductive Pz(ns:List Int)(rs:List R5)(o:dH ns rs):Nat->NS->NS->Prop
 |refl {s:NS}:Pz ns rs o 0 s s
 |step {n:Nat} {s s':NS} {cp:Cp} {l:LS} {os:List Nat} {ts:List T3}:Pz ns rs o n s s'->s'.cps[0]?=some cp->s'.ls[cp.l]?=some l->c8 (iI ns rs o s'.ws l.grp) (s'.R l.grp) os->os.length<=12->ts.Perm (put3 (s'.ts l.grp) cp.h l.s cp.r)->eV ts->Pz ns rs o (n+1) s (gy rs s' 0 cp l os ts)
theorem Pz.sd{n:Nat}(z:Pz ns rs o n s s')(h:A3 ns rs o bs cl D s):A3 ns rs o bs cl (D+100*n) s':=by
 induction z with
 |refl=>exact h
 |step z a c O b p e d=>exact (d h).pass c a O b p e
theorem Pz.same{n:Nat}(z:Pz ns rs o n s s'):s'.ws=s.ws/\s'.R=s.R/\s'.aD=s.aD/\s'.groups=s.groups/\s'.ls.length=s.ls.length:=by
 induction z with
 |refl=>exact⟨rfl,rfl,rfl,rfl,rfl⟩
 |step z c b O q p r j =>
  obtain⟨h,f,i,e⟩:=KD (rs:=rs) (a:=0) (os:=_) (ts:=_) b;obtain⟨d,m,l,k,g⟩:=j;exact⟨h.trans d,f.trans m,i.trans l,e.trans k,(Wx b).trans g⟩
theorem Pz.j5{n i g num:Nat}{os:List Nat}{E0:List En}(z:Pz ns rs o n s s')(O:c8 (iI ns rs o s.ws g) (s.R g) os)(j:J5 ns rs os i g num E0 s):∃E:List En,E.length=n/\J5 ns rs os i g num (E0++E) s':=by
 induction z with
 |refl=>exact⟨[],rfl,by rw[bZ];exact j⟩
 |step z a f c v p x q =>
  obtain⟨E,m,b⟩:=q O j;obtain⟨k,u,_⟩:=z.same;obtain⟨A,h,y,t,C⟩:=b.lt;have d:=b.all _ (aN a);rw[d,h] at f;cases f;rw[t,k,u] at c;have w:=c.uniq O;subst w;obtain⟨_,e,B,l,r,_⟩:=J5.pass (Fo.of O) b a (by rw[d];exact h);exact⟨E++[e],by rw[aA,m];rfl,by rw[<- eF];exact r⟩
theorem Pz.len{n i g num:Nat}{os:List Nat}{E0:List En}(z:Pz ns rs o n s s')(O:c8 (iI ns rs o s.ws g) (s.R g) os)(j:J5 ns rs os i g num E0 s):E0.length+n+s'.cps.length<=rs.length+1:=by
 obtain⟨E,a,b⟩:=z.j5 O j
 have:=b.len (Fo.of O)
 rw[aA,a] at this;exact this
def Od(i:Nat)(s:NS):Prop:=∃l,s.ls[i]?=some l/\l.old=true
theorem Wz{ls:List LS}{i:Nat}(h:i<ls.length)(l:LS):(ls.set i l)[i]?=some l:=by rw[jO,aq rfl,aq h]
theorem WA{cp:Cp}{l:LS}{os:List Nat}{ts:List T3}(hl:s.ls[cp.l]?=some l)(c:l.old=true):(gy rs s 0 cp l os ts).ts=s.ts/\Od cp.l (gy rs s 0 cp l os ts):=by
 have b:=(ai.mp hl).1;unfold gy;split
 ·obtain⟨d,g⟩:=FF (rs:=rs) (os:=os) (h:=cp.h) (cz:=some cp.r) (qm (a:=0) (os:=os) (ts:=ts) hl)
  rw[g];have e:(bR s 0 cp l os ts).ts=s.ts:=by unfold bR;rw[aq c];rfl
  have f:(bR s 0 cp l os ts).ls.length=s.ls.length:=by unfold bR;rw[aq c];exact br
  exact⟨e,_,Wz (by rw[f];exact b) _,c⟩
 ·exact⟨rfl,_,Wz b _,c⟩
theorem Pz.old{n i g num:Nat}{os:List Nat}{E0:List En}(z:Pz ns rs o n s s')(O:c8 (iI ns rs o s.ws g) (s.R g) os)(j:J5 ns rs os i g num E0 s)(f:Od i s):s'.ts=s.ts/\Od i s':=by
 induction z with
 |refl=>exact⟨rfl,f⟩
 |step z b d u t p w m =>
  obtain⟨l,v,q,k⟩:=m O j f;obtain⟨E,_,r⟩:=z.j5 O j;have c:=r.all _ (aN b);have a:=d;rw[c,q] at a;cases a;obtain⟨h,e⟩:=WA (rs:=rs) (os:=_) (ts:=_) d k;rw[c] at e;exact⟨h.trans l,e⟩
theorem J5.move{i g num x y:Nat}{os:List Nat}{E0:List En}(j:J5 ns rs os i g num E0 s):J5 ns rs os i g num E0 (fF s x y):=by
 unfold fF;split
 ·exact j
 ·obtain⟨l,b,a,c,d⟩:=j.lt
  have h:((s.ls.map (ql (s.groups.getD x 0)))[i]?)=some (ql (s.groups.getD x 0) l):=by rw[ak,b];rfl
  refine⟨j.all,j.wj,_,h,?_,Qi.2.trans c,?_⟩
  ·unfold ql;split <;> exact a
  ·unfold ql;split <;> exact d
theorem KE{x y:Nat}:(fF s x y).ws=s.ws/\(fF s x y).R=s.R/\(fF s x y).groups=s.groups/\(fF s x y).ls.length=s.ls.length/\(fF s x y).cps=s.cps:=by
 unfold fF;split
 ·exact⟨rfl,rfl,rfl,rfl,rfl⟩
 ·exact⟨rfl,rfl,rfl,ah _,rfl⟩
theorem RV{x y:Nat}:(fF s x y).ts=if s.aD[x]?=some y then s.ts else fH s.ts (s.groups.getD x 0) []:=by
 unfold fF;split <;> rfl
theorem YS{i g num x y:Nat}{os:List Nat}{E0:List En}(j:J5 ns rs os i g num E0 s)(a:¬s.aD[x]?=some y)(eg:s.groups.getD x 0=g):Od i (fF s x y):=by
 obtain⟨l,b,d,c,e⟩:=j.lt;unfold fF;rw[b3 a];refine⟨ql (s.groups.getD x 0) l,by show ((s.ls.map (ql (s.groups.getD x 0)))[i]?)=_;rw[ak,b];rfl,?_⟩;unfold ql;rw[aq (c.trans eg.symm)]
structure TR(ns:List Int)(rs:List R5)(o:dH ns rs)(bs:List (List Bool))(cl:List (Nat×Nat))(os:Nat->List Nat)(b:Nat)(Ls:List (Nat×Option Nat))(D:Nat)(s:NS):Prop where
 sd:A3 ns rs o bs cl D s
 aj:AJ ns rs os b Ls s
 op:∀g,g<3->c8 (iI ns rs o s.ws g) (s.R g) (os g)
section
variable{os:Nat->List Nat}{Ls:List (Nat×Option Nat)}{b:Nat}
theorem TR.start(h:A3 ns rs o bs cl D s)(op:∀g,g<3->c8 (iI ns rs o s.ws g) (s.R g) (os g)):TR ns rs o bs cl os s.ls.length [] D s:=by
 have t:∀g,g<3->Fo ns rs (os g):=λg c=>Fo.of (op g c);refine⟨h,⟨t,λg c r q k=>?_,rfl,λg c=>aeJ h.ld c (op g c),λi x v p=>(by cases p)⟩,op⟩;obtain⟨f,w,l,j⟩:=AS (op g c) q;have a:=l;rw[h.ws,ak] at a;cases e:bs[r]? with
 |none=>rw[e] at a;cases a
 |some b =>
  rw[e] at a;cases a;unfold fT dN;rw[l,aa f];show (stand b).getD (k%(stand b).length) 0<rs[r].d.toNat;have n:k%(stand b).length<(stand b).length:=Nat.mod_lt _ (List.length_pos_iff.mpr j);rw[au,aa n];have m:=JT.mp (aM n);have u:=(ai.mp m).1;have y:=h.fit.2 r _ _ (aa f) e;show (stand b)[k%(stand b).length]<_;lia
theorem TR.post{x:Nat}{to:Option Nat}{a:List Nat}(h:TR ns rs o bs cl os b Ls D s)(d:x<s.aD.length)(k:∀y,to=some y->y<s.aD.length/\s.groups[y]?=s.groups[x]?)(O:c8 (iI ns rs o s.ws (s.groups.getD x 0)) (s.R (s.groups.getD x 0)) a)(f:a.length<=12):TR ns rs o bs cl os b (Ls++[(x,to)]) (D+100) (gW rs s x to a):=by
 have j:x<s.groups.length:=by rw[h.sd.bd.gl];exact d
 have g3:s.groups.getD x 0<3:=h.sd.bd.g3 _ (by rw[au,aa j];exact aM j);have n:=O.uniq (h.op _ g3);subst n;obtain⟨e,c,_,_⟩:=Ml (rs:=rs) (h:=s.aD.getD x 0) (cz:=none) (os:=os (s.groups.getD x 0)) (s:=gi s x to) (i:=s.ls.length) (l:={cV s x to with aG:=[.post (s.aD.getD x 0)]}) jK;have e:(gW rs s x to (os (s.groups.getD x 0))).ws=s.ws:=e;have c:(gW rs s x to (os (s.groups.getD x 0))).R=s.R:=c;exact⟨h.sd.post d O f,h.aj.post h.sd.bd rfl d k,λg m=>by rw[e,c];exact h.op g m⟩
theorem TR.pass{a i x:Nat}{to:Option Nat}{cp:Cp}{l:LS}{c:List Nat}{ts:List T3}(h:TR ns rs o bs cl os b Ls D s)(d:s.cps[a]?=some cp)(hl:s.ls[cp.l]?=some l)(j:Ls[i]?=some (x,to))(n:cp.l=b+i)(O:c8 (iI ns rs o s.ws l.grp) (s.R l.grp) c)(e:c.length<=12)(p:ts.Perm (put3 (s.ts l.grp) cp.h l.s cp.r))(f:eV ts):TR ns rs o bs cl os b Ls (D+100) (gy rs s a cp l c ts):=by
 have q:l.grp<3:=(h.sd.bd.lb l (aN hl)).2.2.1;have u:=O.uniq (h.op _ q);subst u;obtain⟨m,k,w,v⟩:=KD (rs:=rs) (a:=a) (os:=os l.grp) (ts:=ts) hl;exact⟨h.sd.pass hl d O e p f,(h.aj.pass h.sd.bd d hl j n p f).2,λg t=>by rw[m,k];exact h.op g t⟩
theorem Pz.z{n g num x:Nat}{to:Option Nat}{d:List Nat}{E0:List En}(z:Pz ns rs o n s s')(O:c8 (iI ns rs o s.ws g) (s.R g) d)(j:J5 ns rs d b g num E0 s)(h:TR ns rs o bs cl os b [(x,to)] D s):TR ns rs o bs cl os b [(x,to)] (D+100*n) s':=by
 induction z with
 |refl=>exact h
 |step z a k e c p m f =>
  obtain⟨E,_,l⟩:=z.j5 O j;exact (f O j h).pass (i:=0) a k rfl (l.all _ (aN a)) e c p m
end
noncomputable def Iz:fR->Bool
 |.hand _ _=>true
 |_=>false
theorem OD{p:Nat->Bool}{y:Nat}:∀n,(az n).filter (λc=>p c&&decide (c=y))=if y<n then (if p y=true then [y] else []) else []
 |0=>rfl
 |n+1=>by
  rw[iF,fP,OD n];by_cases z:y=n
  ·subst z
   rw[b3 (jf _),aq (wU _)];cases e:p y <;> simp[e]
  ·have:List.filter (λc=>p c&&decide (c=y)) [n]=[]:=by simp[bN z]
   rw[this,bZ];by_cases w:y<n
   ·rw[aq w,aq (show y<n+1 by lia)]
   ·rw[b3 w,b3 (show ¬y<n+1 by lia)]
theorem YT{aD a:List Nat}{x y:Nat}(b:y<aD.length)(c:a[y]?=a[x]?)(h:Nat):WX aD a x (some y) h=if h=aD.getD y 0 then [y] else []:=by
 have e:aD.getD y 0=aD[y]:=by rw[au,aa b];rfl
 unfold WX;rw[OD,aq b,e,aa b];by_cases z:h=aD[y]
 ·rw[aq z,aq (cy ⟨by rw[z],c⟩)]
 ·rw[b3 z,b3 (λw=>z (aI (eL w).1).symm)]
theorem KG{hs:Nat->List Nat}{z y:Nat}(H:∀h,hs h=if h=z then [y] else []):∀E:List EE,(E.map (·.e.h)).Nodup->(E.flatMap (EE.Oo hs)).filter Iz=if z∈E.map (·.e.h) then [.hand z y] else []
 |[],_=>rfl
 |x::E,nd=>by
  rw[bH,iG] at nd;have c:(EE.Oo hs x).filter Iz=if x.e.h=z then [.hand z y] else []:=by
   have g:Iz (Wo x.e)=false:=by unfold Wo;split <;> rfl
   have f:(x.gs.map λr=>(fR.send x.e.h r (x.wf r))).filter Iz=[]:=List.filter_eq_nil_iff.mpr λd b=>by
    obtain⟨r,_,rfl⟩:=aP.mp b;exact Bool.noConfusion
   unfold EE.Oo;rw[eB,g,b3 (!_),fP,f,bZ,H];by_cases w:x.e.h=z
   ·rw[aq w,aq w,w];rfl
   ·rw[b3 w,b3 w];rfl
  rw[List.flatMap_cons,fP,c,KG H E nd.2,bH];by_cases w:x.e.h=z
  ·have i:¬z∈E.map (·.e.h):=by rw[<- w];exact nd.1
   have a:z∈x.e.h::E.map (·.e.h):=by rw[w];exact ck
   rw[aq w,b3 i,aq a];rfl
  ·rw[b3 w]
   have:z∈x.e.h::E.map (·.e.h)↔z∈E.map (·.e.h):=by
    rw[be];exact⟨λq=>q.elim (λq=>b5 q.symm w) id,.inr⟩
   by_cases q:z∈E.map (·.e.h)
   ·rw[aq q,aq (this.mpr q)];rfl
   ·rw[b3 q,b3 (λr=>q (this.mp r))];rfl
theorem TR.aeL{os:Nat->List Nat}{b x y:Nat}(h:TR ns rs o bs cl os b [(x,some y)] D s)(j:s.cps=[]):∃l,s.ls[b]?=some l/\(Rw rs (os l.grp) rs.length (s.aD.getD x 0) (s.aD.getD y 0)->l.aG.filter Iz=[.hand (s.aD.getD y 0) y])/\(¬Rw rs (os l.grp) rs.length (s.aD.getD x 0) (s.aD.getD y 0)->l.aG.filter Iz=[])/\s.groups[x]?=some l.grp:=by
 obtain⟨l,E,g,u,i,a,r⟩:=h.aj.li 0 x (some y) rfl;have p:l.grp<3:=(h.sd.bd.lb l (aN g)).2.2.1;have F:=h.aj.fo _ p;obtain⟨n,m⟩:=i.ht y rfl;have k:pend rs s.cps (b+0)=[]:=by rw[j];rfl
 rw[k] at a;have nd:(E.map (·.e.h)).Nodup:=by
  have:=a.wj.nd
  rw[bZ,cX] at this;exact this
 have d:=KG (YT (x:=x) n m) E nd;rw[<- a.ds] at d;refine⟨l,g,λt=>?_,λt=>?_,i.gr⟩
 ·obtain⟨e,f,c⟩:=LJ.YK a t
  rw[d,aq (aP.mpr ⟨e,f,c⟩)]
 ·rw[d,b3 λq=>?_]
  obtain⟨e,f,c⟩:=aP.mp q;exact t (c▸a.abR F e f)
theorem KH{os:List Nat}(F:Fo ns rs os){M:List Int}(L:Gr.U4 (mY rs os) ns.length M){f z:Nat}(l:f<ns.length)(h:z<ns.length):M.length=ns.length/\(M.getD f 0=M.getD z 0↔Rw rs os rs.length f z):=by
 refine⟨L.len,?_⟩;rw[Wy F];obtain⟨a,j,_,d,k⟩:=L.at_ z h;obtain⟨c,i,_,b,g⟩:=L.at_ f l;rw[au,au,j,i];show c=a↔_;constructor
 ·intro e
  subst e;exact b.symm.trans d
 ·intro t
  have m:=k c (t.symm.trans b.symm);have n:=g a (t.trans d.symm);lia
end
section
variable{P:Program}{w:World}{K:af}{mg:Str->Option Value}{base:Heap}
noncomputable abbrev abV(cl:List (Nat×Nat)):List (List V):=cl.map λc=>[.int c.1,.int c.2]
structure DP(K:af)(CT:Addr)(h:Hp)(tp ln lr b0 pl:Addr)(ns:List Int)(rs:List R5)(cl:List (Nat×Nat)):Prop where
 sA:dc K CT h tp ln lr ns rs
 YU:Ll K h b0 rs
 WY:∃qp:List Addr,h pl=some (.lst (qp.map V.ref))/\eO K h qp (abV cl)
 np:pl≠tp/\pl≠ln/\pl≠lr/\pl≠b0
def KP(h h':Hp)(pl:Addr):Prop:=∀b o,h b=some o->b≠pl->h' b=some o
def OE(F:Addr->Prop)(pl:Addr):Addr->Prop:=λb=>F b∨b=pl
section
variable{CT:Addr}{h h' h2:Hp}{tp ln lr b0 pl:Addr}{ns:List Int}{rs:List R5}{cl:List (Nat×Nat)}
theorem KP.of(s:aH h h'):KP h h' pl:=λb o e _=>s b o e
theorem KP.trans(a:KP h h' pl)(b:KP h' h2 pl):KP h h2 pl:=λx o e n=>b x o (a x o e n) n
theorem DP.mono(d:DP K CT h tp ln lr b0 pl ns rs cl)(s:aH h h'):DP K CT h' tp ln lr b0 pl ns rs cl:=by
 obtain⟨a,c,h2⟩:=d.WY;exact⟨d.sA.mono s,d.YU.keep (λo z=>s _ _ z) (λb x=>s.eK),⟨a,s _ _ c,h2.mono λb x=>s.eK⟩,d.np⟩
theorem DP.aib(d:DP K CT h tp ln lr b0 pl ns rs cl){f:List Addr}{x:Nat}{q:Addr}{c:Nat×Nat}(m:h pl=some (.lst (f.map V.ref)))(j:eO K h f (abV cl))(p:c7 K h q [.int c.1,.int c.2]):DP K CT (upd h pl (.lst ((f.map V.ref).set x (.ref q)))) tp ln lr b0 pl ns rs (cl.set x c):=by
 obtain⟨s,l,n,t⟩:=d.np;have g:∀c y,c7 K h c y->c7 K (upd h pl (.lst ((f.map V.ref).set x (.ref q)))) c y:=λc y=>c7.past m lW cQ;refine⟨d.sA.keep (λc o e q=>cQ c o e ?_) g,d.YU.keep (λo e=>cQ _ o e (bN t)) g,⟨f.set x q,by rw[aC,vI],?_⟩,d.np⟩
 ·rcases q with rfl|rfl|rfl
  ·exact bN s
  ·exact bN l
  ·exact bN n
 ·refine⟨by rw[br,j.len];simp,λi r y a b=>?_⟩
  rw[ak] at b;rw[jO] at a b;have u:f.length=cl.length:=by rw[j.len,ah]
  by_cases z:x=i
  ·rw[aq z] at a b
   by_cases k:i<cl.length
   ·rw[z,aq ∅] at a
    rw[z,aq k] at b;cases a;cases b;exact g _ _ p
   ·rw[z,b3 ∅] at a
    cases a
  ·rw[b3 z] at a b
   exact g _ _ (j.at' i r y a (by rw[ak];exact b))
theorem _root_.TW.dF.past{c:NC}{H:Hp}{F:Addr->Prop}{p:Addr}{n:Nat}{s:NS}(N:dF K c H F p tp n s){z:Addr}{u o:HO}(f:Off H F z=some u)(g:vW u):dF K c (upd H z o) F p tp n s:=by
 obtain⟨nf,a⟩:=jY f;exact N.keep (λb v e d=>cQ b v e λw=>nf (w▸d)) (λb x=>c7.past a g cQ)
theorem KP.upd{H:Hp}{F:Addr->Prop}{o u:HO}(a:Off H F pl=some u):KP (Off H F) (Off (upd H pl o) F) pl:=λb v e n=>by
 rw[Q3 (jY a).1];exact cQ b v e n
theorem DP.mut{p:Addr}{c:NC}{H:Hp}{F:Addr->Prop}{n:Nat}{s:NS}(N:dF K c H F p tp n s)(d:DP K CT (Off H F) tp ln lr b0 pl ns rs cl):ID H (OE F pl):=λb z=>by
 rcases z with z|rfl
 ·obtain⟨o,h⟩:=N.there z
  exact⟨o,h,N.M2 z h⟩
 ·obtain⟨e,a,_⟩:=d.WY
  exact⟨_,cF _ _ a,lW⟩
theorem KP.big{H a:Hp}{F d:Addr->Prop}(k:KP (Off H F) (Off a d) pl):aH (Off H (OE F pl)) a:=λb o e=>by
 obtain⟨c,h2⟩:=jY e;exact cF _ _ (k b o (iZ (λz=>c (.inl z)) h2) λz=>c (.inr z))
end
inductive IA(K:af)(CT:Addr)(c:NC)(vs:List V)(H:Hp)(Q:VK)(E:XK):Prop
 |mk (F:Addr->Prop) (p tp ln lr:Addr) (ns:List Int) (rs:List R5) (o:dH ns rs) (bs:List (List Bool)) (cl:List (Nat×Nat)) (D:Nat) (s:NS) (g:Nat):vs=[.ref p,.int (ns.length:Nat),.int g]->NW K c CT H F p tp ln lr ns rs s->A3 ns rs o bs cl D s->g<3->(∀s' F' H',NW K c CT H' F' p tp ln lr ns rs s'->A3 ns rs o bs cl D s'->Step H F H' F'->Q .fM H')->IA K CT c vs H Q E
theorem OF{t:Ad}(T:Txt K mg t):cE P w K mg base iS 5 t.sR t.xM ["_law_net","_law_size","_law_group"]  (IA K t.bu (nc t)):=by
 refine T.Ho.F.kq zI λH Q E hr h=>?_
 ·obtain⟨F,p,A,I,J,ns,y,o,U,M,D,st,g,rfl,N,X,hg,k⟩:=h
  refine⟨_,(bL (fS (eS rfl T.gv (gz (bx By aE (pv 1)))) (gT 3 zI) (bL (fS (eS rfl T.gv (gz (pv 1))) (gT 4 zI) (oE (cM (pv 0) T.bD T.Hh (Oc T) hr (rA (bx dZ (bx gm (pv 4) (pv 3)) (pv 1)) (pv 2)))))))),?_⟩
  left
  have jb:=o.jb;have n1:=o.n1;refine⟨_,rfl,_,_,rfl,rfl,.inl ⟨!_,!_⟩,2*(ns.length:Int),rfl,∅,∅,vN (n:=(2*(ns.length:Int)).toNat) (λi c u=>∃(m:NS) (l:Addr->Prop) (B e:Option V),NW K (nc t) t.bu u l p A I J ns y m/\A3 ns y o U M D m/\Step H F u l/\c=[some (.ref p),some (.int (ns.length:Nat)),some (.int g),B,e]) ⟨st,F,_,_,N,X,Step.refl' (aH.refl _),rfl⟩ ?_ ?_⟩
  ·rintro i c u hi ⟨m,l,B,e,C,L,b,rfl⟩
   refine⟨_,rfl,(ns.length:Int),rfl,∅,∅,vN (n:=(ns.length:Int).toNat) (λj c z=>∃(s:NS) (r:Addr->Prop) (e:Option V),NW K (nc t) t.bu z r p A I J ns y s/\A3 ns y o U M D s/\Step H F z r/\c=[some (.ref p),some (.int (ns.length:Nat)),some (.int g),some (.int (0+(i:Int))),e]) ⟨m,l,_,C,L,b,rfl⟩ ?_ ?_⟩
   ·rintro j c z hj ⟨s,r,e,v,a,f,rfl⟩
    obtain⟨loc,dx,q,hp,O,hF,hT⟩:=id v.dO;have S:=O.get .dO _ rfl;rw[hp] at S;have G:(0:Int)<=(0+(j:Int)+(0+(i:Int)))%(ns.length:Int):=bT _ ∅;have Y:(0+(j:Int)+(0+(i:Int)))%(ns.length:Int)<(ns.length:Int):=cu _ ∅;obtain⟨x,W⟩:∃x:Nat,(0+(j:Int)+(0+(i:Int)))%(ns.length:Int)=(x:Int):=⟨_,(Int.toNat_of_nonneg G).symm⟩;have Z:x<ns.length:=∅
    refine⟨_,rfl,p,_,_,rfl,S,rfl,_,rfl,_,rfl,_,_,rfl,rfl,_,rfl,_,_,rfl,rfl,∅,?_⟩
    try dsimp only
    rw[W];refine⟨_,rfl,r,p,A,I,J,ns,y,s,o,x,g,rfl,v,a.ok,Z,hg,λd F4 H4 hd hf N4 R=>?_⟩;exact⟨_,F4,_,v.done R N4,a.call hf,f.trans R,rfl⟩
   ·rintro c z ⟨s,r,e,v,a,f,rfl⟩
    exact⟨s,r,_,_,v,a,f,rfl⟩
  ·rintro c u ⟨m,l,B,e,C,L,b,rfl⟩
   exact k m l u C L b
inductive KI(K:af)(CT:Addr)(c:NC)(vs:List V)(H:Hp)(Q:VK)(E:XK):Prop
 |mk (F:Addr->Prop) (p tp ln lr b0:Addr) (ns:List Int) (rs:List R5) (o:dH ns rs) (bs:List (List Bool)) (cl:List (Nat×Nat)) (D:Nat) (s:NS) (m:Nat):vs=[.ref p,.ref b0,.int m]->Ll K (Off H F) b0 rs->NW K c CT H F p tp ln lr ns rs s->A3 ns rs o bs cl D s->D<=300000->(∀(n:Nat) s' F' H',Pz ns rs o n s s'->(min m (2*rs.length)<=n∨s'.cps=[])->NW K c CT H' F' p tp ln lr ns rs s'->Step H F H' F'->Q .fM H')->KI K CT c vs H Q E
theorem Cs{t:Ad}(T:Txt K mg t):cE P w K mg base iS 9 t.wu t.AK ["_law_net","_law_ropes_here","_law_many"]  (KI K t.bu (nc t)):=by
 refine T.AO.F.kq G9 λH Q E R h=>?_
 ·obtain⟨F,p,tp,ln,lr,b0,ns,rs,o,bs,cl,D,st,c,rfl,hR,W,sd,hD,k⟩:=h
  refine⟨_,(bL (fS (eS rfl T.gv (gz (cB (JG rfl) T.VT boot_min (rA (pv 2) (bx By aE (lS T.iP (pv 1))))))) (gT 3 G9) (bL (cT (qT GB (kN (pv 0) T.bD T.xR.m (JA T) (R.mono (!_)) T.xR.B .nil mK) (jB iz)) (oE (kN (pv 0) T.bD T.Jc (Ir T) (R.mono (!_)) T.Jb (show cD [V.int 0] [_] from .cons ⟨_,rfl⟩ .nil) mK)) bB)))),?_⟩
  left
  obtain⟨us,U,Pr⟩:=hR;have hB:=cF _ _ U;have Ue:us.length=rs.length:=by rw[Pr.len,ah]
  have WC:(((us.map V.ref).length:Nat):Int)=(rs.length:Int):=by rw[ah,Ue]
  have Ub:=o.Ub;refine⟨_,rfl,_,rfl,b0,_,rfl,.inl (bQ.of hB),_,_,rfl,rfl,.inl ⟨!_,!_⟩,_,_,rfl,?_⟩
  try dsimp only
  rw[WC];have ev:(if 2*(rs.length:Int)<(c:Int) then 2*(rs.length:Int) else (c:Int))=((min c (2*rs.length):Nat):Int):=by split <;> lia
  refine⟨((min c (2*rs.length):Nat):Int),by rw[<- ev],∅,∅,vN (D:={nx:=λ_ C=>Q V.fM C,rt:=Q,bk:=λ_ _=>True,ct:=λ_ _=>True}) (n:=((min c (2*rs.length):Nat):Int).toNat) (λi σ C=>∃(n:Nat) (L:NS) (F2:Addr->Prop) (Y:Option V),Pz ns rs o n st L/\n<=i/\(n=i∨L.cps=[])/\NW K (nc t) t.bu C F2 p tp ln lr ns rs L/\Step H F C F2/\σ=[some (.ref p),some (.ref b0),some (.int (c:Nat)),Y]) ⟨0,st,F,_,.refl,aB _,.inl rfl,W,Step.refl' (aH.refl _),rfl⟩ ?_ ?_⟩
  ·rintro i σ H4 hi ⟨n,d,j,Y,y,hn,Z,f,I,rfl⟩
   have hi':i<40:=∅
   obtain⟨loc,gh,q,hp,O,hF,hT⟩:=id f.dO;have bP:=O.get .dO _ rfl;rw[hp] at bP;have N:=y.sd sd;refine⟨_,rfl,p,_,_,rfl,bP,rfl,j,p,tp,ns.length,d,rfl,f.dO,λlf qf H5 s5 amH J S=>?_⟩;refine⟨bI _,λb hb=>?_⟩;have G:=aH.new (o:=.lst []) hb;have g:=aC (H:=H5) (a:=b) (o:=.lst []);generalize upd H5 b (.lst [])=H6 at G g;have aic:eO K H6 qf ((d.cps.map t7).map λx=>x.map V.int):=by
    rw[<- abT];exact S.mono λb x z=>G.eK z
   refine⟨.list ((d.cps.map t7).map Qj),.list [],⟨lf,_,rfl,bQ.of (G _ _ J),Ow aic⟩,⟨b,[],rfl,bQ.of g,rfl⟩,Ox _,rfl,bO (cJ (aU (fN _ _) (by show PyData.depthAll _+1<=64;have:=KA (d.cps.map t7);lia)) _) R.units,_,rfl,?_⟩;rw[YQ];have s:=s5.trans G;cases v:d.cps with
   |nil=>exact gD ⟨n,d,j,_,y,∅,.inr v,f.mono s,I.trans (Step.refl' s),rfl⟩
   |cons c0 cs0 =>
    rw[<- v]
    have:((d.cps.map t7).map Qj).isEmpty=false:=by rw[v];rfl
    rw[this];refine iC ?_;have r:0<d.cps.length:=by rw[v];exact Nat.zero_lt_succ _
    have e:d.cps[0]?=some d.cps[0]:=aa r;have u:=(N.bd.cl _ (aM r)).1;generalize d.cps[0]=cp at e u;have A:d.ls[cp.l]?=some d.ls[cp.l]:=aa u;refine⟨_,rfl,p,_,_,rfl,s _ _ bP,rfl,j,p,tp,ln,lr,ns,rs,d,o,0,D+100*n,cp,_,rfl,f.mono s,N.ok,N.bd,∅,e,A,λos ts F8 H8 hO X M oe W8 Wj=>?_⟩;refine⟨n+1,_,F8,_,.step y e A hO X M oe,∅,.inl ?_,W8,I.trans ((Step.refl' s).trans Wj),rfl⟩;rcases Z with z|z
    ·lia
    ·rw[v] at z;cases z
  ·rintro σ H4 ⟨n,d,j,Y,y,hn,Z,f,I,rfl⟩
   refine k n d j H4 y ?_ f I;rcases Z with z|z
   ·exact .inl ∅
   ·exact .inr z
noncomputable def aeN(w:List Nat):PyData:=.list ((w.map λk:Nat=>(k:Int)).map .int)
noncomputable def dR(n:Nat)(s:NS)(g:Nat)(os:List Nat):PyData:=.list [RM.GH n (s.R g),aeN os]
noncomputable def TU(us:List T3):PyData:=.list (us.map ZX)
theorem WE{n:Nat}{s:NS}{os:Nat->List Nat}:∀l:List Nat,PyData.canLayAll0 (l.map λg=>dR n s g (os g))=true
 |[]=>rfl
 |g::l=>by
  show (((RM.GH n (s.R g)).canLay0&&(PyData.canLayAll0 (((os g).map λk:Nat=>(k:Int)).map .int)&&true))&&PyData.canLayAll0 (l.map λg=>dR n s g (os g)))=true;rw[RM.SH,jX,WE l];rfl
theorem RW{n:Nat}{s:NS}{os:Nat->List Nat}:∀l:List Nat,PyData.depthAll (l.map λg=>dR n s g (os g))<=4
 |[]=>bI _
 |g::l=>by
  show max (max (RM.GH n (s.R g)).depth (max (PyData.depthAll (((os g).map λk:Nat=>(k:Int)).map .int)+1) 0)+1) (PyData.depthAll (l.map λg=>dR n s g (os g)))<=4;have a:=RM.Pd n (s.R g);have b:=oz ((os g).map λk:Nat=>(k:Int))
  have:=RW (n:=n) (s:=s) (os:=os) l
  lia
theorem WG:∀l:List (List T3),PyData.canLayAll0 (l.map TU)=true
 |[]=>rfl
 |u::l=>by
  show (PyData.canLayAll0 (u.map ZX)&&PyData.canLayAll0 (l.map TU))=true;rw[OA,WG l];rfl
theorem RX:∀l:List (List T3),PyData.depthAll (l.map TU)<=2
 |[]=>bI _
 |u::l=>by
  show max (PyData.depthAll (u.map ZX)+1) (PyData.depthAll (l.map TU))<=2
  have:=KC u
  have:=RX l
  lia
theorem bS.put{H:Hp}{d:PyData}{v:V}(h:Rep K H d v):∀{ds:List PyData} {vs:List V} {i:Nat},bS K H ds vs->bS K H (ds.set i d) (vs.set i v)
 |[],_,_,e=>by cases e;rfl
 |_::_,_,0,e=>by
  obtain⟨b,vs,rfl,_,a⟩:=e;exact⟨v,vs,rfl,h,a⟩
 |_::_,_,i+1,e=>by
  obtain⟨b,vs,rfl,c,a⟩:=e;exact⟨b,vs.set i v,rfl,c,bS.put h a⟩
theorem Z0{t:Ad}(T:Txt K mg t){τ:L2.St}{H:Hp}{Q:VK}{F:Addr->Prop}{p tp ln lr:Addr}{ns:List Int}{rs:List R5}{s:NS}(o:dH ns rs)(W:NW K (nc t) t.bu H F p tp ln lr ns rs s)(Dv:BE ns rs s)
 (k:∀la (os:Nat->List Nat) H',aH H H'->H la=none->(∀g,g<3->c8 (iI ns rs o s.ws g) (s.R g) (os g))->Dt K H H' (.list ((az 3).map λg=>dR ns.length s g (os g))) (.ref la)->Q (.ref la) H') :
 QN (Uw (fz (tC (V.int 3)) vP)) [none,some 0] (iB 0) U0 (ac9 (fz (yV t.cN "rows" (Mc K (nc t)) [] E0 (Bv 1) (fz (Bv 0) vP)) (fz (yV t.cN "opens" (Io K t.bu (nc t)) [] E0 (Bv 1) (fz (Bv 0) vP)) vP))) (some (.ref p)::τ) H Q:=by
 obtain⟨loc,gh,q,hp,O,hF,hT⟩:=id W.dO;have Y:=O.get .dO _ rfl;rw[hp] at Y;refine⟨3,rfl,!_,!_,λv I=>?_⟩;refine fX (n:=(3:Int).toNat) (λi P M=>∃(as:List Addr) (c:List (List Nat)),P=as.map V.ref/\as.length=i/\c.length=i/\(∀(m:Nat) os,c[m]?=some os->c8 (iI ns rs o s.ws m) (s.R m) os)/\∀G,ID H G->bS K (Off M λb=>G b∨b=v) ((az i).map λg=>dR ns.length s g (c.getD g [])) (as.map V.ref)) I w6 mW ⟨[],[],rfl,rfl,rfl,λm l z=>(by simp at z),λG _=>rfl⟩ ?_ ?_
 ·rintro i P M hi j L ⟨as,c,rfl,X,w,r,d⟩ x H9 ⟨rfl,rfl⟩
  rw[fU];have A:i<3:=hi;refine⟨_,rfl,p,_,_,rfl,j _ _ Y,rfl,_,rfl,F,p,tp,ns.length,i,s,rfl,W.dO.mono j,A,λJ qr T7 D S N htr=>?_⟩;have B:=j.trans D;refine⟨_,rfl,p,_,_,rfl,B _ _ Y,rfl,_,rfl,F,p,tp,ln,lr,ns,rs,s,o,i,rfl,W.mono B,Dv,A,λlo os C h Tr hlo hO h12=>?_⟩;refine⟨e8,λE O6=>?_⟩;have f:=aH.new (o:=.lst [V.ref J,V.ref lo]) O6;have y:=aC (H:=C) (a:=E) (o:=.lst [V.ref J,V.ref lo]);generalize upd C E (.lst [V.ref J,V.ref lo])=lQ at f y;have u:=D.trans (h.trans f);have U:=u _ _ L;refine d8 I hi (j.trans u) U (by rw[ah,X];exact cP ∅) ⟨as++[E],c++[os],by rw[aS];rfl,by rw[aA,X];rfl,by rw[aA,w];rfl,λm Z z=>?_,λG m=>?_⟩
  ·rcases AB z with z|⟨rfl,rfl⟩
   ·exact r m Z z
   ·rw[w];exact hO
  ·rw[Qk (G:=λb=>G b∨b=v) (.inr rfl),aS,iF,aS]
   have e:=(m.mono j).or L;have r1:Rep K (Off lQ λb=>G b∨b=v) (RM.GH ns.length (s.R i)) (.ref J):=(((htr.mono λb x=>(e.mono D).XS).Lk (bQ.of (iZ (e.free S) N))).data).mono (cR (h.trans f));have r2:Rep K (Off lQ λb=>G b∨b=v) (aeN os) (.ref lo):=Rep.mono (cR f) (Rep.ints (iX os▸bQ.of (iZ ((e.mono D).free Tr) hlo)));have r0:Rep K (Off lQ λb=>G b∨b=v) (dR ns.length s i os) (.ref E):=⟨E,_,rfl,bQ.of (iZ ((e.mono (D.trans h)).free O6) y),⟨_,_,rfl,r1,_,_,rfl,r2,rfl⟩⟩;have eo:(c++[os]).getD i []=os:=by rw[au,bC ∅,w,fE];rfl
   have em:(az i).map (λg=>dR ns.length s g ((c++[os]).getD g []))=(az i).map λg=>dR ns.length s g (c.getD g []):=cK λg hg=>by
    have:=c5.mp hg
    rw[au,aY ∅,au]
   rw[em];refine bS.snoc ((d G m).mono (cR u)) ?_;show Rep K _ (dR ns.length s i ((c++[os]).getD i [])) _;rw[eo];exact r0
 ·rintro P M j L ⟨as,c,rfl,X,w,r,d⟩
  have e2':c.length=3:=w;refine k v (λg=>c.getD g []) M j I (λg hg=>r g _ ?_) λG m=>⟨v,_,rfl,bQ.of (iZ (m.free I) L),(d G m).mono (Q5 λb z=>.inl z)⟩;rw[au,aa ∅];rfl
theorem Z2{t:Ad}(T:Txt K mg t){τ:L2.St}{H:Hp}{Q:VK}{F:Addr->Prop}{p X:Addr}{n:Nat}{s:NS}(N:dF K (nc t) H F p X n s)(R:∀g,(s.ts g).length<2000)
 (k:∀la (as:List Addr) (c:List (List T3)) H',aH H H'->H la=none->H' la=some (.lst (as.map V.ref))->as.length=3->c.length=3->(∀(m:Nat) us,c[m]?=some us->pq us/\us.Perm (s.ts m))->(∀G,ID H G->bS K (Off H' λb=>G b∨b=la) (c.map TU) (as.map V.ref))->Q (.ref la) H') :
 QN (Uw (fz (tC (V.int 3)) vP)) [none,some 0] (iB 0) U0 (yV t.cN "notes" (Ip K (nc t)) [] E0 (Bv 1) (fz (Bv 0) vP)) (some (.ref p)::τ) H Q:=by
 obtain⟨loc,gh,q,hp,O,hF,hT⟩:=id N;have Z:=O.get .dO _ rfl;rw[hp] at Z;refine⟨3,rfl,!_,!_,λr E=>?_⟩;refine fX (n:=(3:Int).toNat) (λi D v=>∃(as:List Addr) (c:List (List T3)),D=as.map V.ref/\as.length=i/\c.length=i/\(∀(m:Nat) us,c[m]?=some us->pq us/\us.Perm (s.ts m))/\∀G,ID H G->bS K (Off v λb=>G b∨b=r) (c.map TU) (as.map V.ref)) E w6 mW ⟨[],[],rfl,rfl,rfl,λm l z=>(by simp at z),λG _=>rfl⟩ ?_ ?_
 ·rintro i D v Y f w ⟨as,c,rfl,y,A,M,d⟩ x H9 ⟨rfl,rfl⟩
  rw[fU];have J:i<3:=Y;refine⟨_,rfl,p,_,_,rfl,f _ _ Z,rfl,_,rfl,F,p,X,n,i,s,rfl,N.mono f,J,R i,λL qs5 h B e C S o P U=>?_⟩;have I:=e _ _ w;refine d8 E Y (f.trans e) I (by rw[ah,y];exact cP ∅) ⟨as++[L],c++[h],by rw[aS];rfl,by rw[aA,y];rfl,by rw[aA,A];rfl,λm W z=>?_,λG m=>?_⟩
  ·rcases AB z with z|⟨rfl,rfl⟩
   ·exact M m W z
   ·rw[A];exact⟨U,P⟩
  ·rw[Qk (G:=λb=>G b∨b=r) (.inr rfl),aS,aS]
   have j:=(m.mono f).or w;have r3:Rep K (Off B λb=>G b∨b=r) (TU h) (.ref L):=⟨L,_,rfl,bQ.of (iZ (j.free C) S),Oz ⟨o.1,λi q u a b=>(j.mono e).XS (o.2 i q u a b)⟩⟩;exact bS.snoc ((d G m).mono (cR e)) r3
 ·rintro D v f w ⟨as,c,rfl,y,A,M,d⟩
  exact k r as c v f E w y A M d
noncomputable def RY(f:Prop)[Decidable f](g:Nat)(Cu:List (List T3)):List (List T3):=if f then Cu.set g [] else Cu
theorem abZ{s:NS}{x y:Nat}{a c:List (List T3)}(o:∀(m:Nat) us,a[m]?=some us->pq us/\us.Perm (s.ts m))(v:∀(m:Nat) us,c[m]?=some us->pq us/\us.Perm ((fF s x y).ts m))(u:a.length=3)(r:c.length=3){f:Prop}[Decidable f](h:f↔¬s.aD[x]?=some y):c=RY f (s.groups.getD x 0) a:=by
 have n:(RY f (s.groups.getD x 0) a).length=3:=by unfold RY;split <;> simp[u]
 refine wW (r.trans n.symm) λm A p=>?_;obtain⟨g,a2⟩:=v m c[m] (aa A);have t:m<a.length:=∅
 obtain⟨d,i⟩:=o m a[m] (aa t);rw[RV] at a2;have e:∀L:List (List T3),L=RY f (s.groups.getD x 0) a->∀k:m<L.length,c[m]=L[m]:=λL b k=>by
  unfold RY at b;by_cases z:f
  ·rw[aq z] at b
   rw[b3 (h.mp z)] at a2;subst b;rw[List.getElem_set];by_cases w:s.groups.getD x 0=m
   ·rw[aq w]
    have l:fH s.ts (s.groups.getD x 0) [] m=[]:=by rw[w];exact cC
    rw[l] at a2;exact List.Perm.eq_nil a2
   ·rw[b3 w]
    rw[dQ (bN w)] at a2;exact CM (a2.trans i.symm) g d
  ·rw[b3 z] at b
   have j:s.aD[x]?=some y:=Classical.byContradiction λq=>z (h.mpr q);rw[aq j] at a2;subst b;exact CM (a2.trans i.symm) g d
 exact e _ rfl p
inductive KJ(K:af)(CT:Addr)(c:NC)(vs:List V)(H:Hp)(Q:VK)(E:XK):Prop
 |mk (F:Addr->Prop) (p tp ln lr b0 pl:Addr) (ns:List Int) (rs:List R5) (o:dH ns rs) (bs:List (List Bool)) (cl:List (Nat×Nat)) (D:Nat) (s:NS) (x y:Nat) (hx:x<cl.length):vs=[.ref p,.int cl[x].2,.int x,.int y,.ref pl]->dF K c H F p tp ns.length s->DP K CT (Off H F) tp ln lr b0 pl ns rs cl->A3 ns rs o bs cl D s->D<=90000->y<ns.length->(∀(os:Nat->List Nat) F' H',(∀g,g<3->c8 (iI ns rs o s.ws g) (s.R g) (os g))->dF K c H' F' p tp ns.length (fF s x y)->DP K CT (Off H' F') tp ln lr b0 pl ns rs (cl.set x (y,cl[x].2))->KP (Off H F) (Off H' F') pl->Q (.bl true) H')->KJ K CT c vs H Q E
theorem Ql{t:Ad}(T:Txt K mg t):cE P w K mg base iS 7 t.wz t.AL ["_law_net","_law_group","_law_caller","_law_house","_law_places"]  (KJ K t.bu (nc t)):=by
 refine T.J6.F.kq i6 λH Q E A h=>?_
 ·obtain⟨F,p,tp,ln,lr,b0,j,ns,rs,o,bs,cl,D,st,x,y,hx,rfl,N,dx,C,hD,hy,k⟩:=h
  refine⟨_,(av (ou (i:=5) i6.nd rfl (Or.inl rfl) (kO i6 ["_law_one","_law_net"] [none,some 0]) rfl (eS rfl T.gv (gz aE)) (λ_ _ _ _=>by exact (gS 0 IV)) (λ_ _ _ _=>by exact iD) (λ_ _ _ _=>by exact (jB (rA (cM (pv 1) T.bD T.mC (mO T) A (gz (pv 0))) (cM (pv 1) T.bD T.qi (rX T) A (gz (pv 0))))))) (av (ou (i:=6) i6.nd rfl (Or.inl rfl) (kO i6 ["_law_one","_law_net"] [none,some 0]) rfl (eS rfl T.gv (gz aE)) (λ_ _ _ _=>by exact (gS 0 IW)) (λ_ _ _ _=>by exact iD) (λ_ _ _ _=>by exact (cM (pv 1) T.bD T.uF (yr T) A (gz (pv 0))))) (av (cT (qT uf (xT (xL (pv 4) (pv 2)) aE) (pv 3)) (bL (KZ (jB iz) (KY (pv 6) (pv 1) set_list))) bB) (av (dm (cM (pv 0) T.bD T.Hi (Oe T) A (rA (pv 2) (pv 3)))) (av (KZ (iH (rA (pv 3) (pv 1))) (KY (pv 4) (pv 2) set_list)) (av (cT (qT GB (gq (kO i6 ["_law_one","_law_net"] [none,some 0]) rfl (eS rfl T.gv (gz aE)) (λ_ _ _ _=>by exact (gS 0 IX)) (λ_ _ _ _=>by exact iD) (λ_ _ _ _=>by exact (jB (rA (cM (pv 1) T.bD T.mC (mO T) A (gz (pv 0))) (cM (pv 1) T.bD T.qi (rX T) A (gz (pv 0))))))) (pv 5)) oB bB) (av (cT (qT GB (gq (kO i6 ["_law_one","_law_net"] [none,some 0]) rfl (eS rfl T.gv (gz (lS T.iP (pv 4)))) (λ_ _ _ _=>by exact (gS 0 IY)) (λ_ _ _ _=>by exact iD) (λ_ _ _ _=>by exact (cM (pv 1) T.bD T.E4 (Me T) A (gz (pv 0))))) (gq (kO i6 ["_law_place"] [none]) rfl (ir (pv 4)) (λ_ _ _ _=>by exact (gS 0 IZ)) (λ_ _ _ _=>by exact iD) (λ_ _ _ _=>by exact (yT K (pv 0) aE)))) oB bB) (oR (qE DK (gq (kO i6 ["_law_one","_law_net"] [none,some 0]) rfl (eS rfl T.gv (gz aE)) (λ_ _ _ _=>by exact (gS 0 I0)) (λ_ _ _ _=>by exact iD) (λ_ _ _ _=>by exact (cM (pv 1) T.bD T.uF (yr T) A (gz (pv 0))))) (pv 6)))))))))),?_⟩
  left
  have W:NW K (nc t) t.bu H F p tp ln lr ns rs st:=dx.sA.nw N λb z=>z;have h2k:∀g,(st.ts g).length<2000:=λg=>by
   have:=(C.bd.tb g).1
   lia
  have pe:x<st.aD.length:=by rw[C.hm,ah];exact hx
  have IK:st.aD[x]?=some cl[x].1:=by rw[C.hm,ak,aa hx];rfl
  have jq:st.groups.getD x 0=cl[x].2:=by rw[C.gr,au,ak,aa hx];rfl
  have g3:cl[x].2<3:=C.bd.g3 _ (by rw[C.gr];exact bV (aM hx));refine b4 λNx u=>?_;refine Z0 T o W C.ok λla os H1 s1 Yz hos hdt=>?_;refine u _ _ ?_;have mu:=dx.mut N;have rp1:=hdt _ mu;have Z:=mu.mono s1;refine b4 λNx u=>?_;refine Z2 T (N.mono s1) h2k λB as S H2 s2 aeR U eas Ue Pr hrep=>?_;refine u _ _ ?_;have rn2:=hrep _ Z;have nlb:=Z.free aeR;obtain⟨qp,EK,A4⟩:=dx.WY;have hpl:=cF _ _ EK;have hqp:=A4.mono λb x z=>cF.eK z;have W0:qp.length=cl.length:=by rw[hqp.len,ah]
  have aeS:FG (qp.map V.ref) (x:Int)=some (.ref (qp[x]'∅)):=fD (by rw[ak,aa];rfl);have hqx:=hqp.at' x (qp[x]'∅) [.int cl[x].1,.int cl[x].2] (aa _) (by rw[ak,aa hx];rfl);have Rk:=s1.trans s2;refine um (λσ M=>aH H1 M/\∃vs,M B=some (.lst vs)/\bS K (Off M λb=>OE F j b∨b=B) ((RY (¬cl[x].1=y) cl[x].2 S).map TU) vs/\σ=[some (.ref p),some (.int (cl[x].2:Nat)),some (.int (x:Nat)),some (.int (y:Nat)),some (.ref j),some (.ref la),some (.ref B)]) ?_ (λN' hN=>?_)
  rotate_left
  ·refine⟨_,rfl,_,rfl,j,_,_,_,rfl,rfl,bQ.of (Rk _ _ hpl),aeS,_,_,0,_,rfl,rfl,Rk.eK hqx,rfl,_,rfl,rfl,_,rfl,?_⟩
   by_cases e:cl[x].1=y
   ·rw[e,cy rfl]
    refine gD (hN _ _ ⟨s2,_,U,?_,rfl⟩);unfold RY;rw[b3 λz=>z e];exact rn2
   ·have:decide (V.int ((cl[x].1:Nat):Int)=V.int (y:Int))=false:=c6 λz=>e (by have:=V.int.inj z;lia)
    rw[this];refine iC ⟨bI _,λb hb=>?_⟩;have u3:=aH.new (o:=.lst []) hb;have hb3:=aC (H:=H2) (a:=b) (o:=.lst []);generalize upd H2 b (.lst [])=M at u3 hb3;have YV:=u3 _ _ U;have ne:b≠B:=(aQ U hb).symm;refine⟨_,rfl,_,rfl,B,_,_,cl[x].2,rfl,rfl,YV,(by rw[ah,eas];exact CK g3),hN _ _ ⟨λc v h=>?_,_,aC,?_,rfl⟩⟩
    ·have:c≠B:=λz=>by rw[z,aeR] at h;cases h
     rw[aK this];exact u3 _ _ (s2 _ _ h)
    ·unfold RY
     rw[aq e,vI,Qk (G:=λb=>OE F j b∨b=B) (.inr rfl)];have nb:¬(OE F j b∨b=B):=λz=>z.elim ((Z.mono s2).free hb) ne;have rb:Rep K (Off M λb=>OE F j b∨b=B) (TU []) (.ref b):=⟨b,[],rfl,bQ.of (iZ nb hb3),rfl⟩;exact bS.put rb (rn2.mono (cR u3))
  rintro σ M ⟨Yk,vs,YV,rn3,rfl⟩;have L:=s1.trans Yk;have rp3:=rp1.mono (cR (F:=OE F j) Yk);have nt3:Rep K (Off M (OE F j)) (.list ((RY (¬cl[x].1=y) cl[x].2 S).map TU)) (.ref B):=⟨B,vs,rfl,bQ.of (iZ nlb YV),rn3.mono (Q5 λb z=>.inl z)⟩;have N3:=N.mono L;have Qf:=dx.mono (cR (F:=F) L);have W3:=W.mono L;obtain⟨loc,gh,q,hp,O,hF,hT⟩:=id N3;have bP:=O.get .dO _ rfl;rw[hp] at bP;refine b4 λNx u=>?_;refine⟨_,rfl,p,_,_,rfl,bP,rfl,_,rfl,_,rfl,F,p,tp,ln,lr,ns,rs,st,x,y,rfl,W3,pe,C.bd.gl,C.bd.g3,hy,λr H4 W4 AX=>u _ _ ?_⟩;have S4:=iJ AX;have WW:=Qf.mono S4;have N4:=W4.dO;obtain⟨J,aeT,ab0⟩:=WW.WY;have amM:J.length=cl.length:=by rw[ab0.len,ah]
  refine b4 λNx u=>?_;refine⟨_,rfl,_,rfl,e8,λa ha=>?_⟩;have u5:=aH.new (o:=.tup [V.int y,V.int (cl[x].2:Nat)]) ha;have ha5:=aC (H:=H4) (a:=a) (o:=.tup [V.int y,V.int (cl[x].2:Nat)]);generalize upd H4 a (.tup [V.int y,V.int (cl[x].2:Nat)])=H5 at u5 ha5;have N5:=N4.mono u5;have tS:=WW.mono (cR (F:=r) u5);have TV:=cR (F:=r) u5 _ _ aeT;have aeU:=ab0.mono λb x=>(cR (F:=r) u5).eK (a:=b) (xs:=x);refine⟨_,rfl,_,rfl,j,_,_,x,rfl,rfl,cF _ _ TV,(by rw[ah];exact CK ∅),u _ _ ?_⟩;have N6:=N5.past (o:=.lst ((J.map V.ref).set x (.ref a))) TV lW;have WH:=tS.aib (x:=x) (c:=(y,cl[x].2)) TV aeU (N5.XS (c7.of ha5));rw[<- Q3 (jY TV).1] at WH;have Hx:KP (Off H5 r) (Off (upd H5 j (.lst ((J.map V.ref).set x (.ref a)))) r) j:=KP.upd TV;generalize upd H5 j (.lst ((J.map V.ref).set x (.ref a)))=H6 at N6 WH Hx;have YW:KP (Off M F) (Off H6 r) j:=(KP.of S4).trans ((KP.of (cR u5)).trans Hx);have rp6:=rp3.mono YW.big;have nt6:=nt3.mono YW.big;have aeV:KP (Off H F) (Off H6 r) j:=(KP.of (cR L)).trans YW;have W6:NW K (nc t) t.bu H6 r p tp ln lr ns rs (fF st x y):=WH.sA.nw N6 λb z=>z;have YX:=C.move hx hy;obtain⟨mw,mR,mg',ml,mc⟩:=KE (s:=st) (x:=x) (y:=y);refine b4 λNx u=>?_;dsimp only[R7,Qw,T5];refine Z0 T o W6 YX.ok λlc YO H7 s7 amN aii aeW=>?_;have dl:=WE (n:=ns.length) (s:=st) (os:=os) (az 3);have dd:(PyData.list ((az 3).map λg=>dR ns.length st g (os g))).depth<=64:=by
   show PyData.depthAll _+1<=64
   have:=RW (n:=ns.length) (s:=st) (os:=os) (az 3)
   lia
  have et:((az 3).map λg=>dR ns.length (fF st x y) g (YO g))=(az 3).map λg=>dR ns.length st g (os g):=cK λg hg=>by
   have hg:=c5.mp hg;have O2:=aii g hg;rw[mw,mR] at O2;unfold dR;rw[O2.uniq (hos g hg),mR]
  have r7:=aeW.rep;rw[et] at r7;refine⟨_,rfl,_,_,r7,rp6.mono s7,dl,dl,bO (cJ (aU (fN _ _) dd) _) A.units,_,rfl,?_⟩;rw[SeqAt.eqv_refl (.list ((az 3).map λg=>dR ns.length st g (os g))) dl];refine gD (u _ _ ?_);have N7:=N6.mono s7;have tD:=WH.mono (cR (F:=r) s7);have hh6:(fF st x y).aD=(cl.set x (y,cl[x].2)).map (·.1):=YX.hm;have l20:(cl.set x (y,cl[x].2)).length<=20:=by
   have:=YX.bd.Ao
   rw[hh6,ah] at this;exact this
  have aik:∀g,((fF st x y).ts g).length<2000:=λg=>by
   have:=(YX.bd.tb g).1
   lia
  have ail:KP (Off H F) (Off H7 r) j:=aeV.trans (KP.of (cR s7));have Yb:=nt6.mono s7;generalize kF:cl.set x (y,cl[x].2)=d at *;obtain⟨l,aeX,aeY⟩:=tD.WY;have aeZ:=cF _ _ aeX;have ae0:=aeY.mono λb x z=>cF.eK z;have aim:l.length=d.length:=by rw[ae0.len,ah]
  obtain⟨loc,gh,q,hp,O,hF,hT⟩:=id N7;have bP:=O.get .dO _ rfl;rw[hp] at bP;have eWi:∀(i:Nat) (h:i<d.length),(d.map λc=>((c.1:Nat):Int))[i]?=some ((d[i].1:Nat):Int):=λi h=>by rw[ak,aa h];rfl
  have lWi:(d.map λc=>((c.1:Nat):Int)).length=d.length:=ah _;refine b4 λNx u=>?_;refine⟨_,rfl,j,_,rfl,.inl (bQ.of aeZ),(((l.map V.ref).length:Nat):Int),rfl,∅,by rw[ah];lia,λacc R=>?_⟩;rw[ah,aim];refine fX (n:=((d.length:Int)).toNat) (λi Y _=>Y=((d.map λc=>((c.1:Nat):Int)).take i).map V.int) R w6 mW rfl ?_ ?_
  ·rintro i Y H8 hi X hy rfl z H9 ⟨rfl,rfl⟩
   rw[fU];have m:i<d.length:=∅
   have hih:i<(fF st x y).aD.length:=by rw[hh6,ah];exact m
   have eh:(fF st x y).aD[i]=d[i].1:=by
    have:(fF st x y).aD[i]?=some d[i].1:=by rw[hh6,ak,aa m];rfl
    rw[aa hih] at this;exact aI this
   refine⟨_,rfl,p,_,_,rfl,X _ _ bP,rfl,_,rfl,r,p,tp,ns.length,i,fF st x y,hih,rfl,N7.mono X,?_⟩;rw[eh];refine d8 R hi X hy ?_ (o8 (eWi i m)).symm;rw[ah];exact cP (aU (List.length_take_le _ _) ∅)
  rintro Y H8 X hy8 rfl;rw[cZ,cO ∅] at hy8;have I:bQ K H8 j (l.map V.ref):=bQ.of (X _ _ aeZ);refine⟨_,rfl,j,rfl,⟨_,I⟩,λac hac=>?_⟩;refine fX (n:=(l.map V.ref).length) (λi Y _=>Y=((d.map λc=>((c.1:Nat):Int)).take i).map V.int) hac (zd I) (pX I) rfl ?_ ?_
  ·rintro i Y H9 hi s9 hy rfl z T7 ⟨rfl,hz⟩
   have hz:=hz _ (s9.seq I);have hi':i<l.length:=by rw[ah] at hi;exact hi
   have m:i<d.length:=∅
   have hq:=(X.trans s9).eK (ae0.at' i l[i] [.int d[i].1,.int d[i].2] (aa hi') (by rw[ak,aa m];rfl));rw[ak,aa hi'] at hz;cases hz;refine⟨_,rfl,l[i],_,0,_,rfl,rfl,hq,rfl,?_⟩;refine d8 hac hi s9 hy ?_ (o8 (eWi i m)).symm;rw[ah];exact cP (aU (List.length_take_le _ _) ∅)
  rintro Y H9 s9 hy9 rfl;rw[cO (by rw[lWi,ah];lia)] at hy9;have r8:Rep K H9 (.list ((d.map λc=>((c.1:Nat):Int)).map .int)) (.ref acc):=Rep.ints (bQ.of (s9 _ _ hy8));have r9:Rep K H9 (.list ((d.map λc=>((c.1:Nat):Int)).map .int)) (.ref ac):=Rep.ints (bQ.of hy9);refine⟨_,_,r8,r9,jX _,jX _,bO (cJ (aU (fN _ _) (by show PyData.depthAll _+1<=64;rw[oz];decide)) _) A.units,_,rfl,?_⟩;rw[SeqAt.eqv_refl (.list ((d.map λc=>((c.1:Nat):Int)).map .int)) (jX _)];refine gD (u _ _ ?_);have s79:=X.trans s9;dsimp only[Xb,T5];refine Z2 T (N7.mono s79) aik λld as2 Z3 T7 MG amP hld amQ ain aio ae1=>?_;have en:Z3=RY (¬cl[x].1=y) cl[x].2 S:=by
   have:=abZ (x:=x) (y:=y) Pr aio Ue ain (f:=¬cl[x].1=y) (by rw[IK];exact⟨λz w=>z (aI w),λz w=>z (er some w)⟩)
   rw[jq] at this;exact this
  have zb:Rep K T7 (.list (Z3.map TU)) (.ref ld):=⟨ld,_,rfl,bQ.of hld,(ae1 (λ_=>False) λ_ z=>z.elim).mono cF⟩;rw[en] at zb;have nl:=WG (RY (¬cl[x].1=y) cl[x].2 S);have nd:(PyData.list ((RY (¬cl[x].1=y) cl[x].2 S).map TU)).depth<=64:=by
   show PyData.depthAll _+1<=64
   have:=RX (RY (¬cl[x].1=y) cl[x].2 S)
   lia
  have YY:=s79.trans MG;refine⟨_,rfl,_,_,zb,Yb.mono YY,nl,nl,bO (cJ (aU (fN _ _) nd) _) A.units,?_⟩;rw[SeqAt.eqv_refl (.list ((RY (¬cl[x].1=y) cl[x].2 S).map TU)) nl];exact k os r T7 hos (N7.mono YY) (tD.mono (cR YY)) (ail.trans (KP.of (cR YY)))
theorem ae2(d:fR):decide (V.str (dW d)=V.str "hand")=Iz d:=by
 cases d
 ·exact (by decide +kernel:decide (V.str "post" = V.str "hand")=false)
 ·exact (by decide +kernel:decide (V.str "come" = V.str "hand")=false)
 ·exact (by decide +kernel:decide (V.str "hand" = V.str "hand")=true)
 ·exact (by decide +kernel:decide (V.str "send" = V.str "hand")=false)
 ·exact (by decide +kernel:decide (V.str "twice" = V.str "hand")=false)
 ·exact (by decide +kernel:decide (V.str "lost" = V.str "hand")=false)
inductive KL(K:af)(CT:Addr)(c:NC)(vs:List V)(H:Hp)(Q:VK)(E:XK):Prop
 |mk (F:Addr->Prop) (p tp ln lr b0 pl:Addr) (ns:List Int) (rs:List R5) (o:dH ns rs) (bs:List (List Bool)) (cl:List (Nat×Nat)) (os:Nat->List Nat) (D:Nat) (s:NS) (x y:Nat) (hx:x<cl.length) (hy:y<cl.length):vs=[.ref p,.int (ns.length:Nat),.ref b0,.ref pl,.int x,.int y,.int (s.ls.length:Nat)]->dF K c H F p tp ns.length s->DP K CT (Off H F) tp ln lr b0 pl ns rs cl->A3 ns rs o bs cl D s->D<=90000->(∀g,g<3->c8 (iI ns rs o s.ws g) (s.R g) (os g))->s.cps=[]->cl[y].2=cl[x].2->(∀s' F' H',dF K c H' F' p tp ns.length s'->DP K CT (Off H' F') tp ln lr b0 pl ns rs cl->A3 ns rs o bs cl (D+2200) s'->s'.cps=[]->s'.ls.length=s.ls.length+1->aH (Off H F) (Off H' F')->Q (.bl true) H')->KL K CT c vs H Q E
theorem Qm{t:Ad}(T:Txt K mg t):cE P w K mg base iS 10 t.wA t.AM ["_law_net","_law_size","_law_ropes_here","_law_places","_law_sender","_law_to","_law_number"]  (KL K t.bu (nc t)):=by
 refine T.J7.F.kq sI λH Q E hr h=>?_
 ·obtain⟨F,p,tp,ln,lr,b0,pl,ns,rs,o,bs,cl,os,D,st,x,y,S,hy,rfl,N,dx,sd,hD,hop,hcp,egg,k⟩:=h
  refine⟨_,(av (sS 7 sI (xT (xL (pv 3) (pv 4)) aE)) (av (sS 8 sI (cG (OC T) hr T.Hq (IB (pv 1) (pv 2) (cM (pv 0) T.bD T.qi (rX T) hr (gz (pv 7)))))) (av (cT (qT uf (Ay (pv 0) T.bD T.Hj (FE T) (hr.mono (!_)) T.PM .nil mK (rA (pv 4) (pv 5))) (pv 6)) oB bB) (av (dm (cG (Cs T) hr T.AO (IB (pv 0) (pv 2) (bx By aE (lS T.iP (pv 2)))))) (av (ou (i:=9) sI.nd rfl (Or.inl rfl) (kO sI ["_law_row"] [none]) rfl (ir (cM (pv 0) T.bD T.E6 (Mi T) hr (gz (pv 6)))) (λ_ _ _ _=>by exact (gS 0 Ja)) (λ_ _ _ _=>by exact (rE (qT vO (yT K (pv 0) aE) sf))) (λ_ _ _ _=>by exact (pv 0))) (av (cT (qT uf (xL (pv 8) (xT (xL (pv 3) (pv 4)) aE)) (xL (pv 8) (xT (xL (pv 3) (pv 5)) aE))) (oR (qE DK (pv 9) (jB iz))) bB) (oR (qE DK (pv 9) (jB (gz (iH (IB sf (xT (xL (pv 3) (pv 5)) aE) (pv 5))))))))))))),?_⟩
  left
  have W:NW K (nc t) t.bu H F p tp ln lr ns rs st:=dx.sA.nw N λb z=>z;have hm:=sd.hm;have hgr:=sd.gr;have pe:x<st.aD.length:=by rw[hm,ah];exact S
  have hyh:y<st.aD.length:=by rw[hm,ah];exact hy
  have IK:∀{z:Nat} (c:z<cl.length),st.aD.getD z 0=cl[z].1:=λ{z} c=>by rw[hm,au,ak,aa c];rfl
  have jq:st.groups.getD x 0=cl[x].2:=by rw[hgr,au,ak,aa S];rfl
  have g3:cl[x].2<3:=sd.bd.g3 _ (by rw[hgr];exact bV (aM S));have hn:∀{z:Nat} (c:z<cl.length),cl[z].1<ns.length:=λ{z} c=>sd.bd.hm _ (by rw[hm];exact bV (aM c));obtain⟨qp,EK,A4⟩:=id dx.WY;have hpl:=cF _ _ EK;have W0:qp.length=cl.length:=by rw[A4.len,ah]
  have at':∀{z:Nat} (c:z<cl.length),FG (qp.map V.ref) (z:Int)=some (.ref (qp[z]'∅))/\c7 K (Off H F) (qp[z]'∅) [.int cl[z].1,.int cl[z].2]:=λ{z} c=>⟨fD (by rw[ak,aa];rfl),A4.at' z _ _ (aa _) (by rw[ak,aa c];rfl)⟩;obtain⟨ax,qx⟩:=at' S;obtain⟨ay,qy⟩:=at' hy;generalize qp[x]'∅=px at ax qx;generalize qp[y]'∅=py at ay qy;obtain⟨loc,gh,q,hp,O,hF,hT⟩:=id N;have bP:=O.get .dO _ rfl;rw[hp] at bP;have jb:=o.jb;have Ub:=o.Ub;have hB0:=dx.YU;refine⟨_,rfl,_,rfl,pl,_,_,_,rfl,rfl,bQ.of hpl,ax,px,_,1,_,rfl,rfl,cF.eK qx,rfl,?_⟩;refine⟨_,rfl,_,rfl,_,rfl,p,_,_,rfl,bP,rfl,_,rfl,F,p,tp,ln,lr,ns,rs,st,o,cl[x].2,rfl,W,sd.ok,g3,λlo o1 H1 s1 Tr hlo hO h12=>?_⟩;refine⟨ns.length,b0,lo,rs,o1,rfl,(dx.mono (cF.trans s1)).YU,bQ.of hlo,MV hO,o.ok,∅,λlm M H2 s2 TN hlm L=>?_⟩;have Rk:=s1.trans s2;have W2:=W.mono Rk;have F1:Fo ns rs o1:=Fo.of hO;have eo:o1=os cl[x].2:=hO.uniq (hop _ g3);have lab:=(KH F1 L (hn S) (hn hy)).2;have lM:=(KH F1 L (hn S) (hn hy)).1;have eto:∀z,some y=some z->z<st.aD.length/\st.groups[z]?=st.groups[x]?:=λz e=>by
   cases e;refine⟨hyh,?_⟩;rw[hgr,ak,ak,aa hy,aa S];exact er some egg
  refine⟨_,rfl,p,_,_,rfl,Rk _ _ bP,rfl,_,rfl,_,rfl,F,p,tp,ln,lr,ns,rs,st,o,x,some y,D,rfl,W2,sd.ok,sd.bd,∅,pe,eto,λG F3 H3 hO2 aiq W3 st3=>?_⟩;refine⟨_,rfl,rfl,_,rfl,?_⟩;rw[cy rfl];refine gD ?_;have F2:Fo ns rs G:=Fo.of hO2;obtain⟨l3,hl3,j3,_,ll3⟩:=J5.post (s:=st) (x:=x) (to:=some y) F2 sd.bd rfl pe hcp;have z3:=(TR.start sd hop).post pe eto hO2 aiq;have fr:=Qe (rs:=rs) (h:=st.aD.getD x 0) (cz:=none) (os:=G) (s:=gi st x (some y)) (i:=st.ls.length) (l:={cV st x (some y) with aG:=[.post (st.aD.getD x 0)]}) jK;have eW:(gW rs st x (some y) G).ws=st.ws:=fr.ws;have eR:(gW rs st x (some y) G).R=st.R:=fr.R;have eH:(gW rs st x (some y) G).aD=st.aD:=fr.aD;have eG:(gW rs st x (some y) G).groups=st.groups:=fr.groups;have hO3:c8 (iI ns rs o (gW rs st x (some y) G).ws (st.groups.getD x 0)) ((gW rs st x (some y) G).R (st.groups.getD x 0)) G:=by rw[eW,eR];exact hO2
  have nlm:¬F lm:=λz=>by
   obtain⟨v,e⟩:=(N.mono s1).there z;rw[TN] at e;cases e
  have lm3:=iJ st3 _ _ (iZ nlm hlm);have S3:=(cR (F:=F) Rk).trans (iJ st3);have Qf:=dx.mono S3;generalize gW rs st x (some y) G=s3 at *;obtain⟨us,hB,Pr⟩:=id Qf.YU;have Ue:us.length=rs.length:=by rw[Pr.len,ah]
  have WC:(((us.map V.ref).length:Nat):Int)=(rs.length:Int):=by rw[ah,Ue]
  have e2:2*(rs.length:Int)=((2*rs.length:Nat):Int):=∅
  refine⟨_,rfl,_,rfl,_,rfl,b0,_,rfl,.inl (bQ.of (cF _ _ hB)),_,_,rfl,rfl,.inl ⟨!_,!_⟩,?_⟩
  try dsimp only
  rw[WC,e2];refine⟨F3,p,tp,ln,lr,b0,ns,rs,o,bs,cl,D+100,s3,2*rs.length,rfl,Qf.YU,W3,z3.sd,∅,λn s4 F4 H4 pz hd W4 AX=>?_⟩;have Z:=pz.len hO3 j3;have Z:1+n+s4.cps.length<=rs.length+1:=Z;have cp4:s4.cps=[]:=by
   rcases hd with z|z
   ·rw[Nat.min_self] at z
    exact fO.mp ∅
   ·exact z
  have z4:=pz.z hO3 j3 z3;obtain⟨e4w,e4R,e4H,e4G,e4l⟩:=pz.same;obtain⟨B,Ym,A,hno,hg4⟩:=z4.aeL cp4;have WZ:A3 ns rs o bs cl (D+2200) s4:=z4.sd.mono ∅;have lm4:=iJ AX _ _ lm3;have S4:=S3.trans (iJ AX);have WW:=dx.mono S4;rw[e4H,eH,IK S,IK hy] at A hno;have eg4:B.grp=cl[x].2:=by
   rw[e4G,eG] at hg4;rw[au,hg4] at jq;exact jq
  rw[eg4,<- eo] at A hno;obtain⟨Yw,am0,q4,Tp,O4,hF4,hT4⟩:=id W4.dO;have As:=O4.get .dO _ rfl;rw[Tp] at As;have hdl:B.aG.length<=100000:=by
   have:=(WZ.bd.lb B (aN Ym)).1
   lia
  refine b4 λNx dj=>?_;refine⟨_,rfl,p,_,_,rfl,As,rfl,_,rfl,F4,p,tp,ns.length,st.ls.length,s4,B,rfl,W4.dO,Ym,λao qo H5 s5 am1 hao hqo=>?_⟩;have X:bQ K H5 ao (qo.map V.ref):=bQ.of hao;have eqo:qo.length=B.aG.length:=by rw[hqo.len,ah]
  refine⟨ao,rfl,⟨_,X⟩,λac hac=>?_⟩;refine fX (n:=(qo.map V.ref).length) (λm ys g=>∃J:List Addr,ys=J.map V.ref/\J.length<=m/\eO K g J (((B.aG.take m).filter Iz).map fR.vs)) hac (zd X) (pX X) ⟨[],rfl,aB _,⟨rfl,λj q x z=>by simp at z⟩⟩ ?_ ?_
  ·rintro m ys g Y s6 u ⟨J,rfl,el,C⟩ z H7 ⟨rfl,c⟩
   have c:=c _ (s6.seq X);have hmq:m<qo.length:=by rw[ah] at Y;exact Y
   have hmd:m<B.aG.length:=∅
   rw[ak,aa hmq] at c;cases c;have I:=s6.eK (hqo.at' m qo[m] (B.aG[m]).vs (aa hmq) (by rw[ak,aa hmd];rfl));have etk:=SW (f:=Iz) hmd;generalize B.aG[m]=d at I etk;generalize qo[m]=qd at I;refine⟨_,rfl,qd,_,0,_,rfl,rfl,I,(by rw[RQ];exact YJ d),rfl,_,rfl,?_⟩;rw[ae2];refine kP (λe=>⟨_,rfl,d8 hac Y s6 u (by rw[ah];exact Lr ∅) ⟨J++[qd],by rw[aS];rfl,by rw[aA];show J.length+1<=m+1;lia,?_⟩⟩) (λe=>kr Y s6 u ⟨J,rfl,∅,?_⟩)
   ·rw[etk,aq e,aS]
    exact eO.snoc (C.mono λb x=>c7.past u lW cQ) (c7.past u lW cQ I)
   ·rw[etk,b3 e,bZ]
    exact C
  rintro ys g s6 u ⟨J,rfl,el,C⟩;rw[cO (by rw[ah];lia)] at C;refine dj _ _ ?_;have WD:=s5.trans s6;have k6:∀H',aH g H'->Q (.bl true) H':=λH' s'=>k s4 F4 H' (W4.dO.mono (WD.trans s')) (WW.mono (cR (WD.trans s'))) WZ cp4 (e4l.trans ll3) (S4.trans (cR (WD.trans s')));have U:aH (Off H F) g:=S4.trans (cF.trans WD);have hM:bQ K g lm (M.map V.int):=bQ.of (WD _ _ (cF _ _ lm4));have hP:bQ K g pl (qp.map V.ref):=bQ.of (U _ _ EK);have mat:∀{z:Nat},z<ns.length->FG (M.map V.int) (z:Int)=some (.int (M.getD z 0)):=λ{z} c=>fD (by rw[ak,au,aa (show z<M.length by lia)];rfl);have ait:eO K g J ((B.aG.filter Iz).map fR.vs):=C;have rh:∀H',aH g H'->Rep K H' (.list ((B.aG.filter Iz).map dD)) (.ref ac):=λH' s'=>⟨ac,_,rfl,bQ.of (s' _ _ u),EJ (ait.mono λb x=>s'.eK)⟩;have dh:∀ds:List fR,(PyData.list (ds.map dD)).depth<=64:=λds=>by
   show PyData.depthAll _+1<=64
   have:=Iv ds
   lia
  refine⟨_,rfl,_,rfl,_,rfl,pl,_,_,_,rfl,rfl,hP,ax,px,_,0,_,rfl,rfl,U.eK qx,rfl,lm,_,_,_,rfl,rfl,hM,mat (hn S),_,rfl,_,rfl,_,rfl,pl,_,_,_,rfl,rfl,hP,ay,py,_,0,_,rfl,rfl,U.eK qy,rfl,lm,_,_,_,rfl,rfl,hM,mat (hn hy),rfl,_,rfl,?_⟩;by_cases e:M.getD cl[x].1 0=M.getD cl[y].1 0
  ·rw[e,cy rfl]
   refine gD ?_;have ed:=A (lab.mp e);refine⟨_,rfl,_,rfl,_,rfl,pl,_,_,_,rfl,rfl,hP,ay,py,_,0,_,rfl,rfl,U.eK qy,rfl,_,rfl,k9,λq7 ZM=>?_⟩;have u7:=aH.new (o:=.tup [V.str "hand",V.int (cl[y].1:Nat),V.int (y:Nat)]) ZM;have ae3:=aC (H:=g) (a:=q7) (o:=.tup [V.str "hand",V.int (cl[y].1:Nat),V.int (y:Nat)]);generalize upd g q7 (.tup [V.str "hand",V.int (cl[y].1:Nat),V.int (y:Nat)])=H7 at u7 ae3;refine⟨aaa,λl8 Rn=>?_⟩;have u8:=aH.new (o:=.lst [V.ref q7]) Rn;have ae4:=aC (H:=H7) (a:=l8) (o:=.lst [V.ref q7]);generalize upd H7 l8 (.lst [V.ref q7])=H8 at u8 ae4;have ht:eO K H8 [q7] ([fR.hand cl[y].1 y].map fR.vs):=⟨rfl,λi r z e1 e2=>by
    cases i with
    |zero =>
     cases e1;cases e2;exact u8.eK (c7.of ae3)
    |succ i=>cases e1⟩
   have r8:Rep K H8 (.list ([fR.hand cl[y].1 y].map dD)) (.ref l8):=⟨l8,_,rfl,bQ.of ae4,EJ ht⟩;have rh8:=rh H8 (u7.trans u8);rw[ed] at rh8;refine⟨_,_,rh8,r8,oZ _,oZ _,bO (cJ (aU (fN _ _) (dh _)) _) hr.units,?_⟩;rw[SeqAt.eqv_refl (.list ([fR.hand cl[y].1 y].map dD)) (oZ _)];exact k6 H8 (u7.trans u8)
  ·have:decide (V.int (M.getD cl[x].1 0)=V.int (M.getD cl[y].1 0))=false:=c6 λz=>e (V.int.inj z)
   rw[this];refine iC ?_;have ed:=hno λz=>e (lab.mpr z);refine⟨_,rfl,bI _,λb hb=>?_⟩;have u7:=aH.new (o:=.lst []) hb;have hb7:=aC (H:=g) (a:=b) (o:=.lst []);generalize upd g b (.lst [])=H7 at u7 hb7;have rh7:=rh H7 u7;rw[ed] at rh7;have r7:Rep K H7 (.list (([]:List fR).map dD)) (.ref b):=⟨b,[],rfl,bQ.of hb7,rfl⟩;refine⟨_,_,rh7,r7,oZ _,oZ _,bO (cJ (aU (fN _ _) (dh _)) _) hr.units,?_⟩;rw[SeqAt.eqv_refl (.list (([]:List fR).map dD)) (oZ _)];exact k6 H7 u7
theorem Y0(rs:List R5):(rs.map λr=>pT r.d.toNat true).map stand=rs.map λr=>az r.d.toNat:=by
 rw[cX];exact cK λr _=>Pg _
theorem WI{n:Nat}{rs:List R5}(ok:∀r∈rs,r.Ok n):Fit rs (rs.map λr=>pT r.d.toNat true):=by
 refine⟨ah _,λi r b a c=>?_⟩;rw[ak,a] at c;cases c;rw[List.length_replicate]
 have:=(ok r (aN a)).d1
 lia
theorem ae5{ns:List Int}{rs:List R5}{cl:List (Nat×Nat)}(o:dH ns rs)(f:cl.length<=20)(b:∀c∈cl,c.1<ns.length/\c.2<3):SD ns rs (rs.map λr=>pT r.d.toNat true) cl 0 (S0 ns rs cl):=by
 refine⟨⟨ah _,λw a=>?_,λg _ i e=>⟨?_,jA _,⟨jA _,by show (0:Int)<(ns.length:Int);lia⟩,.inl rfl⟩⟩,⟨?_,?_,λg m=>?_,λh k=>?_,?_,λw a=>?_,bI _,λl z=>(by cases z),bI _,λc z=>(by cases z),λg=>⟨bI _,jy⟩⟩,(Y0 rs).symm,WI o.ok,rfl,rfl⟩
 ·obtain⟨r,j,rfl⟩:=aP.mp a
  rw[bG]
  have:=(o.ok r j).d4
  lia
 ·show 0<=ns.getD i 0
  rw[au,aa e];exact o.pos _ (aM e)
 ·show (cl.map _).length=(cl.map _).length
  rw[ah,ah]
 ·show (cl.map _).length<=20
  rw[ah];exact f
 ·obtain⟨c,z,rfl⟩:=aP.mp m
  exact (b c z).2
 ·obtain⟨c,z,rfl⟩:=aP.mp k
  exact (b c z).1
 ·show (cl.map _).length=(cl.map _).length
  rw[ah,ah]
 ·obtain⟨c,z,rfl⟩:=aP.mp a
  exact bI _
theorem TY{a:Addr}{xs:List V}{g:TG}{j:TS}{D:Ends}{b:L2.St}{H:Hp}(f:Nat->L2.St->Hp->Prop)(n:f 0 b H)(hl:∀i b H,i<=xs.length->f i b H->bQ K H a xs)
 (hs:∀i x b H p (N:L2.St->Hp->Prop),(∀c d,f (i+1) c d->N c d)->xs[i]?=some x->f i b H->H p=none->g (.ref p) b (upd H p (.tup [.int (i:Nat),x])) λe h=>j {D with nx:=N,ct:=N,bk:=D.nx} e h) (o:∀b H,f xs.length b H->D.nx b H) :
 ∃W:Nat->Nat->L2.St->Hp->Prop,(∃m,W 0 m b H)/\∀i m b H,W i m b H ->
  ((WO K a).stop i H/\D.nx b H)∨((WO K a).go i H/\∃N:L2.St->Hp->Prop,(∀c d,N c d->∃k,k<m/\W (i+1) k c d)/\∀x d,(WO K a).K0 i H x d->g x b d λe h=>j {D with nx:=N,ct:=N,bk:=D.nx} e h) :=
 U6 f n hl (λi x b H p l z q=>hs i x b H p _ (λ_ _ x=>x) l z q) o
inductive WK(K:af)(vs:List V)(H:Hp)(Q:VK)(E:XK):Prop
 |mk (a:Addr) (ns:List Int):vs=[.ref a]->bQ K H a (ns.map V.int)->ns.length<=63->(∀H',Q (.bl true) H')->WK K vs H Q E
theorem ab4{t:Ad}(T:Txt K mg t):cE P w K mg base iS 11 t.Nh t.Ni ["_law_script"]  (WK K):=by
 refine T.VO.F.kq j7 λH Q E G h=>?_
 ·obtain⟨a,cs,rfl,hS,M,k⟩:=h
  refine⟨_,(av (sS 1 j7 (bx gm aE (bx dZ (cG (gw T) G T.gx (rA (pv 0) aE)) aE))) (av (sS 2 j7 (bx dZ (cG (gw T) G T.gx (rA (pv 0) aE)) aE)) (av (sS 3 j7 (cG (P9 T) G T.J4 (IB (pv 0) (pv 1) (pv 2)))) (av (sS 4 j7 (cG (Mb T) G T.E7 (IB (pv 0) (pv 1) (pv 2)))) (av (sS 5 j7 (cI T.C4 (Jy T) G T.adR (rA (cI T.Ba (HZ T) G T.aba (rA (cG (P8 T) G T.J3 (rA (pv 0) (pv 1))) (fV gp (by rfl) T.tw boot_list (gz (pv 3))))) (fV gp (by rfl) T.tw boot_list (gz (pv 4)))))) (av (dm (cG (OF T) G T.Ho (IB (pv 5) (pv 1) (pv 2)))) (av (sS 6 j7 (fV gp (by rfl) T.tw boot_list (gz (pv 4)))) (av (fS (QO rfl T.E8 (gz (Gz Xn (pv 0) (CD aE) (CD aE)))) (Um (n:=2) rfl (vL (gT 7 j7) (vL (gT 8 j7) KW))) (av (sS 9 j7 (bx dZ (pv 8) (lS T.iP (pv 6)))) (av (cT (qT uf (Ay (pv 5) T.bD T.Hj (FE T) (G.mono (!_)) T.PL (show cD [V.fM] [Value.none] from .cons rfl .nil) mK (gz (pv 9))) (bx By aE (pv 7))) oB bB) (av (dm (cG (Cs T) G T.AO (IB (pv 5) (pv 3) (bx dZ (bx fh (pv 8) aE) aE)))) (av (sS 10 j7 (bx dZ (bx fh (pv 8) aE) (lS T.iP (pv 6)))) (av (sS 11 j7 (xT (xL (pv 6) (pv 10)) aE)) (av (sS 12 j7 (bx dZ (bx fh (pv 8) aE) (pv 1))) (av (sS 13 j7 (qE uf (xT (xL (pv 6) (pv 10)) aE) (pv 12))) (av (cT (lR (Bw (cG (Ql T) G T.J6 (aN5 (pv 5) (pv 11) (pv 10) (pv 12) (pv 6))))) oB bB) (av (dm (cG (Cs T) G T.AO (IB (pv 5) (pv 3) (bx By aE (lS T.iP (pv 3)))))) (av (cT (PW.pt (KU (Bw (pv 13)) (KU (qT vO (xT (xL (pv 6) (pv 9)) aE) (pv 11)) (KS (qT GB (cM (pv 5) T.bD T.uF (yr T) G (gz (pv 11))) (jB iz)))))) oB bB) (av (ou (i:=14) j7.nd rfl (Or.inl rfl) (kO j7 ["_law_other","_law_one","_law_places"] [none,some 11,some 6]) rfl (eS rfl T.gv (gz (lS T.iP (pv 6)))) (λ_ _ _ _=>by exact (gS 0 S5)) (λ_ _ _ _=>by exact (rE (qT vO (yT K (yL K (pv 2) (pv 0)) aE) (pv 1)))) (λ_ _ _ _=>by exact (pv 0))) (av (sS 15 j7 (xL (pv 14) (bx dZ (bx fh (pv 8) aE) (lS T.iP (pv 14))))) (bL (cT (lR (Bw (cG (Qm T) G T.J7 (aN7 (pv 5) (pv 1) (pv 3) (pv 6) (pv 15) (pv 10) (bx gm (bx By aE (pv 7)) aE))))) oB bB))))))))))))))) oB)))))))),?_⟩
  left
  refine⟨_,rfl,a,cs,0,rfl,hS,!_,_,_,rfl,rfl,(by show (0:Int)<10;decide),_,_,rfl,rfl,?_⟩;obtain⟨n,hn,hn1,WL⟩:∃n:Nat,1+cs.getD (0:Int).toNat 0%10=(n:Int)/\1<=n/\n<=10:=by
   have h1:=bT (cs.getD (0:Int).toNat 0) (show (10:Int)≠0 by decide);have h2:=cu (cs.getD (0:Int).toNat 0) (show (0:Int)<10 by decide);exact⟨(1+cs.getD (0:Int).toNat 0%10).toNat,∅,∅,∅⟩
  show iB 1 (V.int (1+cs.getD (0:Int).toNat 0%10)) _ _ _;rw[hn];refine⟨_,rfl,a,cs,1,rfl,hS,!_,_,_,rfl,rfl,(by show (0:Int)<3;decide),?_⟩;obtain⟨g,hge,hg⟩:∃g:Nat,cs.getD (1:Int).toNat 0%3=(g:Int)/\g<3:=AU _ (!_);show iB 2 (V.int (cs.getD (1:Int).toNat 0%3)) _ _ _;rw[hge];refine⟨_,rfl,_,rfl,_,rfl,a,cs,n,g,rfl,hS,hn1,WL,hg,λY H1 rs s1 hb0 hR1 l14 ok=>?_⟩;refine⟨_,rfl,_,rfl,_,rfl,a,cs,n,g,rfl,s1.seq hS,hn1,WL,hg,λcb qs H2 cl m ae6 hcb ZO hc1 Wf ae7=>?_⟩;have s12:=s1.trans m;refine⟨_,rfl,_,rfl,a,cs,n,rfl,s12.seq hS,hn1,WL,λa0 H3 ns s3 ha0 hA3 eln nd nn=>?_⟩;subst eln;have Yk:=s12.trans s3;obtain⟨us,hB1,ae8⟩:=hR1;have hB3:=(m.trans s3) _ _ hB1;have ab5:eO K H3 us (rs.map R5.vs):=ae8.mono λb x=>(m.trans s3).eK;have TZ:=s3 _ _ hcb;have ae9:eO K H3 qs (abV cl):=ZO.mono λb x=>s3.eK;have hS3:=Yk.seq hS;have tok:dH ns rs:=⟨nd,ok,hn1,WL,∅,nn⟩;have hw4:∀r∈rs,1<=r.d/\r.d<=4:=λr hr'=>⟨(ok r hr').d1,(ok r hr').d4⟩;have he7:∀r∈rs,1<=r.e/\r.e<=7:=λr hr'=>⟨(ok r hr').e1,(ok r hr').e7⟩;have aiv:cb≠Y:=(aQ hB1 ae6).symm;refine⟨_,rfl,Y,_,rfl,.inl (bQ.of hB3),λl2 h2=>?_⟩;have t2:=aH.new (o:=.lst (us.map V.ref)) h2;have hl2:=aC (H:=H3) (a:=l2) (o:=.lst (us.map V.ref));generalize upd H3 l2 (.lst (us.map V.ref))=H4 at t2 hl2;refine λB dx np oM Zh=>?_;have Z:aH H4 (upd (upd H4 dx (.own B)) B (.ins t.bu dx [])):=(aH.new oM).trans (aH.new (by rw[aK (bN Zh)];exact np));refine⟨B,dx,a0,l2,ns,rs,rfl,aC,bQ.of (Z _ _ (t2 _ _ hA3)),⟨l2,_,rfl,bQ.of (Z _ _ hl2),Ll.Q4 (l:=l2) (ab5.mono λb x=>(t2.trans Z).eK)⟩,hn1,WL,nn,nd,∅,ok,λX W H5 Z8 hlr hT kp=>⟨rfl,?_⟩⟩;have t5:aH H3 H5:=t2.trans λb o e=>kp b o (Z b o e) (aQ e np);have ncb:cb≠B/\cb≠X/\cb≠W:=⟨aQ (t2 _ _ TZ) np,aQ (Z _ _ (t2 _ _ TZ)) Z8,aQ (Z _ _ (t2 _ _ TZ)) hlr⟩;refine⟨_,rfl,cb,_,rfl,.inl (bQ.of (t5 _ _ TZ)),λl3 h3=>?_⟩;have t6:=aH.new (o:=.lst (qs.map V.ref)) h3;have hl3:=aC (H:=H5) (a:=l3) (o:=.lst (qs.map V.ref));have hT6:=hT.mono t6;have Sn:=t5.trans t6;generalize upd H5 l3 (.lst (qs.map V.ref))=H6 at t6 hl3 hT6 Sn;refine λp DE npp oM Zh=>?_;have Z:aH H6 (upd (upd H6 DE (.own p)) p (.ins t.cN DE [])):=(aH.new oM).trans (aH.new (by rw[aK (bN Zh)];exact npp));refine⟨p,DE,B,X,W,l3,ns,rs,qs,cl,rfl,aC,hT6.mono Z,∅,∅,hw4,bQ.of (Z _ _ hl3),ae9.mono λb x=>(Sn.trans Z).eK,Wf,ae7,λF H7 N kp fr=>⟨rfl,?_⟩⟩;have S7:aH H6 (Off H7 F):=Vr Z npp kp fr;have ry:=hT6.mono S7;have U:=Sn.trans S7;have s37:=U.trans cF;have Y3:A3 ns rs tok _ cl 0 _:=⟨ae5 tok Wf ae7,aeG⟩;refine⟨_,rfl,_,rfl,_,rfl,F,p,B,X,W,ns,rs,tok,_,cl,0,_,g,rfl,ry.nw N (λb z=>z),Y3,hg,λL F' Nn W7 Y3 Lc=>?_⟩;have S7':=iJ Lc
  replace ry:=ry.mono S7'
  replace U:=U.trans S7'
  have s37:=U.trans cF;have N:=W7.dO;refine⟨_,rfl,cb,_,rfl,.inl (bQ.of (s37 _ _ TZ)),λA u=>?_⟩;have s8:=aH.new (o:=.lst (qs.map V.ref)) u;have T4:=aC (H:=Nn) (a:=A) (o:=.lst (qs.map V.ref));generalize upd Nn A (.lst (qs.map V.ref))=H8 at s8 T4;have nF:∀b,Nn b=none->¬F' b:=λb e z=>by
   obtain⟨o,h⟩:=N.there z;rw[e] at h;cases h
  have N8:=N.mono s8;have S78:=cR (F:=F') s8;have hT8:=ry.mono S78;have Kd:=U.trans S78;have hS8:bQ K (Off H8 F') a (cs.map V.int):=Kd.seq hS3;have WM:∀{b o},Off Nn F' b=some o->A≠b:=λ{b o} e z=>by
   have:=cF _ _ e
   rw[<- z,u] at this;cases this
  obtain⟨⟨dt,htp⟩,Z8,_,hlr,_⟩:=id ry;have afd:=U _ _ hB3;have su:DP K t.bu (Off H8 F') B X W Y A ns rs cl:=⟨hT8,⟨us,Kd _ _ hB3,ab5.mono λb x=>Kd.eK⟩,⟨qs,iZ (nF A u) T4,ae9.mono λb x=>Kd.eK⟩,⟨WM htp,WM Z8,WM hlr,WM afd⟩⟩;generalize (rs.map λr=>pT r.d.toNat true)=bs at Y3;have Ao:=Wf;obtain⟨J,eys,lys⟩:∃J:List Int,IG (cs.map V.int) (some 30) (some 40)=J.map V.int/\J.length<=10:=Ve cs 30 40;have cp7:L.cps=[]:=fO.mp (by have:=Y3.bd.cb;lia);have ls7:L.ls.length=0:=by have:=Y3.bd.ll;lia
  refine⟨_,rfl,_,rfl,_,rfl,a,_,rfl,cF.seq hS8,λlq Z1=>?_⟩;rw[eys];have u1:=aH.new (o:=.lst (J.map V.int)) Z1;have ab7:=aC (H:=H8) (a:=lq) (o:=.lst (J.map V.int));have nFq:¬F' lq:=λz=>by
   obtain⟨o,h⟩:=N8.there z;rw[Z1] at h;cases h
  have npq:lq≠A:=λz=>by
   obtain⟨D,h1,_⟩:=su.WY;exact aQ (cF _ _ h1) Z1 z.symm
  generalize upd H8 lq (.lst (J.map V.int))=H9 at u1 ab7;have N9:=N8.mono u1;have dx9:=su.mono (cR (F:=F') u1);have hq9:Off H9 F' lq=some (.lst (J.map V.int)):=iZ nFq ab7;refine⟨lq,_,rfl,bQ.of (cF _ _ hq9),TY (K:=K) (a:=lq) (xs:=J.map V.int) (λj σ H2=>∃(m:NS) (F2:Addr->Prop) (f:List (Nat×Nat)) (v7 v8 v9 v10 v11 vo vd nu nj:Option V),dF K (nc t) H2 F2 p B ns.length m/\DP K t.bu (Off H2 F2) B X W Y A ns rs f/\A3 ns rs tok bs f (4400*j) m/\m.cps=[]/\m.ls.length=2*j/\f.length=cl.length/\Off H2 F2 lq=some (.lst (J.map V.int))/\σ=[some (.ref a),some (.int (ns.length:Nat)),some (.int g),some (.ref Y),some (.ref cb),some (.ref p),some (.ref A),v7,v8,v9,v10,v11,vo,vd,nu,nj])
   ⟨L,F',cl,_,_,_,_,_,_,_,_,_,N9,dx9,Y3,cp7,ls7,rfl,hq9,rfl⟩ (λj σ H2 _ z=>?_) ?_ ?_⟩
  ·obtain⟨m,F2,f,v7,v8,v9,v10,v11,vo,vd,nu,nj,_,_,_,_,_,_,h5,_⟩:=z
   exact bQ.of (cF _ _ h5)
  ·rintro j y σ H2 p0 Nf OJ hj ⟨m,F2,f,v7,v8,v9,v10,v11,vo,vd,nu,nj,N2,dx2,WB,cp2,ls2,C8,hq2,rfl⟩ hp0
   have hjl:j<J.length:=by
    have:=(ai.mp hj).1
    rw[ah] at this;exact this
   rw[ak,aa hjl] at hj;cases hj;generalize J[j]=cell;have w0:=aH.new (o:=.tup [V.int (j:Nat),V.int cell]) hp0;have hp1:=aC (H:=H2) (a:=p0) (o:=.tup [V.int (j:Nat),V.int cell]);have N3:=N2.mono w0;have Qf:=dx2.mono (cR (F:=F2) w0);have WS:=cR (F:=F2) w0 _ _ hq2;generalize upd H2 p0 (.tup [V.int (j:Nat),V.int cell])=H3 at w0 hp1 N3 Qf WS;refine⟨p0,_,rfl,c7.of hp1,rfl,_,_,rfl,_,_,rfl,rfl,?_⟩;have hml:m.aD.length=f.length:=by rw[WB.hm,ah]
   have hc0:0<f.length:=∅
   obtain⟨x,ex,hx⟩:=AU cell hc0;obtain⟨c,ec,hc⟩:=AU (cell/36) hc0;obtain⟨h,eh,hh⟩:=AU (cell/216) (show 0<ns.length by lia);obtain⟨m6,em6,hm6⟩:=AU (cell/6) (show 0<6 by decide);refine b4 λNx v=>?_;obtain⟨D,EK,A4⟩:=id Qf.WY;have W0:D.length=f.length:=by rw[A4.len,ah]
   have OG:(((D.map V.ref).length:Nat):Int)=(f.length:Int):=by rw[ah,W0]
   refine⟨_,rfl,_,rfl,A,_,rfl,.inl (bQ.of (cF _ _ EK)),_,_,rfl,rfl,(by rw[OG];lia),?_⟩
   try dsimp only
   rw[OG,ex];refine v _ _ ?_;have W3:NW K (nc t) t.bu H3 F2 p B X W ns rs m:=Qf.sA.nw N3 λb z=>z;obtain⟨loc,gh,q,hp,O,hF,hT⟩:=id N3;have bP:=O.get .dO _ rfl;rw[hp] at bP;refine b4 λNx v=>?_;refine⟨_,rfl,p,_,_,rfl,bP,rfl,_,rfl,F2,p,B,X,W,ns,rs,m,tok,x,none,4400*j,rfl,W3,WB.ok,WB.bd,∅,∅,(λy z=>by cases z),λo4 F4 H4 hO4 aiC W4 AX=>?_⟩;have el:V.int ((m.ls.length:Nat):Int)=V.int (2*(j:Int)):=er V.int ∅;refine⟨_,rfl,_,_,rfl,rfl,.inl ⟨!_,!_⟩,rfl,_,rfl,?_⟩;rw[cy el];refine gD (v _ _ ?_);obtain⟨l4,Ym,j4,_,ll4⟩:=J5.post (s:=m) (x:=x) (to:=none) (Fo.of hO4) WB.bd rfl ∅ cp2;have WZ:=WB.post (to:=none) ∅ hO4 aiC;have fr:=Qe (rs:=rs) (h:=m.aD.getD x 0) (cz:=none) (os:=o4) (s:=gi m x none) (i:=m.ls.length) (l:={cV m x none with aG:=[.post (m.aD.getD x 0)]}) jK;have eW:(gW rs m x none o4).ws=m.ws:=fr.ws;have eR:(gW rs m x none o4).R=m.R:=fr.R;have hO:c8 (iI ns rs tok (gW rs m x none o4).ws (m.groups.getD x 0)) ((gW rs m x none o4).R (m.groups.getD x 0)) o4:=by rw[eW,eR];exact hO4
   have jq:m.groups.getD x 0=f[x].2:=by rw[WB.gr,au,ak,aa hx];rfl
   rw[jq] at hO j4;have WW:=Qf.mono (iJ AX);have hq4:=iJ AX _ _ WS;generalize gW rs m x none o4=s4 at *;rw[ls2] at ll4;generalize m.ls.length=i4 at j4 Ym;generalize gP (cV m x none)=num at j4;refine b4 λNx v=>?_;refine⟨_,rfl,_,rfl,_,rfl,_,_,rfl,rfl,⟨!_,!_⟩,_,_,rfl,rfl,(by show (0:Int)<6;decide),?_⟩
   try dsimp only
   rw[show cell/6%6=(m6:Int) from em6];refine⟨F4,p,B,X,W,Y,ns,rs,tok,bs,f,4400*j+100,s4,m6,rfl,WW.YU,W4,WZ,∅,λn5 I F5 H5 Ux hd5 W5 JF=>v _ _ ?_⟩;obtain⟨E5,e5,j5⟩:=Ux.j5 hO j4;have S:=Ux.sd WZ;obtain⟨e5w,e5R,e5H,e5G,e5l⟩:=Ux.same;have hO5:c8 (iI ns rs tok I.ws f[x].2) (I.R f[x].2) o4:=by rw[e5w,e5R];exact hO
   have tS:=WW.mono (iJ JF);have hq5:=iJ JF _ _ hq4;rw[ll4] at e5l;obtain⟨D,EK,A4⟩:=id tS.WY;have u:=cF _ _ EK;have W0:D.length=f.length:=by rw[A4.len,ah]
   have OG:(((D.map V.ref).length:Nat):Int)=(f.length:Int):=by rw[ah,W0]
   have hac:FG (D.map V.ref) (c:Int)=some (.ref (D[c]'∅)):=fD (by rw[ak,aa];rfl);have hqc:=cF.eK (A4.at' c (D[c]'∅) [.int f[c].1,.int f[c].2] (aa _) (by rw[ak,aa hc];rfl));refine b4 λNx v=>?_;refine⟨_,rfl,_,_,rfl,rfl,⟨!_,!_⟩,_,rfl,A,_,rfl,.inl (bQ.of u),_,_,rfl,rfl,(by rw[OG];lia),?_⟩
   try dsimp only
   rw[OG,ec];refine v _ _ ?_;refine b4 λNx v=>?_;refine⟨_,rfl,_,rfl,A,_,_,_,rfl,rfl,bQ.of u,hac,_,_,1,_,rfl,rfl,hqc,rfl,v _ _ ?_⟩;refine b4 λNx v=>?_;refine⟨_,rfl,_,_,rfl,rfl,⟨!_,!_⟩,_,rfl,_,_,rfl,rfl,(by show (0:Int)<(ns.length:Int);lia),?_⟩
   try dsimp only
   rw[eh];refine v _ _ ?_;refine b4 λNx v=>?_;refine⟨_,rfl,_,rfl,A,_,_,_,rfl,rfl,bQ.of u,hac,_,_,0,_,rfl,rfl,hqc,rfl,_,rfl,rfl,v _ _ ?_⟩;refine b4 λNx v=>?_;refine⟨_,rfl,_,rfl,_,rfl,_,rfl,_,rfl,F5,p,B,X,W,Y,A,ns,rs,tok,bs,f,4400*j+100+100*n5,I,c,h,hc,rfl,W5.dO,tS,S,?_,hh,λos F6 H6 hos N6 WH Hx=>⟨_,rfl,gD (v _ _ ?_)⟩⟩
   ·have:=j5.len (Fo.of hO5)
    have Ub:=tok.Ub;rw[aA,e5] at this;lia
   have YX:=S.move hc hh;have j6:=J5.move (x:=c) (y:=h) j5;obtain⟨mw,mR,mG,ml,mc⟩:=KE (s:=I) (x:=c) (y:=h);have hO6:c8 (iI ns rs tok (fF I c h).ws f[x].2) ((fF I c h).R f[x].2) o4:=by rw[mw,mR];exact hO5
   have afh:∀g,g<3->c8 (iI ns rs tok (fF I c h).ws g) ((fF I c h).R g) (os g):=λg hg=>by rw[mw,mR];exact hos g hg
   have W6:NW K (nc t) t.bu H6 F6 p B X W ns rs (fF I c h):=WH.sA.nw N6 λb z=>z;have hq6:=Hx _ _ hq5 npq;have HA:I.aD[c]?=some f[c].1:=by rw[S.hm,ak,aa hc];rfl
   have hgc:I.groups.getD c 0=f[c].2:=by rw[S.gr,au,ak,aa hc];rfl
   have g3c:f[c].2<3:=S.bd.g3 _ (by rw[S.gr];exact bV (aM hc));have od6:¬f[c].1=h->f[x].2=f[c].2->Od i4 (fF I c h)/\(fF I c h).ts f[c].2=[]:=λne eg=>by
    have ne':¬I.aD[c]?=some h:=by rw[HA];exact λz=>ne (aI z)
    refine⟨YS j5 ne' (hgc.trans eg.symm),?_⟩;rw[RV,b3 ne',hgc];exact cC
   rw[e5l] at ml;have l6:(f.set c (h,f[c].2)).length=f.length:=br;have g6:∀z (hz:z<f.length) (hz':z<(f.set c (h,f[c].2)).length),(f.set c (h,f[c].2))[z].2=f[z].2:=λz hz hz'=>by
    rw[List.getElem_set];split
    ·rename_i e
     subst e;rfl
    ·rfl
   generalize fF I c h=s6 at *;generalize f.set c (h,f[c].2)=C at *;obtain⟨us,hB,Pr⟩:=id WH.YU;have Ue:us.length=rs.length:=by rw[Pr.len,ah]
   have WC:(((us.map V.ref).length:Nat):Int)=(rs.length:Int):=by rw[ah,Ue]
   have e2:2*(rs.length:Int)=((2*rs.length:Nat):Int):=∅
   have Ub:=tok.Ub;have RZ:=j6.len (Fo.of hO6);rw[aA,e5] at RZ;have RZ:1+n5+s6.cps.length<=rs.length+1:=RZ;refine b4 λNx v=>?_;refine⟨_,rfl,_,rfl,_,rfl,Y,_,rfl,.inl (bQ.of (cF _ _ hB)),_,_,rfl,rfl,.inl ⟨!_,!_⟩,?_⟩
   try dsimp only
   rw[WC,e2];refine⟨F6,p,B,X,W,Y,ns,rs,tok,bs,C,4400*j+100+100*n5,s6,2*rs.length,rfl,WH.YU,W6,YX,∅,λn7 L F7 H7 zN hd7 W7 Lc=>v _ _ ?_⟩;have M:=zN.len hO6 j6;rw[aA,e5] at M;have M:1+n5+n7+L.cps.length<=rs.length+1:=M;have cp7:L.cps=[]:=by
    rcases hd7 with z|z
    ·rw[Nat.min_self] at z
     exact fO.mp ∅
    ·exact z
   have Y3:A3 ns rs tok bs C (4400*j+2200) L:=(zN.sd YX).mono ∅;obtain⟨e7w,e7R,e7H,e7G,e7l⟩:=zN.same;rw[ml] at e7l;have aiG:∀g,g<3->c8 (iI ns rs tok L.ws g) (L.R g) (os g):=λg hg=>by rw[e7w,e7R];exact afh g hg
   have Yb:¬f[c].1=h->f[x].2=f[c].2->L.ts f[c].2=[]:=λne eg=>by
    obtain⟨o1,o2⟩:=od6 ne eg;rw[(zN.old hO6 j6 o1).1];exact o2
   have tD:=WH.mono (iJ Lc);have ZM:=iJ Lc _ _ hq6;obtain⟨D,EK,A4⟩:=id tD.WY;have u:=cF _ _ EK;have W0:D.length=C.length:=by rw[A4.len,ah]
   have OG:(((D.map V.ref).length:Nat):Int)=(C.length:Int):=by rw[ah,W0]
   have at':∀{z:Nat} (hz:z<f.length),FG (D.map V.ref) (z:Int)=some (.ref (D[z]'∅))/\c7 K H7 (D[z]'∅) [.int (C[z]'∅).1,.int (f[z]).2]:=λ{z} hz=>⟨fD (by rw[ak,aa];rfl),by
    rw[<- g6 z hz ∅];exact cF.eK (A4.at' z _ _ (aa _) (by rw[ak,aa (show z<C.length by lia)];rfl))⟩
   obtain⟨loc,gh,q,hp,O,hF,hT⟩:=id W7.dO;have bP:=O.get .dO _ rfl;rw[hp] at bP;have h2k:(L.ts f[c].2).length<2000:=by
    have:=(Y3.bd.tb f[c].2).1
    lia
   refine um (λσ H8=>aH H7 H8/\σ=[some (.ref a),some (.int (ns.length:Nat)),some (.int g),some (.ref Y),some (.ref cb),some (.ref p),some (.ref A),some (.int (j:Nat)),some (.int cell),some (.int (x:Nat)),some (.int (c:Nat)),some (.int (f[c].2:Nat)),some (.int (h:Nat)),some (.bl (!decide (V.int (f[c].1:Nat)=V.int (h:Nat)))),nu,nj]) ?_ (λN' hN=>?_)
   rotate_left
   ·refine⟨_,rfl,_,rfl,kP (λe1=>?_) (λe1=>hN _ _ ⟨aH.refl _,rfl⟩)⟩
    have ne:¬f[c].1=h:=λz=>by rw[z,cy rfl] at e1;cases e1
    obtain⟨a1,q1⟩:=at' hx;refine⟨_,rfl,_,rfl,A,_,_,_,rfl,rfl,bQ.of u,a1,_,_,1,_,rfl,rfl,q1,rfl,_,rfl,rfl,_,rfl,kP (λe2=>?_) (λe2=>hN _ _ ⟨aH.refl _,rfl⟩)⟩;have eg:f[x].2=f[c].2:=by have:=V.int.inj (eL e2);lia
    refine⟨_,rfl,p,_,_,rfl,bP,rfl,_,rfl,F7,p,B,ns.length,f[c].2,L,rfl,W7.dO,g3c,h2k,λl5 qs5 us5 H8 s8 aeQ hl5 hT5 hP5 hS5=>?_⟩;refine⟨bI _,λb hb=>?_⟩;have u9:=aH.new (o:=.lst []) hb;have hb9:=aC (H:=H8) (a:=b) (o:=.lst []);generalize upd H8 b (.lst [])=H9 at u9 hb9;have eu:us5=[]:=by
     rw[Yb ne eg] at hP5;exact List.Perm.eq_nil hP5
    have eq5:qs5=[]:=fO.mp (by have:=hT5.1;rw[eu] at this;exact this);rw[eq5] at hl5;refine⟨.list [],.list [],⟨l5,[],rfl,bQ.of (u9 _ _ hl5),rfl⟩,⟨b,[],rfl,bQ.of hb9,rfl⟩,rfl,rfl,bO (cJ (aU (fN _ _) (!_)) _) G.units,_,rfl,?_⟩;exact gD (hN _ _ ⟨s8.trans u9,rfl⟩)
   rintro σ H8 ⟨s8,rfl⟩;have N8:=W7.dO.mono s8;have su:=tD.mono (cR (F:=F7) s8);have hq8:=cR (F:=F7) s8 _ _ ZM;have T4:=s8 _ _ u;refine b4 λNx v=>?_;refine⟨_,rfl,A,_,rfl,.inl (bQ.of T4),(((D.map V.ref).length:Nat):Int),rfl,∅,by rw[ah];lia,λacc hacc=>?_⟩;rw[ah,W0];refine fX (n:=((C.length:Int)).toNat) (λi J _=>J=bM ((az i).filter λz=>decide ((f.getD z (0,0)).2=f[c].2))) hacc w6 mW rfl ?_ ?_
   ·rintro i J H9 hi s9 hy rfl z T7 ⟨rfl,rfl⟩
    rw[fU];have hic:i<f.length:=∅
    obtain⟨a1,q1⟩:=at' hic;refine⟨_,rfl,_,rfl,A,_,_,_,rfl,rfl,bQ.of (s9 _ _ T4),a1,_,_,1,_,rfl,rfl,(s8.trans s9).eK q1,rfl,_,rfl,rfl,_,rfl,?_⟩;have ed:decide (V.int ((f[i].2:Nat):Int)=V.int ((f[c].2:Nat):Int))=decide ((f.getD i (0,0)).2=f[c].2):=by
     rw[au,aa hic,decide_eq_decide];exact⟨λz=>by have:=V.int.inj z;show f[i].2=_;lia,λz=>by have z:f[i].2=f[c].2:=z;rw[z]⟩
    try dsimp only
    rw[ed];refine kP (λhcc=>?_) (λhcc=>?_)
    ·refine⟨_,rfl,?_⟩
     refine d8 hacc hi s9 hy ?_ ?_
     ·rw[ah]
      refine cP (aU (bY _ _) ?_);rw[bG];lia
     ·rw[yt,aq hcc,lV]
    ·refine kr hi s9 hy ?_
     rw[yt,b3 hcc,bZ]
   rintro ys' H9 s9 hy rfl;rw[cZ] at hy;refine v _ _ ?_;have hmem:∀z∈(az C.length).filter (λz=>decide ((f.getD z (0,0)).2=f[c].2)),∃hz:z<f.length,f[z].2=f[c].2:=λz hz=>by
    obtain⟨z1,z2⟩:=bq.mp hz;have hz:=c5.mp z1;have hz2:z<f.length:=∅
    refine⟨hz2,?_⟩
    have:=eL z2
    rw[au,aa hz2] at this;exact this
   have hcm:c∈(az C.length).filter (λz=>decide ((f.getD z (0,0)).2=f[c].2)):=bq.mpr ⟨c5.mpr ∅,cy (by rw[au,aa hc];rfl)⟩;generalize (az C.length).filter (λz=>decide ((f.getD z (0,0)).2=f[c].2))=ms at hy hmem hcm;have hml:0<ms.length:=List.length_pos_of_mem hcm;obtain⟨jj,ejj,hjj⟩:=AU (cell/1296) hml;refine b4 λNx v=>?_;refine⟨_,rfl,_,rfl,_,_,rfl,rfl,⟨!_,!_⟩,_,rfl,acc,_,rfl,.inl (bQ.of hy),_,_,rfl,rfl,(by show (0:Int)<(((bM ms).length:Nat):Int);rw[ah];lia),?_⟩
   try dsimp only
   rw[ah,ejj];refine⟨acc,_,_,_,rfl,rfl,bQ.of hy,kQ hjj,?_⟩;refine v _ _ ?_;obtain⟨hw,egw⟩:=hmem ms[jj] (aM hjj);generalize ms[jj]=wr at hw egw;have N9:=N8.mono s9;have dx9:=su.mono (cR (F:=F7) s9);have aiH:=cR (F:=F7) s9 _ _ hq8;have hw6:wr<C.length:=∅
   have hc6:c<C.length:=∅
   have egg:C[c].2=C[wr].2:=by rw[g6 c hc hc6,g6 wr hw hw6,egw]
   have ell:2*(j:Int)+1=((L.ls.length:Nat):Int):=∅
   refine⟨_,rfl,_,rfl,_,rfl,_,rfl,_,rfl,_,rfl,_,rfl,_,_,rfl,rfl,.inl ⟨!_,!_⟩,_,_,rfl,rfl,?_⟩
   try dsimp only
   rw[ell];refine⟨F7,p,B,X,W,Y,A,ns,rs,tok,bs,C,os,4400*j+2200,L,wr,c,hw6,hc6,rfl,N9,dx9,Y3,∅,aiG,cp7,egg,λMG F10 T7 N10 aiI aiJ aiK ano S10=>⟨_,rfl,gD (OJ _ _ ?_)⟩⟩;exact⟨MG,F10,C,_,_,_,_,_,_,_,_,_,N10,aiI,aiJ.mono ∅,aiK,∅,∅,S10 _ _ aiH,rfl⟩
  ·rintro σ H2 ⟨m,F2,f,v7,v8,v9,v10,v11,vo,vd,nu,nj,_,_,_,_,_,_,_,rfl⟩
   exact k _
end
theorem walk{l:PySem.W.OpenLaw}{q:Program}{b:List Str}{XP:(Str->Option Value)->Heap->Prop}{p:World->Heap->Prop}{d:DefRec}{K:Params->af}(u:l.most=some 63)(m:d.params.defaults=[])(j:d.name = "law")
 (y:∀(w:World) (h:Heap),p w h->(K w.params).In h)
 (F:∀(w:World) (i:Str->Option Value) (h:Heap),(K w.params).In h->h.Ns mainGlobals i->∃t,Txt (K w.params) i t) :
 PySem.W.WalkO q b XP p l.row.toRowW d [] (λf vs=>PySem.call f vs) :=
 L2.Xo (n:=63) (k:=11) (x:="_law_script") (CX:=λ_=>iS) (sp:=λw=>WK (K w.params)) u (!_) m ⟨rfl,!_,!_⟩ y
  (λw i D h r G c=>by
   obtain⟨t,T⟩:=F w i h r G;rw[j] at c;have e:=c.symm.trans T.VO.g;cases e;refine⟨t.Ni,λs v=>?_,λo _ _=>ab4 T⟩;obtain⟨_,_,_,_,_,_,_,_,_,e,_⟩:=T.VO.F.ex;rw[e];exact .of_eq rfl)
  (λ_ _ a B A _ C=>⟨a,B,rfl,C,A,λ_=>rfl⟩) λ_ _ _ _ _ z=>z
end fC
end
structure PySem.W.Fast:Prop where(tw4521758664832652225 tw3068229491893659782 tw8203364059819100085 tw3956913907632301791 tw15904224664436274784 tw6850282094586375225 tw11723792790418159975 tw5868223897461162179 tw6113875950639392208 tw3489028676727333025 tw11239769696508841598 tw4501806933686116979 tw17540336381626620180 tw14723649795554252000 tw16255120700109787505 tw525596260545842871 tw4114249568662949456 tw5344440239181887504 tw11060078923445220796 tw3130739425107947412 tw6934046566980596519 tw3507274021503666168 tw17011063779133201222 tw1124839670372005891 tw15026973503838300919 tw16986311206832731485 tw12281437506059012662 tw17374793280213622689 tw7237237069721950537 tw13159038578786622782 tw6317657339854765303 tw8736479692927096431 tw10664748093112329941 tw9266582205198333270 tw15263961370117679589 tw18356995619623025630 tw14596122474731061968 tw8615446369147475849 tw7018288141768098519 tw2201136253876060784 tw9977544082249941453 tw20503538339086913 tw11689338878411434664 tw17342871631138579895 tw11626216665865345694 tw8025528071832416613 tw2887587635474953282 tw7761513463532930630 tw5547831714546781109 tw10931587579196142908 tw543189338393807 tw3117290877273254726 tw4079120242406311186 tw16617201679375684300 tw11357158214959186562 tw14275657490176929535 tw336572453030586486 tw15273164936196502388 tw7087918477979029999 tw12515238594995278045 tw12179013021748909872 tw10464293513050340005 tw12303605596589109056 tw7317322505617051325 tw5350243226236397260 tw17549482990856109760 tw8715987605931941479 tw15729127880689637259 tw8339986062122392525 tw5860447411383936954 tw5838410402985108006 tw8669110245789701651 tw13613550627902701570 tw13910121681011413890 tw13557323243843124051 tw18242623738327654501 tw9516212364181042112 tw10875006010553509872 tw14990535472652073026 tw9562703915143449200 tw11091610848629425363 tw15665735515943543467 tw17773615655886397313 tw311215571655524490 tw1258506915191740746 tw178763537442034261 tw4991724856853557858 tw6005550522040152761 tw17119604150295594562 tw14019490326535620032 tw16778220199939712526 tw2158430343485536541 tw2078724049850873954 tw13887119251789173236 tw4603990620750198946 tw14851257537725401382 tw109427163560009021 tw11839724106856935813 tw6647386394089641571 tw1346805297257614374 tw12626565545441191575 tw2808000982400884602 tw17252866444530524133 tw13585916601267996109 tw545453299643714641 tw756980811282011527 tw1321394018387480278 tw12288691908707048338 tw4204395404457449001 tw12107598095847958974 tw3711546941412289088 tw15848964401907296566 tw15215381730787292594 tw16932818362336596623 tw17974285911364613197 tw3698038018036665963 tw14564028177967161418 tw1154021086426417988 tw4467569904407935904 tw2746080369230720566 tw2123782688443064326 tw5014311160950075246 tw5826956161671751217 tw17304210264136946573 tw18266973040288625360 tw14026299178730407806 tw782223139952951833 tw18157476766344562784 tw16788144118113762353 tw3892378918596669057 tw9114259280044137463 tw2223273912654581188 tw14610855112925922739 tw7863835891158278113 tw416615653589154760 tw1236050502276996512 tw4185871746310332748 tw6140563311543389798 tw9146416424346600409 tw16025515199554536206 tw1771713863300582655 tw5605775794181068158 tw3731773058102212985 tw8382570587374228980 tw10271673586801081292 tw5671257439419575246 tw14473258989714574142 tw6986164165059801120 tw17821077151608073246 tw10972552032623746118 tw10860720699918599348 tw3539062981850377514 tw10930033834024184079 tw16729466747433298270 tw502545743026784867 tw451706499721824502 tw18188239468788230155 tw13923898358512915091 tw1793373168131266357 tw13322834188179532918 tw265268169428973221 tw17387850353820749351 tw14770670536533581792 tw1835566317824560068 tw16260123106094613431 tw13587183899435400670 tw12104411872863029769 tw7804491745566935922 tw6787245169031943721 tw10906846950024386200 tw10676309465520379368 tw15974684313596381091 tw18265433438351437508 tw2449082078944619872 tw14482774795461644555 tw17314105076839296032 tw4513128991089484121 tw3581278312348802878 tw14330990726707450247 tw9691131237611906177 tw1430291924226127783 tw3273044778797177789 tw15002820420350770803 tw13031965600067904117 tw1417955623755877640 tw9478351842773726790 tw13904202504378324025 tw8629391590132956292 tw17798263957571275179 tw14753404500876386599 tw11385692052479526074 tw14524248869696682354 tw5022421099161671183 tw12816732820409778883 tw16726108819192019032 tw10936953492195426902 tw6473748244386912041 tw9854827593083291002 tw9187968256693685474 tw5159001785367973963 tw15339776664648821415 tw9400860604121668276 tw15057437343657869609 tw3925106584354105050 tw17280445124139095584 tw8632878430791513056 tw10234015194846762695 tw787694448504030401 tw14692715133311089606 tw2909067573572706335 tw11445675501799147248 tw2880203540432434718 tw8812489146974756247 tw9478074445555390443 tw13818572441803195351 tw8303279171717461545 tw2081593807146160579 tw11441059938374947615 tw10380360356994317216 tw7799799018960958029 tw15671525875909026648 tw11115832571556339476 tw18209138725151683255 tw18179616491640799147 tw6943320274052253175 tw6330362058935255470 tw7370390399774758570 tw8488877263695070148 tw1627640093702711653 tw5950069471504060012 tw1118336922458754131 tw16415655948844095074 tw2181626377358272559 tw5129840992749562938 tw7160916434461328454 tw8750066151362770208 tw7609091176867511538 tw12879333269046931566 tw8423203648428976477 tw6526698122955428500 tw4115089135787498715 tw3351999366298502172 tw1930986284533008857 tw15291738622030803191 tw10142776303851673268 tw893702969022567211 tw6867854287616860351 tw5589303583595702318 tw18231609160653588195 tw10074125206683787711 tw995534608435048825 tw1480020765292529399 tw17197372387083394959 tw12275246965229571528 tw17517083435211741306 tw14050956958087781261 tw10925388783547072823 tw16899967721161455463 tw2800576540002500432 tw17475052974864056680 tw14700862034429785792 tw17976228351733539892 tw12752194853079432334 tw16103513885520912622 tw15145395773875586856 tw10977077643808322793 tw6511558753665949321 tw10467293104734761835 tw10144328694087764889 tw2223244193792653811 tw16235747645065126684 tw16332954498531070697 tw15579247212272139774 tw13813405576843510225 tw14324857939136893214 tw1428873808621488686 tw1310694758413624805 tw10685683801017085715 tw5509583286143526616 tw6336849737597025797 tw10950410083359401960 tw10469715435609123469 tw9215317418286218138 tw5948782284710723743 tw5673559954057218424 tw2361526479281127123 tw16763964848771834783 tw14921462367550470168 tw9888688403453352111 tw7857335542982218518 tw9798109794781173555 tw7598673072141202534 tw14799279487072130442 tw5748790106895479786 tw14161774853053424592 tw1140446083472150741 tw7647016769255740216 tw187990590570912401 tw18116978445022812600 tw3648252088507209856 tw2517451955940857171 tw13939475733144930758 tw12071198447623329128 tw4075736061153074976 tw3813199242129579517 tw13746856250864658824 tw6036282064234675598 tw9828490778760744263 tw7711612240213573869 tw5969538341807958600 tw16232570952574622627 tw4578121495505837460 tw19853563584488330 tw15608700545748580117 tw14516295458527918567 tw10105504173438471727 tw7366798510917806389 tw6754018470002382787 tw17796307256870336391 tw9052309026501668147 tw7594160374538821154 tw11368501612070063695 tw8197570548370853977 tw6369503550458224170 tw4263713878002947015 tw16161045033099479089 tw15490057449523563356 tw15049508276409250071 tw12589115015986047644 tw11995544268560972399 tw17800324299629660568 tw8629128257500856507 tw7984607960142008861 tw7744044323868513653 tw7529506587553981926 tw7168699463074768727 tw5889508379679753286 tw5475116005733286464 tw4524337661443142136 tw4505789064429425590 tw4247871888476567942 tw3944156531509307886 tw3894470664362645726 tw3257740157378625412 tw257734842017725291 tw2482677226091560224 tw18029061343918468372 tw1767943854743293807 tw1726796517302385856 tw16413201875956487297 tw1620146444695280803 tw16175980240357769877 tw16156874327809066293 tw15932172559014071013 tw1446968750223163159 tw13554307067565101387 tw13358460963068900875 tw12636296294308626964 tw11876937323940073349 tw11834380919437886062 tw11229805916123368108 tw10853756449578260112 tw10583555272419176622 tw10499414813429272901 tw10177486375262056170 tw10135216915166337593 tw2816566793314877042 tw18096328924517101210 tw17030592457517871198 tw16165155045142940269 tw15501601430507612984 tw1377299510976352662 tw13714744979016713810 tw3941694263575447988 tw7009939203272603700 tw11860753186340438549 tw14178681531278031732 tw6318200718546738383 tw6828937762967919811 tw11755494989123949487 tw14811491548558107693 tw4078639263605239338 tw3907859456802799852 tw12923045046836896755 tw16205530740357526057 tw8411907696223373849 tw11311233888860640080 tw2770706227842815413 tw13161444052596562379 tw6283110344894455178 tw6301860281486048061 tw5034523516989941389 tw15376590761063736194 tw17899386534642894471 tw14770641765261149180 tw6775878950229895102 tw4913664036295885978 tw14179503387940422065 tw14609421110881414668 tw1201336766409244049 tw8332892195239344777 tw13960528385825722500 tw14134753744759809490 tw18278694444161329658 tw7620439523409811017 tw10900711043926730269 tw1977487785792427286 tw1058577474064482343 tw8825298806270544466 tw18151264036864308739 tw5096575212195722385 tw6417008576816276021 tw14000510986526363751 tw6829635941158697029 tw4243691944376282100 tw9060895025856993889 tw3026290788030436656 tw7876267200511455175 tw12789894495763773140 tw18395072843680123457 tw18086389476631413654 tw12647264855582137899 tw8989283259526235211 tw12711093104924181028 tw15891201924028795540 tw8594013553614386968 tw14911745334590397597 tw16948143993612733723 tw3562952230633098176 tw8187217948497716636 tw15195463920926728671 tw15088308214269973094 tw16518361502469024936 tw4765154549940894663 tw10738879320777790432 tw6198556280840627173 tw14506850937087536671 tw3296596953651189957 tw4244014753608482813 tw2029508603900387826 tw14257132603162106112 tw12630555085997862256 tw5326874555496148913 tw1928762559991368841 tw17906726068085654175 tw85374353059332034 tw1348253098989954220 tw1838229073480105146 tw5674592064465560233 tw10493166299588597678 tw8587848667010207774 tw9579011873852460199 tw9085024867583570014 tw9995895540727821681 tw1941097866610897709 tw7807074551578000211 tw4701612420684697224 tw12977827917313038882 tw3940858062860740420 tw16027674723721197774 tw11399791901589505004 tw1090801261350131116 tw4929444041280501440 tw183200796610693187 tw11942091759557154229 tw6659582253697572500 tw4050405130626757684 tw17072829075990249714 tw6974215309979409760 tw2849539811453394442 tw6814043002523617893 tw6160270507427522098 tw7637062179404300695 tw6929277798373341091 tw16561347016645508989 tw1663755847848219827 tw13375989709359436265 tw2808694419313695874 tw17704941477563060510 tw8858332869729537762 tw1245082733718582322 tw9104613279398219503 tw13999259742409693941 tw12947500811031322828 tw16269745095202860763 tw17857566167506154611 tw10427628114311177837 tw8257814208154597668 tw15990304121760127006 tw15647561143276903404 tw8121483447801406536 tw15451675851987326034 tw9848271394451497565 tw13575784367794771031 tw16334501689837273186 tw14644117013367902505 tw10461718749347881630 tw15517127558033376811 tw9618118041871704364 tw5011072511141913539 tw7888849832001332181 tw3492329591894744614 tw14978677246961881105 tw5092643847546011740 tw283891896890343453 tw2366742556873585834 tw17654357879283498751 tw7419772713978790634 tw4449772526679740066 tw13228867377140948476 tw16671519594634597987 tw6348140350849739119 tw15129707660407519521 tw2315365279996323010 tw11720090188833279254 tw13536962415190811665 tw10858132871267024492 tw10258034980506062885 tw15969852951493028750 tw1547228483245408148 tw11576009293374682843 tw5229635237356584768 tw5679256005488683862 tw2984327258087742245 tw16551855676544915605 tw10509895335229734212 tw5766252615258196040 tw1134342104933229184 tw12145690332272265231 tw16707331549422145961 tw6661227791909484795 tw11826084765659872666 tw15329774103759110185 tw15854432978447381770 tw4081278461376851571 tw10854178521794747036 tw6968421021781059156 tw9887325864833231671 tw10744383941404133816 tw14682588188985207848 tw4390362373003748970 tw12597937545169995680 tw6785492729900542279 tw16331113372004208392 tw12475288698088338310 tw2686092196660100821 tw11393426814007697569 tw7106243087289477621 tw15575619426882153746 tw8481841459690457974 tw4741770267292949162 tw7349246950026035383 tw15632345529950879129 tw2244122086549368087 tw6246941548600251515 tw10717701594972805457 tw11124526355436710597 tw15314417222897040831 tw6848640093746647551 tw2164848094319683884 tw8659419100989553258 tw2755694432211431397 tw14772572264120176922 tw12502200923420267759 tw2561586916437274318 tw9168215443704677475 tw9320999271167093815 tw4360785829996204428 tw9305464043417134701 tw14724058213344655013 tw8999781170017910446:True)
open PySem PySem.W PyProof.Rows
set_option maxRecDepth 100000 in
set_option maxHeartbeats 0 in
theorem PySem.Challenge.cw_knotless_k34_moves_and_old_letters_holds : PySem.Challenge.rw_knotless_k34_moves_and_old_letters.Holds := by
 w_on;o_law;k_head;(case hw=>w_witness2)
 k_fill
 refine fC.walk (l:=PySem.Challenge.rw_knotless_k34_moves_and_old_letters) rfl rfl rfl (fun w h Y=>PySem.W.kIn_of Y) ?F
 case F =>
  intro w mg h KX G
  refine' fC.abd KX G ?Eh ?HB ?HC ?Ei ?LR ?BW ?LU ?PN ?ve ?xY ?xZ ?x8 ?vf ?Ej ?BX ?qK ?tE ?tF ?qL ?tG ?vg ?vh ?tH ?vj ?Ek ?LV ?VU ?VV ?LW ?El ?LX ?vm ?zT ?zU ?qM ?tK ?zV ?vn ?vp ?x9 ?zW ?oN ?mD ?mE ?tL ?BY ?vq ?qN ?ya ?BZ ?Ca ?zX ?zY ?yb ?Cb ?zZ ?Cc ?Cd ?Ce ?Cf ?Cg ?yc ?z6 ?yd ?vt ?vz ?vA ?vB ?pS ?tM ?z7 ?vC ?qO ?oO ?Ci ?qP ?nY ?mF ?oQ ?ye ?qQ ?z8 ?Em ?Eo ?z9 ?Cj ?Ck ?Ep ?Er ?Es ?VW ?Aa ?oS ?yf ?C9 ?qR ?Ab ?Dc ?qS ?Ac ?Ae ?oU ?qU ?vD ?nZ ?qV ?HD ?kL ?kM ?yg ?yh ?wF ?qW ?mH ?HE ?yi ?Nq ?Af ?tN ?ko ?yj ?yk ?vE ?vF ?tO ?vG ?tP ?tQ ?qX ?HF ?oV ?oW ?oX ?Et ?Eu ?Cm ?Cn ?vH ?yl ?ym ?yo ?tR ?yp ?yq ?VX ?PR ?LY ?Ag ?VY ?VZ ?V0 ?HG
  case Eh|HB|HC|Ei|LR|BW|LU|PN | Cd|Ce|Cf|Cg|yc|z6 | vt|vz|vA|vB|pS|tM | oS|yf | qR|Ab | qS|Ac | oU|qU|vD|nZ|qV | kL|kM|yg|yh | qW|mH | yi | Af|tN|ko|yj|yk|vE|vF|tO|vG|tP|tQ|qX|HF|oV|oW|oX|Et | Cm | vH|yl|ym|yo|tR|yp|yq|VX|PR|LY|Ag|VY|VZ|V0|HG=>k_is
  case ve|xY|xZ|x8|vf | qK|tE|tF|qL|tG|vg|vh|tH|vj | vm|zT|zU|qM|tK|zV | oN|mD|mE|tL | qN|ya|BZ|Ca|zX|zY|yb|Cb|zZ|Cc | yd | z7|vC|qO|oO|Ci|qP|nY|mF|oQ=>exact L2.fy (by k_is) (by k_is) (by k_is) (by k_is) (by k_is)
  case Ej|BX | Ek|LV|VU|VV|LW|El|LX | vn|vp|x9|zW | BY|vq | ye|qQ|z8|Em|Eo|z9|Cj|Ck|Ep|Er|Es|VW=>exact L2.rV KX G (by k_is) (by k_is) (by k_is) (by k_is)
  case Aa | C9 | Dc | Ae | HD | wF | HE | Nq=>exact L2.Zt (by k_is) (by k_is) (by k_is) (by k_is) (by k_is) (by k_is)
  case Eu | Cn=>exact⟨by k_exc,by k_is,by k_is,by k_is,by k_is,by k_is,by k_is,by k_is,by k_is⟩
#print axioms PySem.Challenge.cw_knotless_k34_moves_and_old_letters_holds
