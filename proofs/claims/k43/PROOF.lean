import PyProof.Rows.All
import Wide.All
import OpenK.AllK
import Wide.FinOn
import Lean
import PyProof.EqAt
import PyProof.EqKinds
import PyProof.TupleCall
import PySem.Challenge.RW_knotless_k43_whole_calm_letters
set_option autoImplicit true
set_option relaxedAutoImplicit true
set_option Elab.async false
noncomputable section
universe u v
section
local macro_rules|`(∅)=>`(by lia)
local macro_rules|`(!_)=>`(by decide)
local macro_rules|`(-_)=>`(by simp)
theorem aag:1<=PySem.sizeLine:=!_
theorem fy:2<=PySem.sizeLine:=!_
theorem aap:3<=PySem.sizeLine:=!_
theorem aau:4<=PySem.sizeLine:=!_
theorem aaM:5<=PySem.sizeLine:=!_
theorem aaN:6<=PySem.sizeLine:=!_
def aq:=@if_pos.{u}
def b3:=@if_neg.{u}
def eH:=@decide_eq_true
def e8:=@decide_eq_false
def gh:=@of_decide_eq_true
def cy:=@absurd.{v}
def ff:=@congrArg.{u,v}
def f5:=@decide_eq_true_iff
open List renaming getElem?_eq_getElem -> aa, length_map -> af, getElem?_eq_some_iff -> ai, getElem?_map -> ak, getD_eq_getElem?_getD -> ao, range -> av, length_append -> aB, mem_of_getElem? -> aC, getElem_mem -> aH, map_append -> aK, mem_map -> aL, mem_singleton -> aS, mem_filter -> aT, mem_append -> aU, length_cons -> aV, size_toArray -> aZ, length_range -> be, mem_cons_of_mem -> bf, length_set -> bg, mem_cons -> bu, length_filter_le -> bx, mem_range -> bB, mem_cons_self -> bE, map_cons -> bG, replicate -> bK, mem_append_right -> bP, append_nil -> bQ, getElem?_append_left -> bR, getElem?_append_right -> bT, map_map -> bV, mem_map_of_mem -> bW, mem_append_left -> bY, getElem?_set -> bZ, length_take -> cu, getElem?_of_mem -> cE, filter_cons_of_pos -> cR, filter_cons_of_neg -> cS, map_congr_left -> cY, nodup_cons -> dm, take_succ_eq_append_getElem -> dF, filterMap_cons -> dS, getElem?_take_of_lt -> eF, lookup_cons -> fT, getElem?_range -> fV, filter_sublist -> fW, append_assoc -> gi, range_succ -> gA, filter_append -> gB, take_length -> gJ, filter_cons -> gK, nodup_append -> g8, mem_filterMap -> iM, length_eq_zero_iff -> iX, replicate_succ -> ja, foldl_cons -> jb, map_set -> jG, getElem?_eq_none -> jH, nodup_nil -> jY, mem_or_eq_of_mem_set -> jZ, pairwise_map -> kr, getElem_of_mem -> lK, any_eq_true -> lW, take_of_length_le -> ng, pairwise_lt_range -> ni, set_append_right -> nX, foldl_append -> pP, any_cons -> pR, nodup_range -> rB, lookup -> rD, set_set -> sD, length_filterMap_le -> sE, find?_cons -> tH, filter_eq_nil_iff -> vv, length -> wk, getElem?_inj -> wm, flatten_cons -> wo, flatMap_cons -> wu, map_nil -> xM, filterMap_append -> xN, ext_getElem -> yE, all_eq_true -> yF
open PySem.W renaming Frag -> ah, findIn -> aM, nsIn -> bS, mg_none_of -> cW, mg_of -> dJ, kia_one -> eU, keepIn -> eY, fnOf -> fJ, emptyDict -> g7, codeIn -> jX, instObj -> kj, hasDictIn -> we, plainGet -> yC
open Nat renaming le_refl -> az, le_trans -> aN, zero_le -> aX, ne_of_lt -> bH, lt_of_lt_of_le -> bU, lt_of_le_of_lt -> bX, add_le_add_left -> dB, sub_self -> eV, le_succ -> fU, add_le_add_right -> gG, le_of_lt -> gI, lt_irrefl -> iz, min_le_left -> i9, not_lt_zero -> ko, le_succ_of_le -> kq, le_add_right -> lV, lt_succ_self -> yD
open Bool renaming false_ne_true -> aI, and_eq_true -> dj, eq_iff_iff -> kC, not_eq_true' -> pS, or_eq_true -> tL
open Option.some renaming inj -> aJ
open Option renaming some_ne_none -> aW
open PySem.F renaming plainAttrs_list -> bI, type_list_append -> bL, slot_list_append -> bM
open Ne renaming symm -> bO
open Int renaming emod_nonneg -> b5, toNat_natCast -> cO, emod_lt_of_pos -> cP, zero_add -> dw, toNat_of_nonneg -> rE, le_refl -> rF, toNat -> xO
open Sum renaming inl -> eT
open Array renaming length_toList -> g9, getD_eq_getD_getElem? -> nY, getElem?_eq_some_iff -> pT, getElem?_toList -> xP
open True renaming intro -> ki
open ForInStep renaming yield -> ku
open False renaming elim -> kB
open List.cons renaming inj -> pQ
open PySem renaming mem_of_lookup -> rC
open List.Nodup renaming sublist -> tK
open Sum.inl renaming inj -> wc
open PyProof.Rows renaming slot_tuple_getitem -> wg
set_option linter.all false
set_option maxRecDepth 100000
namespace L2
open PySem PySem.Spec PyProof.Rows
abbrev Key:=Sum Int Str
def Je:Key->Value->Bool
 |.inl k,v=>Value.isInt k v
 |.inr x,v=>Value.isStrOf x v
def ak1(w:World):Key->Int
 |.inl k=>hashInt k
 |.inr x=>hashStr w x
theorem iu:∀{k:Key} {v:Value},Je k v=true->(∃i t,k=eT i/\v=Value.int i t)∨(∃x t,k=Sum.inr x/\v=Value.str x t)
 |.inl i,v,h=>by
  obtain⟨t,e⟩:=Value.isInt_shape (k:=i) (v:=v) h;exact .inl ⟨i,t,rfl,e⟩
 |.inr x,v,h=>by
  obtain⟨t,e⟩:=Value.isStrOf_shape (x:=x) (v:=v) h;exact .inr ⟨x,t,rfl,e⟩
theorem Wc(i:Int)(t:Tok):Je (.inl i) (.int i t)=true:=by simp[Je,Value.isInt]
theorem Wd(x:Str)(t:Tok):Je (.inr x) (.str x t)=true:=by simp[Je,Value.isStrOf]
theorem aej(a b:Int):decide ((eT a:Key)=eT b)=(a==b):=by
 by_cases e:a=b
 ·subst e;simp
 ·have h:¬(eT a:Key)=eT b:=λq=>e (wc q)
  rw[e8 h];exact (beq_eq_false_iff_ne.mpr e).symm
theorem aek(a b:Str):decide ((Sum.inr a:Key)=Sum.inr b)=decide (a=b):=by
 by_cases e:a=b
 ·subst e;simp
 ·have h:¬(Sum.inr a:Key)=Sum.inr b:=λq=>e (Sum.inr.inj q)
  rw[e8 h,e8 e]
theorem ael(a:Int)(b:Str):decide ((eT a:Key)=Sum.inr b)=false:=e8 (λq=>nomatch q)
theorem aem(a:Str)(b:Int):decide ((Sum.inr a:Key)=eT b)=false:=e8 (λq=>nomatch q)
def eZ(prog:Program)(w:World):PySem.KeyKind prog w Key where
 is:=Je
 hash:=ak1 w
 inj:=λv a b ha hb=>by
  rcases iu ha with ⟨i,t,rfl,rfl⟩|⟨x,t,rfl,rfl⟩
  ·rcases iu hb with ⟨j,u,rfl,e⟩|⟨y,u,rfl,e⟩
   ·injection e with e1 _;rw[e1]
   ·exact nomatch e
  ·rcases iu hb with ⟨j,u,rfl,e⟩|⟨y,u,rfl,e⟩
   ·exact nomatch e
   ·injection e with e1 _;rw[e1]
 byValue:=λk v h=>by
  rcases iu h with ⟨i,t,rfl,rfl⟩|⟨x,t,rfl,rfl⟩ <;> rfl
 pyHash:=λhv h=>by
  rcases iu hv with ⟨i,t,rfl,rfl⟩|⟨x,t,rfl,rfl⟩
  ·exact wpAny_pyHash_int h
  ·exact wpAny_pyHash_str h
 eqBool:=λhu hv h=>by
  rcases iu hu with ⟨i,t,rfl,rfl⟩|⟨x,t,rfl,rfl⟩
  ·rcases iu hv with ⟨j,u,rfl,rfl⟩|⟨y,u,rfl,rfl⟩
   ·rw[aej] at h;exact wpAny_eqBool_int h
   ·rw[ael] at h;exact SeqAt.EqAt.int_str i t y u _ _ _ _ h
  ·rcases iu hv with ⟨j,u,rfl,rfl⟩|⟨y,u,rfl,rfl⟩
   ·rw[aem] at h;exact SeqAt.EqAt.str_int x t j u _ _ _ _ h
   ·rw[aek] at h;exact wpAny_eqBool_str h
 «strs»:=λk x t v h=>by
  rcases iu h with ⟨i,u,rfl,e⟩|⟨y,u,rfl,e⟩
  ·exact nomatch e
  ·injection e with e1 _
   subst e1;cases v <;> rfl
theorem PV(prog:Program)(w:World)(i:Int)(t:Tok):(eZ prog w).is (.inl i) (.int i t)=true:=Wc i t
theorem PX(prog:Program)(w:World)(x:Str)(t:Tok):(eZ prog w).is (.inr x) (.str x t)=true:=Wd x t
inductive V where
 |f9|bl (b:Bool)|int (i:Int)|str (x:Str)|UE (b:Array UInt8)|wh (b:UInt64)|ref (a:Addr)|ty (n:String)
 deriving DecidableEq
def RelV:V->Value->Prop
 |.f9,u=>u=Value.none
 |.bl b,u=>u=Value.bool b
 |.int i,u=>∃t,u=Value.int i t
 |.str x,u=>∃t,u=Value.str x t
 |.UE b,u=>∃t,u=Value.bytes b t
 |.wh b,u=>∃t,u=Value.float b t
 |.ref a,u=>u=Value.ref a
 |.ty n,u=>u=Value.type n
abbrev cF:List V->List Value->Prop:=Paired RelV
theorem cF.length(r:cF xs us):xs.length=us.length:=Paired.length r
theorem cF.get:∀{xs:List V} {us:List Value} {i:Nat} {x:V},cF xs us->xs[i]?=some x->∃u,us[i]?=some u/\RelV x u
 |_,_,_,_,.nil,e=>by simp at e
 |_,_,0,_,.cons r _,e=>by simp at e;subst e;exact⟨_,rfl,r⟩
 |_,_,i+1,x,.cons _ t,e=>by
  obtain⟨u,b,a⟩:=cF.get (i:=i) (x:=x) t (by simpa using e);exact⟨u,by simpa using b,a⟩
theorem cF.set{x:V}{u:Value}(r:RelV x u):∀{xs:List V} {us:List Value} (i:Nat),cF xs us->cF (xs.set i x) (us.set i u)
 |_,_,_,.nil=>.nil
 |_,_,0,.cons _ t=>.cons r t
 |_,_,i+1,.cons q t=>.cons q (cF.set r i t)
theorem cF.append:∀{xs a:List V} {us ws:List Value},cF xs us->cF a ws->cF (xs++a) (us++ws)
 |_,_,_,_,.nil,s=>s
 |_,_,_,_,.cons r t,s=>.cons r (cF.append t s)
theorem cF.take:∀{xs:List V} {us:List Value} (n:Nat),cF xs us->cF (xs.take n) (us.take n)
 |_,_,0,_=>.nil
 |_,_,_+1,.nil=>.nil
 |_,_,n+1,.cons r t=>.cons r (cF.take n t)
theorem cF.drop:∀{xs:List V} {us:List Value} (n:Nat),cF xs us->cF (xs.drop n) (us.drop n)
 |_,_,0,r=>r
 |_,_,_+1,.nil=>.nil
 |_,_,n+1,.cons _ t=>cF.drop n t
def Cu:Option V->Option Value->Prop
 |some v,some u=>RelV v u
 |none,none=>True
 |_,_=>False
def KV{κ:Type}:List (κ×V)->List (κ×Value)->Prop:=Paired λ(p:κ×V) (q:κ×Value)=>p.1=q.1/\RelV p.2 q.2
def kV:Key->V
 |.inl i=>.int i
 |.inr x=>.str x
inductive HO where
 |lst (xs:List V)
 |tup (xs:List V)
 |dK (kvs:List (Key×V))|dT (kvs:List (List Key×V))
 |set (S:Int->Bool) (n:Nat)
 |ins (C dx:Addr) (fs:List (Str×V))
 |own (x:Addr)
 |xd (fs:List (Str×V))
 |met (f x:Addr)
 |Sn (lo hi:Int)
 |PY (o:Obj) (u:HO)
 |nj (ps:Array Value)
 |ext (φ:Heap->Prop)
abbrev Hp:=Addr->Option HO
def upd(H:Hp)(a:Addr)(o:HO):Hp:=λb=>if b=a then some o else H b
theorem ay:upd H a o a=some o:=by unfold upd;rw[aq rfl]
theorem aO{a b:Addr}(h:b≠a):upd H a o b=H b:=by unfold upd;rw[b3 h]
theorem NZ:upd (upd H a o) a u=upd H a u:=by
 funext b;unfold upd;split <;> rfl
theorem pU{H:Hp}(h:H a=some o)(h':H b=some u)(d:o≠u):a≠b:=by
 intro e;subst e;rw[h] at h';exact d (aJ h')
theorem aQ{H:Hp}(h:H a=some o)(h':H b=none):a≠b:=by
 intro e;subst e;rw[h] at h';cases h'
section
variable(P:Program)(w:World)
def iN(H:Hp)(h:Heap)(a:Addr):HO->Prop
 |.lst xs=>xs.length<=sizeLine/\∃(its:List Value) (n:Nat),cF xs its/\h.get? a=some {cls:=.type "list",data:=.seq its.toArray n}
 |.tup xs=>xs.length<=sizeLine/\∃its:List Value,cF xs its/\IsTup h a its.toArray
 |.dK kvs=>kvs.length<=sizeLine/\(a==sysModules)=false/\∃vs,KV kvs vs/\h.DictOf (eZ P w) a vs
 |.dT kvs=>kvs.length<=sizeLine/\(a==sysModules)=false/\∃xs:List (List Key×Addr×Value),
  Paired (λ(p:List Key×V) (q:List Key×Addr×Value)=>p.1=q.1/\H q.2.1=some (.tup (p.1.map kV))/\RelV p.2 q.2.2) kvs xs /\
  ∃o es ep,h.get? a=some o/\o.ExactDict/\o.data=.dict es ep/\es.toList=xs.map (entryOfKey (tupleKind (eZ P w)))/\(xs.map (·.1)).Nodup
 |.set S n=>h.SetOf (intKind P w) a S n
 |.ins C dx fs=>H dx=some (.own a)/\fs.length<=1000/\dx≠a/\h.get? a=some (kj C dx) /\
  ∃mA,h.Ns1 dx mA/\(∀f,Cu (fs.lookup f) (mA f))/\PySem.Within mA (fs.map (·.1))
 |.own _=>∃o,h.get? a=some o
 |.xd fs=>∃mA,h.Ns1 a mA/\∀f,Cu (fs.lookup f) (mA f)
 |.Sn lo hi=>∃t u v,h.get? a=some {cls:=.type "range",data:=.fields #[.int lo t,.int hi u,.int 1 v]}
 |.PY o u=>h.get? a=some o/\iN H h a u
 |.nj ps=>h.get? a=some {cls:=.none,data:=.fields ps}
 |.met f x=>h.get? a=some (PySem.W.methodObj (.ref f) (.ref x))
 |.ext φ=>φ h/\(∃o,h.get? a=some o)/\∀h1 h2:Heap,φ h1->(∀o,h1.get? a=some o->h2.get? a=some o)->φ h2
def Aq(H:Hp)(h:Heap):Prop:=∀a o,H a=some o->iN P w H h a o
end
section
variable{P:Program}{w:World}{H H':Hp}{h h':Heap}{a:Addr}{o:HO}
theorem iN.lt(x:iN P w H h a o):a<h.objs.size:=by
 cases o with
 |lst c=>obtain⟨_,_,_,_,e⟩:=x;exact Heap.lt_size e
 |tup c=>obtain⟨_,_,_,p⟩:=x;exact p.lt
 |dK b=>obtain⟨_,_,_,_,o,_,_,e,_⟩:=x;exact Heap.lt_size e
 |dT b=>obtain⟨_,_,_,_,o,_,_,e,_⟩:=x;exact Heap.lt_size e
 |set S n=>obtain⟨o,_,_,_,e,_⟩:=x;exact Heap.lt_size e
 |ins C k d=>obtain⟨_,_,_,e,_⟩:=x;exact Heap.lt_size e
 |own y=>obtain⟨_,e⟩:=x;exact Heap.lt_size e
 |xd d=>obtain⟨_,⟨_,_,_,e,_⟩,_⟩:=x;exact Heap.lt_size e
 |Sn lo j=>obtain⟨_,_,_,e⟩:=x;exact Heap.lt_size e
 |PY g u=>obtain⟨e,_⟩:=x;exact Heap.lt_size e
 |nj i=>exact Heap.lt_size (show h.get? a=some _ from x)
 |met f y=>exact Heap.lt_size (show h.get? a=some _ from x)
 |ext l=>obtain⟨_,⟨_,e⟩,_⟩:=x;exact Heap.lt_size e
theorem Paired.aeo{d c:Type}{F G:d->c->Prop}:∀{l₁:List d} {l₂:List c},Paired F l₁ l₂->(∀a b,F a b->G a b)->Paired G l₁ l₂
 |_,_,.nil,_=>.nil
 |_,_,.cons r t,f=>.cons (f _ _ r) (Paired.aeo t f)
theorem iN.stay(x:iN P w H h a o)(k:∀b u,(b=a∨H b=some (.own a))->h.get? b=some u->h'.get? b=some u)
 (I:∀b,H b=some (.own a)->H' b=some (.own a)) (E:∀b xs,H b=some (.tup xs)->H' b=some (.tup xs)):iN P w H' h' a o:=by
 induction o with
 |lst xs=>obtain⟨z,l,n,r,e⟩:=x;exact⟨z,l,n,r,k _ _ (.inl rfl) e⟩
 |tup xs=>obtain⟨z,l,r,g,e,c⟩:=x;exact⟨z,l,r,g,k _ _ (.inl rfl) e,c⟩
 |dK A=>obtain⟨z,y,J,r,g,i,j,e,c⟩:=x;exact⟨z,y,J,r,g,i,j,k _ _ (.inl rfl) e,c⟩
 |dT A =>
  obtain⟨z,y,xs,r,g,i,j,e,c⟩:=x;exact⟨z,y,xs,Paired.aeo r λp q z=>⟨z.1,E _ _ z.2.1,z.2.2⟩,g,i,j,k _ _ (.inl rfl) e,c⟩
 |set S n=>obtain⟨g,i,j,t,e,c⟩:=x;exact⟨g,i,j,t,k _ _ (.inl rfl) e,c⟩
 |ins C M D =>
  obtain⟨d,z,K,e,s,⟨m,i,j,F,c⟩,r⟩:=x;exact⟨I _ d,z,K,k _ _ (.inl rfl) e,s,⟨m,i,j,k _ _ (.inr d) F,c⟩,r⟩
 |own y=>obtain⟨g,e⟩:=x;exact⟨g,k _ _ (.inl rfl) e⟩
 |xd D=>obtain⟨s,⟨m,i,j,e,c⟩,r⟩:=x;exact⟨s,⟨m,i,j,k _ _ (.inl rfl) e,c⟩,r⟩
 |Sn lo L=>obtain⟨t,u,v,e⟩:=x;exact⟨t,u,v,k _ _ (.inl rfl) e⟩
 |PY g u G=>obtain⟨e,q⟩:=x;exact⟨k _ _ (.inl rfl) e,G q⟩
 |nj B =>
  have e:h.get? a=some {cls:=.none,data:=.fields B}:=x;show h'.get? a=some {cls:=.none,data:=.fields B};exact k a _ (.inl rfl) e
 |met f y =>
  have e:h.get? a=some (PySem.W.methodObj (.ref f) (.ref y)):=x;show h'.get? a=some (PySem.W.methodObj (.ref f) (.ref y));exact k a _ (.inl rfl) e
 |ext N=>obtain⟨p,⟨o,e⟩,st⟩:=x;exact⟨st _ _ p λo q=>k _ _ (.inl rfl) q,⟨o,k _ _ (.inl rfl) e⟩,st⟩
theorem Aq.lt(x:Aq P w H h)(e:H a=some o):a<h.objs.size:=(x a o e).lt
theorem Aq.fresh(x:Aq P w H h)(e:h.objs.size<=a):H a=none:=by
 cases q:H a with
 |none=>rfl
 |some u=>exact cy (bU (x.lt q) e) (iz _)
theorem Aq.kept(x:Aq P w H h)(k:∀b u,h.get? b=some u->h'.get? b=some u):Aq P w H h':=λa o e =>
 (x a o e).stay (λb u _ q=>k b u q) (λ_ q=>q) λ_ _ q=>q
theorem Aq.laid(x:Aq P w H h)(k:∀b u,h.get? b=some u->h'.get? b=some u)(i:h.objs.size<=a)(d:iN P w (upd H a o) h' a o):Aq P w (upd H a o) h':=λb u e=>by
 have f:=x.fresh i;by_cases g:b=a
 ·subst g;rw[ay] at e;cases e;exact d
 ·rw[aO g] at e
  exact (x b u e).stay (λc v _ q=>k c v q) (λc q=>by rw[aO (aQ q f)];exact q) λc j q=>by rw[aO (aQ q f)];exact q
end
def Rd(H:Hp)(a:Addr)(u:HO):Prop:=H a=some u∨∃o,H a=some (.PY o u)
theorem Rd.ok(r:Rd H a u)(x:Aq P w H h):iN P w H h a u:=by
 rcases r with r|⟨o,r⟩
 ·exact x a u r
 ·obtain⟨_,q⟩:=x a _ r
  exact q
def Mut:Option HO->Prop
 |some (.lst _)=>True
 |some (.dK _)=>True
 |some (.dT _)=>True
 |some (.set _ _)=>True
 |some (.ins _ _ _)=>True
 |some (.ext _)=>True
 |_=>False
section
variable{P:Program}{w:World}{H:Hp}{h h':Heap}{x e:Addr}{o':HO}
theorem Aq.write(ok:Aq P w H h)(g:Mut (H x))(o:e=x∨H e=some (.own x))(k:∀b u,b≠e->h.get? b=some u->h'.get? b=some u)(m:∃u,h'.get? e=some u)
 (j:iN P w (upd H x o') h' x o'):Aq P w (upd H x o') h':=λb u q=>by
 have d:∀c y,H c=some (.own y)->c≠x:=λc y r z=>by subst z;rw[r] at g;exact g
 have l:∀c f,H c=some (.tup f)->c≠x:=λc f r z=>by subst z;rw[r] at g;exact g
 by_cases i:b=x
 ·subst i;rw[ay] at q;cases q;exact j
 ·rw[aO i] at q
  by_cases a:b=e
  ·have n:H b=some (.own x):=by
    rcases o with z|z
    ·exact cy (a.trans z) i
    ·rw[a];exact z
   rw[q] at n;cases n;obtain⟨v,p⟩:=m;exact⟨v,by rw[a];exact p⟩
  ·refine (ok b u q).stay (λc v hc r=>k c v ?_ r) (λc r=>by rw[aO (d c b r)];exact r) λc f r=>by rw[aO (l c f r)];exact r
   rcases hc with rfl|hc
   ·exact a
   ·rintro rfl
    rcases o with z|z
    ·exact d c b hc z
    ·rw[hc] at z;cases z;exact i rfl
end
structure Un(fs ex:List Addr)(H H':Hp)(h h':Heap):Prop where
 keep:∀b o,h.get? b=some o->H b=none->b∉fs->b∉ex->h'.get? b=some o
 slot:∀b o,h.get? b=some o->H b=none->b∈fs->b∉ex->∃sl,h'.get? b=some {o with slots:=sl}
 free:∀b o,h.get? b=some o->H b=none->b∉ex->H' b=none
 there:∀b o,h.get? b=some o->b∉ex->∃o',h'.get? b=some o'
 tups:∀b xs,H b=some (.tup xs)->H' b=some (.tup xs)
 Ek:∀b o u,H b=some (.PY o u)->H' b=some (.PY o u)
 FY:∀b ps,H b=some (.nj ps)->∃more,H' b=some (.nj (ps++more))
section
variable{fs fs' ex ex':List Addr}{H H1 H2:Hp}{h h1 h2 h':Heap}{a x e:Addr}{o:HO}
theorem Un.any(u:Un fs ex H H1 h h1)(q:h.get? b=some ob)(n:H b=none)(a:b∉ex):∃d,h1.get? b=some {ob with slots:=d}:=by
 by_cases c:b∈fs
 ·exact u.slot b ob q n c a
 ·exact⟨ob.slots,u.keep b ob q n c a⟩
theorem Un.trans(a:Un fs ex H H1 h h1)(b:Un fs ex H1 H2 h1 h2):Un fs ex H H2 h h2 where
 keep:=λc e q n i d=>b.keep c e (a.keep c e q n i d) (a.free c e q n d) i d
 slot:=λc e q n i d=>by
  obtain⟨r,f⟩:=a.slot c e q n i d;obtain⟨l,k⟩:=b.slot c _ f (a.free c e q n d) i d;exact⟨l,k⟩
 free:=λc e q n d=>by
  obtain⟨j,f⟩:=a.there c e q d;exact b.free c j f (a.free c e q n d) d
 there:=λc e q d=>by
  obtain⟨j,f⟩:=a.there c e q d;exact b.there c j f d
 tups:=λc g q=>b.tups c g (a.tups c g q)
 Ek:=λc e g q=>b.Ek c e g (a.Ek c e g q)
 FY:=λc p q=>by
  obtain⟨m,f⟩:=a.FY c p q;obtain⟨o,k⟩:=b.FY c _ f;exact⟨m++o,by rw[k,Array.append_assoc]⟩
theorem Un.kept(k:∀b u,h.get? b=some u->h'.get? b=some u):Un fs ex H H h h' :=
 ⟨λb a q _ _ _=>k b a q,λb a q _ _ _=>⟨a.slots,k b a q⟩,λ_ _ _ n _=>n,λb a q _=>⟨a,k b a q⟩,λ_ _ q=>q,λ_ _ _ q=>q,λ_ c q=>⟨#[],by rw[q];simp⟩⟩
theorem Un.refl:Un fs ex H H h h:=Un.kept λ_ _ q=>q
theorem Un.laid(k:∀b u,h.get? b=some u->h'.get? b=some u)(d:h.objs.size<=a)(c:H a=none):Un fs ex H (upd H a o) h h' where
 keep:=λb u q _ _ _=>k b u q
 slot:=λb u q _ _ _=>⟨u.slots,k b u q⟩
 free:=λb u q n _=>by rw[aO (bH (bU (Heap.lt_size q) d))];exact n
 there:=λb u q _=>⟨u,k b u q⟩
 tups:=λb e q=>by rw[aO (aQ q c)];exact q
 Ek:=λb u e q=>by rw[aO (aQ q c)];exact q
 FY:=λb f q=>⟨#[],by rw[aO (aQ q c),q];simp⟩
theorem Un.write(c:Mut (H x))(m:e=x∨H e=some (.own x))(k:∀b u,b≠e->h.get? b=some u->h'.get? b=some u)(f:∃u,h'.get? e=some u):Un fs ex H (upd H x o) h h':=by
 have g:∀b,H b=none->b≠x:=λb n z=>by subst z;rw[n] at c;exact c
 have i:∀b,H b=none->b≠e:=λb n z=>by
  subst z;rcases m with r|r
  ·exact g b n r
  ·rw[n] at r;cases r
 have d:∀b u,H b=some u->¬Mut (some u)->b≠x:=λb u q l z=>by subst z;rw[q] at c;exact l c
 refine⟨λb u q n _ _=>k b u (i b n) q,λb u q n _ _=>⟨u.slots,k b u (i b n) q⟩,λb u q n _=>by rw[aO (g b n)];exact n,λb u q _=>?_,
  λb j q=>by rw[aO (d b _ q λz=>z)];exact q,λb u j q=>by rw[aO (d b _ q λz=>z)];exact q,λb p q=>⟨#[],by rw[aO (d b _ q λz=>z),q];simp⟩⟩
 by_cases a:b=e
 ·subst a;exact f
 ·exact⟨u,k b u a q⟩
end
def trk(h:Heap)(H:Hp):List Addr:=(av h.objs.size).filter λa=>(H a).isSome
def Oa(h:Heap)(H:Hp):Heap:=PySem.W.hideAll h (trk h H)
theorem We(h:Heap)(H:Hp):(Oa h H).objs.size=h.objs.size:=PySem.W.hideAll_size _ _
theorem Yt{h:Heap}{H:Hp}(e:h.get? b=some o)(n:H b=none):(Oa h H).get? b=some o :=
 PySem.W.hideAll_get _ e λa=>by
  have q:(H b).isSome=true:=(aT.mp a).2;rw[n] at q;simp at q
theorem aba(e:(Oa h H).get? b=some o):h.get? b=some o/\H b=none:=by
 have a:h.get? b=some o:=PySem.W.of_hideAll (trk h H) e;refine⟨a,?_⟩;cases q:H b with
 |none=>rfl
 |some x =>
  have c:b∈trk h H:=aT.mpr ⟨bB.mpr (Heap.lt_size a),by simp[q]⟩;have z:(Oa h H).get? b=none:=PySem.W.hideAll_none (trk h H) c;rw[z] at e;cases e
def El(g h:Heap)(L:Addr):List (Addr×Obj):=(av h.objs.size).filterMap λa=>if a=L∨(g.get? a).isSome=true then none else (h.get? a).map λo=>(a,o)
theorem Hl{g h:Heap}{L a:Addr}(d:a≠L)(c:g.get? a=none)(b:h.get? a=some o):(a,o)∈El g h L :=
 iM.mpr ⟨a,bB.mpr (Heap.lt_size b),by simp[d,c,b]⟩
theorem Jf{p:Addr×Obj}(c:p∈El g h L):p.1≠L/\g.get? p.1=none/\h.get? p.1=some p.2:=by
 obtain⟨b,_,e⟩:=iM.mp c;split at e
 ·cases e
 ·rename_i a
  cases q:h.get? b with
  |none=>rw[q] at e;simp at e
  |some u =>
   rw[q] at e;simp only[Option.map_some,Option.some.injEq] at e;subst e;refine⟨λz=>a (.inl z),?_,q⟩;show g.get? b=none;cases r:g.get? b with
   |none=>rfl
   |some v=>exact (a (.inr (by simp[r]))).elim
def rest(g h:Heap)(L d:Addr):List (Addr×Obj):=(El g h L).filter λp=>decide (p.1≠d)
theorem Yu:News g L h (El g h L):=λp d=>let ⟨a,b,c⟩:=Jf d;⟨c,a,b⟩
structure Mod(K:ah)(mg:Str->Option Value)(base:Heap):Prop where
 tw:K.In base
 glob:base.Ns mainGlobals mg
 blt:∃mb,base.Ns builtinsNs mb/\∀x:Str,x≠"__name__" -> mb x=bootBuiltins x
 nolimit:base.NoLimit
structure Cx where
 prog:Program
 w:World
 K:ah
 mg:Str->Option Value
 base:Heap
 A:Around
 N:List Str
 s₀:Shared
 H₀:Hp
 env:Env
 outer:List Env
 stack:List Env
 ex:List Addr
 fn:Str->Bool
 calm:Bool
 pn:List (Addr×Obj)
 xe:Value->Shared->Prop
def frs(l:List Env):List Addr:=l.filterMap (·.frame)
abbrev Cx.fs(X:Cx):List Addr:=frs X.outer
def Vis(sc:Scope)(x:Str):Prop:=sc.names.lookup x=some .local∨sc.names.lookup x=some .cell∨sc.names.lookup x=some .free
def Loc(sc:Scope)(x:Str):Prop:=sc.names.lookup x=some .local∨sc.names.lookup x=some .cell
def Look(env:Env)(h:Heap)(m:Str->Option Value)(x:Str)(u:Value):Prop :=
 (env.kindOf x=some .local/\m x=some u)∨((env.kindOf x=some .cell∨env.kindOf x=some .free)/\∃c,env.cells.lookup x=some c/\h.IsCell c (some u))
structure Cx.Ok(X:Cx):Prop where
 mod:Mod X.K X.mg X.base
 kind:X.env.scope.kind=.function
 glob:X.env.globals=mainGlobals
 blt:X.env.builtins=builtinsNs
 above:X.s₀.heap.objs.size<=X.env.locals
 inj:∀x y c,X.env.cells.lookup x=some c->X.env.cells.lookup y=some c->x=y
 has:∀x,(X.env.kindOf x=some .cell∨X.env.kindOf x=some .free)->∃c,X.env.cells.lookup x=some c
 R1:∀x c,X.fn x=true->X.env.cells.lookup x=some c->X.s₀.heap.objs.size<=c
 hd:X.calm=true->X.A.handled=none
 frames:X.A.frames=some X.stack
 stk:X.stack=X.outer∨(X.stack=X.env::X.outer/\X.env.frame=some X.env.locals)
 exf:∀b∈X.ex,b≠X.env.locals/\∀x c,X.env.cells.lookup x=some c->c≠b
 bs:∀b o,X.base.get? b=some o->X.s₀.heap.get? b=some o/\X.H₀ b=none
 Yv:X.base.objs.size<=X.s₀.heap.objs.size
 Wf:∀b o,X.base.get? b=some o->b∉X.ex
 Yw:∀b∈X.ex,b∉X.fs
 Em:X.s₀.heap.FunFrames X.base X.outer
 qc:∀b∈X.fs,X.H₀ b=none
structure Inv(X:Cx)(pins:List (Addr×Obj))(σ:List (Option V))(H:Hp)(s:Shared):Prop where
 ok:X.Ok
 os:s.os=X.s₀.os
 bare:AllBare s.gens
 base:Un X.fs X.ex X.H₀ H X.s₀.heap s.heap
 loc:∃m,s.heap.Ns X.env.locals m/\∀(i:Nat) (x:Str) (v:V),X.N[i]?=some x->σ[i]?=some (some v)->Vis X.env.scope x->∃u,RelV v u/\Look X.env s.heap m x u
 cell:∀x c,X.env.cells.lookup x=some c->∃v,s.heap.IsCell c v
 free:H X.env.locals=none
 xQ:∀x c,X.env.cells.lookup x=some c->H c=none
 pin:∀p∈X.pn++pins,s.heap.get? p.1=some p.2/\H p.1=none/\p.1≠X.env.locals/\p.1∉X.fs/\∀v,p.2.data≠.cell v
 hok:Aq X.prog X.w H s.heap
 len:σ.length=X.N.length
section
variable{X:Cx}{pins:List (Addr×Obj)}{σ:List (Option V)}{H H':Hp}{s:Shared}{h':Heap}
theorem Cx.Ok.ak5(ok:X.Ok)(e:X.base.get? b=some o):b∉X.fs:=λa=>by
 have:=(ok.Em.mem a).1
 rw[e] at this;cases this
theorem Inv.bs(I:Inv X pins σ H s):∀b o,X.base.get? b=some o->s.heap.get? b=some o/\H b=none:=λb o e =>
 ⟨I.base.keep b o (I.ok.bs b o e).1 (I.ok.bs b o e).2 (I.ok.ak5 e) (I.ok.Wf b o e),I.base.free b o (I.ok.bs b o e).1 (I.ok.bs b o e).2 (I.ok.Wf b o e)⟩
theorem Inv.bk(I:Inv X pins σ H s):∀b o,X.base.get? b=some o->s.heap.get? b=some o:=λb o e=>(I.bs b o e).1
theorem Inv.mod(I:Inv X pins σ H s):Mod X.K X.mg X.base:=I.ok.mod
theorem Inv.Dd(I:Inv X pins σ H s):X.K.In s.heap:=I.ok.mod.tw.keeps I.bk
theorem Inv.fr(I:Inv X pins σ H s):∃m,Fr X.base X.env.locals s.heap m :=
 let ⟨m,a,_⟩:=I.loc
 ⟨m,a,I.bk,aN I.ok.Yv I.ok.above⟩
theorem Inv.lt(I:Inv X pins σ H s):X.env.locals<s.heap.objs.size:=let ⟨_,a,_⟩:=I.loc;a.lt
theorem Inv.sz(I:Inv X pins σ H s):X.s₀.heap.objs.size<=s.heap.objs.size:=aN I.ok.above (gI I.lt)
theorem Inv.ak6(I:Inv X pins σ H s){a:Addr}(h:s.heap.objs.size<=a):a∉X.fs:=λc=>by
 obtain⟨_,o,b,_⟩:=I.ok.Em.mem c;exact cy (bU (Heap.lt_size b) (aN I.sz h)) (iz _)
theorem Inv.x6(I:Inv X pins σ H s):∀x c,X.env.cells.lookup x=some c->c≠X.env.locals:=λx c e z=>by
 obtain⟨v,o,d,f⟩:=I.cell x c e;obtain⟨m,⟨g,h,i,b,a,_⟩,_⟩:=I.loc;rw[z,b] at d;cases d;rw[a] at f;cases f
theorem Inv.Em(I:Inv X pins σ H s):s.heap.FunFrames X.base X.outer:=by
 have a:∀(l:List Env),(∀b∈frs l,b∈X.fs)->X.s₀.heap.FunFrames X.base l->s.heap.FunFrames X.base l:=by
  intro l;induction l with
  |nil=>intro _ _;trivial
  |cons k r m =>
   intro g j;obtain⟨i,⟨L,o,d,p,n,q⟩,h⟩:=j;have c:L∈X.fs:=g L (by unfold frs;rw[dS,d];exact bE);obtain⟨t,e⟩:=I.base.slot L o n (I.ok.qc L c) c λz=>I.ok.Yw L z c;exact⟨i,⟨L,_,d,p,e,q⟩,m (λb f=>g b (by unfold frs;rw[dS,d];exact bf _ f)) h⟩
 exact a X.outer (λ_ f=>f) I.ok.Em
theorem Inv.stack(I:Inv X pins σ H s):s.heap.FunFrames X.base X.stack:=by
 rcases I.ok.stk with e|⟨e,b⟩
 ·rw[e];exact I.Em
 ·rw[e]
  obtain⟨m,a,_⟩:=I.loc;refine .cons (by rw[I.ok.kind];decide) b a ?_ I.Em;exact Heap.get?_none_of_le (aN I.ok.Yv I.ok.above)
theorem Inv.FZ(I:Inv X pins σ H s):∀b∈frs X.stack,b∈X.env.locals::X.fs:=λb a=>by
 rcases I.ok.stk with e|⟨e,c⟩
 ·rw[e] at a;exact bf _ a
 ·rw[e] at a
  unfold frs at a;rw[dS,c] at a;exact a
theorem Inv.Ob(I:Inv X pins σ H s):∀b∈frs X.stack,H b=none:=λb hb=>by
 rcases bu.mp (I.FZ b hb) with e|hb
 ·rw[e];exact I.free
 ·obtain⟨_,o,a,_⟩:=I.ok.Em.mem hb
  exact I.base.free b o a (I.ok.qc b hb) λz=>I.ok.Yw b z hb
theorem Inv.step{g':Array GenState}{t':Nat}{d':Drawn}{ch:List Addr}(I:Inv X pins σ H s)
 (g:∀b∈ch,(b∈X.ex∨X.s₀.heap.objs.size<=b)/\b≠X.env.locals/\(∀x c,X.env.cells.lookup x=some c->c≠b)/\∀p∈X.pn++pins,p.1≠b)
 (keep:∀b o,b≠X.env.locals->b∉X.fs->b∉ch->s.heap.get? b=some o->H b=none->h'.get? b=some o)
 (slot:∀b o,b≠X.env.locals->b∈X.fs->b∉ch->s.heap.get? b=some o->H b=none->∃L,h'.get? b=some {o with slots:=L}) (free:∀b o,b∉ch->s.heap.get? b=some o->H b=none->H' b=none)
 (there:∀b o,b∉ch->s.heap.get? b=some o->∃D,h'.get? b=some D)
 (tups:∀b y,H b=some (.tup y)->H' b=some (.tup y)) (Ek:∀b o u,H b=some (.PY o u)->H' b=some (.PY o u)) (FY:∀b G,H b=some (.nj G)->∃C,H' b=some (.nj (G++C)))
 (S:∀m,s.heap.Ns X.env.locals m->h'.Ns X.env.locals m) (J:Aq X.prog X.w H' h') (U:AllBare g') :
 Inv X pins σ H' {s with heap:=h',gens:=g',drawn:=d',toks:=t'}:=by
 have E:∀b o,X.s₀.heap.get? b=some o->b≠X.env.locals:=λb o e=>bH (bU (Heap.lt_size e) I.ok.above);have j:∀b o,X.s₀.heap.get? b=some o->b∉X.ex->b∉ch:=λb o e a A=>by
  rcases (g b A).1 with z|z
  ·exact a z
  ·exact cy (bU (Heap.lt_size e) z) (iz _)
 have h:∀x c,X.env.cells.lookup x=some c->∀v,s.heap.IsCell c v->h'.IsCell c v:=λx c e v ⟨o,B,K⟩=>by
  have f:c∉ch:=λz=>(g c z).2.2.1 x c e rfl;by_cases P:c∈X.fs
  ·obtain⟨L,q⟩:=slot c o (I.x6 x c e) P f B (I.xQ x c e)
   exact⟨_,q,K⟩
  ·exact⟨o,keep c o (I.x6 x c e) P f B (I.xQ x c e),K⟩
 refine⟨I.ok,I.os,U,⟨λb o e n A a=>?_,λb o e n A a=>?_,λb o e n a=>?_,λb o e a=>?_,λb y e=>tups b y (I.base.tups b y e),λb o y e=>Ek b o y (I.base.Ek b o y e),λb G e=>?_⟩,?_,λx c e=>?_,?_,λx c e=>?_,λp N=>?_,J,I.len⟩
 ·exact keep b o (E b o e) A (j b o e a) (I.base.keep b o e n A a) (I.base.free b o e n a)
 ·obtain⟨L,t⟩:=I.base.slot b o e n A a
  obtain⟨M,F⟩:=slot b _ (E b o e) A (j b o e a) t (I.base.free b o e n a);exact⟨M,F⟩
 ·obtain⟨D,t⟩:=I.base.there b o e a
  exact free b D (j b o e a) t (I.base.free b o e n a)
 ·obtain⟨D,t⟩:=I.base.there b o e a
  exact there b D (j b o e a) t
 ·obtain⟨T,t⟩:=I.base.FY b G e
  obtain⟨V,F⟩:=FY b _ t;exact⟨T++V,by rw[F,Array.append_assoc]⟩
 ·obtain⟨m,W,Q⟩:=I.loc
  refine⟨m,S m W,λi x v t F R=>?_⟩;obtain⟨u,r,l⟩:=Q i x v t F R;refine⟨u,r,?_⟩;rcases l with l|⟨k,c,e,z⟩
  ·exact .inl l
  ·exact .inr ⟨k,c,e,h x c e _ z⟩
 ·obtain⟨v,z⟩:=I.cell x c e
  exact⟨v,h x c e v z⟩
 ·obtain⟨m,⟨o,_,_,B,_⟩,_⟩:=I.loc
  exact free _ o (λz=>(g _ z).2.1 rfl) B I.free
 ·obtain⟨v,o,B,K⟩:=I.cell x c e
  exact free c o (λz=>(g c z).2.2.1 x c e rfl) B (I.xQ x c e)
 ·obtain⟨e,n,O,nf,d⟩:=I.pin p N
  have f:p.1∉ch:=λz=>(g p.1 z).2.2.2 p N rfl;exact⟨keep p.1 p.2 O nf f e n,free p.1 p.2 f e n,O,nf,d⟩
theorem Inv.un{t':Nat}(I:Inv X pins σ H s)(u:Un X.fs [] H H' s.heap h')(g:Aq X.prog X.w H' h'):Inv X pins σ H' {s with heap:=h',toks:=t'}:=by
 obtain⟨m,⟨o,p,t,h,r⟩,_⟩:=id I.loc;obtain⟨q,k⟩:=u.any h I.free (-_);exact I.step (g':=s.gens) (d':=s.drawn) (ch:=[]) (λ_ z=>nomatch z) (λb o _ f _ e n=>u.keep b o e n f (-_)) (λb o _ f _ e n=>u.slot b o e n f (-_)) (λb o _ e n=>u.free b o e n (-_)) (λb o _ e=>u.there b o e (-_)) u.tups u.Ek u.FY (λv j=>by
  obtain⟨l,d,c,a,i⟩:=j;rw[h] at a;cases a;exact⟨_,d,c,k,i⟩) g I.bare
theorem Inv.call{g':Array GenState}{t':Nat}{d':Drawn}{ch:List Addr}(I:Inv X pins σ H s)(u:Un (frs X.stack) ch H H' s.heap h')(h:Aq X.prog X.w H' h')(t:AllBare g')
 (d:∀b∈ch,(b∈X.ex∨X.s₀.heap.objs.size<=b)/\b≠X.env.locals/\(∀x c,X.env.cells.lookup x=some c->c≠b)/\∀p∈X.pn++pins,p.1≠b) :
 Inv X pins σ H' {s with heap:=h',gens:=g',drawn:=d',toks:=t'}:=by
 obtain⟨m,⟨o,A,C,k,r⟩,_⟩:=id I.loc;obtain⟨B,i⟩:=u.any k I.free λz=>(d _ z).2.1 rfl;exact I.step (ch:=ch) d (λb o i v a e n=>u.keep b o e n (λz=>(bu.mp (I.FZ b z)).elim i v) a) (λb o _ _ a e n=>u.any e n a) (λb o a e n=>u.free b o e n a) (λb o a e=>u.there b o e a) u.tups u.Ek u.FY (λD q=>by
  obtain⟨y,j,g,f,l⟩:=q;rw[k] at f;cases f;exact⟨_,j,g,i,l⟩) h t
theorem Inv.turned{t':Nat}{a:Addr}(I:Inv X pins σ H s)(k:∀b o,b≠a->s.heap.get? b=some o->h'.get? b=some o)(A:H a=none)(g:a≠X.env.locals)
 (t:a∈X.ex∨X.s₀.heap.objs.size<=a) (j:∀x c,X.env.cells.lookup x=some c->c≠a) (i:∀p∈X.pn++pins,p.1≠a):Inv X pins σ H {s with heap:=h',toks:=t'}:=by
 have f:∀b u,H b=some u->b≠a:=λb u e z=>by rw[z,A] at e;cases e
 refine I.step (g':=s.gens) (d':=s.drawn) (ch:=[a]) (λb B=>?_) (λb o _ _ d e _=>k b o (λz=>d (by simp[z])) e) (λb o _ _ d e _=>⟨o.slots,k b o (λz=>d (by simp[z])) e⟩) (λ_ _ _ _ n=>n)
  (λb o d e=>⟨o,k b o (λz=>d (by simp[z])) e⟩) (λ_ _ e=>e) (λ_ _ _ e=>e) (λb C e=>⟨#[],by rw[e];simp⟩) (λm l=>?_) (λb u e=>?_) I.bare
 ·have e:b=a:=by simpa using B
  subst e;exact⟨t,g,j,i⟩
 ·obtain⟨o,h,y,w,r⟩:=l
  exact⟨o,h,y,k _ o (bO g) w,r⟩
 ·refine (I.hok b u e).stay (λc v d q=>k c v ?_ q) (λ_ q=>q) λ_ _ q=>q
  rcases d with z|z
  ·rw[z];exact f b u e
  ·exact f c _ z
theorem Inv.tok(I:Inv X pins σ H s)(t:Nat):Inv X pins σ H {s with toks:=t}:=I.un (h':=s.heap) (t':=t) Un.refl I.hok
theorem Inv.kept{t':Nat}(I:Inv X pins σ H s)(k:∀b u,s.heap.get? b=some u->h'.get? b=some u):Inv X pins σ H {s with heap:=h',toks:=t'}:=I.un (Un.kept k) (I.hok.kept k)
theorem Inv.laid{a:Addr}{o:HO}{t':Nat}(I:Inv X pins σ H s)(k:∀b u,s.heap.get? b=some u->h'.get? b=some u)(c:s.heap.objs.size<=a)(d:iN X.prog X.w (upd H a o) h' a o) :
 Inv X pins σ (upd H a o) {s with heap:=h',toks:=t'}:=I.un (Un.laid k c (I.hok.fresh c)) (I.hok.laid k c d)
theorem Inv.write{x e:Addr}{o:HO}{t':Nat}(I:Inv X pins σ H s)(f:Mut (H x))(d:e=x∨H e=some (.own x))(k:∀b u,b≠e->s.heap.get? b=some u->h'.get? b=some u)(a:∃u,h'.get? e=some u)
 (c:iN X.prog X.w (upd H x o) h' x o):Inv X pins σ (upd H x o) {s with heap:=h',toks:=t'}:=I.un (Un.write f d k a) (I.hok.write f d k a c)
theorem Inv.UG{a:List (Addr×Obj)}(I:Inv X pins σ H s)(h:∀p∈a,s.heap.get? p.1=some p.2/\H p.1=none/\p.1≠X.env.locals/\p.1∉X.fs/\∀v,p.2.data≠.cell v):Inv X a σ H s :=
 ⟨I.ok,I.os,I.bare,I.base,I.loc,I.cell,I.free,I.xQ,λp b=>(aU.mp b).elim (λz=>I.pin p (bY _ z)) (h p),I.hok,I.len⟩
theorem PZ{N:List Str}(c:N.Nodup){i j:Nat}(a:N[i]?=some x)(b:N[j]?=some x):i=j:=by
 obtain⟨g,e⟩:=ai.mp a;obtain⟨f,d⟩:=ai.mp b;exact (List.getElem_inj c).mp (e.trans d.symm)
theorem MF{M:Model}{A:Around}{E:Value->Shared->Prop}{i:Nat}{x:Str}{v:V}{u:Value}{Q:Unit->Shared->Prop}(I:Inv X pins σ H s)(hN:X.N.Nodup)(O:X.N[i]?=some x)(t:Loc X.env.scope x)(r:RelV v u)
 (h:∀s',Inv X pins (σ.set i (some v)) H s'->(∃a,Heap.SameBut a s.heap s'.heap/\(a=X.env.locals∨X.env.cells.lookup x=some a))->Q () s') (hf:X.fn x=true∨X.env.scope.names.lookup x=some .local:=by first|exact .inl rfl|exact .inr rfl|assumption):wpAny M A (storeName X.env x u) Q E s:=by
 obtain⟨m,hn,hl⟩:=id I.loc;have R:(X.env.scope.kind==.class || (X.env.scope.kind==.module&&X.env.locals != X.env.globals))=false:=by rw[I.ok.kind];rfl
 have K:i<σ.length:=by rw[I.len];exact (ai.mp O).1
 have x6:=I.x6;have g:∀{a:Addr} {h':Heap},(∃o,s.heap.get? a=some o/\H a=none)->Heap.SameBut a s.heap h'->Aq X.prog X.w H h':=λ{a h'} ha f b ob e=>by
  obtain⟨_,_,B⟩:=ha;refine (I.hok b ob e).stay (λc S hc q=>(f.2 c ?_).trans q) (λ_ q=>q) λ_ _ q=>q;rintro rfl;rcases hc with rfl|hc
  ·rw[B] at e;cases e
  ·rw[B] at hc;cases hc
 rcases t with hk|hk
 ·refine wpAny_storeName_local hk hn (λh' hn' f=>?_) R
  obtain⟨oL,_,_,hoL,_⟩:=id hn;refine h _ ⟨I.ok,I.os,I.bare,⟨λb o e n D t=>?_,λb o e n D t=>?_,I.base.free,λb o e t=>?_,I.base.tups,I.base.Ek,I.base.FY⟩,⟨_,hn',λj y v' l C e3=>?_⟩,λy c e=>?_,I.free,I.xQ,λp hp=>?_,g ⟨oL,hoL,I.free⟩ f,by simpa using I.len⟩ ⟨_,f,.inl rfl⟩
  ·exact (f.2 b (bH (bU (Heap.lt_size e) I.ok.above))).trans (I.base.keep b o e n D t)
  ·obtain⟨sl,l⟩:=I.base.slot b o e n D t
   exact⟨sl,(f.2 b (bH (bU (Heap.lt_size e) I.ok.above))).trans l⟩
  ·obtain⟨Z,l⟩:=I.base.there b o e t
   exact⟨Z,(f.2 b (bH (bU (Heap.lt_size e) I.ok.above))).trans l⟩
  ·by_cases G:j=i
   ·subst G
    rw[O] at l;cases l;rw[List.getElem?_set_self K] at C;cases C;exact⟨u,r,.inl ⟨hk,-_⟩⟩
   ·rw[List.getElem?_set_ne (bO G)] at C
    obtain⟨u',W,q⟩:=hl j y v' l C e3;refine⟨u',W,?_⟩;rcases q with ⟨k,e⟩|⟨k,c,e,z⟩
    ·refine .inl ⟨k,?_⟩
     have:y≠x:=λe=>G (PZ hN l (e▸O))
     simp[this,e]
    ·exact .inr ⟨k,c,e,z.sameBut f (x6 y c e)⟩
  ·obtain⟨S,z⟩:=I.cell y c e
   exact⟨S,z.sameBut f (x6 y c e)⟩
  ·obtain⟨e,n,U,nf,d⟩:=I.pin p hp
   exact⟨(f.2 p.1 U).trans e,n,U,nf,d⟩
 ·have F:X.fn x=true:=by
   rcases hf with z|z
   ·exact z
   ·rw[z] at hk;cases hk
  obtain⟨c,hc⟩:=I.ok.has x (.inl hk);obtain⟨S,z⟩:=I.cell x c hc;refine wpAny_storeName_cell I.ok.kind hk hc z (λh' J f=>?_);obtain⟨oc,L,Y⟩:=id z;refine h {s with heap:=h'} ⟨I.ok,I.os,I.bare,⟨λb o e n D t=>?_,λb o e n D t=>?_,I.base.free,λb o e t=>?_,I.base.tups,I.base.Ek,I.base.FY⟩,⟨m,hn.sameBut f (bO (x6 x c hc)),λj y v' l C e3=>?_⟩,λy T e=>?_,I.free,I.xQ,λp hp=>?_,g ⟨oc,L,I.xQ x c hc⟩ f,by simpa using I.len⟩ ⟨c,f,.inr hc⟩
  ·exact (f.2 b (bH (bU (Heap.lt_size e) (I.ok.R1 x c F hc)))).trans (I.base.keep b o e n D t)
  ·obtain⟨sl,l⟩:=I.base.slot b o e n D t
   exact⟨sl,(f.2 b (bH (bU (Heap.lt_size e) (I.ok.R1 x c F hc)))).trans l⟩
  ·obtain⟨Z,l⟩:=I.base.there b o e t
   exact⟨Z,(f.2 b (bH (bU (Heap.lt_size e) (I.ok.R1 x c F hc)))).trans l⟩
  ·by_cases G:j=i
   ·subst G
    rw[O] at l;cases l;rw[List.getElem?_set_self K] at C;cases C;exact⟨u,r,.inr ⟨.inl hk,c,hc,J⟩⟩
   ·rw[List.getElem?_set_ne (bO G)] at C
    obtain⟨u',W,q⟩:=hl j y v' l C e3;refine⟨u',W,?_⟩;rcases q with q|⟨k,T,e,z'⟩
    ·exact .inl q
    ·refine .inr ⟨k,T,e,z'.sameBut f ?_⟩
     rintro rfl;exact G (PZ hN l (I.ok.inj _ _ _ e hc▸O))
  ·by_cases P:T=c
   ·subst P;exact⟨_,J⟩
   ·obtain⟨w2,z2⟩:=I.cell y T e
    exact⟨w2,z2.sameBut f P⟩
  ·obtain⟨e,n,U,nf,d⟩:=I.pin p hp
   refine⟨(f.2 p.1 ?_).trans e,n,U,nf,d⟩;intro q;rw[q,L] at e;have q':oc=p.2:=aJ e;exact d S (by rw[<- q'];exact Y)
theorem Eo{M:Model}{A:Around}{E:Value->Shared->Prop}{i:Nat}{x:Str}{v:V}{u:Value}{Q:Unit->Shared->Prop}(I:Inv X pins σ H s)(a:X.N.Nodup)(c:X.N[i]?=some x)(b:Loc X.env.scope x)(r:RelV v u)
 (h:∀s',Inv X pins (σ.set i (some v)) H s'->Q () s') (e:X.fn x=true∨X.env.scope.names.lookup x=some .local:=by first|exact .inl rfl|exact .inr rfl|assumption):wpAny M A (storeName X.env x u) Q E s :=
 MF I a c b r (λs' d _=>h s' d) e
theorem Inv.ac6{s':Shared}{ch:List Addr}(I:Inv X pins σ H s)(g:s'.os=s.os)(u:Un (frs X.stack) ch H H' s.heap s'.heap)(d:Aq X.prog X.w H' s'.heap)(h:AllBare s'.gens)
 (a:∀b∈ch,(b∈X.ex∨X.s₀.heap.objs.size<=b)/\b≠X.env.locals/\(∀x c,X.env.cells.lookup x=some c->c≠b)/\∀p∈X.pn++pins,p.1≠b):Inv X pins σ H' s':=by
 obtain⟨h',g',d',t',f⟩:=s';have e:f=s.os:=g;subst e;exact I.call (g':=g') (t':=t') (d':=d') u d h a
end
abbrev XK:=Value->Option Addr->Hp->Prop
abbrev St:=List (Option V)
abbrev VK:=V->Hp->Prop
abbrev TE:=St->Hp->VK->Prop
abbrev TT:=St->Hp->(Bool->Hp->Prop)->Prop
abbrev TA:=St->Hp->(List V->Hp->Prop)->Prop
structure Ends where
 nx:St->Hp->Prop
 rt:VK
 bk:St->Hp->Prop:=λ_ _=>False
 ct:St->Hp->Prop:=λ_ _=>False
abbrev TS:=Ends->St->Hp->Prop
inductive EP(X:Cx)(pins:List (Addr×Obj))(σ:St)(Q:VK)(u:Value)(s':Shared):Prop
 |mk (v:V) (H':Hp) (a:Inv X pins σ H' s') (b:RelV v u) (c:Q v H'):EP X pins σ Q u s'
inductive TP(X:Cx)(pins:List (Addr×Obj))(σ:St)(Q:Bool->Hp->Prop)(b:Bool)(s':Shared):Prop
 |mk (H':Hp) (a:Inv X pins σ H' s') (c:Q b H'):TP X pins σ Q b s'
inductive AP(X:Cx)(pins:List (Addr×Obj))(σ:St)(Q:List V->Hp->Prop)(us:List Value)(s':Shared):Prop
 |mk (vs:List V) (H':Hp) (a:Inv X pins σ H' s') (b:cF vs us) (c:Q vs H'):AP X pins σ Q us s'
def SP(X:Cx)(pins:List (Addr×Obj))(D:Ends)(f:Flow)(s':Shared):Prop :=
 match f with
 |.next=>∃σ' H',Inv X pins σ' H' s'/\D.nx σ' H'
 |.brk=>∃σ' H',Inv X pins σ' H' s'/\D.bk σ' H'
 |.cont=>∃σ' H',Inv X pins σ' H' s'/\D.ct σ' H'
 |.ret u=>∃v σ' H',Inv X pins σ' H' s'/\RelV v u/\D.rt v H'
def PE(X:Cx)(e:Expr)(t:TE):Prop :=
 ∀(pins:List (Addr×Obj)) (s:Shared) (σ:St) (H:Hp) (Q:VK),Inv X pins σ H s->t σ H Q->wpAny (model X.prog X.w) X.A (eval e X.env) (EP X pins σ Q) X.xe s
def PT(X:Cx)(e:Expr)(t:TT):Prop :=
 ∀(pins:List (Addr×Obj)) (s:Shared) (σ:St) (H:Hp) (Q:Bool->Hp->Prop),Inv X pins σ H s->t σ H Q->wpAny (model X.prog X.w) X.A (isTrue e X.env (eval e X.env)) (TP X pins σ Q) X.xe s
def PW(X:Cx)(e:Expr)(t:TT):Prop :=
 ∀(whole:Sem Value) (pins:List (Addr×Obj)) (s:Shared) (σ:St) (H:Hp) (Q:Bool->Hp->Prop),Inv X pins σ H s->t σ H Q->wpAny (model X.prog X.w) X.A (isTrue e X.env whole) (TP X pins σ Q) X.xe s
theorem PW.pt(h:PW X e t):PT X e t:=h _
def PA(X:Cx)(es:List Expr)(t:TA):Prop :=
 ∀(pos:Pos) (pins:List (Addr×Obj)) (s:Shared) (σ:St) (H:Hp) (Q:List V->Hp->Prop),Inv X pins σ H s->t σ H Q->wpAny (model X.prog X.w) X.A (spliced (backTo pos (starEach es X.env))) (AP X pins σ Q) X.xe s
def PS(X:Cx)(st:Stmt)(t:TS):Prop :=
 ∀(pins:List (Addr×Obj)) (s:Shared) (σ:St) (H:Hp) (D:Ends),Inv X pins σ H s->t D σ H->wpAny (model X.prog X.w) X.A (exec st X.env) (SP X pins D) X.xe s
def iP(X:Cx)(st:List Stmt)(t:TS):Prop :=
 ∀(pins:List (Addr×Obj)) (s:Shared) (σ:St) (H:Hp) (D:Ends),Inv X pins σ H s->t D σ H->wpAny (model X.prog X.w) X.A (execs st X.env) (SP X pins D) X.xe s
theorem ia{c:Type}{t:Sem c}{Q b:c->Shared->Prop}{M:Model}{A:Around}{E:Value->Shared->Prop}{s:Shared}(h:wpAny M A t Q E s)(d:∀a s,Q a s->b a s):wpAny M A t b E s:=wpAny_mono h d λ_ _ x=>x
section
variable{X:Cx}
inductive Oc(i:Nat)(σ:St)(H:Hp)(Q:VK):Prop
 |mk (v:V) (a:σ[i]?=some (some v)) (b:Q v H):Oc i σ H Q
def tC(v:V):TE:=λ_ H Q=>Q v H
theorem aet{i:Nat}(k:X.N[i]?=some x)(p:Vis X.env.scope x)(f:(x==("__debug__" : Str))=false:=by decide)(g:(x==("__classdict__" : Str))=false:=by decide):PE X (.Name x pos) (Oc i):=by
 intro d s o H Q I h;obtain⟨v,e,h⟩:=h;obtain⟨m,n,q⟩:=I.loc;obtain⟨u,r,l⟩:=q i x v k e p;have b:EP X d o Q u s:=⟨v,H,I,r,h⟩;rcases l with ⟨hk,t⟩|⟨hk,c,j,a⟩
 ·exact wpAny_Name (wpAny_loadName_local I.ok.kind hk n t b) f
 ·rcases hk with hk|hk
  ·exact wpAny_Name (wpAny_loadName_cell I.ok.kind hk j a b) f
  ·exact wpAny_Name (wpAny_loadName_free I.ok.kind hk j a b g) f
theorem aA{i j pos}:PE X (.Constant (.int i) j pos) (tC (.int i)):=λ_ _ _ H _ I h=>wpAny_Constant_int ⟨.int i,H,I.tok _,⟨_,rfl⟩,h⟩
theorem Ep{b j pos}:PE X (.Constant (.bool b) j pos) (tC (.bl b)):=λ_ _ _ H _ I h=>Constant_bool ⟨.bl b,H,I,rfl,h⟩
theorem lM{j pos}:PE X (.Constant .none j pos) (tC .f9):=λ_ _ _ H _ I h=>Constant_none ⟨.f9,H,I,rfl,h⟩
theorem gm{x j pos}:PE X (.Constant (.str x) j pos) (tC (.str x)):=λ_ _ _ H _ I h=>Calls.Constant_str ⟨.str x,H,I.tok _,⟨_,rfl⟩,h⟩
def Gl(X:Cx)(x:Str):Prop:=X.env.kindOf x=some .globalImplicit
theorem Er{E:Value->Shared->Prop}{a:List (Addr×Obj)}{s:Shared}{d:St}{H:Hp}{x:Str}{u:Value}{b:Pos}{Q:Value->Shared->Prop}(I:Inv X a d H s)(e:Gl X x)(c:X.mg x=some u)(h:Q u s)
 (f:(x==("__debug__" : Str))=false:=by decide):wpAny (model X.prog X.w) X.A (eval (.Name x b) X.env) Q E s :=
 Calls.Name_function_global I.ok.kind e (Calls.loadGlobal_global (by rw[I.ok.glob];exact I.mod.glob.keeps I.bk) c h) f
theorem Jg{E:Value->Shared->Prop}{a:List (Addr×Obj)}{s:Shared}{c:St}{H:Hp}{x:Str}{u:Value}{b:Pos}{Q:Value->Shared->Prop}(I:Inv X a c H s)(i:Gl X x)(f:X.mg x=none)(d:bootBuiltins x=some u)(h:Q u s)
 (j:x≠"__name__" := by decide) (k:(x==("__debug__" : Str))=false:=by decide):wpAny (model X.prog X.w) X.A (eval (.Name x b) X.env) Q E s:=by
 obtain⟨l,g,e⟩:=I.mod.blt;exact Calls.Name_function_global I.ok.kind i (Calls.loadGlobal_builtin (by rw[I.ok.glob];exact I.mod.glob.keeps I.bk) f (by rw[I.ok.blt];exact g.keeps I.bk) ((e x j).trans d) h) k
theorem mQ(b:Gl X x)(a:X.mg x=some u)(r:RelV v u)(c:(x==("__debug__" : Str))=false:=by decide):PE X (.Name x pos) (tC v) :=
 λ_ _ _ H _ I h=>Er I b a ⟨v,H,I,r,h⟩ c
theorem Et(c:Gl X x)(a:X.mg x=none)(b:bootBuiltins x=some u)(r:RelV v u)(d:x≠"__name__" := by decide)(e:(x==("__debug__" : Str))=false:=by decide):PE X (.Name x pos) (tC v) :=
 λ_ _ _ H _ I h=>Jg I c a b ⟨v,H,I,r,h⟩ d e
variable{a b:Expr}{ta tb:TE}{pos:Pos}
def PC(X:Cx)(op:CmpOp)(a b:Expr)(t:TE):Prop :=
 ∀(pins:List (Addr×Obj)) (s:Shared) (σ:St) (H:Hp) (Q:VK),Inv X pins σ H s->t σ H Q ->
  wpAny (model X.prog X.w) X.A (eval a X.env) (λv s₁=>wpAny (model X.prog X.w) X.A (eval b X.env) (λu s₂=>wpAny (model X.prog X.w) X.A (compareOp op v u) (EP X pins σ Q) X.xe s₂) X.xe s₁) X.xe s
inductive BlR(Q:Bool->Hp->Prop)(x:V)(H1:Hp):Prop
 |mk (c:Bool) (a:x=.bl c) (b:Q c H1):BlR Q x H1
def tB(t:TE):TT:=λσ H Q=>t σ H (BlR Q)
theorem Od(h:PC X op a b t)(f:behindInMarks op b=false:=by first|exact ahg _ (!_) (!_)|rfl):PT X (.Compare a [op] [b] pos) (tB t):=by
 intro e s g H Q I n;refine wpAny_isTrue_Compare1 (ia (h e s g H _ I n) λv p f=>ia f λu o l=>ia l λc r ⟨x,m,i,k,j⟩=>?_) f;obtain⟨d,rfl,q⟩:=j;cases k;exact wpAny_truthy_bool ⟨m,i,q⟩
theorem lN(h:PE X e t)(i:∀a,isTrue e X.env a=(do let v <- a;standAt e.pos;holding [v] (truthy v)):=by intro _;rfl):PT X e (tB t):=by
 intro b s c H Q I l;refine isTrue_plain (ia (h b s c H _ I l) λv m ⟨x,k,f,j,g⟩=>?_) (i _);obtain⟨d,rfl,q⟩:=g;cases j;exact wpAny_truthy_bool ⟨k,f,q⟩
variable{tA tB':TT}{rest:List Expr}
def alb(t u:TT):TT:=λσ H Q=>t σ H λc H1=>if c=true then u σ H1 Q else Q false H1
def tOr(t u:TT):TT:=λσ H Q=>t σ H λc H1=>if c=true then Q true H1 else u σ H1 Q
def alc(t:TT):TT:=λσ H Q=>t σ H λc H1=>Q (!c) H1
theorem yG(d:PT X a tA):PW X (.BoolOp .And [a] pos) tA:=by
 intro i b s f H Q I h;refine isTrue_and (ia (d b s f H Q I h) λc g e=>?_);cases c with
 |true=>exact isTrue_and_nil e
 |false=>exact e
theorem De(d:PT X a tA):PW X (.BoolOp .Or [a] pos) tA:=by
 intro i b s f H Q I h;refine isTrue_or (ia (d b s f H Q I h) λc g e=>?_);cases c with
 |false=>exact isTrue_or_nil e
 |true=>exact e
theorem Ar(j:PT X a tA)(m:PW X (.BoolOp .And (b::rest) pos) tB'):PW X (.BoolOp .And (a::b::rest) pos) (alb tA tB'):=by
 intro l d s e H Q I h;refine isTrue_and (ia (j d s e H _ I h) λc k ⟨i,f,g⟩=>?_);cases c with
 |true=>exact m l d k e i Q f g
 |false=>exact⟨i,f,g⟩
theorem CB(j:PT X a tA)(m:PW X (.BoolOp .Or (b::rest) pos) tB'):PW X (.BoolOp .Or (a::b::rest) pos) (tOr tA tB'):=by
 intro l d s e H Q I h;refine isTrue_or (ia (j d s e H _ I h) λc k ⟨i,f,g⟩=>?_);cases c with
 |true=>exact⟨i,f,g⟩
 |false=>exact m l d k e i Q f g
theorem iQ(e:PT X a tA):PT X (.UnaryOp .Not a pos) (alc tA):=by
 intro b s g H Q I h;exact isTrue_not (ia (e b s g H (λc d=>Q (!c) d) I h) λ_ _ ⟨d,i,f⟩=>⟨d,i,f⟩)
def ahh(ta tb:TE):TE:=λσ H Q=>ta σ H λx H1=>∃c,x=.bl c/\if c=true then tb σ H1 Q else Q (.bl false) H1
def ald(ta tb:TE):TE:=λσ H Q=>ta σ H λx H1=>∃c,x=.bl c/\if c=true then Q (.bl true) H1 else tb σ H1 Q
def ahi(ta:TE):TE:=λσ H Q=>ta σ H λx H1=>∃c,x=.bl c/\Q (.bl (!c)) H1
theorem Jh{op}{t:TE}(h:PE X a t):PE X (.BoolOp op [a] pos) t:=λb s c H Q I d=>BoolOp_one (h b s c H Q I d)
theorem F0(j:PE X a ta)(m:PE X (.BoolOp .And (b::rest) pos) tb):PE X (.BoolOp .And (a::b::rest) pos) (ahh ta tb):=by
 intro d s f H Q I h;refine BoolOp_and (ia (j d s f H _ I h) λv l ⟨x,i,g,k,e⟩=>?_);obtain⟨c,rfl,e⟩:=e;cases k;refine wpAny_truthy_bool ?_;cases c with
 |true=>exact m d l f i Q g e
 |false=>exact⟨.bl false,i,g,rfl,e⟩
theorem ahj(j:PE X a ta)(m:PE X (.BoolOp .Or (b::rest) pos) tb):PE X (.BoolOp .Or (a::b::rest) pos) (ald ta tb):=by
 intro d s f H Q I h;refine BoolOp_or (ia (j d s f H _ I h) λv l ⟨x,i,g,k,e⟩=>?_);obtain⟨c,rfl,e⟩:=e;cases k;refine wpAny_truthy_bool ?_;cases c with
 |false=>exact m d l f i Q g e
 |true=>exact⟨.bl true,i,g,rfl,e⟩
theorem Yx(e:PE X a ta):PE X (.UnaryOp .Not a pos) (ahi ta):=by
 intro b s g H Q I h;refine UnaryOp_ (ia (e b s g H _ I h) λv k ⟨x,i,j,f,d⟩=>?_);obtain⟨c,rfl,d⟩:=d;cases f;exact not_of (wpAny_truthy_bool ⟨.bl (!c),i,j,rfl,d⟩)
def tIf(t:TT)(ta tb:TE):TE:=λσ H Q=>t σ H λc H1=>if c=true then ta σ H1 Q else tb σ H1 Q
theorem xR(n:PT X c tA)(l:PE X a ta)(m:PE X b tb):PE X (.IfExp c a b pos) (tIf tA ta tb):=by
 intro e s f H Q I h;refine wpAny_IfExp (ia (n e s f H _ I h) λd j ⟨i,k,g⟩=>?_);cases d with
 |true=>exact l e j f i Q k g
 |false=>exact m e j f i Q k g
end
def bN(K:ah)(H:Hp)(a:Addr)(xs:List V):Prop :=
 Rd H a (.lst xs) ∨
  ∃(o:Obj) (its:Array Value) (n:Nat),K.lookup a=some o/\o.cls=.type "list" /\ o.dict=none/\o.data=.seq its n/\its.size<=sizeLine/\cF xs its.toList
def cX(K:ah)(H:Hp)(a:Addr)(xs:List V):Prop :=
 Rd H a (.tup xs) ∨
  ∃(o:Obj) (its:Array Value) (n:Nat),K.lookup a=some o/\o.cls=.type "tuple" /\ o.data=.seq its n/\its.size<=sizeLine/\cF xs its.toList
def ale:Value->Option V
 |.none=>some .f9
 |.bool b=>some (.bl b)
 |.int i _=>some (.int i)
 |.str x _=>some (.str x)
 |.bytes b _=>some (.UE b)
 |.float b _=>some (.wh b)
 |.ref a=>some (.ref a)
 |.type n=>some (.ty n)
 |_=>none
theorem RelV.abs(r:RelV x u):ale u=some x:=by
 cases x with
 |f9=>cases r;rfl
 |bl _=>cases r;rfl
 |int _=>obtain⟨t,rfl⟩:=r;rfl
 |str _=>obtain⟨t,rfl⟩:=r;rfl
 |UE _=>obtain⟨t,rfl⟩:=r;rfl
 |wh _=>obtain⟨t,rfl⟩:=r;rfl
 |ref _=>cases r;rfl
 |ty _=>cases r;rfl
theorem RelV.inj(r:RelV x u)(q:RelV y u):x=y:=aJ (r.abs.symm.trans q.abs)
theorem cF.inj:∀{xs a:List V} {us:List Value},cF xs us->cF a us->xs=a
 |_,_,_,.nil,.nil=>rfl
 |_,_,_,.cons r t,.cons b t'=>by rw[r.inj b,cF.inj t t']
section
variable{X:Cx}{pins:List (Addr×Obj)}{σ:St}{H:Hp}{s:Shared}{a:Addr}{xs ys:List V}
theorem bN.of{K:ah}(h:H a=some (.lst xs)):bN K H a xs:=.inl (.inl h)
theorem cX.of{K:ah}(h:H a=some (.tup xs)):cX K H a xs:=.inl (.inl h)
theorem Inv.list(I:Inv X pins σ H s)(h:bN X.K H a xs):∃b:List Value,cF xs b/\PlainL s.heap a b.toArray/\xs.length<=sizeLine:=by
 rcases h with h|⟨o,b,n,c,g,f,d,i,r⟩
 ·obtain⟨z,b,n,r,e⟩:=h.ok I.hok
  exact⟨b,r,⟨_,n,e,rfl,rfl,rfl⟩,z⟩
 ·refine⟨b.toList,r,⟨o,n,I.Dd a o c,g,f,by simpa using d⟩,?_⟩
  have e:=r.length;simp only[g9] at e;lia
theorem Inv.tuple(I:Inv X pins σ H s)(h:cX X.K H a xs):∃b:List Value,cF xs b/\IsTup s.heap a b.toArray/\xs.length<=sizeLine:=by
 rcases h with h|⟨o,b,n,c,f,d,g,r⟩
 ·obtain⟨z,b,r,p⟩:=h.ok I.hok
  exact⟨b,r,p,z⟩
 ·refine⟨b.toList,r,⟨o,I.Dd a o c,f,n,by simpa using d⟩,?_⟩
  have e:=r.length;simp only[g9] at e;lia
theorem Inv.P0(I:Inv X pins σ H s)(h:bN X.K H a xs)(h':bN X.K H a ys):xs=ys:=by
 obtain⟨c,r,⟨o,n,e,_,_,d⟩,_⟩:=I.list h;obtain⟨b,i,⟨j,k,f,_,_,g⟩,_⟩:=I.list h';rw[e] at f;cases f;rw[d] at g;injection g with d1 _
 have:c=b:=by simpa using ff Array.toList d1
 subst this;exact r.inj i
theorem Inv.Wg(I:Inv X pins σ H s)(h:cX X.K H a xs)(h':cX X.K H a ys):xs=ys:=by
 obtain⟨c,r,⟨o,e,_,n,d⟩,_⟩:=I.tuple h;obtain⟨b,i,⟨j,f,_,k,g⟩,_⟩:=I.tuple h';rw[e] at f;cases f;rw[d] at g;injection g with d1 _
 have:c=b:=by simpa using ff Array.toList d1
 subst this;exact r.inj i
end
abbrev Cx.LU(X:Cx)(E:Value->Shared->Prop):Cx:={X with xe:=E}
abbrev Cx.n7(X:Cx):Cx:=X.LU λ_ _=>False
theorem Cx.Ok.LU{X:Cx}(ok:X.Ok)(E:Value->Shared->Prop):(X.LU E).Ok :=
 ⟨ok.mod,ok.kind,ok.glob,ok.blt,ok.above,ok.inj,ok.has,ok.R1,ok.hd,ok.frames,ok.stk,ok.exf,ok.bs,ok.Yv,ok.Wf,ok.Yw,ok.Em,ok.qc⟩
theorem Cx.Ok.As{X:Cx}(ok:(X.LU E).Ok):X.Ok :=
 ⟨ok.mod,ok.kind,ok.glob,ok.blt,ok.above,ok.inj,ok.has,ok.R1,ok.hd,ok.frames,ok.stk,ok.exf,ok.bs,ok.Yv,ok.Wf,ok.Yw,ok.Em,ok.qc⟩
section
variable{X:Cx}{pins:List (Addr×Obj)}{σ:St}{H:Hp}{s:Shared}{E:Value->Shared->Prop}
theorem Inv.LU(I:Inv X pins σ H s)(E:Value->Shared->Prop):Inv (X.LU E) pins σ H s:=⟨I.ok.LU E,I.os,I.bare,I.base,I.loc,I.cell,I.free,I.xQ,I.pin,I.hok,I.len⟩
theorem Inv.As(I:Inv (X.LU E) pins σ H s):Inv X pins σ H s:=⟨I.ok.As,I.os,I.bare,I.base,I.loc,I.cell,I.free,I.xQ,I.pin,I.hok,I.len⟩
theorem SP.As(h:SP (X.LU E) pins D f s'):SP X pins D f s':=by
 cases f with
 |next=>obtain⟨a,b,I,q⟩:=h;exact⟨a,b,I.As,q⟩
 |brk=>obtain⟨a,b,I,q⟩:=h;exact⟨a,b,I.As,q⟩
 |cont=>obtain⟨a,b,I,q⟩:=h;exact⟨a,b,I.As,q⟩
 |ret u=>obtain⟨v,a,b,I,r,q⟩:=h;exact⟨v,a,b,I.As,r,q⟩
theorem iP.n7{st:List Stmt}(h:iP X.n7 st t):iP X st t:=λpins s σ H D I a =>
 wpAny_mono (h pins s σ H D (I.LU _) a) (λ_ _ q=>q.As) λ_ _ z=>kB z
end
section
variable{X:Cx}{st:Stmt}{rest:List Stmt}{t u:TS}{e:Expr}{te:TE}{pos:Pos}
def ahk:TS:=λD σ H=>D.nx σ H
def Yy(t u:TS):TS:=λD σ H=>t {D with nx:=u D} σ H
theorem bw:iP X [] ahk:=λ_ _ a H _ I h=>wpAny_execs_nil ⟨a,H,I,h⟩
theorem au(j:PS X st t)(g:iP X rest u):iP X (st::rest) (Yy t u):=by
 intro a s d H D I h;refine wpAny_execs_cons (ia (j a s d H {D with nx:=u D} I h) λf i q=>?_);cases f with
 |next =>
  obtain⟨b,c,e,q⟩:=q;exact g a i b c D e q
 |ret v=>exact q
 |brk=>exact q
 |cont=>exact q
theorem bz(c:PS X st t):iP X [st] t:=by
 intro a s b H D I h;refine wpAny_execs_cons (ia (c a s b H D I h) λf d q=>?_);cases f with
 |next=>exact wpAny_execs_nil q
 |ret v=>exact q
 |brk=>exact q
 |cont=>exact q
theorem Inv.quiet{H:Hp}(I:Inv X pins σ H s):interactive X.env=false:=by simp[interactive,I.ok.kind]
def ac8(te:TE):TS:=λD σ H=>te σ H λ_ H1=>D.nx σ H1
theorem fD(g:PE X e te)(hs:swapsWith e none pos.line X.env=pure false:=by rfl):PS X (.Expr e pos) (ac8 te):=by
 intro a s b H D I h;exact wpAny_Expr_any (ia (g a s b H _ I h) λv j ⟨x,d,f,i,c⟩=>⟨b,d,f,c⟩) I.quiet hs
def aeu(te:TE):TS:=λD σ H=>te σ H D.rt
theorem Yz(i:PE X e te):PS X (.Return (some e) pos) (aeu te):=by
 intro a s b H D I h;exact wpAny_Return_some (ia (i a s b H _ I h) λv j ⟨x,f,g,c,d⟩=>⟨x,b,f,g,c,d⟩)
def So(c:TT)(t u:TS):TS:=λD σ H=>c σ H λb H1=>if b=true then t D σ H1 else u D σ H1
theorem b6(n:PT X c tc)(l:iP X a t)(m:iP X b u):PS X (.If c a b pos) (So tc t u):=by
 intro e s f H D I h;refine wpAny_If (ia (n e s f H _ I h) λd j ⟨i,k,g⟩=>?_);cases d with
 |true=>exact l e j f i D k g
 |false=>exact m e j f i D k g
def aev:TS:=λ_ _ _=>False
theorem eN:iP X sts aev:=λ_ _ _ _ _ _ h=>h.elim
end
abbrev TG:=V->St->Hp->(St->Hp->Prop)->Prop
abbrev Bc:=List V->St->Hp->(St->Hp->Prop)->Prop
def PG(X:Cx)(target:Expr)(t:TG):Prop :=
 ∀(pins:List (Addr×Obj)) (s:Shared) (σ:St) (H:Hp) (v:V) (u:Value) (Q:St->Hp->Prop),Inv X pins σ H s->RelV v u->t v σ H Q ->
  wpAny (model X.prog X.w) X.A (assign target X.env u) (λ_ s'=>∃σ' H',Inv X pins σ' H' s'/\Q σ' H') X.xe s
def kg(X:Cx)(ts:List Expr)(t:Bc):Prop :=
 ∀(pins:List (Addr×Obj)) (s:Shared) (σ:St) (H:Hp) (vs:List V) (us:List Value) (Q:St->Hp->Prop),Inv X pins σ H s->cF vs us->t vs σ H Q ->
  wpAny (model X.prog X.w) X.A (assignInOrder ((assignEach ts X.env).map (·.2)) us) (λ_ s'=>∃σ' H',Inv X pins σ' H' s'/\Q σ' H') X.xe s
abbrev aex:=V->V->V->Hp->(Hp->Prop)->Prop
def ahl(X:Cx)(t:aex):Prop :=
 ∀(pins:List (Addr×Obj)) (s:Shared) (σ:St) (H:Hp) (o i v:V) (ov iv u:Value) (Q:Hp->Prop),Inv X pins σ H s->RelV o ov->RelV i iv->RelV v u->t o i v H Q ->
  wpAny (model X.prog X.w) X.A (setItem ov iv u) (λ_ s'=>∃H',Inv X pins σ H' s'/\Q H') X.xe s
section
variable{X:Cx}{pos:Pos}
def iO(i:Nat):TG:=λv σ H Q=>Q (σ.set i (some v)) H
theorem UH{i:Nat}(b:X.N.Nodup)(c:X.N[i]?=some x)(d:Loc X.env.scope x)(e:X.fn x=true∨X.env.scope.names.lookup x=some .local:=by first|exact .inl rfl|exact .inr rfl|assumption):PG X (.Name x pos) (iO i):=by
 intro a s g H v u Q I r h;exact wpAny_assign_Name (Eo I b c d r (λj f=>⟨_,H,f,h⟩) e)
def alf:Bc:=λvs σ H Q=>vs=[]/\Q σ H
inductive ac9(t:TG)(u:Bc)(vs:List V)(σ:St)(H:Hp)(Q:St->Hp->Prop):Prop
 |mk (v:V) (r:List V) (a:vs=v::r) (b:t v σ H λσ' H'=>u r σ' H' Q):ac9 t u vs σ H Q
theorem IJ:kg X [] alf:=by
 intro a s b H c d Q I r h;obtain⟨e,h⟩:=h;subst e;cases r;exact assignInOrder_nil ⟨b,H,I,h⟩
theorem qO{e:Expr}{b:List Expr}{t:TG}{u:Bc}(k:PG X e t)(i:kg X b u)
 (hs:(assignEach (e::b) X.env).map (·.2)=assign e X.env::(assignEach b X.env).map (·.2):=by rfl):kg X (e::b) (ac9 t u):=by
 intro a s d H p o Q I r h;obtain⟨v,q,n,h⟩:=h;subst n;cases r with
 |cons r m =>
  rw[hs];refine assignInOrder_cons (ia (k a s d H _ _ _ I r h) λ_ j ⟨c,l,f,g⟩=>?_);exact i a j c l _ _ Q f m g
inductive aey(K:ah)(n:Nat)(t:Bc)(v:V)(σ:St)(H:Hp)(Q:St->Hp->Prop):Prop
 |mk (a:Addr) (xs:List V) (h1:v=.ref a) (h2:cX K H a xs) (h3:xs.length=n) (h4:t xs σ H Q):aey K n t v σ H Q
theorem Sq{d:List Expr}{k:Nat}{t:Bc}{n:Nat}(C:X.calm=true)(h:kg X d t)
 (B:(assignEach d X.env).length=n:=by rfl) (f:(assignEach d X.env).findIdx? (·.1)=none:=by rfl):PG X (.Tuple d k pos) (aey X.K n t):=by
 intro c s i H v u Q I r g;obtain⟨a,l,A,q,x,g⟩:=g;subst A;cases r;obtain⟨p,j,y,D⟩:=I.tuple q;refine assign_Tuple_tuple (I.ok.hd C) y (by simp[B,<- x,j.length]) f λw z=>?_;have m:Inv X c i H {s with heap:=w}:=I.kept (t':=s.toks) λb o e=>z b o (bH (Heap.lt_size e)) e;exact h c _ i H l _ Q m (by simpa using j) g
def alg(to ti:TE)(t:aex):TG:=λv σ H Q=>to σ H λo H1=>ti σ H1 λi H2=>t o i v H2 λH3=>Q σ H3
theorem Ga{o i:Expr}{to e:TE}{t:aex}(E:PE X o to)(p:PE X i e)(hs:ahl X t)
 (l:∀v,assign (.Subscript o i pos) X.env v=(do
  let b <- holding [v] (eval o X.env);let c <- holding [v,b] (eval i X.env)
  standAt pos
  holding [v,b,c] (setItem b c v)
  release [v,b,c] []):=by intro _;rfl):PG X (.Subscript o i pos) (alg to e t):=by
 intro a s d H v u Q I r h;rw[l];refine wpAny_bind (wpAny_holding (ia (E a s d H _ I h) λb B ⟨x,D,j,q,m⟩=>?_));refine wpAny_bind (wpAny_holding (ia (p a B d D _ j m) λc k ⟨y,A,C,g,f⟩=>?_));refine wpAny_bind (wpAny_standAt (wpAny_bind (wpAny_holding (ia (hs a k d A x y v b c u _ C q g r f) λ_ F ⟨w,z,n⟩=>?_))));exact wpAny_release ⟨d,w,z,n⟩
def abb(te:TE)(g:TG):TS:=λD σ H=>te σ H λx H1=>g x σ H1 D.nx
theorem Au{b e:Expr}{d:TE}{g:TG}(k:PE X e d)(o:PG X b g)(hs:swapsWithSole [b] e pos.line X.env=pure false:=by rfl)(i:swappedStores [b] e X.env=pure none:=by rfl)
 (n:(assignEach [b] X.env).map (·.2)=[assign b X.env]:=by rfl):PS X (.Assign [b] e pos) (abb d g):=by
 intro a s c H D I h;refine wpAny_Assign_stores (ia (k a s c H _ I h) λv m ⟨x,p,f,l,j⟩=>?_) hs i;rw[n];exact ia (o a m c p x v _ f l j) λ_ r q=>q
theorem aez{i:Nat}{x:Str}{e:Expr}{c:TE}{a:Pos}(d:X.N.Nodup)(k:X.N[i]?=some x)(m:Loc X.env.scope x)(l:PE X e c)(hs:swapsWith e (some (.Name x a)) pos.line X.env=pure false:=by rfl)(q:X.fn x=true∨X.env.scope.names.lookup x=some .local:=by first|exact .inl rfl|exact .inr rfl|assumption) :
 PS X (.Assign [.Name x a] e pos) (abb c (iO i)):=by
 intro b s f H D I h;refine wpAny_Assign_Name (ia (l b s f H _ I h) λv t ⟨y,p,g,n,j⟩=>?_) hs;exact Eo g d k m n (λr o=>⟨_,p,o,j⟩) q
def alh(i j:Nat)(ta:TA):TS:=λD σ H=>ta σ H λvs H1=>∃v w,vs=[v,w]/\D.nx ((σ.set i (some v)).set j (some w)) H1
theorem aeA{i j:Nat}{x y:Str}{a b:Expr}{J:TA}{u k r:Pos}{kt k2 pt2}(hc:X.calm=true)(z:X.N.Nodup)(P:X.N[i]?=some x)(V:X.N[j]?=some y)(m:i≠j)
 (E:X.env.scope.names.lookup x=some .local) (G:X.env.scope.names.lookup y=some .local) (M:PA X [a,b] J)
 (L:swappedStores [.Tuple [.Name x u,.Name y k] kt r] (.Tuple [a,b] k2 pt2) X.env=pure (some [x,y]))
 (hs:swapsWithSole [.Tuple [.Name x u,.Name y k] kt r] (.Tuple [a,b] k2 pt2) pos.line X.env=pure false:=by rfl) :
 PS X (.Assign [.Tuple [.Name x u,.Name y k] kt r] (.Tuple [a,b] k2 pt2) pos) (alh i j J):=by
 intro c s B H D I h;rw[exec_Assign_arm];refine wpAny_bind (wpAny_standAt ?_);rw[hs];refine wpAny_bind (wpAny_pure ?_);rw[b3 (!_)];refine wpAny_bind (Tuple_ (ia (M _ c s B H _ I h) λU g ⟨vs,F,K,R,n⟩=>?_));obtain⟨v,w,W,n⟩:=n;subst W;obtain⟨d,f,rfl,Y,l⟩:∃d f,U=[d,f]/\RelV v d/\RelV w f:=by
  cases R with
  |cons p q =>
   cases q with
   |cons Z Q =>
    cases Q;exact⟨_,_,rfl,p,Z⟩
 refine wpAny_newObj_type ?_ fy;have T:Inv X c B F {g with heap:=g.heap.push {cls:=.type "tuple",data:=.seq [d,f].toArray}}:=K.kept (t':=g.toks) λb o e=>Heap.get?_push_of_some _ e;rw[L];refine wpAny_bind (wpAny_pure ?_);show wpAny (model X.prog X.w) X.A (do rule "assign.swapped-stores";let items <- unpackItems (.ref g.heap.objs.size) 2 none;assignInOrder [λv=>bindName X.env y v,λv=>bindName X.env x v] items.reverse;pure Flow.next) _ _ _;refine wpAny_bind (wpAny_rule (wpAny_bind (unpackItems_tuple (items:=#[d,f]) (I.ok.hd hc) (IsTup.new g.heap _) λh' t=>?_)));have S:=T.kept (h':=h') (t':=g.toks) λb o e=>t b o (bH (Heap.lt_size e)) e;show wpAny _ _ (assignInOrder [λv=>bindName X.env y v,λv=>bindName X.env x v] [f,d] >>= λ_=>pure Flow.next) _ _ _;refine wpAny_bind (assignInOrder_cons (wpAny_bindName (Eo S z V (.inl G) l (λs2 O=>?_) (.inr G))));refine assignInOrder_cons (wpAny_bindName (Eo O z P (.inl E) Y (λs3 C=>assignInOrder_nil (wpAny_pure ?_)) (.inr E)));rw[List.set_comm _ _ (bO m)] at C;exact⟨_,F,C,n⟩
def YA(c:TT)(tb:TS):TS:=λD σ H=>∃W:Nat->St->Hp->Prop,(∃m,W m σ H)/\∀m σ H,W m σ H ->
 c σ H λb H1=>if b=true then ∃N:St->Hp->Prop,(∀σ' H',N σ' H'->∃m',m'<m/\W m' σ' H')/\tb {D with nx:=N,ct:=N,bk:=D.nx} σ H1 else D.nx σ H1
theorem YB(B:PassesOwn (model X.prog X.w) X.A X.env X.xe)(P:PT X c tc)(O:iP X body tb):PS X (.While c body [] pos) (YA tc tb):=by
 intro d s C H D I h;obtain⟨W,⟨K,J⟩,g⟩:=h;refine wpAny_While (codeAny_whileLoop (λn E=>∃j u,Inv X d j u E/\W n j u) ?_ K ⟨C,H,I,J⟩);rintro n L ⟨e,z,F,M⟩;refine wpAny_passesOwn B (ia (P d L e z _ F (g n e z M)) λb G ⟨x,y,k⟩=>?_);cases b with
 |true =>
  obtain⟨N,t,k⟩:=k;rw[aq rfl];refine wpAny_passesOwn B (ia (O d G e x _ y k) λf Q l=>?_);cases f with
  |next =>
   obtain⟨a,i,p,o⟩:=l;obtain⟨m,q,r⟩:=t a i o;exact⟨m,q,a,i,p,r⟩
  |cont =>
   obtain⟨a,i,p,o⟩:=l;obtain⟨m,q,r⟩:=t a i o;exact⟨m,q,a,i,p,r⟩
  |brk=>exact l
  |ret v=>exact l
 |false =>
  rw[b3 aI];exact wpAny_execs_nil ⟨e,x,y,k⟩
end
structure It where
 go:Nat->Hp->Prop
 P1:Nat->Hp->V->Hp->Prop
 stop:Nat->Hp->Prop
def Eu(X:Cx)(pins:List (Addr×Obj))(H:Hp)(b:Addr):Prop :=
 H b=none/\b≠X.env.locals/\b∉X.fs/\(b∈X.ex∨X.s₀.heap.objs.size<=b)/\(∀x c,X.env.cells.lookup x=some c->c≠b)/\∀p∈X.pn++pins,p.1≠b
theorem Inv.abc{H d:Hp}{b:Addr}(I:Inv X pins σ H s)(a:s.heap.objs.size<=b)(g:d b=none):Eu X pins d b:=by
 refine⟨g,Nat.ne_of_gt (bU I.lt a),I.ak6 a,.inr (aN I.sz a),λx c e z=>?_,λp f z=>?_⟩
 ·obtain⟨v,q⟩:=I.cell x c e
  exact cy (bU q.lt (by rw[z];exact a)) (iz _)
 ·exact cy (bU (Heap.lt_size (I.pin p f).1) (by rw[z];exact a)) (iz _)
structure Turn(P:Program)(w:World)(K:ah)(tg:Expr)(J:It)(fp:List Addr)(it:Addr)(tn:Nat->Heap->Prop):Prop where
 mem:it∈fp
 obj:∀i h,tn i h->∀b∈fp,∃o,h.get? b=some o/\∀v,o.data≠.cell v
 keep:∀i h h',tn i h->(∀b∈fp,∀o,h.get? b=some o->h'.get? b=some o)->tn i h'
 item:∀(X:Cx),X.prog=P->X.w=w->X.K=K->X.calm=true->∀(i:Nat) (pins:List (Addr×Obj)) (s:Shared) (σ:St) (H:Hp) (E:Value->Shared->Prop),Inv X pins σ H s->(∀b∈fp,Eu X pins H b)->tn i s.heap->J.go i H ->
  wpAny (model P w) X.A (pyNext (.ref it)) (λr s1=>∃u,r=some u /\
   wpAny (model P w) X.A (letOwnedTupleGo tg (.ref it) u) (λ_ s2=>∃x H',Inv X pins σ H' s2/\RelV x u/\J.P1 i H x H'/\tn (i+1) s2.heap/\∀b∈fp,H' b=none) E s1) E s
 done:∀(X:Cx),X.prog=P->X.w=w->X.K=K->X.calm=true->∀(i:Nat) (pins:List (Addr×Obj)) (s:Shared) (σ:St) (H:Hp) (E:Value->Shared->Prop),Inv X pins σ H s->(∀b∈fp,Eu X pins H b)->tn i s.heap->J.stop i H ->
  wpAny (model P w) X.A (pyNext (.ref it)) (λr s1=>r=none/\Inv X pins σ H s1) E s
 self:∀(A:Around) (i:Nat) (s:Shared) (Q:Value->Shared->Prop) (E:Value->Shared->Prop),tn i s.heap->Q (.ref it) s->wpAny (model P w) A (pyIter (.ref it)) Q E s
abbrev TI:=St->Hp->(It->Hp->Prop)->Prop
def PIE(X:Cx)(pins:List (Addr×Obj))(σ:St)(tg:Expr)(R:It->Hp->Prop)(itv:Value)(s2:Shared):Prop :=
 ∃(it:Addr) (fp:List Addr) (tn:Nat->Heap->Prop) (J:It) (H':Hp),itv=.ref it/\Inv X pins σ H' s2/\Turn X.prog X.w X.K tg J fp it tn/\tn 0 s2.heap/\(∀b∈fp,Eu X pins H' b)/\R J H'
def PI(X:Cx)(tg iter:Expr)(wi:TI):Prop :=
 ∀(pins:List (Addr×Obj)) (s:Shared) (σ:St) (H:Hp) (R:It->Hp->Prop),Inv X pins σ H s->wi σ H R ->
  wpAny (model X.prog X.w) X.A (eval iter X.env) (λv s1=>wpAny (model X.prog X.w) X.A (pyIter v) (PIE X pins σ tg R) X.xe s1) X.xe s
theorem YC{M:Model}{A:Around}{E:Value->Shared->Prop}{s:Shared}{b:Expr}{c:Addr}{u:Value}{o:Obj}{n:String}{vs:Array Value}{Q:Unit->Shared->Prop}(e:s.heap.get? c=some o)(g:o.cls=.type n)(d:o.data=.fields vs)
 (f:["enumerate","zip","dict_itemiterator","dict_reverseitemiterator","odict_iterator","itertools.zip_longest","itertools.pairwise"].contains n=false) (a:Q () s):wpAny M A (letOwnedTupleGo b (.ref c) u) Q E s:=by
 unfold letOwnedTupleGo;cases b <;> first
  |exact wpAny_pure a
  | (cases u <;> first
   |exact wpAny_pure a
   | (refine wpAny_bind (wpAny_load e ?_)
      rw[g,d];show wpAny M A (if (["enumerate","zip","dict_itemiterator","dict_reverseitemiterator","odict_iterator","itertools.zip_longest","itertools.pairwise"].contains n&&vs[0]?==some (rawInt _))=true then _ else _) Q E s;rw[b3 (by intro h;rw[f,Bool.false_and] at h;cases h)];exact wpAny_pure a))
def Oe(K:ah)(a:Addr):It :=
 ⟨λi H=>∃xs x,bN K H a xs/\xs[i]?=some x,λi H x H'=>H'=H/\∀xs,bN K H a xs->xs[i]?=some x,λi H=>∃xs,bN K H a xs/\xs.length<=i⟩
def Itt(K:ah)(a:Addr):It :=
 ⟨λi H=>∃xs x,cX K H a xs/\xs[i]?=some x,λi H x H'=>H'=H/\∀xs,cX K H a xs->xs[i]?=some x,λi H=>∃xs,cX K H a xs/\xs.length<=i⟩
def YD(lo:Int)(n:Nat):It:=⟨λi _=>i<n,λi H x H'=>H'=H/\x=.int (lo+i),λi _=>n<=i⟩
theorem Wh{P:Program}{w:World}{K:ah}{V:Expr}(a j:Addr):Turn P w K V (Oe K a) [j] j (λi h=>h.IsListIter j a i) where
 mem:=-_
 obj:=λi h st b g=>by
  have e:b=j:=by simpa using g
  subst e;obtain⟨o,e,c,d⟩:=st;exact⟨o,e,λv z=>by rw[d] at z;cases z⟩
 keep:=λi h n st k=>st.at λo e=>k j (-_) o e
 item:=by
  intro X F C D O i f s N H E I q st J;subst F C D;obtain⟨Q,x,m,G⟩:=J;obtain⟨B,M,p,W⟩:=I.list m;obtain⟨u,S,R⟩:=M.get G;obtain⟨t,r,f2,L,A,y⟩:=q j (-_);refine wpAny_pyNext_list_item st p.isList (x:=u) (by simpa using S) λn l U=>?_;have T:Inv X f N H {s with heap:=n}:=I.turned (t':=s.toks) (λb o g e=>(U.2 b g).trans e) t r L A y;obtain⟨o,e,c,d⟩:=id l;exact⟨u,rfl,YC (s:={s with heap:=n}) e c d (!_) ⟨x,H,T,R,⟨rfl,λys Y=>by rw[I.P0 Y m];exact G⟩,l,λb g=>(q b g).1⟩⟩
 done:=by
  intro X F C D O i f s N H E I q st J;subst F C D;obtain⟨Q,m,G⟩:=J;obtain⟨B,M,p,W⟩:=I.list m;obtain⟨t,r,f2,L,A,y⟩:=q j (-_);have hl:=M.length;exact wpAny_pyNext_list_end (I.ok.hd O) st p.isList (by simp;lia) λn Z=>⟨rfl,I.turned (t':=s.toks) (λb o g e=>Z b o g e) t r L A y⟩
 self:=λ_ _ _ _ _ st h=>wpAny_pyIter_listiter st h
theorem Ss{P:Program}{w:World}{K:ah}{V:Expr}(a l:Addr):Turn P w K V (Itt K a) [l] l (λi h=>h.IsTupleIter l a i) where
 mem:=-_
 obj:=λi h st b g=>by
  have e:b=l:=by simpa using g
  subst e;obtain⟨o,e,c,d⟩:=st;exact⟨o,e,λv z=>by rw[d] at z;cases z⟩
 keep:=λi h q st k=>st.at λo e=>k l (-_) o e
 item:=by
  intro X F C D O i f s N H E I r st J;subst F C D;obtain⟨Q,x,n,G⟩:=J;obtain⟨j,M,p,W⟩:=I.tuple n;obtain⟨u,S,R⟩:=M.get G;obtain⟨y,t,f2,L,B,A⟩:=r l (-_);refine wpAny_pyNext_tuple_item st (show s.heap.IsTuple a j.toArray from p) (x:=u) (by simpa using S) λq m U=>?_;have T:Inv X f N H {s with heap:=q}:=I.turned (t':=s.toks) (λb o g e=>(U.2 b g).trans e) y t L B A;obtain⟨o,e,c,d⟩:=id m;exact⟨u,rfl,YC (s:={s with heap:=q}) e c d (!_) ⟨x,H,T,R,⟨rfl,λys Y=>by rw[I.Wg Y n];exact G⟩,m,λb g=>(r b g).1⟩⟩
 done:=by
  intro X F C D O i f s N H E I r st J;subst F C D;obtain⟨Q,n,G⟩:=J;obtain⟨j,M,p,W⟩:=I.tuple n;obtain⟨y,t,f2,L,B,A⟩:=r l (-_);have hl:=M.length;exact wpAny_pyNext_tuple_end (I.ok.hd O) st (show s.heap.IsTuple a j.toArray from p) (by simp;lia) λq Z=>⟨rfl,I.turned (t':=s.toks) (λb o g e=>Z b o g e) y t L B A⟩
 self:=λ_ _ _ _ _ st h=>wpAny_pyIter_tupleiter st h
theorem Su{P:Program}{w:World}{K:ah}{M:Expr}(a:Addr)(lo:Int)(n:Nat):Turn P w K M (YD lo n) [a] a (λi h=>IsRangeIter h a (lo+(i:Nat)*1) ((n:Int)-(i:Nat)) 1) where
 mem:=-_
 obj:=λi h st b d=>by
  have e:b=a:=by simpa using d
  subst e;exact⟨_,st,λv z=>by
   have J:Data.fields _=Data.cell v:=z;cases J⟩
 keep:=λi h g st k=>k a (-_) _ st
 item:=by
  intro X x r u B i c s C H E I j st y;subst x r u;obtain⟨m,l,O,A,q,p⟩:=j a (-_);have W:=Walks.range (prog:=X.prog) (w:=X.w) (I.ok.hd B) a lo 1 n;refine W.item i s _ _ y st λv g D G f L=>?_;obtain⟨t,rfl⟩:=G;have F:Inv X c C H {s with heap:=g,toks:=D}:=I.turned (λb o d e=>L b o (by simpa using d) e) m l A q p;refine⟨_,rfl,YC (s:={s with heap:=g,toks:=D}) (n:="range_iterator") f rfl rfl (!_) ⟨.int (lo+i),H,F,⟨t,?_⟩,⟨rfl,rfl⟩,f,λb d=>(j b d).1⟩⟩;rw[Int.mul_one]
 done:=by
  intro X x r u B i c s C H E I j st y;subst x r u;obtain⟨m,l,O,A,q,p⟩:=j a (-_);exact wpAny_pyNext_range_end (I.ok.hd B) st (by have:n<=i:=y;lia) λg N=>⟨rfl,I.turned (t':=s.toks) (λb o d e=>N b o d e) m l A q p⟩
 self:=λ_ _ _ _ _ st h=>wpAny_pyIter_rangeiter st h
section
variable{X:Cx}{tg:Expr}
inductive ada(K:ah)(R:It->Hp->Prop)(x:V)(H1:Hp):Prop
 |mk (a:Addr) (h1:x=.ref a) (h2:∃xs,bN K H1 a xs) (h3:R (Oe K a) H1):ada K R x H1
def ahm(K:ah)(tl:TE):TI:=λσ H R=>tl σ H (ada K R)
def alj(K:ah)(tl:TE):TI:=λσ H R=>tl σ H λx H1=>∃a,x=.ref a/\(∃xs,cX K H1 a xs)/\R (Itt K a) H1
theorem fE(hl:PE X l tl):PI X tg l (ahm X.K tl):=by
 intro c s g H R I h;refine ia (hl c s g H _ I h) λv f ⟨x,n,d,m,k⟩=>?_;obtain⟨a,e,⟨t,j⟩,q⟩:=k;subst e;cases m;obtain⟨i,w,p,u⟩:=d.list j;refine wpAny_pyIter_list p.isList ?_;refine⟨f.heap.objs.size,[f.heap.objs.size],_,_,n,rfl,d.kept (t':=f.toks) λb o e=>Heap.get?_push_of_some _ e,Wh a _,⟨_,Heap.get?_push_size _ rfl,rfl,rfl⟩,λb r=>?_,q⟩;have e:b=f.heap.objs.size:=by simpa using r
 subst e;exact d.abc (az _) (d.hok.fresh (az _))
theorem Sv(hl:PE X l tl):PI X tg l (alj X.K tl):=by
 intro d s i H R I h;refine ia (hl d s i H _ I h) λv c ⟨x,n,f,m,k⟩=>?_;obtain⟨a,e,⟨t,j⟩,q⟩:=k;subst e;cases m;obtain⟨g,w,p,u⟩:=f.tuple j;refine wpAny_pyIter_tuple (show c.heap.IsTuple a g.toArray from p) ?_;refine⟨c.heap.objs.size,[c.heap.objs.size],_,_,n,rfl,f.kept (t':=c.toks) λb o e=>Heap.get?_push_of_some _ e,Ss a _,⟨_,Heap.get?_push_size _ rfl,rfl,rfl⟩,λb r=>?_,q⟩;have e:b=c.heap.objs.size:=by simpa using r
 subst e;exact f.abc (az _) (f.hok.fresh (az _))
theorem YE{c:List (Addr×Obj)}{d:St}{H:Hp}{s:Shared}{R:It->Hp->Prop}{E:Value->Shared->Prop}{lo a:Int}{t u v:Tok}{tk:Nat}(I:Inv X c d H s)(k:-(2^62)<=lo)(j:lo<2^62)(h:-(2^62)<=a)(g:a<2^62)
 (q:R (YD lo (a-lo).toNat) H):wpAny (model X.prog X.w) X.A (pyIter (.ref s.heap.objs.size)) (PIE X c d tg R) E {s with heap:=s.heap.push {cls:=.type "range",data:=.fields #[.int lo t,.int a u,.int 1 v]},toks:=tk}:=by
 refine wpAny_pyIter_range (IsRange.new ..) (small_one k j h g) ?_;have f:Inv X c d H {s with heap:=s.heap.push {cls:=.type "range",data:=.fields #[.int lo t,.int a u,.int 1 v]},toks:=tk}:=I.kept λb o e=>Heap.get?_push_of_some _ e;refine⟨(s.heap.push {cls:=.type "range",data:=.fields #[.int lo t,.int a u,.int 1 v]}).objs.size,[(s.heap.push {cls:=.type "range",data:=.fields #[.int lo t,.int a u,.int 1 v]}).objs.size],_,_,H,rfl,
  f.kept (t':=tk) λb o e=>Heap.get?_push_of_some _ e,Su _ lo (a-lo).toNat,?_,λb m=>?_,q⟩
 ·have l:lo+((0:Nat):Int)*1=lo:=-_
  have i:(((a-lo).toNat:Nat):Int)-((0:Nat):Int)=Builtin.Range.rangeSize lo a 1:=by rw[rangeSize_one];split <;> lia
  show IsRangeIter _ _ (lo+((0:Nat):Int)*1) ((((a-lo).toNat:Nat):Int)-((0:Nat):Int)) 1;rw[l,i];exact Heap.get?_push_size _ rfl
 ·have e:b=(s.heap.push {cls:=.type "range",data:=.fields #[.int lo t,.int a u,.int 1 v]}).objs.size:=by simpa using m
  subst e;exact f.abc (az _) (f.hok.fresh (az _))
inductive adb(R:It->Hp->Prop)(vs:List V)(H1:Hp):Prop
 |mk (j:Int) (h1:vs=[.int j]) (h2:-(2^62)<=j) (h3:j<2^62) (h4:R (YD 0 j.toNat) H1):adb R vs H1
def ahn(ta:TA):TI:=λσ H R=>ta σ H (adb R)
theorem fz{a:Expr}{p:Pos}(m:Gl X "range")(l:X.mg "range" = none)(i:PA X [a] ta)(hs:starEach [a] X.env=[(false,eval a X.env)]:=by rfl):PI X tg (.Call (.Name "range" p) [a] [] pos) (ahn ta):=by
 intro b s f H R I h;refine Call_ (Jg I m l boot_range (PyProof.Rows.callWith_type1 (ia (i pos b s f H _ I h) λu o ⟨w,v,g,k,c⟩=>?_) hs rfl));obtain⟨j,e,c,d,q⟩:=c;subst e;cases k with
 |cons r n =>
  cases n;obtain⟨t,rfl⟩:=r;exact call_range_1 (YE g ∅ ∅ c d (by simpa using q))
def aho(wi:TI)(g:TG)(tb:TS):TS:=λD σ H=>wi σ H λJ H1=>∃W:Nat->Nat->St->Hp->Prop,(∃m,W 0 m σ H1)/\∀i m σ H,W i m σ H ->
 (J.stop i H/\D.nx σ H)∨(J.go i H/\∃N:St->Hp->Prop,(∀σ' H',N σ' H'->∃m',m'<m/\W (i+1) m' σ' H')/\∀x H',J.P1 i H x H'->g x σ H' λσ2 H2=>tb {D with nx:=N,ct:=N,bk:=D.nx} σ2 H2)
def Ji(fp:List Addr)(h:Heap):List (Addr×Obj):=fp.filterMap λb=>(h.get? b).map λo=>(b,o)
theorem Df{fp:List Addr}{h:Heap}{b:Addr}(a:b∈fp)(e:h.get? b=some o):(b,o)∈Ji fp h:=iM.mpr ⟨b,a,by rw[e];rfl⟩
theorem Wi{p:Addr×Obj}(c:p∈Ji fp h):p.1∈fp/\h.get? p.1=some p.2:=by
 obtain⟨b,d,e⟩:=iM.mp c;cases q:h.get? b with
 |none=>rw[q] at e;cases e
 |some o =>
  rw[q] at e;have a:(b,o)=p:=aJ e;subst a;exact⟨d,q⟩
theorem Inv.pinned{H:Hp}{fp:List Addr}(I:Inv X pins σ H s)(k:∀b∈fp,Eu X pins H b)(h:∀b∈fp,∃o,s.heap.get? b=some o/\∀v,o.data≠.cell v):Inv X (pins++Ji fp s.heap) σ H s :=
 I.UG λp i=>(aU.mp i).elim (λz=>I.pin p (bP _ z)) λz=>by
  obtain⟨a,e⟩:=Wi z;obtain⟨g,f,j,_⟩:=k p.1 a;obtain⟨o,c,d⟩:=h p.1 a;rw[e] at c;cases c;exact⟨e,g,f,j,d⟩
theorem Inv.Ew{a pl:List (Addr×Obj)}{H:Hp}(I:Inv X (a++pl) σ H s):Inv X a σ H s:=I.UG λp b=>I.pin p (bP _ (bY _ b))
theorem aeB{k:Expr}{C:List Stmt}{wi:TI}{g:TG}{tb:TS}{Q:Pos}(O:PassesOwn (model X.prog X.w) X.A X.env X.xe)(hc:X.calm=true)(hi:PI X tg k wi)(hg:PG X tg g)(l:iP X C tb)
 (hs:∀x,foldedSetIterable k X.env x=pure x:=by intro _;rfl):PS X (.For tg k C [] Q) (aho wi g tb):=by
 intro a s σ H D I h;refine wpAny_For (ia (hi a s σ H _ I h) λv s1 h1=>ia h1 λitv s2 h2=>?_) hs;obtain⟨it,G,tn,J,H2,e,I2,T,Y,f2,W,⟨m0,w0⟩,L⟩:=h2;subst e;have y:∀{z:Hp},(∀b∈G,z b=none)->∀b∈G,Eu X a z b:=λhn b l=>⟨hn b l,(f2 b l).2⟩;refine codeAny_forLoop_any (λn s'=>∃i t z,Inv X a t z s'/\tn i s'.heap/\(∀b∈G,z b=none)/\W i n t z) ?_ m0 ⟨0,σ,H2,I2,Y,λb l=>(f2 b l).1,w0⟩;rintro n s3 ⟨i,p,P,I3,E,M,w3⟩;rcases L i n p P w3 with ⟨F,qn⟩|⟨go,N,hN,step⟩
 ·refine wpAny_passesOwn O (ia (T.done X rfl rfl rfl hc i a s3 p P X.xe I3 (y M) E F) λr s4 ⟨V,I4⟩=>?_)
  subst V;exact wpAny_execs_nil ⟨p,P,I4,qn⟩
 ·refine wpAny_passesOwn O (ia (T.item X rfl rfl rfl hc i a s3 p P X.xe I3 (y M) E go) λr s4 ⟨u,V,h4⟩=>?_)
  subst V;refine wpAny_passesOwn O (ia h4 λ_ s5 ⟨x,H5,I5,r5,y5,U,R⟩=>?_);have S:=I5.pinned (y R) (T.obj _ _ U);refine wpAny_passesOwn O (ia (hg _ s5 p H5 x u _ S r5 (step x H5 y5)) λ_ s6 ⟨σ6,H6,I6,q6⟩=>?_);refine wpAny_passesOwn O (ia (l _ s6 σ6 H6 _ I6 q6) λf Z B=>?_);have again:∀{c:St} {j:Hp},Inv X (a++Ji G s5.heap) c j Z->N c j->∃m,m<n/\∃i t z,Inv X a t z Z/\tn i Z.heap/\(∀b∈G,z b=none)/\W i m t z:=λ{c j} q K=>by
   obtain⟨m',hm,w7⟩:=hN c j K;refine⟨m',hm,i+1,c,j,q.Ew,T.keep _ _ _ U λb l o e=>(q.pin (b,o) (bP _ (bP _ (Df l e)))).1,λb l=>?_,w7⟩;obtain⟨o,e,d⟩:=T.obj _ _ U b l;exact (q.pin (b,o) (bP _ (bP _ (Df l e)))).2.1
  cases f with
  |next=>obtain⟨c,j,q,K⟩:=B;exact again q K
  |cont=>obtain⟨c,j,q,K⟩:=B;exact again q K
  |brk=>obtain⟨c,j,q,B⟩:=B;exact⟨c,j,q.Ew,B⟩
  |ret v=>obtain⟨x7,c,j,q,r7,B⟩:=B;exact⟨x7,c,j,q.Ew,r7,B⟩
end
theorem tM{K:ah}{a:Addr}{xs:List V}{g:TG}{l:TS}{D:Ends}{b:St}{H:Hp}(c:Nat->St->Hp->Prop)(s:c 0 b H)(hl:∀i b H,i<=xs.length->c i b H->bN K H a xs)
 (hs:∀i x b H,xs[i]?=some x->c i b H->g x b H λf k=>l {D with nx:=c (i+1),ct:=c (i+1),bk:=D.nx} f k) (t:∀b H,c xs.length b H->D.nx b H) :
 ∃W:Nat->Nat->St->Hp->Prop,(∃m,W 0 m b H)/\∀i m b H,W i m b H ->
  ((Oe K a).stop i H/\D.nx b H)∨((Oe K a).go i H/\∃N:St->Hp->Prop,(∀h d,N h d->∃n,n<m/\W (i+1) n h d)/\∀x d,(Oe K a).P1 i H x d->g x b d λf k=>l {D with nx:=N,ct:=N,bk:=D.nx} f k):=by
 refine⟨λi m b H=>m=xs.length-i/\i<=xs.length/\c i b H,⟨xs.length,-_,aX _,s⟩,?_⟩;rintro i m b H ⟨rfl,o,p⟩;have q:=hl i b H o p;by_cases j:i<xs.length
 ·refine .inr ⟨⟨xs,xs[i],q,by simp[j]⟩,c (i+1),λh d r=>⟨xs.length-(i+1),∅,rfl,j,r⟩,λx d y=>?_⟩
  obtain⟨e,y⟩:=y;subst e;exact hs i x b _ (y xs q) p
 ·have e:i=xs.length:=∅
  subst e;exact .inl ⟨⟨xs,q,az _⟩,t b H p⟩
theorem xS{lo:Int}{n:Nat}{g:TG}{k:TS}{D:Ends}{a:St}{H:Hp}(f:Nat->St->Hp->Prop)(o:f 0 a H)
 (hs:∀i a H,i<n->f i a H->g (.int (lo+i)) a H λc j=>k {D with nx:=f (i+1),ct:=f (i+1),bk:=D.nx} c j) (r:∀a H,f n a H->D.nx a H) :
 ∃W:Nat->Nat->St->Hp->Prop,(∃m,W 0 m a H)/\∀i m a H,W i m a H ->
  ((YD lo n).stop i H/\D.nx a H)∨((YD lo n).go i H/\∃N:St->Hp->Prop,(∀d b,N d b->∃l,l<m/\W (i+1) l d b)/\∀x b,(YD lo n).P1 i H x b->g x a b λc j=>k {D with nx:=N,ct:=N,bk:=D.nx} c j):=by
 refine⟨λi m a H=>m=n-i/\i<=n/\f i a H,⟨n,-_,aX _,o⟩,?_⟩;rintro i m a H ⟨rfl,s,p⟩;by_cases h:i<n
 ·refine .inr ⟨h,f (i+1),λd b q=>⟨n-(i+1),∅,rfl,h,q⟩,λx b y=>?_⟩
  obtain⟨e,y⟩:=y;subst e y;exact hs i a _ h p
 ·have e:i=n:=∅
  subst e;exact .inl ⟨az _,r a H p⟩
theorem YG{c:TT}{j:TS}{D:Ends}{a:St}{H:Hp}(i:St->Hp->Prop)(g:St->Hp->Nat)(o:i a H)
 (hs:∀a H,i a H->c a H λb f=>if b=true then j {D with nx:=λd e=>i d e/\g d e<g a H,ct:=λd e=>i d e/\g d e<g a H,bk:=D.nx} a f else D.nx a f)
 (h:∀a H Q k,(∀b f,Q b f->k b f)->c a H Q->c a H k):YA c j D a H:=by
 refine⟨λm a H=>m=g a H/\i a H,⟨_,rfl,o⟩,?_⟩;rintro m a H ⟨rfl,p⟩;refine h a H _ _ (λb f q=>?_) (hs a H p);cases b with
 |true=>exact⟨_,λd e ⟨n,l⟩=>⟨_,l,rfl,n⟩,q⟩
 |false=>exact q
abbrev R2:=V->V->Hp->VK->Prop
def yH(X:Cx)(f:Value->Value->Sem Value)(r:R2):Prop :=
 ∀(pins:List (Addr×Obj)) (s:Shared) (σ:St) (H:Hp) (x y:V) (v u:Value) (Q:VK),Inv X pins σ H s->RelV x v->RelV y u->r x y H Q ->
  wpAny (model X.prog X.w) X.A (f v u) (EP X pins σ Q) X.xe s
def UnR(X:Cx)(f:Value->Sem Value)(r:V->Hp->VK->Prop):Prop :=
 ∀(pins:List (Addr×Obj)) (s:Shared) (σ:St) (H:Hp) (x:V) (v:Value) (Q:VK),Inv X pins σ H s->RelV x v->r x H Q ->
  wpAny (model X.prog X.w) X.A (f v) (EP X pins σ Q) X.xe s
def nN(X:Cx)(f:Value)(r:List V->Hp->VK->Prop):Prop :=
 ∀(pins:List (Addr×Obj)) (s:Shared) (σ:St) (H:Hp) (xs:List V) (us:List Value) (Q:VK),Inv X pins σ H s->cF xs us->r xs H Q ->
  wpAny (model X.prog X.w) X.A (call f us) (EP X pins σ Q) X.xe s
def alm(X:Cx)(r:V->Hp->(Bool->Hp->Prop)->Prop):Prop :=
 ∀(pins:List (Addr×Obj)) (s:Shared) (σ:St) (H:Hp) (x:V) (v:Value) (Q:Bool->Hp->Prop),Inv X pins σ H s->RelV x v->r x H Q ->
  wpAny (model X.prog X.w) X.A (truthy v) (TP X pins σ Q) X.xe s
def gF(r:R2)(ta tb:TE):TE:=λσ H Q=>ta σ H λx H1=>tb σ H1 λy H2=>r x y H2 Q
def tUn(r:V->Hp->VK->Prop)(ta:TE):TE:=λσ H Q=>ta σ H λx H1=>r x H1 Q
inductive rI(C:Int->Int->Prop)(g:Int->Int->V)(x y:V)(H:Hp)(Q:VK):Prop
 |mk (i j:Int) (h1:x=.int i) (h2:y=.int j) (h3:C i j) (h4:Q (g i j) H):rI C g x y H Q
inductive YH(g:Int->Int->V)(x y:V)(H:Hp)(Q:VK):Prop
 |mk (i j:Int) (h1:x=.int i) (h2:y=.int j) (h3:Q (g i j) H):YH g x y H Q
def rU(g:Int->V):V->Hp->VK->Prop:=λx H Q=>∃i,x=.int i/\Q (g i) H
section
variable{X:Cx}{a b c:Expr}{ta tb tc:TE}{pos:Pos}
theorem aeC(o:PE X a ta)(B:PE X b tb){c:List (Addr×Obj)}{s:Shared}{d:St}{H:Hp}{R:V->V->Hp->Prop}(I:Inv X c d H s)
 (h:ta d H λx k=>tb d k λy e=>R x y e) {Q:Value->Shared->Prop} {f:Value->Value->Sem Value}
 (z:∀v u j x y e,Inv X c d e j->RelV x v->RelV y u->R x y e->wpAny (model X.prog X.w) X.A (f v u) Q X.xe j) :
 wpAny (model X.prog X.w) X.A (eval a X.env) (λv g=>wpAny (model X.prog X.w) X.A (eval b X.env) (λu i=>wpAny (model X.prog X.w) X.A (f v u) Q X.xe i) X.xe g) X.xe s:=by
 refine ia (o c s d H _ I h) λv t ⟨x,k,n,q,p⟩=>?_;refine ia (B c t d k _ n p) λu j ⟨y,e,r,m,l⟩=>?_;exact z v u j x y e r q m l
theorem aY(l:yH X (binaryOp op) r)(i:PE X a ta)(m:PE X b tb):PE X (.BinOp a op b pos) (gF r ta tb):=by
 intro c s d H Q I h;exact wpAny_BinOp (aeC i m I h λv u g x y j k f e q=>l c g d j x y v u Q k f e q)
theorem ade(e:UnR X (unaryOp op) r)(d:PE X a ta):PE X (.UnaryOp op a pos) (tUn r ta):=by
 intro b s c H Q I h;exact UnaryOp_ (ia (d b s c H _ I h) λv j ⟨x,i,k,f,g⟩=>e b j c i x v Q k f g)
theorem DQ{f:Value->Value->Sem Value}{C:Int->Int->Prop}{g:Int->Int->Int}
 (rule:∀(i j:Int) (t u:Tok) (s:Shared) (Q:Value->Shared->Prop) (E:Value->Shared->Prop),C i j->Q (.int (g i j) s.toks) {s with toks:=s.toks+1}->wpAny (model X.prog X.w) X.A (f (.int i t) (.int j u)) Q E s) :
 yH X f (rI C λi j=>.int (g i j)):=by
 intro a s k H x y v u Q I d c h;obtain⟨i,j,rfl,rfl,e,q⟩:=h;obtain⟨t,rfl⟩:=d;obtain⟨b,rfl⟩:=c;exact rule i j t b s _ _ e ⟨.int (g i j),H,I.tok _,⟨_,rfl⟩,q⟩
theorem abd{f:Value->Value->Sem Value}{g:Int->Int->Int}
 (rule:∀(i j:Int) (t u:Tok) (s:Shared) (Q:Value->Shared->Prop) (E:Value->Shared->Prop),Q (.int (g i j) s.toks) {s with toks:=s.toks+1}->wpAny (model X.prog X.w) X.A (f (.int i t) (.int j u)) Q E s) :
 yH X f (YH λi j=>.int (g i j)):=by
 intro a s e H x y v u Q I d c h;obtain⟨i,j,rfl,rfl,q⟩:=h;obtain⟨t,rfl⟩:=d;obtain⟨b,rfl⟩:=c;exact rule i j t b s _ _ ⟨.int (g i j),H,I.tok _,⟨_,rfl⟩,q⟩
theorem abe{f:Value->Value->Sem Value}{g:Int->Int->Bool}
 (rule:∀(i j:Int) (t u:Tok) (s:Shared) (Q:Value->Shared->Prop) (E:Value->Shared->Prop),Q (.bool (g i j)) s->wpAny (model X.prog X.w) X.A (f (.int i t) (.int j u)) Q E s) :
 yH X f (YH λi j=>.bl (g i j)):=by
 intro a s e H x y v u Q I d c h;obtain⟨i,j,rfl,rfl,q⟩:=h;obtain⟨t,rfl⟩:=d;obtain⟨b,rfl⟩:=c;exact rule i j t b s _ _ ⟨.bl (g i j),H,I,rfl,q⟩
def aln(i j:Int):Prop:=0<j/\j<1073741824
def ahq(i j:Int):Prop:=0<=j/\j<=1000000/\i.natAbs<2^64
def aeD(i j:Int):Prop:=(-(2^64)<i/\i<2^64)∨(-(2^64)<j/\j<2^64)
theorem aeD.ok(h:aeD i j):IntMulOk i j:=by
 rcases h with ⟨a,b⟩|⟨a,b⟩
 ·exact .of_left (intBits_le_64 a b)
 ·exact .of_right (intBits_le_64 a b)
theorem Sw(k:Nat):(0:Int)<=2^k:=by
 rw[two_pow_cast];exact Int.natCast_nonneg _
theorem fH:yH X (binaryOp .Add) (YH λi j=>.int (i+j)):=abd λ_ _ _ _ _ _ _ q=>add_int q
theorem Dg:yH X (binaryOp .Sub) (YH λi j=>.int (i-j)):=abd λ_ _ _ _ _ _ _ q=>sub_int q
theorem Of:yH X (binaryOp .Mult) (rI aeD λi j=>.int (i*j)):=DQ λ_ _ _ _ _ _ _ a q=>mul_int q a.ok
theorem dU:yH X (binaryOp .FloorDiv) (rI aln λi j=>.int (i/j)):=DQ λi j _ _ _ _ _ a q=>by
 have c:(0:Int)<j:=a.1;have b:j<1073741824:=a.2;exact floordiv_int ∅ (by rw[Int.fdiv_eq_ediv_of_nonneg i ∅];exact q) (.inl (PyProof.noPylong_small ∅))
theorem cZ:yH X (binaryOp .Mod) (rI (λ_ j=>0<j) λi j=>.int (i%j)):=DQ λi j _ _ _ _ _ a q=>by
 have b:(0:Int)<j:=a;exact mod_int' ∅ (by rw[Int.fmod_eq_emod_of_nonneg i ∅];exact q)
theorem YI:yH X (binaryOp .Pow) (rI ahq λi j=>.int (i^j.toNat)):=DQ λ_ _ _ _ _ _ _ a q=>pow_int_small a.1 a.2.1 a.2.2 q
theorem aeE:yH X (binaryOp .LShift) (rI ahq λi j=>.int (i*2^j.toNat)):=DQ λ_ _ _ _ _ _ _ a q=>lshift_int_small a.1 a.2.1 a.2.2 q
theorem aeF:yH X (binaryOp .RShift) (rI (λ_ j=>0<=j) λi j=>.int (i/2^j.toNat)):=DQ λi j _ _ _ _ _ a q =>
 rshift_int a (by rw[Int.fdiv_eq_ediv_of_nonneg i (Sw _)];exact q)
theorem YJ:yH X (binaryOp .BitAnd) (YH λi j=>.int (Builtin.bitAnd i j)):=abd λ_ _ _ _ _ _ _ q=>and_int q
theorem ahr:yH X (binaryOp .BitOr) (YH λi j=>.int (Builtin.bitOr i j)):=abd λ_ _ _ _ _ _ _ q=>or_int q
theorem unI{f:Value->Sem Value}{g:Int->Int}
 (rule:∀(i:Int) (t:Tok) (s:Shared) (Q:Value->Shared->Prop) (E:Value->Shared->Prop),Q (.int (g i) s.toks) {s with toks:=s.toks+1}->wpAny (model X.prog X.w) X.A (f (.int i t)) Q E s) :
 UnR X f (rU λi=>.int (g i)):=by
 intro a s c H x v Q I b h;obtain⟨i,rfl,q⟩:=h;obtain⟨t,rfl⟩:=b;exact rule i t s _ _ ⟨.int (g i),H,I.tok _,⟨_,rfl⟩,q⟩
theorem YK:UnR X (unaryOp .USub) (rU λi=>.int (-i)):=unI λ_ _ _ _ _ q=>neg_int q
end
def aeG:V->V->Bool
 |.f9,.f9=>true|.f9,.int _=>true|.int _,.f9=>true|.f9,.bl _=>true|.bl _,.f9=>true|.f9,.str _=>true|.str _,.f9=>true
 |.int _,.int _=>true|.bl _,.bl _=>true|.str _,.str _=>true|.UE _,.UE _=>true
 |.int _,.str _=>true|.str _,.int _=>true|.bl _,.str _=>true|.str _,.bl _=>true
 |_,_=>false
inductive rEq(x y:V)(H:Hp)(Q:VK):Prop
 |mk (a:aeG x y=true) (b:Q (.bl (decide (x=y))) H):rEq x y H Q
inductive rNe(x y:V)(H:Hp)(Q:VK):Prop
 |mk (a:aeG x y=true) (b:Q (.bl (!decide (x=y))) H):rNe x y H Q
theorem UI:decide (V.int i=V.int j)=(i==j):=by
 rw[kC];simp
theorem YL:decide (V.bl i=V.bl j)=(i==j):=by
 rw[kC];simp
theorem UJ:decide (V.str i=V.str j)=(i==j):=by
 rw[kC];simp
theorem UK:decide (V.UE i=V.UE j)=(i.toList==j.toList):=by
 rw[kC];cases i;cases j;simp
section
variable{X:Cx}{a b c:Expr}{ta tb tc:TE}{pos:Pos}
theorem eW{H:Hp}{Q:VK}{a:Bool}(I:Inv X pins σ H s)(q:Q (.bl k) H)(e:k=a):EP X pins σ Q (.bool a) s:=by
 subst e;exact⟨.bl k,H,I,rfl,q⟩
theorem i6:yH X (compareOp .Eq) rEq:=by
 intro e s f H x y v u Q I d a h;obtain⟨c,q⟩:=h;cases x with
 |f9 =>
  cases d;cases y with
  |f9=>cases a;exact PySem.EqNone.eq_none_none (eW I q (-_))
  |bl j=>cases a;exact PySem.EqNone.eq_none_bool (eW I q (-_))
  |int j=>obtain⟨b,rfl⟩:=a;exact PySem.EqNone.eq_none_int (eW I q (-_))
  |str j=>obtain⟨b,rfl⟩:=a;exact PySem.EqNone.eq_none_str (eW I q (-_))
  |_=>exact cy (show false=true from c) aI
 |bl i =>
  cases d;cases y with
  |f9=>cases a;exact PySem.EqNone.eq_bool_none (eW I q (-_))
  |bl j=>cases a;exact eq_bool (eW I q YL)
  |str j=>obtain⟨b,rfl⟩:=a;exact PySem.EqMixed.eq_bool_str (eW I q (-_))
  |_=>exact cy (show false=true from c) aI
 |int i =>
  obtain⟨t,rfl⟩:=d;cases y with
  |f9=>cases a;exact PySem.EqNone.eq_int_none (eW I q (-_))
  |int j=>obtain⟨b,rfl⟩:=a;exact eq_int (eW I q UI)
  |str j=>obtain⟨b,rfl⟩:=a;exact PySem.EqMixed.eq_int_str (eW I q (-_))
  |_=>exact cy (show false=true from c) aI
 |str i =>
  obtain⟨t,rfl⟩:=d;cases y with
  |f9=>cases a;exact PySem.EqNone.eq_str_none (eW I q (-_))
  |bl j=>cases a;exact PySem.EqMixed.eq_str_bool (eW I q (-_))
  |int j=>obtain⟨b,rfl⟩:=a;exact PySem.EqMixed.eq_str_int (eW I q (-_))
  |str j=>obtain⟨b,rfl⟩:=a;exact eq_str (eW I q UJ)
  |_=>exact cy (show false=true from c) aI
 |UE i =>
  obtain⟨t,rfl⟩:=d;cases y with
  |UE j=>obtain⟨b,rfl⟩:=a;exact PySem.W.eq_bytes (eW I q UK)
  |_=>exact cy (show false=true from c) aI
 |_=>cases y <;> exact cy (show false=true from c) aI
theorem vz:yH X (compareOp .NotEq) rNe:=by
 intro e s f H x y v u Q I d a h;obtain⟨c,q⟩:=h;cases x with
 |f9 =>
  cases d;cases y with
  |f9=>cases a;exact PySem.EqNone.ne_none_none (eW I q (-_))
  |bl j=>cases a;exact PySem.EqNone.ne_none_bool (eW I q (-_))
  |int j=>obtain⟨b,rfl⟩:=a;exact PySem.EqNone.ne_none_int (eW I q (-_))
  |str j=>obtain⟨b,rfl⟩:=a;exact PySem.EqNone.ne_none_str (eW I q (-_))
  |_=>exact cy (show false=true from c) aI
 |bl i =>
  cases d;cases y with
  |f9=>cases a;exact PySem.EqNone.ne_bool_none (eW I q (-_))
  |bl j=>cases a;exact ne_bool (eW I q (ff not YL))
  |str j=>obtain⟨b,rfl⟩:=a;exact PySem.EqMixed.ne_bool_str (eW I q (-_))
  |_=>exact cy (show false=true from c) aI
 |int i =>
  obtain⟨t,rfl⟩:=d;cases y with
  |f9=>cases a;exact PySem.EqNone.ne_int_none (eW I q (-_))
  |int j=>obtain⟨b,rfl⟩:=a;exact ne_int (eW I q (ff not UI))
  |str j=>obtain⟨b,rfl⟩:=a;exact PySem.EqMixed.ne_int_str (eW I q (-_))
  |_=>exact cy (show false=true from c) aI
 |str i =>
  obtain⟨t,rfl⟩:=d;cases y with
  |f9=>cases a;exact PySem.EqNone.ne_str_none (eW I q (-_))
  |bl j=>cases a;exact PySem.EqMixed.ne_str_bool (eW I q (-_))
  |int j=>obtain⟨b,rfl⟩:=a;exact PySem.EqMixed.ne_str_int (eW I q (-_))
  |str j=>obtain⟨b,rfl⟩:=a;exact ne_str (eW I q (ff not UJ))
  |_=>exact cy (show false=true from c) aI
 |UE i =>
  obtain⟨t,rfl⟩:=d;cases y with
  |UE j=>obtain⟨b,rfl⟩:=a;exact PySem.W.ne_bytes (eW I q (ff not UK))
  |_=>exact cy (show false=true from c) aI
 |_=>cases y <;> exact cy (show false=true from c) aI
theorem nZ:yH X (compareOp .Lt) (YH λi j=>.bl (decide (i<j))):=abe λ_ _ _ _ _ _ _ q=>lt_int q
theorem qP:yH X (compareOp .LtE) (YH λi j=>.bl (decide (i<=j))):=abe λ_ _ _ _ _ _ _ q=>le_int q
theorem P4:yH X (compareOp .Gt) (YH λi j=>.bl (decide (j<i))):=abe λ_ _ _ _ _ _ _ q=>gt_int q
theorem ahs:yH X (compareOp .GtE) (YH λi j=>.bl (decide (j<=i))):=abe λ_ _ _ _ _ _ _ q=>ge_int q
theorem YM:yH X (compareOp .Is) (λx y H Q=>y=.f9/\Q (.bl (decide (x=.f9))) H):=by
 intro b s d H x y v u Q I a c h;obtain⟨rfl,q⟩:=h;cases c;refine is_none_gen (eW I q ?_);cases x <;> first
  | (cases a;rfl)
  | (obtain⟨t,rfl⟩:=a;rfl)
theorem IK:yH X (compareOp .IsNot) (λx y H Q=>y=.f9/\Q (.bl (!decide (x=.f9))) H):=by
 intro b s d H x y v u Q I a c h;obtain⟨rfl,q⟩:=h;cases c;refine isnot_none_gen (eW I q ?_);cases x <;> first
  | (cases a;rfl)
  | (obtain⟨t,rfl⟩:=a;rfl)
theorem YN(b:Expr){op:CmpOp}(h:op≠.In:=by decide)(c:op≠.NotIn:=by decide):behindInMarks op b=false:=by
 have d:(op==CmpOp.In)=false:=by cases op <;> first|rfl|exact cy rfl h
 have a:(op==CmpOp.NotIn)=false:=by cases op <;> first|rfl|exact cy rfl c
 cases b <;> simp[behindInMarks,d,a]
theorem UL(m:yH X (compareOp op) r)(i:PE X a ta)(n:PE X b tb)(j:behindInMarks op b=false):PE X (.Compare a [op] [b] pos) (gF r ta tb):=by
 intro c s d H Q I h;exact wpAny_Compare1 (aeC i n I h λv u g x y k l f e q=>m c g d k x y v u Q l f e q) j
def YO(t:TE):TT:=λσ H Q=>t σ H (BlR Q)
theorem i7(E:yH X (compareOp op) r)(m:PE X a ta)(G:PE X b tb)(w:behindInMarks op b=false):PT X (.Compare a [op] [b] pos) (YO (gF r ta tb)):=by
 intro d s f H Q I h;refine wpAny_isTrue_Compare1 (ia (m d s f H _ I h) λv C ⟨x,D,j,p,n⟩=>ia (G d C f D _ j n) λu l ⟨y,A,B,i,g⟩ =>
  ia (E d l f A x y v u _ B p i g) λc J ⟨z,q,t,F,k,e,o⟩=>?_) w
 subst e;cases F;exact wpAny_truthy_bool ⟨q,t,o⟩
def YQ(r r':R2)(ta tb tc:TE):TE:=λσ H Q=>ta σ H λx H1=>tb σ H1 λy H2=>r x y H2 λz H3=>∃k,z=.bl k /\
 (if k=true then tc σ H3 λw' H4=>r' y w' H4 Q else Q (.bl false) H3)
theorem P5{op g:CmpOp}{r m:R2}(S:yH X (compareOp op) r)(j:yH X (compareOp g) m)(F:PE X a ta)(V:PE X b tb)(W:PE X c tc)
 (M:lastMarks [op,g] [b,c]=false:=by with_unfolding_all rfl):PE X (.Compare a [op,g] [b,c] pos) (YQ r m ta tb tc):=by
 intro f s i H Q I h;refine Compare_chain (ia (F f s i H _ I h) λv P ⟨x,R,w,L,J⟩=>chain_link (ia (V f P i R _ w J) λu B ⟨y,N,O,l,t⟩ =>
  ia (S f B i N x y v u _ O L l t) λd U ⟨z,o,p,T,k,e,n⟩=>?_)) M
 subst e;cases T;refine wpAny_truthy_bool ?_;cases k with
 |false=>exact ite_ff ⟨.bl false,o,p,rfl,n⟩
 |true=>exact ite_tt (chain_last (ia (W f U i o _ p n) λE D ⟨A,C,G,K,q⟩=>j f D i C y A u E Q G l K q))
theorem jI{op g:CmpOp}{r m:R2}(Y:yH X (compareOp op) r)(j:yH X (compareOp g) m)(G:PE X a ta)(hb:PE X b tb)(hc:PE X c tc)
 (T:lastMarks [op,g] [b,c]=false:=by with_unfolding_all rfl):PT X (.Compare a [op,g] [b,c] pos) (YO (YQ r m ta tb tc)):=by
 intro f s i H Q I h;refine isTrue_chain (ia (G f s i H _ I h) λv V ⟨x,W,A,O,K⟩=>test_link (ia (hb f V i W _ A K) λu C ⟨y,S,U,l,t⟩ =>
  ia (Y f C i S x y v u _ U O l t) λd s3 ⟨z,o,p,r3,k,e,n⟩=>?_)) T
 subst e;cases r3;refine wpAny_truthy_bool ?_;cases k with
 |false =>
  obtain⟨k',M,N⟩:=n;cases M;exact ite_ff ⟨o,p,N⟩
 |true =>
  refine ite_tt (test_last (ia (hc f s3 i o _ p n) λF E ⟨B,D,J,L,q⟩=>ia (j f E i D y B u F _ J l L q) λd' s5 ⟨z2,H5,w,Z,k2,P,R⟩=>?_));subst P;cases Z;exact wpAny_truthy_bool ⟨H5,w,R⟩
def aeH(K:ah)(x:V)(H:Hp)(k:Bool):Prop :=
 match x with
 |.f9=>k=false
 |.bl b=>k=b
 |.int i=>k=(i != 0)
 |.str y=>y.length<=sizeLine/\k=((y.length:Int) != 0)
 |.UE y=>y.size<=sizeLine/\k=((y.size:Int) != 0)
 |.ref p=>(∃xs,bN K H p xs/\k=!xs.isEmpty)∨(∃xs,cX K H p xs/\k=!xs.isEmpty)∨∃kvs,H p=some (.dK kvs)/\k=!kvs.isEmpty
 |_=>False
theorem Sx{a:Type}{kvs:List (a×V)}{vs:List (a×Value)}(r:KV kvs vs):(!vs.isEmpty)=!kvs.isEmpty:=by
 cases r <;> rfl
theorem Jj(r:cF xs its):(!its.toArray.isEmpty)=!xs.isEmpty:=by
 cases r <;> simp
theorem Jk:(sizeLine:Nat)<2^63:=by rw[sizeLine_eq];decide
theorem aeI:alm X (λx H Q=>∃k,aeH X.K x H k/\Q k H):=by
 intro z s C H x v Q I g h;obtain⟨k,e,q⟩:=h;have D:=Jk;have E:sizeLine=16777216:=sizeLine_eq;cases x with
 |f9 =>
  cases g;have a:k=false:=e;subst a;exact truthy_none ⟨H,I,q⟩
 |bl b =>
  cases g;have a:k=b:=e;subst a;exact wpAny_truthy_bool ⟨H,I,q⟩
 |int i =>
  obtain⟨t,rfl⟩:=g;have a:k=(i != 0):=e;subst a;exact PySem.P.truthy_int ⟨H,I,q⟩
 |str y =>
  obtain⟨t,rfl⟩:=g;obtain⟨B,a⟩:y.length<=sizeLine/\k=((y.length:Int) != 0):=e;subst a;exact PySem.P.truthy_str ∅ ⟨H,I.tok _,q⟩
 |UE y =>
  obtain⟨t,rfl⟩:=g;obtain⟨B,a⟩:y.size<=sizeLine/\k=((y.size:Int) != 0):=e;subst a;exact PySem.W.truthy_bytes ∅ ⟨H,I.tok _,q⟩
 |ref p =>
  cases g;have a:(∃f,bN X.K H p f/\k=!f.isEmpty)∨(∃f,cX X.K H p f/\k=!f.isEmpty)∨∃c,H p=some (.dK c)/\k=!c.isEmpty:=e;rcases a with ⟨f,j,a⟩|⟨f,j,a⟩|⟨c,j,a⟩
  ·subst a
   obtain⟨o,r,n,u⟩:=I.list j;have d:=r.length;exact wpAny_truthy_list n.isList (by simp only[aZ];lia) ⟨H,I.tok _,by rw[Jj r];exact q⟩
  ·subst a
   obtain⟨o,r,n,u⟩:=I.tuple j;have d:=r.length;exact truthy_tuple n (by simp only[aZ];lia) ⟨H,I.tok _,by rw[Jj r];exact q⟩
  ·subst a
   obtain⟨u,A,l,r,m⟩:c.length<=sizeLine/\(p==sysModules)=false/\∃l,KV c l/\s.heap.DictOf (eZ X.prog X.w) p l:=I.hok p _ j;have d:c.length=l.length:=Paired.length r;exact wpAny_truthy_dict A m ∅ ⟨H,I.tok _,by rw[Sx r];exact q⟩
 |_=>exact (show False from e).elim
theorem YR(g:PE X a ta)(n:∀b,isTrue a X.env b=(do let v <- b;standAt a.pos;holding [v] (truthy v))) :
 PT X a (λd H Q=>ta d H λx e=>∃k,aeH X.K x e k/\Q k e):=by
 intro c s d H Q I h;exact isTrue_plain (ia (g c s d H _ I h) λv l ⟨x,m,f,j,i⟩=>aeI c l d m x v Q f j i) (n _)
theorem vals1{x:V}(r:cF [x] us):∃u,us=[u]/\RelV x u:=by
 cases r with
 |cons a b=>cases b;exact⟨_,rfl,a⟩
theorem vals2{x y:V}(r:cF [x,y] us):∃u a,us=[u,a]/\RelV x u/\RelV y a:=by
 cases r with
 |cons b d =>
  cases d with
  |cons c e=>cases e;exact⟨_,_,rfl,b,c⟩
theorem Wj(c:X.calm=true):nN X (.builtin "max") (λxs H Q=>∃i j,xs=[.int i,.int j]/\Q (.int (if j > i then j else i)) H):=by
 intro b s e H xs m Q I r h;obtain⟨i,j,rfl,q⟩:=h;obtain⟨u,g,rfl,⟨t,rfl⟩,⟨d,rfl⟩⟩:=vals2 r;refine max_two_ints (I.ok.hd c) λl f k=>⟨_,H,I.kept k,?_,q⟩;by_cases a:j > i
 ·rw[aq a,aq a];exact⟨_,rfl⟩
 ·rw[b3 a,b3 a];exact⟨_,rfl⟩
theorem Wk(c:X.calm=true):nN X (.builtin "min") (λxs H Q=>∃i j,xs=[.int i,.int j]/\Q (.int (if j<i then j else i)) H):=by
 intro b s e H xs m Q I r h;obtain⟨i,j,rfl,q⟩:=h;obtain⟨u,g,rfl,⟨t,rfl⟩,⟨d,rfl⟩⟩:=vals2 r;refine min_two_ints (I.ok.hd c) λl f k=>⟨_,H,I.kept k,?_,q⟩;by_cases a:j<i
 ·rw[aq a,aq a];exact⟨_,rfl⟩
 ·rw[b3 a,b3 a];exact⟨_,rfl⟩
theorem MG:nN X (.type "int") (λxs H Q=>(∃i,xs=[.int i]/\Q (.int i) H)∨∃k,xs=[.bl k]/\Q (.int (if k then 1 else 0)) H):=by
 intro a s c H xs d Q I r h;rcases h with ⟨i,rfl,q⟩|⟨k,rfl,q⟩
 ·obtain⟨u,rfl,t,rfl⟩:=vals1 r
  exact call_int_int ⟨.int i,H,I,⟨_,rfl⟩,q⟩
 ·obtain⟨u,rfl,b⟩:=vals1 r
  cases b;exact call_int_bool ⟨.int (if k then 1 else 0),H,I.tok _,⟨_,rfl⟩,q⟩
end
structure Sy(h:Heap)(x dx C:Addr)(mA:Str->Option Value):Prop where
 obj:h.get? x=some (kj C dx)
 ns:h.Ns1 dx mA
 ne:dx≠x
theorem MH{h:Heap}(n:h.Ns1 dx mA):∃d,h.get? dx=some d/\∀name,PySem.W.lookIn name d=some (mA name):=by
 obtain⟨o,c,m,k,l,f,_,g⟩:=n;refine⟨o,k,λname=>?_⟩;have e:=g name;unfold nsFind findBy at e;rw[<- Array.find?_toList] at e;unfold PySem.W.lookIn;rw[l];dsimp only;split
 ·rename_i y q
  rw[q] at e;exact ff some e
 ·rename_i q
  rw[q] at e;have a:c.toList.any (·.refKey)=false:=by
   rw[List.any_eq_false];intro y j;obtain⟨z,t,b⟩:=f y (Array.mem_toList_iff.mp j);simp[DictEntry.refKey,b]
  have i:¬c.toList.any (·.refKey)=true:=by rw[a];exact aI
  rw[b3 i];exact ff some e
theorem Sy.look(I:Sy h x dx C mA):∃a,PySem.W.InstAt h x (kj C dx) C (some a)/\∀name,PySem.W.lookIn name a=some (mA name) :=
 let ⟨a,b,c⟩:=MH I.ns
 ⟨a,⟨I.obj,rfl,rfl,b⟩,c⟩
section
variable{prog:Program}{w:World}{A:Around}{E:Value->Shared->Prop}{s:Shared}{K:ah}{x dx C f:Addr}{mA:Str->Option Value}{name:Str}{v:Value}
theorem get_map{a:Bool}{Q:Value->Shared->Prop}(X:K.In s.heap)(I:Sy s.heap x dx C mA)(g:yC K C name=true)(d:we K C=true)
 (c:aM K (.ref C) name=some none) (f:mA name=some v) (b:PySem.W.handedIn v=true) (h:Q v {s with toks:=s.toks+1}) :
 wpAny (model prog w) A (getAttr (.ref x) name a) Q E s:=by
 obtain⟨i,J,e⟩:=I.look;exact PySem.W.get_value X J (PySem.W.plainGet_of g).1 (PySem.W.findObj_own d c rfl (by rw[e,f])) b h
theorem YS{pl:Sem Bool}{Q:Value×List Value->Shared->Prop}(X:K.In s.heap)(I:Sy s.heap x dx C mA)(a:yC K C name=true)
 (g:aM K (.ref C) name=some (some (.ref f))) (b:PySem.W.isFn K (.ref f)=true) (e:mA name=none) (h:Q (.ref f,[.ref x]) s) :
 wpAny (model prog w) A (getMethod (.ref x) name pl) Q E s:=by
 obtain⟨c,J,d⟩:=I.look;exact PySem.W.method_fn X J (PySem.W.plainGet_of a).1 (PySem.W.plainGet_of a).2 g (beq_iff_eq.mp b) (by show (PySem.W.lookIn name c).map (·.isSome)=some false;rw[d,e];rfl) h
theorem abf{ns:List Str}{Q:Unit->Shared->Prop}(X:K.In s.heap)(I:Sy s.heap x dx C mA)
 (hs:aM K (.ref C) "__setattr__" = some (some (.builtin "object.__setattr__"))) (o:PySem.W.plainOver K C=true) (l:PySem.W.takerIn K C name=some none) (j:we K C=true)
 (q:PySem.Within mA ns) (hsz:ns.length<=sizeLine)
 (h:∀h',Sy h' x dx C (λy=>if y=name then some v else mA y)->Heap.SameBut dx s.heap h'->Q () {s with heap:=h',toks:=s.toks+2}) :
 wpAny (model prog w) A (setAttr (.ref x) name v) Q E s:=by
 obtain⟨t,J,u⟩:=I.look;refine PySem.W.set_plain X J hs (PySem.W.osa_open (s:={s with toks:=s.toks+1}) (r:=none) X J o l λb=>?_);obtain⟨B,p,f⟩:=PySem.W.any_some j;have m:s.heap.get? x=some ⟨.ref C,some dx,.plain,#[]⟩:=I.obj;refine wpAny_bind (wpAny_pure (wpAny_bind (wpAny_bind (wpAny_loadPart m (wpAny_bind (PySem.W.Looks.here (s:={s with toks:=s.toks+1}) (PySem.W.looks_clsIn X p) ?_))))));rw[f];refine wpAny_pure (a:=some dx) (wpAny_bind (wpAny_pure (wpAny_bind ?_)));refine wpAny_nsSet1 (s:={s with toks:=s.toks+1}) I.ns λh' c d=>?_;obtain⟨z,k,n,e,i,g⟩:=c.count (PySem.Within.cons name v q);refine wpAny_bind (wpAny_lookBehind e (by rw[i];exact pastItsLine_dict (aN g (by rw[aV];lia))) ?_);exact wpAny_pure (h _ ⟨(d.2 _ (bO I.ne)).trans I.obj,c,I.ne⟩ d)
theorem YT{R:Result->Shared->Prop}{vs:List Value}{b:List (Str×Value)}(X:K.In s.heap)(e:PySem.W.makesIn K C=true)
 (c:aM K (.ref C) "__init__" = some (some (.ref f))) (i:PySem.W.typeIn K (.ref f)=some (.type "function"))
 (h:codeAny (model prog w) (A.under (.builtin "type.__call__" ⟨.ref C::vs,b⟩)) (.call (.ref f) ⟨.ref (s.heap.objs.size+1)::vs,b⟩) (PySem.W.InitBack (s.heap.objs.size+1) R)
  {s with heap:=(s.heap.push g7).push (kj C s.heap.objs.size)}) :
 codeAny (model prog w) A (.call (.ref C) ⟨vs,b⟩) R s:=by
 obtain⟨j,g,d,t,os⟩:=s;exact PySem.W.make_core (PySem.W.makes_of X e) (PySem.W.looks_findIn X c) (λa=>PySem.W.bind_fn X a i) (.inl rfl) h
end
def Am(f:Str)(v:V):List (Str×V)->List (Str×V)
 |[]=>[(f,v)]
 | (g,x)::r=>if g=f then (g,v)::r else (g,x)::Am f v r
theorem Ho(f g:Str)(v:V):∀c:List (Str×V),(Am f v c).lookup g=if g=f then some v else c.lookup g
 |[]=>by
  show rD g [(f,v)]=_;by_cases h:g=f
  ·have a:(g==f)=true:=beq_iff_eq.mpr h
   simp only[rD,a,aq h]
  ·have a:(g==f)=false:=beq_eq_false_iff_ne.mpr h
   simp only[rD,a,b3 h]
 | (k,x)::r=>by
  have d:=Ho f g v r;rw[show Am f v ((k,x)::r)=(if k=f then (k,v)::r else (k,x)::Am f v r) from rfl];by_cases b:k=f
  ·rw[aq b]
   by_cases h:g=k
   ·have a:(g==k)=true:=beq_iff_eq.mpr h
    simp only[rD,a,aq (h.trans b)]
   ·have a:(g==k)=false:=beq_eq_false_iff_ne.mpr h
    simp only[rD,a,b3 (λe:g=f=>h (e.trans b.symm))]
  ·rw[b3 b]
   by_cases h:g=k
   ·have a:(g==k)=true:=beq_iff_eq.mpr h
    simp only[rD,a,b3 (λe:g=f=>b (h.symm.trans e))]
   ·have a:(g==k)=false:=beq_eq_false_iff_ne.mpr h
    simp only[rD,a];exact d
theorem Gb(f:Str)(v:V):∀b:List (Str×V),f∈(Am f v b).map (·.1)/\∀g,g∈b.map (·.1)->g∈(Am f v b).map (·.1)
 |[]=>⟨by simp[Am],λg h=>by simp at h⟩
 | (k,x)::r=>by
  obtain⟨d,c⟩:=Gb f v r;rw[show Am f v ((k,x)::r)=(if k=f then (k,v)::r else (k,x)::Am f v r) from rfl];by_cases a:k=f
  ·rw[aq a]
   subst a;exact⟨-_,λg h=>by simpa using h⟩
  ·rw[b3 a]
   refine⟨?_,λg h=>?_⟩
   ·rw[bG]
    exact bf _ d
   ·rw[bG] at h ⊢
    rcases bu.mp h with e|e
    ·exact bu.mpr (.inl e)
    ·exact bf _ (c g e)
theorem Hq(f:Str)(v:V):∀b:List (Str×V),(Am f v b).length<=b.length+1
 |[]=>by simp[Am]
 | (k,x)::r=>by
  have c:=Hq f v r;rw[show Am f v ((k,x)::r)=(if k=f then (k,v)::r else (k,x)::Am f v r) from rfl];by_cases a:k=f
  ·rw[aq a,aV,aV];lia
  ·rw[b3 a,aV,aV];lia
theorem Cu.some_of(r:Cu (some v) o):∃u,o=some u/\RelV v u:=by
 cases o with
 |none=>exact (show False from r).elim
 |some u=>exact⟨u,rfl,r⟩
theorem Cu.none_of(r:Cu none o):o=none:=by
 cases o with
 |none=>rfl
 |some u=>exact (show False from r).elim
theorem Wl(r:RelV v u):PySem.W.handedIn u=true:=by
 cases v with
 |f9=>cases (show u=Value.none from r);rfl
 |bl b=>cases (show u=Value.bool b from r);rfl
 |int i=>obtain⟨t,e⟩:=(show ∃t,u=Value.int i t from r);cases e;rfl
 |str x=>obtain⟨t,e⟩:=(show ∃t,u=Value.str x t from r);cases e;rfl
 |UE b=>obtain⟨t,e⟩:=(show ∃t,u=Value.bytes b t from r);cases e;rfl
 |wh b=>obtain⟨t,e⟩:=(show ∃t,u=Value.float b t from r);cases e;rfl
 |ref a=>cases (show u=Value.ref a from r);rfl
 |ty n=>cases (show u=Value.type n from r);rfl
section
variable{P:Program}{w:World}{H H':Hp}{h h':Heap}{a C dx:Addr}{fs fs':List (Str×V)}
theorem IL(c:Aq P w H h)(e:H a=some (.ins C dx fs)):∃b,Sy h a dx C b/\(∀f,Cu (fs.lookup f) (b f))/\PySem.Within b (fs.map (·.1))/\fs.length<=1000/\H dx=some (.own a):=by
 obtain⟨d,z,i,g,b,n,r,q⟩:=(show iN P w H h a (.ins C dx fs) from c a _ e);exact⟨b,⟨g,n,i⟩,r,q,z,d⟩
end
structure LI(K:ah)(C:Addr):Prop where
 pg:yC K C Str.empty=true
 hd:we K C=true
 po:PySem.W.plainOver K C=true
 sa:aM K (.ref C) "__setattr__" = some (some (.builtin "object.__setattr__"))
theorem LI.get{K:ah}(c:LI K C)(f:Str):yC K C f=true:=c.pg
def dX(K:ah)(C:Addr)(f:Str):Prop:=aM K (.ref C) f=some none
theorem dX.aht{K:ah}(n:dX K C f):PySem.W.takerIn K C f=some none:=by
 unfold PySem.W.takerIn;rw[show aM K (.ref C) f=some none from n];rfl
structure Og(K:ah)(C:Addr)(m:Str)(f:Addr):Prop where
 at_:aM K (.ref C) m=some (some (.ref f))
 fn:PySem.W.isFn K (.ref f)=true
 kp:eY K (.ref f)=true
section
variable{X:Cx}{pins:List (Addr×Obj)}{σ:St}{H:Hp}{s:Shared}{a C dx:Addr}{fs:List (Str×V)}{f:Str}{v:V}{A:Around}{E:Value->Shared->Prop}
theorem Sz{b:Bool}{Q:Value->Shared->Prop}(I:Inv X pins σ H s)(e:H a=some (.ins C dx fs))(c:LI X.K C)(n:dX X.K C f)(l:fs.lookup f=some v)
 (h:∀u s',Inv X pins σ H s'->RelV v u->Q u s'):wpAny (model X.prog X.w) A (getAttr (.ref a) f b) Q E s:=by
 obtain⟨g,O,r,_,_,_⟩:=IL I.hok e;obtain⟨u,i,d⟩:=Cu.some_of (v:=v) (o:=g f) (by rw[<- l];exact r f);exact get_map I.Dd O (c.get f) c.hd n i (Wl d) (h u _ (I.tok _) d)
theorem Jl{m:Str}{g:Addr}{pl:Sem Bool}{Q:Value×List Value->Shared->Prop}(I:Inv X pins σ H s)(e:H a=some (.ins C dx fs))(c:LI X.K C)(k:Og X.K C m g)(l:fs.lookup m=none)
 (h:Q (.ref g,[.ref a]) s):wpAny (model X.prog X.w) A (getMethod (.ref a) m pl) Q E s:=by
 obtain⟨b,O,r,_,_,_⟩:=IL I.hok e;have d:b m=none:=Cu.none_of (by rw[<- l];exact r m);exact YS I.Dd O (c.get m) k.at_ k.fn d h
theorem SA{y:V}{u:Value}{Q:Unit->Shared->Prop}(I:Inv X pins σ H s)(e:H a=some (.ins C dx fs))(c:LI X.K C)(n:dX X.K C f)(hl:fs.length<1000)(l:RelV y u)
 (h:∀s',Inv X pins σ (upd H a (.ins C dx (Am f y fs))) s'->Q () s'):wpAny (model X.prog X.w) A (setAttr (.ref a) f u) Q E s:=by
 obtain⟨j,O,r,i,_,k⟩:=IL I.hok e;have v:(fs.map (·.1)).length<=sizeLine:=by rw[af,sizeLine_eq];lia
 refine abf I.Dd O c.sa c.po n.aht c.hd i v λp d m=>h _ ?_;have hd:∃o,p.get? dx=some o:=let ⟨o,_,_,t,_⟩:=d.ns;⟨o,t⟩;refine I.write (x:=a) (e:=dx) (by rw[e];exact ki) (.inr k) (λb q D z=>(m.2 b D).trans z) hd ?_;refine⟨by rw[aO O.ne];exact k,?_,O.ne,d.obj,_,d.ns,λg=>?_,λg B=>?_⟩
 ·have:=Hq f y fs;lia
 ·show Cu ((Am f y fs).lookup g) (if g=f then some u else j g)
  rw[Ho];by_cases q:g=f
  ·rw[aq q,aq q];exact l
  ·rw[b3 q,b3 q];exact r g
 ·by_cases q:g=f
  ·rw[q];exact (Gb f y fs).1
  ·refine (Gb f y fs).2 g (i g λz=>B ?_)
   show (if g=f then some u else j g)=none;rw[b3 q];exact z
theorem Inv.made(I:Inv X pins σ H s):Inv X pins σ (upd (upd H s.heap.objs.size (.own (s.heap.objs.size+1))) (s.heap.objs.size+1) (.ins C s.heap.objs.size []))
 {s with heap:=(s.heap.push g7).push (kj C s.heap.objs.size)}:=by
 have c:(s.heap.push g7).get? s.heap.objs.size=some g7:=Heap.get?_push_size s.heap rfl;have h:((s.heap.push g7).push (kj C s.heap.objs.size)).get? (s.heap.objs.size+1)=some (kj C s.heap.objs.size):=by
  have:=Heap.get?_push_size (s.heap.push g7) (o:=kj C s.heap.objs.size) rfl
  rwa [Heap.size_push] at this
 have g:(s.heap.push g7).Ns s.heap.objs.size (λ_=>none):=⟨g7,#[],_,c,rfl,(λe j=>cy j (-_)),λ_=>rfl⟩;have f:=I.laid (a:=s.heap.objs.size) (o:=.own (s.heap.objs.size+1)) (h':=s.heap.push g7) (t':=s.toks) (λb u q=>Heap.get?_push_of_some _ q) (az _) ⟨_,c⟩;refine f.laid (a:=s.heap.objs.size+1) (o:=.ins C s.heap.objs.size []) (t':=s.toks) (λb u q=>Heap.get?_push_of_some _ q) (Nat.le_of_eq (Heap.size_push _ _)) ?_;have d:s.heap.objs.size≠s.heap.objs.size+1:=bH (yD _);refine⟨by rw[aO d,ay],aX _,d,h,λ_=>none,(Heap.Ns1.of_empty g).at λo q=>Heap.get?_push_of_some _ q,λ_=>ki,λy i=>cy rfl i⟩
theorem abg{prog:Program}{w:World}{env:Env}{e:Expr}{f:Str}{b:Pos}{s:Shared}{Q:Value->Shared->Prop}(c:attributeBase e f env (eval e env)=eval e env)
 (h:wpAny (model prog w) A (eval e env) (λo a=>wpAny (model prog w) A (getAttr o f true) Q E a) E s):wpAny (model prog w) A (eval (.Attribute e f b) env) Q E s :=
 Attribute_any_ h (by rw[arm_eval_Attribute,c])
end
inductive ahu(K:ah)(f:Str)(Q:VK)(x:V)(H1:Hp):Prop
 |mk (a C dx:Addr) (fs:List (Str×V)) (v:V) (h1:x=.ref a) (h2:H1 a=some (.ins C dx fs)) (h3:LI K C) (h4:dX K C f) (h5:fs.lookup f=some v) (h6:Q v H1):ahu K f Q x H1
def Jm(K:ah)(ta:TE)(f:Str):TE:=λσ H Q=>ta σ H (ahu K f Q)
def alo(K:ah)(ta tv:TE)(f:Str):TS:=λD σ H=>tv σ H λy H1=>ta σ H1 λx H2=>∃a C dx fs,x=.ref a/\H2 a=some (.ins C dx fs)/\LI K C/\dX K C f/\fs.length<1000 /\
 D.nx σ (upd H2 a (.ins C dx (Am f y fs)))
section
variable{X:Cx}{o e value:Expr}{f:Str}{pos pos' tpos:Pos}{ta tv:TE}
theorem bq(m:PE X e ta)(t:attributeBase e f X.env (eval e X.env)=eval e X.env):PE X (.Attribute e f pos) (Jm X.K ta f):=by
 intro b s g H Q I h;refine abg t (ia (m b s g H _ I h) λu A ⟨x,r,j,k,a,C,z,y,v,p,i,c,n,l,q⟩=>?_);subst p;obtain rfl:u=Value.ref a:=k;exact Sz j i c n l λB w o d=>⟨v,r,o,d,q⟩
theorem gC(p:PE X o ta)(k:PE X value tv)(hs:swapsWith value (some (.Attribute o f pos')) pos.line X.env=pure false):PS X (.Assign [.Attribute o f pos'] value pos) (alo X.K ta tv f):=by
 intro b s d H D I h;refine plainObj_wpAny_Assign_Attribute (ia (k b s d H _ I h) λu w ⟨y,A,i,j,q⟩=>ia (p b w d A _ i q) λr B ⟨x,J,v,m,a,C,G,E,z,g,c,n,l,e⟩=>?_) hs;subst z;obtain rfl:r=Value.ref a:=m;exact SA v g c n l j λF t=>⟨d,_,t,e⟩
end
section
variable{X:Cx}{pins:List (Addr×Obj)}{σ:St}{H:Hp}{s:Shared}{A:Around}{E:Value->Shared->Prop}{Q:Value->Shared->Prop}{c:Value}{b:Bool}
inductive Gc(K:ah)(H:Hp):V->Value->Prop where
 |f9:Gc K H .f9 (.type "NoneType")
 |bl (x:Bool):Gc K H (.bl x) (.type "bool")
 |int (i:Int):Gc K H (.int i) (.type "int")
 |str (x:Str):Gc K H (.str x) (.type "str")
 |wh (x:UInt64):Gc K H (.wh x) (.type "float")
 |lst {a:Addr} {xs:List V} (e:H a=some (.lst xs)):Gc K H (.ref a) (.type "list")
 |PY {a:Addr} {o:Obj} {xs:List V} (e:H a=some (.PY o (.lst xs))):Gc K H (.ref a) (.type "list")
 |tup {a:Addr} {xs:List V} (e:H a=some (.tup xs)):Gc K H (.ref a) (.type "tuple")
 |dK {a:Addr} {kvs:List (Key×V)} (e:H a=some (.dK kvs)):Gc K H (.ref a) (.type "dict")
 |dT {a:Addr} {kvs:List (List Key×V)} (e:H a=some (.dT kvs)):Gc K H (.ref a) (.type "dict")
 |ins {a C dx:Addr} {fs:List (Str×V)} (e:H a=some (.ins C dx fs)) (cl:LI K C) (ha:aM K (.ref C) "__class__" = some (some (.builtin "object.__class__")))
  (hn:PySem.W.specialIn K (.builtin "object.__class__") "__get__" = some (some (.builtin "getset_descriptor.__get__"))) (htk:PySem.W.takesIn K (.builtin "object.__class__")=some true)
  (hm:PySem.W.mroIn K C (.type "object")=some true):Gc K H (.ref a) (.ref C)
theorem Wm{x:V}{u t:Value}(I:Inv X pins σ H s)(f:RelV x u)(F:Gc X.K H x t)(e:PySem.W.kitOne X.K t c=some b)(h:∀tk,Q (.bool b) {s with toks:=tk}) :
 wpAny (model X.prog X.w) A (call (.builtin "isinstance") [u,c]) Q E s:=by
 cases F with
 |f9=>cases (show u=Value.none from f);exact eU PySem.W.kitx_none I.Dd ki e (λz=>nomatch z) h
 |bl y=>cases (show u=Value.bool y from f);exact eU PySem.W.kitx_bool I.Dd ki e (λz=>nomatch z) h
 |int i=>obtain⟨t,q⟩:=(show ∃t,u=Value.int i t from f);cases q;exact eU PySem.W.kitx_int I.Dd ki e (λz=>nomatch z) h
 |str y=>obtain⟨t,q⟩:=(show ∃t,u=Value.str y t from f);cases q;exact eU PySem.W.kitx_str I.Dd ki e (λz=>nomatch z) h
 |wh y=>obtain⟨t,q⟩:=(show ∃t,u=Value.float y t from f);cases q;exact eU PySem.W.kitx_float I.Dd ki e (λz=>nomatch z) h
 |@lst a k d =>
  cases (show u=Value.ref a from f);obtain⟨_,_,n,_,g⟩:=(show iN X.prog X.w H s.heap a (.lst k) from I.hok a _ d);exact eU PySem.W.kitx_list I.Dd ⟨_,g,rfl⟩ e (λz=>nomatch z) h
 |@PY a r k d =>
  cases (show u=Value.ref a from f);obtain⟨_,_,_,n,_,g⟩:=(show iN X.prog X.w H s.heap a (.PY r (.lst k)) from I.hok a _ d);exact eU PySem.W.kitx_list I.Dd ⟨_,g,rfl⟩ e (λz=>nomatch z) h
 |@tup a k d =>
  cases (show u=Value.ref a from f);obtain⟨_,_,_,p⟩:=(show iN X.prog X.w H s.heap a (.tup k) from I.hok a _ d);obtain⟨o,g,l,_⟩:=p;exact eU PySem.W.kitx_tuple I.Dd ⟨o,g,l⟩ e (λz=>nomatch z) h
 |@dK a j d =>
  cases (show u=Value.ref a from f);obtain⟨_,_,S,_,p⟩:=(show iN X.prog X.w H s.heap a (.dK j) from I.hok a _ d);obtain⟨o,B,G,g,l,_⟩:=p;exact eU PySem.W.kitx_dict I.Dd ⟨o,g,l.1⟩ e (λz=>nomatch z) h
 |@dT a j d =>
  cases (show u=Value.ref a from f);obtain⟨_,_,k,_,o,B,G,g,l,_⟩:=(show iN X.prog X.w H s.heap a (.dT j) from I.hok a _ d);exact eU PySem.W.kitx_dict I.Dd ⟨o,g,l.1⟩ e (λz=>nomatch z) h
 |@ins a C R P d cl v L m D =>
  cases (show u=Value.ref a from f);obtain⟨N,O,_⟩:=IL I.hok d;obtain⟨M,J,_⟩:=O.look;exact eU (PySem.W.kitx_own (cl.get _) cl.hd v L m D) I.Dd J e (λz=>nomatch z) h
end
structure kD(k:Nat)(A:Around):Prop where
 hd:A.handled=none
 dp:A.depth+3*k+5<recursionLimit
 un:A.units+16*k+200<cLine
theorem kD.mono{j:Nat}(r:kD k A)(h:j<=k):kD j A:=⟨r.hd,by have:=r.dp;lia,by have:=r.un;lia⟩
theorem kD.deeper{k:Nat}(r:kD (k+1) A)(env:Env):kD k (A.deeper env) :=
 ⟨r.hd,by have:=r.dp;show A.depth+1+3*k+5<_;lia,by have:=r.un;show A.units+3+16*k+200<_;lia⟩
theorem SE{A:Around}{us:List Value}{a:List (Str×Value)}:(A.under (.builtin "type.__call__" ⟨.ref C::us,a⟩)).depth=A.depth+1:=by
 first|rfl|simp[Around.under,Code.weight,Code.isCreation,Code.isGuard,Code.isCaller,Code.frames,Code.isFrame,guardIds]
theorem SG{A:Around}{us:List Value}{a:List (Str×Value)}:(A.under (.builtin "type.__call__" ⟨.ref C::us,a⟩)).units=A.units+1:=by
 first|rfl|simp[Around.under,Code.cUnits,Code.frames,Code.isFrame]
theorem kD.make{k:Nat}(r:kD (k+1) A)(C:Addr)(us:List Value)(a:List (Str×Value)):kD k (A.under (.builtin "type.__call__" ⟨.ref C::us,a⟩)) :=
 ⟨r.hd,by have:=r.dp;rw[SE];lia,by have:=r.un;rw[SG];lia⟩
theorem kD.depth(r:kD k A):A.depth<recursionLimit:=by have:=r.dp;lia
theorem kD.units(r:kD k A):A.units+64<cLine:=by have:=r.un;lia
def Ex:TA:=λ_ H Q=>Q [] H
def iB(ta:TE)(tr:TA):TA:=λσ H Q=>ta σ H λx H1=>tr σ H1 λxs H2=>Q (x::xs) H2
section
variable{X:Cx}{e:Expr}{es:List Expr}{te:TE}{t:TA}{pos:Pos}
theorem fX:PA X [] Ex:=λ_ _ _ _ H Q I h=>Calls.spliced_nil ⟨[],H,I,.nil,h⟩
theorem abh(j:PE X e te)(g:PA X es t)(hs:starEach (e::es) X.env=(false,eval e X.env)::starEach es X.env:=by rfl):PA X (e::es) (iB te t):=by
 intro pos a s b H Q I h;rw[hs];show wpAny _ _ (spliced ((false,eval e X.env)::backTo pos (starEach es X.env))) _ _ s;refine Calls.spliced_cons (ia (j a s b H _ I h) λu o ⟨x,p,i,l,k⟩=>?_);exact ia (g pos a o b p _ i k) λr q ⟨c,m,n,f,d⟩=>⟨x::c,m,n,.cons l f,d⟩
def alp(t:TA):TE:=λσ H Q=>t σ H λxs H1=>xs.length<=sizeLine/\∀p,H1 p=none->Q (.ref p) (upd H1 p (.tup xs))
def alq(t:TA):TE:=λσ H Q=>t σ H λxs H1=>xs.length<=sizeLine/\∀p,H1 p=none->Q (.ref p) (upd H1 p (.lst xs))
theorem fY{x1}(h:PA X es t):PE X (.Tuple es x1 pos) (alp t):=by
 intro a s i H Q I j;refine wpAny_Tuple_spliced (ia (h pos a s i H _ I j) λk c ⟨g,f,d,r,z,q⟩=>⟨by rw[<- r.length];exact z,?_⟩);have l:f c.heap.objs.size=none:=d.hok.fresh (az _);refine⟨.ref c.heap.objs.size,upd f c.heap.objs.size (.tup g),d.laid (t':=c.toks) (λb u e=>Heap.get?_push_of_some _ e) (az _) ?_,rfl,q _ l⟩;exact⟨z,k,r,⟨_,Heap.get?_push_size _ rfl,rfl,_,rfl⟩⟩
theorem gV(h:PA X es t):PE X (.List es pos) (alq t):=by
 intro a s i H Q I j;refine wpAny_List_spliced (ia (h pos a s i H _ I j) λk c ⟨g,f,d,r,z,q⟩=>⟨by rw[<- r.length];exact z,?_⟩);have l:f c.heap.objs.size=none:=d.hok.fresh (az _);refine⟨.ref c.heap.objs.size,upd f c.heap.objs.size (.lst g),d.laid (t':=c.toks) (λb u e=>Heap.get?_push_of_some _ e) (az _) ?_,rfl,q _ l⟩;exact⟨z,k,0,r,Heap.get?_push_size _ rfl⟩
end
abbrev Sp:=List V->Hp->VK->XK->Prop
abbrev Wn:=List Env->Hp->Shared->XK->Value->Shared->Prop
structure SH(P:Program)(w:World)(K:ah)(mg:Str->Option Value)(base:Heap)(A:Around)(outer:List Env)(s:Shared)(H:Hp):Prop where
 frames:A.frames=some outer
 mod:Mod K mg base
 bs:∀b o,base.get? b=some o->s.heap.get? b=some o/\H b=none
 Yv:base.objs.size<=s.heap.objs.size
 Em:s.heap.FunFrames base outer
 qc:∀b∈frs outer,H b=none
 hok:Aq P w H s.heap
 bare:AllBare s.gens
def CE(outer:List Env)(P:Program)(w:World)(H:Hp)(s:Shared)(Q:VK)(u:Value)(s':Shared):Prop :=
 ∃v H',s'.os=s.os/\AllBare s'.gens/\Un (frs outer) [] H H' s.heap s'.heap/\Aq P w H' s'.heap/\RelV v u/\Q v H'
def CR(CX:Wn)(outer:List Env)(P:Program)(w:World)(H:Hp)(s:Shared)(Q:VK)(E:XK)(r:Result)(s':Shared):Prop :=
 match r with
 |.ok (.ret u)=>CE outer P w H s Q u s'
 |.ok _=>False
 |.error e=>CX outer H s E e s'
structure cH(P:Program)(w:World)(K:ah)(mg:Str->Option Value)(base:Heap)(CX:Wn)(k:Nat)(f:Addr)(fd:FuncData)(ps:List Str)(sp:Sp):Prop where
 len:∀vs H Q E,sp vs H Q E->vs.length=ps.length
 run:∀(A:Around) (outer:List Env) (s:Shared) (H:Hp) (args:Args) (us:List Value) (vs:List V) (Q:VK) (E:XK),kD k A->SH P w K mg base A outer s H->BindsTo s fd args (ps.zip us)->cF vs us->sp vs H Q E ->
  codeAny (model P w) A (.call (.ref f) args) (CR CX outer P w H s Q E) s
theorem SH.make{P:Program}{w:World}{K:ah}{b:Str->Option Value}{base:Heap}{A:Around}{a:List Env}{s:Shared}{H:Hp}(e:SH P w K b base A a s H)(C:Addr)(us:List Value)(c:List (Str×Value)) :
 SH P w K b base (A.under (.builtin "type.__call__" ⟨.ref C::us,c⟩)) a s H:=⟨by first|exact e.frames|(simpa [Around.under,Code.envs,Code.isFrame,pushEnvs] using e.frames),e.mod,e.bs,e.Yv,e.Em,e.qc,e.hok,e.bare⟩
section
variable{X:Cx}{pins:List (Addr×Obj)}{σ:St}{H:Hp}{s s':Shared}
theorem Inv.ahv(I:Inv X pins σ H s):SH X.prog X.w X.K X.mg X.base X.A X.stack s H :=
 ⟨I.ok.frames,I.ok.mod,I.bs,aN I.ok.Yv I.sz,I.stack,I.Ob,I.hok,I.bare⟩
theorem Inv.after(I:Inv X pins σ H s)(h:CE X.stack X.prog X.w H s Q u s'):EP X pins σ Q u s':=by
 obtain⟨v,f,os,a,j,e,r,q⟩:=h;obtain⟨i,g,d,t,c⟩:=s';obtain rfl:c=s.os:=os;exact⟨v,f,I.call (h':=i) (g':=g) (d':=d) (t':=t) (ch:=[]) j e a (λb z=>cy z (-_)),r,q⟩
end
def adf(sp:Sp)(Dh:List V)(E:XK)(t:TA):TE:=λσ H Q=>t σ H λvs H1=>sp (vs++Dh) H1 Q E
inductive adg(C:Addr)(m:Str)(sp:Sp)(Dh:List V)(E:XK)(t:TA)(σ:St)(Q:VK)(x:V)(H1:Hp):Prop
 |mk (a dx:Addr) (fs:List (Str×V)) (h1:x=.ref a) (h2:H1 a=some (.ins C dx fs)) (h3:fs.lookup m=none) (h4:t σ H1 λvs H2=>sp (x::(vs++Dh)) H2 Q E):adg C m sp Dh E t σ Q x H1
def Hr(C:Addr)(m:Str)(sp:Sp)(Dh:List V)(E:XK)(ta:TE)(t:TA):TE:=λσ H Q=>ta σ H (adg C m sp Dh E t σ Q)
def YU(C:Addr)(sp:Sp)(Dh:List V)(E:XK)(t:TA):TE:=λσ H Q=>t σ H λvs H1=>∀x dx,H1 x=none->H1 dx=none->dx≠x ->
 sp (.ref x::(vs++Dh)) (upd (upd H1 dx (.own x)) x (.ins C dx [])) (λv H2=>v=.f9/\Q (.ref x) H2) E
def Binds(K:ah)(fd:FuncData)(ps:List Str)(ds:List Value):Prop :=
 ∀(s:Shared) (us:List Value),K.In s.heap->(us++ds).length=ps.length->BindsTo s fd ⟨us,[]⟩ (ps.zip (us++ds))
theorem Binds.all{K:ah}{ps:List Str}(h:∀us:List Value,us.length=ps.length->bindArgs fd ⟨us,[]⟩=pure (ps.zip us)):Binds K fd ps []:=λs us _ a=>by
 rw[bQ] at a ⊢;exact .of_eq (h us a)
def tN(CX:Wn)(X:Cx)(E:XK):Prop:=∀(pins:List (Addr×Obj)) (σ:St) (H:Hp) (s:Shared) (e:Value) (s':Shared),Inv X pins σ H s->CX X.stack H s E e s'->X.xe e s'
section
variable{X:Cx}{CX:Wn}{k:Nat}{f C:Addr}{fd:FuncData}{ps:List Str}{sp:Sp}{Dh:List V}{ds:List Value}{E:XK}{x m:Str}{p pos apos:Pos}{e o:Expr}{es:List Expr}{ta:TE}{t:TA}
theorem Oh{a:List (Addr×Obj)}{c:St}{H:Hp}{s:Shared}{Q:VK}{us:List Value}{vs:List V}(F:cH X.prog X.w X.K X.mg X.base CX k f fd ps sp)(i:kD k X.A)(n:Binds X.K fd ps ds)(o:cF Dh ds)(l:tN CX X E)
 (I:Inv X a c H s) (r:cF vs us) (h:sp (vs++Dh) H Q E):wpAny (model X.prog X.w) X.A (call (.ref f) us) (EP X a c Q) X.xe s:=by
 have d:cF (vs++Dh) (us++ds):=r.append o;have j:(us++ds).length=ps.length:=by rw[<- d.length];exact F.len _ _ _ _ h
 refine wpAny_call (codeAny_mono (F.run X.A X.stack s H ⟨us,[]⟩ (us++ds) (vs++Dh) Q E i I.ahv (n s us I.Dd j) d h) λr g b=>?_);cases r with
 |error e=>exact l a c H s e g I b
 |ok m =>
  cases m with
  |ret u=>exact I.after b
  |next=>exact kB b
  |brk=>exact kB b
  |cont=>exact kB b
theorem Ey(F:cH X.prog X.w X.K X.mg X.base CX k f fd ps sp)(i:kD k X.A)(u:Gl X x)(o:X.mg x=some (.ref f))(l:eY X.K (.ref f)=true)(v:Binds X.K fd ps ds)(y:cF Dh ds)(n:tN CX X E)
 (j:PA X (e::es) t) (b:(x==("__debug__" : Str))=false:=by decide) (m:starEach (e::es) X.env=(false,eval e X.env)::starEach es X.env:=by rfl) (c:(backTo pos (starEach es X.env)).any (·.1)=false:=by rfl) :
 PE X (.Call (.Name x p) (e::es) [] pos) (adf sp Dh E t):=by
 intro a s g H Q I h;refine wpAny_Call_Name_kw (Er I u o ?_ b);refine PySem.W.callWith_K (h₀:=X.base) I.ok.mod.tw l (ia (j pos a s g H _ I h) λB z ⟨D,C,d,r,q⟩=>⟨d.Dd,?_⟩) m c;exact Oh F i v y n d r q
theorem lg{pl:Sem Bool}(G:PE X o ta)(c:LI X.K C)(hm:Og X.K C m f)(F:cH X.prog X.w X.K X.mg X.base CX k f fd ps sp)(z:kD k X.A)(P:Binds X.K fd ps ds)(R:cF Dh ds)(L:tN CX X E)(D:PA X (e::es) t)
 (g:starEach (e::es) X.env=(false,eval e X.env)::starEach es X.env:=by rfl) (d:(backTo pos (starEach es X.env)).any (·.1)=false:=by rfl)
 (J:eval (.Call (.Attribute o m apos) (e::es) [] pos) X.env=(do
  let n <- eval o X.env
  standAt apos.atName
  let (f,first) <- holding [n] (getMethod n m pl)
  callWith pos f first (backTo pos (starEach (e::es) X.env)) (backToKw pos (keywordEach [] X.env))):=by rfl) :
 PE X (.Call (.Attribute o m apos) (e::es) [] pos) (Hr C m sp Dh E ta t):=by
 intro b s i H Q I h;refine PySem.W.methodCall_KW (pl:=pl) (ia (G b s i H _ I h) λu M ⟨x,O,j,B,a,U,T,N,v,l,q⟩=>?_) J;subst N;obtain rfl:u=Value.ref a:=B;refine Jl j v c hm l ?_;refine PySem.W.callWith_K (first:=[.ref a]) (h₀:=X.base) I.ok.mod.tw hm.kp (ia (D pos b M i O _ j q) λus S ⟨vs,V,p,r,y⟩=>⟨p.Dd,?_⟩) g d;exact Oh (us:=.ref a::us) (vs:=.ref a::vs) F z P R L p (.cons rfl r) y
theorem jc{pl:Sem Bool}(p:PE X o ta)(c:LI X.K C)(hm:Og X.K C m f)(F:cH X.prog X.w X.K X.mg X.base CX k f fd ps sp)(j:kD k X.A)(y:Binds X.K fd ps ds)(z:cF Dh ds)(t:tN CX X E)
 (r:eval (.Call (.Attribute o m apos) [] [] pos) X.env=(do
  let e <- eval o X.env
  standAt apos.atName
  let (f,first) <- holding [e] (getMethod e m pl)
  callWith pos f first (backTo pos (starEach [] X.env)) (backToKw pos (keywordEach [] X.env))):=by rfl) :
 PE X (.Call (.Attribute o m apos) [] [] pos) (Hr C m sp Dh E ta Ex):=by
 intro b s g H Q I h;refine PySem.W.methodCall_KW (pl:=pl) (ia (p b s g H _ I h) λu G ⟨x,J,d,n,a,D,B,v,i,l,q⟩=>?_) r;subst v;obtain rfl:u=Value.ref a:=n;refine Jl d i c hm l ?_;exact PySem.W.callWith_K0 (first:=[.ref a]) d.Dd hm.kp (Oh (us:=[.ref a]) (vs:=[.ref a]) F j y z t d (.cons rfl .nil) q)
structure Mk(K:ah)(C f:Addr):Prop where
 makes:PySem.W.makesIn K C=true
 init:aM K (.ref C) "__init__" = some (some (.ref f))
 fn:PySem.W.isFn K (.ref f)=true
 kp:eY K (.ref C)=true
theorem P6{a:List (Addr×Obj)}{g:St}{H:Hp}{s:Shared}{Q:VK}{us:List Value}{vs:List V}(M:Mk X.K C f)(F:cH X.prog X.w X.K X.mg X.base CX k f fd ps sp)(n:kD (k+1) X.A)(G:Binds X.K fd ps ds)(J:cF Dh ds)
 (t:tN CX X E) (I:Inv X a g H s) (r:cF vs us)
 (h:∀x c,H x=none->H c=none->c≠x->sp (.ref x::(vs++Dh)) (upd (upd H c (.own x)) x (.ins C c [])) (λv z=>v=.f9/\Q (.ref x) z) E) :
 wpAny (model X.prog X.w) X.A (call (.ref C) us) (EP X a g Q) X.xe s:=by
 have j:=h (s.heap.objs.size+1) s.heap.objs.size (I.hok.fresh (fU _)) (I.hok.fresh (az _)) (bH (yD _));have d:=Inv.made (C:=C) I;have i:cF (V.ref (s.heap.objs.size+1)::(vs++Dh)) (Value.ref (s.heap.objs.size+1)::(us++ds)):=.cons rfl (r.append J);have p:(Value.ref (s.heap.objs.size+1)::us++ds).length=ps.length:=by
  have e:=i.length;rw[F.len _ _ _ _ j] at e;exact e.symm
 refine wpAny_call (YT (f:=f) I.Dd M.makes M.init (beq_iff_eq.mp M.fn) (codeAny_mono (F.run _ X.stack _ _ ⟨Value.ref (s.heap.objs.size+1)::us,[]⟩ (Value.ref (s.heap.objs.size+1)::(us++ds)) _ _ E (n.make C us [])
  (d.ahv.make C us []) (G _ (Value.ref (s.heap.objs.size+1)::us) d.Dd p) i j) λr m b=>?_))
 cases r with
 |error e=>exact t a g _ _ e m d b
 |ok D =>
  cases D with
  |ret u =>
   obtain⟨v,l,y,B,o,q⟩:=d.after b;subst o;exact⟨B,⟨V.ref (s.heap.objs.size+1),l,y,rfl,q⟩⟩
  |next=>exact kB b
  |brk=>exact kB b
  |cont=>exact kB b
theorem UM(M:Mk X.K C f)(F:cH X.prog X.w X.K X.mg X.base CX k f fd ps sp)(i:kD (k+1) X.A)(o:Gl X x)(n:X.mg x=some (.ref C))(u:Binds X.K fd ps ds)(v:cF Dh ds)(m:tN CX X E)
 (j:PA X (e::es) t) (b:(x==("__debug__" : Str))=false:=by decide) (l:starEach (e::es) X.env=(false,eval e X.env)::starEach es X.env:=by rfl) (c:(backTo pos (starEach es X.env)).any (·.1)=false:=by rfl) :
 PE X (.Call (.Name x p) (e::es) [] pos) (YU C sp Dh E t):=by
 intro a s g H Q I h;refine wpAny_Call_Name_kw (Er I o n ?_ b);refine PySem.W.callWith_K (h₀:=X.base) I.ok.mod.tw M.kp (ia (j pos a s g H _ I h) λz y ⟨D,B,d,r,q⟩=>⟨d.Dd,?_⟩) l c;exact P6 M F i u v m d r q
theorem YV(M:Mk X.K C f)(F:cH X.prog X.w X.K X.mg X.base CX k f fd ps sp)(g:kD (k+1) X.A)(i:Gl X x)(d:X.mg x=some (.ref C))(e:Binds X.K fd ps ds)(j:cF Dh ds)(c:tN CX X E)
 (a:(x==("__debug__" : Str))=false:=by decide):PE X (.Call (.Name x p) [] [] pos) (YU C sp Dh E Ex):=by
 intro b s l H Q I h;refine wpAny_Call_Name_kw (Er I i d ?_ a);exact PySem.W.callWith_K0 I.Dd M.kp (P6 (us:=[]) M F g e j c I .nil h)
end
structure aP(N P:List Str)(sc:Scope):Prop where
 kind:sc.kind=.function
 co:sc.isCoroutine=false
 gen:sc.isGenerator=false
 nd:N.Nodup
 pre:N.take P.length=P
 par:∀x∈P,sc.names.lookup x=some .local∨sc.names.lookup x=some .cell
 aeJ:∀y∈sc.names,y.2≠.free
theorem MI{kindOf:Str->Option NameKind}{x:Str}:∀{a:List (Str×Value)} {m:Str->Option Value},(∀v,(x,v)∉a)->bindL kindOf a m x=m x
 |[],_,_=>rfl
 | (n,v)::r,m,h=>by
  unfold bindL;rw[MI λw b=>h w (bf _ b)];split
  ·have:x≠n:=by rintro rfl;exact h v bE
   simp[this]
  ·rfl
theorem MJ{kindOf:Str->Option NameKind}{x:Str}:∀{a:List (Str×Value)} {m:Str->Option Value},(∀v,(x,v)∉a)->bindC kindOf a m x=m x
 |[],_,_=>rfl
 | (n,v)::r,m,h=>by
  unfold bindC;rw[MJ λw b=>h w (bf _ b)];split
  ·rfl
  ·have:x≠n:=by rintro rfl;exact h v bE
   simp[this]
theorem MK{kindOf:Str->Option NameKind}{x:Str}{v:Value}:∀{P:List Str} {vs:List Value} {i:Nat} {m:Str->Option Value},P.Nodup->P[i]?=some x->vs[i]?=some v->kindOf x=some .local ->
 bindL kindOf (P.zip vs) m x=some v
 |[],_,_,_,_,h,_,_=>by simp at h
 |_::_,[],_,_,_,_,h,_=>by simp at h
 |p::P,w::vs,0,m,nd,b,a,c=>by
  simp at b a;subst b;subst a;show bindL kindOf ((p,w)::P.zip vs) m p=_;unfold bindL;rw[MI λv d=>(dm.mp nd).1 (List.of_mem_zip d).1,aq c];simp
 |p::P,w::vs,i+1,m,nd,b,a,c=>by
  show bindL kindOf ((p,w)::P.zip vs) m x=_;unfold bindL;exact MK (i:=i) (dm.mp nd).2 (by simpa using b) (by simpa using a) c
theorem ML{kindOf:Str->Option NameKind}{x:Str}{v:Value}:∀{P:List Str} {vs:List Value} {i:Nat} {m:Str->Option Value},P.Nodup->P[i]?=some x->vs[i]?=some v->kindOf x≠some .local ->
 bindC kindOf (P.zip vs) m x=some v
 |[],_,_,_,_,h,_,_=>by simp at h
 |_::_,[],_,_,_,_,h,_=>by simp at h
 |p::P,w::vs,0,m,nd,b,a,c=>by
  simp at b a;subst b;subst a;show bindC kindOf ((p,w)::P.zip vs) m p=_;unfold bindC;rw[MJ λv d=>(dm.mp nd).1 (List.of_mem_zip d).1,b3 c];simp
 |p::P,w::vs,i+1,m,nd,b,a,c=>by
  show bindC kindOf ((p,w)::P.zip vs) m x=_;unfold bindC;exact ML (i:=i) (dm.mp nd).2 (by simpa using b) (by simpa using a) c
def start(N:List Str)(vs:List V):St:=vs.map some++bK (N.length-vs.length) none
def pX(CX:Wn)(P:Program)(w:World)(K:ah)(mg:Str->Option Value)(base:Heap)(N:List Str)(qual:Str)(scope:Scope)(f:Addr)(cd:Value)(A:Around)(outer:List Env)(s:Shared)(H:Hp)(E:XK):Cx where
 prog:=P
 w:=w
 K:=K
 mg:=mg
 base:=base
 A:=A.deeper (envOfC qual scope s.heap.objs.size f cd)
 N:=N
 s₀:=s
 H₀:=H
 env:=envOfC qual scope s.heap.objs.size f cd
 outer:=outer
 stack:=envOfC qual scope s.heap.objs.size f cd::outer
 ex:=[]
 calm:=true
 fn:=λ_=>true
 pn:=[]
 xe:=λe s'=>wpAny (model P w) (A.deeper (envOfC qual scope s.heap.objs.size f cd)) (leaving (envOfC qual scope s.heap.objs.size f cd) e) (λ_ s''=>CX outer H s E e s'') (λe' s''=>CX outer H s E e' s'') s'
theorem P7{a:Scope}(h:a.names.lookup x=some .cell):∃c,(cellsFrom n a.names []).lookup x=some c:=by
 have q:=PySem.W.cellsFrom_some a.names n [] (.inl h);exact Option.isSome_iff_exists.mp q
theorem Wo{CX:Wn}{P:Program}{w:World}{K:ah}{F:Str->Option Value}{base:Heap}{N ps:List Str}{g:Str}{scope:Scope}{f:Addr}{D:Value}{A:Around}{d:List Env}{s J:Shared}{H:Hp}{E:XK}{us:List Value}{vs:List V}
 (S:aP N ps scope) (Q:A.handled=none) (l:SH P w K F base A d s H) (hl:vs.length=ps.length) (r:cF vs us)
 (x:InCallC s s.heap.objs.size (bindL (envOfC g scope s.heap.objs.size f D).kindOf (ps.zip us) λ_=>none) (cellsFrom (s.heap.objs.size+1) scope.names []) (bindC (envOfC g scope s.heap.objs.size f D).kindOf (ps.zip us) λ_=>none) J) :
 Inv (pX CX P w K F base N g scope f D A d s H E) [] (start N vs) H J:=by
 have L:ps.length<=N.length:=by have:=ff wk S.pre;rw[cu] at this;lia
 obtain⟨C,R,rfl,I⟩:=x.done;have m:∀b:Addr,b∉(pX CX P w K F base N g scope f D A d s H E).ex:=λb z=>cy (show b∈([]:List Addr) from z) (-_);refine⟨⟨l.mod,S.kind,rfl,rfl,az _,λy z c C j=>?_,λy hy=>?_,λy c _ h=>?_,λ_=>Q,Around.frames_deeper l.frames,.inr ⟨rfl,rfl⟩,λb z=>cy z (m b),l.bs,l.Yv,λb _ _=>m b,λb z=>cy z (m b),l.Em,l.qc⟩,
  rfl,l.bare,Un.kept I,⟨_,x.toInCall.ns,λi y v C j T=>?_⟩,λy c h=>⟨_,x.cell y c h⟩,l.hok.fresh (az _),λy c h=>?_,λp t=>cy (show p∈([]:List (Addr×Obj)) from t) (-_),l.hok.kept I,?_⟩
 ·exact name_of_addr x.apart (rC C) (rC j)
 ·have hy:scope.names.lookup y=some .cell∨scope.names.lookup y=some .free:=hy
  rcases hy with hy|hy
  ·exact P7 hy
  ·exact cy rfl (S.aeJ _ (rC hy))
 ·exact gI (x.above y c (rC h))
 ·have B:i<vs.length:=by
   unfold start at j;by_cases B:i<vs.length
   ·exact B
   ·rw[bT (by simpa using B)] at j
    rw[List.getElem?_replicate] at j;split at j <;> cases j
  have M:vs[i]?=some v:=by
   unfold start at j;rw[bR (by simpa using B),ak] at j;cases e:vs[i]? with
   |none=>rw[e] at j;cases j
   |some a=>rw[e] at j;cases j;rfl
  obtain⟨u,G,O⟩:=r.get M;have t:ps[i]?=some y:=by
   rw[<- S.pre,eF ∅];exact C
  have o:ps.Nodup:=by rw[<- S.pre];exact S.nd.sublist (List.take_sublist _ _)
  refine⟨u,O,?_⟩;rcases S.par y (aC t) with k|k
  ·exact .inl ⟨k,MK o t G k⟩
  ·obtain⟨c,e⟩:=P7 (n:=s.heap.objs.size+1) k
   refine .inr ⟨.inl k,c,e,?_⟩;have q:=x.cell y c e;rw[ML o t G (by show scope.names.lookup y≠_;rw[k];decide)] at q;exact q
 ·exact l.hok.fresh (gI (x.above y c (rC h)))
 ·unfold start
  show _=N.length;rw[aB,af,List.length_replicate];lia
theorem YW{CX:Wn}{P:Program}{w:World}{K:ah}{F:Str->Option Value}{base:Heap}{k:Nat}{f:Addr}{name c:Str}{g:Arguments}{h:List Stmt}{scope:Scope}{U kV C Y d ct oc:Value}{an od:Option Addr}
 {O:Array (Option Value)} {N ps:List Str} {sp:Sp} (lk:K.lookup f=some ⟨oc,od,.func (fJ name c g h scope U kV C Y an d ct),O⟩) (T:jX K d c=true) (S:aP N ps scope)
 (B:∀vs H Q E,sp vs H Q E->vs.length=ps.length)
 (l:∀(A:Around) (a:List Env) (s:Shared) (H:Hp) (vs:List V) (Q:VK) (E:XK),kD k (A.deeper (envOfC c scope s.heap.objs.size f d))->sp vs H Q E ->
  ∃t,iP (pX CX P w K F base N c scope f d A a s H E) h t/\t {nx:=λ_ j=>Q .f9 j,rt:=Q} (start N vs) H) :
 cH P w K F base CX (k+1) f (fJ name c g h scope U kV C Y an d ct) ps sp:=by
 refine⟨B,λA a s H Z us vs Q E M D hb r Yg=>?_⟩;have hl:=B _ _ _ _ Yg;have X:K.In s.heap:=D.mod.tw.keeps λb o e=>(D.bs b o e).1;have G:s.heap.NoLimit:=D.mod.nolimit.keeps λb o e=>(D.bs b o e).1;have m:∀y∈ps.zip us,scope.names.lookup y.1=some .local∨(scope.names.lookup y.1=some .cell/\((cellsFrom (s.heap.objs.size+1) scope.names []).lookup y.1).isSome=true):=λ⟨n,v⟩ hy=>by
  rcases S.par n (List.of_mem_zip hy).1 with q|q
  ·exact .inl q
  ·exact .inr ⟨q,PySem.W.cellsFrom_some _ _ _ (.inl q)⟩
 refine codeAny_call_function M.depth (X _ _ lk) rfl S.co S.gen rfl (PySem.W.codeRec_of X T) (hb _ _ _ _ ?_);refine wpAny_newFunctionEnv_cells S.kind m λenv he s1 x=>?_;subst he;refine⟨G.keeps x.toInCall.keep,codeAny_func ?_⟩;obtain⟨t,ht,hq⟩:=l A a s H vs Q E (M.deeper _) Yg;have I:Inv (pX CX P w K F base N c scope f d A a s H E) [] (start N vs) H s1:=Wo S M.hd D hl r x;refine wpAny_mono (ht [] s1 (start N vs) H _ I hq) (λfl R p=>?_) λe R p=>p;have z:∀{i:St} {j:Hp} {v:V} {u:Value},Inv (pX CX P w K F base N c scope f d A a s H E) [] i j R->RelV v u->Q v j->CE a P w H s Q u R :=
  λ{i j v u} J L q=>⟨v,j,J.os,J.bare,J.base,J.hok,L,q⟩
 cases fl with
 |ret u =>
  obtain⟨v,i,j,J,L,q⟩:=p;exact z J L q
 |next =>
  obtain⟨i,j,J,q⟩:=p;exact z (v:=V.f9) (u:=Value.none) J rfl q
 |brk =>
  obtain⟨_,_,_,q⟩:=p;exact kB q
 |cont =>
  obtain⟨_,_,_,q⟩:=p;exact kB q
section
variable{X:Cx}{x:Str}{p pos:Pos}{e:Expr}{es:List Expr}{t:TA}{id T:String}{r:List V->Hp->VK->Prop}
def tCB(r:List V->Hp->VK->Prop)(t:TA):TE:=λσ H Q=>t σ H λvs H1=>r vs H1 Q
theorem P8(y:nN X (.builtin id) r)(o:Gl X x)(m:X.mg x=none)(g:bootBuiltins x=some (.builtin id))(i:PA X (e::es) t)(w:x≠"__name__" := by decide)(b:(x==("__debug__" : Str))=false:=by decide)
 (k:starEach (e::es) X.env=(false,eval e X.env)::starEach es X.env:=by rfl) (c:(backTo pos (starEach es X.env)).any (·.1)=false:=by rfl):PE X (.Call (.Name x p) (e::es) [] pos) (tCB r t):=by
 intro a s d H Q I h;refine wpAny_Call_Name_kw (Jg I o m g ?_ w b);exact PyProof.Rows.callWith_builtin1 (ia (i pos a s d H _ I h) λq n ⟨v,u,f,l,j⟩=>y a n d u v q Q f l j) k c
theorem fQ(y:nN X (.type T) r)(o:Gl X x)(m:X.mg x=none)(g:bootBuiltins x=some (.type T))(i:PA X (e::es) t)(w:x≠"__name__" := by decide)(b:(x==("__debug__" : Str))=false:=by decide)
 (k:starEach (e::es) X.env=(false,eval e X.env)::starEach es X.env:=by rfl) (c:(backTo pos (starEach es X.env)).any (·.1)=false:=by rfl):PE X (.Call (.Name x p) (e::es) [] pos) (tCB r t):=by
 intro a s d H Q I h;refine wpAny_Call_Name_kw (Jg I o m g ?_ w b);exact PyProof.Rows.callWith_type1 (ia (i pos a s d H _ I h) λq n ⟨v,u,f,l,j⟩=>y a n d u v q Q f l j) k c
end
end L2
namespace HT
open PySem PyProof.Rows
theorem P9(A:Around)(s:Shared)(a:Int)(t:Tok)(c:Int)(u:Tok):∃e,SeqAt.EqAt A s (.int a t) (.int c u) e/\(e=true↔a=c) :=
 ⟨(a==c),SeqAt.EqAt.int_int a t c u,-_⟩
theorem YX(A:Around)(s:Shared)(a:Int)(t:Tok)(c:Int)(u:Tok)(prog:Program)(w:World)(E:Value->Shared->Prop)(Q:Value->Shared->Prop)(h:Q (.bool (decide (a<c))) s) :
 wpAny (model prog w) A (richCompare .Lt (.int a t) (.int c u)) Q E s :=
 (PyProof.Rows.lt_int h:wpAny (model prog w) A (compareOp .Lt (.int a t) (.int c u)) Q E s)
section
open PySem.SeqAt
open PySem.AutoSeq1 (wpAny_loadPart')
open PySem.MeetsSeq PySem.MeetsSeq2 PySem.MeetsSeq3
end
section
variable{prog:Program}{w:World}{A:Around}{E:Value->Shared->Prop}{s:Shared}
def lX(n d:Nat):Option Int->Nat
 |none=>d
 |some v=>if v<0 then (v+(n:Int)).toNat else min v.toNat n
theorem Ez(n d k:Nat):lX n d (some (k:Int))=min k n:=by
 show (if (k:Int)<0 then ((k:Int)+(n:Int)).toNat else min (k:Int).toNat n)=min k n;rw[b3 ∅,cO]
theorem aeK(n d:Nat)(b:d<=n)(o:Option Int):lX n d o<=n:=by
 cases o with
 |none=>exact b
 |some v =>
  show (if v<0 then (v+(n:Int)).toNat else min v.toNat n)<=n;by_cases a:v<0
  ·rw[aq a];lia
  ·rw[b3 a];exact Nat.min_le_right _ _
theorem UN(v:Int)(n d:Nat):(if v<0 then max (v+(n:Int)) 0 else min v (n:Int))=((lX n d (some v):Nat):Int):=by
 show (if v<0 then max (v+(n:Int)) 0 else min v (n:Int))=(((if v<0 then (v+(n:Int)).toNat else min v.toNat n):Nat):Int);by_cases a:v<0
 ·simp only[aq a];lia
 ·simp only[b3 a];lia
theorem SI(lo a:Option Int)(n:Nat):Builtin.Slice.sliceAdjust lo a 1 (n:Int)=(((lX n 0 lo:Nat):Int),((lX n n a:Nat):Int)):=by
 have b:¬((1:Int)<0):=∅
 unfold Builtin.Slice.sliceAdjust;simp only[b,if_false];refine Prod.ext ?_ ?_
 ·cases lo with
  |none=>rfl
  |some v=>exact UN v n 0
 ·cases a with
  |none=>rfl
  |some v=>exact UN v n n
theorem SJ(i j:Nat):Builtin.Slice.slicePlaces (i:Int) (j:Int) 1=j-i:=by
 unfold Builtin.Slice.slicePlaces;have a:(1:Int) > 0:=∅
 simp only[a,if_true,Int.ediv_one];split <;> lia
theorem Jo{Q:Option Int->Shared->Prop}(p:IsPart v o)(h:Q o s):wpAny (model prog w) A (Builtin.Slice.slicePartIndex v) Q E s:=by
 cases p with
 |none=>exact slicePart_none h
 |int i t=>exact slicePart_int h
theorem Gd{f:Addr}{d e:Value}{lo b:Option Int}{n:Nat}{Q:Int×Int×Nat->Shared->Prop}(hs:s.heap.IsSliceOf f d e .none)(pl:IsPart d lo)(g:IsPart e b)
 (h:Q (((lX n 0 lo:Nat):Int),1,lX n n b-lX n 0 lo) s):wpAny (model prog w) A (Builtin.Slice.sliceApplied (.ref f) (pure (n:Int))) Q E s:=by
 obtain⟨os,c,i,a⟩:=id hs;unfold Builtin.Slice.sliceApplied Builtin.Slice.sliceFields;refine wpAny_bind (wpAny_bind (wpAny_field c a (x:=d) rfl (wpAny_bind (wpAny_field c a (x:=e) rfl (wpAny_bind (wpAny_field c a (x:=.none) rfl (wpAny_pure ?_)))))));refine wpAny_bind (slicePart_none ?_);show wpAny _ _ (if ((1:Int)==0)=true then _ else _) _ _ s;rw[b3 (!_)];refine wpAny_bind (Jo pl (wpAny_bind (Jo g (wpAny_bind (wpAny_pure ?_)))));show wpAny _ _ (match Builtin.Slice.sliceAdjust lo b 1 (n:Int) with|(lo,b)=>pure (lo,(1:Int),Builtin.Slice.slicePlaces lo b 1)) _ _ s;rw[SI lo b n];show wpAny _ _ (pure (((lX n 0 lo:Nat):Int),(1:Int),Builtin.Slice.slicePlaces ((lX n 0 lo:Nat):Int) ((lX n n b:Nat):Int) 1)) _ _ s;rw[SJ];exact wpAny_pure h
theorem YY(xs:Array Value)(i k:Nat):((av k).filterMap λ(m:Nat)=>xs[((i:Int)+(m:Int)*1).toNat]?).toArray=((xs.toList.drop i).take k).toArray:=by
 have e:(λ(m:Nat)=>xs[((i:Int)+(m:Int)*1).toNat]?)=λm=>xs[i+m]?:=by
  funext m
  have:((i:Int)+(m:Int)*1).toNat=i+m:=∅
  rw[this]
 rw[e]
 have:=pick_run xs i k
 rw[List.filterMap_map] at this;have a:((λx=>xs[x]?)∘λx=>i+x)=λm=>xs[i+m]?:=rfl;rw[a] at this;rw[this]
theorem EA{t g:Addr}{items:Array Value}{k j:Value}{lo a:Option Int}{Q:Value->Shared->Prop}(b:IsTup s.heap t items)(hs:s.heap.IsSliceOf g k j .none)(pl:IsPart k lo)(o:IsPart j a)
 (l:¬(lX items.size 0 lo=0/\lX items.size items.size a=items.size))
 (h:Q (.ref s.heap.objs.size) {s with heap:=s.heap.push {cls:=.type "tuple",data:=.seq ((items.toList.drop (lX items.size 0 lo)).take (lX items.size items.size a-lX items.size 0 lo)).toArray}})
 (p:items.size<=sizeLine):wpAny (model prog w) A (getItem (.ref t) (.ref g)) Q E s:=by
 have c:sizeOk (.seq ((items.toList.drop (lX items.size 0 lo)).take (lX items.size items.size a-lX items.size 0 lo)).toArray):=by
  show ((items.toList.drop (lX items.size 0 lo)).take (lX items.size items.size a-lX items.size 0 lo)).toArray.size<=sizeLine;rw[aZ,cu,List.length_drop,g9];lia
 have v:lX items.size items.size a<=items.size:=aeK _ _ (az _) a;obtain⟨os,e,i,n⟩:=id hs;have d:s.TypeIs (.ref g) "slice" := ⟨os,e,i⟩;unfold getItem
 try with_reducible refine wpAny_holding ?_
 first|refine wpAny_bind (wpAny_pure ?_)|skip
 refine wpAny_bind (wpAny_sequenceKey b.typeIs (!_) ?_);refine wpAny_bind (wpAny_callSpecial?_slot (name:=Str.ofString "__getitem__") b.typeIs wg
  (wpAny_call_entry wg b.typeIs entry_tuple_getitem ?_ (args_tuple_getitem _ _)))
 show wpAny _ _ (Builtin.Tuple.tupleItemsOf (.ref t) >>= _) _ _ s;refine wpAny_bind (tupleItemsOf_ b ?_);refine wpAny_bind (wpAny_typeOf d ?_);rw[aq (!_)];refine wpAny_bind (Gd hs pl o ?_);have f:¬((((lX items.size 0 lo:Nat):Int)==0&&(1:Int)==1&&(lX items.size items.size a-lX items.size 0 lo)==items.size)=true):=by
  intro q;rw[dj,dj] at q;have u:((lX items.size 0 lo:Nat):Int)=0:=eq_of_beq q.1.1;have r:lX items.size items.size a-lX items.size 0 lo=items.size:=eq_of_beq q.2;exact l ⟨∅,∅⟩
 show wpAny _ _ (if (((lX items.size 0 lo:Nat):Int)==0&&(1:Int)==1&&(lX items.size items.size a-lX items.size 0 lo)==items.size)=true then _ else _) _ _ s;rw[b3 f,YY]
 first
  |exact wpAny_bind (m:=Builtin.Tuple.tupleExact _) (wpAny_newObj_type (wpAny_pure ⟨_,rfl,wpAny_pure h⟩) c)
  |exact wpAny_bind (m:=Builtin.Tuple.tupleExact _) (wpAny_newObj_type (wpAny_bind (wpAny_pure (wpAny_pure ⟨_,rfl,wpAny_pure h⟩))) c)
  |exact wpAny_bind (wpAny_bind (m:=Builtin.Tuple.tupleExact _) (wpAny_newObj_type (wpAny_pure (wpAny_pure ⟨_,rfl,wpAny_pure h⟩)) c))
  |exact wpAny_bind (wpAny_bind (m:=Builtin.Tuple.tupleExact _) (wpAny_newObj_type (wpAny_pure ⟨_,rfl,wpAny_pure h⟩) c))
end
end HT
namespace L2
open PySem PySem.Spec PyProof.Rows
abbrev TO:=St->Hp->(Option Int->Hp->Prop)->Prop
def PO(X:Cx)(e:Option Expr)(t:TO):Prop :=
 ∀(pins:List (Addr×Obj)) (s:Shared) (σ:St) (H:Hp) (Q:Option Int->Hp->Prop),Inv X pins σ H s->t σ H Q ->
  wpAny (model X.prog X.w) X.A (evalPart e X.env) (λu s'=>∃o H',Inv X pins σ H' s'/\IsPart u o/\Q o H') X.xe s
def abi:TO:=λ_ H Q=>Q none H
inductive adh(Q:Option Int->Hp->Prop)(x:V)(H1:Hp):Prop
 |mk (i:Int) (a:x=.int i) (b:Q (some i) H1):adh Q x H1
def ahx(t:TE):TO:=λσ H Q=>t σ H (adh Q)
theorem intsAre_of:∀{us:List Value},cF (ns.map V.int) us->IntsAre us ns:=by
 induction ns with
 |nil=>intro us r;rw[xM] at r;cases r;exact .nil
 |cons n ns a =>
  intro us r;rw[bG] at r;cases r with
  |cons b c =>
   obtain⟨t,e⟩:=b;subst e;exact .cons n t (a c)
section
variable{X:Cx}{e:Expr}{te:TE}{lo hi:Option Expr}{tl th:TO}{pos p2:Pos}
theorem EB:PO X none abi:=by
 intro a s b H Q I h;rw[evalPart_none];exact wpAny_pure ⟨none,H,I,.none,h⟩
theorem mR(h:PE X e te):PO X (some e) (ahx te):=by
 intro a s b H Q I j;rw[evalPart_some];refine ia (h a s b H _ I j) λu k ⟨x,g,c,f,d⟩=>?_;obtain⟨i,rfl,q⟩:=d;obtain⟨t,rfl⟩:=f;exact⟨some i,g,c,.int i t,q⟩
def SlR(X:Cx)(r:V->Option Int->Option Int->Hp->VK->Prop):Prop :=
 ∀(pins:List (Addr×Obj)) (s:Shared) (σ:St) (H:Hp) (x:V) (v vl vu:Value) (lo hi:Option Int) (sl:Addr) (Q:VK),Inv X pins σ H s->RelV x v->s.heap.IsSliceOf sl vl vu .none->IsPart vl lo->IsPart vu hi->r x lo hi H Q ->
  ∃T id,typeLookup (.type T) "__getitem__" = pure (some (.builtin id))/\s.TypeIs v T/\wpAny (model X.prog X.w) X.A (getItem v (.ref sl)) (EP X pins σ Q) X.xe s
def tSl(r:V->Option Int->Option Int->Hp->VK->Prop)(te:TE)(tl th:TO):TE:=λσ H Q=>te σ H λx H1=>tl σ H1 λl H2=>th σ H2 λu H3=>r x l u H3 Q
theorem qQ(m:SlR X r)(D:PE X e te)(hl:PO X lo tl)(n:PO X hi th):PE X (.Subscript e (.Slice lo hi none p2) pos) (tSl r te tl th):=by
 intro a s d H Q I h;refine Subscript_ (ia (D a s d H _ I h) λv L ⟨x,N,o,E,y⟩=>?_);refine wpAny_Slice (ia (hl a L d N _ o y) λg p ⟨l,G,K,j,k⟩=>ia (n a p d G _ K k) λf c ⟨u,i,F,B,z⟩=>?_);rw[evalPart_none];refine wpAny_pure ?_;have t:Inv X a d i {c with heap:=c.heap.push {cls:=.type "slice",data:=.fields #[g,f,.none]}}:=F.kept (t':=c.toks) λb O q=>Heap.get?_push_of_some _ q;obtain⟨T,id,J,C,M⟩:=m a {c with heap:=c.heap.push {cls:=.type "slice",data:=.fields #[g,f,.none]}} d i x v g f l u c.heap.objs.size Q t E (Heap.IsSliceOf.new ..) j B z;show wpAny (model X.prog X.w) X.A (subscriptTail e (.Slice lo hi none p2) v (.ref c.heap.objs.size)) (EP X a d Q) X.xe {c with heap:=c.heap.push {cls:=.type "slice",data:=.fields #[g,f,.none]}};exact tail_any (ops:=[.ref c.heap.objs.size,v]) C J M (by with_unfolding_all rfl)
def Av(xs:List V)(lo hi:Option Int):List V:=(xs.drop (HT.lX xs.length 0 lo)).take (HT.lX xs.length xs.length hi-HT.lX xs.length 0 lo)
theorem Hs(xs:List V)(lo hi:Option Int):(Av xs lo hi).length<=xs.length:=by
 unfold Av;rw[cu,List.length_drop];lia
def ahy(K:ah):V->Option Int->Option Int->Hp->VK->Prop:=λx lo hi H Q=>∃a xs,x=.ref a/\cX K H a xs /\
 ¬(HT.lX xs.length 0 lo=0/\HT.lX xs.length xs.length hi=xs.length)/\∀p,H p=none->Q (.ref p) (upd H p (.tup (Av xs lo hi)))
theorem Jp:SlR X (ahy X.K):=by
 intro i s u H x v y w lo hi z Q I k p j m h;obtain⟨a,d,rfl,n,l,q⟩:=h;cases k;obtain⟨e,r,f,g⟩:=I.tuple n;have c:e.toArray.size=d.length:=by rw[aZ];exact r.length.symm
 refine⟨"tuple",_,wg.lookup,f.typeIs,?_⟩;refine HT.EA f p j m (by rw[c];exact l) ?_ (by rw[c];exact g);rw[c];refine⟨.ref s.heap.objs.size,_,I.laid (t':=s.toks) (o:=.tup (Av d lo hi)) (λb t q=>Heap.get?_push_of_some _ q) (az _) ?_,rfl,q _ (I.hok.fresh (az _))⟩;exact⟨aN (Hs d lo hi) g,_,(r.drop (HT.lX d.length 0 lo)).take (HT.lX d.length d.length hi-HT.lX d.length 0 lo),IsTup.new _ _⟩
end
def YZ(n:Nat)(i:Int):Option Nat:=if 0<=i then (if i<n then some i.toNat else none) else if -(n:Int)<=i then some (i+n).toNat else none
def Aw{α:Type}(xs:List α)(i:Int):Option α:=(YZ xs.length i).bind λj=>xs[j]?
theorem Oi(h:YZ n i=some j):seqIndex? i n=some j/\j<n/\-(n:Int)<=i/\i<n:=by
 unfold YZ at h;by_cases b:0<=i
 ·rw[aq b] at h
  by_cases a:i<n
  ·rw[aq a] at h
   have e:i.toNat=j:=aJ h;exact⟨by rw[seqIndex_of b a,e],∅,∅,a⟩
  ·rw[b3 a] at h;cases h
 ·rw[b3 b] at h
  by_cases a:-(n:Int)<=i
  ·rw[aq a] at h
   have e:(i+n).toNat=j:=aJ h;exact⟨by rw[seqIndex_neg ∅ a,e],∅,a,∅⟩
  ·rw[b3 a] at h;cases h
theorem UP{a:Type}{xs:List a}{i:Int}{v:a}(h:Aw xs i=some v):∃j,seqIndex? i xs.length=some j/\xs[j]?=some v/\j<xs.length/\-(xs.length:Int)<=i/\i<xs.length:=by
 unfold Aw at h;cases e:YZ xs.length i with
 |none=>rw[e] at h;cases h
 |some j =>
  rw[e] at h;obtain⟨c,b,d,f⟩:=Oi e;exact⟨j,c,h,b,d,f⟩
theorem c5{a:Type}{xs:List a}{j:Nat}{v:a}(h:xs[j]?=some v):Aw xs (j:Int)=some v:=by
 have b:j<xs.length:=(ai.mp h).1;have e:YZ xs.length (j:Int)=some j:=by
  unfold YZ;rw[aq ∅,aq ∅];simp
 unfold Aw;rw[e];exact h
theorem Y3{a:Type}(xs:List a)(v:a):Aw (xs++[v]) (-1)=some v:=by
 have b:(xs++[v]).length=xs.length+1:=-_
 have e:YZ (xs++[v]).length (-1)=some xs.length:=by
  unfold YZ;rw[b,b3 (!_),aq ∅];congr 1;lia
 unfold Aw;rw[e];show (xs++[v])[xs.length]?=some v;simp
def ED(b:Expr):Prop:=∀o i,subscripted b false o i=operate [o,i] (getItem o i)
def IxR(X:Cx)(r:R2):Prop :=
 ∀(value slice:Expr) (pins:List (Addr×Obj)) (s:Shared) (σ:St) (H:Hp) (x y:V) (v u:Value) (Q:VK),Inv X pins σ H s->RelV x v->RelV y u->r x y H Q ->
  subscripted slice false v u=operate [v,u] (getItem v u)->wpAny (model X.prog X.w) X.A (subscriptTail value slice v u) (EP X pins σ Q) X.xe s
def MtR(X:Cx)(id:String)(r:V->List V->Hp->VK->Prop):Prop :=
 ∀(pins:List (Addr×Obj)) (s:Shared) (σ:St) (H:Hp) (x:V) (xs:List V) (v:Value) (us:List Value) (Q:VK),Inv X pins σ H s->RelV x v->cF xs us->r x xs H Q ->
  wpAny (model X.prog X.w) X.A (call (.builtin id) (v::us)) (EP X pins σ Q) X.xe s
section
variable{X:Cx}{a b:Expr}{ta tb:TE}{pos:Pos}
theorem UQ(e:IxR X r)(j:PE X a ta)(m:PE X b tb)(hs:ED b):PE X (.Subscript a b pos) (gF r ta tb):=by
 intro c s d H Q I h;exact Subscript_ (aeC j m I h λv u i x y k l g f q=>e a b c i d k x y v u Q l g f q (hs _ _))
inductive SK(K:ah)(x y:V)(H:Hp)(Q:VK):Prop
 |mk (p:Addr) (xs:List V) (i:Int) (v:V) (h1:x=.ref p) (h2:y=.int i) (h3:bN K H p xs) (h4:Aw xs i=some v) (h5:Q v H):SK K x y H Q
inductive Wp(K:ah)(x y:V)(H:Hp)(Q:VK):Prop
 |mk (p:Addr) (xs:List V) (i:Int) (v:V) (h1:x=.ref p) (h2:y=.int i) (h3:cX K H p xs) (h4:Aw xs i=some v) (h5:Q v H):Wp K x y H Q
theorem UR:IxR X (SK X.K):=by
 intro g l a s m H x y v u Q I E D h o;obtain⟨p,N,i,z,rfl,rfl,F,L,q⟩:=h;cases E;obtain⟨t,rfl⟩:=D;obtain⟨f,r,e,P⟩:=I.list F;obtain⟨j,c,M,O,B,G⟩:=UP L;obtain⟨w,n,d⟩:=r.get M;have J:=r.length;have R:=Jk;have b:EP X a m Q w s:=⟨z,H,I,d,q⟩;by_cases A:0<=i
 ·have k:i.toNat=j:=by
   rw[seqIndex_of A G] at c;exact aJ c
  exact item_listR e.isList A ∅ (by rw[k];simpa using n) b o
 ·have k:(i+(f.toArray.size:Int)).toNat=j:=by
   rw[seqIndex_neg ∅ B] at c;rw[aZ,<- J];exact aJ c
  exact subscriptTail_builtinR (x:=w) e.isList.typeIs slot_list_getitem.lookup
   (wpAny_getItem_list_neg (Q:=λr C=>r=w/\EP X a m Q r C) e.isList ∅ (by rw[aZ] <;> lia) ∅ (by rw[k];simpa using n) ⟨rfl,b⟩) o
theorem Y4:IxR X (Wp X.K):=by
 intro d e a s g H x y v u Q I n l h F;obtain⟨p,G,i,z,rfl,rfl,o,C,q⟩:=h;cases n;obtain⟨t,rfl⟩:=l;obtain⟨m,r,f,N⟩:=I.tuple o;obtain⟨j,E,D,M,J,L⟩:=UP C;obtain⟨w,B,b⟩:=r.get D;have A:=r.length;have O:=Jk;have c:EP X a g Q w s:=⟨z,H,I,b,q⟩;exact subscriptTail_builtinR (x:=w) f.typeIs slot_tuple_getitem.lookup
  (getItem_tuple (j:=j) (Q:=λr k=>r=w/\EP X a g Q r k) f ∅ ∅ (by rw[aZ,<- A];exact E) (by simpa using B) ⟨rfl,c⟩) F
theorem SM(a:List Value)(n j:Nat)(u:Value):Obj.mapSeq (·.setIfInBounds j u) {cls:=.type "list",data:=.seq a.toArray n}={cls:=.type "list",data:=.seq (a.set j u).toArray n}:=by
 simp[Obj.mapSeq]
theorem Inv.lst{b:List (Addr×Obj)}{c:St}{H:Hp}{s:Shared}{p:Addr}{xs:List V}(I:Inv X b c H s)(h:H p=some (.lst xs)) :
 ∃(a:List Value) (n:Nat),cF xs a/\s.heap.get? p=some {cls:=.type "list",data:=.seq a.toArray n}/\xs.length<=sizeLine:=by
 obtain⟨z,a,n,r,e⟩:=I.hok p _ h;exact⟨a,n,r,e,z⟩
theorem Inv.aeL{a:List (Addr×Obj)}{i:St}{H:Hp}{s:Shared}{p:Addr}{xs g:List V}{c its':List Value}{n d:Nat}{f:Obj->Obj}(I:Inv X a i H s)(h:H p=some (.lst xs))
 (l:s.heap.get? p=some {cls:=.type "list",data:=.seq c.toArray n}) (j:f {cls:=.type "list",data:=.seq c.toArray n}={cls:=.type "list",data:=.seq its'.toArray d}) (r:cF g its') (k:g.length<=sizeLine) (t:Nat) :
 Inv X a i (upd H p (.lst g)) {s with heap:=s.heap.update p f,toks:=t}:=by
 have e:(s.heap.update p f).get? p=some {cls:=.type "list",data:=.seq its'.toArray d}:=by
  rw[Heap.get?_update_self f l (by rw[j] <;> rfl),j]
 refine I.write (x:=p) (e:=p) (by rw[h];trivial) (.inl rfl) (λb u m q=>(Heap.get?_update_other _ _ (bO m)).trans q) ⟨_,e⟩ ?_;exact⟨k,its',d,r,e⟩
def ahA:V->V->V->Hp->(Hp->Prop)->Prop:=λo i v H Q=>∃p xs k j,o=.ref p/\i=.int k/\H p=some (.lst xs)/\YZ xs.length k=some j/\Q (upd H p (.lst (xs.set j v)))
theorem set_list:ahl X ahA:=by
 intro b s A H o i v G F u Q I y C E h;obtain⟨p,z,k,j,rfl,rfl,w,D,q⟩:=h;cases y;obtain⟨t,rfl⟩:=C;obtain⟨a,n,r,f,B⟩:=I.lst w;obtain⟨c,J,l,g⟩:=Oi D;have e:=r.length;have K:=Jk;have m:Inv X b A (upd H p (.lst (z.set j v))) {s with heap:=s.heap.update p (Obj.mapSeq (·.setIfInBounds j u))} :=
  I.aeL w f (SM a n j u) (r.set E j) (by rw[bg];exact B) s.toks
 by_cases x:0<=k
 ·have d:k.toNat=j:=by
   rw[seqIndex_of x g] at c;exact aJ c
  exact PySem.W.ki_setAt f x ∅ (by rw[aZ,<- e];exact g) (by rw[d];exact⟨_,m,q⟩)
 ·have d:(k+(a.toArray.size:Int)).toNat=j:=by
   rw[seqIndex_neg ∅ l] at c;rw[aZ,<- e];exact aJ c
  exact PySem.W.ki_setBack f ∅ (by rw[aZ,<- e];exact l) ∅ (by rw[d];exact⟨_,m,q⟩)
theorem Oj(lo a:Option Int)(n:Nat):(sliceBounds lo a none n).1=((HT.lX n 0 lo:Nat):Int)/\(sliceBounds lo a none n).2.1=((HT.lX n n a:Nat):Int)/\(sliceBounds lo a none n).2.2=1:=by
 refine⟨?_,?_,rfl⟩
 ·cases lo with
  |none=>simp[sliceBounds,HT.lX]
  |some i =>
   simp only[sliceBounds,HT.lX,Option.getD_none,show (1:Int) > 0 by decide,if_true];by_cases h:i<0
   ·simp only[h,if_true] <;> lia
   ·simp only[h,if_false] <;> lia
 ·cases a with
  |none=>simp[sliceBounds,HT.lX]
  |some i =>
   simp only[sliceBounds,HT.lX,Option.getD_none,show (1:Int) > 0 by decide,if_true];by_cases h:i<0
   ·simp only[h,if_true] <;> lia
   ·simp only[h,if_false] <;> lia
theorem LV(a:List Value)(lo b:Option Int):slicePick a.toArray lo b none=((a.drop (HT.lX a.length 0 lo)).take (HT.lX a.length a.length b-HT.lX a.length 0 lo)).toArray:=by
 obtain⟨d,c,e⟩:=Oj lo b a.toArray.size;unfold slicePick;rw[d,c,e];simp only[sliceRange_one,pick_run,aZ] <;> rfl
def alr(K:ah):V->Option Int->Option Int->Hp->VK->Prop:=λx lo hi H Q=>∃a xs,x=.ref a/\bN K H a xs/\∀p,H p=none->Q (.ref p) (upd H p (.lst (Av xs lo hi)))
theorem Ol:SlR X (alr X.K):=by
 intro g s u H x v y w lo e z Q I k p i l h;obtain⟨a,c,rfl,m,q⟩:=h;cases k;obtain⟨j,r,f,n⟩:=I.list m;have d:=r.length;refine⟨"list",_,slot_list_getitem.lookup,f.isList.typeIs,?_⟩;refine wpAny_getItem_list_slice f.isList p i l .none (-_) ?_ (by rw[aZ] <;> lia);rw[LV,<- d];refine⟨.ref s.heap.objs.size,_,I.laid (t':=s.toks) (o:=.lst (Av c lo e)) (λb t q=>Heap.get?_push_of_some _ q) (az _) ?_,rfl,q _ (I.hok.fresh (az _))⟩;exact⟨aN (Hs c lo e) n,_,0,(r.drop (HT.lX c.length 0 lo)).take (HT.lX c.length c.length e-HT.lX c.length 0 lo),Heap.get?_push_size _ rfl⟩
def zV:V->Bool
 |.f9=>true
 |.bl _=>true
 |.int _=>true
 |.str _=>true
 |_=>false
def Wq:V->V->Bool
 |.f9,.f9=>true
 |.bl a,.bl b=>a==b
 |.bl a,.int b=>(if a then 1 else 0)==b
 |.int a,.bl b=>a==(if b then 1 else 0)
 |.int a,.int b=>a==b
 |.str a,.str b=>a==b
 |_,_=>false
theorem aeM(f:RelV y u)(c:RelV x v)(g:zV y=true)(e:zV x=true):SeqAt.EqAt A s u v (Wq y x):=by
 cases y with
 |f9 =>
  cases f;cases x with
  |f9=>cases c;exact SeqAt.EqAt.same _
  |bl b=>cases c;exact SeqAt.EqAt.none_bool b
  |int b=>obtain⟨t,rfl⟩:=c;exact SeqAt.EqAt.none_int b t
  |str b=>obtain⟨t,rfl⟩:=c;exact SeqAt.EqAt.none_str b t
  |_=>exact cy (show false=true from e) aI
 |bl a =>
  cases f;cases x with
  |f9=>cases c;exact SeqAt.EqAt.bool_none a
  |bl b=>cases c;exact SeqAt.EqAt.bool_bool a b
  |int b=>obtain⟨t,rfl⟩:=c;exact SeqAt.EqAt.bool_int a b t
  |str b=>obtain⟨t,rfl⟩:=c;exact SeqAt.EqAt.bool_str a b t
  |_=>exact cy (show false=true from e) aI
 |int a =>
  obtain⟨d,rfl⟩:=f;cases x with
  |f9=>cases c;exact SeqAt.EqAt.int_none a d
  |bl b=>cases c;exact SeqAt.EqAt.int_bool a d b
  |int b=>obtain⟨t,rfl⟩:=c;exact SeqAt.EqAt.int_int a d b t
  |str b=>obtain⟨t,rfl⟩:=c;exact SeqAt.EqAt.int_str a d b t
  |_=>exact cy (show false=true from e) aI
 |str a =>
  obtain⟨d,rfl⟩:=f;cases x with
  |f9=>cases c;exact SeqAt.EqAt.str_none a d
  |bl b=>cases c;exact SeqAt.EqAt.str_bool a d b
  |int b=>obtain⟨t,rfl⟩:=c;exact SeqAt.EqAt.str_int a d b t
  |str b=>obtain⟨t,rfl⟩:=c;exact SeqAt.EqAt.str_str a d b t
  |_=>exact cy (show false=true from e) aI
 |_=>exact cy (show false=true from g) aI
def SN(x:V)(u:Value):Bool:=match u with
 |.none=>Wq .f9 x
 |.bool b=>Wq (.bl b) x
 |.int i _=>Wq (.int i) x
 |.str z _=>Wq (.str z) x
 |_=>false
theorem Y5(r:RelV y u)(f:zV y=true):SN x u=Wq y x:=by
 cases y with
 |f9=>cases r;rfl
 |bl b=>cases r;rfl
 |int i=>obtain⟨t,rfl⟩:=r;rfl
 |str z=>obtain⟨t,rfl⟩:=r;rfl
 |_=>exact cy (show false=true from f) aI
theorem EF{x:V}:∀{xs:List V} {us:List Value},cF xs us->xs.all zV=true->us.any (SN x)=xs.any λy=>Wq y x
 |_,_,.nil,_=>rfl
 |y::xs,u::us,.cons r t,f=>by
  rw[List.all_cons,dj] at f;rw[pR,pR,Y5 r f.1,EF t f.2]
theorem Ax{A:Around}{s:Shared}{x:V}{v:Value}(a:RelV x v)(b:zV x=true):∀{xs:List V} {us:List Value},cF xs us->xs.all zV=true->∀u∈us,SeqAt.EqAt A s u v (SN x u)
 |_,_,.nil,_=>λu hu=>by cases hu
 |y::xs,u::us,.cons r t,f=>λc hu=>by
  rw[List.all_cons,dj] at f;rcases bu.mp hu with rfl|hu
  ·rw[Y5 r f.1];exact aeM r a f.1 b
  ·exact Ax a b t f.2 c hu
def Ge(x:V)(xs:List V):Bool:=xs.any λy=>Wq y x
inductive rIn(K:ah)(neg:Bool)(x y:V)(H:Hp)(Q:VK):Prop
 |mk (p:Addr) (xs:List V) (h1:y=.ref p) (h2:bN K H p xs∨cX K H p xs) (h3:zV x=true) (h4:xs.all zV=true) (h5:Q (.bl (if neg then !Ge x xs else Ge x xs)) H):rIn K neg x y H Q
theorem pY:yH X (compareOp .In) (rIn X.K false):=by
 intro g s l H x y v u Q I e i h;obtain⟨p,k,rfl,hq,f,b,q⟩:=h;cases i;rcases hq with hq|hq
 ·obtain⟨a,r,c,j⟩:=I.list hq
  refine SeqAt.in_listAt (SN x) c.isList (λw d=>Ax e f r b w (by simpa using d)) ⟨.bl _,H,I,rfl,?_⟩;rw[show a.toArray.any (SN x)=a.any (SN x) by simp,EF r b];exact q
 ·obtain⟨a,r,c,j⟩:=I.tuple hq
  refine SeqAt.in_tupleAt (SN x) c (λw d=>Ax e f r b w (by simpa using d)) ⟨.bl _,H,I,rfl,?_⟩;rw[show a.toArray.any (SN x)=a.any (SN x) by simp,EF r b];exact q
theorem n9:yH X (compareOp .NotIn) (rIn X.K true):=by
 intro g s l H x y v u Q I e i h;obtain⟨p,k,rfl,hq,f,b,q⟩:=h;cases i;rcases hq with hq|hq
 ·obtain⟨a,r,c,j⟩:=I.list hq
  refine SeqAt.notIn_listAt (SN x) c.isList (λw d=>Ax e f r b w (by simpa using d)) ⟨.bl _,H,I,rfl,?_⟩;rw[show a.toArray.any (SN x)=a.any (SN x) by simp,EF r b];exact q
 ·obtain⟨a,r,c,j⟩:=I.tuple hq
  refine SeqAt.notIn_tupleAt (SN x) c (λw d=>Ax e f r b w (by simpa using d)) ⟨.bl _,H,I,rfl,?_⟩;rw[show a.toArray.any (SN x)=a.any (SN x) by simp,EF r b];exact q
theorem Om:nN X (.builtin "len") (λxs H Q=>∃p b,xs=[.ref p]/\(bN X.K H p b∨cX X.K H p b)/\Q (.int b.length) H):=by
 intro f s j H xs k Q I r h;obtain⟨p,b,rfl,hq,q⟩:=h;obtain⟨u,rfl,g⟩:=vals1 r;cases g;have l:=Jk;rcases hq with hq|hq
 ·obtain⟨e,d,c,i⟩:=I.list hq
  have a:=d.length;exact Calls.call_len_list c.isList (by simp only[aZ] <;> lia) ⟨.int b.length,H,I.tok _,⟨s.toks+1,by rw[aZ,a]⟩,q⟩
 ·obtain⟨e,d,c,i⟩:=I.tuple hq
  have a:=d.length;exact len_tuple c (by simp only[aZ] <;> lia) ⟨.int b.length,H,I.tok _,⟨s.toks+1,by rw[aZ,a]⟩,q⟩
theorem ic:nN X (.type "list") (λxs H Q=>∃p g,xs=[.ref p]/\(bN X.K H p g∨cX X.K H p g)/\∀l,H l=none->Q (.ref l) (upd H l (.lst g))):=by
 intro t s B H xs D Q I r h;obtain⟨p,g,rfl,hq,q⟩:=h;obtain⟨u,rfl,C⟩:=vals1 r;cases C;have j:∀(a:List Value),cF g a->g.length<=sizeLine->∀(c:Heap) (f:Nat),(∀b A,s.heap.get? b=some A->c.get? b=some A) ->
  c.get? s.heap.objs.size=some {cls:=.type "list",dict:=none,data:=.seq a.toArray f,slots:=#[]}->EP X t B Q (.ref s.heap.objs.size) {s with heap:=c}:=λa d k c f m e =>
  ⟨.ref s.heap.objs.size,_,I.laid (t':=s.toks) m (az _) (show iN X.prog X.w _ c _ (.lst g) from ⟨k,a,f,d,e⟩),rfl,q _ (I.hok.fresh (az _))⟩
 rcases hq with hq|hq
 ·obtain⟨a,d,v,k⟩:=I.list hq
  have i:=d.length;obtain⟨o,y,z,n,x⟩:=v.isList;exact call_list_seq p (.inl rfl) y z x (λc f m e=>j a d k c f m e) (by simp only[aZ] <;> lia)
 ·obtain⟨a,d,v,k⟩:=I.tuple hq
  have i:=d.length;obtain⟨o,y,z,n,x⟩:=v;exact call_list_seq p (.inr rfl) y z x (λc f m e=>j a d k c f m e) (by simp only[aZ] <;> lia)
def tyV(K:ah)(T:String)(x:V)(H:Hp):Prop:=match x with
 |.str _=>T = "str"
 |.int _=>T = "int"
 |.ref p=>(T = "list" /\ ∃xs,bN K H p xs)∨(T = "tuple" /\ ∃o,K.lookup p=some o/\o.cls=.type "tuple" /\ o.dict=none) ∨
  (T = "dict" /\ ((∃kvs,H p=some (.dK kvs))∨∃kvs,H p=some (.dT kvs)))∨(T = "set" /\ ∃S n,H p=some (.set S n))
 |_=>False
theorem aeN{f:List (Addr×Obj)}{m:St}{H:Hp}{s:Shared}{T:String}{x:V}{v:Value}(I:Inv X f m H s)(r:RelV x v)(g:tyV X.K T x H) :
 s.TypeIs v T/\∀a,v=.ref a->∃ob,s.heap.get? a=some ob/\ob.dict=none:=by
 cases x with
 |str z =>
  obtain⟨t,rfl⟩:=r;cases (show T = "str" from g);exact⟨typeIs_str s z t,λ_ e=>nomatch e⟩
 |int i =>
  obtain⟨t,rfl⟩:=r;cases (show T = "int" from g);exact⟨typeIs_int s i t,λ_ e=>nomatch e⟩
 |ref p =>
  cases r;rcases g with ⟨rfl,y,u⟩|⟨rfl,o,b,w,k⟩|⟨rfl,b⟩|⟨rfl,S,n,b⟩
  ·obtain⟨q,_,l,_⟩:=I.list u
   refine⟨l.isList.typeIs,λa e=>?_⟩;cases e;obtain⟨o,n,e,c,k,_⟩:=l;exact⟨o,e,k⟩
  ·refine⟨⟨o,I.Dd p o b,w⟩,λa e=>?_⟩
   cases e;exact⟨o,I.Dd _ o b,k⟩
  ·have z:∃o,s.heap.get? p=some o/\o.ExactDict:=by
    rcases b with ⟨j,b⟩|⟨j,b⟩
    ·obtain⟨_,_,_,_,o,_,_,e,d,_⟩:=I.hok p _ b
     exact⟨o,e,d⟩
    ·obtain⟨_,_,_,_,o,_,_,e,d,_⟩:=I.hok p _ b
     exact⟨o,e,d⟩
   obtain⟨o,e,d⟩:=z;refine⟨⟨o,e,d.1⟩,λa h=>?_⟩;cases h;exact⟨o,e,d.2.1⟩
  ·obtain⟨o,_,_,_,e,d,_⟩:=I.hok p _ b
   refine⟨⟨o,e,d.1⟩,λa h=>?_⟩;cases h;exact⟨o,e,d.2.1⟩
 |_=>exact kB g
def tBM(K:ah)(T:String)(r:V->List V->Hp->VK->Prop)(to:TE)(t:TA):TE:=λσ H Q=>to σ H λx H1=>tyV K T x H1/\t σ H1 λxs H2=>r x xs H2 Q
variable{o e:Expr}{es:List Expr}{to:TE}{t:TA}{name:Str}{apos cpos:Pos}{T id:String}{r:V->List V->Hp->VK->Prop}
theorem sF(pa:PlainAttrs T)(f:Slot T name id)(j:typeOf (.builtin id)=pure (.type "method_descriptor"))(z:MtR X id r)(J:PE X o to)(u:PA X (e::es) t)
 (c:attributeBase o name X.env (eval o X.env)=eval o X.env:=by rfl)
 (g:((backTo cpos (starEach (e::es) X.env)).all (λx=>!x.1)&&(backToKw cpos (keywordEach [] X.env)).all (λx=>x.1.isSome)
  && decide ((e::es).length+([]:List Keyword).length+(if ([]:List Keyword).isEmpty then 0 else 1)<30))=true:=by rfl)
 (d:(apos.endLine==cpos.line)=true:=by rfl) (M:starEach (e::es) X.env=(false,eval e X.env)::starEach es X.env:=by rfl) (b:(backTo cpos (starEach es X.env)).any (·.1)=false:=by rfl) :
 PE X (.Call (.Attribute o name apos) (e::es) [] cpos) (tBM X.K T r to t):=by
 intro a s i H Q I h;refine wpAny_Call_method_late c g d rfl (ia (J a s i H _ I h) λv D ⟨x,F,k,m,G,w⟩=>?_);obtain⟨C,y⟩:=aeN k m G;refine⟨T,id,pa,f,j,C,y,?_⟩;have l:=u cpos a D i F _ k w;rw[M] at l ⊢;refine Calls.callWith_builtin (by show (false || (backTo cpos (starEach es X.env)).any (·.1))=false;rw[b] <;> rfl) (Calls.evalArgs_plain ?_);exact ia l λE q ⟨L,A,B,p,n⟩=>z a q i A x L v E Q B m p n
end
def MtM(X:Cx)(id:String)(r:V->List V->Hp->VK->Prop):Prop :=
 ∀(pins:List (Addr×Obj)) (s:Shared) (σ:St) (H:Hp) (x:V) (xs:List V) (v:Value) (us:List Value) (Q:VK),Inv X pins σ H s->RelV x v->cF xs us->r x xs H Q ->
  wpAny (model X.prog X.w) X.A (call (.builtin id) (v::us)) (EP X pins σ Q) X.xe s
theorem cF.one:∀{x:V} {us:List Value},cF [x] us->∃u,us=[u]/\RelV x u
 |_,_,.cons r .nil=>⟨_,rfl,r⟩
theorem cF.two:∀{x y:V} {us:List Value},cF [x,y] us->∃u v,us=[u,v]/\RelV x u/\RelV y v
 |_,_,_,.cons r (.cons q .nil)=>⟨_,_,rfl,r,q⟩
theorem cF.eraseIdx:∀{xs:List V} {us:List Value} (i:Nat),cF xs us->cF (xs.eraseIdx i) (us.eraseIdx i)
 |_,_,_,.nil=>.nil
 |_,_,0,.cons _ t=>t
 |_,_,i+1,.cons r t=>.cons r (cF.eraseIdx i t)
theorem cF.rep{xs:List V}{us:List Value}(h:cF xs us):∀k:Nat,cF (bK k xs).flatten (bK k us).flatten
 |0=>.nil
 |k+1=>by
  rw[ja,ja,wo,wo];exact cF.append h (cF.rep h k)
theorem MM{a:Type}:∀(l:List a) (i:Nat),(l.eraseIdx i).length<=l.length
 |[],_=>az _
 |_::_,0=>fU _
 |_::r,i+1=>Nat.succ_le_succ (MM r i)
theorem foldl_rep(b:List Value):∀(k:Nat) (a:List Value),
 List.foldl (λf d=>f++d) a.toArray (bK k b.toArray)=(a++(bK k b).flatten).toArray
 |0,a=>-_
 |k+1,a=>by
  have e:a.toArray++b.toArray=(a++b).toArray:=-_
  have c:(a++b)++(bK k b).flatten=a++(bK (k+1) b).flatten:=by
   rw[ja,wo,gi]
  rw[<- c,<- foldl_rep b k (a++b),<- e,ja,jb]
section
variable{X:Cx}{pins:List (Addr×Obj)}{σ:St}{H:Hp}{s:Shared}{l b:Addr}{xs ys zs:List V}
theorem Inv.ahB{a its':List Value}{n:Nat}{f:Array Value->Array Value}{t':Nat}(I:Inv X pins σ H s)(g:H l=some (.lst xs))
 (e:s.heap.get? l=some {cls:=.type "list",data:=.seq a.toArray n}) (i:f a.toArray=its'.toArray) (d:cF ys its') (h:ys.length<=sizeLine) :
 Inv X pins σ (upd H l (.lst ys)) {s with heap:=s.heap.update l (Obj.mapSeq f),toks:=t'}:=by
 have q:=PySem.IsL.update e f;rw[i] at q;refine I.write (x:=l) (e:=l) (by rw[g];exact trivial) (.inl rfl) (λj u b c=>(Heap.get?_update_other s.heap (Obj.mapSeq f) (bO b)).trans c) ⟨_,q⟩ ?_;exact⟨h,its',_,d,q⟩
theorem Inv.ahC{a:List Value}{t':Nat}(I:Inv X pins σ H s)(c:cF ys a)(b:ys.length<=sizeLine) :
 Inv X pins σ (upd H s.heap.objs.size (.lst ys)) {s with heap:=s.heap.push {cls:=.type "list",data:=.seq a.toArray},toks:=t'} :=
 I.laid (λ_ _ q=>Heap.get?_push_of_some _ q) (az _) ⟨b,a,0,c,Heap.get?_push_size _ rfl⟩
theorem Inv.fresh(I:Inv X pins σ H s):H s.heap.objs.size=none:=I.hok.fresh (az _)
theorem Inv.Y6(I:Inv X pins σ H s)(b:H l=some (.lst xs)):xs.length<=sizeLine/\∃(a:List Value) (n:Nat),cF xs a/\xs.length=a.length/\s.heap.get? l=some {cls:=.type "list",data:=.seq a.toArray n}:=by
 obtain⟨z,a,n,r,e⟩:=I.hok l _ b;exact⟨z,a,n,r,r.length,e⟩
theorem Y7{n:Nat}(h:n<=sizeLine):Builtin.List.listTooLong n=false:=by
 unfold Builtin.List.listTooLong;exact e8 ∅
end
section
variable{X:Cx}
inductive US(x:V)(vs:List V)(H:Hp)(Q:VK):Prop
 |mk (l:Addr) (xs:List V) (y:V) (h1:x=.ref l) (h2:vs=[y]) (h3:H l=some (.lst xs)) (h4:xs.length<sizeLine) (h5:Q .f9 (upd H l (.lst (xs++[y])))):US x vs H Q
theorem fR:MtM X "list.append" US:=by
 intro c s j H x p v o Q I f g h;obtain⟨l,i,y,rfl,rfl,b,m,q⟩:=h;cases f;obtain⟨u,rfl,d⟩:=g.one;obtain⟨z,a,n,r,k,e⟩:=I.Y6 b;refine call_meets F.slot_list_append ⟨_,e,rfl⟩ F.entry_list_append (F.args_list_append_2 _ _) (PySem.list_append l a.toArray n u (by rw[aZ];lia)) ⟨e,?_⟩;refine⟨.f9,_,I.ahB (its':=a++[u]) b e (-_) (r.append (.cons d .nil)) ?_,rfl,q⟩;rw[aB,List.length_singleton];lia
def aeO:V->List V->Hp->VK->Prop:=λx vs H Q=>∃l xs i k y,x=.ref l/\vs=[.int i]/\H l=some (.lst xs)/\-(2^63)<=i/\i<2^63/\seqIndex? i xs.length=some k/\xs[k]?=some y/\Q y (upd H l (.lst (xs.eraseIdx k)))
theorem Y8:MtM X "list.pop" aeO:=by
 intro d s E H x J v G Q I j D h;obtain⟨l,f,i,k,y,rfl,rfl,c,B,A,o,C,q⟩:=h;cases j;obtain⟨u,rfl,g⟩:=D.one;obtain⟨t,rfl⟩:=g;obtain⟨z,a,n,r,p,e⟩:=I.Y6 c;obtain⟨w,m,b⟩:=r.get C;refine call_meets F.slot_list_pop ⟨_,e,rfl⟩ F.entry_list_pop (F.args_list_pop_2 _ _)
  (MeetsSeq.list_pop_at l a.toArray n i t k w (fitsIndex_both B A) (by rw[aZ,<- p];exact o) (by rw[<- xP];exact m) (by rw[aZ];lia)) ⟨e,?_⟩
 refine⟨y,_,I.ahB (its':=a.eraseIdx k) c e ?_ (r.eraseIdx k) ?_,b,q⟩
 ·show a.toArray.eraseIdxIfInBounds k=(a.eraseIdx k).toArray
  rw[List.eraseIdxIfInBounds_toArray]
 ·have:=MM f k
  lia
def als:R2:=λx y H Q=>∃l b xs zs,x=.ref l/\y=.ref b/\H l=some (.lst xs)/\H b=some (.lst zs)/\xs.length+zs.length<=sizeLine/\∀p,H p=none->Q (.ref p) (upd H p (.lst (xs++zs)))
theorem aeP:yH X (binaryOp .Add) als:=by
 intro d s w H x y v u Q I j i h;obtain⟨l,b,t,E,rfl,rfl,p,k,C,q⟩:=h;cases j;cases i;obtain⟨z,c,n,r,A,e⟩:=I.Y6 p;obtain⟨B,a,D,g,m,o⟩:=I.Y6 k;refine PySem.P.add_list e o ?_ (by rw[aZ,aZ];lia);have f:c.toArray++a.toArray=(c++a).toArray:=-_
 rw[f];exact⟨.ref _,_,I.ahC (t':=s.toks) (r.append g) (by rw[aB];lia),rfl,q _ I.fresh⟩
def alu:R2:=λx y H Q=>∃l k xs,x=.ref l/\y=.int k/\H l=some (.lst xs)/\-(2^63)<=k/\k<2^63/\xs.length*k.toNat<=sizeLine /\
 ∀p,H p=none->Q (.ref p) (upd H p (.lst (bK k.toNat xs).flatten))
theorem len_rep{b:Type}(xs:List b)(k:Nat):(bK k xs).flatten.length=k*xs.length:=by
 induction k with
 |zero=>simp
 |succ k a=>rw[ja,wo,aB,a,Nat.succ_mul,Nat.add_comm]
theorem aeQ:yH X (binaryOp .Mult) alu:=by
 intro w s M H x y v u Q I D C h;obtain⟨l,k,L,rfl,rfl,J,K,G,p,q⟩:=h;cases D;obtain⟨t,rfl⟩:=C;obtain⟨z,b,n,r,E,e⟩:=I.Y6 J;have c:b.toArray.size*k.toNat<=sizeLine:=by rw[aZ,<- E];exact p
 have d:¬b.toArray.size*k.toNat > (2^63-1)/8:=by
  have:(sizeLine:Nat)<=(2^63-1)/8:=!_
  lia
 have f:¬(!Builtin.List.listFitsIndex k)=true:=by
  rw[fitsIndex_both K G];exact aI
 have j:¬Builtin.List.listTooLong (b.toArray.size*k.toNat)=true:=by
  rw[Y7 c];exact aI
 have g:List.foldl (λo i=>o++i) #[] (bK (if b.toArray.isEmpty=true then 0 else k.toNat) b.toArray)=(bK k.toNat b).flatten.toArray:=by
  have A:∀m:Nat,List.foldl (λo i=>o++i) #[] (bK m b.toArray)=(bK m b).flatten.toArray:=λm=>by
   have:=foldl_rep b m []
   rw[List.nil_append] at this;exact this
  rw[A];cases b with
  |nil=>simp
  |cons a N=>rw[b3 (-_)]
 refine wpAny_binaryOp_repeat_ref (T:="list") (U:="int") (!_) ⟨_,e,rfl⟩ (λB=>typeIs_int B k t) noFill_list_mul F.fills_int_mul F.slot_int_rmul repeat_list F.slot_int_index.lookup
  (call_meets F.slot_int_rmul (typeIs_int s k t) F.entry_int_rmul (F.args_int_rmul_2 _ _) (int___rmul___int_list k t l b.toArray n)
   ⟨e,rfl,⟨_,e,rfl⟩,call_meets F.slot_list_mul ⟨_,e,rfl⟩ F.entry_list_mul (F.args_list_mul_2 _ _) (AutoListH.list___mul___list_int_3 l b.toArray n k t f d j) ⟨e,?_⟩⟩)
 rw[g];exact⟨.ref _,_,I.ahC (t':=s.toks) (r.rep k.toNat) (by rw[len_rep,Nat.mul_comm];exact p),rfl,q _ I.fresh⟩
end
section
variable{κ:Type}[DecidableEq κ]
def yI(kvs:List (κ×V))(k:κ):Option V:=(kvs.find? λkv=>decide (kv.1=k)).map (·.2)
def putK(kvs:List (κ×V))(k:κ)(v:V):List (κ×V) :=
 if (kvs.any λkv=>decide (kv.1=k))=true then kvs.map (λkv=>if kv.1=k then (kv.1,v) else kv) else kvs++[(k,v)]
theorem tO{p:κ×V}{r:List (κ×V)}{k:κ}(e:p.1=k):yI (p::r) k=some p.2:=by simp[yI,tH,e]
theorem tP{p:κ×V}{k:κ}(e:¬p.1=k):yI (p::r) k=yI r k:=by simp[yI,tH,e]
theorem Jq(k:κ):∀kvs:List (κ×V),(kvs.any λkv=>decide (kv.1=k))=(yI kvs k).isSome
 |[]=>rfl
 |p::r=>by
  rw[pR];by_cases e:p.1=k
  ·simp only[tO e,eH e,Bool.true_or,Option.isSome_some]
  ·rw[tP e,e8 e,Bool.false_or];exact Jq k r
theorem Ay(kvs:List (κ×V))(k:κ)(v:V):(putK kvs k v).length<=kvs.length+1:=by
 unfold putK;split
 ·rw[af];lia
 ·rw[aB,aV,List.length_nil];lia
theorem Qa{kvs:List (κ×V)}{k:κ}(v:V)(h:yI kvs k=none):putK kvs k v=kvs++[(k,v)]:=by
 unfold putK;rw[Jq,h];exact b3 (!_)
theorem Cu.xU(r:Cu o u):o.isSome=u.isSome:=by
 cases o with
 |none=>cases u with
  |none=>rfl
  |some _=>exact (show False from r).elim
 |some _=>cases u with
  |none=>exact (show False from r).elim
  |some _=>rfl
theorem Cu.getD(r:Cu o u)(a:RelV d d'):RelV (o.getD d) (u.getD d'):=by
 cases o with
 |none=>cases u with
  |none=>exact a
  |some _=>exact (show False from r).elim
 |some _=>cases u with
  |none=>exact (show False from r).elim
  |some _=>exact r
theorem KV.val(r:KV kvs vs)(k:κ):Cu (yI kvs k) (valueAt vs k):=by
 unfold KV at r;induction r with
 |nil=>exact ki
 |@cons p q i c h t f =>
  obtain⟨d,g⟩:=h;by_cases e:p.1=k
  ·have a:q.1=k:=d.symm.trans e
   have b:valueAt (q::c) k=some q.2:=by simp[valueAt,tH,a]
   rw[tO e,b];exact g
  ·have a:¬q.1=k:=λz=>e (d.trans z)
   have b:valueAt (q::c) k=valueAt c k:=by simp[valueAt,tH,a]
   rw[tP e,b];exact f
theorem KV.any(r:KV kvs vs)(k:κ):(kvs.any λkv=>decide (kv.1=k))=vs.any λkv=>decide (kv.1=k):=by
 unfold KV at r;induction r with
 |nil=>rfl
 |cons h t a=>rw[pR,pR,a,h.1]
theorem KV.repl{kvs:List (κ×V)}{vs:List (κ×Value)}(r:KV kvs vs)(k:κ){y:V}{u:Value}(b:RelV y u) :
 KV (kvs.map λkv=>if kv.1=k then (kv.1,y) else kv) (vs.map λkv=>if kv.1=k then (kv.1,u) else kv):=by
 unfold KV at r ⊢;induction r with
 |nil=>exact .nil
 |@cons p q f g h t d =>
  rw[bG,bG];refine .cons ?_ d;obtain⟨a,c⟩:=h;by_cases e:p.1=k
  ·rw[aq e,aq (a.symm.trans e)];exact⟨a,b⟩
  ·rw[b3 e,b3 (λz=>e (a.trans z))];exact⟨a,c⟩
theorem KV.put(r:KV kvs vs)(k:κ)(a:RelV y u):KV (putK kvs k y) (stored vs k u):=by
 unfold putK stored;rw[r.any k];by_cases e:(vs.any λkv=>decide (kv.1=k))=true
 ·rw[aq e,aq e];exact r.repl k a
 ·rw[b3 e,b3 e];exact Paired.snoc r ⟨rfl,a⟩
theorem KV.keys{kvs:List (κ×V)}{vs:List (κ×Value)}(r:KV kvs vs):kvs.map (·.1)=vs.map (·.1):=by
 unfold KV at r;induction r with
 |nil=>rfl
 |cons h t a=>rw[bG,bG,a,h.1]
theorem KV.length(r:KV kvs vs):kvs.length=vs.length:=Paired.length r
end
theorem MN(r:RelV (kV k) u):(eZ P w).is k u=true:=by
 cases k with
 |inl i=>obtain⟨t,e⟩:=(show ∃t,u=Value.int i t from r);subst e;exact PV P w i t
 |inr x=>obtain⟨t,e⟩:=(show ∃t,u=Value.str x t from r);subst e;exact PX P w x t
theorem MO{P:Program}{w:World}:∀{ks:List Key} {us:List Value},cF (ks.map kV) us->ItemsAre (eZ P w) ks us
 |[],_,r=>by rw[xM] at r;cases r;exact .nil
 |k::ks,_,r=>by
  rw[bG] at r;cases r with
  |cons h t=>exact .cons (MN h) (MO t)
abbrev KT(H:Hp):List (List Key×V)->List (List Key×Addr×Value)->Prop:=Paired λp q=>p.1=q.1/\H q.2.1=some (.tup (p.1.map kV))/\RelV p.2 q.2.2
theorem KT.val(r:KT H kvs xs)(k:List Key):Cu (yI kvs k) ((atKey xs k).map (·.2)):=by
 induction r with
 |nil=>exact ki
 |@cons p q i c h t f =>
  obtain⟨d,_,g⟩:=h;by_cases e:p.1=k
  ·have a:q.1=k:=d.symm.trans e
   have b:atKey (q::c) k=some q.2:=by simp[atKey,tH,a]
   rw[tO e,b];exact g
  ·have a:¬q.1=k:=λz=>e (d.trans z)
   have b:atKey (q::c) k=atKey c k:=by simp[atKey,tH,a]
   rw[tP e,b];exact f
theorem KT.repl{H:Hp}{kvs:List (List Key×V)}{xs:List (List Key×Addr×Value)}(r:KT H kvs xs)(k:List Key){y:V}{u:Value}(c:RelV y u) :
 KT H (kvs.map λkv=>if kv.1=k then (kv.1,y) else kv) (xs.map (putAt k u)):=by
 induction r with
 |nil=>exact .nil
 |@cons p q g i h t f =>
  rw[bG,bG];refine .cons ?_ f;obtain⟨a,b,d⟩:=h;unfold putAt;by_cases e:p.1=k
  ·rw[aq e,aq (a.symm.trans e)];exact⟨a,b,c⟩
  ·rw[b3 e,b3 (λz=>e (a.trans z))];exact⟨a,b,d⟩
theorem KT.put{H:Hp}{kvs:List (List Key×V)}{xs:List (List Key×Addr×Value)}(r:KT H kvs xs)(k:List Key){b:Addr}{y:V}{u:Value}(c:H b=some (.tup (k.map kV)))(a:RelV y u) :
 KT H (putK kvs k y) (storedH xs k b u):=by
 have e:(kvs.any λkv=>decide (kv.1=k))=(atKey xs k).isSome:=by
  rw[Jq,(r.val k).xU,Option.isSome_map]
 unfold putK storedH;rw[e];by_cases q:(atKey xs k).isSome=true
 ·rw[aq q,aq q];exact r.repl k a
 ·rw[b3 q,b3 q];exact Paired.snoc r ⟨rfl,c,a⟩
theorem KT.keeps{a:Hp}(r:KT H kvs xs)(d:∀b c,H b=some (.tup c)->a b=some (.tup c)):KT a kvs xs :=
 Paired.aeo r λ_ _ z=>⟨z.1,d _ _ z.2.1,z.2.2⟩
section
variable{P:Program}{w:World}{H:Hp}{h:Heap}{a:Addr}
theorem adi(ok:Aq P w H h)(e:Rd H a u):iN P w H h a u:=e.ok ok
theorem Qc(ok:Aq P w H h)(e:Rd H a (.dK kvs)):kvs.length<=sizeLine/\(a==sysModules)=false/\∃vs,KV kvs vs/\h.DictOf (eZ P w) a vs :=
 show iN P w H h a (.dK kvs) from adi ok e
theorem Y9(ok:Aq P w H h)(e:H a=some (.dK kvs)):kvs.length<=sizeLine/\(a==sysModules)=false/\∃vs,KV kvs vs/\h.DictOf (eZ P w) a vs:=Qc ok (.inl e)
theorem Jr{ks:List Key}(ok:Aq P w H h)(e:H a=some (.tup (ks.map kV))):(tupleKind (eZ P w)).is h ks a:=by
 obtain⟨_,b,r,o,d,c,n,f⟩:=(show iN P w H h a (.tup (ks.map kV)) from ok a _ e);exact⟨o,b.toArray,n,d,c,f,by simpa using MO r⟩
theorem Qd{kvs:List (List Key×V)}(ok:Aq P w H h)(e:Rd H a (.dT kvs)):kvs.length<=sizeLine/\(a==sysModules)=false /\
 ∃xs,KT H kvs xs/\h.DictOfH (tupleKind (eZ P w)) a xs:=by
 obtain⟨z,y,xs,r,o,g,s,k,j,i,d,f⟩:=(show iN P w H h a (.dT kvs) from adi ok e);refine⟨z,y,xs,r,o,g,s,k,j,i,d,λx hx=>?_,f⟩;have b:∀{l:List (List Key×V)} {m:List (List Key×Addr×Value)},KT H l m->∀x∈m,(tupleKind (eZ P w)).is h x.1 x.2.1:=by
  intro l m q;induction q with
  |nil=>intro x hx;exact nomatch hx
  |@cons p q u v c t n =>
   intro x hx;rcases bu.mp hx with e|hx
   ·subst e
    exact Jr ok (by rw[<- c.1];exact c.2.1)
   ·exact n x hx
 exact b r x hx
theorem ahE{kvs:List (List Key×V)}(ok:Aq P w H h)(e:H a=some (.dT kvs)):kvs.length<=sizeLine/\(a==sysModules)=false /\
 ∃xs,KT H kvs xs/\h.DictOfH (tupleKind (eZ P w)) a xs:=Qd ok (.inl e)
end
def Di(H:Hp)(a:Addr)(y:V)(r:Option V):Prop :=
 (∃kvs k,Rd H a (.dK kvs)/\y=kV k/\r=yI kvs k)∨∃kvs k b,Rd H a (.dT kvs)/\y=.ref b/\H b=some (.tup (k.map kV))/\r=yI kvs k
def LW(H:Hp)(a:Addr)(y v:V)(H':Hp):Prop :=
 (∃kvs k,H a=some (.dK kvs)/\y=kV k/\kvs.length<sizeLine/\H'=upd H a (.dK (putK kvs k v))) ∨
 ∃kvs k b,H a=some (.dT kvs)/\y=.ref b/\H b=some (.tup (k.map kV))/\kvs.length<sizeLine/\H'=upd H a (.dT (putK kvs k v))
theorem Di.k{H:Hp}{a:Addr}{kvs:List (Key×V)}{k:Key}(e:H a=some (.dK kvs)):Di H a (kV k) (yI kvs k):=.inl ⟨kvs,k,.inl e,rfl,rfl⟩
theorem Di.t{H:Hp}{k:List Key}(e:H a=some (.dT kvs))(c:H b=some (.tup (k.map kV))):Di H a (.ref b) (yI kvs k):=.inr ⟨kvs,k,b,.inl e,rfl,c,rfl⟩
theorem LW.k{H:Hp}{a:Addr}{kvs:List (Key×V)}{k:Key}{v:V}(e:H a=some (.dK kvs))(hl:kvs.length<sizeLine):LW H a (kV k) v (upd H a (.dK (putK kvs k v))):=.inl ⟨kvs,k,e,rfl,hl,rfl⟩
theorem LW.t{H:Hp}{a b:Addr}{kvs:List (List Key×V)}{k:List Key}{v:V}(e:H a=some (.dT kvs))(c:H b=some (.tup (k.map kV)))(hl:kvs.length<sizeLine) :
 LW H a (.ref b) v (upd H a (.dT (putK kvs k v))):=.inr ⟨kvs,k,b,e,rfl,c,hl,rfl⟩
section
variable{X:Cx}{pins:List (Addr×Obj)}{σ:St}{H:Hp}{s:Shared}{a:Addr}{y v:V}{u r:Value}{o:Option V}{A:Around}{E:Value->Shared->Prop}
theorem Inv.big(I:Inv X pins σ H s):sysModules<s.heap.objs.size:=by
 have h:mainGlobals<s.heap.objs.size:=(I.mod.glob.keeps I.bk).lt;exact Nat.lt_trans (!_) h
theorem alv{Q:Value->Shared->Prop}(m:A.units+1<cLine)(I:Inv X pins σ H s)(g:Di H a y o)(j:RelV y u)(h:∀s',Inv X pins σ H s'->Q (.bool o.isSome) s') :
 wpAny (model X.prog X.w) A (compareOp .In u (.ref a)) Q E s:=by
 rcases g with ⟨d,k,e,c,l⟩|⟨d,k,b,e,c,n,l⟩
 ·subst c
  obtain⟨z,i,r,rel,f⟩:=Qc I.hok e;refine wpAny_in_of (MN j) i f.mapOf ?_;rw[<- (rel.val k).xU,<- l];exact h _ (I.tok _)
 ·subst c
  cases (show u=Value.ref b from j);obtain⟨z,i,p,rel,f⟩:=Qd I.hok e;refine wpAny_in_heap (tupleKind_room_in1 m) (Jr I.hok n) i f ?_;have q:=(rel.val k).xU;rw[Option.isSome_map] at q;rw[<- q,<- l];exact h _ (I.tok _)
theorem abj{Q:Value->Shared->Prop}(m:A.units+1<cLine)(I:Inv X pins σ H s)(g:Di H a y o)(j:RelV y u)(h:∀s',Inv X pins σ H s'->Q (.bool (!o.isSome)) s') :
 wpAny (model X.prog X.w) A (compareOp .NotIn u (.ref a)) Q E s:=by
 rcases g with ⟨d,k,e,c,l⟩|⟨d,k,b,e,c,n,l⟩
 ·subst c
  obtain⟨z,i,r,rel,f⟩:=Qc I.hok e;refine wpAny_notIn_of (MN j) i f.mapOf ?_;rw[<- (rel.val k).xU,<- l];exact h _ (I.tok _)
 ·subst c
  cases (show u=Value.ref b from j);obtain⟨z,i,p,rel,f⟩:=Qd I.hok e;refine wpAny_notIn_heap (tupleKind_room_in1 m) (Jr I.hok n) i f ?_;have q:=(rel.val k).xU;rw[Option.isSome_map] at q;rw[<- q,<- l];exact h _ (I.tok _)
theorem Oo{h':Heap}{t':Nat}{ob:HO}(I:Inv X pins σ H s)(g:Mut (H a))(hs:Heap.SameBut a s.heap h')(d:∃q,h'.get? a=some q)(c:iN X.prog X.w (upd H a ob) h' a ob) :
 Inv X pins σ (upd H a ob) {s with heap:=h',toks:=t'} :=
 I.write (x:=a) (e:=a) g (.inl rfl) (λb q f z=>(hs.2 b f).trans z) d c
theorem Za{P:Program}{w:World}{c:Hp}{h':Heap}{kvs:List (Key×V)}{vs:List (Key×Value)}(z:kvs.length<=sizeLine)(d:(a==sysModules)=false)(b:KV kvs vs)(dd:h'.DictOf (eZ P w) a vs) :
 iN P w c h' a (.dK kvs):=⟨z,d,vs,b,dd⟩
theorem Wr{C:Hp}{Q:Unit->Shared->Prop}(L:A.units+1<cLine)(I:Inv X pins σ H s)(g:LW H a y v C)(D:RelV y u)(J:RelV v r)(h:∀s',Inv X pins σ C s'->Q () s') :
 wpAny (model X.prog X.w) A (setItem (.ref a) u r) Q E s:=by
 rcases g with ⟨d,k,e,j,l,n⟩|⟨d,k,b,e,j,G,l,n⟩
 ·subst j n
  obtain⟨z,x,S,rel,t⟩:=Y9 I.hok e;have o:S.length<=sizeLine:=by rw[<- rel.length];exact z
  have m:(putK d k v).length<=sizeLine:=by have:=Ay d k v;lia
  refine wpAny_setItem_pairs (hsz:=o) (MN D) t λF f p=>h _ ?_;have U:∃q,F.get? a=some q:=let ⟨q,_,_,i,_⟩:=f;⟨q,i⟩;exact Oo I (by rw[e];exact ki) p U (Za m x (rel.put k J) f)
 ·subst j n
  cases (show u=Value.ref b from D);obtain⟨z,x,K,rel,t⟩:=ahE I.hok e;have o:K.length<=sizeLine:=by rw[<- Paired.length rel];exact z
  have m:(putK d k v).length<=sizeLine:=by have:=Ay d k v;lia
  refine wpAny_setItem_heap (hsz:=o) (tupleKind_room_in1 L) (Jr I.hok G) t λF f p=>h _ ?_;obtain⟨q,O,T,i,R,P,M,_,N⟩:=f;refine Oo I (by rw[e];exact ki) p ⟨q,i⟩ ⟨m,x,_,(rel.put k G J).keeps λc V B=>?_,q,O,T,i,R,P,M,N⟩;rw[aO (pU B e (λz=>nomatch z))];exact B
end
def alw(ty td:TE):TE:=λσ H Q=>ty σ H λy H1=>td σ H1 λx H2=>∃a o,x=.ref a/\Di H2 a y o/\Q (.bl o.isSome) H2
def abk(ty td:TE):TE:=λσ H Q=>ty σ H λy H1=>td σ H1 λx H2=>∃a o,x=.ref a/\Di H2 a y o/\Q (.bl (!o.isSome)) H2
def ahF(td ty tv:TE):TS:=λD σ H=>tv σ H λv H1=>td σ H1 λx H2=>ty σ H2 λy H3=>∃a H4,x=.ref a/\LW H3 a y v H4/\D.nx σ H4
section
variable{X:Cx}{o i e value:Expr}{pos pos' tpos:Pos}{td ty tv:TE}
theorem Zb(e:X.A.units+1<cLine)(m:PE X i ty)(z:PE X o td):PC X .In i o (alw ty td):=by
 intro b s c H Q I h;refine ia (m b s c H _ I h) λC t ⟨y,w,f,j,l⟩=>ia (z b t c w _ f l) λu B ⟨x,q,r,k,a,n,v,g,d⟩=>?_;subst v;obtain rfl:u=Value.ref a:=k;exact alv e r g j λD p=>⟨.bl n.isSome,q,p,rfl,d⟩
theorem MP(e:X.A.units+1<cLine)(m:PE X i ty)(z:PE X o td):PC X .NotIn i o (abk ty td):=by
 intro b s c H Q I h;refine ia (m b s c H _ I h) λC t ⟨y,w,f,j,l⟩=>ia (z b t c w _ f l) λu B ⟨x,q,r,k,a,n,v,g,d⟩=>?_;subst v;obtain rfl:u=Value.ref a:=k;exact abj e r g j λD p=>⟨.bl (!n.isSome),q,p,rfl,d⟩
theorem IM(e:X.A.units+1<cLine)(J:PE X o td)(w:PE X i ty)(k:PE X value tv)(hs:swapsWith value (some (.Subscript o i pos')) pos.line X.env=pure false) :
 PS X (.Assign [.Subscript o i pos'] value pos) (ahF td ty tv):=by
 intro b s c H D I h;refine wpAny_Assign_Subscript (ia (k b s c H _ I h) λr E ⟨v,G,f,K,q⟩=>ia (J b E c G _ f q) λu n ⟨x,B,C,l,d⟩=>ia (w b n c B _ C d) λL O ⟨y,N,z,j,a,m,F,g,t⟩=>?_) hs;subst F;obtain rfl:u=Value.ref a:=l;exact Wr e z g j K λM p=>⟨c,m,p,t⟩
end
theorem Qe(h:Heap)(a:sysModules<h.objs.size):iN P w H (h.push {cls:=.type "dict",data:=.dict #[]}) h.objs.size (.dK []) :=
 ⟨aX _,beq_eq_false_iff_ne.mpr (bO (bH a)),[],.nil,Heap.DictOf.new h⟩
theorem Zc(h:Heap)(a:sysModules<h.objs.size):iN P w H (h.push {cls:=.type "dict",data:=.dict #[]}) h.objs.size (.dT []) :=
 ⟨aX _,beq_eq_false_iff_ne.mpr (bO (bH a)),[],.nil,_,#[],0,Heap.get?_push_size _ rfl,⟨rfl,rfl,rfl⟩,rfl,rfl,jY⟩
def aeS:TE:=λ_ H Q=>∀p,H p=none->Q (.ref p) (upd H p (.dK []))
def aeT:TE:=λ_ H Q=>∀p,H p=none->Q (.ref p) (upd H p (.dT []))
section
variable{X:Cx}{pos:Pos}
theorem Zd:PE X (.Dict [] [] pos) aeS:=λb s c H Q I h =>
 wpAny_Dict_empty ⟨.ref s.heap.objs.size,_,I.laid (a:=s.heap.objs.size) (o:=.dK []) (t':=s.toks) (λ_ _ q=>Heap.get?_push_of_some _ q) (az _) (Qe s.heap I.big),rfl,h _ (I.hok.fresh (az _))⟩
theorem Js:PE X (.Dict [] [] pos) aeT:=λb s c H Q I h =>
 wpAny_Dict_empty ⟨.ref s.heap.objs.size,_,I.laid (a:=s.heap.objs.size) (o:=.dT []) (t':=s.toks) (λ_ _ q=>Heap.get?_push_of_some _ q) (az _) (Zc s.heap I.big),rfl,h _ (I.hok.fresh (az _))⟩
end
def SO:List (TE×TE)->St->Hp->(List (V×V)->Hp->Prop)->Prop
 |[],_,H,Q=>Q [] H
 | (tk,tv)::r,σ,H,Q=>tk σ H λx H1=>tv σ H1 λy H2=>SO r σ H2 λps H3=>Q ((x,y)::ps) H3
abbrev VV:List (V×V)->List (Value×Value)->Prop:=Paired λp q=>RelV p.1 q.1/\RelV p.2 q.2
def PPs(X:Cx)(pos:Pos)(keys:List (Option Expr))(values:List Expr)(trs:List (TE×TE)):Prop :=
 ∀(pins:List (Addr×Obj)) (s:Shared) (σ:St) (H:Hp) (Q:List (V×V)->Hp->Prop),Inv X pins σ H s->SO trs σ H Q ->
  wpAny (model X.prog X.w) X.A (evalPairs (pairTrees keys values X.env pos)) (λvs s'=>∃ps H',Inv X pins σ H' s'/\VV ps vs/\Q ps H') X.xe s
theorem abm:PPs X pos [] [] []:=λa s b H Q I h=>pairTrees_nil_walk ⟨[],H,I,.nil,h⟩
theorem Ze{X:Cx}{b:Pos}{k v:Expr}{ks:List (Option Expr)}{vs:List Expr}{tk f:TE}{c:List (TE×TE)}(q:PE X k tk)(m:PE X v f)(i:PPs X b ks vs c) :
 PPs X b (some k::ks) (v::vs) ((tk,f)::c):=λa s d H Q I h =>
 pairTrees_cons_walk (ia (q a s d H _ I h) λu C ⟨x,D,j,n,r⟩=>ia (m a C d D _ j r) λE o ⟨y,A,B,l,g⟩ =>
  ia (i a o d A _ B g) λF G ⟨p,w,z,e,t⟩=>⟨(x,y)::p,w,z,.cons ⟨n,l⟩ e,t⟩)
def Az(kvs more:List (Key×V)):List (Key×V):=more.foldl (λacc kv=>putK acc kv.1 kv.2) kvs
theorem KV.merge:∀{a:List (Key×V)} {rs:List (Key×Value)} {kvs:List (Key×V)} {vs:List (Key×Value)},KV a rs->KV kvs vs->KV (Az kvs a) (merged vs rs):=by
 intro a rs kvs vs r;unfold KV at r;induction r generalizing kvs vs with
 |nil=>intro q;exact q
 |@cons p q d f h t b =>
  intro c;have e:KV (putK kvs p.1 p.2) (stored vs q.1 q.2):=by
   have:=c.put p.1 h.2
   rw[<- h.1];exact this
  exact b e
theorem CC:∀(more kvs:List (Key×V)),(Az kvs more).length<=kvs.length+more.length
 |[],kvs=>by show kvs.length<=kvs.length+0;lia
 |p::r,kvs=>by
  have b:=CC r (putK kvs p.1 p.2);have a:=Ay kvs p.1 p.2;show (Az (putK kvs p.1 p.2) r).length<=_;rw[aV];lia
theorem Jt{P:Program}{w:World}:∀{kvs:List (Key×V)} {ws:List (Value×Value)},VV (kvs.map λkv=>(kV kv.1,kv.2)) ws->∃rs,Carries (eZ P w) ws rs/\KV kvs rs
 |[],_,r=>by rw[xM] at r;cases r;exact⟨[],ki,.nil⟩
 |p::kvs,_,r=>by
  rw[bG] at r;cases r with
  |@cons a b f bs h t =>
   obtain⟨rs,c,q⟩:=Jt (P:=P) (w:=w) t;obtain⟨e,d⟩:=b;exact⟨(p.1,d)::rs,⟨MN h.1,rfl,c⟩,.cons ⟨rfl,h.2⟩ q⟩
def ahG(trs:List (TE×TE)):TE:=λσ H Q=>∀p,H p=none->SO trs σ (upd H p (.dK [])) λps H2=>H2 p=some (.dK [])/\∃kvs:List (Key×V),ps=kvs.map (λkv=>(kV kv.1,kv.2))/\kvs.length<=15/\Q (.ref p) (upd H2 p (.dK (Az [] kvs)))
theorem abn{X:Cx}{b:Pos}{keys:List (Option Expr)}{values:List Expr}{f:List (TE×TE)}(h:PPs X b keys values f)(d:keys.all (·.isSome)=true)(hl:keys.length=values.length)(n:keys≠[])
 (l:keys.length<=15):PE X (.Dict keys values b) (ahG f):=by
 intro j s t H Q I q;have J:=I.hok.fresh (az s.heap.objs.size);have u:=I.laid (a:=s.heap.objs.size) (o:=.dK []) (h':=s.heap.push {cls:=.type "dict",data:=.dict #[]}) (t':=s.toks) (λ_ _ q=>Heap.get?_push_of_some _ q) (az _) (Qe s.heap I.big);refine wpAny_Dict_walk (knd:=eZ X.prog X.w) d hl n l (ia (h j _ t _ _ u (q _ J)) λO L ⟨M,N,m,k,e,i,E,lk,r⟩=>?_);subst E;obtain⟨p,c,y⟩:=Jt (P:=X.prog) (w:=X.w) k;obtain⟨z,K,C,D,G⟩:=Y9 m.hok e;cases D;refine⟨p,c,G,λh' g F=>⟨.ref s.heap.objs.size,_,?_,rfl,r⟩⟩;have A:(Az [] i).length<=sizeLine:=by
  have B:=CC i [];rw[List.length_nil] at B;rw[sizeLine_eq];lia
 have x:∃q,h'.get? s.heap.objs.size=some q:=let ⟨q,_,_,v,_⟩:=g;⟨q,v⟩;exact Oo m (by rw[e];exact ki) F x (Za A K (y.merge .nil) g)
structure M1(X:Cx)(o:Expr)(m:Str)(apos:Pos)(e:Expr)(cpos:Pos):Prop where
 base:attributeBase o m X.env (eval o X.env)=eval o X.env
 few:((backTo cpos (starEach [e] X.env)).all (λx=>!x.1)&&(backToKw cpos (keywordEach [] X.env)).all (λx=>x.1.isSome)
  && decide (([e]:List Expr).length+([]:List Keyword).length+(if ([]:List Keyword).isEmpty then 0 else 1)<30))=true
 line:(apos.endLine==cpos.line)=true
 trees:backTo cpos (starEach [e] X.env)=[(false,eval e X.env)]
def IsD(H:Hp)(a:Addr):Prop:=(∃kvs,Rd H a (.dK kvs))∨∃kvs,Rd H a (.dT kvs)
theorem aeU{X:Cx}{f:List (Addr×Obj)}{k:St}{H:Hp}{s:Shared}{a:Addr}(I:Inv X f k H s)(d:IsD H a) :
 s.TypeIs (.ref a) "dict" /\ (∀b,Value.ref a=.ref b->∃ob,s.heap.get? b=some ob/\ob.dict=none)/\(a==sysModules)=false:=by
 rcases d with ⟨g,e⟩|⟨g,e⟩
 ·obtain⟨_,j,m,_,c⟩:=Qc I.hok e
  refine⟨c.typeIs,λb q=>?_,j⟩;cases q;obtain⟨ob,_,_,i,h,_⟩:=c;exact⟨ob,i,h.2.1⟩
 ·obtain⟨_,j,l,_,c⟩:=Qd I.hok e
  refine⟨c.typeIs,λb q=>?_,j⟩;cases q;obtain⟨ob,_,_,i,h,_⟩:=c;exact⟨ob,i,h.2.1⟩
section
variable{X:Cx}{pins:List (Addr×Obj)}{σ:St}{H:Hp}{s:Shared}{a:Addr}{y d:V}{u r:Value}{o:Option V}{A:Around}{E:Value->Shared->Prop}
theorem aeV{Q:Value->Shared->Prop}(p:A.units+1<cLine)(I:Inv X pins σ H s)(g:Di H a y o)(j:RelV y u)(h:∀m s',Inv X pins σ H s'->RelV (o.getD .f9) m->Q m s') :
 wpAny (model X.prog X.w) A (call (.builtin "dict.get") [.ref a,u]) Q E s:=by
 rcases g with ⟨f,k,e,d,l⟩|⟨f,k,b,e,d,q,l⟩
 ·subst d
  obtain⟨z,i,r,rel,c⟩:=Qc I.hok e;refine call_meetsIn PySem.F.slot_dict_get c.typeIs PySem.F.entry_dict_get (PySem.F.args_dict_get_2 _ _) (meets_dict_get (eZ X.prog X.w) a (MN j) i) ⟨_,c.mapOf,h _ _ (I.tok _) ?_⟩;rw[l];exact (rel.val k).getD rfl
 ·subst d
  cases (show u=Value.ref b from j);obtain⟨z,i,n,rel,c⟩:=Qd I.hok e;refine call_meetsIn PySem.F.slot_dict_get c.typeIs PySem.F.entry_dict_get (PySem.F.args_dict_get_2 _ _) (meetsH_dict_get (tupleKind (eZ X.prog X.w)) a b i) ⟨tupleKind_room_in1 p,k,n,Jr I.hok q,c,h _ _ (I.tok _) ?_⟩;rw[l];exact (rel.val k).getD rfl
end
def aeW(td ty:TE):TE:=λσ H Q=>td σ H λx H1=>∃a,x=.ref a/\IsD H1 a/\ty σ H1 λy H2=>∃o,Di H2 a y o/\Q (o.getD .f9) H2
section
variable{X:Cx}{o e f:Expr}{apos cpos:Pos}{td ty tx:TE}
theorem Zf(k:X.A.units+1<cLine)(E:PE X o td)(t:PE X e ty)(m:M1 X o "get" apos e cpos):PE X (.Call (.Attribute o "get" apos) [e] [] cpos) (aeW td ty):=by
 intro b s f H Q I h;refine wpAny_Call_method m.base m.few m.line PySem.F.plainAttrs_dict PySem.F.slot_dict_get PySem.F.type_dict_get (ia (E b s f H _ I h) λu B ⟨x,D,i,p,a,C,d,r⟩=>?_);subst C;obtain rfl:u=Value.ref a:=p;obtain⟨n,q,_⟩:=aeU i d;refine⟨n,q,?_⟩;rw[m.trees];refine Calls.callWith_builtin rfl (Calls.evalArgs_plain (Calls.spliced_cons (ia (t b B f D _ i r) λJ G ⟨y,w,z,l,L,g,j⟩=>Calls.spliced_nil ?_)));exact aeV k z g l λK M v c=>⟨_,w,v,c,j⟩
end
end L2
namespace Att
open PySem PySem.W PySem.Calls PyProof.Rows
theorem Ij:∀(ns:List Int) (vs:List Value),WellAll P h vs (ns.map WData.int)->IntsAre vs ns:=by
 intro ns;induction ns with
 |nil =>
  intro vs w;rw[xM] at w;cases w;exact .nil
 |cons n ns c =>
  intro vs w;rw[bG] at w;cases w with
  |cons a b =>
   cases a;exact .cons _ _ (c _ b)
theorem Ws{l:OpenLaw}{n:Nat}(p:l.most=some n){P:Params}{h:Heap}{args:List WData}{c:List Value}
 (b:l.row.toRowW.claim.pre args=true) (k:WellAll P h c args) :
 ∃a vs ns,c=[Value.ref a]/\args=[WData.list (ns.map WData.int)]/\h.get? a=some {cls:=.type "list",data:=.seq vs.toArray}/\IntsAre vs ns/\ns.length<=n:=by
 have j:WShape.hasAll [] args [.list .int]=true:=(pre_splitW b).1;have m:l.pre.holds [] {args:=args}=true:=(pre_splitW b).2;obtain⟨d,r,rfl,v,u⟩:=hasAllW_cons j;obtain rfl:=hasAllW_nil u;obtain⟨y,rfl,s⟩:=hasW_list v;obtain⟨ns,rfl⟩:=items_int s;have e:ns.length<=n:=by
  unfold OpenLaw.pre at m;have g:(WTm.not (.lt (.lit (.int (n:Int))) (.len (.arg 0)))).holds [] {args:=[.list (ns.map .int)]}=true:=by
   have g:=(holds_andW m).1;rw[p] at g;exact g
  have i:=condW_of g (w_not (w_lt w_lit (w_len_list (w_arg rfl))));rw[af] at i;refine Nat.le_of_not_lt λq=>?_;have t:(n:Int)<((ns.length:Nat):Int):=∅
  first
   | (rw[eH t] at i;exact cy i (!_))
   | (simp at i;lia)
 cases k with
 |cons x o =>
  cases o;cases x with
  |list w f=>exact⟨_,_,ns,rfl,rfl,w,Ij ns _ f,e⟩
theorem Wt(l:OpenLaw)(args:List WData):l.row.toRowW.claim.post args (.bool true) args=true :=
 postW_of (r:=l.row.toRowW) (X:=(true==true))
  (show WShape.has [] (.bool true) .bool=true by first|rfl|decide|simp[WShape.has,WShape.arms,WShape.armsAll])
  (show (WTm.eq .res (.lit (.bool true))).value [] {args:=args,res:=some (.bool true),after:=args}=some (.bool (true==true)) from w_eq_bool (w_res rfl) w_lit) rfl
theorem Qf{l:OpenLaw}{n:Nat}{q:Program}{c:List Str}{XP:(Str->Option Value)->Heap->Prop}{B:World->Heap->Prop}{d:DefRec}
 (I:l.most=some n) (u:d.params.defaults=[])
 (call:∀(w:World) (e b:Shared) (s y:Str->Option Value) (m:Addr) (o:Obj) (z t g:Value) (a:Addr) (vs:List Value) (ns:List Int),
  Ground q c [] XP w e s y b.heap->B w b.heap ->
  b.heap.get? m=some o->o.data=.func (docDef d.name d.params d.body d.scope z t g)->b.heap.CodeRec t d.name->s d.name=some (.ref m) ->
  b.heap.get? a=some {cls:=.type "list",data:=.seq vs.toArray}->IntsAre vs ns->ns.length<=n->b.gens=#[] ->
  codeAny (model l.prog w) callerA (.call (.ref m) ⟨[.ref a],[]⟩) (λr p=>r=.ok (.ret (.bool true))/\OldK b.heap p.heap/\p.os=b.os/\AllBare p.gens) b) :
 WalkO q c XP B l.row.toRowW d [] (λf vs=>PySem.call f vs):=by
 intro w e b s y G Y m o z t g K kV Q S x E A P C D T j F R v H;obtain rfl:K=.none:=Dflts.none E u;obtain rfl:kV=.none:=Dflts.noKw E;obtain⟨a,vs,ns,rfl,rfl,k,h,i⟩:=Ws I j v;refine enter_call (codeAny_mono (call w e b s y m o z t g a vs ns G Y Q (fd_plain S) x A k h i P) λr p L=>?_);obtain⟨rfl,N,M,J⟩:=L;exact⟨.inl ⟨.bool true,.bool true,[],rfl,λ_=>rfl,.bool true,Wt l _,λ_=>⟨List.Pairwise.nil,λ_ O=>(nomatch O)⟩⟩,N,M,J⟩
end Att
namespace L2
open PySem PySem.Spec PyProof.Rows
theorem MQ:∀{vs:List Value} {ns:List Int},IntsAre vs ns->cF (ns.map V.int) vs
 |_,_,.nil=>.nil
 |_,_,.cons n t h=>.cons ⟨t,rfl⟩ (MQ h)
def aeX(H:Hp):Prop:=∀b,H b=none∨∃o xs,H b=some (.PY o (.lst xs))
theorem Zg{P:Program}{w:World}{K:ah}{y R:Str->Option Value}{CX:Wn}{k:Nat}{L a:Addr}{Z:FuncData}{x:Str}{sp:Sp}{c:Shared}{vs:List Value}{ns:List Int}
 (Y:K.In c.heap) (C:c.heap.Ns mainGlobals y) (f:c.heap.Ns builtinsNs R) (M:∀x:Str,x≠"__name__" -> R x=bootBuiltins x) (E:c.heap.NoLimit) (hg:c.gens=#[])
 (I:c.heap.get? a=some {cls:=.type "list",data:=.seq vs.toArray}) (hi:IntsAre vs ns) (hl:ns.length<=sizeLine) (hr:kD k callerA)
 (F:∀base:Heap,K.In base->base.Ns mainGlobals y->cH P w K y base CX k L Z [x] sp) (l:∀(s:Shared) (u:Value),BindsTo s Z ⟨[u],[]⟩ [(x,u)])
 (Yg:∀H:Hp,aeX H->bN K H a (ns.map V.int)->sp [.ref a] H (λv _=>v=.bl true) λ_ _ _=>False)
 (O:∀H e g,CX [] H c (λ_ _ _=>False) e g->False) :
 codeAny (model P w) callerA (.call (.ref L) ⟨[.ref a],[]⟩) (λr g=>r=.ok (.ret (.bool true))/\OldK c.heap g.heap/\g.os=c.os/\AllBare g.gens) c:=by
 have W:=MQ hi;have J:=hi.length;have j:∀H:Hp,aeX H->bN K H a (ns.map V.int)->Aq P w H c.heap->(∀b,H b≠none->b=a)->(H a≠none->K.lookup a=none) ->
  codeAny (model P w) callerA (.call (.ref L) ⟨[.ref a],[]⟩) (λr g=>r=.ok (.ret (.bool true))/\OldK c.heap g.heap/\g.os=c.os/\AllBare g.gens) c:=by
  intro H hO hS G X hK;have U:∀{b:Addr} {o:Obj},c.heap.get? b=some o->H b=none->(Oa c.heap H).get? b=some o:=λe n=>Yt e n;have N:∀{b:Addr} {o:Obj} {A:Array DictEntry} {D:Nat},c.heap.get? b=some o->o.data=.dict A D->H b=none:=λ{b o A D} e d=>by
   cases q:H b with
   |none=>rfl
   |some u =>
    have Q:b=a:=X b (by rw[q];simp);subst Q;rw[I] at e;cases e;have d':Data.seq vs.toArray _=Data.dict A D:=d;cases d'
  have i:∀{b:Addr} {m:Str->Option Value},c.heap.Ns b m->(Oa c.heap H).Ns b m:=λ{b m} ⟨o,A,D,e,d,r⟩=>⟨o,A,D,U e (N e d),d,r⟩;have t:K.In (Oa c.heap H):=λb o e=>U (Y b o e) (by
   cases q:H b with
   |none=>rfl
   |some u =>
    have Q:b=a:=X b (by rw[q];simp);subst Q;rw[hK (by rw[q];simp)] at e;cases e)
  have hM:Mod K y (Oa c.heap H):=⟨t,i C,⟨R,i f,M⟩,let ⟨mc,h1,h2⟩:=E;⟨mc,i h1,h2⟩⟩;have e0:SH P w K y (Oa c.heap H) callerA [] c H:=⟨rfl,hM,λb o e=>aba e,Nat.le_of_eq (We _ _),trivial,λb f=>cy (show b∈([]:List Addr) from f) (-_),G,.of_eq hg⟩;refine codeAny_mono ((F _ t (i C)).run callerA [] c H ⟨[.ref a],[]⟩ [.ref a] [.ref a] _ _ hr e0 (l c (.ref a)) (.cons rfl .nil) (Yg H hO hS)) λr g h=>?_;cases r with
  |error e=>exact (O H e g h).elim
  |ok fl =>
   cases fl with
   |next=>exact kB h
   |brk=>exact kB h
   |cont=>exact kB h
   |ret u =>
    obtain⟨v,H',os,B,un,T,r',q⟩:=h;have q':v=.bl true:=q;subst q';obtain rfl:u=Value.bool true:=r';refine⟨rfl,OldK.of_keep λb o e=>?_,os,B⟩;cases q:H b with
    |none=>exact un.keep b o e q (by intro z;exact cy (show b∈([]:List Addr) from z) (-_)) (-_)
    |some u =>
     rcases hO b with z|⟨ob,xs,z⟩
     ·rw[q] at z;cases z
     ·have z2:=un.Ek b ob _ z
      obtain⟨e1,_⟩:=G b _ z;obtain⟨e2,_⟩:=T b _ z2;rw[e] at e1;cases e1;exact e2
 cases S:K.lookup a with
 |some o =>
  have e:=Y a o S;rw[I] at e;cases e;refine j (λ_=>none) (λ_=>.inl rfl) (.inr ⟨_,vs.toArray,_,S,rfl,rfl,rfl,by rw[aZ,J];exact hl,by simpa using W⟩) (λb u z=>by have p:(none:Option HO)=some u:=z;cases p) (λb z=>cy rfl z) λz=>cy rfl z
 |none =>
  refine j (λb=>if b=a then some (.PY {cls:=.type "list",data:=.seq vs.toArray} (.lst (ns.map V.int))) else none) (λb=>?_) (.inl (.inr ⟨{cls:=.type "list",data:=.seq vs.toArray},aq rfl⟩)) (λb u z=>?_) (λb z=>?_) λ_=>S
  ·by_cases f:b=a
   ·exact .inr ⟨_,_,aq f⟩
   ·exact .inl (b3 f)
  ·by_cases f:b=a
   ·have p:=(aq f).symm.trans z
    cases p;subst f;exact⟨I,by rw[af];exact hl,vs,_,W,I⟩
   ·have p:=(b3 f).symm.trans z
    cases p
  ·by_cases f:b=a
   ·exact f
   ·exact cy (b3 f) z
theorem abo{l:PySem.W.OpenLaw}{n k:Nat}{q:Program}{i:List Str}{XP:(Str->Option Value)->Heap->Prop}{I:World->Heap->Prop}{d:DefRec}{K:Params->ah}{CX:World->Wn}{sp:World->Sp}{x:Str}
 (J:l.most=some n) (y:n<=sizeLine) (z:d.params.defaults=[]) (L:kD k callerA)
 (M:∀(w:World) (h:Heap),I w h->(K w.params).In h)
 (F:∀(w:World) (m:Str->Option Value) (t:Addr) (h:Heap),(K w.params).In h->h.Ns mainGlobals m->m d.name=some (.ref t) ->
  ∃A:FuncData,(∀(s:Shared) (u:Value),BindsTo s A ⟨[u],[]⟩ [(x,u)]) /\
   ∀base:Heap,(K w.params).In base->base.Ns mainGlobals m->cH l.prog w (K w.params) m base (CX w) k t A [x] (sp w))
 (Q:∀(w:World) (H:Hp) (a:Addr) (ns:List Int),ns.length<=n->aeX H->bN (K w.params) H a (ns.map V.int)->sp w [.ref a] H (λv _=>v=.bl true) λ_ _ _=>False)
 (B:∀(w:World) (H:Hp) (s:Shared) (e:Value) (s':Shared),CX w [] H s (λ_ _ _=>False) e s'->False) :
 PySem.W.WalkO q i XP I l.row.toRowW d [] (λf vs=>PySem.call f vs):=by
 refine Att.Qf J z λw D p m Z t o pm cd U a vs ns G Y ho hd O C r j c R=>?_;have E:=M w _ Y;obtain⟨A,X,S⟩:=F w m t _ E G.T.g C;exact Zg E G.T.g G.T.b G.T.builtins G.T.nolimit R r j (aN c y) L S X (λH P N=>Q w H a ns c P N) λH e s'=>B w H p e s'
def inClass(s:Stmt)(j:Nat):Stmt:=match s with
 |.ClassDef _ _ _ body _ _ _ _ _ _ _=>body.getD j (.Pass ⟨0,0,0,0⟩)
 |_=>.Pass ⟨0,0,0,0⟩
def j6(s:Stmt):Arguments:=match s with
 |.FunctionDef _ a _ _ _ _ _ _ _ _=>a
 |_=>{posonlyargs:=[],args:=[],vararg:=none,kwonlyargs:=[],kw_defaults:=[],kwarg:=none,defaults:=[]}
def gM(s:Stmt):List Stmt:=match s with
 |.FunctionDef _ _ b _ _ _ _ _ _ _=>b
 |_=>[]
def aD(s:Stmt):Scope:=match s with
 |.FunctionDef _ _ _ _ _ _ sc _ _ _=>sc
 |_=>{kind:=.function,names:=[],isGenerator:=false,isCoroutine:=false}
abbrev iS:Wn:=λ_ _ _ _ _ _=>False
abbrev E0:XK:=λ_ _ _=>False
theorem jv:tN iS X E0:=λ_ _ _ _ _ _ _ h=>h.elim
structure Sk(K:ah)(x qual:Str)(st:Stmt)(f:Addr)(fd:FuncData):Prop where
 ex:∃(oc:Value) (od:Option Addr) (kV doc pm:Value) (an:Option Addr) (cdv ct:Value) (osl:Array (Option Value)),
  fd=fJ x qual (j6 st) (gM st) (aD st) .none kV doc pm an cdv ct/\K.lookup f=some ⟨oc,od,.func fd,osl⟩/\jX K cdv qual=true
 kp:eY K (.ref f)=true
section
variable{P:Program}{w:World}{K:ah}{mg:Str->Option Value}{base:Heap}
theorem Sk.ok{x b:Str}{st:Stmt}{f:Addr}{i:FuncData}{N ps:List Str}{k:Nat}{sp:Sp}(F:Sk K x b st f i)(S:aP N ps (aD st))(g:∀vs H Q E,sp vs H Q E->vs.length=ps.length)
 (d:∀(c:Value) (A:Around) (a:List Env) (s:Shared) (H:Hp) (vs:List V) (Q:VK) (E:XK),kD k (A.deeper (envOfC b (aD st) s.heap.objs.size f c))->sp vs H Q E ->
  ∃t,iP (pX iS P w K mg base N b (aD st) f c A a s H E).n7 (gM st) t/\t {nx:=λ_ j=>Q .f9 j,rt:=Q} (start N vs) H):cH P w K mg base iS (k+1) f i ps sp:=by
 obtain⟨y,p,kV,o,u,v,c,r,m,rfl,lk,e⟩:=F.ex;refine YW lk e S g λA a s H vs Q E l n=>?_;obtain⟨t,h,q⟩:=d c A a s H vs Q E l n;exact⟨t,h.n7,q⟩
theorem Sk.binds{x a:Str}{st:Stmt}{f:Addr}{g:FuncData}{ps:List Str}(F:Sk K x a st f g)
 (h:∀(kV c d:Value) (e:Option Addr) (b ct:Value) (us:List Value),us.length=ps.length->bindArgs (fJ x a (j6 st) (gM st) (aD st) .none kV c d e b ct) ⟨us,[]⟩=pure (ps.zip us)):Binds K g ps []:=by
 obtain⟨l,k,kV,c,d,e,b,ct,i,rfl,lk,j⟩:=F.ex;exact .all (h kV c d e b ct)
theorem Zh{x a:Str}{st:Stmt}{f:Addr}{j:Value}{i g:Option Addr}{e:Array (Option Value)}{kV d h b ct:Value}(l:K.lookup f=some ⟨j,i,.func (fJ x a (j6 st) (gM st) (aD st) .none kV d h g b ct),e⟩)
 (c:jX K b a=true) (k:eY K (.ref f)=true):Sk K x a st f (fJ x a (j6 st) (gM st) (aD st) .none kV d h g b ct):=⟨⟨j,i,kV,d,h,g,b,ct,e,rfl,l,c⟩,k⟩
end
theorem CD(a:kD k A):A.units+1<cLine:=bX (dB (by decide:1<=64) _) a.units
theorem b4{n:Nat}(h:n<=1000):n<sizeLine:=bX h (!_)
section
variable{X:Cx}
theorem pv(i:Nat){x:Str}{b:Pos}(c:X.N[i]?=some x:=by rfl)(d:Vis X.env.scope x:=by first|exact Or.inl rfl|exact Or.inr (Or.inl rfl)|exact Or.inr (Or.inr rfl))(e:(x==("__debug__" : Str))=false:=by decide)
 (a:(x==("__classdict__" : Str))=false:=by decide):PE X (.Name x b) (Oc i):=aet c d e a
end
theorem dh{A B:Prop}(h:B):if false=true then A else B:=by
 rw[b3 aI];exact h
theorem dZ{A B:Prop}(h:A):if true=true then A else B:=by
 rw[aq rfl];exact h
theorem jd{A B:Prop}[Decidable c](b:c->A)(a:¬c->B):if c then A else B:=by
 by_cases h:c
 ·rw[aq h]
  exact b h
 ·rw[b3 h]
  exact a h
def aG(H H':Hp):Prop:=∀b o,H b=some o->H' b=some o
theorem aG.refl(H:Hp):aG H H:=λ_ _ h=>h
theorem aG.trans(a:aG H H1)(b:aG H1 H2):aG H H2:=λc o h=>b c o (a c o h)
theorem aG.free(e:aG H H')(h:H' l=Option.none):H l=Option.none:=by
 cases q:H l with
 |none=>rfl
 |some o =>
  rw[e l o q] at h;cases h
theorem aG.seq{K:ah}(e:aG H H')(h:bN K H a xs):bN K H' a xs:=by
 rcases h with (h|⟨o,h⟩)|h
 ·exact .inl (.inl (e _ _ h))
 ·exact .inl (.inr ⟨o,e _ _ h⟩)
 ·exact .inr h
theorem Wu{env:Env}(h:env.cells.lookup x=some c):cellOf env x=pure c:=by
 unfold cellOf;rw[h]
def oh(env:Env):List (Str×NameKind)->List (Str×Addr)->List (Str×Addr)
 |[],cs=>cs
 | (n,k)::r,cs=>oh env r (if k==.free then (n,(env.cells.lookup n).getD 0)::cs else cs)
theorem Oq{env:Env}:∀(ns:List (Str×NameKind)) (cs:List (Str×Addr)),(∀n,(n,NameKind.free)∈ns->∃c,env.cells.lookup n=some c) ->
 (forIn (m:=Sem) ns cs λx r=>match x with
  | (a,d)=>if (d==NameKind.free)=true then do let c <- cellOf env a;pure (ku ((a,c)::r)) else pure (ku r))=pure (oh env ns cs)
 |[],cs,_=>rfl
 | (n,k)::r,cs,h=>by
  rw[List.forIn_cons];by_cases b:(k==NameKind.free)=true
  ·have g:k=.free:=by simpa using b
   obtain⟨c,e⟩:=h n (by rw[g];exact bE);simp only[b,if_true,Wu e];have q:=Oq r ((n,c)::cs) λm f=>h m (bf _ f);show (forIn (m:=Sem) r ((n,c)::cs) _)=pure (oh env r (if (k==.free)=true then (n,(env.cells.lookup n).getD 0)::cs else cs));rw[aq b,e];exact q
  ·simp only[b]
   have q:=Oq r cs λm f=>h m (bf _ f);show (forIn (m:=Sem) r cs _)=pure (oh env r (if (k==.free)=true then (n,(env.cells.lookup n).getD 0)::cs else cs));rw[b3 b];exact q
theorem CF{scope:Scope}{env:Env}(h:∀n,(n,NameKind.free)∈scope.names->∃c,env.cells.lookup n=some c):closureFor scope env=pure (oh env scope.names []):=by
 have e:=Oq scope.names [] h;unfold closureFor;show (forIn (m:=Sem) scope.names [] (λx r=>match x with
  | (a,b)=>if (b==NameKind.free)=true then do let c <- cellOf env a;pure (ku ((a,c)::r)) else pure (ku r)) >>= λs=>pure s)=_
 rw[e];rfl
theorem nk{env:Env}{x:Str}{c:Addr}:∀(ns:List (Str×NameKind)) (cs:List (Str×Addr)),(∀n,(n,NameKind.free)∈ns->∃c,env.cells.lookup n=some c)->(cs.lookup x=some c->env.cells.lookup x=some c) ->
 (oh env ns cs).lookup x=some c->env.cells.lookup x=some c
 |[],_,_,a,h=>a h
 | (n,k)::r,cs,g,a,h=>by
  unfold oh at h;refine nk r _ (λm i=>g m (bf _ i)) (λq=>?_) h;by_cases b:(k==NameKind.free)=true
  ·have l:k=.free:=by simpa using b
   subst l;obtain⟨d,e⟩:=g n bE;rw[aq b,e,fT] at q;by_cases f:(x==n)=true
   ·have j:x=n:=by simpa using f
    rw[f] at q;subst j;rw[e];exact q
   ·simp only[f] at q
    exact a q
  ·rw[b3 b] at q
   exact a q
theorem Dj{env:Env}{x:Str}:∀(ns:List (Str×NameKind)) (cs:List (Str×Addr)),((cs.lookup x).isSome=true∨(x,NameKind.free)∈ns)->((oh env ns cs).lookup x).isSome=true
 |[],_,h=>h.elim id λz=>cy z (-_)
 | (n,k)::r,cs,h=>by
  unfold oh;refine Dj r _ ?_;rcases h with h|h
  ·refine .inl ?_
   split
   ·rw[fT]
    split
    ·rfl
    ·exact h
   ·exact h
  ·rcases bu.mp h with e|h
   ·cases e
    refine .inl ?_;rw[aq (show (NameKind.free==NameKind.free)=true from rfl),fT];simp
   ·exact .inr h
def kE(cap:List (Option Nat))(σ:St):St:=cap.map λo=>o.bind λj=>(σ[j]?).join
def nv(X:Cx)(scope:Scope)(N':List Str)(fp:List Addr)(pins:List (Addr×Obj))(s₃:Shared)(alA:Hp):Cx where
 prog:=X.prog
 w:=X.w
 K:=X.K
 mg:=X.mg
 base:=X.base
 A:=X.A
 N:=N'
 s₀:=s₃
 H₀:=alA
 env:=compEnvC scope (oh X.env scope.names []) s₃.heap.objs.size X.env
 outer:=X.stack
 stack:=X.stack
 ex:=fp
 fn:=λ_=>false
 calm:=X.calm
 pn:=X.pn++pins
 xe:=λ_ _=>False
structure kG(X:Cx)(scope:Scope)(N':List Str)(cap:List (Option Nat)):Prop where
 kind:scope.kind=.function
 SQ:∀y∈scope.names,y.2≠.cell
 loc:∀y∈scope.names,y.2=.local->scope.names.lookup y.1=some .local
 fr:∀y∈scope.names,y.2=.free->X.env.kindOf y.1=some .cell
 frl:∀y∈scope.names,y.2=.free->scope.names.lookup y.1=some .free
 nd:N'.Nodup
 len:cap.length=N'.length
 cap:∀(i j:Nat) (x:Str),cap[i]?=some (some j)->N'[i]?=some x->X.N[j]?=some x/\(x,NameKind.free)∈scope.names
section
variable{X:Cx}{scope:Scope}{N':List Str}{cap:List (Option Nat)}{fp:List Addr}{pins:List (Addr×Obj)}{s:Shared}{σ:St}{H:Hp}
theorem kG.clos(S:kG X scope N' cap)(ok:X.Ok):∀n,(n,NameKind.free)∈scope.names->∃c,X.env.cells.lookup n=some c:=λn a=>ok.has n (.inl (S.fr _ a rfl))
theorem yJ{env:Env}{x:Str}:∀{names:List (Str×NameKind)} {k:NameKind},
 (names.map λ(n,k)=>if (k==NameKind.free&&env.scope.kind==.function&&env.kindOf n==some .cell) then (n,NameKind.cell) else (n,k)).lookup x=some k->k=.cell∨k=.free->(∀y∈names,y.2≠.cell)->(x,NameKind.free)∈names
 |[],_,h,_,_=>by simp at h
 | (n,q)::r,k,h,hk,d=>by
  have h':rD x ((if (q==NameKind.free&&env.scope.kind==.function&&env.kindOf n==some .cell)=true then (n,NameKind.cell) else (n,q))::(r.map λ(n,k)=>if (k==NameKind.free&&env.scope.kind==.function&&env.kindOf n==some .cell) then (n,NameKind.cell) else (n,k)))=some k:=h;by_cases c:(x==n)=true
  ·have f:x=n:=by simpa using c
   subst f;by_cases b:(q==NameKind.free&&env.scope.kind==.function&&env.kindOf x==some .cell)=true
   ·have:q=.free:=by
     rw[dj,dj] at b
     simpa using b.1.1
    subst this;exact bE
   ·rw[b3 b,fT,c] at h'
    have e:q=k:=aJ h';subst e;rcases hk with hk|hk
    ·exact cy hk (d _ bE)
    ·rw[hk];exact bE
  ·have a:(x==n)=false:=by simpa using c
   refine bf _ (yJ (env:=env) (k:=k) ?_ hk λy g=>d y (bf _ g));split at h'
   ·rw[fT,a] at h';exact h'
   ·rw[fT,a] at h';exact h'
theorem EH{env:Env}{x:Str}(d:env.scope.kind=.function)(b:env.kindOf x=some .cell):∀{names:List (Str×NameKind)},names.lookup x=some .free ->
 (names.map λ(n,k)=>if (k==NameKind.free&&env.scope.kind==.function&&env.kindOf n==some .cell) then (n,NameKind.cell) else (n,k)).lookup x=some .cell
 |[],h=>by simp at h
 | (n,k)::r,h=>by
  show rD x ((if (k==NameKind.free&&env.scope.kind==.function&&env.kindOf n==some .cell)=true then (n,NameKind.cell) else (n,k))::_)=_;cases a:x==n with
  |true =>
   have e:x=n:=by simpa using a
   subst e;simp only[fT,a] at h;have f:k=.free:=aJ h;subst f;rw[aq (by rw[d,b];rfl),fT,a]
  |false =>
   simp only[fT,a] at h;have c:=EH d b h;split
   ·rw[fT,a];exact c
   ·rw[fT,a];exact c
theorem kG.ok(S:kG X scope N' cap)(I:Inv X pins σ H s)(d:∀b∈fp,Eu X pins H b)(f:∀b∈fp,∃o,s.heap.get? b=some o):(nv X scope N' fp pins s H).Ok where
 mod:=I.ok.mod
 kind:=S.kind
 glob:=I.ok.glob
 blt:=I.ok.blt
 above:=az _
 inj:=λx y c j g=>I.ok.inj x y c (nk _ _ (S.clos I.ok) (λz=>by simp at z) j) (nk _ _ (S.clos I.ok) (λz=>by simp at z) g)
 has:=λx hx=>by
  have i:(x,NameKind.free)∈scope.names:=by
   rcases hx with hx|hx
   ·exact yJ (env:=X.env) hx (.inl rfl) S.SQ
   ·exact yJ (env:=X.env) hx (.inr rfl) S.SQ
  exact Option.isSome_iff_exists.mp (Dj scope.names [] (.inr i))
 R1:=λx c h=>by cases h
 hd:=I.ok.hd
 frames:=I.ok.frames
 stk:=.inl rfl
 exf:=λb a=>by
  obtain⟨o,e⟩:=f b a;refine⟨bH (Heap.lt_size e),λx c h=>(d b a).2.2.2.2.1 x c (nk _ _ (S.clos I.ok) (λz=>by simp at z) h)⟩
 bs:=I.bs
 Yv:=aN I.ok.Yv I.sz
 Wf:=λb o e a=>by
  rcases (d b a).2.2.2.1 with z|z
  ·exact I.ok.Wf b o e z
  ·exact cy (bU (Heap.lt_size e) (aN I.ok.Yv z)) (iz _)
 Yw:=λb a k=>by
  rcases bu.mp (I.FZ b k) with z|z
  ·exact (d b a).2.1 z
  ·exact (d b a).2.2.1 z
 Em:=I.stack
 qc:=I.Ob
theorem kG.look(S:kG X scope N' cap)(I:Inv X pins σ H s){f:Heap}{m:Str->Option Value}(g:∀x c v,X.env.cells.lookup x=some c->s.heap.IsCell c v->f.IsCell c v)(i:Nat)(x:Str)(v:V)(L:N'[i]?=some x)(K:(kE cap σ)[i]?=some (some v)) :
 ∃u,RelV v u/\Look (compEnvC scope (oh X.env scope.names []) s.heap.objs.size X.env) f m x u:=by
 have J:∀x c,(oh X.env scope.names []).lookup x=some c->X.env.cells.lookup x=some c:=λx c h=>nk _ _ (S.clos I.ok) (λz=>by simp at z) h;have d:((cap[i]?).map λo=>o.bind λj=>(σ[j]?).join)=some (some v):=by
  have:=K
  unfold kE at this;rw[ak] at this;exact this
 cases q:cap[i]? with
 |none=>rw[q] at d;cases d
 |some o =>
  cases o with
  |none=>rw[q] at d;cases d
  |some j =>
   rw[q] at d;obtain⟨D,b⟩:=S.cap i j x q L;have n:(σ[j]?).join=some v:=aJ d;have E:σ[j]?=some (some v):=by
    cases A:σ[j]? with
    |none=>rw[A] at n;cases n
    |some y =>
     cases y with
     |none=>rw[A] at n;cases n
     |some z =>
      rw[A] at n;have e:z=v:=aJ n;rw[e]
   have a:=S.fr _ b rfl;obtain⟨M,F,G⟩:=I.loc;obtain⟨u,r,l⟩:=G j x v D E (.inr (.inl a));refine⟨u,r,?_⟩;rcases l with ⟨B,_⟩|⟨B,c,C,k⟩
   ·have z:X.env.kindOf x=some .cell:=a
    rw[B] at z;cases z
   ·obtain⟨t,p⟩:=Option.isSome_iff_exists.mp (Dj (env:=X.env) (x:=x) scope.names [] (.inr b))
    have w:t=c:=by
     have:=J x t p
     rw[C] at this;exact (aJ this).symm
    subst w;exact .inr ⟨.inl (EH I.ok.kind a (S.frl _ b rfl)),t,p,g x t _ C k⟩
theorem kG.start(S:kG X scope N' cap)(I:Inv X pins σ H s)(B:∀b∈fp,Eu X pins H b)(k:∀b∈fp,∃o,s.heap.get? b=some o){a:Heap}{tk:Nat}{m:Str->Option Value}(r:a.Ns s.heap.objs.size m)
 (j:∀b o,s.heap.get? b=some o->a.get? b=some o):Inv (nv X scope N' fp pins s H) [] (kE cap σ) H {s with heap:=a,toks:=tk}:=by
 have t:∀x c,(oh X.env scope.names []).lookup x=some c->X.env.cells.lookup x=some c:=λx c h=>nk _ _ (S.clos I.ok) (λz=>by simp at z) h;have f:∀{c:Addr} {v:Option Value},s.heap.IsCell c v->a.IsCell c v:=λ{c v} ⟨o,e,d⟩=>⟨o,j c o e,d⟩;refine⟨S.ok I B k,rfl,I.bare,Un.kept j,⟨m,r,λi x v w u C=>S.look I (λ_ _ _ _ z=>f z) i x v w u⟩,λx c h=>?_,I.hok.fresh (az _),λx c h=>I.xQ x c (t x c h),λp y=>?_,I.hok.kept j,?_⟩
 ·obtain⟨v,z⟩:=I.cell x c (t x c h)
  exact⟨v,f z⟩
 ·have g:p∈(X.pn++pins)++[]:=y
  have l:p∈X.pn++pins:=by rw[bQ] at g;exact g
  obtain⟨e,n,A,nf,d⟩:=I.pin p l;refine⟨j _ _ e,n,bH (Heap.lt_size e),λz=>?_,d⟩;rcases bu.mp (I.FZ p.1 z) with q|q
  ·exact A q
  ·exact nf q
 ·unfold kE
  rw[af];exact S.len
theorem kG.again(S:kG X scope N' cap)(I:Inv X pins σ H s)(k:∀b∈fp,Eu X pins H b)(a:Inv (nv X scope N' fp pins s H) [] σ8 H8 s8):Inv (nv X scope N' fp pins s H) [] (kE cap σ) H8 s8:=by
 obtain⟨m,l,_⟩:=a.loc;refine⟨a.ok,a.os,a.bare,a.base,⟨m,l,λi x v j h p=>S.look I (λy c u f g=>?_) i x v j h⟩,a.cell,a.free,a.xQ,a.pin,a.hok,?_⟩
 ·obtain⟨o,e,d⟩:=g
  obtain⟨r,q⟩:=a.base.any e (I.xQ y c f) λn=>(k c n).2.2.2.2.1 y c f rfl;exact⟨_,q,d⟩
 ·unfold kE
  rw[af];exact S.len
theorem kG.back{h k:Hp}{f s3 s':Shared}{s:St}{i:Addr}{d:Heap}(S:kG X scope N' cap)(y:Inv X pins σ h f)(I:∀b∈fp,Eu X pins h b){o:HO}
 (G:s3.heap.objs.size=f.heap.objs.size+1) (k3:∀b u,f.heap.get? b=some u->s3.heap.get? b=some u) (x:i=f.heap.objs.size) (E:s3.os=f.os)
 (l:Inv (nv X scope N' fp pins s3 (upd h i o)) [] s k s') (r:Heap.SameBut s3.heap.objs.size s'.heap d):Inv X pins σ k {s' with heap:=d}:=by
 have D:Un (frs X.stack) fp h (upd h i o) f.heap s3.heap:=Un.laid k3 (by rw[x];exact az _) (y.hok.fresh (by rw[x];exact az _));have g:Un (frs X.stack) fp h k f.heap s'.heap:=D.trans l.base;have j:∀b a,f.heap.get? b=some a->b≠s3.heap.objs.size:=λb a e=>by
  have:=Heap.lt_size e
  rw[G];exact bH (Nat.lt_succ_of_lt this)
 have t:k s3.heap.objs.size=none:=l.free;have B:Un (frs X.stack) fp h k f.heap d :=
  ⟨λb a e n p m=>(r.2 b (j b a e)).trans (g.keep b a e n p m),λb a e n p m=>by
   obtain⟨J,q⟩:=g.slot b a e n p m;exact⟨J,(r.2 b (j b a e)).trans q⟩,g.free,λb a e m=>by
   obtain⟨F,q⟩:=g.there b a e m;exact⟨F,(r.2 b (j b a e)).trans q⟩,g.tups,g.Ek,g.FY⟩
 have hok:Aq X.prog X.w k d:=λb a e=>(l.hok b a e).stay (λc v K q=>(r.2 c (by
  rintro rfl;rcases K with z|z
  ·rw[<- z,t] at e;cases e
  ·rw[t] at z;cases z)).trans q) (λ_ q=>q) λ_ _ q=>q
 refine y.ac6 (s':={s' with heap:=d}) (ch:=fp) (l.os.trans E) B hok l.bare λb p=>?_;obtain⟨_,A,_,H,C,L⟩:=I b p;exact⟨H,A,C,L⟩
def kh(X:Cx)(ifs:List Expr)(t:TT):Prop :=
 ∀(pins:List (Addr×Obj)) (s:Shared) (σ:St) (H:Hp) (Q:Bool->Hp->Prop),Inv X pins σ H s->t σ H Q ->
  wpAny (model X.prog X.w) X.A (forIn ifs true λc r=>if r=true then do let ok <- isTrue c X.env (eval c X.env);pure (ku ok) else pure (ku r)) (TP X pins σ Q) X.xe s
def ahI:TT:=λ_ H Q=>Q true H
theorem mS:kh X [] ahI:=λ_ _ _ H _ I h=>wpAny_tests_nil ⟨H,I,h⟩
theorem ly(h:PT X c t):kh X [c] t:=λpins s σ H Q I a=>wpAny_tests_one (h pins s σ H Q I a)
def adl(wi:TI)(cap:List (Option Nat))(g:TG)(tc:TT)(te:TE):TE:=λσ H Q=>wi σ H λJ H1=>∀acc,H1 acc=none->∃W:Nat->Nat->Hp->Prop,(∃m,W 0 m (upd H1 acc (.lst [])))/\∀i m H,W i m H ->
 (J.stop i H/\Q (.ref acc) H)∨(J.go i H/\∀x H',J.P1 i H x H'->g x (kE cap σ) H' λσ2 H2=>tc σ2 H2 λb H3=>if b=true then te σ2 H3 λy H4=>∃xs,H4 acc=some (.lst xs)/\xs.length<sizeLine /\
  ∃m',m'<m/\W (i+1) m' (upd H4 acc (.lst (xs++[y]))) else ∃m',m'<m/\W (i+1) m' H3)
theorem Ww{q a l:PySem.Expr}{p:List PySem.Expr}{scope:Scope}{u:Pos}{E t:Value}{env:Env}{prog:Program}{w:World}{A:Around}{s:Shared}{R:Result->Shared->Prop}(I:Nat->Shared->Prop)
 (B:∀n s,I n s->wpAny (model prog w) A (pyNext E) (λr b=>match r with
  |none=>R (.ok .next) b
  |some v=>wpAny (model prog w) A (letOwnedTupleGo a E v) (λ_ g=>wpAny (model prog w) A (assign a env v) (λ_ k =>
   wpAny (model prog w) A (forIn p true λc r=>if r=true then do let ok <- isTrue c env (eval c env);pure (ku ok) else pure (ku r)) (λok d=>if ok=true then wpAny (model prog w) A (eval q env) (λx j =>
    wpAny (model prog w) A (call (.builtin "list.append") [t,x]) (λ_ i=>∃m,m<n/\I m i) (λ_ _=>False) j) (λ_ _=>False) d
    else ∃m,m<n/\I m d) (λ_ _=>False) k)
   (λ_ _=>False) g) (λ_ _=>False) b) (λ_ _=>False) s)
 (n:Nat) (h:I n s):codeAny (model prog w) A (.compLoop (.ListComp q [⟨a,l,p,0⟩] scope u) 0 E t env) R s:=by
 refine codeAny_loop rfl I (λn s G=>?_) n h;show wpAny _ A ((compTurn (.ListComp q [⟨a,l,p,0⟩] scope u) 0 E t env).onRaise (λx=>do noteFrame x env;theTreesLotGoes x)) _ _ s;refine wpAny_noted ?_;rw[compTurn_list];refine wpAny_bind (wpAny_standAt (wpAny_bind (wpAny_mono (B n s G) (λr b f=>?_) λ_ _ z=>z.elim)));cases r with
 |none=>exact wpAny_pure f
 |some v =>
  refine wpAny_bind (wpAny_mono f (λ_ g o=>?_) λ_ _ z=>z.elim);refine wpAny_bind (wpAny_mono o (λ_ k y=>?_) λ_ _ z=>z.elim);refine wpAny_bind (wpAny_mono y (λF d e=>?_) λ_ _ z=>z.elim);cases F with
  |false=>exact wpAny_pure ⟨rfl,e⟩
  |true=>exact wpAny_bind (wpAny_bind (wpAny_mono e (λx j C=>wpAny_bind (wpAny_mono C (λ_ i D=>wpAny_pure (wpAny_pure ⟨rfl,D⟩)) λ_ _ z=>z.elim)) λ_ _ z=>z.elim))
theorem Ju{V tg I:Expr}{U:List Expr}{Z:Pos}{g:TG}{tc:TT}{te:TE}{Q:VK}{a:Shared}{D:Hp}{it:Addr}{tn:Nat->Heap->Prop}{J:It}{E:Value->Shared->Prop}{RR:Value->Addr->Result->Shared->Prop}
 (S:kG X scope N' cap) (hc:X.calm=true) (hg:∀fp pins s H,PG (nv X scope N' fp pins s H) tg g) (hts:∀fp pins s H,kh (nv X scope N' fp pins s H) U tc) (he:∀fp pins s H,PE (nv X scope N' fp pins s H) V te)
 (I2:Inv X pins σ D a) (T:Turn X.prog X.w X.K tg J fp it tn) (R:tn 0 a.heap) (Y:∀b∈fp,Eu X pins D b)
 (h:∀k,D k=none->∃W:Nat->Nat->Hp->Prop,(∃m,W 0 m (upd D k (.lst [])))/\∀i m H,W i m H ->
  (J.stop i H/\Q (.ref k) H)∨(J.go i H/\∀x j,J.P1 i H x j->g x (kE cap σ) j λσ2 D=>tc σ2 D λb H3=>if b=true then te σ2 H3 λy H4=>∃xs,H4 k=some (.lst xs)/\xs.length<sizeLine /\
   ∃l,l<m/\W (i+1) l (upd H4 k (.lst (xs++[y]))) else ∃l,l<m/\W (i+1) l H3))
 (hRR:∀C s' j,(∃m,s'.heap.Ns C m)->(∀N,Heap.SameBut C s'.heap N->Inv X pins σ j {s' with heap:=N})->Q (.ref a.heap.objs.size) j->j C=none->a.heap.objs.size<C ->
  RR (.ref a.heap.objs.size) C (.ok .next) s') :
 wpAny (model X.prog X.w) X.A (newList []) (λk s₃=>wpAny (model X.prog X.w) X.A (newFunctionEnv scope X.env.globals (oh X.env scope.names []) [] X.env.qual none .none (some X.env)) (λG s₄ =>
  codeAny (model X.prog X.w) X.A (.compStart (.ListComp V [⟨tg,I,U,0⟩] scope Z) 0 (.ref it) k {G with scope:=relabel scope X.env}) (RR k G.locals) s₄) E s₃) E a:=by
 refine wpAny_newObj_type (wpAny_newFunctionEnv S.SQ (by intro y hy;simp at hy) (λB SR SS=>?_) S.kind);dsimp only at SR SS ⊢;have hfr:D a.heap.objs.size=none:=I2.hok.fresh (az _);generalize P:a.heap.push {cls:=.type "list",dict:=none,data:=.seq ([]:List Value).toArray}=h3 at SR SS ⊢;have e3:h3.objs.size=a.heap.objs.size+1:=by rw[<- P,Heap.size_push]
 have k3:∀b u,a.heap.get? b=some u->h3.get? b=some u:=λb u e=>by rw[<- P];exact Heap.get?_push_of_some _ e
 have I3:Inv X pins σ (upd D a.heap.objs.size (.lst [])) {a with heap:=h3,toks:=a.toks}:=by
  refine I2.laid (t':=a.toks) k3 (az _) ?_;exact⟨aX _,[],0,.nil,by rw[<- P];exact Heap.get?_push_size _ rfl⟩
 have f3:∀b∈fp,Eu X pins (upd D a.heap.objs.size (.lst [])) b:=λb f=>by
  obtain⟨o,e,_⟩:=T.obj _ _ R b f;exact⟨by rw[aO (bH (Heap.lt_size e))];exact (Y b f).1,(Y b f).2⟩
 have ex3:∀b∈fp,∃o,h3.get? b=some o:=λb f=>by
  obtain⟨o,e,_⟩:=T.obj _ _ R b f;exact⟨o,k3 b o e⟩
 have kp:∀b o,h3.get? b=some o->B.get? b=some o:=λb o e=>SS.extBut b o (bH (Heap.lt_size e)) (Heap.get?_push_of_some _ e);have I4:=S.start (fp:=fp) (tk:=a.toks+([]:List (Str×Value)).length) I3 f3 ex3 SR kp;have EI:tn 0 B:=T.keep _ _ _ R λb _ o e=>kp b o (k3 b o e);obtain⟨W,⟨m0,w0⟩,turn⟩:=h a.heap.objs.size hfr;let L:=nv X scope N' fp pins {a with heap:=h3,toks:=a.toks} (upd D a.heap.objs.size (.lst []));have v:∀{ME:List (Addr×Obj)} {j:Hp},(∀p∈ME,p.1∉fp)->(∀b∈fp,j b=none)->∀b∈fp,Eu L ME j b:=λ{ME j} hpn hn b f=>by
  obtain⟨o,e⟩:=ex3 b f;refine⟨hn b f,bH (Heap.lt_size e),λz=>?_,.inl f,λx c hx=>(f3 b f).2.2.2.2.1 x c (nk _ _ (S.clos I2.ok) (λz=>by simp at z) hx),λp hp=>?_⟩
  ·rcases bu.mp (I2.FZ b z) with q|q
   ·exact (Y b f).2.1 q
   ·exact (Y b f).2.2.1 q
  ·rcases aU.mp hp with q|q
   ·exact (Y b f).2.2.2.2.2 p q
   ·exact λz=>hpn p q (z▸f)
 have F:codeAny (model X.prog X.w) X.A (.compLoop (.ListComp V [⟨tg,I,U,0⟩] scope Z) 0 (.ref it) (.ref a.heap.objs.size) L.env) (RR (.ref a.heap.objs.size) h3.objs.size) {a with heap:=B,toks:=a.toks+([]:List (Str×Value)).length}:=by
  refine Ww (λn s'=>∃i j,Inv L [] (kE cap σ) j s'/\tn i s'.heap/\(∀b∈fp,j b=none)/\W i n j) ?_ m0 ⟨0,_,I4,EI,λb f=>(f3 b f).1,w0⟩;rintro n s5 ⟨i,H5,I5,LH,fr5,w5⟩;rcases turn i n H5 w5 with ⟨stop,qn⟩|⟨go,step⟩
  ·refine wpAny_mono (T.done L rfl rfl rfl hc i [] s5 (kE cap σ) H5 (λ_ _=>False) I5 (v (λ_ z=>cy z (-_)) fr5) LH stop) (λr s6 ⟨hr,I6⟩=>?_) λ_ _ z=>z
   subst hr;refine hRR _ s6 H5 ?_ (λN sb=>S.back I2 Y (s3:={a with heap:=h3,toks:=a.toks}) e3 k3 rfl rfl I6 sb) qn I6.free (by rw[e3];exact yD _);obtain⟨m,hn,_⟩:=I6.loc;exact⟨m,hn⟩
  ·refine wpAny_mono (T.item L rfl rfl rfl hc i [] s5 (kE cap σ) H5 (λ_ _=>False) I5 (v (λ_ z=>cy z (-_)) fr5) LH go) (λr s6 ⟨u,hr,h6⟩=>?_) λ_ _ z=>z
   subst hr;refine wpAny_mono h6 (λ_ s7 ⟨x,H7,I7,r7,y7,Qg,fr7⟩=>?_) λ_ _ z=>z;have I7':=I7.pinned (v (λ_ z=>cy z (-_)) fr7) (T.obj _ _ Qg);have again:∀{t:St} {O:Hp} {M:Shared},Inv L ([]++Ji fp s7.heap) t O M->(∃l,l<n/\W (i+1) l O)->∃m,m<n/\∃i j,Inv L [] (kE cap σ) j M/\tn i M.heap/\(∀b∈fp,j b=none)/\W i m j:=λ{t O M} I8 n8=>by
    obtain⟨l,hm,w8⟩:=n8;have pn:∀b∈fp,∃o,s7.heap.get? b=some o/\M.heap.get? b=some o/\O b=none:=λb f=>by
     obtain⟨o,e,d⟩:=T.obj _ _ Qg b f;have q:=I8.pin (b,o) (bP _ (bP _ (Df f e)));exact⟨o,e,q.1,q.2.1⟩
    refine⟨l,hm,i+1,O,S.again I3 f3 I8.Ew,T.keep _ _ _ Qg λb f o e=>?_,λb f=>?_,w8⟩
    ·obtain⟨o',e',q,_⟩:=pn b f
     rw[e] at e';cases e';exact q
    ·obtain⟨_,_,_,q⟩:=pn b f
     exact q
   refine wpAny_mono (hg fp pins _ _ _ s7 (kE cap σ) H7 x u _ I7' r7 (step x H7 y7)) (λ_ M ⟨t,O,I8,q8⟩=>?_) λ_ _ z=>z;refine wpAny_mono (hts fp pins _ _ _ M t O _ I8 q8) (λb s9 ⟨H9,I9,q9⟩=>?_) λ_ _ z=>z;cases b with
   |false=>exact again I9 q9
   |true =>
    refine wpAny_mono (he fp pins _ _ _ s9 t H9 _ I9 q9) (λu FQ ⟨y,Dk,I10,r10,xs,hx,hl,q10⟩=>?_) λ_ _ z=>z;refine wpAny_mono (fR (X:=L) _ FQ t Dk (.ref a.heap.objs.size) [y] (.ref a.heap.objs.size) [u] (λ_ j=>∃l,l<n/\W (i+1) l j) I10 rfl (.cons r10 .nil) ⟨_,xs,y,rfl,rfl,hx,hl,q10⟩) (λ_ s11 ⟨_,Yh,I11,_,q11⟩=>again I11 q11) λ_ _ z=>z
 exact codeAny_compStart_list F (T.self _ 0 _ _ _ EI F)
theorem gO{c f a:Expr}{b:List Expr}{d:Pos}{n:TI}{g:TG}{o:TT}{p:TE}(S:kG X scope N' cap)(O:X.calm=true)(D:PI X f a n)(L:∀fp pins s H,PG (nv X scope N' fp pins s H) f g)
 (i:∀fp pins s H,kh (nv X scope N' fp pins s H) b o) (E:∀fp pins s H,PE (nv X scope N' fp pins s H) c p) (hs:∀x,foldedSetIterable a X.env x=pure x:=by intro _;rfl) :
 PE X (.ListComp c [⟨f,a,b,0⟩] scope d) (adl n cap g o p):=by
 intro pins s σ H Q I h;rw[eval_ListComp];refine wpAny_comprehension_free (use:=none) rfl hs (CF (S.clos I.ok)) S.kind S.loc (ia (D pins s σ H _ I h) λv V K=>ia K λr y F=>?_);obtain⟨W,fp,R,J,U,e,G,T,k,M,B⟩:=F;subst e;refine Ju (RR:=λj C=>compPost (model X.prog X.w) X.A X.xe none (EP X pins σ Q) j C) S O L i E G T k M B ?_;intro C P q ⟨m,N⟩ t u _ _;exact⟨m,N,λl z=>⟨.ref y.heap.objs.size,q,t l z,rfl,u⟩⟩
theorem tQ{k B d:Expr}{j:List Expr}{r:Pos}{Y:TI}{g:TG}{tc:TT}{Z:TE}{i:Nat}{x:Str}{f n:Pos}(hN:X.N.Nodup)(W:X.N[i]?=some x)(hx:Loc X.env.scope x)(S:kG X scope N' cap)(hc:X.calm=true)
 (hi:PI X B d Y) (hg:∀fp pins s H,PG (nv X scope N' fp pins s H) B g)
 (P:∀fp pins s H,kh (nv X scope N' fp pins s H) j tc) (he:∀fp pins s H,PE (nv X scope N' fp pins s H) k Z) (hs:∀x,foldedSetIterable d X.env x=pure x:=by intro _;rfl)
 (R:swapsWith (.ListComp k [⟨B,d,j,0⟩] scope r) (some (.Name x f)) n.line X.env=pure true:=by rfl) (hf:X.fn x=true∨X.env.scope.names.lookup x=some .local:=by first|exact .inl rfl|exact .inr rfl|assumption) :
 PS X (.Assign [.Name x f] (.ListComp k [⟨B,d,j,0⟩] scope r) n) (abb (adl Y cap g tc Z) (iO i)):=by
 intro pins s σ H D I h;rw[exec_Assign_Name_used _ _ _ _ R];refine wpAny_bind (wpAny_standAt (wpAny_bind ?_));show wpAny _ X.A (do let _ <- comprehension (.ListComp k [⟨B,d,j,0⟩] scope r) scope X.env _ (newList []) false (eval d X.env) (some (assign (.Name x f) X.env))) _ _ s;refine wpAny_bind (wpAny_mono (wpAny_comprehension_free (use:=some (assign (.Name x f) X.env)) (Q:=λ_ l=>SP X pins D .next l) rfl hs (CF (S.clos I.ok)) S.kind S.loc
  (ia (hi pins s σ H _ I h) λv s1 h1=>ia h1 λitv U h2=>?_)) (λ_ l F=>wpAny_pure (wpAny_pure F)) λ_ _ e=>e)
 obtain⟨it,fp,tn,J,H2,e,t,T,L,f2,hW⟩:=h2;subst e;refine Ju (RR:=λV C=>compPost (model X.prog X.w) X.A X.xe (some (assign (.Name x f) X.env)) (λ_ l=>SP X pins D .next l) V C) (Q:=λx H1=>iO i x σ H1 D.nx) S hc hg P he t T L f2 hW ?_;intro C l H' ⟨m,hn⟩ hI F hC E;have I':Inv X pins σ H' l:=hI l.heap (.refl ..);show wpAny _ _ (assign (.Name x f) X.env (.ref U.heap.objs.size)) _ _ l;refine wpAny_assign_Name (MF (v:=.ref U.heap.objs.size) I' hN W hx rfl (λs6 I6 ⟨a,sb,ha⟩=>?_) hf);have u:∀b,b<U.heap.objs.size->b≠C:=λb G=>bH (Nat.lt_trans G E);have O:a≠C:=by
  rcases ha with z|z
  ·rw[z];exact u _ t.lt
  ·obtain⟨_,q⟩:=t.cell x a z
   exact u _ q.lt
 refine⟨m,hn.sameBut sb (bO O),λh' K=>⟨_,H',I6.turned (t':=s6.toks) (λb o G e=>(K.2 b G).trans e) hC (bO (u _ t.lt)) (.inr (aN t.sz (gI E))) (λy c M=>?_) (λp hp=>?_),F⟩⟩
 ·obtain⟨_,q⟩:=t.cell y c M
  exact u _ q.lt
 ·exact u _ (Heap.lt_size (t.pin p hp).1)
end
section
variable{X:Cx}
def Ite(K:ah)(a:Addr):It :=
 ⟨λi H=>∃xs x,bN K H a xs/\xs[i]?=some x,λi H x H'=>∃p v,H p=none/\x=.ref p/\H'=upd H p (.tup [.int (i:Nat),v])/\∀xs,bN K H a xs->xs[i]?=some v,λi H=>∃xs,bN K H a xs/\xs.length<=i⟩
theorem Wx{P:Program}{w:World}{K:ah}{G:List Expr}{x1}{M:Pos}(a e f:Addr)(F:e≠f) :
 Turn P w K (.Tuple G x1 M) (Ite K a) [e,f] e (λi h=>∃old,IsEnum h e f (i:Nat) old/\h.IsListIter f a i) where
 mem:=-_
 obj:=λi h ⟨old,st,t⟩ b hb=>by
  rcases bu.mp hb with z|hb
  ·subst z
   exact⟨_,st,λv z=>by
    have z':Data.fields _=Data.cell v:=z;cases z'⟩
  ·have z:b=f:=by simpa using hb
   subst z;obtain⟨o,e,c,d⟩:=t;exact⟨o,e,λv z=>by rw[d] at z;cases z⟩
 keep:=λi h h' ⟨old,st,t⟩ k=>⟨old,k e (-_) _ st,t.at λo q=>k f (-_) o q⟩
 item:=by
  intro X W S hK g i y s σ H E I l ⟨old,st,t⟩ hg;subst W S hK;obtain⟨U,x,J,O⟩:=hg;obtain⟨its,Q,p,hz⟩:=I.list J;obtain⟨u,hu,ru⟩:=Q.get O;refine wpAny_pyNext_enum_item st t p.isList (x:=u) (by simpa using hu) F λh' eo li' tu sz kp=>?_;refine⟨_,rfl,wpAny_letOwnedTupleGo_enum eo λC e2 A=>?_⟩;have j:H s.heap.objs.size=none:=I.hok.fresh (az _);have nE:∀b o,H b=some o->b≠e:=λb o q z=>by rw[z,(l e (-_)).1] at q;cases q
  have nI:∀b o,H b=some o->b≠f:=λb o q z=>by rw[z,(l f (-_)).1] at q;cases q
  have D:∀b o,b≠e->b≠f->s.heap.get? b=some o->C.get? b=some o:=λb o h1 h3 q=>(A.2 b h1).trans (kp b o h1 h3 q);have V:e<s.heap.objs.size:=Heap.lt_size st;have tu2:C.get? s.heap.objs.size=some {cls:=.type "tuple",data:=.seq #[.int (i:Nat) s.toks,u]}:=(A.2 _ (Nat.ne_of_gt V)).trans tu;have Z:C.IsListIter f a (i+1):=li'.at λo q=>(A.2 f (bO F)).trans q;have B:∀b,b∉[e,f]->b≠e/\b≠f:=λb hb=>⟨λz=>hb (by simp[z]),λz=>hb (by simp[z])⟩;have T:∀b∈[e,f],upd H s.heap.objs.size (.tup [.int (i:Nat),x]) b=none:=λb hb=>by
   obtain⟨o,q,_⟩:∃o,s.heap.get? b=some o/\True:=by
    rcases bu.mp hb with z|hb
    ·subst z;exact⟨_,st,trivial⟩
    ·have z:b=f:=by simpa using hb
     subst z;obtain⟨o,q,_⟩:=t;exact⟨o,q,trivial⟩
   rw[aO (bH (Heap.lt_size q))];exact (l b hb).1
  have I1:Inv X y σ (upd H s.heap.objs.size (.tup [.int (i:Nat),x])) {s with heap:=C,toks:=s.toks+1}:=by
   refine I.step (g':=s.gens) (d':=s.drawn) (ch:=[e,f]) (λb hb=>?_) (λb o _ _ g q _=>D b o (B b g).1 (B b g).2 q) (λb o _ _ g q _=>⟨o.slots,D b o (B b g).1 (B b g).2 q⟩)
    (λb o _ q n=>by rw[aO (bH (Heap.lt_size q))];exact n) (λb o g q=>⟨o,D b o (B b g).1 (B b g).2 q⟩) (λb U q=>by rw[aO (aQ q j)];exact q) (λb o u q=>by rw[aO (aQ q j)];exact q)
    (λb ps q=>⟨#[],by rw[aO (aQ q j),q];simp⟩) (λm hm=>?_) (λb o q=>?_) I.bare
   ·obtain⟨_,L,_,f3,N,R⟩:=l b hb
    exact⟨f3,L,N,R⟩
   ·obtain⟨o,es,ep,ho,r⟩:=hm
    exact⟨o,es,ep,D _ o (bO (l e (-_)).2.1) (bO (l f (-_)).2.1) ho,r⟩
   ·by_cases hb:b=s.heap.objs.size
    ·subst hb
     rw[ay] at q;cases q;exact⟨by show 2<=sizeLine;decide,[.int (i:Nat) s.toks,u],.cons ⟨_,rfl⟩ (.cons ru .nil),⟨_,tu2,rfl,_,rfl⟩⟩
    ·rw[aO hb] at q
     refine (I.hok b o q).stay (λc v g r=>D c v ?_ ?_ r) (λc r=>by rw[aO (aQ r j)];exact r) λc U r=>by rw[aO (aQ r j)];exact r
     ·rcases g with z|z
      ·rw[z];exact nE b o q
      ·exact nE c _ z
     ·rcases g with z|z
      ·rw[z];exact nI b o q
      ·exact nI c _ z
  refine⟨.ref s.heap.objs.size,_,I1,rfl,⟨_,x,j,rfl,rfl,λys hy=>by rw[I.P0 hy J];exact O⟩,⟨u,?_,Z⟩,T⟩;have Y:IsEnum C e f ((i:Int)+1) u:=e2;show IsEnum C e f (((i+1:Nat):Int)) u;rw[Int.natCast_add];exact Y
 done:=by
  intro X W S hK g i y s σ H E I l ⟨old,st,t⟩ hg;subst W S hK;obtain⟨U,J,O⟩:=hg;obtain⟨its,Q,p,hz⟩:=I.list J;obtain⟨f0,L,f2,f3,N,R⟩:=l f (-_);have hl:=Q.length;exact wpAny_pyNext_enum_end (I.ok.hd g) st t p.isList (by simp;lia) λh' eb=>⟨rfl,I.turned (t':=s.toks) (λb o hb q=>eb b o hb q) f0 L f3 N R⟩
 self:=λ_ _ _ _ _ ⟨_,st,_⟩ h=>wpAny_pyIter_enum st h
def ahK(K:ah)(ta:TA):TI:=λσ H R=>ta σ H λvs H1=>∃a xs,vs=[.ref a]/\bN K H1 a xs/\R (Ite K a) H1
theorem UX{l:Expr}{t:TA}{p f:Pos}{g:List Expr}{x1}{i:Pos}(J:Gl X "enumerate")(D:X.mg "enumerate" = none)(y:PA X [l] t)(hs:starEach [l] X.env=[(false,eval l X.env)]:=by rfl) :
 PI X (.Tuple g x1 i) (.Call (.Name "enumerate" p) [l] [] f) (ahK X.K t):=by
 intro c s m H R I h;refine Call_ (Jg I J D boot_enumerate (PyProof.Rows.callWith_type1 (ia (y f c s m H _ I h) λN d ⟨P,k,j,C,B⟩=>?_) hs rfl));obtain⟨a,L,e,x,q⟩:=B;subst e;cases C with
 |cons r G =>
  cases G;cases r;obtain⟨w,Q,v,M⟩:=j.list x;refine call_enumerate_list v.isList λA n u O F=>wpAny_pyIter_enum n ?_;have E:Inv X c m k {d with heap:=A,toks:=d.toks}:=j.kept F;have o:∀b,d.heap.objs.size<=b->Eu X c k b:=λb hb=>j.abc hb (j.hok.fresh hb);refine⟨d.heap.objs.size+1,[d.heap.objs.size+1,d.heap.objs.size],_,_,k,rfl,E,Wx a _ _ (Nat.succ_ne_self _),⟨.none,n,u⟩,λb hb=>?_,q⟩;rcases bu.mp hb with z|hb
  ·subst z;exact o _ ∅
  ·have z:b=d.heap.objs.size:=by simpa using hb
   subst z;exact o _ ∅
end
theorem aG.cz{K:ah}(e:aG H H')(h:cX K H a xs):cX K H' a xs:=by
 rcases h with (h|⟨o,h⟩)|h
 ·exact .inl (.inl (e _ _ h))
 ·exact .inl (.inr ⟨o,e _ _ h⟩)
 ·exact .inr h
theorem aG.new{H:Hp}(h:H p=none):aG H (upd H p o):=λb u e=>by rw[aO (aQ e h)];exact e
theorem aG.out(s:aG H0 H)(h:H0 p=none):aG H0 (upd H p o):=λb u e=>by rw[aO (aQ e h)];exact s b u e
mutual
def Rep(K:ah)(H:Hp):PyData->V->Prop
 |.none,v=>v=.f9
 |.bool b,v=>v=.bl b
 |.int i,v=>v=.int i
 |.str x,v=>v=.str x
 |.list ds,v=>∃a vs,v=.ref a/\bN K H a vs/\dO K H ds vs
 |.tuple ds,v=>∃a vs,v=.ref a/\cX K H a vs/\dO K H ds vs
 |.dict _,_=>False
def dO(K:ah)(H:Hp):List PyData->List V->Prop
 |[],vs=>vs=[]
 |d::ds,vs=>∃v r,vs=v::r/\Rep K H d v/\dO K H ds r
end
section
variable{K:ah}{H H':Hp}
mutual
theorem Rep.mono(s:aG H H'):∀{d:PyData} {v:V},Rep K H d v->Rep K H' d v
 |.none,_,h=>h
 |.bool _,_,h=>h
 |.int _,_,h=>h
 |.str _,_,h=>h
 |.list ds,_,⟨a,vs,e,q,r⟩=>⟨a,vs,e,s.seq q,dO.mono s r⟩
 |.tuple ds,_,⟨a,vs,e,q,r⟩=>⟨a,vs,e,s.cz q,dO.mono s r⟩
 |.dict _,_,h=>h
theorem dO.mono(s:aG H H'):∀{ds:List PyData} {vs:List V},dO K H ds vs->dO K H' ds vs
 |[],_,h=>h
 |_::_,_,⟨v,r,e,q,t⟩=>⟨v,r,e,q.mono s,dO.mono s t⟩
end
theorem dO.length:∀{ds:List PyData} {vs:List V},dO K H ds vs->vs.length=ds.length
 |[],_,h=>by rw[h];rfl
 |_::_,_,⟨v,r,e,_,t⟩=>by rw[e,aV,aV,dO.length t]
theorem dO.get:∀{ds:List PyData} {vs:List V} {i:Nat} {d:PyData},dO K H ds vs->ds[i]?=some d->∃v,vs[i]?=some v/\Rep K H d v
 |[],_,_,_,_,e=>by simp at e
 |x::ds,_,0,d,⟨v,r,e,q,t⟩,h=>by
  subst e;have z:x=d:=by simpa using h
  subst z;exact⟨v,rfl,q⟩
 |_::ds,_,i+1,d,⟨v,r,e,q,t⟩,h=>by
  subst e;obtain⟨y,b,a⟩:=dO.get (i:=i) (d:=d) t (by simpa using h);exact⟨y,by simpa using b,a⟩
theorem iw:∀ns:List Int,dO K H (ns.map PyData.int) (ns.map V.int)
 |[]=>rfl
 |n::ns=>⟨.int n,_,rfl,rfl,iw ns⟩
theorem AA:∀{ns:List Int} {vs:List V},dO K H (ns.map PyData.int) vs->vs=ns.map V.int
 |[],_,h=>h
 |n::ns,_,⟨v,r,e,q,t⟩=>by
  have q':v=.int n:=q;rw[e,q',AA t];rfl
theorem Rep.MR{ns:List Int}(h:cX K H a (ns.map V.int)):Rep K H (.tuple (ns.map .int)) (.ref a):=⟨a,_,rfl,h,iw ns⟩
theorem Rep.AB{ns:List Int}(h:Rep K H (.tuple (ns.map .int)) v):∃a,v=.ref a/\cX K H a (ns.map V.int):=by
 obtain⟨a,b,e,q,r⟩:=h;rw[AA r] at q;exact⟨a,e,q⟩
end
section
variable{X:Cx}{pins:List (Addr×Obj)}{σ:St}{H:Hp}{s:Shared}
mutual
theorem Rep.reads(I:Inv X pins σ H s):∀{d:PyData} {v:V} {u:Value},Rep X.K H d v->RelV v u->∃j,Reads s.heap u d j
 |.none,_,_,h,r=>by cases h;cases r;exact⟨_,.none⟩
 |.bool b,_,_,h,r=>by cases h;cases r;exact⟨_,.bool b⟩
 |.int i,_,_,h,r=>by cases h;obtain⟨t,rfl⟩:=r;exact⟨_,.int i t⟩
 |.str x,_,_,h,r=>by cases h;obtain⟨t,rfl⟩:=r;exact⟨_,.str x t⟩
 |.list w,_,_,⟨a,p,e,q,t⟩,r=>by
  subst e;cases r;obtain⟨c,l,⟨o,n,k,f,y,g⟩,_⟩:=I.list q;obtain⟨j,m⟩:=dO.reads I t l;exact⟨_,.list k f g (by simpa using m)⟩
 |.tuple w,_,_,⟨a,p,e,q,t⟩,r=>by
  subst e;cases r;obtain⟨c,l,⟨o,k,f,n,g⟩,_⟩:=I.tuple q;obtain⟨j,m⟩:=dO.reads I t l;exact⟨_,.tuple k f g (by simpa using m)⟩
 |.dict _,_,_,h,_=>h.elim
theorem dO.reads(I:Inv X pins σ H s):∀{ds:List PyData} {vs:List V} {us:List Value},dO X.K H ds vs->cF vs us->∃a,ReadsAll s.heap us ds a
 |[],_,_,h,r=>by cases h;cases r;exact⟨_,.nil⟩
 |_::_,_,_,⟨v,i,e,q,t⟩,r=>by
  subst e;cases r with
  |cons d b =>
   obtain⟨a,f⟩:=q.reads I d;obtain⟨g,c⟩:=dO.reads I t b;exact⟨_,.cons f c⟩
end
end
section
variable{X:Cx}
def alD(K:ah)(u:Nat):R2:=λx y H Q=>∃da db,Rep K H da x/\Rep K H db y/\da.canLay0=true/\db.canLay0=true/\u+min da.depth db.depth<cLine/\Q (.bl (PyData.eqv da db)) H
def alE(K:ah)(u:Nat):R2:=λx y H Q=>∃da db,Rep K H da x/\Rep K H db y/\da.canLay0=true/\db.canLay0=true/\u+min da.depth db.depth<cLine/\Q (.bl (!PyData.eqv da db)) H
theorem wz:yH X (compareOp .Eq) (alD X.K X.A.units):=by
 intro a s k H x y v u Q I d c ⟨o,n,e,j,h,g,b,q⟩;obtain⟨m,i⟩:=e.reads I d;obtain⟨l,f⟩:=j.reads I c;exact SeqAt.compareEq_reads i f h g b ⟨.bl _,H,I,rfl,q⟩
theorem Gf:yH X (compareOp .NotEq) (alE X.K X.A.units):=by
 intro a s k H x y v u Q I d c ⟨o,n,e,j,h,g,b,q⟩;obtain⟨m,i⟩:=e.reads I d;obtain⟨l,f⟩:=j.reads I c;exact SeqAt.compareNe_reads i f h g b ⟨.bl _,H,I,rfl,q⟩
theorem Jv:nN X (.builtin "isinstance") (λxs H Q=>∃x n t b,xs=[x,.ty n]/\Gc X.K H x t/\PySem.W.kitOne X.K t (.type n)=some b/\Q (.bl b) H):=by
 intro c s g H xs i Q I r ⟨x,n,t,b,e,ty,k,q⟩;subst e;obtain⟨u,h,e,d,a⟩:=cF.two r;subst e;cases a;exact Wm I d ty k λf=>⟨.bl _,H,I.tok f,rfl,q⟩
theorem Wz(v:X.calm=true):nN X (.type "set") (λxs H Q=>∃(a:Addr) (ns:List Int),xs=[.ref a]/\bN X.K H a (ns.map V.int)/\ns.length+1<scanBound /\
 ∀p,H p=none->Q (.ref p) (upd H p (.set (λf=>(firstMet (λi=>ns.getD i 0) ns.length).any (·==f)) (firstMet (λi=>ns.getD i 0) ns.length).length))):=by
 intro k s w H xs A Q I r ⟨a,ns,e,m,t,q⟩;subst e;obtain⟨u,e,l⟩:=cF.one r;subst e;cases l;obtain⟨d,j,p,z⟩:=I.list m;have h:=j.length;rw[af] at h;have c:d.toArray.size=ns.length:=by simp[h]
 refine call_set_list (I.ok.hd v) p.isList (ns:=ns) (by simpa using intsAre_of j) (by rw[c];exact t) λy x g n=>?_;rw[c] at g;exact⟨.ref s.heap.objs.size,_,I.laid (o:=.set (λf=>(firstMet (λi=>ns.getD i 0) ns.length).any (·==f)) (firstMet (λi=>ns.getD i 0) ns.length).length) (λb o e=>n b o (Heap.lt_size e) e) (az _) g,rfl,q _ (I.hok.fresh (az _))⟩
theorem WA:nN X (.builtin "len") (λxs H Q=>∃(a:Addr) (S:Int->Bool) (n:Nat),xs=[.ref a]/\H a=some (.set S n)/\Q (.int n) H):=by
 intro b s m H xs x Q I r ⟨a,S,n,e,f,q⟩;subst e;obtain⟨u,e,c⟩:=cF.one r;subst e;cases c;obtain⟨o,h,y,t,l,k,i,v,p,j,g,d⟩:=(show s.heap.SetOf (intKind X.prog X.w) a S n from I.hok a _ f);subst d;refine call_len_set l k i g ?_ ⟨.int _,H,I.tok _,⟨_,rfl⟩,q⟩
 have:h.size<2^62:=bU j (!_)
 lia
theorem WB(C:X.calm=true):nN X (.builtin "min") (λxs H Q=>∃(a:Addr) (ns:List Int),xs=[.ref a]/\bN X.K H a (ns.map V.int)/\0<ns.length/\∀m,m∈ns->(∀n∈ns,m<=n)->Q (.int m) H):=by
 intro l s D H xs L Q I r ⟨a,ns,e,x,c,q⟩;subst e;obtain⟨u,e,o⟩:=cF.one r;subst e;cases o;obtain⟨d,B,p,G⟩:=I.list x;have k:IntsAre d ns:=intsAre_of B;have h:=p.isList;obtain⟨xs,e⟩:=k.allInts.items;have b:ns=xs.toList.map (·.1):=by
  rw[<- k.numsOf,<- nums_intItems,<- e]
 have f:0<xs.size:=by
  have i:=c;rw[b,af,g9] at i;exact i
 rw[e] at h;refine min_intList (I.ok.hd C) h f λv F E w y=>?_;obtain⟨t,rfl⟩:=intItems_at w;obtain⟨J,z⟩:=argBest_lt (numAt xs) (xs.size-1);refine⟨.int _,H,I.kept y,⟨t,rfl⟩,q _ ?_ λa g=>?_⟩
 ·rw[b,numAt_eq];exact getD_mem (by rw[af,g9];lia)
 ·rw[b] at g
  obtain⟨j,A,rfl⟩:=mem_getD g;rw[af,g9] at A;rw[<- numAt_eq];exact z j ∅
end
def Ou(scope dsc:Scope)(N0 N2:List Str)(cap:List (Option Nat)):Bool :=
 (scope.kind==.function)&&(scope.names.all λy=>y.2 != .cell)&&(scope.names.all λy=>y.2 != .local || scope.names.lookup y.1==some .local) &&
 (scope.names.all λy=>y.2 != .free || dsc.names.lookup y.1==some .cell)&&(scope.names.all λy=>y.2 != .free || scope.names.lookup y.1==some .free)&&decide N2.Nodup&&(cap.length==N2.length) &&
 ((av cap.length).all λi=>match cap[i]?,N2[i]? with
   |some (some j),some x=>N0[j]?==some x&&scope.names.any (λy=>y.1==x&&y.2==.free)
   |_,_=>true)
theorem WC{X:Cx}{b:Scope}{m:List Str}(w:X.env.scope=b)(n:X.N=m)(h:Ou scope b m N2 cap=true):kG X scope N2 cap:=by
 unfold Ou at h;simp only[dj] at h;obtain⟨⟨⟨⟨⟨⟨⟨t,k⟩,g⟩,c⟩,d⟩,p⟩,v⟩,f⟩:=h;rw[yF] at k g c d f;refine⟨by simpa using t,λy a e=>?_,λy a e=>?_,λy a e=>?_,λy a e=>?_,gh p,by simpa using v,λi j x l s=>?_⟩
 ·have:=k y a;rw[e] at this;exact cy this (!_)
 ·have:=g y a;rw[e] at this;simpa using this
 ·have:=c y a
  rw[e] at this;show X.env.scope.names.lookup y.1=some .cell;rw[w]
  simpa using this
 ·have:=d y a;rw[e] at this;simpa using this
 ·have r:i<cap.length:=(ai.mp l).1
  have q:=f i (bB.mpr r);rw[l,s] at q;simp only[dj] at q;refine⟨by rw[n];simpa using q.1,?_⟩;obtain⟨y,a,z⟩:=lW.mp q.2;simp only[dj] at z;have o:y.1=x:=by simpa using z.1
  have u:y.2=.free:=by simpa using z.2
  rw[<- o,<- u];exact a
def CW(H1:Hp)(acc:Addr)(n:Nat)(P:Nat->List V->Hp->Prop):Nat->Nat->Hp->Prop :=
 λi m H=>m=n-i/\i<=n/\aG H1 H/\∃ys,H acc=some (.lst ys)/\P i ys H
theorem gf{J:It}{n:Nat}{o:List (Option Nat)}{g:TG}{z:TT}{B:TE}{v:St}{A:Hp->Prop}{f:Hp}{a:Addr}(P:Nat->List V->Hp->Prop)(r:f a=none)
 (go:∀i H,i<n->aG f H->J.go i H) (stop:∀H,aG f H->J.stop n H) (C:P 0 [] (upd f a (.lst [])))
 (step:∀i h H,i<n->aG f H->H a=some (.lst h)->P i h H->∀x j,J.P1 i H x j->g x (kE o v) j λc u=>z c u λb l=>if b=true then B c l λy k=>∃xs,k a=some (.lst xs)/\xs.length<sizeLine /\
  ∃d,d<n-i/\CW f a n P (i+1) d (upd k a (.lst (xs++[y]))) else ∃d,d<n-i/\CW f a n P (i+1) d l)
 (t:∀h H,aG f H->H a=some (.lst h)->P n h H->A H) :
 ∃W:Nat->Nat->Hp->Prop,(∃m,W 0 m (upd f a (.lst [])))/\∀i m H,W i m H ->
  (J.stop i H/\A H)∨(J.go i H/\∀x j,J.P1 i H x j->g x (kE o v) j λc u=>z c u λb l=>if b=true then B c l λy k=>∃xs,k a=some (.lst xs)/\xs.length<sizeLine /\
   ∃d,d<m/\W (i+1) d (upd k a (.lst (xs++[y]))) else ∃d,d<m/\W (i+1) d l):=by
 refine⟨CW f a n P,⟨n,rfl,aX _,aG.new r,[],ay,C⟩,?_⟩;rintro i m H ⟨rfl,D,s,h,w,p⟩;by_cases q:i<n
 ·exact .inr ⟨go i H q s,step i h H q s w p⟩
 ·have e:i=n:=∅
  subst e;exact .inl ⟨stop H s,t h H s w p⟩
theorem dY{e d:Hp}{a:Addr}{n i:Nat}{P:Nat->List V->Hp->Prop}{c:List V}{y:V}(b:e a=none)(g:i<n)(s:aG e d)(h:d a=some (.lst c))(hl:c.length<sizeLine)(p:P (i+1) (c++[y]) (upd d a (.lst (c++[y])))) :
 ∃xs,d a=some (.lst xs)/\xs.length<sizeLine/\∃f,f<n-i/\CW e a n P (i+1) f (upd d a (.lst (xs++[y]))) :=
 ⟨c,h,hl,n-(i+1),∅,rfl,g,s.out b,_,ay,p⟩
theorem gp{n i:Nat}{P:Nat->List V->Hp->Prop}(b:i<n)(s:aG H1 H3)(c:H3 acc=some (.lst ys))(p:P (i+1) ys H3):∃a,a<n-i/\CW H1 acc n P (i+1) a H3 :=
 ⟨n-(i+1),∅,rfl,b,s,_,c,p⟩
theorem wA{K:ah}(h:bN K H1 a xs):∀i H,i<xs.length->aG H1 H->(Oe K a).go i H:=λi H b s=>⟨xs,xs[i],s.seq h,by simp[b]⟩
theorem lY{K:ah}(h:bN K H1 a xs):∀H,aG H1 H->(Oe K a).stop xs.length H:=λH s=>⟨xs,s.seq h,az _⟩
theorem Zi{K:ah}(h:bN K H1 a xs):∀i H,i<xs.length->aG H1 H->(Ite K a).go i H:=λi H b s=>⟨xs,xs[i],s.seq h,by simp[b]⟩
theorem Qh{K:ah}(h:bN K H1 a xs):∀H,aG H1 H->(Ite K a).stop xs.length H:=λH s=>⟨xs,s.seq h,az _⟩
theorem AD{lo:Int}:∀i H,i<n->aG H1 H->(YD lo n).go i H:=λi H a s=>a
theorem qR{lo:Int}:∀H,aG H1 H->(YD lo n).stop n H:=λH s=>az n
def hide(H:Hp)(l:Addr):Hp:=λb=>if b=l then none else H b
theorem aeY{a:Type}{xs:List a}{i:Int}{v:a}(b:0<=i)(h:xs[i.toNat]?=some v):Aw xs i=some v:=by
 obtain⟨k,rfl⟩:=Int.eq_ofNat_of_zero_le b;exact c5 (by simpa using h)
theorem Qi{ns:List Int}{i:Int}(b:0<=i)(h:i<ns.length):Aw (ns.map V.int) i=some (.int (ns.getD i.toNat 0)):=by
 have a:i.toNat<ns.length:=∅
 refine aeY b ?_;rw[ak,ao,aa a];rfl
section
variable{X:Cx}
theorem Zj(K:ah)(h:X.K=K):IxR X (SK K):=by subst h;exact UR
theorem abp(K:ah)(h:X.K=K):IxR X (Wp K):=by subst h;exact Y4
theorem abq(K:ah)(h:X.K=K):SlR X (ahy K):=by subst h;exact Jp
theorem tR(K:ah)(h:X.K=K):yH X (compareOp .In) (rIn K false):=by subst h;exact pY
theorem IP(K:ah)(h:X.K=K)(b:PE X e ta)(a:attributeBase e f X.env (eval e X.env)=eval e X.env):PE X (.Attribute e f pos) (Jm K ta f):=by subst h;exact bq b a
theorem UY(K:ah)(h:X.K=K){a:List Expr}{k:Nat}{c:Pos}{t:Bc}{n:Nat}(e:X.calm=true)(h':kg X a t)(d:(assignEach a X.env).length=n:=by rfl)
 (b:(assignEach a X.env).findIdx? (·.1)=none:=by rfl):PG X (.Tuple a k c) (aey K n t):=by subst h;exact Sq e h' d b
theorem WD:nN X (.builtin "isinstance") (λxs H Q=>∃(a:Addr) (d:List V) (n:String) (b:Bool),xs=[.ref a,.ty n]/\cX X.K H a d/\PySem.W.kitOne X.K (.type "tuple") (.type n)=some b/\Q (.bl b) H):=by
 intro f s p H xs v Q I r ⟨a,d,n,b,e,j,k,q⟩;subst e;obtain⟨u,t,e,g,c⟩:=cF.two r;subst e;cases c;cases g;obtain⟨i,w,⟨o,m,l,_⟩,_⟩:=I.tuple j;exact eU PySem.W.kitx_tuple I.Dd ⟨o,m,l⟩ k (λz=>nomatch z) λh=>⟨.bl _,H,I.tok h,rfl,q⟩
theorem WE:nN X (.builtin "isinstance") (λxs H Q=>∃(a:Addr) (d:List V) (n:String) (b:Bool),xs=[.ref a,.ty n]/\bN X.K H a d/\PySem.W.kitOne X.K (.type "list") (.type n)=some b/\Q (.bl b) H):=by
 intro f s p H xs w Q I r ⟨a,d,n,b,e,j,k,q⟩;subst e;obtain⟨u,t,e,g,c⟩:=cF.two r;subst e;cases c;cases g;obtain⟨i,x,⟨o,v,m,l,_⟩,_⟩:=I.list j;exact eU PySem.W.kitx_list I.Dd ⟨o,m,l⟩ k (λz=>nomatch z) λh=>⟨.bl _,H,I.tok h,rfl,q⟩
def fm:Expr->Bool
 |.Starred _ _=>false
 |_=>true
theorem Qj(h:fm e=true):starEach (e::es) env=(false,eval e env)::starEach es env:=by
 cases e <;> first|rfl|(exact Bool.noConfusion h)|simp[starEach]
theorem oi(b:PE X e te)(a:PA X es t)(hs:fm e=true:=by rfl):PA X (e::es) (iB te t):=abh b a (Qj hs)
end
theorem ahL(h:(eZ P w).is k u=true):RelV (kV k) u:=by
 rcases iu (show Je k u=true from h) with ⟨i,t,rfl,rfl⟩|⟨x,t,rfl,rfl⟩
 ·exact⟨t,rfl⟩
 ·exact⟨t,rfl⟩
section
variable{X:Cx}
theorem abr{bs:List Bool}(r:cF (bs.map V.bl) us){i:Nat}(h:us[i]?=some v):v=.bool (bs.getD i true):=by
 have c:=r.length;rw[af] at c;have d:i<us.length:=(ai.mp h).1;have e:(bs.map V.bl)[i]?=some (.bl (bs.getD i true)):=by
  rw[ak,aa ∅,ao,aa ∅];rfl
 obtain⟨u,a,b⟩:=r.get e;rw[h] at a;cases a;exact b
theorem range_all(bs:List Bool):((av bs.length).all λi=>bs.getD i true)=bs.all id:=by
 rw[kC,yF,yF];constructor
 ·intro h x b
  obtain⟨i,a,e⟩:=lK b
  have:=h i (bB.mpr a)
  rw[ao,aa a,e] at this;exact this
 ·intro h i a
  have a:=bB.mp a
  have:=h bs[i] (aH a)
  rw[ao,aa a];exact this
theorem Qk(x:X.calm=true):nN X (.builtin "all") (λxs H Q=>∃(a:Addr) (bs:List Bool),xs=[.ref a]/\bN X.K H a (bs.map V.bl)/\Q (.bl (bs.all id)) H):=by
 intro h s y H xs D Q I r ⟨a,bs,e,l,q⟩;subst e;obtain⟨u,e,j⟩:=cF.one r;subst e;cases j;obtain⟨c,g,p,C⟩:=I.list l;have f:=g.length;rw[af] at f;refine call_all_walk (wpAny_pyIter_list p.isList ?_);have d:a<s.heap.objs.size:=by obtain⟨o,n,e,_⟩:=p;exact Heap.lt_size e
 refine⟨s.heap.objs.size,_,_,_,_,_,λi=>bs.getD i true,rfl,Walks.list (A:=X.A.in1) (show X.A.in1.handled=none from I.ok.hd x) _ a (bH d) c.toArray,⟨⟨_,Heap.get?_push_size _ rfl,rfl,rfl⟩,p.isList.at λo e=>Heap.get?_push_of_some _ e⟩,?_,λB k m=>?_⟩
 ·intro i v s Q E t w
  have e:=abr g (show c[i]?=some v by simpa using t);subst e;exact wpAny_truthy_bool w
 ·have e:(av c.toArray.size).all (λi=>bs.getD i true)=bs.all id:=by
   rw[show c.toArray.size=bs.length by simp[f]];exact range_all bs
  rw[e];exact⟨.bl _,H,I.kept (t':=k) λb o e=>m b o (by
   intro z
   have:b=s.heap.objs.size:=by simpa using z
   exact cy (Heap.lt_size e) (by rw[this];exact iz _)) (Heap.get?_push_of_some _ e),rfl,q⟩
end
end L2
namespace Gr
abbrev Ps:=List (Int×Int)
def lZ(ps:Ps)(k:Nat)(x y:Int):Prop:=ps[k]?=some (x,y)∨ps[k]?=some (y,x)
theorem lZ.symm(h:lZ ps k x y):lZ ps k y x:=Or.symm h
inductive Reach(ps:Ps):Int->Int->Prop where
 |refl (x:Int):Reach ps x x
 |step {x y z:Int} {k:Nat}:Reach ps x y->lZ ps k y z->Reach ps x z
theorem Reach.trans(a:Reach ps x y)(b:Reach ps y z):Reach ps x z:=by
 induction b with
 |refl=>exact a
 |step _ h c=>exact .step c h
theorem Reach.one(h:lZ ps k x y):Reach ps x y:=.step (.refl x) h
theorem Reach.symm(a:Reach ps x y):Reach ps y x:=by
 induction a with
 |refl=>exact .refl _
 |step _ h b=>exact (Reach.one h.symm).trans b
theorem aeZ(h:lZ ps k x y):k<ps.length:=by
 rcases h with h|h <;> exact (ai.mp h).1
theorem lA{b:Type}[DecidableEq b]:∀{xs B:List b},xs.Nodup->(∀x∈xs,x∈B)->xs.length<=B.length
 |[],_,_,_=>aX _
 |x::xs,B,c,hs=>by
  have a:=hs x bE;have f:∀y∈xs,y∈B.erase x:=λy d=>by
   have g:y≠x:=λe=>(dm.mp c).1 (e▸d);exact (List.mem_erase_of_ne g).mpr (hs y (bf _ d))
  have i:=lA (dm.mp c).2 f;have h:=List.length_erase_of_mem a;have j:0<B.length:=List.length_pos_of_mem a;rw[aV];lia
theorem Dl{c:Type}{xs:List c}{x:c}(h:xs.Nodup)(d:x∉xs):(xs++[x]).Nodup:=by
 rw[g8];refine⟨h,-_,λa f b g=>?_⟩
 have:b=x:=by simpa using g
 rw[this];exact λe=>d (e▸f)
abbrev Es:=List (Int×Option (Nat×Int))
abbrev keys(es:Es):List Int:=es.map (·.1)
def ends(ps:Ps):List Int:=ps.flatMap λp=>[p.1,p.2]
structure sG(ps:Ps)(one other:Int)(fs:List Nat)(hs:List Int):Prop where
 len:hs.length=fs.length+1
 fst:hs[0]?=some one
 lst:hs[fs.length]?=some other
 nd:hs.Nodup
 st:∀(i k:Nat) (x y:Int),fs[i]?=some k->hs[i]?=some x->hs[i+1]?=some y->lZ ps k x y
structure su(ps:Ps)(n:Nat):Prop where
 h:∀(k:Nat) (a b:Int),ps[k]?=some (a,b)->0<=a/\a<n/\0<=b/\b<n/\a≠b
theorem su.lZ(r:su ps n)(a:lZ ps k x y):0<=x/\x<n/\0<=y/\y<n/\x≠y:=by
 rcases a with a|a
 ·exact r.h k x y a
 ·obtain⟨c,b,d,e,f⟩:=r.h k y x a
  exact⟨d,e,c,b,bO f⟩
theorem su.reach(r:su ps n)(a:Reach ps x y)(e:0<=x)(d:x<n):0<=y/\y<n:=by
 cases a with
 |refl=>exact⟨e,d⟩
 |step _ q=>obtain⟨_,_,b,c,_⟩:=r.lZ q;exact⟨b,c⟩
structure UZ(ps:Ps)(n:Nat)(xs:List Int):Prop where
 len:xs.length=n
 at_:∀h:Nat,h<n->∃f,xs[h]?=some f/\0<=f/\Reach ps f h/\∀m,Reach ps (h:Nat) m->f<=m
end Gr
namespace L2
open PySem Gr
def Zk(K:ah)(ta:TE):TT:=λσ H Q=>ta σ H λx H'=>∃k,aeH K x H' k/\Q k H'
theorem WG(c:PE X a ta)(d:∀b,isTrue a X.env b=(do let v <- b;standAt a.pos;holding [v] (truthy v))):PT X a (Zk X.K ta):=YR c d
end L2
namespace L2
open PySem PySem.Spec PyProof.Rows
section
variable{X:Cx}
theorem Ht:nN X (.type "range") (λxs H Q=>∃j:Int,xs=[.int j]/\∀p,H p=none->Q (.ref p) (upd H p (.Sn 0 j))):=by
 intro c s f H xs g Q I r ⟨j,e,q⟩;subst e;obtain⟨u,e,d⟩:=cF.one r;subst e;obtain⟨t,rfl⟩:=d;refine call_range_1 ⟨.ref s.heap.objs.size,_,I.laid (a:=s.heap.objs.size) (o:=.Sn 0 j) (λb o e=>Heap.get?_push_of_some _ e) (az _) ?_,rfl,q _ (I.hok.fresh (az _))⟩;exact⟨_,_,_,Heap.get?_push_size _ rfl⟩
theorem SV{a:Array Value}{n:Nat}(hl:a.size=n)(h:∀(i:Nat) (v:Value),a[i]?=some v->∃t,v=Value.int (0+(i:Int)*1) t):cF ((av n).map λk=>V.int (k:Nat)) a.toList:=by
 have c:∀(b:List Value) (m:Nat),(∀(i:Nat) (v:Value),b[i]?=some v->∃t,v=Value.int ((m+i:Nat):Int) t)->cF ((List.range' m b.length).map λk=>V.int (k:Nat)) b:=by
  intro b;induction b with
  |nil=>intro m _;exact .nil
  |cons u b f =>
   intro m d;rw[aV,List.range'_succ,bG];refine .cons (d 0 u rfl) (f (m+1) λi v e=>?_);obtain⟨t,q⟩:=d (i+1) v (by simpa using e);exact⟨t,by rw[q];congr 1;lia⟩
 have:=c a.toList 0 λi v e=>by
  obtain⟨t,q⟩:=h i v (by simpa using e);exact⟨t,by rw[q];congr 1;lia⟩
 rw[g9,hl,<- List.range_eq_range'] at this;exact this
theorem Jw(B:X.calm=true):nN X (.type "list") (λxs H Q=>∃(p:Addr) (j:Nat),xs=[.ref p]/\H p=some (.Sn 0 j)/\j<=1000/\∀l,H l=none->Q (.ref l) (upd H l (.lst ((av j).map λk=>.int (k:Nat))))):=by
 intro f s D H xs G Q I r ⟨p,j,e,A,C,q⟩;subst e;obtain⟨u,e,g⟩:=cF.one r;subst e;cases g;obtain⟨t,u,v,h⟩:=(show iN X.prog X.w H s.heap p (.Sn 0 j) from I.hok p _ A);refine call_list_range (I.ok.hd B) (n:=j) h (small_one ∅ ∅ ∅ ∅) (by rw[rangeSize_one];split <;> lia) ∅ λF E b y m x z=>?_;obtain⟨d,c⟩:=z;have i:=SV d c;refine⟨.ref s.heap.objs.size,_,I.laid (a:=s.heap.objs.size) (o:=.lst ((av j).map λk=>.int (k:Nat))) m (az _) ⟨?_,b.toList,y,i,by simpa using x⟩,rfl,q _ (I.hok.fresh (az _))⟩;rw[af,be];exact gI (b4 C)
end
end L2
namespace Gr
theorem Ql{ps:Ps}(h:lZ (ps.take m) k x y):lZ ps k x y/\k<m:=by
 have b:=aeZ h;have a:k<m:=by have:=List.length_take_le m ps;lia
 unfold lZ at *;rw[eF a] at h;exact⟨h,a⟩
def iY(M:List Int)(x:Int):Int:=M.getD x.toNat 0
def joinM(M:List Int)(a b:Int):List Int:=M.map λm=>if m=iY M a then iY M b else m
structure xV(ps:Ps)(n:Nat)(M:List Int):Prop where
 len:M.length=n
 iff:∀x y:Int,0<=x->x<n->0<=y->y<n->(iY M x=iY M y↔Reach ps x y)
theorem EJ{M:List Int}{x:Int}(f:0<=x)(d:x<M.length):iY (joinM M a b) x=if iY M x=iY M a then iY M b else iY M x:=by
 have c:x.toNat<M.length:=∅
 have e:iY M x=M[x.toNat]:=by unfold iY;rw[ao,aa c];rfl
 rw[e];show (joinM M a b).getD x.toNat 0=_;unfold joinM;rw[ao,ak,aa c];rfl
theorem WH(h:Reach [] x y):x=y:=by
 cases h with
 |refl=>rfl
 |step _ a=>rcases a with a|a <;> simp at a
theorem xV.nil(n:Nat):xV [] n ((av n).map λk=>((k:Nat):Int)):=by
 have e:∀x:Int,0<=x->x<n->iY ((av n).map λk=>((k:Nat):Int)) x=x:=λx g f=>by
  unfold iY;rw[ao,ak,fV ∅];show ((x.toNat:Nat):Int)=x;lia
 refine⟨-_,λx y c a b d=>?_⟩;rw[e x c a,e y b d];exact⟨λz=>z▸.refl _,WH⟩
theorem Reach.WI{ps:Ps}(h:Reach (ps.take k) x y):Reach (ps.take (k+1)) x y:=by
 induction h with
 |refl=>exact .refl _
 |@step y z j _ a b =>
  obtain⟨c,d⟩:=Ql a;refine .step (k:=j) b ?_;unfold lZ at *;rw[eF ∅];exact c
theorem xV.step{ps:Ps}{a b:Int}(A:xV (ps.take k) n M)(R:su ps n)(e:ps[k]?=some (a,b)):xV (ps.take (k+1)) n (joinM M a b):=by
 obtain⟨s,q,D,z,_⟩:=R.h k a b e;have G:=A.len;have new:lZ (ps.take (k+1)) k a b:=by
  unfold lZ;rw[eF (yD k)];exact .inl e
 have I:∀{x y:Int},Reach (ps.take k) x y->Reach (ps.take (k+1)) x y:=λh=>h.WI;have d:∀{x y:Int},0<=x->x<n->0<=y->y<n->iY M x=iY M y->Reach (ps.take (k+1)) x y:=λg l f i h=>I ((A.iff _ _ g l f i).mp h);have p:∀{x:Int},0<=x->x<n->iY (joinM M a b) x=if iY M x=iY M a then iY M b else iY M x:=λF h1=>EJ F ∅
 refine⟨by unfold joinM;rw[af];exact G,λx y g l f i=>⟨λh=>?_,λr=>?_⟩⟩
 ·rw[p g l,p f i] at h
  by_cases o:iY M x=iY M a
  ·by_cases m:iY M y=iY M a
   ·exact (d g l s q o).trans (d s q f i m.symm)
   ·rw[aq o,b3 m] at h
    exact (d g l s q o).trans ((Reach.one new).trans (d D z f i h))
  ·by_cases m:iY M y=iY M a
   ·rw[b3 o,aq m] at h
    exact (d g l D z h).trans ((Reach.one new.symm).trans (d s q f i m.symm))
   ·rw[b3 o,b3 m] at h
    exact d g l f i h
 ·have one:∀{j:Nat} {u v:Int},lZ (ps.take (k+1)) j u v->iY (joinM M a b) u=iY (joinM M a b) v:=λ{j u v} h=>by
   obtain⟨h1,K⟩:=Ql h;obtain⟨B,t,C,w,_⟩:=R.lZ h1;rw[p B t,p C w];by_cases c:j<k
   ·have H:lZ (ps.take k) j u v:=by unfold lZ at *;rw[eF c];exact h1
    rw[(A.iff u v B t C w).mpr (Reach.one H)]
   ·have:j=k:=∅
    subst this;have E:(if iY M b=iY M a then iY M b else iY M b)=iY M b:=by split <;> rfl
    rcases h1 with h1|h1
    ·rw[e] at h1;cases h1;rw[aq rfl,E]
    ·rw[e] at h1;cases h1;rw[aq rfl,E]
  clear g l f i;induction r with
  |refl=>rfl
  |step _ h J=>rw[J,one h]
end Gr
namespace L2
open PySem PySem.Spec PyProof.Rows
def m9(h:Heap)(e T:Addr)(cls fl:Value):Prop :=
 ∃oe vs oT ts,h.get? e=some oe/\oe.cls=cls/\oe.dict=none/\oe.data=.fields vs/\vs[1]?=some (.ref T)/\T≠e/\h.get? T=some oT/\oT.data=.fields ts/\ts[3]?=some fl
structure MS(F R:List Addr)(h h':Heap):Prop where
 keep:∀b o,b∉F->b∉R->h.get? b=some o->h'.get? b=some o
 slot:∀b o,b∈F->b∉R->h.get? b=some o->∃sl,h'.get? b=some {o with slots:=sl}
theorem MS.mono{d:List Addr}(t:MS F R h h')(hs:∀b∈R,b∈d):MS F d h h' :=
 ⟨λb o c a e=>t.keep b o c (λz=>a (hs b z)) e,λb o c a e=>t.slot b o c (λz=>a (hs b z)) e⟩
theorem MS.trans(a:MS F R h h1)(b:MS F R h1 h2):MS F R h h2 :=
 ⟨λc o d f e=>b.keep c o d f (a.keep c o d f e),λc o d f e=>by
  obtain⟨k,j⟩:=a.slot c o d f e;obtain⟨g,i⟩:=b.slot c _ d f j;exact⟨g,i⟩⟩
theorem MS.ahM:MS F [a] h (h.update a g) :=
 ⟨λb o _ c e=>(Heap.get?_update_other _ _ (λz=>c (by simp[z]))).trans e,λb o _ c e=>⟨o.slots,(Heap.get?_update_other _ _ (λz=>c (by simp[z]))).trans e⟩⟩
theorem WK:(Obj.mapFields f o).dict=o.dict:=by
 obtain⟨c,d,a,b⟩:=o;cases a <;> rfl
section
variable{M:Model}{A:Around}{E:Value->Shared->Prop}{s:Shared}{base:Heap}{env:Env}{outer:List Env}{L e:Addr}
theorem Jx(hl:s.heap.FunFrames base (env::outer))(f:s.heap.get? e=some oe)(d:oe.data=.fields vs):e∉frs (env::outer):=λc=>by
 obtain⟨_,o,b,a⟩:=hl.mem c;rw[f] at b;cases b;exact a vs d
theorem MT{g:Obj}{vs:Array Value}{a:Value}{B:Bool}{Q:Unit->Shared->Prop}(l:A.frames=some (env::outer))(hl:s.heap.FunFrames base (env::outer))(F:env.frame=some L)
 (w:s.heap.get? e=some g) (p:g.dict=none) (v:g.data=.fields vs) (hsz:1<vs.size)
 (h:∀h',m9 h' e s.heap.objs.size g.cls (rawInt L)->MS (frs (env::outer)) [e] s.heap h'->Q () {s with heap:=h'}) :
 wpAny M A (do let G <- frameOf env;let j <- entryPlaceOf L B;let C <- EntryCells.newEntry a G .none (rawInt L) .none j;setField (.ref e) 1 C) Q E s:=by
 have k:=Jx hl w v;refine wpAny_bind (wpAny_frameOf_fun l hl F λg1 y=>?_);obtain⟨u,i,m⟩:=y;refine wpAny_bind (wpAny_entryPlaceOf λj c=>?_);unfold EntryCells.newEntry newFields;refine wpAny_bind (wpAny_newObj_type ?_ (c.sizeOk5 _ _ _ _ _));have n:g1.get? e=some g:=(i e k).trans w;have d:g1.objs.size≠e:=Nat.ne_of_gt (Heap.lt_size n);refine wpAny_setField (Heap.get?_push_of_some _ n) v hsz (h _ ?_ ?_)
 ·have f:=Obj.data_mapFields v (·.setIfInBounds 1 (Value.ref g1.objs.size))
  have qT:=(Heap.get?_update_other _ (Obj.mapFields (·.setIfInBounds 1 (Value.ref g1.objs.size))) (bO d)).trans (Heap.get?_push_size g1 (o:={cls:=.type "traceback",dict:=none,data:=.fields ([a,.ref L,.none,rawInt L,.none]++(if j.isEmpty then bK 6 Value.none else j)).toArray}) rfl);rw[<- u];refine⟨_,_,_,_,Heap.get?_update_self _ (Heap.get?_push_of_some _ n) (Obj.isFreed_of_fields f),Obj.cls_mapFields _ _,?_,f,?_,d,qT,rfl,?_⟩
  ·rw[WK]
   exact p
  ·simp[hsz]
  ·rcases c with rfl|⟨_,_,_,_,_,_,_,rfl⟩ <;> simp
 ·refine⟨λb o x r t=>?_,λb o x r t=>?_⟩
  ·rw[Heap.get?_update_other _ _ (λz=>r (by simp[z]))]
   exact Heap.get?_push_of_some _ ((i b x).trans t)
  ·obtain⟨D,q⟩:=m b o t
   refine⟨D,?_⟩;rw[Heap.get?_update_other _ _ (λz=>r (by simp[z]))];exact Heap.get?_push_of_some _ q
theorem SW{a:Obj}{vs:Array Value}{Q:Unit->Shared->Prop}(c:A.frames=some (env::outer))(hl:s.heap.FunFrames base (env::outer))(f:env.frame=some L)
 (i:s.heap.get? e=some a) (b:a.dict=none) (g:a.data=.fields vs) (d:vs[1]?=some .none)
 (h:∀h',m9 h' e s.heap.objs.size a.cls (rawInt L)->MS (frs (env::outer)) [e] s.heap h'->Q () {s with heap:=h'}):wpAny M A (noteFrame (.ref e) env) Q E s:=by
 unfold noteFrame;simp only[f];refine wpAny_bind (wpAny_field i g d ?_);rw[b3 (!_)];exact MT c hl f i b g (pT.mp d).1 h
theorem WL{T:Addr}{cls:Value}{Q:Unit->Shared->Prop}(g:A.frames=some (env::outer))(hl:s.heap.FunFrames base (env::outer))(n:env.frame=some L)(B:m9 s.heap e T cls .none)
 (h:∀h',m9 h' e s.heap.objs.size cls (rawInt L)->MS (frs (env::outer)) [e,T] s.heap h'->Q () {s with heap:=h'}):wpAny M A (noteFrame (.ref e) env) Q E s:=by
 obtain⟨w,F,D,v,q,t,i,p,m,u,f,c,l⟩:=B;subst t;unfold noteFrame;simp only[n];refine wpAny_bind (wpAny_field q p m ?_);rw[aq (-_)];refine wpAny_bind (wpAny_field f c l ?_);rw[b3 (by simp[rawInt])];refine wpAny_bind (wpAny_setField f c (pT.mp l).1 ?_);have x:=Jx (e:=T) hl f c;have j:(s.heap.update T (Obj.mapFields (·.setIfInBounds 3 Value.none))).objs.size=s.heap.objs.size:=Heap.size_after_update ..;have a:∀b,b≠T->(s.heap.update T (Obj.mapFields (·.setIfInBounds 3 Value.none))).get? b=s.heap.get? b:=λb d=>Heap.get?_update_other _ _ (bO d);refine MT (s:={s with heap:=s.heap.update T (Obj.mapFields (·.setIfInBounds 3 Value.none))}) (base:=base) g (hl.of_keeps λb o d k=>⟨o,(a b λz=>?_).trans d,rfl⟩) n ((a e (bO u)).trans q) i p (pT.mp m).1 λh' y r=>?_
 ·rw[z,f] at d
  cases d;exact k v c
 ·have C:m9 h' e s.heap.objs.size w.cls (rawInt L):=j▸y
  exact h h' C ((MS.ahM.mono (-_)).trans (r.mono (-_)))
theorem Hu{T:Addr}{cls r:Value}{Q:Unit->Shared->Prop}(f:m9 s.heap e T cls r)(h:∀h',m9 h' e T cls .none->(∀F,MS F [T] s.heap h')->h'.objs.size=s.heap.objs.size->Q () {s with heap:=h'}) :
 wpAny M A (setFlight (.ref e) none) Q E s:=by
 obtain⟨p,q,t,o,l,m,d,k,j,g,i,c,n⟩:=f;have b:3<o.size:=(pT.mp n).1;unfold setFlight;refine wpAny_bind (wpAny_field l k j ?_);rw[aq (-_)];refine wpAny_setField i c b (h _ ?_ (λF=>MS.ahM) (Heap.size_after_update ..));have a:=Obj.data_mapFields c (·.setIfInBounds 3 ((none:Option Addr).elim Value.none λf=>rawInt f));exact⟨p,q,_,_,(Heap.get?_update_other _ _ g).trans l,m,d,k,j,g,Heap.get?_update_self _ i (Obj.isFreed_of_fields a),a,by simp[b]⟩
end
theorem iN.there{P:Program}{w:World}{H:Hp}{h:Heap}{a:Addr}:∀{o:HO},iN P w H h a o->∃ob,h.get? a=some ob
 |.lst _,⟨_,_,_,_,e⟩=>⟨_,e⟩
 |.tup _,⟨_,_,_,o,e,_⟩=>⟨o,e⟩
 |.dK _,⟨_,_,_,_,o,_,_,e,_⟩=>⟨o,e⟩
 |.dT _,⟨_,_,_,_,o,_,_,e,_⟩=>⟨o,e⟩
 |.set _ _,⟨o,_,_,_,e,_⟩=>⟨o,e⟩
 |.ins _ _ _,⟨_,_,_,e,_⟩=>⟨_,e⟩
 |.own _,e=>e
 |.xd _,⟨_,n,_⟩=>let ⟨o,e,_⟩:=MH n;⟨o,e⟩
 |.met _ _,e=>⟨_,e⟩
 |.Sn _ _,⟨_,_,_,e⟩=>⟨_,e⟩
 |.PY o _,⟨e,_⟩=>⟨o,e⟩
 |.nj _,e=>⟨_,e⟩
 |.ext _,⟨_,e,_⟩=>e
theorem Aq.Sd(ok:Aq P w H h)(t:MS F R h h')(d:∀b∈F,H b=none)(c:∀b∈R,H b=none):Aq P w H h':=λa o e =>
 (ok a o e).stay (λb u hb q=>t.keep b u (λz=>by
  have:=d b z
  rcases hb with rfl|hb
  ·rw[e] at this;cases this
  ·rw[hb] at this;cases this) (λz=>by
  have:=c b z
  rcases hb with rfl|hb
  ·rw[e] at this;cases this
  ·rw[hb] at this;cases this) q) (λ_ q=>q) λ_ _ q=>q
def Rec(X:Cx)(pins:List (Addr×Obj))(H:Hp)(b:Addr):Prop :=
 H b=none/\b≠X.env.locals/\b∉X.fs/\X.s₀.heap.get? b=none/\(∀x c,X.env.cells.lookup x=some c->c≠b)/\∀p∈X.pn++pins,p.1≠b
section
variable{X:Cx}{pins:List (Addr×Obj)}{σ:St}{H H':Hp}{s:Shared}{h':Heap}
theorem Inv.abu(I:Inv X pins σ H s)(f:X.ex=[])(h:H' b=none)(d:s.heap.get? b=none):Rec X pins H' b:=by
 refine⟨h,λz=>?_,λz=>?_,?_,λx c e z=>?_,λp g z=>?_⟩
 ·obtain⟨m,⟨o,_,_,a,_⟩,_⟩:=I.loc
  rw[<- z,d] at a;cases a
 ·obtain⟨_,o,a,_⟩:=I.Em.mem z
  rw[d] at a;cases a
 ·cases q:X.s₀.heap.get? b with
  |none=>rfl
  |some o =>
   obtain⟨i,e⟩:=I.base.there b o q (by rw[f];simp);rw[d] at e;cases e
 ·obtain⟨v,o,a,_⟩:=I.cell x c e
  rw[z,d] at a;cases a
 ·have:=(I.pin p g).1
  rw[z,d] at this;cases this
theorem Inv.Qm(I:Inv X pins σ H s)(a:X.ex=[]):Rec X pins H s.heap.objs.size:=by
 refine I.abu a (I.hok.fresh (az _)) ?_;cases q:s.heap.get? s.heap.objs.size with
 |none=>rfl
 |some o=>exact cy (Heap.lt_size q) (iz _)
theorem Inv.Sd{R:List Addr}{t':Nat}(I:Inv X pins σ H s)(A:∀b∈R,Rec X pins H b)(t:MS (frs X.stack) R s.heap h'):Inv X pins σ H {s with heap:=h',toks:=t'}:=by
 have F:∀b∈frs X.stack,H b=none:=λb a=>I.Ob b a;have g:∀b o,b∉R->s.heap.get? b=some o->∃B,h'.get? b=some {o with slots:=B}:=λb o D e=>by
  by_cases a:b∈frs X.stack
  ·exact t.slot b o a D e
  ·exact⟨o.slots,t.keep b o a D e⟩
 have w:∀b o,b≠X.env.locals->b∉X.fs->b∉R->s.heap.get? b=some o->h'.get? b=some o:=λb o Q a D e =>
  t.keep b o (λz=>(bu.mp (I.FZ b z)).elim Q a) D e
 have E:∀b o,X.s₀.heap.get? b=some o->b≠X.env.locals:=λb o e=>bH (bU (Heap.lt_size e) I.ok.above);have h:∀b o,X.s₀.heap.get? b=some o->b∉R:=λb o e z=>by rw[(A b z).2.2.2.1] at e;cases e
 have f:∀x c,X.env.cells.lookup x=some c->∀v,s.heap.IsCell c v->h'.IsCell c v:=λx c e v ⟨o,G,T⟩=>by
  obtain⟨B,q⟩:=g c o (λz=>(A c z).2.2.2.2.1 x c e rfl) G;exact⟨_,q,T⟩
 refine⟨I.ok,I.os,I.bare,⟨λb o e n a j=>?_,λb o e n a j=>?_,I.base.free,λb o e j=>?_,I.base.tups,I.base.Ek,I.base.FY⟩,?_,λx c e=>?_,I.free,I.xQ,λp K=>?_,I.hok.Sd t F (λb a=>(A b a).1),I.len⟩
 ·exact w b o (E b o e) a (h b o e) (I.base.keep b o e n a j)
 ·obtain⟨B,C⟩:=I.base.slot b o e n a j
  obtain⟨J,y⟩:=g b _ (h b o e) C;exact⟨J,y⟩
 ·obtain⟨U,C⟩:=I.base.there b o e j
  obtain⟨B,y⟩:=g b _ (h b o e) C;exact⟨_,y⟩
 ·obtain⟨m,⟨o,N,S,G,r⟩,O⟩:=I.loc
  obtain⟨B,q⟩:=g _ o (λz=>(A _ z).2.1 rfl) G;refine⟨m,⟨_,N,S,q,r⟩,λi x v C y P=>?_⟩;obtain⟨u,M,l⟩:=O i x v C y P;refine⟨u,M,?_⟩;rcases l with l|⟨k,c,e,z⟩
  ·exact .inl l
  ·exact .inr ⟨k,c,e,f x c e _ z⟩
 ·obtain⟨v,z⟩:=I.cell x c e
  exact⟨v,f x c e v z⟩
 ·obtain⟨e,n,L,nf,d⟩:=I.pin p K
  exact⟨w p.1 p.2 L nf (λz=>(A p.1 z).2.2.2.2.2 p K rfl) e,n,L,nf,d⟩
end
def XP(X:Cx)(pins:List (Addr×Obj))(σ:St)(E:XK)(e:Value)(s':Shared):Prop :=
 ∃ea T cls H',e=.ref ea/\Inv X pins σ H' s'/\m9 s'.heap ea T cls .none/\Rec X pins H' ea/\Rec X pins H' T/\E cls none H'
def FT(P:Program)(w:World):Wn:=λouter H s E e s' =>
 ∃ea T cls H',e=.ref ea/\s'.os=s.os/\AllBare s'.gens/\Un (frs outer) [] H H' s.heap s'.heap/\Aq P w H' s'.heap/\m9 s'.heap ea T cls .none/\s.heap.get? ea=none/\s.heap.get? T=none/\H' ea=none/\H' T=none/\E cls none H'
theorem ahP{H:Hp}(I:Inv X pins σ H s)(c:X.ex=[])(h:FT X.prog X.w X.stack H s E e s'):XP X pins σ E e s':=by
 obtain⟨i,T,d,g,p,os,a,k,f,n,j,o,m,l,q⟩:=h;exact⟨i,T,d,g,p,I.ac6 (ch:=[]) os k f a (λb z=>cy z (-_)),n,I.abu c m j,I.abu c l o,q⟩
theorem Zl{H:Hp}{R:List Addr}(I:Inv X pins σ H s)(a:X.ex=[])(c:∀b∈R,Rec X pins H b)(t:MS (frs X.stack) R s.heap h'):Un X.fs [] X.H₀ H X.s₀.heap h':=by
 have:=(I.Sd (t':=s.toks) c t).base
 rw[a] at this;exact this
section
variable{P:Program}{w:World}{K:ah}{mg:Str->Option Value}{base:Heap}{N:List Str}{qual:Str}{scope:Scope}{f:Addr}{cd:Value}{A:Around}{outer:List Env}{s0:Shared}{H0:Hp}{E:XK}
theorem ahQ(h:XP (pX (FT P w) P w K mg base N qual scope f cd A outer s0 H0 E) pins σ E e s):(pX (FT P w) P w K mg base N qual scope f cd A outer s0 H0 E).xe e s:=by
 obtain⟨c,T,d,j,rfl,I,t,g,n,q⟩:=h;show wpAny _ _ (leaving _ (.ref c)) _ _ s;unfold leaving;refine wpAny_bind (WL (base:=base) I.ok.frames I.stack rfl t λv m o=>?_);refine Hu m λr u p x=>?_;have i:=I.Qm rfl;have k:∀b∈[c,T,s.heap.objs.size],Rec (pX (FT P w) P w K mg base N qual scope f cd A outer s0 H0 E) pins j b:=by
  intro b l;simp only[bu,List.not_mem_nil,or_false] at l;rcases l with z|z|z
  ·rw[z];exact g
  ·rw[z];exact n
  ·rw[z];exact i
 have a:MS (frs (pX (FT P w) P w K mg base N qual scope f cd A outer s0 H0 E).stack) [c,T,s.heap.objs.size] s.heap r:=(o.mono (-_)).trans ((p _).mono (-_));have J:=I.Sd (t':=s.toks) k a;exact⟨c,_,d,j,rfl,I.os,I.bare,Zl I rfl k a,J.hok,u,g.2.2.2.1,i.2.2.2.1,g.1,i.1,q⟩
theorem U0:tN (FT P w) (pX (FT P w) P w K mg base N qual scope f cd A outer s0 H0 E) E:=λa b H s e c I h=>ahQ (ahP I rfl h)
theorem Sk.okX{x qual:Str}{st:Stmt}{f:Addr}{e:FuncData}{N ps:List Str}{k:Nat}{sp:Sp}(F:Sk K x qual st f e)(S:aP N ps (aD st))(d:∀vs H Q E,sp vs H Q E->vs.length=ps.length)
 (b:∀(a:Value) (A:Around) (outer:List Env) (s:Shared) (H:Hp) (vs:List V) (Q:VK) (E:XK),kD k (A.deeper (envOfC qual (aD st) s.heap.objs.size f a))->sp vs H Q E ->
  ∃t,iP (pX (FT P w) P w K mg base N qual (aD st) f a A outer s H E) (gM st) t/\t {nx:=λ_ g=>Q .f9 g,rt:=Q} (start N vs) H):cH P w K mg base (FT P w) (k+1) f e ps sp:=by
 obtain⟨q,m,kV,l,o,p,a,n,i,rfl,lk,c⟩:=F.ex;exact YW lk c S d λA outer s H vs Q E h j=>b a A outer s H vs Q E h j
end
theorem Qn:tN (FT P w) X E0:=λ_ _ _ _ _ _ _ h=>by
 obtain⟨_,_,_,_,_,_,_,_,_,_,_,_,_,_,q⟩:=h;exact q.elim
abbrev ahS:List Value:=[.type "ValueError",.type "Exception",.type "BaseException",.type "object"]
structure Zm(K:ah)(C:Addr):Prop where
 ex:PySem.W.excIn K C ahS "ValueError.__new__" = true
 ga:aM K (.ref C) "__getattribute__" = some (some (.builtin "BaseException.__getattribute__"))
 gb:aM K (.ref C) "__getattr__" = some none
 hd:we K C=true
 ca:aM K (.ref C) "__class__" = some (some (.builtin "object.__class__"))
 cg:PySem.W.specialIn K (.builtin "object.__class__") "__get__" = some (some (.builtin "getset_descriptor.__get__"))
 ct:PySem.W.takesIn K (.builtin "object.__class__")=some true
 mo:PySem.W.mroIn K C (.type "object")=some true
 mb:PySem.W.mroIn K C (.type "BaseException")=some true
theorem abv{K:ah}{h:Heap}{C:Addr}{a:List Value}{f:String}(X:K.In h)(q:PySem.W.excIn K C a f=true) :
 ∃bm N nm d bs e sn b ab col dd k0 k1 k2 k3 k5 g,h.get? C=some (excClassObj nm d C N bs bm e sn b ab col dd k0 k1 k2 k3 k5 f)/\h.Ns N g/\g "__init__" = none/\OwnTail h a bm/\bm.contains (.type "BaseException")=a.contains (.type "BaseException"):=by
 unfold PySem.W.excIn at q;split at q
 ·rename_i dd v m t
  obtain⟨nm,bs,p,k,d,e,sn,b,ab,col,w⟩:=v;obtain⟨m⟩:=m;split at q
  ·rename_i D bm k0 k1 k2 k3 n k5 l o
   simp only[dj,beq_iff_eq,pS] at q;obtain⟨⟨⟨⟨⟨u,r⟩,i⟩,s⟩,c⟩,j⟩:=q;dsimp only at l o i c j;subst u r l o i;have T:=PySem.W.tail_of_in X s;exact⟨bm,k,nm,d,bs,e,sn,b,ab,col,dd,k0,k1,k2,k3,k5,h.nsMap k,X _ _ t,.of_isNs (PySem.W.isNs_of_in X c),PySem.W.nsMap_none_of_in X c j,T,T.hasType rfl⟩
  ·cases q
 ·cases q
section
variable{P:Program}{w:World}{K:ah}{mg:Str->Option Value}{base:Heap}{N:List Str}{qual:Str}{scope:Scope}{f:Addr}{cd:Value}{A:Around}{outer:List Env}{s0:Shared}{H0:Hp}{E:XK}
theorem raised{a:List (Addr×Obj)}{j:St}{H:Hp}{s:Shared}{h':Heap}{e C:Addr}{vs:List Value}(I:Inv (pX (FT P w) P w K mg base N qual scope f cd A outer s0 H0 E) a j H s)(hm:Heap.MadeExcOf s.heap h' e (.ref C) vs)
 (q:E (.ref C) none H):(pX (FT P w) P w K mg base N qual scope f cd A outer s0 H0 E).xe (.ref e) {s with heap:=h'}:=by
 have h:H e=none:=by
  cases z:H e with
  |none=>rfl
  |some o =>
   obtain⟨y,k⟩:=(I.hok e o z).there;rw[hm.new] at k;cases k
 have i:=I.abu rfl h hm.new;have d:Inv (pX (FT P w) P w K mg base N qual scope f cd A outer s0 H0 E) a j H {s with heap:=h'}:=I.kept (t':=s.toks) hm.keeps;obtain⟨t,x,_,_⟩:=hm.there;show wpAny _ _ (leaving _ (.ref e)) _ _ _;unfold leaving;refine wpAny_bind (SW (base:=base) d.ok.frames d.stack rfl x rfl rfl rfl λB n p=>?_);refine Hu n λu v r D=>?_;have g:=d.Qm rfl;have l:∀b∈[e,h'.objs.size],Rec (pX (FT P w) P w K mg base N qual scope f cd A outer s0 H0 E) a H b:=by
  intro b m;simp only[bu,List.not_mem_nil,or_false] at m;rcases m with z|z
  ·rw[z];exact i
  ·rw[z];exact g
 have c:MS (frs (pX (FT P w) P w K mg base N qual scope f cd A outer s0 H0 E).stack) [e,h'.objs.size] h' u:=(p.mono (-_)).trans ((r _).mono (-_));have J:=d.Sd (t':=s.toks) l c;exact⟨e,_,.ref C,H,rfl,I.os,I.bare,Zl d rfl l c,J.hok,v,i.2.2.2.1,g.2.2.2.1,i.1,g.1,q⟩
theorem EK{x:Str}{C:Addr}{a:Expr}{O b i:Pos}{n:TE}(M:Gl (pX (FT P w) P w K mg base N qual scope f cd A outer s0 H0 E) x)(L:mg x=some (.ref C))(J:Zm K C)(t:A.handled=none)
 (B:PE (pX (FT P w) P w K mg base N qual scope f cd A outer s0 H0 E) a n) (g:(x==("__debug__" : Str))=false:=by decide)
 (o:backTo b (starEach [a] (pX (FT P w) P w K mg base N qual scope f cd A outer s0 H0 E).env)=[(false,eval a (pX (FT P w) P w K mg base N qual scope f cd A outer s0 H0 E).env)]:=by rfl) :
 PS (pX (FT P w) P w K mg base N qual scope f cd A outer s0 H0 E) (.Raise (some (.Call (.Name x O) [a] [] b)) none i) (λ_ j H=>n j H λ_ m=>E (.ref C) none m):=by
 intro c s j H D I h;obtain⟨bm,Q,nm,R,bs,S,sn,z,ab,col,dd,k0,k1,k2,k3,k5,U,r,p,k,T,u⟩:=abv I.ok.mod.tw J.ex;refine wpAny_Raise_call_subT (C:=C) (nm:=nm) (q:=R) (N:=Q) (bs:=bs) (bm:=bm) (hdct:=S) (sn:=sn) (sub:=z) (ab:=ab) (col:=col) (dd:=dd) (k0:=k0) (k1:=k1) (k2:=k2) (k3:=k3) (k5:=k5) PySem.F.excBase_ValueError (by rw[u];decide) t (by rw[o];rfl) k (Er I M L ⟨rfl,?_⟩ g);rw[o];refine Calls.evalArgs_plain (Calls.spliced_cons (ia (B c s j H _ I h) λv X ⟨y,m,d,V,G⟩=>Calls.spliced_nil ?_));exact⟨rfl,by show 1<=sizeLine;decide,d.bk _ _ r,p.keeps d.bk,T.keeps d.bk,λW e l=>raised d l G⟩
end
end L2
namespace RM
structure Row where
 hd:Int
 co:Int
 ho:Int
 by_:Int
deriving DecidableEq
theorem Row.ext'{r s:Row}(b:r.hd=s.hd)(a:r.co=s.co)(c:r.ho=s.ho)(d:r.by_=s.by_):r=s:=by
 cases r;cases s;simp_all
def lt(r s:Row):Prop:=r.hd<s.hd∨(r.hd=s.hd/\(r.co<s.co∨(r.co=s.co/\(r.ho<s.ho∨(r.ho=s.ho/\r.by_<s.by_)))))
instance (r s:Row):Decidable (lt r s):=by unfold lt;infer_instance
def le(r s:Row):Prop:=¬lt s r
instance (r s:Row):Decidable (le r s):=by unfold le;infer_instance
theorem le_refl(r:Row):le r r:=by unfold le lt;lia
theorem ae1{a b c:Int}{l k f:Prop}(h:¬l->¬k->¬f)(i:¬(b<a∨(b=a/\l)))(d:¬(c<b∨(c=b/\k))):¬(c<a∨(c=a/\f)):=by
 have g:a<=b:=Int.not_lt.mp λy=>i (.inl y);have j:b<=c:=Int.not_lt.mp λy=>d (.inl y);intro z;rcases z with z|⟨z,n⟩
 ·exact Int.not_lt.mpr (Int.le_trans g j) z
 ·subst z
  have e:=Int.le_antisymm g j;subst e;exact h (λy=>i (.inr ⟨rfl,y⟩)) (λy=>d (.inr ⟨rfl,y⟩)) n
theorem le_trans(c:le r s)(d:le s t):le r t :=
 ae1 (ae1 (ae1 λa b=>Int.not_lt.mpr (Int.le_trans (Int.not_lt.mp a) (Int.not_lt.mp b)))) c d
theorem le_antisymm(a:le r s)(b:le s r):r=s:=by
 unfold le lt at *;exact Row.ext' ∅ ∅ ∅ ∅
theorem le_total(r s:Row):le r s∨le s r:=by unfold le lt;lia
theorem adq(h:lt r s):le r s:=by unfold le lt at *;lia
structure Net where
 n:Nat
 nm:Nat->Int
 a:Nat->Nat
 b:Nat->Nat
 c:Nat->Int
 live:List Nat
 inj:∀i j,i<n->j<n->nm i=nm j->i=j
 ab:∀k∈live,a k<n/\b k<n/\a k≠b k
 c1:∀k∈live,1<=c k
section
variable(N:Net)
def Dm(k h g:Nat):Prop:=k∈N.live/\((N.a k=h/\N.b k=g)∨(N.b k=h/\N.a k=g))
def own(h:Nat):Row:=⟨N.nm h,0,0,-1⟩
def over(k:Nat)(r:Row):Row:=⟨r.hd,r.co+N.c k,r.ho+1,k⟩
end
variable{N:Net}
theorem Dm.symm(e:Dm N k h g):Dm N k g h:=⟨e.1,e.2.elim (λz=>.inr ⟨z.2,z.1⟩) λz=>.inl ⟨z.2,z.1⟩⟩
theorem Dm.lt(e:Dm N k h g):h<N.n/\g<N.n/\h≠g:=by
 obtain⟨d,e⟩:=e;obtain⟨b,a,c⟩:=N.ab k d;rcases e with ⟨rfl,rfl⟩|⟨rfl,rfl⟩
 ·exact⟨b,a,c⟩
 ·exact⟨a,b,bO c⟩
theorem Dm.cost(e:Dm N k h g):1<=N.c k:=N.c1 k e.1
theorem Gg(h:le r s):le (over N k r) (over N k s):=by
 unfold le lt over at *;dsimp only at *;lia
structure xW(cut:Int)(R:Nat->Row)(h:Nat)(d:Row):Prop where
 one:d=own N h∨∃k g,Dm N k h g/\(R g).ho+1<cut/\d=over N k (R g)
 own:le d (RM.own N h)
 all:∀k g,Dm N k h g->(R g).ho+1<cut->le d (over N k (R g))
def Rest(N:Net)(S:Nat->Row):Prop:=∀h,h<N.n->xW (N:=N) N.n S h (S h)
def Sane(N:Net)(R:Nat->Row):Prop:=∀h,h<N.n->0<=(R h).ho/\(R h).ho<N.n
theorem lA{a:Type}[DecidableEq a]:∀{xs B:List a},xs.Nodup->(∀x∈xs,x∈B)->xs.length<=B.length
 |[],_,_,_=>aX _
 |x::xs,B,c,hs=>by
  have b:x∈B:=hs x bE;have f:∀y∈xs,y∈B.erase x:=λy d=>by
   have h:y≠x:=λe=>(dm.mp c).1 (e▸d);exact (List.mem_erase_of_ne h).mpr (hs y (bf _ d))
  have g:=lA (dm.mp c).2 f;rw[List.length_erase_of_mem b] at g
  have:0<B.length:=List.length_pos_of_mem b
  rw[aV];lia
theorem ae2{n:Nat}{xs:List Nat}(c:xs.Nodup)(hl:∀x∈xs,x<n)(e:xs.length=n){h:Nat}(b:h<n):h∈xs:=by
 apply Classical.byContradiction;intro q
 have:=lA (xs:=h::xs) (B:=av n) (dm.mpr ⟨q,c⟩) (λx a=>by
  rw[bB];rcases bu.mp a with rfl|z
  ·exact b
  ·exact hl x z)
 rw[aV,be] at this;lia
theorem chain{S:Nat->Row}(R:Rest N S):∀(m g:Nat),g<N.n->(S g).ho=m->∃gs:List Nat,gs.length=m+1/\gs.Nodup/\g∈gs/\∀x∈gs,x<N.n/\(S x).hd=(S g).hd/\(x=g∨(S x).co<(S g).co)/\(S x).ho<=m
 |0,g,d,e=>⟨[g],rfl,-_,-_,λx f=>by
  have:x=g:=by simpa using f
  subst this;exact⟨d,rfl,.inl rfl,∅⟩⟩
 |m+1,g,d,e=>by
  rcases (R g d).one with z|⟨k,b,a,c,z⟩
  ·rw[z] at e
   have:(0:Int)=((m+1:Nat):Int):=e
   lia
  ·have v:(S g).hd=(S b).hd:=by rw[z];rfl
   have o:(S g).co=(S b).co+N.c k:=by rw[z];rfl
   have u:(S g).ho=(S b).ho+1:=by rw[z];rfl
   have s:=a.cost;obtain⟨gs,l,j,t,h⟩:=chain R m b a.lt.2.1 ∅;refine⟨g::gs,by rw[aV,l],dm.mpr ⟨λq=>?_,j⟩,bE,λx f=>?_⟩
   ·have:=(h g q).2.2.2
    lia
   ·rcases bu.mp f with rfl|q
    ·exact⟨d,rfl,.inl rfl,∅⟩
    ·obtain⟨i,r,q3,p⟩:=h x q
     refine⟨i,∅,.inr ?_,∅⟩;rcases q3 with rfl|q3 <;> lia
theorem long(R:Rest N S)(hs:Sane N S){g h:Nat}(b:g<N.n)(f:h<N.n)(e:(N.n:Int)<=(S g).ho+1):(S h).hd=(S g).hd/\(h=g∨(S h).co<(S g).co):=by
 have l:=hs g b;obtain⟨k,i,d,j,a⟩:=chain R (N.n-1) g b ∅
 have:=a h (ae2 d (λx c=>(a x c).1) ∅ f)
 exact⟨this.2.1,this.2.2.1⟩
theorem U1(R:Rest N S)(hs:Sane N S)(a:Dm N k h g)(e:le (S g) r):le (S h) (over N k r):=by
 obtain⟨b,f,i⟩:=a.lt;have j:=a.cost;by_cases c:(S g).ho+1<N.n
 ·exact le_trans ((R h b).all k g a c) (Gg e)
 ·obtain⟨l,d⟩:=long R hs f b ∅
  have m:=d.resolve_left i;unfold le lt over at *;dsimp only at *;lia
def upd(R:Nat->Row)(h:Nat)(d:Row):Nat->Row:=λx=>if x=h then d else R x
inductive Run(N:Net):(Nat->Row)->List Nat->(Nat->Row)->Prop
 |nil (R):Run N R [] R
 |cons {R R' h d cs} (i:xW (N:=N) N.n R h d) (t:Run N (upd R h d) cs R'):Run N R (h::cs) R'
theorem Run.other(t:Run N R cs a){x:Nat}(h:x∉cs):a x=R x:=by
 induction t with
 |nil=>rfl
 |@cons R a c d cs i t b =>
  rw[b λq=>h (bf _ q)];have e:x≠c:=λq=>h (by rw[q];exact bE);unfold upd;rw[b3 e]
theorem Run.append(t:Run N R cs R')(u:Run N R' ds R''):Run N R (cs++ds) R'':=by
 induction t with
 |nil=>exact u
 |cons i t a=>exact .cons i (a u)
theorem Run.split:∀{cs ds:List Nat} {R a:Nat->Row},Run N R (cs++ds) a->∃b,Run N R cs b/\Run N b ds a
 |[],_,R,_,t=>⟨R,.nil R,t⟩
 |_::_,_,_,_,.cons i t=>by
  obtain⟨b,u,v⟩:=Run.split t;exact⟨b,.cons i u,v⟩
theorem Run.round{P Q:Nat->Row->Prop}(f:∀h r,Q h r->P h r)(hs:∀R h d,h<N.n->(∀g,g<N.n->P g (R g))->xW (N:=N) N.n R h d->Q h d){R a:Nat->Row}{cs:List Nat}(t:Run N R cs a)(k:∀c∈cs,c<N.n)
 (b:∀g,g<N.n->P g (R g)):(∀g,g<N.n->P g (a g))/\∀h∈cs,Q h (a h):=by
 induction t with
 |nil=>exact⟨b,λh q=>cy q (-_)⟩
 |@cons R a h d cs i t s =>
  have j:=hs _ _ _ (k h bE) b i;obtain⟨o,m⟩:=s (λc q=>k c (bf _ q)) (λg p=>by
   unfold upd;by_cases e:g=h
   ·rw[aq e,e];exact f _ _ j
   ·rw[b3 e];exact b g p)
  refine⟨o,λx l=>?_⟩;by_cases q:x∈cs
  ·exact m x q
  ·have e:x=h:=(bu.mp l).resolve_right q
   rw[t.other q,e];unfold upd;rw[aq rfl];exact j
def oj(n:Nat):Nat->List Nat->Prop
 |0,_=>True
 |m+1,cs=>∃xs ys,cs=xs++ys/\(∀h,h<n->h∈xs)/\oj n m ys
theorem Run.rounds{P:Nat->Nat->Row->Prop}(a:∀r h x,P (r+1) h x->P r h x)(step:∀r R h d,h<N.n->(∀g,g<N.n->P r g (R g))->xW (N:=N) N.n R h d->P (r+1) h d) :
 ∀(m r:Nat) {cs:List Nat} {R f:Nat->Row},oj N.n m cs->(∀c∈cs,c<N.n)->Run N R cs f->(∀g,g<N.n->P r g (R g))->∀g,g<N.n->P (r+m) g (f g)
 |0,r,cs,R,f,_,j,t,l,g,b=>(Run.round (P:=P r) (Q:=P r) (λ_ _ z=>z) (λR h d k o i=>a _ _ _ (step r R h d k o i)) t j l).1 g b
 |m+1,r,cs,R,f,⟨y,B,e,u,w⟩,j,t,l,g,b=>by
  subst e;obtain⟨A,p,s⟩:=Run.split t;have v:=(Run.round (P:=P r) (Q:=P (r+1)) (a r) (λR h d k o i=>step r R h d k o i) p (λc q=>j c (bY _ q)) l).2
  have:=Run.rounds a step m (r+1) w (λc q=>j c (bP _ q)) s (λg b=>v g (u g b)) g b
  rw[show r+(m+1)=r+1+m by lia];exact this
theorem abw(l:Rest N S)(hs:Sane N S){m:Nat}(H:2*N.n<=m)(D:oj N.n m cs)(G:∀c∈cs,c<N.n)(t:Run N R cs R')(E:Sane N R):∀h,h<N.n->R' h=S h:=by
 have s:=Run.rounds (P:=λr h x=>h<N.n->0<=x.ho/\x.ho<N.n/\(lt x (S h)->(r:Int)<=x.ho)/\((S h).ho<(r:Int)-N.n->x=S h)) (N:=N) ?_ ?_ m 0 D G t ?_
 ·intro h f
  obtain⟨_,_,_,q⟩:=s h f f;exact q (by have:=(hs h f).2;lia)
 ·intro r h x p f
  obtain⟨B,y,o,w⟩:=p f;exact⟨B,y,λz=>by have:=o z;lia,λz=>w ∅⟩
 ·intro r j h d f u i _
  have b:lt d (S h)->((r+1:Nat):Int)<=d.ho:=by
   intro z;rcases i.one with e|⟨k,g,a,c,e⟩
   ·rw[e] at z
    exact cy z (l h f).own
   ·obtain⟨B,y,o,w⟩:=u g a.lt.2.1 a.lt.2.1
    have ho:d.ho=(j g).ho+1:=by rw[e];rfl
    have q:lt (j g) (S g):=by
     apply Classical.byContradiction;intro q;exact U1 l hs a q (e▸z)
    have:=o q
    lia
  have ho:0<=d.ho/\d.ho<N.n:=by
   rcases i.one with e|⟨k,g,a,c,e⟩
   ·rw[e]
    show 0<=(0:Int)/\(0:Int)<N.n;lia
   ·have:=u g a.lt.2.1 a.lt.2.1
    rw[e];show 0<=(j g).ho+1/\(j g).ho+1<N.n;lia
  refine⟨ho.1,ho.2,b,λz=>?_⟩;have I:=hs h f;have J:(N.n:Int)<=r:=∅
  have C:le (S h) d:=λq=>by have:=b q;lia
  refine le_antisymm ?_ C;rcases (l h f).one with e|⟨k,g,a,c,e⟩
  ·rw[e];exact i.own
  ·have F:(S h).ho=(S g).ho+1:=by rw[e];rfl
   have v:j g=S g:=(u g a.lt.2.1 a.lt.2.1).2.2.2 ∅
   have:=i.all k g a (by rw[v];exact c)
   rw[v] at this;rw[e];exact this
 ·intro g A _
  have:=E g A
  exact⟨this.1,this.2,λ_=>∅,λz=>by have:=(hs g A).1;lia⟩
theorem least:∀(x0:Row) (xs:List Row),∃m,(m=x0∨m∈xs)/\le m x0/\∀x∈xs,le m x
 |x0,[]=>⟨x0,.inl rfl,le_refl _,λx h=>cy h (-_)⟩
 |x0,y::e=>by
  obtain⟨m,d,b,c⟩:=least x0 e;rcases le_total m y with q|q
  ·refine⟨m,d.imp id (bf _),b,λx a=>?_⟩
   rcases bu.mp a with rfl|z
   ·exact q
   ·exact c x z
  ·refine⟨y,.inr bE,le_trans q b,λx a=>?_⟩
   rcases bu.mp a with rfl|z
   ·exact le_refl _
   ·exact le_trans q (c x z)
theorem Jy(N:Net)(f:Int)(R:Nat->Row)(h:Nat):∃d,xW (N:=N) f R h d:=by
 obtain⟨m,p,o,n⟩:=least (own N h) (N.live.filterMap λk=>if N.a k=h/\(R (N.b k)).ho+1<f then some (over N k (R (N.b k))) else if N.b k=h/\(R (N.a k)).ho+1<f then some (over N k (R (N.a k))) else none);refine⟨m,?_,o,λk g a c=>n _ ?_⟩
 ·rcases p with z|z
  ·exact .inl z
  ·obtain⟨k,i,e⟩:=iM.mp z
   refine .inr ?_;by_cases j:N.a k=h/\(R (N.b k)).ho+1<f
   ·rw[aq j] at e
    cases e;exact⟨k,N.b k,⟨i,.inl ⟨j.1,rfl⟩⟩,j.2,rfl⟩
   ·rw[b3 j] at e
    by_cases l:N.b k=h/\(R (N.a k)).ho+1<f
    ·rw[aq l] at e
     cases e;exact⟨k,N.a k,⟨i,.inr ⟨l.1,rfl⟩⟩,l.2,rfl⟩
    ·rw[b3 l] at e;cases e
 ·obtain⟨i,q⟩:=a
  refine iM.mpr ⟨k,i,?_⟩;rcases q with ⟨rfl,rfl⟩|⟨rfl,rfl⟩
  ·rw[aq ⟨rfl,c⟩]
  ·rw[b3 (λz=>(N.ab k i).2.2 z.1),aq ⟨rfl,c⟩]
def WM(N:Net)(cut:Int)(R:Nat->Row)(h:Nat):Row:=Classical.choose (Jy N cut R h)
theorem IQ(N:Net)(a:Int)(R:Nat->Row)(h:Nat):xW (N:=N) a R h (WM N a R h):=Classical.choose_spec (Jy N a R h)
def W(N:Net):Nat->Nat->Row
 |0=>own N
 |k+1=>WM N (k+2) (W N k)
theorem WN(N:Net):∀k h,0<=(W N k h).ho/\(W N k h).ho<=k
 |0,h=>by show 0<=(0:Int)/\(0:Int)<=(0:Nat);lia
 |k+1,h=>by
  rcases (IQ N (k+2) (W N k) h).one with z|⟨r,g,a,c,z⟩
  ·show 0<=(WM N (k+2) (W N k) h).ho/\(WM N (k+2) (W N k) h).ho<=(k+1:Nat)
   rw[z];show 0<=(0:Int)/\(0:Int)<=(k+1:Nat);lia
  ·have:=WN N k g
   show 0<=(WM N (k+2) (W N k) h).ho/\(WM N (k+2) (W N k) h).ho<=(k+1:Nat);rw[z];show 0<=(W N k g).ho+1/\(W N k g).ho+1<=(k+1:Nat);lia
theorem U3(N:Net)(k h:Nat):W N (k+1) h=own N h∨∃r g,Dm N r h g/\W N (k+1) h=over N r (W N k g):=by
 rcases (IQ N (k+2) (W N k) h).one with z|⟨r,g,a,c,z⟩
 ·exact .inl z
 ·exact .inr ⟨r,g,a,z⟩
theorem U4(N:Net):∀k h,le (W N k h) (own N h)
 |0,h=>le_refl _
 |k+1,h=>(IQ N (k+2) (W N k) h).own
theorem Zn(N:Net)(k:Nat)(a:Dm N r h g):le (W N (k+1) h) (over N r (W N k g)) :=
 (IQ N (k+2) (W N k) h).all r g a (by have:=(WN N k g).2;lia)
theorem SX(N:Net):∀k h,le (W N (k+1) h) (W N k h)
 |0,h=>U4 N 1 h
 |k+1,h=>by
  rcases U3 N k h with z|⟨r,g,a,z⟩
  ·rw[z];exact U4 N _ h
  ·rw[z]
   exact le_trans (Zn N (k+1) a) (Gg (SX N k g))
theorem ahU(N:Net)(h:Nat){j k:Nat}(q:j<=k):le (W N k h) (W N j h):=by
 induction q with
 |refl=>exact le_refl _
 |step _ a=>exact le_trans (SX N _ h) a
theorem U5(N:Net):∀k h,le (W N (W N k h).ho.toNat h) (W N k h)
 |0,h=>le_refl _
 |k+1,h=>by
  rcases U3 N k h with z|⟨r,g,a,z⟩
  ·rw[z];exact U4 N _ h
  ·have b:=WN N k g
   have e:(W N (k+1) h).ho.toNat=(W N k g).ho.toNat+1:=by
    rw[z];show ((W N k g).ho+1).toNat=_;lia
   rw[e];refine le_trans (Zn N _ a) ?_;rw[z];exact Gg (U5 N k g)
theorem U6(N:Net):∀(m k h:Nat),h<N.n->(W N k h).ho=m->∃gs:List Nat,gs.length=m+1/\gs.Nodup/\∀x∈gs,x<N.n/\∃j,j<=k/\(W N j x).hd=(W N k h).hd/\(W N j x).co<=(W N k h).co
 |0,k,h,b,e=>⟨[h],rfl,-_,λx d=>by
  have:x=h:=by simpa using d
  subst this;exact⟨b,k,az _,rfl,rF _⟩⟩
 |m+1,0,h,b,e=>by
  have:(0:Int)=((m+1:Nat):Int):=e
  lia
 |m+1,k+1,h,b,e=>by
  rcases U3 N k h with z|⟨r,g,a,z⟩
  ·rw[z] at e
   have:(0:Int)=((m+1:Nat):Int):=e
   lia
  ·have v:=a.cost
   have y:(W N (k+1) h).hd=(W N k g).hd:=by rw[z];rfl
   have u:(W N (k+1) h).co=(W N k g).co+N.c r:=by rw[z];rfl
   have w:(W N (k+1) h).ho=(W N k g).ho+1:=by rw[z];rfl
   obtain⟨gs,s,p,f⟩:=U6 N m k g a.lt.2.1 ∅;refine⟨h::gs,by rw[aV,s],dm.mpr ⟨λq=>?_,p⟩,λx d=>?_⟩
   ·obtain⟨_,j,l,i,o⟩:=f h q
    have:=ahU N h (show j<=k+1 by lia)
    unfold le lt at this;lia
   ·rcases bu.mp d with rfl|q
    ·exact⟨b,k+1,az _,rfl,rF _⟩
    ·obtain⟨t,j,l,i,o⟩:=f x q
     exact⟨t,j,∅,∅,∅⟩
theorem U7(N:Net)(k h:Nat)(c:h<N.n):(W N k h).ho<N.n:=by
 have g:=(WN N k h).1;obtain⟨f,e,b,d⟩:=U6 N (W N k h).ho.toNat k h c ∅
 have:=lA (B:=av N.n) b λx a=>bB.mpr (d x a).1
 rw[be] at this;lia
def settled(N:Net):Nat->Row:=W N (N.n-1)
theorem SY(N:Net)(h:Nat)(a:h<N.n):W N (N.n-1+1) h=settled N h:=by
 refine le_antisymm (SX N _ h) ?_;have c:=(WN N (N.n-1+1) h).1;have b:=U7 N (N.n-1+1) h a;exact le_trans (ahU N h ∅) (U5 N (N.n-1+1) h)
theorem EN(N:Net):Sane N (settled N):=λh a=>⟨(WN N _ h).1,U7 N _ h a⟩
theorem EO(N:Net):Rest N (settled N):=λh b=>by
 have e:=SY N h b;have s:=EN N h b;refine⟨?_,U4 N _ h,λk g a c=>?_⟩
 ·rcases U3 N (N.n-1) h with z|⟨r,g,a,z⟩
  ·exact .inl (e.symm.trans z)
  ·refine .inr ⟨r,g,a,?_,e.symm.trans z⟩
   have d:settled N h=over N r (settled N g):=e.symm.trans z
   have:(settled N h).ho=(settled N g).ho+1:=by rw[d];rfl
   lia
 ·rw[<- e]
  exact Zn N (N.n-1) a
inductive sG(N:Net):Nat->Nat->Prop
 |refl (h):sG N h h
 |step {k h g x} (a:Dm N k h g) (t:sG N g x):sG N h x
theorem sG.trans(t:sG N h g)(u:sG N g x):sG N h x:=by
 induction t with
 |refl=>exact u
 |step a _ b=>exact .step a (b u)
theorem sG.lt(t:sG N h g)(c:h<N.n):g<N.n:=by
 induction t with
 |refl=>exact c
 |step a _ b=>exact b a.lt.2.1
theorem Rest.ads(b:Rest N S)(sS:Sane N S)(a:Dm N k h g):(S h).hd<=(S g).hd:=by
 have:=U1 b sS a (le_refl (S g))
 unfold le lt over at this;dsimp only at this;lia
theorem Rest.ahV(b:Rest N S)(sS:Sane N S)(t:sG N h g):(S h).hd=(S g).hd:=by
 induction t with
 |refl=>rfl
 |step a _ c =>
  have e:=b.ads sS a;have d:=b.ads sS a.symm;lia
structure kH(N:Net)(R:Nat->Row)(k h g:Nat):Prop where
 lZ:Dm N k h g
 cut:(R g).ho+1<N.n
 eq:R h=over N k (R g)
theorem Dm.far(a:Dm N k h g)(c:Dm N k h g'):g=g':=by
 obtain⟨b,e⟩:=a;obtain⟨_,d⟩:=c
 have:=(N.ab k b).2.2
 lia
section
variable{R:Nat->Row}{k h g:Nat}
theorem kH.ho(t:kH N R k h g):(R h).ho=(R g).ho+1:=by rw[t.eq];rfl
theorem kH.hd(t:kH N R k h g):(R h).hd=(R g).hd:=by rw[t.eq];rfl
theorem kH.by(t:kH N R k h g):(R h).by_=k:=by rw[t.eq];rfl
theorem kH.uniq(t:kH N R k h g)(u:kH N R k' h g'):k=k'/\g=g':=by
 have b:=t.by;have a:=u.by;have e:k=k':=∅
 subst e;exact⟨rfl,t.lZ.far u.lZ⟩
theorem kH.one(t:kH N R k h g)(u:kH N R k h' g'):h=h'/\g=g':=by
 obtain⟨f,e⟩:=t.lZ;obtain⟨_,b⟩:=u.lZ;have i:=t.ho;have d:=u.ho;have a:h=h'∨(h=g'/\g=h'):=by
  rcases e with ⟨rfl,rfl⟩|⟨rfl,rfl⟩ <;> rcases b with ⟨rfl,rfl⟩|⟨rfl,rfl⟩ <;> simp
 rcases a with a|⟨a,c⟩
 ·subst a
  exact⟨rfl,t.lZ.far u.lZ⟩
 ·subst a c
  lia
end
theorem Rest.hangs(d:Rest N S){h:Nat}(b:h<N.n):S h=own N h∨∃k g,kH N S k h g:=by
 rcases (d h b).one with z|⟨k,g,a,c,z⟩
 ·exact .inl z
 ·exact .inr ⟨k,g,a,c,z⟩
inductive Up(N:Net)(R:Nat->Row):Nat->Nat->Prop
 |refl (h):Up N R h h
 |step {k h g x} (t:kH N R k h g) (u:Up N R g x):Up N R h x
theorem Up.adt(t:Up N R h g):sG N h g:=by
 induction t with
 |refl h=>exact .refl h
 |step a _ b=>exact .step a.lZ b
theorem Rest.Ov{S:Nat->Row}(b:Rest N S)(sS:Sane N S):∀(m h:Nat),h<N.n->(S h).ho=m->∃g,Up N S h g/\S g=own N g/\(S h).hd=N.nm g
 |0,h,a,e=>by
  rcases b.hangs a with z|⟨k,g,t⟩
  ·exact⟨h,.refl h,z,by rw[z];rfl⟩
  ·have c:=(sS g t.lZ.lt.2.1).1
   have:=t.ho
   lia
 |m+1,h,a,e=>by
  rcases b.hangs a with z|⟨k,g,t⟩
  ·exact⟨h,.refl h,z,by rw[z];rfl⟩
  ·have:=t.ho
   obtain⟨x,l,q,z⟩:=b.Ov sS m g t.lZ.lt.2.1 ∅;exact⟨x,.step t l,q,by rw[t.hd];exact z⟩
inductive S1(N:Net)(R:Nat->Row):Nat->Nat->Prop
 |refl (h):S1 N R h h
 |up {k h g x} (t:kH N R k h g) (u:S1 N R g x):S1 N R h x
 |down {k h g x} (t:kH N R k g h) (u:S1 N R g x):S1 N R h x
theorem S1.trans(t:S1 N R h g)(u:S1 N R g x):S1 N R h x:=by
 induction t with
 |refl=>exact u
 |up a _ b=>exact .up a (b u)
 |down a _ b=>exact .down a (b u)
theorem S1.symm(t:S1 N R h g):S1 N R g h:=by
 induction t with
 |refl h=>exact .refl h
 |up a _ b=>exact b.trans (.down a (.refl _))
 |down a _ b=>exact b.trans (.up a (.refl _))
theorem Up.opn(t:Up N R h g):S1 N R h g:=by
 induction t with
 |refl h=>exact .refl h
 |step a _ b=>exact .up a b
theorem Rest.opn(b:Rest N S)(sS:Sane N S){h:Nat}(a:h<N.n)(l:sG N h g):S1 N S h g:=by
 have c:=l.lt a;obtain⟨x,u,q,z⟩:=b.Ov sS (S h).ho.toNat h a (by have:=(sS h a).1;lia);obtain⟨y,v,r,w⟩:=b.Ov sS (S g).ho.toNat g c (by have:=(sS g c).1;lia);have e:x=y:=N.inj x y (u.adt.lt a) (v.adt.lt c) (by have:=b.ahV sS l;lia);subst e;exact u.opn.trans v.opn.symm
def ae3(n:Nat)(xs:List Nat):Prop:=∀h,h<n->h∈xs
end RM
namespace RM
variable{N:Net}
end RM
namespace L2
open PySem PySem.Spec PyProof.Rows
inductive Qo:List Value->List Value->Bool->Prop
 |nil:Qo [] [] false
 |ne {a c:Int} {t u:Tok} {vs ws:List Value} (h:a≠c):Qo (.int a t::vs) (.int c u::ws) (decide (a<c))
 |eq {a:Int} {t u:Tok} {vs ws:List Value} {r:Bool} (h:Qo vs ws r):Qo (.int a t::vs) (.int a u::ws) r
section
open PySem.SeqAt
open PySem.AutoSeq1 (wpAny_loadPart')
open PySem.MeetsSeq PySem.MeetsSeq2 PySem.MeetsSeq3
theorem S3(l b:Addr)(items f:Array Value)(n M:Nat)(dd E:Option Addr)(L D:Array (Option Value))(r:Bool)(K:Qo items.toList f.toList r)(hsz:items.size=f.size) :
 Meets (Builtin.«tuple.__lt__» ⟨[.ref l,.ref b],[]⟩)
  (λ_ R s=>s.heap.get? l=some {cls:=.type "tuple",dict:=dd,data:=.seq items n,slots:=L}/\s.heap.get? b=some {cls:=.type "tuple",dict:=E,data:=.seq f M,slots:=D} /\
   R (.ok (.ret (.bool r))) s) :=
 .of_wp λj w A R s h=>by
  obtain⟨z,g,d,v,os⟩:=s;obtain⟨J,N,h⟩:=h;have S:=AutoSeq1.sub_tuple_tuple
  wp_walk using wpAny_loadPart' J,wpAny_loadPart' N,wpAny_forIn_list _ (λrest b C=>b.1=none/\C=⟨z,g,d,v,os⟩/\∃(q p:List Value),rest=q.zip p/\Qo q p r) _
  case turn =>
   rintro⟨y,x⟩ rest b C ⟨o,rfl,q,p,k,m⟩;cases m with
   |nil=>rw[List.zip_nil_left] at k;cases k
   |@ne a c t u q p B =>
    rw[List.zip_cons_cons] at k;injection k with hyx hrest
    injection hyx with hy m
    subst hy m;obtain⟨e,G,i⟩:=HT.P9 A.in1 ⟨z,g,d,v,os⟩ a t c u;refine wpAny_bind (G j w _ _ ?_);cases e with
    |true=>exact cy (i.mp rfl) B
    |false =>
     have I:=HT.YX A.in1 ⟨z,g,d,v,os⟩ a t c u j w
     wp_walk using I
     exact⟨_,rfl,by simpa using h⟩
   |@eq a t u q p O F =>
    rw[List.zip_cons_cons] at k;injection k with hyx hrest
    injection hyx with hy m
    subst hy m;obtain⟨e,G,i⟩:=HT.P9 A.in1 ⟨z,g,d,v,os⟩ a t a u;refine wpAny_bind (G j w _ _ ?_);cases e with
    |true =>
     wp_walk
     exact⟨rfl,rfl,_,_,hrest,F⟩
    |false=>exact cy (i.mpr rfl) aI
  case fin =>
   rintro⟨Q,P⟩ C ⟨o,rfl,q,p,k,m⟩;simp only at o;subst o;cases m with
   |nil =>
    have H:decide (items.size<f.size)=false:=e8 ∅;rw[<- H] at h
    wp_walk
    exact⟨_,rfl,by simpa [Builtin.Tuple.tupleCompareSizes] using h⟩
   |ne=>rw[List.zip_cons_cons] at k;cases k
   |eq=>rw[List.zip_cons_cons] at k;cases k
  case h =>
   exact⟨rfl,rfl,items.toList,f.toList,rfl,K⟩
end
theorem aby{prog:Program}{w:World}{A:Around}{E:Value->Shared->Prop}{s:Shared}{l b:Addr}{items a:Array Value}{r:Bool}{Q:Value->Shared->Prop}(hl:IsTup s.heap l items)(o:IsTup s.heap b a)(u:Qo items.toList a.toList r)(hsz:items.size=a.size)
 (q:A.units<cLine) (h:Q (.bool r) s):wpAny (model prog w) A (compareOp .Lt (.ref l) (.ref b)) Q E s:=by
 obtain⟨⟨p,z,i,v⟩,k,j,n,m⟩:=id hl;obtain⟨⟨t,g,data2,f⟩,d,c,y,e⟩:=id o;simp only at j m c e;subst j m c e;exact richCompare_meets_room (op:=.Lt) ⟨_,k,rfl⟩ ⟨_,d,rfl⟩ PySem.F.slot_tuple_lt PySem.F.entry_tuple_lt (PySem.F.args_tuple_lt_2 _ _) (S3 l b items a n y z g v f r u hsz)
  ⟨k,d,show Value.bool r≠Value.notImplemented/\Q (.bool r) s from ⟨(λx=>nomatch x),h⟩⟩ q
inductive Jz:List V->List V->Bool->Prop
 |nil:Jz [] [] false
 |ne {a c:Int} {vs ws:List V} (h:a≠c):Jz (.int a::vs) (.int c::ws) (decide (a<c))
 |eq {a:Int} {vs ws:List V} {r:Bool} (h:Jz vs ws r):Jz (.int a::vs) (.int a::ws) r
theorem Jz.vals(h:Jz vs ws r):∀{us a:List Value},cF vs us->cF ws a->Qo us a r:=by
 induction h with
 |nil=>intro us a b c;cases b;cases c;exact .nil
 |ne h =>
  intro us a b c;cases b with
  |cons d _ =>
   cases c with
   |cons e _ =>
    obtain⟨t,rfl⟩:=d;obtain⟨u,rfl⟩:=e;exact .ne h
 |eq _ f =>
  intro us a b c;cases b with
  |cons d i =>
   cases c with
   |cons e g =>
    obtain⟨t,rfl⟩:=d;obtain⟨u,rfl⟩:=e;exact .eq (f i g)
section
variable{X:Cx}
def alG(K:ah):R2:=λx y H Q=>∃a b xs ys r,x=.ref a/\y=.ref b/\cX K H a xs/\cX K H b ys/\xs.length=ys.length/\Jz xs ys r/\Q (.bl r) H
theorem ae4(g:X.A.units<cLine):yH X (compareOp .Lt) (alG X.K):=by
 intro f s z H x y v u Q I k i h;obtain⟨a,b,w,B,r,rfl,rfl,l,t,m,o,q⟩:=h;cases k;cases i;obtain⟨j,e,p,_⟩:=I.tuple l;obtain⟨d,c,n,_⟩:=I.tuple t;exact aby p n (o.vals e c) (by rw[aZ,aZ,<- e.length,<- c.length];exact m) g ⟨.bl r,H,I,rfl,q⟩
end
end L2
namespace RM
open PySem L2
def jF(b:Int):V:=if b<0 then .f9 else .int b
abbrev c7(r:Row):List V:=[.int r.hd,.int r.co,.int r.ho,jF r.by_]
theorem br{b:Int}(h:b<0):jF b=.f9:=aq h
theorem bh{b:Int}(h:0<=b):jF b=.int b:=b3 ∅
end RM
namespace L2
open PySem PySem.Spec PyProof.Rows
end L2
namespace L2
open PySem PySem.Spec PyProof.Rows RM
end L2
namespace L2
open PySem PySem.Spec PyProof.Rows
section
variable{X:Cx}
def alH(K:ah):R2:=λx y H Q=>∃da db,Rep K H da x/\Rep K H db y/\da.canLay0=true/\db.canLay0=true/\da.depth<=64/\Q (.bl (PyData.eqv da db)) H
theorem abz(K:ah)(g:X.K=K)(c:X.A.units+64<cLine):yH X (compareOp .Eq) (alH K):=by
 subst g;intro a s b H x y v u Q I e d ⟨k,j,f,l,i,h,m,q⟩;exact wz a s b H x y v u Q I e d ⟨k,j,f,l,i,h,bX (dB (aN (i9 _ _) m) _) c,q⟩
end
end L2
namespace RM
open PySem L2
def Yi(b:Int):PyData:=if b<0 then .none else .int b
def Gh(r:Row):PyData:=.tuple [.int r.hd,.int r.co,.int r.ho,Yi r.by_]
theorem abA{K:ah}(b:Int):Rep K H (Yi b) (jF b):=by
 unfold Yi jF;by_cases h:b<0
 ·rw[aq h,aq h];rfl
 ·rw[b3 h,b3 h];rfl
theorem AE{K:ah}(h:cX K H p (c7 r)):Rep K H (Gh r) (.ref p) :=
 ⟨p,_,rfl,h,_,_,rfl,rfl,_,_,rfl,rfl,_,_,rfl,rfl,_,_,rfl,abA _,rfl⟩
theorem AF(r:Row):(Gh r).canLay0=true:=by
 show (true&&(true&&(true&&((Yi r.by_).canLay0&&true))))=true;unfold Yi;split <;> rfl
theorem MU(r:Row):(Gh r).depth=1:=by
 show max 0 (max 0 (max 0 (max (Yi r.by_).depth 0)))+1=1;unfold Yi;split <;> rfl
theorem Qp{r s:Row}(g:-1<=r.by_)(hs:-1<=s.by_):PyData.eqv (Gh r) (Gh s)=decide (r=s):=by
 have e:PyData.eqv (Gh r) (Gh s)=((r.hd==s.hd)&&((r.co==s.co)&&((r.ho==s.ho)&&(PyData.eqv (Yi r.by_) (Yi s.by_)&&true)))):=rfl;rw[e];have f:PyData.eqv (Yi r.by_) (Yi s.by_)=decide (r.by_=s.by_):=by
  unfold Yi;by_cases b:r.by_<0 <;> by_cases a:s.by_<0
  ·rw[aq b,aq a]
   exact (eH ∅).symm
  ·rw[aq b,b3 a]
   exact (e8 ∅).symm
  ·rw[b3 b,aq a]
   exact (e8 ∅).symm
  ·rw[b3 b,b3 a]
   show (r.by_==s.by_)=_;by_cases c:r.by_=s.by_
   ·rw[eH c,c];exact beq_self_eq_true _
   ·rw[e8 c];exact beq_eq_false_iff_ne.mpr c
 rw[f];by_cases h:r=s
 ·subst h
  simp
 ·rw[e8 h]
  have:¬(r.hd=s.hd/\r.co=s.co/\r.ho=s.ho/\r.by_=s.by_):=λz=>h (Row.ext' z.1 z.2.1 z.2.2.1 z.2.2.2)
  simp only[Bool.and_true];by_cases b:r.hd=s.hd
  ·by_cases a:r.co=s.co
   ·by_cases c:r.ho=s.ho
    ·have d:¬r.by_=s.by_:=λz=>this ⟨b,a,c,z⟩
     simp[d]
    ·simp[c]
   ·simp[a]
  ·simp[b]
end RM
namespace L2
open PySem PySem.Spec PyProof.Rows
end L2
namespace RM
open PySem L2
theorem abB(h:r.hd=s.hd->r.co=s.co->r.ho=s.ho->¬lt r s):Jz [.int r.hd,.int r.co,.int r.ho] [.int s.hd,.int s.co,.int s.ho] (decide (lt r s)):=by
 obtain⟨i,k,j,p⟩:=r;obtain⟨l,n,m,o⟩:=s;dsimp only at h;have a:∀{b g:Bool} {vs ws},Jz vs ws b->b=g->Jz vs ws g:=λh e=>e▸h;by_cases d:i=l
 ·subst d
  by_cases c:k=n
  ·subst c
   by_cases f:j=m
   ·subst f
    exact a (.eq (.eq (.eq .nil))) (e8 (h rfl rfl rfl)).symm
   ·exact a (.eq (.eq (.ne f))) (by unfold lt;simp[f])
  ·exact a (.eq (.ne c)) (by unfold lt;simp[c])
 ·exact a (.ne d) (by unfold lt;simp[d])
end RM
namespace L2
open PySem PySem.Spec PyProof.Rows
end L2
set_option maxHeartbeats 4000000
namespace TW
open PySem L2 PyProof.Rows
open RM (c7 jF br bh)
seal L2.PE L2.PA L2.PT L2.PW L2.PS L2.iP L2.PG L2.kg L2.PI L2.kh
structure Zo(n:Int)(a b c d e:Int):Prop where
 a0:0<=a
 a1:a<n
 b0:0<=b
 b1:b<n
 ab:a≠b
 c1:1<=c
 d1:1<=d
 d4:d<=4
 e1:1<=e
 e7:e<=7
abbrev ahW(a b c d e:Int):List V:=[.int a,.int b,.int c,.int d,.int e]
structure R5 where
 a:Int
 b:Int
 c:Int
 d:Int
 e:Int
abbrev R5.vs(r:R5):List V:=ahW r.a r.b r.c r.d r.e
abbrev R5.ns(r:R5):List Int:=[r.a,r.b,r.c,r.d,r.e]
def R5.D(r:R5):PyData:=.tuple (r.ns.map .int)
abbrev R5.Ok(n:Int)(r:R5):Prop:=Zo n r.a r.b r.c r.d r.e
def JA(K:ah)(H:Hp)(l:Addr)(rs:List R5):Prop:=Rep K H (.list (rs.map R5.D)) (.ref l)
section
variable{K:ah}{H H':Hp}{l:Addr}{rs:List R5}
theorem JA.mono(s:aG H H')(h:JA K H l rs):JA K H' l rs:=Rep.mono s h
theorem JA.at(h:JA K H l rs):∃vs,bN K H l vs/\vs.length=rs.length/\∀(i:Nat) r,rs[i]?=some r->∃p,vs[i]?=some (.ref p)/\cX K H p r.vs:=by
 obtain⟨a,vs,e,q,r⟩:=h;cases e;refine⟨vs,q,by rw[r.length,af],λi x b=>?_⟩;obtain⟨v,f,c⟩:=r.get (i:=i) (d:=x.D) (by rw[ak,b];rfl);obtain⟨p,e,g⟩:=Rep.AB (ns:=x.ns) c;subst e;exact⟨p,f,g⟩
end
theorem JB:∀(ns:List Int),ns.Nodup->(firstMet (λi=>ns.getD i 0) ns.length).length=ns.length:=by
 intro ns k;have e:(av ns.length).map (λi=>ns.getD i 0)=ns:=by
  apply yE
  ·simp
  ·intro i d m
   simp at d;simp[ao,d]
 have c:∀(b a:List Int),(a++b).Nodup->b.foldl step_dedup a=a++b:=by
  intro b;induction b with
  |nil=>intro a _;simp
  |cons x b g =>
   intro a h;have f:x∉a:=λj=>by
    rw[g8] at h;exact h.2.2 x j x (-_) rfl
   have l:step_dedup a x=a++[x]:=by
    unfold step_dedup;simp[f]
   rw[jb,l,g _ (by simpa using h)];simp
 unfold firstMet;rw[e,c ns [] (by simpa using k)];simp
theorem d9{f:Str}{v:V}:∀{a:List (Str×V)} {names:List Str},a.map (·.1)=names->names.contains f=false->Am f v a=a++[(f,v)]
 |[],_,_,_=>rfl
 | (g,u)::r,_,e,h=>by
  subst e;rw[bG,List.contains_cons,Bool.or_eq_false_iff] at h;have b:¬g=f:=λz=>by
   have:=h.1
   rw[z] at this;simp at this
  show (if g=f then (g,v)::r else (g,u)::Am f v r)=_;rw[b3 b,d9 rfl h.2];rfl
theorem BZ{K:ah}{H c:Hp}{p:Addr}(k:∀b o,H b=some o->b≠p->c b=some o)(d:H p=some (.ins C dx fs))(h:bN K H a xs):bN K c a xs:=by
 rcases h with (h|⟨o,h⟩)|h
 ·exact .inl (.inl (k _ _ h (pU h d (by intro z;cases z))))
 ·exact .inl (.inr ⟨o,k _ _ h (pU h d (by intro z;cases z))⟩)
 ·exact .inr h
theorem abC{K:ah}{H c:Hp}{p:Addr}(k:∀b o,H b=some o->b≠p->c b=some o)(d:H p=some (.ins C dx fs))(h:cX K H a xs):cX K c a xs:=by
 rcases h with (h|⟨o,h⟩)|h
 ·exact .inl (.inl (k _ _ h (pU h d (by intro z;cases z))))
 ·exact .inl (.inr ⟨o,k _ _ h (pU h d (by intro z;cases z))⟩)
 ·exact .inr h
mutual
theorem abD{K:ah}{H f:Hp}{p C i:Addr}{g:List (Str×V)}(k:∀b o,H b=some o->b≠p->f b=some o)(c:H p=some (.ins C i g)):∀{d:PyData} {v:V},Rep K H d v->Rep K f d v
 |.none,_,h=>h
 |.bool _,_,h=>h
 |.int _,_,h=>h
 |.str _,_,h=>h
 |.list ds,_,⟨a,vs,e,q,r⟩=>⟨a,vs,e,BZ k c q,kI k c r⟩
 |.tuple ds,_,⟨a,vs,e,q,r⟩=>⟨a,vs,e,abC k c q,kI k c r⟩
 |.dict _,_,h=>h
theorem kI{K:ah}{H a:Hp}{p C f:Addr}{d:List (Str×V)}(k:∀b o,H b=some o->b≠p->a b=some o)(c:H p=some (.ins C f d)):∀{ds:List PyData} {vs:List V},dO K H ds vs->dO K a ds vs
 |[],_,h=>h
 |_::_,_,⟨v,r,e,q,t⟩=>⟨v,r,e,abD k c q,kI k c t⟩
end
abbrev alI(ln lr:Addr)(n m:Nat):List (Str×V):=[("house_names",.ref ln),("rope_tuples",.ref lr),("size",.int n),("many",.int m)]
structure dM(K:ah)(C:Addr)(H:Hp)(p ln lr:Addr)(ns:List Int)(rs:List R5):Prop where
 ob:∃dx,H p=some (.ins C dx (alI ln lr ns.length rs.length))
 nl:H ln=some (.lst (ns.map V.int))
 rl:∃vs,H lr=some (.lst vs)/\dO K H (rs.map R5.D) vs
section
variable{K:ah}{C:Addr}{H H':Hp}{p ln lr:Addr}{ns:List Int}{rs:List R5}
theorem dM.mono(s:aG H H')(h:dM K C H p ln lr ns rs):dM K C H' p ln lr ns rs:=by
 obtain⟨⟨c,d⟩,a,b,e,f⟩:=h;exact⟨⟨c,s _ _ d⟩,s _ _ a,b,s _ _ e,f.mono s⟩
end
theorem Ow(a x:Int):Wq (.int a) (.int x)=decide (x=a):=by
 show (a==x)=decide (x=a);by_cases e:x=a
 ·rw[eH e,e];exact beq_self_eq_true a
 ·rw[e8 e];exact beq_eq_false_iff_ne.mpr (bO e)
theorem tS(x:Int)(xs:List Int):Ge (.int x) (xs.map V.int)=decide (x∈xs):=by
 unfold Ge;induction xs with
 |nil=>simp
 |cons y d c =>
  rw[bG,pR,c,Ow];by_cases a:x=y
  ·subst a;simp
  ·by_cases b:x∈d
   ·simp[a,b]
   ·simp[a,b]
theorem tD(xs:List Int):(xs.map V.int).all zV=true:=by
 rw[yF];intro v a;obtain⟨x,_,rfl⟩:=aL.mp a;rfl
def above(xs:List Int)(x:Int):Nat:=(xs.filter λy=>decide (x<=y)).length
theorem Zp{xs:List Int}{x:Int}(h:x∈xs):above xs (x+1)<above xs x:=by
 unfold above;induction xs with
 |nil=>cases h
 |cons y c g =>
  have f:(c.filter λy=>decide (x+1<=y)).length<=(c.filter λy=>decide (x<=y)).length:=by
   clear g h;induction c with
   |nil=>simp
   |cons z j b =>
    simp only[gK];by_cases a:x+1<=z
    ·rw[aq (by simpa using a),aq (by simp;lia)];simp;exact b
    ·rw[b3 (by simpa using a)]
     split
     ·simp;lia
     ·exact b
  simp only[gK];by_cases d:x=y
  ·subst d
   rw[b3 (by simp;lia),aq (-_)];simp;lia
  ·have i:x∈c:=by
    rcases bu.mp h with e|e
    ·exact cy e d
    ·exact e
   have:=g i
   by_cases a:x+1<=y
   ·rw[aq (by simpa using a),aq (by simp;lia)];simp;exact this
   ·rw[b3 (by simpa using a),b3 (by simp;lia)];exact this
theorem abE{n x y:Int}(j:2<=n):0<=x%n/\x%n<n/\0<=(x%n+1+y%(n-1))%n/\(x%n+1+y%(n-1))%n<n/\x%n≠(x%n+1+y%(n-1))%n:=by
 have e:=b5 x (show n≠0 by lia);have d:=cP x (show 0<n by lia);have i:=b5 y (show n-1≠0 by lia);have h:=cP y (show 0<n-1 by lia);have g:=b5 (x%n+1+y%(n-1)) (show n≠0 by lia);have f:=cP (x%n+1+y%(n-1)) (show 0<n by lia);refine⟨e,d,g,f,?_⟩;generalize x%n=a at *;generalize y%(n-1)=b at *;by_cases c:a+1+b<n
 ·rw[Int.emod_eq_of_lt ∅ c];lia
 ·rw[<- Int.sub_emod_right,Int.emod_eq_of_lt ∅ ∅];lia
theorem ae5{r:TS}{H:Hp}(J:L2.St->Hp->Prop)(b:∀a H,J a H->r D a H)(h:(∀a H,J a H->r D a H)->So c t u {D with nx:=r D} a H):Yy (So c t u) r D a H:=h b
theorem S4{K:ah}(h:cX K H1 a xs):∀i H,i<xs.length->aG H1 H->(Itt K a).go i H:=λi H b s=>⟨xs,xs[i],s.cz h,by simp[b]⟩
theorem JC{K:ah}(h:cX K H1 a xs):∀H,aG H1 H->(Itt K a).stop xs.length H:=λH s=>⟨xs,s.cz h,az _⟩
structure Dn(n m:Nat)(r:RM.Row):Prop where
 hd:0<=r.hd
 co:0<=r.co
 ho:0<=r.ho/\r.ho<n
 by_:r.by_=-1∨(0<=r.by_/\r.by_<m)
abbrev bF(ks:List Nat):List V:=ks.map λk=>V.int (k:Nat)
theorem iC(ks:List Nat)(k:Nat):bF (ks++[k])=bF ks++[V.int (k:Nat)]:=by
 unfold bF;rw[aK];rfl
theorem abF{K:ah}{H:Hp}(b:H q=some (.lst xs))(h:cX K H a ys):cX K (upd H q o) a ys:=by
 rcases h with (h|⟨c,h⟩)|h
 ·exact .inl (.inl (by rw[aO (pU h b (by intro z;cases z))];exact h))
 ·exact .inl (.inr ⟨c,by rw[aO (pU h b (by intro z;cases z))];exact h⟩)
 ·exact .inr h
def aR(ns:List Int)(rs:List R5)(live:List Nat)(nd:ns.Nodup)(ok:∀r∈rs,r.Ok ns.length)(hl:∀k∈live,k<rs.length):RM.Net where
 n:=ns.length
 nm i:=ns.getD i 0
 a k:=((rs[k]?).map λr=>r.a.toNat).getD 0
 b k:=((rs[k]?).map λr=>r.b.toNat).getD 0
 c k:=((rs[k]?).map λr=>r.c).getD 0
 live:=live
 inj i j hi hj e:=by
  have e1:ns.getD i 0=ns[i]:=by simp[ao,hi]
  have e2:ns.getD j 0=ns[j]:=by simp[ao,hj]
  have e:ns[i]=ns[j]:=by rw[<- e1,<- e2];exact e
  exact (wm hi nd).mp (by rw[aa hi,aa hj,e])
 ab k hk:=by
  have h:=hl k hk;have o:=ok _ (aH h);simp only[aa h,Option.map_some,Option.getD_some];have h1:=o.a0;have h2:=o.a1;have h3:=o.b0;have h4:=o.b1;have h5:=o.ab;exact⟨∅,∅,∅⟩
 c1 k hk:=by
  have h:=hl k hk;have o:=ok _ (aH h);simp only[aa h,Option.map_some,Option.getD_some];exact o.c1
def yK(K:ah)(H:Hp)(l:Addr)(n:Nat)(R:Nat->RM.Row):Prop:=∃ps:List Addr,bN K H l (ps.map V.ref)/\ps.length=n/\∀(i:Nat) p,ps[i]?=some p->cX K H p (c7 (R i))
theorem yK.mono{K:ah}(s:aG H H')(h:yK K H l n R):yK K H' l n R:=by
 obtain⟨d,b,a,c⟩:=h;exact⟨d,s.seq b,a,λi p e=>s.cz (c i p e)⟩
theorem iD:∀ns:List Int,PyData.canLayAll0 (ns.map .int)=true
 |[]=>rfl
 |n::ns=>by
  show (PyData.canLay0 (.int n)&&PyData.canLayAll0 (ns.map .int))=true;rw[iD ns];rfl
theorem nO:∀ns:List Int,PyData.depthAll (ns.map .int)=0
 |[]=>rfl
 |n::ns=>by
  show max (PyData.depth (.int n)) (PyData.depthAll (ns.map .int))=0;rw[nO ns];rfl
theorem JD(xs:List V)(i:Nat):Av xs (some (i:Int)) none=xs.drop i:=by
 unfold Av;rw[HT.Ez];show (xs.drop (min i xs.length)).take (xs.length-min i xs.length)=_;by_cases h:i<=xs.length
 ·rw[Nat.min_eq_left h,ng (by rw[List.length_drop];exact az _)]
 ·rw[Nat.min_eq_right ∅,List.drop_of_length_le (az _),List.drop_of_length_le ∅]
  simp
section
variable{ns:List Int}{rs:List R5}{live:List Nat}{nd:ns.Nodup}{ok:∀r∈rs,r.Ok ns.length}{hl:∀k∈live,k<rs.length}
def wB(n m:Nat)(R:Nat->RM.Row):Prop:=∀i,i<n->Dn n m (R i)
theorem wB.LX(h:wB ns.length m R):RM.Sane (aR ns rs live nd ok hl) R:=λi a=>(h i a).ho
theorem abG{h:Nat}(l:wB ns.length rs.length R)(b:h<ns.length)(m:∀x∈ns,0<=x)(i:RM.xW (N:=aR ns rs live nd ok hl) ns.length R h d):Dn ns.length rs.length d:=by
 rcases i.one with e|⟨k,g,a,c,e⟩
 ·rw[e]
  have j:(aR ns rs live nd ok hl).nm h=ns[h]:=by show ns.getD h 0=_;simp[ao,b]
  refine⟨?_,rF _,⟨rF _,?_⟩,.inl rfl⟩
  ·show 0<=(aR ns rs live nd ok hl).nm h
   rw[j];exact m _ (aH b)
  ·show (0:Int)<ns.length
   lia
 ·have f:=l g a.lt.2.1
  have o:=a.cost;have n:k<rs.length:=hl k a.1;rw[e];refine⟨f.hd,?_,⟨?_,c⟩,.inr ⟨?_,?_⟩⟩
  ·show 0<=(R g).co+(aR ns rs live nd ok hl).c k
   have:=f.co
   lia
  ·show 0<=(R g).ho+1
   have:=f.ho.1
   lia
  ·show (0:Int)<=(k:Nat);lia
  ·show ((k:Nat):Int)<(rs.length:Nat);lia
end
theorem Dn.by1(h:Dn n m r):-1<=r.by_:=by have:=h.by_;lia
def isAt(rs:List R5)(h:Int)(i:Nat):Bool:=match rs[i]? with|some r=>decide (h=r.a) || decide (h=r.b)|none=>false
def Yj(rs:List R5)(h:Int)(n:Nat):List Nat:=(av n).filter (isAt rs h)
theorem Qq(rs:List R5)(h:Int)(n:Nat):Yj rs h (n+1)=Yj rs h n++(if isAt rs h n then [n] else []):=by
 unfold Yj;rw[gA,gB];congr 1;by_cases a:isAt rs h n=true
 ·rw[aq a];simp[a]
 ·rw[b3 a];simp[a]
theorem abH(rs:List R5)(h:Int)(n:Nat):(Yj rs h n).length<=n:=by
 have:=bx (isAt rs h) (av n)
 rw[be] at this;exact this
theorem ae6(x a b:Int):Ge (V.int x) [V.int a,V.int b]=(decide (x=a) || decide (x=b)):=by
 show (Wq (.int a) (.int x) || (Wq (.int b) (.int x) || false))=_;rw[Ow,Ow,Bool.or_false]
theorem fL(ks:List Nat):bF ks=(ks.map λk:Nat=>(k:Int)).map V.int:=by
 unfold bF;rw[bV];rfl
theorem om(x:Nat)(xs:List Nat):Ge (.int (x:Nat)) (bF xs)=decide (x∈xs):=by
 rw[fL,tS];by_cases h:x∈xs
 ·rw[eH h]
  exact eH (aL.mpr ⟨x,h,rfl⟩)
 ·rw[e8 h]
  refine e8 λz=>h ?_;obtain⟨y,a,e⟩:=aL.mp z
  have:y=x:=∅
  exact this▸a
theorem je(xs:List Nat):(bF xs).all zV=true:=by rw[fL];exact tD _
theorem Zq(rs:List R5)(h:Int)(n:Nat):(Yj rs h n).Pairwise (·<·):=List.Pairwise.filter _ ni
theorem abI{ks:List Nat}(h:ks.Pairwise (·<·)){j:Nat}(c:j<ks.length){k:Nat}(a:k∈ks.take j):k<ks[j]:=by
 obtain⟨i,b,e⟩:=lK a;rw[cu] at b;rw[List.getElem_take] at e;rw[<- e];exact List.pairwise_iff_getElem.mp h i j ∅ c ∅
theorem Ca:k∈Yj rs h n↔k<n/\isAt rs h k=true:=by
 unfold Yj;rw[aT,bB]
section
variable{ns:List Int}{rs:List R5}{live:List Nat}{nd:ns.Nodup}{ok:∀r∈rs,r.Ok ns.length}{hl:∀k∈live,k<rs.length}
def gD(r:R5)(h:Nat):Nat:=(if (h:Int)=r.a then r.b else r.a).toNat
theorem vA{k:Nat}(f:k∈live):RM.Dm (aR ns rs live nd ok hl) k h g↔isAt rs (h:Int) k=true/\g=gD (rs[k]'(hl k f)) h:=by
 have d:=hl k f;have o:=ok _ (aH d);have i:rs[k]?=some rs[k]:=aa d;have j:(aR ns rs live nd ok hl).a k=rs[k].a.toNat:=by show ((rs[k]?).map λr=>r.a.toNat).getD 0=_;rw[i];rfl
 have l:(aR ns rs live nd ok hl).b k=rs[k].b.toNat:=by show ((rs[k]?).map λr=>r.b.toNat).getD 0=_;rw[i];rfl
 unfold RM.Dm isAt gD;rw[j,l,i];dsimp only;generalize rs[k]=r at o;have n:=o.a0;have m:=o.b0;have p:=o.ab;constructor
 ·rintro⟨_,⟨e,c⟩|⟨e,c⟩⟩
  ·have z:(h:Int)=r.a:=∅
   rw[aq z];exact⟨by simp[z],c.symm⟩
  ·have z:(h:Int)=r.b:=∅
   rw[b3 ∅];exact⟨by simp[z],c.symm⟩
 ·rintro⟨e,c⟩
  refine⟨f,?_⟩;have e:(h:Int)=r.a∨(h:Int)=r.b:=by simpa using e
  by_cases z:(h:Int)=r.a
  ·rw[aq z] at c
   exact .inl ⟨∅,c.symm⟩
  ·rw[b3 z] at c
   exact .inr ⟨∅,c.symm⟩
end
theorem Qs(ns:List Int)(a b:Nat):∃cs:List Int,Av (ns.map V.int) (some (a:Int)) (some (b:Int))=cs.map V.int/\cs.length<=b-a:=by
 refine⟨(ns.drop (HT.lX ns.length 0 (some (a:Int)))).take (HT.lX ns.length ns.length (some (b:Int))-HT.lX ns.length 0 (some (a:Int))),?_,?_⟩
 ·unfold Av
  rw[af,List.map_take,List.map_drop]
 ·rw[HT.Ez,HT.Ez,cu,List.length_drop]
  lia
theorem ER{a:Type}{xs:List a}{x y:a}{j:Nat}(h:(xs++[x])[j]?=some y):xs[j]?=some y∨(j=xs.length/\y=x):=by
 by_cases b:j<xs.length
 ·rw[bR b] at h
  exact .inl h
 ·have:=(ai.mp h).1
  rw[aB] at this;have e:j=xs.length:=by have:j<xs.length+1:=this;lia
  subst e;rw[bT (az _),eV] at h;cases h;exact .inr ⟨rfl,rfl⟩
theorem xW.congr{N:RM.Net}{R S:Nat->RM.Row}(e:∀g,g<N.n->R g=S g)(i:RM.xW (N:=N) cut S h d):RM.xW (N:=N) cut R h d:=by
 refine⟨?_,i.own,λk g a c=>?_⟩
 ·rcases i.one with z|⟨k,g,a,c,z⟩
  ·exact .inl z
  ·refine .inr ⟨k,g,a,?_,?_⟩
   ·rw[e g a.lt.2.1];exact c
   ·rw[e g a.lt.2.1];exact z
 ·rw[e g a.lt.2.1] at c ⊢
  exact i.all k g a c
theorem Rest.congr{N:RM.Net}{R S:Nat->RM.Row}(e:∀g,g<N.n->R g=S g)(r:RM.Rest N S):RM.Rest N R:=λh a=>by
 rw[e h a];exact xW.congr e (r h a)
section
variable{ns:List Int}{rs:List R5}{live:List Nat}{nd:ns.Nodup}{ok:∀r∈rs,r.Ok ns.length}{hl:∀k∈live,k<rs.length}
theorem Zr{m:Nat}(a:2*ns.length<=m)(b:RM.oj ns.length m cs)(d:∀c∈cs,c<ns.length)(t:RM.Run (aR ns rs live nd ok hl) R cs R')(f:wB ns.length rs.length R):RM.Rest (aR ns rs live nd ok hl) R' :=
 Rest.congr (RM.abw (RM.EO _) (RM.EN _) a b d t f.LX) (RM.EO _)
end
theorem oj.post{n:Nat}{w:List Nat}:∀{m:Nat} {cs:List Nat},RM.oj n m cs->RM.oj n m (cs++w)
 |0,_,_=>trivial
 |m+1,_,⟨xs,a,e,c,r⟩=>⟨xs,a++w,by rw[e,gi],c,oj.post r⟩
theorem oj.snoc{n:Nat}{w:List Nat}(a:RM.ae3 n w):∀{m:Nat} {cs:List Nat},RM.oj n m cs->RM.oj n (m+1) (cs++w)
 |0,cs,_=>⟨cs++w,[],by rw[bQ],λh b=>bP _ (a h b),trivial⟩
 |m+1,_,⟨xs,d,e,c,r⟩=>⟨xs,d++w,by rw[e,gi],c,oj.snoc a r⟩
theorem yM{n i:Nat}(h:i<n):YZ n (i:Int)=some i:=by
 unfold YZ;rw[aq ∅,aq ∅];simp
section
variable{ns:List Int}{rs:List R5}{live:List Nat}{nd:ns.Nodup}{ok:∀r∈rs,r.Ok ns.length}{hl:∀k∈live,k<rs.length}
theorem Zs{k:Nat}(h:k<rs.length):(aR ns rs live nd ok hl).a k=rs[k].a.toNat:=by
 show ((rs[k]?).map λr=>r.a.toNat).getD 0=_;rw[aa h];rfl
theorem Zt{k:Nat}(h:k<rs.length):(aR ns rs live nd ok hl).b k=rs[k].b.toNat:=by
 show ((rs[k]?).map λr=>r.b.toNat).getD 0=_;rw[aa h];rfl
theorem ahX{k:Nat}(h:k<rs.length):(aR ns rs live nd ok hl).c k=rs[k].c:=by
 show ((rs[k]?).map λr=>r.c).getD 0=_;rw[aa h];rfl
end
end TW
namespace TW
open PySem L2 PyProof.Rows
theorem bC{a b:TS}{H:Hp}(h:∀N:L2.St->Hp->Prop,(∀c d,b D c d->N c d)->a {D with nx:=N} σ H):Yy a b D σ H:=h _ λ_ _ x=>x
theorem lO{K:ah}{Q:VK}(h:bN K H p xs)(e:Aw xs i=some v)(k:Q v H):SK K (.ref p) (.int i) H Q:=⟨p,xs,i,v,rfl,rfl,h,e,k⟩
theorem abJ{K:ah}{Q:VK}(h:bN K H p xs)(e:Aw xs i=some v)(k:Q v H):tC (.int i) σ H λy a=>SK K (.ref p) y a Q:=⟨p,xs,i,v,rfl,rfl,h,e,k⟩
theorem ie{K:ah}{Q:VK}(h:cX K H p xs)(e:Aw xs i=some v)(k:Q v H):tC (.int i) σ H λy a=>Wp K (.ref p) y a Q:=⟨p,xs,i,v,rfl,rfl,h,e,k⟩
theorem vB{r:TS}{H:Hp}(J:L2.St->Hp->Prop)(b:∀a H,J a H->r D a H)(h:∀N:L2.St->Hp->Prop,(∀a H,J a H->N a H)->So c t u {D with nx:=N} a H):Yy (So c t u) r D a H:=h _ b
theorem tT{lo:Int}{n:Nat}{g:TG}{h:TS}{D:Ends}{a:L2.St}{H:Hp}(e:Nat->L2.St->Hp->Prop)(k:e 0 a H)
 (hs:∀i a H (N:L2.St->Hp->Prop),(∀b c,e (i+1) b c->N b c)->i<n->e i a H->g (.int (lo+i)) a H λd f=>h {D with nx:=N,ct:=N,bk:=D.nx} d f) (o:∀a H,e n a H->D.nx a H) :
 ∃W:Nat->Nat->L2.St->Hp->Prop,(∃m,W 0 m a H)/\∀i m a H,W i m a H ->
  ((YD lo n).stop i H/\D.nx a H)∨((YD lo n).go i H/\∃N:L2.St->Hp->Prop,(∀b c,N b c->∃j,j<m/\W (i+1) j b c)/\∀x c,(YD lo n).P1 i H x c->g x a c λd f=>h {D with nx:=N,ct:=N,bk:=D.nx} d f) :=
 xS e k (λi a H l p=>hs i a H _ (λ_ _ x=>x) l p) o
theorem tE{K:ah}{a:Addr}{xs:List V}{g:TG}{j:TS}{D:Ends}{b:L2.St}{H:Hp}(f:Nat->L2.St->Hp->Prop)(n:f 0 b H)(hl:∀i b H,i<=xs.length->f i b H->bN K H a xs)
 (hs:∀i x b H (N:L2.St->Hp->Prop),(∀c d,f (i+1) c d->N c d)->xs[i]?=some x->f i b H->g x b H λe h=>j {D with nx:=N,ct:=N,bk:=D.nx} e h) (o:∀b H,f xs.length b H->D.nx b H) :
 ∃W:Nat->Nat->L2.St->Hp->Prop,(∃m,W 0 m b H)/\∀i m b H,W i m b H ->
  ((Oe K a).stop i H/\D.nx b H)∨((Oe K a).go i H/\∃N:L2.St->Hp->Prop,(∀c d,N c d->∃k,k<m/\W (i+1) k c d)/\∀x d,(Oe K a).P1 i H x d->g x b d λe h=>j {D with nx:=N,ct:=N,bk:=D.nx} e h) :=
 tM f n hl (λi x b H l p=>hs i x b H _ (λ_ _ x=>x) l p) o
end TW
namespace TW
open PySem L2 PyProof.Rows
open RM (c7 jF br bh)
seal L2.PE L2.PA L2.PT L2.PW L2.PS L2.iP L2.PG L2.kg L2.PI L2.kh
section
open Classical
def tU(N:RM.Net)(R:Nat->RM.Row)(h:Nat):Option (Nat×Nat) :=
 if e:∃p:Nat×Nat,RM.kH N R p.1 h p.2 then some (choose e) else none
end
theorem nP:tU N R h=some (k,g)↔RM.kH N R k h g:=by
 unfold tU;constructor
 ·intro e
  split at e
  ·rename_i q
   have:=Classical.choose_spec q
   rw[aJ e] at this;exact this
  ·cases e
 ·intro t
  have q:∃p:Nat×Nat,RM.kH N R p.1 h p.2:=⟨(k,g),t⟩;rw[dif_pos q];have u:=Classical.choose_spec q;obtain⟨b,a⟩:=u.uniq t;exact ff some (Prod.ext b a)
theorem Qt(q:∀k g,¬RM.kH N R k h g):tU N R h=none:=by
 cases e:tU N R h with
 |none=>rfl
 |some p=>exact cy (nP.mp e) (q p.1 p.2)
def wC(K:ah)(H:Hp)(v:V):Option (Nat×Nat)->Prop
 |none=>v=.f9
 |some p=>∃t,v=.ref t/\cX K H t [.int (p.1:Nat),.int (p.2:Nat)]
theorem wC.mono{K:ah}(s:aG H H')(h:wC K H v o):wC K H' v o:=by
 cases o with
 |none=>exact h
 |some p =>
  obtain⟨t,e,q⟩:=h;exact⟨t,e,s.cz q⟩
theorem wC.lst{K:ah}{H:Hp}(hl:H l=some (.lst xs))(h:wC K H v o):wC K (upd H l ob) v o:=by
 cases o with
 |none=>exact h
 |some p =>
  obtain⟨t,e,q⟩:=h;exact⟨t,e,abF hl q⟩
def ae7(K:ah)(H:Hp)(l:Addr)(n:Nat)(u:Nat->Option (Nat×Nat)):Prop:=∃vs:List V,H l=some (.lst vs)/\vs.length=n/\∀(i:Nat) v,vs[i]?=some v->wC K H v (u i)
section
variable{ns:List Int}{rs:List R5}{live:List Nat}{nd:ns.Nodup}{ok:∀r∈rs,r.Ok ns.length}{hl:∀k∈live,k<rs.length}
theorem Zu{k:Nat}(a:k∈live):(∃g,RM.kH (aR ns rs live nd ok hl) R k h g)↔isAt rs (h:Int) k=true/\(R (gD (rs[k]'(hl k a)) h)).ho+1<ns.length/\R h=RM.over (aR ns rs live nd ok hl) k (R (gD (rs[k]'(hl k a)) h)):=by
 constructor
 ·rintro⟨g,t⟩
  obtain⟨b,c⟩:=(vA a).mp t.lZ;subst c;exact⟨b,t.cut,t.eq⟩
 ·rintro⟨b,c,d⟩
  exact⟨_,(vA a).mpr ⟨b,rfl⟩,c,d⟩
theorem ae8(t:RM.kH (aR ns rs live nd ok hl) R k h g):g=gD (rs[k]'(hl k t.lZ.1)) h:=((vA t.lZ.1).mp t.lZ).2
theorem S5{k:Nat}(a:k<rs.length)(ok:∀r∈rs,r.Ok ns.length):gD rs[k] h<ns.length:=by
 have o:=ok _ (aH a);have c:=o.a0;have b:=o.a1;have e:=o.b0;have d:=o.b1;unfold gD;split <;> lia
theorem U8{k h:Nat}(c:k<rs.length)(ok:∀r∈rs,r.Ok ns.length):(if (h:Int)=rs[k].a then rs[k].b else rs[k].a)=((gD rs[k] h:Nat):Int):=by
 have o:=ok _ (aH c);have e:=o.a0;have d:=o.b0;unfold gD;split <;> lia
end
theorem abK(xs:List Nat):Ge .f9 (bF xs)=false:=by
 unfold Ge;rw[Bool.eq_false_iff];intro h;obtain⟨x,a,e⟩:=lW.mp h;obtain⟨y,_,rfl⟩:=aL.mp a;cases e
end TW
namespace L2
open PySem PySem.Spec PyProof.Rows
theorem ES(h:IntsAre us ns):cF (ns.map V.int) us:=by
 induction h with
 |nil=>exact .nil
 |cons n t _ a=>exact .cons ⟨t,rfl⟩ a
section
variable{X:Cx}
def abL(K:ah):List V->Hp->VK->Prop:=λxs H Q=>∃(a:Addr) (ns:List Int),xs=[.ref a]/\bN K H a (ns.map V.int)/\ns.length<64/\∀l (ns':List Int),H l=none->ns'.Perm ns->ns'.Pairwise (·<=·)->Q (.ref l) (upd H l (.lst (ns'.map V.int)))
theorem AG:nN X (.builtin "sorted") (abL X.K):=by
 intro h s x H w z Q I r ⟨a,n,e,j,t,q⟩;subst e;obtain⟨u,e,i⟩:=cF.one r;subst e;cases i;obtain⟨c,v,p,y⟩:=I.list j;have g:IntsAre c n:=intsAre_of v;have f:=IntsAre.length g;refine sorted_ints (vs:=c) p.isList g ∅ λout d l a2 k=>?_;obtain⟨e,m⟩:=sortedAll_at s.heap c out;refine⟨.ref (s.heap.objs.size+1),_,I.laid (a:=s.heap.objs.size+1) (o:=.lst (d.map V.int)) (t':=s.toks) (λb o e=>sortedAll_old e) (fU _) ⟨?_,out.toList,e,ES l,?_⟩,rfl,q _ d (I.hok.fresh (fU _)) a2 k⟩
 ·rw[af,a2.length_eq]
  exact gI (b4 ∅)
 ·rw[m]
end
end L2
namespace TW
open PySem L2 PyProof.Rows
open RM (c7 jF br bh)
seal L2.PE L2.PA L2.PT L2.PW L2.PS L2.iP L2.PG L2.kg L2.PI L2.kh
theorem MV:∀{xs c:List Nat},xs.Pairwise (·<·)->c.Pairwise (·<·)->(∀k,k∈xs↔k∈c)->xs=c
 |[],[],_,_,_=>rfl
 |[],y::c,_,_,h=>cy ((h y).mpr bE) (-_)
 |x::xs,[],_,_,h=>cy ((h x).mp bE) (-_)
 |x::xs,y::c,d,f,h=>by
  have b:=List.pairwise_cons.mp d;have a:=List.pairwise_cons.mp f;have e:x=y:=by
   rcases bu.mp ((h x).mp bE) with z|z
   ·exact z
   ·rcases bu.mp ((h y).mpr bE) with w|w
    ·exact w.symm
    ·have:=a.1 x z
     have:=b.1 y w
     lia
  subst e;rw[MV b.2 a.2 λk=>?_];constructor
  ·intro z
   rcases bu.mp ((h k).mp (bf _ z)) with w|w
   ·have:=b.1 k z;lia
   ·exact w
  ·intro z
   rcases bu.mp ((h k).mpr (bf _ z)) with w|w
   ·have:=a.1 k z;lia
   ·exact w
theorem kH.lt(t:RM.kH N R k h g):h<N.n/\g<N.n:=⟨t.lZ.lt.1,t.lZ.lt.2.1⟩
def fk(N:RM.Net)(R:Nat->RM.Row)(os:List Nat):Prop:=os.Pairwise (·<·)/\∀k,k∈os↔∃h g,RM.kH N R k h g
theorem fk.uniq(a:fk N R xs)(b:fk N R ys):xs=ys:=MV a.1 b.1 λk=>(a.2 k).trans (b.2 k).symm
theorem Qu{ks:List Nat}{c:List Int}(p:c.Perm (ks.map λk:Nat=>(k:Int)))(o:c.Pairwise (·<=·))(nd:ks.Nodup):∃os:List Nat,c.map V.int=bF os/\os.Pairwise (·<·)/\(∀k,k∈os↔k∈ks)/\os.length=ks.length:=by
 have i:∀m∈c,∃k:Nat,m=(k:Int)/\k∈ks:=λm f=>by
  obtain⟨k,d,e⟩:=aL.mp (p.mem_iff.mp f);exact⟨k,e.symm,d⟩
 have r:(c.map xO).map (λk:Nat=>(k:Int))=c:=by
  rw[bV]
  conv=>rhs;rw[<- List.map_id c]
  apply cY;intro m f;obtain⟨k,e,_⟩:=i m f;rw[e];rfl
 have j:c.Nodup:=by
  refine p.nodup_iff.mpr ?_;unfold List.Nodup;rw[kr];exact nd.imp λh e=>h ∅
 refine⟨c.map xO,?_,?_,λk=>?_,by rw[af,p.length_eq,af]⟩
 ·rw[fL,r]
 ·rw[kr]
  have g:=List.pairwise_and_iff.mpr ⟨o,j⟩;refine List.Pairwise.imp_of_mem (λ{a b} n s h=>?_) g;obtain⟨x,v,_⟩:=i a n;obtain⟨y,l,_⟩:=i b s;have u:=h.1;have t:=h.2;lia
 ·constructor
  ·intro d
   obtain⟨m,f,e⟩:=aL.mp d;obtain⟨y,l,q⟩:=i m f;rw[l] at e
   have:y=k:=by rw[<- e];rfl
   exact this▸q
  ·intro d
   have:((k:Nat):Int)∈c:=p.mem_iff.mpr (aL.mpr ⟨k,d,rfl⟩)
   exact aL.mpr ⟨_,this,rfl⟩
end TW
namespace TW
open PySem L2 PyProof.Rows Gr
open RM (c7 jF br bh)
def pairOf(rs:List R5)(k:Nat):Int×Int:=match rs[k]? with
 |some r=>(r.a,r.b)
 |none=>(0,0)
abbrev gw(rs:List R5)(os:List Nat):Ps:=os.map (pairOf rs)
theorem tF{rs:List R5}{k:Nat}(h:k<rs.length):pairOf rs k=(rs[k].a,rs[k].b):=by
 unfold pairOf;rw[aa h]
theorem Qv{n:Nat}{rs:List R5}{os:List Nat}(ok:∀r∈rs,r.Ok n)(h:∀k∈os,k<rs.length):su (gw rs os) n:=⟨λi a b e=>by
 rw[ak] at e;cases q:os[i]? with
 |none=>rw[q] at e;cases e
 |some k =>
  rw[q] at e;have c:=h k (aC q);have e:pairOf rs k=(a,b):=aJ e;rw[tF c] at e;have o:=ok _ (aH c);have f:rs[k].a=a:=ff Prod.fst e;have d:rs[k].b=b:=ff Prod.snd e;rw[<- f,<- d];exact⟨o.a0,o.a1,o.b0,o.b1,o.ab⟩⟩
section
variable{ns:List Int}{rs:List R5}{live:List Nat}{nd:ns.Nodup}{ok:∀r∈rs,r.Ok ns.length}{hl:∀k∈live,k<rs.length}
theorem Qw(a:RM.Dm (aR ns rs live nd ok hl) k h g):pairOf rs k=((h:Int),(g:Int))∨pairOf rs k=((g:Int),(h:Int)):=by
 have c:=hl k a.1;have o:=ok _ (aH c);have i:=o.a0;have f:=o.b0;rw[tF c];rcases a.2 with ⟨d,e⟩|⟨d,e⟩
 ·rw[Zs c] at d
  rw[Zt c] at e;exact .inl (Prod.ext (by show rs[k].a=_;lia) (by show rs[k].b=_;lia))
 ·rw[Zt c] at d
  rw[Zs c] at e;exact .inr (Prod.ext (by show rs[k].a=_;lia) (by show rs[k].b=_;lia))
theorem Zv{os:List Nat}(O:fk (aR ns rs live nd ok hl) R os):∀k∈os,k<rs.length:=λk a=>by
 obtain⟨h,g,t⟩:=(O.2 k).mp a;exact hl k t.lZ.1
end
theorem Ox{M:List Int}{x:Int}(b:0<=x)(a:x<M.length):Aw (M.map V.int) x=some (.int (iY M x)):=Qi b a
theorem CG{M:List Int}{i:Nat}(e:M[i]?=some x):(M.take (i+1)).map V.int=(M.take i).map V.int++[.int x]:=by rw[List.take_succ,e,aK];rfl
end TW
namespace L2
open PySem PySem.Calls PySem.Spec PyProof.Rows PyProof.V PySem.W
end L2
namespace Gr
end Gr
namespace TW
open PySem L2 PyProof.Rows Gr
theorem Zw{xs b:List Nat}(h:∀k∈xs,k∈b)(r:Reach (gw rs xs) x y):Reach (gw rs b) x y:=by
 induction r with
 |refl=>exact .refl _
 |@step y z j _ a d =>
  unfold lZ at a;rw[ak] at a;cases q:xs[j]? with
  |none=>rw[q] at a;rcases a with a|a <;> cases a
  |some k =>
   rw[q] at a;obtain⟨i,c,e⟩:=lK (h k (aC q));refine .step (k:=i) d ?_;unfold lZ;rw[ak,aa c,e];exact a
end TW
namespace L2
open PySem PySem.Calls PySem.Spec PyProof.Rows PyProof.V PySem.W
end L2
namespace TW
open PySem L2 PyProof.Rows Gr
section
variable{ns:List Int}{rs:List R5}{live:List Nat}{nd:ns.Nodup}{ok:∀r∈rs,r.Ok ns.length}{hl:∀k∈live,k<rs.length}
theorem Zx{k h g:Nat}(d:k∈live)(e:pairOf rs k=((h:Int),(g:Int))∨pairOf rs k=((g:Int),(h:Int))):RM.Dm (aR ns rs live nd ok hl) k h g:=by
 have c:=hl k d;have o:=ok _ (aH c);have l:=o.a0;have j:=o.b0;rw[tF c] at e;refine⟨d,?_⟩;rw[Zs c,Zt c];rcases e with e|e
 ·have i:rs[k].a=h:=ff Prod.fst e
  have f:rs[k].b=g:=ff Prod.snd e;exact .inl ⟨∅,∅⟩
 ·have i:rs[k].a=g:=ff Prod.fst e
  have f:rs[k].b=h:=ff Prod.snd e;exact .inr ⟨∅,∅⟩
theorem WQ{os:List Nat}(O:fk (aR ns rs live nd ok hl) R os)(t:RM.S1 (aR ns rs live nd ok hl) R h g):Reach (gw rs os) (h:Int) (g:Int):=by
 have one:∀{k x y:Nat},RM.kH (aR ns rs live nd ok hl) R k x y->Reach (gw rs os) (x:Int) (y:Int):=λ{k x y} t=>by
  obtain⟨i,b,e⟩:=lK ((O.2 k).mpr ⟨x,y,t⟩);refine Reach.one (k:=i) ?_;unfold lZ;rw[ak,aa b,e];rcases Qw t.lZ with z|z
  ·exact .inl (by rw[<- z];rfl)
  ·exact .inr (by rw[<- z];rfl)
 induction t with
 |refl h=>exact .refl _
 |up t _ a=>exact (one t).trans a
 |down t _ a=>exact (one t).symm.trans a
theorem Qx(r:Reach (gw rs live) x y):∀h:Nat,x=(h:Int)->∃g:Nat,y=(g:Int)/\RM.sG (aR ns rs live nd ok hl) h g:=by
 induction r with
 |refl=>exact λh e=>⟨h,e,.refl h⟩
 |@step y z j _ a l =>
  intro h e;obtain⟨g,f,t⟩:=l h e;unfold lZ at a;rw[ak] at a;cases q:live[j]? with
  |none=>rw[q] at a;rcases a with a|a <;> cases a
  |some k =>
   rw[q] at a;have d:=aC q;have c:=hl k d;have o:=ok _ (aH c);have p:=o.a0;have n:=o.b0;have a':pairOf rs k=(y,z)∨pairOf rs k=(z,y):=a.imp (λe=>aJ e) (λe=>aJ e);have m:0<=z:=by
    rw[tF c] at a';rcases a' with a'|a' <;> cases a' <;> assumption
   subst f;obtain⟨b,i⟩:∃b:Nat,z=(b:Int):=⟨z.toNat,∅⟩;subst i;exact⟨b,rfl,t.trans (.step (Zx d a') (.refl _))⟩
theorem Qy(t:RM.sG (aR ns rs live nd ok hl) h g):Reach (gw rs live) (h:Int) (g:Int):=by
 induction t with
 |refl h=>exact .refl _
 |@step k h g x a _ b =>
  refine Reach.trans ?_ b;obtain⟨i,c,e⟩:=lK (show k∈live from a.1);refine Reach.one (k:=i) ?_;unfold lZ;rw[ak,aa c,e];rcases Qw a with z|z
  ·exact .inl (by rw[<- z];rfl)
  ·exact .inr (by rw[<- z];rfl)
theorem S6{h g:Nat}:Reach (gw rs live) (h:Int) (g:Int)↔RM.sG (aR ns rs live nd ok hl) h g:=by
 refine⟨λr=>?_,Qy⟩;obtain⟨a,e,t⟩:=Qx (ns:=ns) (nd:=nd) (ok:=ok) (hl:=hl) r h rfl
 have:g=a:=∅
 subst this;exact t
theorem S9{os:List Nat}(c:RM.Rest (aR ns rs live nd ok hl) S)(sS:RM.Sane (aR ns rs live nd ok hl) S)(O:fk (aR ns rs live nd ok hl) S os){h g:Nat}(a:h<ns.length):Reach (gw rs os) (h:Int) (g:Int)↔Reach (gw rs live) (h:Int) (g:Int):=by
 constructor
 ·exact λr=>Zw (λk b=>by obtain⟨x,y,t⟩:=(O.2 k).mp b;exact t.lZ.1) r
 ·exact λr=>WQ O (c.opn sS a ((S6 (ns:=ns) (nd:=nd) (ok:=ok) (hl:=hl)).mp r))
end
end TW
namespace TW
open PySem L2 PyProof.Rows
def stand(b:List Bool):List Nat:=(av b.length).filter λk=>b.getD k false
theorem iA{k:Nat}:k∈stand b↔b[k]?=some true:=by
 unfold stand;rw[aT,bB,ao];constructor
 ·rintro⟨a,c⟩
  rw[aa a] at c ⊢
  simpa using c
 ·intro h
  have a:=(ai.mp h).1;exact⟨a,by rw[h];rfl⟩
theorem tV(b:List Bool):(stand b).Pairwise (·<·):=List.Pairwise.filter _ ni
theorem WR(b:List Bool):(stand b).length<=b.length:=by
 have:=bx (λk=>b.getD k false) (av b.length)
 rw[be] at this;exact this
theorem ET:∀{xs b:List Nat},xs.Pairwise (·<·)->b.Pairwise (·<·)->(∀k,k∈xs↔k∈b)->xs=b
 |[],[],_,_,_=>rfl
 |[],y::b,_,_,h=>cy ((h y).mpr (-_)) (-_)
 |x::xs,[],_,_,h=>cy ((h x).mp (-_)) (-_)
 |x::xs,y::b,c,d,h=>by
  rw[List.pairwise_cons] at c d;have e:x=y:=by
   have h1:=(h x).mp (-_);have h2:=(h y).mpr (-_);rw[bu] at h1 h2;rcases h1 with h1|h1
   ·exact h1
   ·rcases h2 with h2|h2
    ·exact h2.symm
    ·have:=c.1 _ h2
     have:=d.1 _ h1
     lia
  subst e;rw[ET c.2 d.2 λk=>?_];constructor
  ·intro a
   rcases bu.mp ((h k).mp (bf _ a)) with rfl|z
   ·exact cy (c.1 _ a) (iz _)
   ·exact z
  ·intro a
   rcases bu.mp ((h k).mpr (bf _ a)) with rfl|z
   ·exact cy (d.1 _ a) (iz _)
   ·exact z
theorem Tc:(stand b).filter (λj=>decide (j≠k))=stand (b.set k false):=by
 refine ET (List.Pairwise.filter _ (tV b)) (tV _) λj=>?_;rw[aT,iA,iA,bZ];by_cases e:k=j
 ·subst e
  simp
 ·rw[b3 e]
  simp[bO e]
theorem WT{b:List Bool}{k:Nat}{xs:List Nat}(f:b[k]?=some false)(d:xs.Perm (stand b++[k]))(hs:xs.Pairwise (·<=·)):xs=stand (b.set k true):=by
 have h:(stand b++[k]).Nodup:=by
  rw[g8];refine⟨(tV b).imp λz=>bH z,-_,λx a y i=>?_⟩
  have:y=k:=by simpa using i
  subst this;intro e;subst e;rw[iA,f] at a;cases a
 have a:=(d.nodup_iff).mpr h;have g:xs.Pairwise (·<·):=(hs.and a).imp λz=>Nat.lt_of_le_of_ne z.1 z.2;refine ET g (tV _) λj=>?_;have c:=(ai.mp f).1;rw[d.mem_iff,aU,iA,iA,bZ,aS];by_cases e:k=j
 ·subst e
  rw[aq rfl,aq c];simp
 ·rw[b3 e]
  simp[bO e]
theorem Td(n:Nat):stand (bK n true)=av n:=by
 refine ET (tV _) ni λj=>?_;rw[iA,List.getElem?_replicate,bB];by_cases h:j<n
 ·simp[h]
 ·simp[h]
theorem WU:stand b=[]↔∀x∈b,x=false:=by
 constructor
 ·intro h x a
  obtain⟨k,c⟩:=cE a;cases x with
  |false=>rfl
  |true =>
   have:=iA.mpr c
   rw[h] at this;cases this
 ·intro h
  cases e:stand b with
  |nil=>rfl
  |cons k r =>
   have:k∈stand b:=by rw[e];simp
   have:=h _ (aC (iA.mp this))
   cases this
theorem Oz{w:List Nat}{xs:List Int}(b:xs.Perm (w.map λk:Nat=>(k:Int)))(hs:xs.Pairwise (·<=·)):∃a:List Nat,xs=a.map (λk:Nat=>(k:Int))/\a.Perm w/\a.Pairwise (·<=·):=by
 have e:xs=(xs.map xO).map λk:Nat=>(k:Int):=by
  rw[bV];refine Eq.symm ((cY λx c=>?_).trans (List.map_id xs));obtain⟨k,_,rfl⟩:=aL.mp (b.mem_iff.mp c);rfl
 refine⟨xs.map xO,e,?_,?_⟩
 ·have:=b.map xO
  rw[bV] at this;have d:(xO∘λk:Nat=>(k:Int))=id:=rfl;rw[d,List.map_id] at this;exact this
 ·rw[kr]
  exact hs.imp λz=>Int.toNat_le_toNat z
theorem ae9(k:Nat):(bK k [V.bl true]).flatten=(bK k true).map V.bl:=by
 induction k with
 |zero=>rfl
 |succ k a=>rw[ja,wo,a,ja];rfl
def Bl(rs:List R5)(bs:List (List Bool)):Prop:=bs.length=rs.length/\∀(i:Nat) r b,rs[i]?=some r->bs[i]?=some b->(b.length:Int)=r.d
theorem Bl.set{i:Nat}(h:Bl rs bs)(d:bs[i]?=some b):Bl rs (bs.set i (b.set k x)):=by
 refine⟨by rw[bg];exact h.1,λj r e c a=>?_⟩;rw[bZ] at a;by_cases z:i=j
 ·subst z
  rw[aq rfl,aq (ai.mp d).1] at a;cases a;rw[bg];exact h.2 i r b c d
 ·rw[b3 z] at a
  exact h.2 j r e c a
theorem Bl.at{i:Nat}(h:Bl rs bs)(a:rs[i]?=some r):∃b,bs[i]?=some b/\(b.length:Int)=r.d:=by
 have:=(ai.mp a).1
 exact⟨_,aa (by have:=h.1;lia),h.2 i r _ a (aa (by have:=h.1;lia))⟩
structure vC(C:Addr)(H:Hp)(p tp lu:Addr)(ws:List (List Nat)):Prop where
 ob:∃dx,H p=some (.ins C dx [("town",.ref tp),("upright",.ref lu)])
 up:∃ls:List Addr,H lu=some (.lst (ls.map V.ref))/\ls.length=ws.length/\∀(i:Nat) l w,ls[i]?=some l->ws[i]?=some w->H l=some (.lst (bF w))
section
variable{C:Addr}{H H':Hp}{p tp lu:Addr}{ws:List (List Nat)}
theorem vC.mono(s:aG H H')(h:vC C H p tp lu ws):vC C H' p tp lu ws:=by
 obtain⟨⟨e,f⟩,c,d,g,j⟩:=h;exact⟨⟨e,s _ _ f⟩,c,s _ _ d,g,λi l w a b=>s _ _ (j i l w a b)⟩
theorem xX{ls:List Addr}{i:Nat}(e:ls[i]?=some l):bF w≠ls.map V.ref:=by
 intro z;have a:(bF w)[i]?=some (V.ref l):=by rw[z,ak,e];rfl
 rw[ak] at a;cases b:w[i]? with
 |none=>rw[b] at a;cases a
 |some k=>rw[b] at a;cases a
theorem vC.ne(h:vC C H p tp lu ws):p≠lu:=by
 obtain⟨⟨d,b⟩,c,a,_⟩:=h;exact pU b a (by intro z;cases z)
theorem vC.put{i:Nat}{ls:List Addr}(h:vC C H p tp lu ws)(e:H lu=some (.lst (ls.map V.ref)))(f:H q=some (.lst (bF w)))(A:i<ws.length)(k:∀b u,H b=some u->b≠lu->H' b=some u)(r:H' lu=some (.lst ((ls.map V.ref).set i (.ref q)))):vC C H' p tp lu (ws.set i w):=by
 have c:=h.ne;obtain⟨⟨B,D⟩,d,m,y,s⟩:=h;rw[e] at m;have z:=HO.lst.inj (aJ m);have z:ls=d:=by
  have:=ff (List.map λv=>match v with|V.ref a=>a|_=>0) z
  rw[bV,bV] at this;have E:((λv=>match v with|V.ref a=>a|_=>0)∘V.ref)=(id:Addr->Addr):=rfl;rw[E,List.map_id,List.map_id] at this;exact this
 subst z;have g:i<ls.length:=∅
 have t:q≠lu:=by
  refine pU f e λz=>?_;exact xX (aa g) (HO.lst.inj z)
 refine⟨⟨B,k _ _ D c⟩,ls.set i q,by rw[r,jG],by rw[bg,bg,y],λj l x a b=>?_⟩;rw[bZ] at a b;by_cases n:i=j
 ·subst n
  rw[aq rfl,aq g] at a;rw[aq rfl,aq A] at b;cases a;cases b;exact k _ _ f t
 ·rw[b3 n] at a b
  have o:=s j l x a b;exact k _ _ o (pU o e λz=>xX a (HO.lst.inj z))
structure mu(H:Hp)(ls:Addr)(lB:List Addr)(bs:List (List Bool)):Prop where
 at_:H ls=some (.lst (lB.map V.ref))
 len:lB.length=bs.length
 nd:lB.Nodup
 it:∀(i:Nat) l b,lB[i]?=some l->bs[i]?=some b->H l=some (.lst (b.map V.bl))
theorem mu.mono(s:aG H H')(h:mu H ls lB bs):mu H' ls lB bs:=⟨s _ _ h.at_,h.len,h.nd,λi l b x y=>s _ _ (h.it i l b x y)⟩
theorem mu.put{i:Nat}{b:List Bool}(h:mu H ls lB bs)(f:lB[i]?=some l)(k:∀c u,H c=some u->c≠l->H' c=some u)(hl:H' l=some (.lst (b.map V.bl)))(a:ls≠l):mu H' ls lB (bs.set i b):=by
 refine⟨k _ _ h.at_ a,by rw[bg,h.len],h.nd,λj m p x y=>?_⟩;have d:i<bs.length:=by rw[<- h.len];exact (ai.mp f).1
 rw[bZ] at y;by_cases e:i=j
 ·subst e
  rw[aq rfl,aq d] at y;cases y;rw[f] at x;cases x;exact hl
 ·rw[b3 e] at y
  refine k _ _ (h.it j m p x y) λz=>e ?_;subst z;have n:=ai.mp f;have g:=ai.mp x;obtain⟨r,a2⟩:=n;obtain⟨q,o⟩:=g;exact (List.getElem_inj h.nd).mp (a2.trans o.symm)
theorem dM.but{K:ah}{C:Addr}{tp:Addr}(h:dM K C H tp ln lr ns rs)(k:∀b o,H b=some o->b≠p->H' b=some o)(a:H p=some (.ins C' dx fs))(j:tp≠p):dM K C H' tp ln lr ns rs:=by
 obtain⟨⟨d,g⟩,c,f,e,i⟩:=h;exact⟨⟨d,k _ _ g j⟩,k _ _ c (pU c a (by intro z;cases z)),f,k _ _ e (pU e a (by intro z;cases z)),kI k a i⟩
end
end TW
namespace L2
open PySem PySem.Spec PyProof.Rows
section
variable{X:Cx}
theorem WV(K:ah)(d:X.K=K)(c:PE X a ta)(e:∀b,isTrue a X.env b=(do let v <- b;standAt a.pos;holding [v] (truthy v))):PT X a (Zk K ta):=by
 subst d;exact WG c e
end
end L2
namespace TW
open PySem L2 PyProof.Rows
def vD(e:Int)(g:Nat):Bool:=decide (e/2^g%2=1)
theorem Qz{e:Int}{g:Nat}(d:1<=e)(f:e<=7)(a:([1,2,4]:List Int)[g]?=some z):(!decide (Builtin.bitAnd e z=0))=vD e g:=by
 have b:g=0∨g=1∨g=2:=by
  have:=(ai.mp a).1
  simp at this;lia
 have c:e=1∨e=2∨e=3∨e=4∨e=5∨e=6∨e=7:=∅
 rcases b with rfl|rfl|rfl <;> cases a <;> rcases c with rfl|rfl|rfl|rfl|rfl|rfl|rfl <;> decide +kernel
theorem ahY{g:Nat}(h:g<3):∃z,([1,2,4]:List Int)[g]?=some z:=⟨_,aa (by simpa using h)⟩
def isLive(rs:List R5)(ws:List (List Nat))(g i:Nat):Bool:=match rs[i]?,ws[i]? with|some r,some w=>(!w.isEmpty)&&vD r.e g|_,_=>false
def pZ(rs:List R5)(ws:List (List Nat))(g n:Nat):List Nat:=(av n).filter (isLive rs ws g)
theorem nQ(rs:List R5)(ws:List (List Nat))(g n:Nat):pZ rs ws g (n+1)=pZ rs ws g n++(if isLive rs ws g n=true then [n] else []):=by
 unfold pZ;rw[gA,gB];congr 1;by_cases h:isLive rs ws g n=true
 ·rw[aq h,gK,aq h];rfl
 ·rw[b3 h,gK,b3 h];rfl
theorem JE(rs:List R5)(ws:List (List Nat))(g n:Nat):(pZ rs ws g n).length<=n:=by
 have:=bx (isLive rs ws g) (av n)
 rw[be] at this;exact this
theorem WW(b:List Bool):b.any id=!(stand b).isEmpty:=by
 cases e:stand b with
 |nil =>
  have:=WU.mp e
  have:b.any id=false:=by
   rw[Bool.eq_false_iff];intro z;obtain⟨x,c,a⟩:=lW.mp z;rw[this x c] at a;cases a
  rw[this];rfl
 |cons k r =>
  have d:k∈stand b:=by rw[e];simp
  have:=iA.mp d
  have:b.any id=true:=lW.mpr ⟨true,aC this,rfl⟩
  rw[this];rfl
end TW
namespace L2
open PySem PySem.Spec PyProof.Rows
structure adu(K:ah)(C:Addr)(m:Str)(f:Addr):Prop where
 hg:PySem.W.specialIn K (.ref C) "__getattribute__" = some (some (.builtin "type.__getattribute__"))
 hr:PySem.W.readsIn K C (.type "type")=true
 md:PySem.W.findCls K (.ref C) (.type "type") m=some (.val (.ref f))
 kp:eY K (.ref f)=true
section
variable{X:Cx}
theorem Gi(d:PE X e t)(c:PE X e u):PE X e (λb H Q=>t b H Q∨u b H Q):=λa s b H Q I h=>h.elim (d a s b H Q I) (c a s b H Q I)
end
def ahZ(C:Addr)(sp:Sp)(Dh:List V)(E:XK)(ta:TE)(t:TA):TE:=λσ H Q=>ta σ H λx H1=>x=.ref C/\t σ H1 λvs H2=>sp (vs++Dh) H2 Q E
section
variable{X:Cx}{CX:Wn}{k:Nat}{f C:Addr}{fd:FuncData}{ps:List Str}{sp:Sp}{Dh:List V}{ds:List Value}{E:XK}{x m:Str}{p pos apos:Pos}{e o:Expr}{es:List Expr}{ta:TE}{t:TA}
theorem Te{pl:Sem Bool}(y:PE X o ta)(c:adu X.K C m f)
 (F:cH X.prog X.w X.K X.mg X.base CX k f fd ps sp) (hr:kD k X.A) (M:Binds X.K fd ps ds) (N:cF Dh ds) (B:tN CX X E) (v:PA X (e::es) t)
 (g:starEach (e::es) X.env=(false,eval e X.env)::starEach es X.env:=by rfl) (d:(backTo pos (starEach es X.env)).any (·.1)=false:=by rfl)
 (z:eval (.Call (.Attribute o m apos) (e::es) [] pos) X.env=(do
  let j <- eval o X.env
  standAt apos.atName
  let (f,first) <- holding [j] (getMethod j m pl)
  callWith pos f first (backTo pos (starEach (e::es) X.env)) (backToKw pos (keywordEach [] X.env))):=by rfl) :
 PE X (.Call (.Attribute o m apos) (e::es) [] pos) (ahZ C sp Dh E ta t):=by
 intro a s i H Q I h;refine PySem.W.methodCall_KW (pl:=pl) (ia (y a s i H _ I h) λu G ⟨x,L,b,p,J,q⟩=>?_) z;subst J;obtain rfl:u=Value.ref C:=p;refine PySem.W.method_cls b.Dd c.hg (PySem.W.cls_value b.Dd c.hr c.md rfl ?_);have D:=b.tok (G.toks+1);refine PySem.W.callWith_K (first:=[]) (h₀:=X.base) I.ok.mod.tw c.kp (ia (v pos a _ i L _ D q) λus O ⟨vs,P,l,r,n⟩=>⟨l.Dd,?_⟩) g d;exact Oh (us:=us) (vs:=vs) F hr M N B l r n
end
end L2
namespace TW
open PySem L2 PyProof.Rows
theorem MW{b:Bool}{A B:Prop}(e:b=false)(h:B):if b=true then A else B:=by subst e;exact dh h
theorem ah0{b:Bool}{A B:Prop}(e:b=true)(h:A):if b=true then A else B:=by subst e;exact dZ h
inductive Hw(cL c1 cA:Addr)(H:Hp)(a:Addr)(s to:Int):Int->Prop
 |bare (dx:Addr) (h:H a=some (.ins cL dx [("sender",.int s)])):Hw cL c1 cA H a s to 0
 |one (dx:Addr) (h:H a=some (.ins c1 dx [("sender",.int s),("to",.int to)])):Hw cL c1 cA H a s to 1
 |all (dx:Addr) (h:H a=some (.ins cA dx [("sender",.int s)])):Hw cL c1 cA H a s to 2
section
variable{cL c1 cA:Addr}{H H':Hp}{a lh q:Addr}{s to k:Int}{xs:List V}
theorem Hw.mono(h:Hw cL c1 cA H a s to k)(e:aG H H'):Hw cL c1 cA H' a s to k:=by
 cases h with
 |bare b h=>exact .bare b (e _ _ h)
 |one b h=>exact .one b (e _ _ h)
 |all b h=>exact .all b (e _ _ h)
end
end TW
namespace L2
open PySem PySem.W PyProof.Rows
section
variable{n:Nat}{r:Nat->Int}{cmp:Nat->Nat->(Bool->Shared->Prop)->Shared->Prop}{s:Shared}
def Pm(n:Nat)(p:Array Nat):Prop:=p.Perm (List.toArray (av n))
theorem Pm.size(h:Pm n p):p.size=n:=by
 have:=h.size_eq
 simpa using this
theorem Pm.lt(h:Pm n p){k:Nat}(a:k<n):p.getD k 0<n:=by
 have b:=h.size;have e:p.getD k 0=p[k]'∅:=by simp[Array.getD,b,a]
 rw[e]
 have:p[k]'∅∈p:=Array.getElem_mem _
 have:=(h.mem_iff).mp this
 simpa using this
def kv(r:Nat->Int)(p:Array Nat)(k:Nat):Int:=r (p.getD k 0)
def EU(r:Nat->Int)(p:Array Nat)(m:Nat):Prop:=∀i j,i<j->j<m->kv r p i<=kv r p j
def JF(r:Nat->Int)(p:Array Nat)(m:Nat):Prop:=∀i j,i<j->j<m->kv r p j<=kv r p i
def WX(r:Nat->Int)(p:Array Nat)(a b:Nat):Prop:=∀i j,a<=i->i<b->a<=j->j<b->kv r p i=kv r p j
theorem EU.next(h:EU r p m)(d:1<=m)(b:kv r p (m-1)<=kv r p m):EU r p (m+1):=λi j a f=>by
 by_cases e:j=m
 ·subst e
  by_cases c:i=j-1
  ·rw[c];exact b
  ·exact Int.le_trans (h i (j-1) ∅ ∅) b
 ·exact h i j a ∅
theorem JF.next(h:JF r p m)(d:1<=m)(b:kv r p m<=kv r p (m-1)):JF r p (m+1):=λi j a f=>by
 by_cases e:j=m
 ·subst e
  by_cases c:i=j-1
  ·rw[c];exact b
  ·exact Int.le_trans b (h i (j-1) ∅ ∅)
 ·exact h i j a ∅
theorem afb{m:Nat}:WX r p (m+1-(0+1)) (m+1):=λi j a b c d=>by
 have:i=j:=∅
 rw[this]
theorem afc:EU r p 1:=λi j a b=>∅
theorem JG{p:Array Nat}{a b:Nat}(d:b<=p.size)(f:a<=b):kv r (kas_rev p a b) k=if a<=k/\k<b then kv r p (a+b-1-k) else kv r p k:=by
 unfold kv;have e:(kas_rev p a b)[k]?=if a<=k/\k<b then p[a+b-1-k]? else p[k]?:=by
  unfold kas_rev;rw[getElem?_mirror d ((b-a)/2) ∅ k];by_cases h:a<=k/\k<b
  ·rw[aq h]
   by_cases c:a<=k/\k<a+(b-a)/2∨b-(b-a)/2<=k/\k<b
   ·rw[aq c]
   ·rw[b3 c]
    congr 1;lia
  ·rw[b3 h,b3 ∅]
 have g:∀(q:Array Nat) (i:Nat),q.getD i 0=(q[i]?).getD 0:=λq i=>by simp[nY]
 rw[g,e];by_cases h:a<=k/\k<b
 ·rw[aq h,aq h,g]
 ·rw[b3 h,b3 h,g]
theorem Pm.rev(h:Pm n p)(a b:Nat):Pm n (kas_rev p a b):=(mirror_perm _ _ _ _).trans h
theorem WY{p:Array Nat}{m:Nat}(a:m<=p.size)(h:JF r p m):EU r (kas_rev p 0 m) m:=λi j b c=>by
 rw[JG a (aX _),JG a (aX _),aq ⟨aX _,∅⟩,aq ⟨aX _,c⟩];exact h _ _ ∅ ∅
theorem Gj{p:Array Nat}{a m:Nat}(d:m<=p.size)(b:a<=m)(h:JF r p m)(e:WX r p a m):JF r (kas_rev p a m) m/\∀k,m<=k->kv r (kas_rev p a m) k=kv r p k:=by
 have same:∀k,kv r (kas_rev p a m) k=kv r p k:=λk=>by
  rw[JG d b];by_cases h:a<=k/\k<m
  ·rw[aq h]
   exact e _ _ ∅ ∅ h.1 h.2
  ·rw[b3 h]
 exact⟨λi j c f=>by rw[same,same];exact h i j c f,λk _=>same k⟩
variable(hc:∀i j C,i<n->j<n->C (decide (r i<r j)) s->cmp i j C s)
include hc
theorem Tf{p:Array Nat}(h:Pm n p):∀(f m:Nat) {Q:Nat->Shared->Prop},1<=m->m+f=n->EU r p m ->
 (∀e,m<=e->e<=n->EU r p e->(e<n->kv r p e<kv r p (e-1))->Q e s)->(kas_asc p f m).kasWp cmp Q s
 |0,m,Q,j,l,g,k=>k m (az _) ∅ g (λz=>∅)
 |f+1,m,Q,j,l,g,k=>by
  refine hc _ _ _ (h.lt ∅) (h.lt ∅) ?_;by_cases i:kv r p m<kv r p (m-1)
  ·rw[show decide (r (p.getD m 0)<r (p.getD (m-1) 0))=true from eH i]
   exact k m (az _) ∅ g λ_=>i
  ·rw[show decide (r (p.getD m 0)<r (p.getD (m-1) 0))=false from e8 i]
   exact Tf h f (m+1) ∅ ∅ (g.next j ∅) λe a b c d=>k e ∅ b c d
theorem IS:∀(f:Nat) (p:Array Nat) (m q:Nat) {Q:Array Nat×Nat×Nat->Shared->Prop},Pm n p->1<=m->m+f=n->q+1<=m->JF r p m->WX r p (m-(q+1)) m ->
 (∀o h q',Pm n o->1<=h->h<=n->q'+1<=h->JF r o h->WX r o (h-(q'+1)) h->Q (o,h,q') s)->(kas_desc f p m q).kasWp cmp Q s
 |0,p,m,q,Q,e,l,E,w,hd,t,k=>k p m q e l ∅ w hd t
 |f+1,p,m,q,Q,e,l,E,w,hd,t,k=>by
  have F:=e.size;refine hc _ _ _ (e.lt ∅) (e.lt ∅) ?_;by_cases y:kv r p m<kv r p (m-1)
  ·rw[show decide (r (p.getD m 0)<r (p.getD (m-1) 0))=true from eH y]
   show ((if true=true then (if q > 0 then kas_desc f (kas_rev p (m-(q+1)) m) (m+1) 0 else kas_desc f p (m+1) 0) else _):KasT _).kasWp cmp Q s;rw[aq rfl];have g:∀{o:Array Nat},WX r o (m+1-(0+1)) (m+1):=λi j a b c d=>by
    have:i=j:=∅
    rw[this]
   by_cases u:q > 0
   ·rw[aq u]
    obtain⟨D,A⟩:=Gj ∅ (Nat.sub_le _ _) hd t;refine IS f _ (m+1) 0 (e.rev _ _) ∅ ∅ ∅ (D.next l ?_) g k;rw[A m (az _)]
    have:kv r (kas_rev p (m-(q+1)) m) (m-1)=kv r p (m-1):=by
     rw[JG ∅ (Nat.sub_le _ _)];split
     ·exact t _ _ ∅ ∅ ∅ ∅
     ·rfl
    lia
   ·rw[b3 u]
    exact IS f p (m+1) 0 e ∅ ∅ ∅ (hd.next l ∅) g k
  ·rw[show decide (r (p.getD m 0)<r (p.getD (m-1) 0))=false from e8 y]
   refine hc _ _ _ (e.lt ∅) (e.lt ∅) ?_;by_cases z:kv r p (m-1)<kv r p m
   ·rw[show decide (r (p.getD (m-1) 0)<r (p.getD m 0))=true from eH z]
    exact k p m q e l ∅ w hd t
   ·rw[show decide (r (p.getD (m-1) 0)<r (p.getD m 0))=false from e8 z]
    have C:kv r p m=kv r p (m-1):=∅
    refine IS f p (m+1) (q+1) e ∅ ∅ ∅ (hd.next l ∅) (λi j a b c d=>?_) k;have v:∀x,m+1-(q+1+1)<=x->x<m+1->kv r p x=kv r p (m-1):=λx a b=>by
     by_cases B:x=m
     ·rw[B];exact C
     ·exact t x (m-1) ∅ ∅ ∅ ∅
    rw[v i a b,v j c d]
theorem QA{m:Nat}{Q:Nat×Array Nat->Shared->Prop}(e:Pm n p)(g:1<=m)(i:m<=n)(h:JF r p m)(k:∀d f,Pm n f->1<=d->d<=n->EU r f d->Q (d,f) s):(kas_tail3 m n p).kasWp cmp Q s:=by
 unfold kas_tail3;rw[KasT.kasWp_bind];exact Tf hc (e.rev 0 m) (n-m) m g ∅ (WY (by have:=e.size;lia) h) λd a b c _=>k d _ (e.rev 0 m) ∅ b c
theorem Hy{m:Nat}{Q:Nat×Array Nat->Shared->Prop}(i:Pm n p)(q:1<=m)(o:m<n)(j:JF r p (m+1))(k:∀a b,Pm n b->1<=a->a<=n->EU r b a->Q (a,b) s):(kas_descPart m n p).kasWp cmp Q s:=by
 unfold kas_descPart;rw[KasT.kasWp_bind];refine IS hc (n-(m+1)) p (m+1) 0 i ∅ ∅ ∅ j afb λb a g a1 d f l c h=>?_;dsimp only;by_cases e:g > 0
 ·rw[aq e]
  exact QA hc (a1.rev _ _) d f (Gj (by have:=a1.size;lia) (Nat.sub_le _ _) c h).1 k
 ·rw[b3 e]
  exact QA hc a1 d f c k
theorem Zy{Q:Nat×Array Nat->Shared->Prop}(c:Pm n p)(H:1<=n)(k:∀g q,Pm n q->1<=g->g<=n->EU r q g->Q (g,q) s):(kas_count n p).kasWp cmp Q s:=by
 unfold kas_count;rw[KasT.kasWp_bind];refine Tf hc c (n-1) 1 (az _) ∅ afc λm a b f l=>?_;by_cases e:m=n
 ·rw[aq (by simp[e])]
  exact k m p c a b f
 ·rw[b3 (by simp[e])]
  have l:=l ∅;by_cases v:m > 1
  ·rw[aq v]
   refine hc _ _ _ (c.lt ∅) (c.lt ∅) ?_;by_cases u:kv r p 0<kv r p (m-1)
   ·rw[show decide (r (p.getD 0 0)<r (p.getD (m-1) 0))=true from eH u]
    exact k m p c a b f
   ·rw[show decide (r (p.getD 0 0)<r (p.getD (m-1) 0))=false from e8 u]
    have t:WX r p 0 m:=by
     have d:∀x,x<m->kv r p x=kv r p 0:=λx o=>by
      by_cases y:x=0
      ·rw[y]
      ·have D:=f 0 x ∅ o
       by_cases F:x=m-1
       ·rw[F] at D ⊢;lia
       ·have:=f x (m-1) ∅ ∅
        lia
     exact λi j _ C _ z=>by rw[d i C,d j z]
    have G:JF r p m:=λi j h w=>by rw[t i j (aX _) ∅ (aX _) w];exact rF _
    obtain⟨E,B⟩:=Gj (by have:=c.size;lia) (aX _) G t;refine Hy hc (c.rev 0 m) ∅ ∅ (E.next ∅ ?_) k;rw[B m (az _),JG (by have:=c.size;lia) (aX _),aq ⟨aX _,∅⟩]
    have:=t (0+m-1-(m-1)) (m-1) (aX _) ∅ (aX _) ∅
    lia
  ·rw[b3 v]
   have A:m=1:=∅
   subst A;refine Hy hc c (az _) ∅ (λi j h w=>?_) k
   have:i=0/\j=1:=∅
   rw[this.1,this.2];exact Int.le_of_lt l
theorem JH{p:Array Nat}{d:Nat}(o:Pm n p)(q:d<n)(j:EU r p d):∀(f l u:Nat) {Q:Nat->Shared->Prop},l<=u->u<=d->u-l<=f->(∀i,i<l->kv r p i<=kv r p d)->(∀i,u<=i->i<d->kv r p d<kv r p i) ->
 (∀m,m<=d->(∀i,i<m->kv r p i<=kv r p d)->(∀i,m<=i->i<d->kv r p d<kv r p i)->Q m s)->(kas_place p d f l u).kasWp cmp Q s
 |0,l,u,Q,w,g,x,a,b,k=>k l ∅ a (λi h=>b i ∅)
 |f+1,l,u,Q,w,g,x,a,b,k=>by
  show ((if l≥u then KasT.ret l else _):KasT Nat).kasWp cmp Q s;by_cases h:l≥u
  ·rw[aq h]
   exact k l ∅ a (λi h=>b i ∅)
  ·rw[b3 h]
   refine hc _ _ _ (o.lt q) (o.lt ∅) ?_;by_cases c:kv r p d<kv r p ((l+u)/2)
   ·rw[show decide (r (p.getD d 0)<r (p.getD ((l+u)/2) 0))=true from eH c]
    refine JH o q j f l ((l+u)/2) ∅ ∅ ∅ a (λi v t=>?_) k;by_cases e:i=(l+u)/2
    ·rw[e];exact c
    ·exact Int.lt_of_lt_of_le c (j _ i ∅ t)
   ·rw[show decide (r (p.getD d 0)<r (p.getD ((l+u)/2) 0))=false from e8 c]
    refine JH o q j f ((l+u)/2+1) u ∅ g ∅ (λi v=>?_) b k;by_cases e:i=(l+u)/2
    ·rw[e];lia
    ·have:=j i ((l+u)/2) ∅ ∅
     lia
omit hc in
theorem Zz{p:Array Nat}{a d:Nat}(hs:a<p.size)(c:d<=a):kv r (bubble p a d) k=if k=a-d then kv r p a else if a-d<k/\k<=a then kv r p (k-1) else kv r p k:=by
 unfold kv;have g:∀(q:Array Nat) (i:Nat),q.getD i 0=(q[i]?).getD 0:=λq i=>by simp[nY]
 rw[g,getElem?_bubble hs d c k];by_cases h:k=a-d
 ·rw[aq h,aq h,g]
 ·rw[b3 h,b3 h]
  by_cases b:a-d<k/\k<=a
  ·rw[aq b,aq b,g]
  ·rw[b3 b,b3 b,g]
theorem ZA:∀(f:Nat) (p:Array Nat) (m:Nat) {Q:Array Nat->Shared->Prop},Pm n p->m+f=n->EU r p m->(∀t,Pm n t->EU r t n->Q t s)->(kas_bin f p m).kasWp cmp Q s
 |0,p,m,Q,o,v,c,k=>k p o (by rw[<- v];exact c)
 |f+1,p,m,Q,o,v,c,k=>by
  show ((kas_place p m m 0 m).bind λl=>kas_bin f (bubble p m (m-l)) (m+1)).kasWp cmp Q s;rw[KasT.kasWp_bind];refine JH hc o ∅ c m 0 m (aX _) (az _) ∅ (λi h=>∅) (λi A y=>∅) λl hl a b=>?_;have z:=o.size;refine ZA f _ (m+1) ((bubble_perm _ _ _).trans o) ∅ (λi j q B=>?_) k;have w:m-(m-l)=l:=∅
  rw[Zz ∅ (Nat.sub_le _ _),Zz ∅ (Nat.sub_le _ _),w];by_cases u:i=l
  ·rw[aq u,b3 ∅,aq ∅]
   exact Int.le_of_lt (b (j-1) ∅ ∅)
  ·rw[b3 u]
   by_cases d:l<i/\i<=m
   ·rw[aq d,b3 ∅,aq ∅]
    exact c (i-1) (j-1) ∅ ∅
   ·rw[b3 d]
    by_cases e:j=l
    ·rw[aq e];exact a i ∅
    ·rw[b3 e]
     by_cases g:l<j/\j<=m
     ·rw[aq g]
      by_cases x:i=j-1
      ·rw[x];exact rF _
      ·exact c i (j-1) ∅ ∅
     ·rw[b3 g]
      exact c i j q ∅
theorem abO{Q:Array Nat->Shared->Prop}(e:1<=n)(k:∀p,Pm n p->EU r p n->Q p s):(kas_sort n).kasWp cmp Q s:=by
 unfold kas_sort;rw[KasT.kasWp_bind];refine Zy hc (Array.Perm.refl _) e λm p c a b d=>?_;dsimp only;by_cases h:m<n
 ·rw[aq h]
  have f:max m 1=m:=∅
  rw[f];exact ZA hc (n-m) p m c ∅ d k
 ·rw[b3 h]
  have:m=n:=∅
  subst this;exact k p c d
end
end L2
namespace L2
open PySem PySem.W PySem.Spec PyProof.Rows
abbrev T3:=Int×Int×Int
theorem filter_le{c:Type}{p q:c->Bool}:∀{l:List c},(∀z,p z=true->q z=true)->(l.filter p).length<=(l.filter q).length
 |[],_=>az _
 |a::l,h=>by
  have d:=filter_le (l:=l) h;rw[gK,gK];by_cases b:p a=true
  ·rw[aq b,aq (h a b),aV,aV];lia
  ·rw[b3 b]
   split
   ·rw[aV];lia
   ·exact d
theorem filter_lt{c:Type}{p q:c->Bool}{x:c}:∀{l:List c},(∀z,p z=true->q z=true)->x∈l->p x=false->q x=true->(l.filter p).length<(l.filter q).length
 |a::l,h,hx,e,d=>by
  rw[gK,gK];rcases bu.mp hx with rfl|hx
  ·rw[b3 (by rw[e];exact aI),aq d,aV]
   have:=filter_le (l:=l) h
   lia
  ·have f:=filter_lt h hx e d
   by_cases b:p a=true
   ·rw[aq b,aq (h a b),aV,aV];lia
   ·rw[b3 b]
    split
    ·rw[aV];lia
    ·exact f
section
variable{prog:Program}{w:World}{A:Around}{s:Shared}{E:Value->Shared->Prop}
theorem ZC{d:Addr}{v:Value}{c:Nat}{P:PySem.Fin->Shared->Prop}(b:s.heap.get? d=some (seqObj "list" [v].toArray c))(k:P (.done (.ret .none)) {s with heap:=sortedHeap s.heap d [v] #[v]}) :
 wpAny (model prog w) A (Builtin.«list.sort» ⟨[.ref d],[]⟩) P E s:=by
 have j:d<s.heap.objs.size:=Heap.lt_size b;rw[list_sort_plain];refine wpAny_bind (listItems_at b rfl (wpAny_bind (listUpdate_at b rfl ?_)));have a:∃e,(s.heap.update d (Obj.mapSeq λ_=>#[])).get? d=some (seqObj "list" #[] e):=⟨_,get?_update_seq b (λ_=>#[])⟩;obtain⟨e,a⟩:=a;refine wpAny_bind (seqEpoch_at a rfl (wpAny_bind (wpAny_newTuple (wpAny_bind (wpAny_newList (wpAny_holding ?_))))));have i:(s.heap.update d (Obj.mapSeq λ_=>#[])).objs.size=s.heap.objs.size:=Heap.size_update _ _ _;have g:(((s.heap.update d (Obj.mapSeq λ_=>#[])).push (seqObj "tuple" [v].toArray 0)).push (seqObj "list" #[] 0)).get? d=some (seqObj "list" #[] e) :=
  Heap.get?_push_of_some _ (Heap.get?_push_of_some _ a)
 show wpAny (model prog w) A _ P E {s with heap:=((s.heap.update d (Obj.mapSeq λ_=>#[])).push (seqObj "tuple" [v].toArray 0)).push (seqObj "list" #[] 0)};have h:[v].toArray.size<2:=-_
 have f:(arrOf (SortSt.mk' general' (#[v].zip #[v]) #[] 7 none)).map (·.2)=#[v]:=by
  show (#[v].zip #[v]).map (·.2)=#[v];simp
 dsimp only;rw[aq h,aq h];refine wpAny_bind (wpAny_pure ?_);rw[StateT.run_pure];refine wpAny_bind (wpAny_pure (wpAny_bind (seqEpoch_at g rfl (wpAny_bind (listUpdate_at g rfl ?_ (hsz2:=?_))))))
 ·simp only[bne_self_eq_false,Bool.false_eq_true,if_false]
  refine wpAny_pure ?_;rw[f];exact k
 ·show ((arrOf (SortSt.mk' general' (#[v].zip #[v]) #[] 7 none)).map (·.2)).size<=sizeLine+1
  rw[f];show 1<=sizeLine+1;exact Nat.le_add_left _ _
theorem Tg{v:Value}{Q:Value->Shared->Prop}(hl:s.heap.IsList l [v].toArray)(k:Q (.ref (s.heap.objs.size+1)) {s with heap:=sortedAll s.heap [v] #[v]}):wpAny (model prog w) A (call (.builtin "sorted") [.ref l]) Q E s:=by
 refine Calls.call_function_entry kind_sorted plain_sorted entry_sorted (args_sorted1 _) ?_;unfold Builtin.«sorted»;refine wpAny_bind (m:=checkCount "sorted" 1 1 _) (wpAny_pure (wpAny_bind (collect_list hl (wpAny_bind (wpAny_newList ?_)))));have b:((s.heap.push (seqObj "list" #[] 0)).update s.heap.objs.size (Obj.mapSeq (·++[v].toArray))).objs.size=s.heap.objs.size+1:=(Heap.size_update _ _ _).trans (size_push' _ _);have a:(((s.heap.push (seqObj "list" #[] 0)).update s.heap.objs.size (Obj.mapSeq (·++[v].toArray))).push (seqObj "list" [v].toArray 0)).get? (s.heap.objs.size+1)=some (seqObj "list" [v].toArray 0):=b▸Heap.get?_push_size _ rfl;show wpAny _ _ _ _ _ {s with heap:=((s.heap.push (seqObj "list" #[] 0)).update s.heap.objs.size (Obj.mapSeq (·++[v].toArray))).push (seqObj "list" [v].toArray 0)};rw[b];exact wpAny_bind (wpAny_holding (wpAny_call_entry slot_list_sort ⟨_,a,rfl⟩ entry_list_sort (ZC a ⟨_,rfl,wpAny_pure ⟨_,rfl,k⟩⟩) (args_list_sort _)))
end
section
variable{X:Cx}
theorem U9:∀{qs:List Addr} {a:List Value},cF (qs.map V.ref) a->a=qs.map Value.ref
 |[],_,r=>by cases r;rfl
 |q::qs,_,r=>by
  cases r with
  |cons h t =>
   have h:_=Value.ref q:=h;rw[h,U9 t];rfl
theorem MX:∀qs:List Addr,cF (qs.map V.ref) (qs.map Value.ref)
 |[]=>.nil
 |q::qs=>.cons rfl (MX qs)
theorem map_getD{b:Type}(d:b):∀l:List b,(av l.length).map (λi=>l.getD i d)=l:=λl=>by
 apply yE
 ·simp
 ·intro i a c
  simp at a;simp[a]
end
end L2
namespace L2
end L2
namespace TW
open PySem L2 PyProof.Rows
def nR(t:T3):List Key×V:=([.inl t.1,.inl t.2.1],.int t.2.2)
abbrev keyOf(h c:Int):List Key:=[.inl h,.inl c]
def fF(ts:List T3):Prop:=(ts.map λt=>(t.1,t.2.1)).Nodup
def wD(ts:List T3)(h c:Int):Option Int:=(ts.find? λt=>decide (t.1=h/\t.2.1=c)).map λt=>t.2.2
def put3(ts:List T3)(h c r:Int):List T3:=(ts.filter λt=>!decide (t.1=h/\t.2.1=c))++[(h,c,r)]
theorem WZ(n:fF ts):wD ts h c=some r↔(h,c,r)∈ts:=by
 unfold wD;constructor
 ·intro e
  cases f:ts.find? λt=>decide (t.1=h/\t.2.1=c) with
  |none=>rw[f] at e;cases e
  |some t =>
   rw[f] at e;cases e;have a:=List.find?_some f;have b:=List.mem_of_find?_eq_some f;have a:t.1=h/\t.2.1=c:=by simpa using a
   obtain⟨o,p,m⟩:=t;obtain⟨rfl,rfl⟩:=a;exact b
 ·intro e
  cases f:ts.find? λt=>decide (t.1=h/\t.2.1=c) with
  |none =>
   have:=List.find?_eq_none.mp f _ e
   simp at this
  |some t =>
   have a:=List.find?_some f;have b:=List.mem_of_find?_eq_some f;have a:t.1=h/\t.2.1=c:=by simpa using a
   obtain⟨i,k⟩:=cE e;obtain⟨j,d⟩:=cE b;have g:(ts.map λt=>(t.1,t.2.1))[i]?=some (h,c):=by rw[ak,k];rfl
   have l:(ts.map λt=>(t.1,t.2.1))[j]?=some (h,c):=by rw[ak,d,<- a.1,<- a.2];rfl
   have:i=j:=(wm (ai.mp g).1 n).mp (g.trans l.symm)
   subst this;rw[k] at d;cases d;rfl
theorem ZD(n:fF ts):fF (put3 ts h c r):=by
 unfold fF put3;rw[aK,g8];refine⟨?_,-_,λx a y f=>?_⟩
 ·exact tK ((fW).map _) n
 ·obtain⟨t,g,rfl⟩:=aL.mp a
  have b:=(aT.mp g).2;have e:y=(h,c):=by simpa using f
  rw[e];intro z;have d:t.1=h/\t.2.1=c:=⟨(Prod.mk.inj z).1,(Prod.mk.inj z).2⟩;simp[d] at b
theorem p5(t:T3)(h c:Int):(nR t).1=keyOf h c↔t.1=h/\t.2.1=c:=by
 unfold nR keyOf;constructor
 ·intro e
  have b:=(pQ e).1;have a:=(pQ (pQ e).2).1;exact⟨wc b,wc a⟩
 ·rintro⟨rfl,rfl⟩
  rfl
theorem JI:∀(ts:List T3) (h c:Int),yI (ts.map nR) (keyOf h c)=(wD ts h c).map V.int
 |[],h,c=>rfl
 |t::ts,h,c=>by
  rw[bG];by_cases e:t.1=h/\t.2.1=c
  ·rw[tO ((p5 t h c).mpr e)]
   unfold wD;rw[List.find?_cons_of_pos (by simp[e])];rfl
  ·rw[tP (λz=>e ((p5 t h c).mp z)),JI ts h c]
   unfold wD;rw[List.find?_cons_of_neg (by rw[e8 e];exact aI)]
def EV(h c r:Int)(t:T3):T3:=if t.1=h/\t.2.1=c then (h,c,r) else t
theorem ZE(h c r:Int)(t:T3):((EV h c r t).1,(EV h c r t).2.1)=(t.1,t.2.1):=by
 unfold EV;split
 ·rename_i e
  show (h,c)=(t.1,t.2.1);rw[e.1,e.2]
 ·rfl
theorem MY{h c r:Int}:∀{ts:List T3},fF ts->(∃t∈ts,t.1=h/\t.2.1=c)->(ts.map (EV h c r)).Perm (put3 ts h c r)
 |[],_,⟨_,h,_⟩=>by cases h
 |t::ts,n,g=>by
  have f:fF ts:=(dm.mp n).2;have d:=(dm.mp n).1;unfold put3;by_cases e:t.1=h/\t.2.1=c
  ·have b:∀u∈ts,¬(u.1=h/\u.2.1=c):=λu hu z=>d (aL.mpr ⟨u,hu,Prod.ext (z.1.trans e.1.symm) (z.2.trans e.2.symm)⟩)
   have j:ts.map (EV h c r)=ts:=by
    refine (cY λu hu=>?_).trans (List.map_id ts);unfold EV;rw[b3 (b u hu)];rfl
   have i:ts.filter (λu=>!decide (u.1=h/\u.2.1=c))=ts:=List.filter_eq_self.mpr λu hu=>by rw[e8 (b u hu)];rfl
   rw[bG,j,gK,b3 (by simp[e]),i];have a:EV h c r t=(h,c,r):=by unfold EV;rw[aq e]
   rw[a];exact (List.perm_append_comm (l₁:=[(h,c,r)]) (l₂:=ts))
  ·have a:EV h c r t=t:=by unfold EV;rw[b3 e]
   rw[bG,a,gK,aq (by rw[e8 e];rfl)];refine List.Perm.cons t (MY f ?_);obtain⟨u,hu,z⟩:=g;rcases bu.mp hu with rfl|hu
   ·exact cy z e
   ·exact⟨u,hu,z⟩
theorem MZ{xs:List T3}(a:xs.Perm ys)(h c r:Int):(put3 xs h c r).Perm (put3 ys h c r):=(a.filter _).append_right _
theorem Th{ts:List T3}(f:ts.Perm ks)(n:fF ts):∃b,putK (ts.map nR) (keyOf h c) (V.int r)=b.map nR/\b.Perm (put3 ks h c r)/\fF b:=by
 unfold putK;by_cases a:((ts.map nR).any λkv=>decide (kv.1=keyOf h c))=true
 ·rw[aq a]
  refine⟨ts.map (EV h c r),?_,?_,?_⟩
  ·rw[bV,bV]
   refine cY λt _=>?_;show (if (nR t).1=keyOf h c then ((nR t).1,V.int r) else nR t)=nR (EV h c r t);unfold EV;by_cases e:t.1=h/\t.2.1=c
   ·rw[aq ((p5 t h c).mpr e),aq e,(p5 t h c).mpr e]
    rfl
   ·rw[b3 (λz=>e ((p5 t h c).mp z)),b3 e]
  ·refine (MY n ?_).trans (MZ f h c r)
   obtain⟨kv,k,i⟩:=lW.mp a;obtain⟨t,d,rfl⟩:=aL.mp k;exact⟨t,d,(p5 t h c).mp (gh i)⟩
  ·unfold fF
   rw[bV]
   have:((λt:T3=>(t.1,t.2.1))∘EV h c r)=λt:T3=>(t.1,t.2.1):=funext λt=>ZE h c r t
   rw[this];exact n
 ·rw[b3 a]
  have g:∀t∈ts,¬(t.1=h/\t.2.1=c):=λt d z=>a (lW.mpr ⟨nR t,aL.mpr ⟨t,d,rfl⟩,eH ((p5 t h c).mpr z)⟩);have e:put3 ts h c r=ts++[(h,c,r)]:=by
   unfold put3;rw[List.filter_eq_self.mpr λu j=>by rw[e8 (g u j)];rfl]
  refine⟨ts++[(h,c,r)],by rw[aK];rfl,e▸MZ f h c r,e▸ZD n⟩
structure tW(C:Addr)(H:Hp)(p d:Addr)(ts:List T3):Prop where
 ob:∃dx,H p=some (.ins C dx [("kept",.ref d)])
 di:H d=some (.dT (ts.map nR))
theorem tW.mono(s:aG H H')(h:tW C H p d ts):tW C H' p d ts:=by
 obtain⟨⟨b,c⟩,a⟩:=h;exact⟨⟨b,s _ _ c⟩,s _ _ a⟩
def AH(u:HO):Prop:=∀xs,u≠.tup xs/\∀o,u≠.PY o (.tup xs)
theorem jf:AH (.lst ys):=λa=>⟨λe=>(by cases e),λo e=>(by cases e)⟩
theorem ah1:AH (.dT kvs):=λa=>⟨λe=>(by cases e),λo e=>(by cases e)⟩
theorem oq:AH (.ins C dx fs):=λa=>⟨λe=>(by cases e),λo e=>(by cases e)⟩
theorem cX.past{K:ah}{H d:Hp}(g:H z=some u)(f:AH u)(c:∀b v,H b=some v->b≠z->d b=some v)(h:cX K H a xs):cX K d a xs:=by
 rcases h with (h|⟨o,h⟩)|h
 ·exact .inl (.inl (c _ _ h λe=>by subst e;rw[g] at h;exact (f xs).1 (aJ h)))
 ·exact .inl (.inr ⟨o,c _ _ h λe=>by subst e;rw[g] at h;exact (f xs).2 o (aJ h)⟩)
 ·exact .inr h
theorem b9:∀b v,H b=some v->b≠z->(upd H z o) b=some v:=λb v e a=>by rw[aO a];exact e
theorem Ti{H:Hp}(d:H a=some u)(c:H b=some v)(n:u≠v):a≠b:=λe=>by
 subst e;rw[d] at c;exact n (aJ c)
end TW
namespace L2
open PySem PySem.W PySem.Spec PyProof.Rows
end L2
namespace TW
open PySem L2 PyProof.Rows
theorem QB{J:It}{n:Nat}{q:List (Option Nat)}{g:TG}{D:TT}{G:TE}{B:L2.St}{F:Hp->Prop}{k:Hp}{d:Addr}(E:Nat->V)(f:Nat->Option V)(j:k d=none)
 (go:∀i H,i<n->aG k H->J.go i H) (stop:∀H,aG k H->J.stop n H) (P1:∀i H x a,i<n->aG k H->J.P1 i H x a->a=H/\x=E i) (K:n<=1000)
 (step:∀(i:Nat) (H:Hp) (R:V->Hp->Prop) (S:Hp->Prop),i<n->aG k H->(∀y a,aG H a->f i=some y->R y a)->(∀a,aG H a->f i=none->S a) ->
  g (E i) (kE q B) H λc z=>D c z λb l=>if b=true then G c l R else S l)
 (v:∀H,aG k H->H d=some (.lst ((av n).filterMap f))->F H) :
 ∃W:Nat->Nat->Hp->Prop,(∃m,W 0 m (upd k d (.lst [])))/\∀i m H,W i m H ->
  (J.stop i H/\F H)∨(J.go i H/\∀x a,J.P1 i H x a->g x (kE q B) a λc z=>D c z λb l=>if b=true then G c l λy u=>∃xs,u d=some (.lst xs)/\xs.length<sizeLine /\
   ∃r,r<m/\W (i+1) r (upd u d (.lst (xs++[y]))) else ∃r,r<m/\W (i+1) r l):=by
 have o:∀i,((av i).filterMap f).length<=i:=λi=>by
  have:=sE f (av i)
  rwa [be] at this
 refine gf (n:=n) (λi w _=>w=(av i).filterMap f) j go stop rfl ?_ ?_
 ·rintro i w H p s t rfl x a L
  obtain⟨rfl,rfl⟩:=P1 i H x a p s L;have e:(av (i+1)).filterMap f=(av i).filterMap f++(f i).toList:=by
   rw[gA,xN];cases h:f i <;> simp[h]
  refine step i a _ _ p s (λy u C A=>?_) (λl I A=>?_)
  ·refine dY j p (s.trans C) (C _ _ t) (b4 (aN (o i) (aN (gI p) K))) ?_
   show _=(av (i+1)).filterMap f;rw[e,A];rfl
  ·refine gp p (s.trans I) (I _ _ t) ?_
   show _=(av (i+1)).filterMap f;rw[e,A];simp
 ·rintro w H s t rfl
  exact v H s t
theorem sL{a b:Type}:∀(xs:List a) (F:a->Option b),(av xs.length).filterMap (λi=>xs[i]?.bind F)=xs.filterMap F
 |[],F=>rfl
 |x::xs,F=>by
  have e:((λi:Nat=>(x::xs)[i]?.bind F)∘Nat.succ)=λi=>xs[i]?.bind F:=funext λi=>-_
  rw[aV,List.range_succ_eq_map,dS,List.filterMap_map,e,sL xs F,dS];rfl
theorem W0{K:ah}{l d:Addr}{xs:List Int}{k:List (Option Nat)}{g:TG}{C:TT}{E:TE}{w:L2.St}{D:Hp->Prop}{o:Hp}(F:Int->Option V)(p:o d=none)(hl:bN K o l (xs.map V.int))(G:xs.length<=1000)
 (step:∀(x:Int) (H:Hp) (R:V->Hp->Prop) (S:Hp->Prop),x∈xs->aG o H->(∀y a,aG H a->F x=some y->R y a)->(∀a,aG H a->F x=none->S a) ->
  g (.int x) (kE k w) H λc u=>C c u λb j=>if b=true then E c j R else S j)
 (t:∀H,aG o H->H d=some (.lst (xs.filterMap F))->D H) :
 ∃W:Nat->Nat->Hp->Prop,(∃m,W 0 m (upd o d (.lst [])))/\∀i m H,W i m H ->
  ((Oe K l).stop i H/\D H)∨((Oe K l).go i H/\∀x a,(Oe K l).P1 i H x a->g x (kE k w) a λc u=>C c u λb j=>if b=true then E c j λy z=>∃xs,z d=some (.lst xs)/\xs.length<sizeLine /\
    ∃q,q<m/\W (i+1) q (upd z d (.lst (xs++[y]))) else ∃q,q<m/\W (i+1) q j):=by
 have B:(xs.map V.int).length=xs.length:=af _;refine QB (n:=xs.length) (λi=>(xs.map V.int).getD i .f9) (λi=>xs[i]?.bind F) p (λi H f s=>wA hl i H (by rw[B];exact f) s) (λH s=>by have:=lY hl H s;rwa [B] at this) (λi H x a f s h=>?_) G (λi H R S f s J I=>?_) (λH s L=>t H s (by rw[<- sL];exact L))
 ·obtain⟨rfl,h⟩:=h
  have h:=h _ (s.seq hl);exact⟨rfl,by rw[ao,h];rfl⟩
 ·have e:(xs.map V.int).getD i .f9=V.int xs[i]:=by rw[ao,ak,aa f];rfl
  have A:xs[i]?=some xs[i]:=aa f;rw[e];refine step _ H R S (aH f) s (λy a r v=>J y a r ?_) (λa r v=>I a r ?_)
  ·show xs[i]?.bind F=_
   rw[A];exact v
  ·show xs[i]?.bind F=_
   rw[A];exact v
theorem Xa(xs:List Int)(f:Int->Bool):xs.filterMap (λx=>if f x=true then some (V.int x) else none)=(xs.filter f).map V.int:=by
 induction xs with
 |nil=>rfl
 |cons x xs a =>
  by_cases h:f x=true
  ·rw[cR h,bG,<- a,dS];simp only[h,if_true]
  ·rw[cS h,<- a,dS];simp only[h];rfl
theorem tX{K:ah}{l d:Addr}{xs:List Int}{h:List (Option Nat)}{g:TG}{v:TT}{z:TE}{t:L2.St}{w:Hp->Prop}{j:Hp}(f:Int->Bool)(k:j d=none)(hl:bN K j l (xs.map V.int))(A:xs.length<=1000)
 (step:∀(x:Int) (H:Hp) (R:V->Hp->Prop) (S:Hp->Prop),x∈xs->aG j H->(∀a,aG H a->f x=true->R (.int x) a)->(∀a,aG H a->f x=false->S a) ->
  g (.int x) (kE h t) H λc q=>v c q λb e=>if b=true then z c e R else S e)
 (p:∀H,aG j H->H d=some (.lst ((xs.filter f).map V.int))->w H) :
 ∃W:Nat->Nat->Hp->Prop,(∃m,W 0 m (upd j d (.lst [])))/\∀i m H,W i m H ->
  ((Oe K l).stop i H/\w H)∨((Oe K l).go i H/\∀x a,(Oe K l).P1 i H x a->g x (kE h t) a λc q=>v c q λb e=>if b=true then z c e λy u=>∃xs,u d=some (.lst xs)/\xs.length<sizeLine /\
    ∃n,n<m/\W (i+1) n (upd u d (.lst (xs++[y]))) else ∃n,n<m/\W (i+1) n e):=by
 refine W0 (λx=>if f x=true then some (V.int x) else none) k hl A (λx H R S B s D C=>step x H R S B s (λa o r=>D _ a o (aq r)) (λa o r=>C a o (b3 (by rw[r];exact aI)))) (λH s E=>p H s (by rw[<- Xa];exact E))
def adv(u:HO):Prop:=∀xs,u≠.lst xs/\∀o,u≠.PY o (.lst xs)
theorem ZF:adv (.ins C dx fs):=λa=>⟨λe=>(by cases e),λo e=>(by cases e)⟩
theorem bN.past{K:ah}{H d:Hp}(g:H z=some u)(f:adv u)(c:∀b v,H b=some v->b≠z->d b=some v)(h:bN K H a xs):bN K d a xs:=by
 rcases h with (h|⟨o,h⟩)|h
 ·exact .inl (.inl (c _ _ h λe=>by subst e;rw[g] at h;exact (f xs).1 (aJ h)))
 ·exact .inl (.inr ⟨o,c _ _ h λe=>by subst e;rw[g] at h;exact (f xs).2 o (aJ h)⟩)
 ·exact .inr h
def wF(c:Option Int):V:=(c.map V.int).getD .f9
theorem EW(i:Int)(c:Option Int):aeG (.int i) (wF c)=true:=by cases c <;> rfl
theorem ZG(c:Option Int):zV (wF c)=true:=by cases c <;> rfl
theorem JJ(xs:List Int):Ge .f9 (xs.map V.int)=false:=by
 unfold Ge;rw[List.any_map,List.any_eq_false];intro x _;show ¬(Wq (.int x) .f9)=true;simp[Wq]
def kJ(c:Option Int)(r:Int):Bool:=!decide (V.int r=wF c)
def Xb(ts:List T3)(so:Option Int)(ou:Int)(cK:Option Int)(os hs:List Int):List Int :=
 match so with
 |none=>os.filter (kJ cK)
 |some to=>if to∈hs then [] else match wD ts ou to with
  |some r=>if r∈os then [r].filter (kJ cK) else os.filter (kJ cK)
  |none=>os.filter (kJ cK)
def Gk(s to k c:Int):Bool:=if k=1 then decide (V.int c=V.int to) else if k=2 then !decide (V.int c=V.int s) else false
def qx(to k:Int):Option Int:=if k=1 then some to else none
theorem made{H:Hp}(c:H x=none)(b:H dx=none)(a:dx≠x):aG H (upd (upd (upd H dx (.own x)) x (.ins C dx [])) x (.ins C dx fs)):=by
 rw[NZ];exact (aG.new b).trans (aG.new (by rw[aO (bO a)];exact c))
theorem neT{b:Bool}(h:¬b=true):b=false:=by
 cases b
 ·rfl
 ·exact cy rfl h
end TW
namespace TX
open PySem PySem.StrLaws PySem.Builtin PySem.Builtin.Str
abbrev cs(x:Str):List Nat:=x.cps.toList
end TX
namespace TX
open PySem PySem.StrLaws PySem.Builtin PySem.Builtin.Str PySem.NumText
end TX
namespace TX
open PySem PySem.StrLaws PySem.Builtin PySem.Builtin.Str
end TX
namespace L2
open PySem PySem.W PySem.Spec PyProof.Rows
theorem JK{a b:Type}{f g:a->Option b}:∀{l:List a},(∀x∈l,f x=g x)->l.filterMap f=l.filterMap g
 |[],_=>rfl
 |x::l,h=>by
  rw[dS,dS,h x (bE ..),JK λy c=>h y (bf _ c)]
theorem Xc{c:Type}(xs:List c):((av xs.length).map (λk=>xs.length-1-k)).filterMap (λi=>xs.toArray[i]?)=xs.reverse:=by
 have b:(av xs.length).map (λk=>xs.length-1-k)=(av xs.length).reverse:=by
  refine yE (-_) λi b a=>?_;simp at b a;simp[List.getElem_reverse]
 rw[b,List.filterMap_reverse];congr 1;refine List.ext_getElem? λi=>?_;have a:(av xs.length).filterMap (λi=>xs.toArray[i]?)=xs:=by
  have:=TW.sL xs (λx=>some x)
  rw[List.filterMap_some] at this;refine Eq.trans (JK λi d=>?_) this;rw[List.getElem?_toArray];cases xs[i]? <;> rfl
 rw[a]
theorem JL(a:List Value):slicePick a.toArray none none (some (-1))=a.reverse.toArray:=by
 unfold slicePick;congr 1;have e:sliceBounds none none (some (-1)) a.toArray.size=((a.length:Int)-1,-1,-1):=by
  simp[sliceBounds]
 rw[e,<- Xc a];congr 1;unfold sliceRange;by_cases h:a.length=0
 ·simp[h]
 ·have d:((a.length:Int)-1) > -1:=∅
  have b:((a.length:Int)-1 - -1 - -1-1)/(- -1)=(a.length:Int):=by
   have:((a.length:Int)-1 - -1 - -1-1)=(a.length:Int):=∅
   rw[this];show (a.length:Int)/1=_;exact Int.ediv_one _
  simp only[show ¬((-1:Int) > 0) by decide,if_false,d,if_true,b,cO];refine cY λk c=>?_
  have:=bB.mp c
  lia
section
variable{X:Cx}
def afd(K:ah)(te:TE)(ts:TO):TE:=λσ H Q=>te σ H λx H1=>ts σ H1 λo H2=>∃a xs,x=.ref a/\o=some (-1)/\bN K H2 a xs/\∀p,H2 p=none->Q (.ref p) (upd H2 p (.lst xs.reverse))
theorem Xd(h:cF xs us):cF xs.reverse us.reverse:=by
 induction h with
 |nil=>exact .nil
 |cons r t a =>
  rw[List.reverse_cons,List.reverse_cons];exact a.append (.cons r .nil)
theorem QC{st:Expr}(z:PE X e te)(hs:PO X (some st) ts):PE X (.Subscript e (.Slice none none (some st) p2) pos) (afd X.K te ts):=by
 intro c s f H Q I h;refine Subscript_ (ia (z c s f H _ I h) λv G ⟨x,J,t,B,y⟩=>?_);refine wpAny_Slice ?_;rw[evalPart_none];refine wpAny_pure ?_;refine wpAny_pure ?_;refine ia (hs c G f J _ t y) λl d ⟨o,D,E,n,a,p,L,C,u,q⟩=>?_;subst L C;cases B;have i:Inv X c f D {d with heap:=d.heap.push {cls:=.type "slice",data:=.fields #[.none,.none,l]}}:=E.kept (t':=d.toks) λb m q=>Heap.get?_push_of_some _ q;obtain⟨g,r,k,F⟩:=i.list u;have j:=r.length;show wpAny (model X.prog X.w) X.A (subscriptTail e (.Slice none none (some st) p2) (.ref a) (.ref d.heap.objs.size)) (EP X c f Q) X.xe {d with heap:=d.heap.push {cls:=.type "slice",data:=.fields #[.none,.none,l]}};refine tail_any (ops:=[.ref a,.ref d.heap.objs.size]) k.isList.typeIs slot_list_getitem.lookup ?_ (by with_unfolding_all rfl);refine wpAny_getItem_list_slice k.isList (Heap.IsSliceOf.new ..) .none .none n (-_) ?_ (by rw[aZ] <;> lia);rw[JL];refine⟨.ref _,_,i.laid (t':=d.toks) (o:=.lst p.reverse) (λb m q=>Heap.get?_push_of_some _ q) (az _) ?_,rfl,q _ (i.hok.fresh (az _))⟩;exact⟨by rw[List.length_reverse];exact F,g.reverse,0,Xd r,Heap.get?_push_size _ rfl⟩
end
end L2
namespace TW
open PySem L2 PyProof.Rows
theorem Va{K:ah}{l c:Addr}{xs:List V}{k:List (Option Nat)}{g:TG}{z:TT}{B:TE}{v:L2.St}{A:Hp->Prop}{o:Hp}(f:Nat->Option V)(p:o c=none)(hl:bN K o l xs)(C:xs.length<=1000)
 (step:∀(i:Nat) (x:V) (H:Hp) (R:V->Hp->Prop) (S:Hp->Prop),xs[i]?=some x->aG o H->(∀y d,aG H d->f i=some y->R y d)->(∀d,aG H d->f i=none->S d) ->
  g x (kE k v) H λa u=>z a u λb j=>if b=true then B a j R else S j)
 (r:∀H,aG o H->H c=some (.lst ((av xs.length).filterMap f))->A H) :
 ∃W:Nat->Nat->Hp->Prop,(∃m,W 0 m (upd o c (.lst [])))/\∀i m H,W i m H ->
  ((Oe K l).stop i H/\A H)∨((Oe K l).go i H/\∀x d,(Oe K l).P1 i H x d->g x (kE k v) d λa u=>z a u λb j=>if b=true then B a j λy w=>∃xs,w c=some (.lst xs)/\xs.length<sizeLine /\
    ∃q,q<m/\W (i+1) q (upd w c (.lst (xs++[y]))) else ∃q,q<m/\W (i+1) q j):=by
 refine QB (n:=xs.length) (λi=>xs.getD i .f9) f p (wA hl) (lY hl) (λi H x d t s h=>?_) C (λi H R S t s E D=>?_) r
 ·obtain⟨rfl,h⟩:=h
  have h:=h _ (s.seq hl);exact⟨rfl,by rw[ao,h];rfl⟩
 ·have e:xs.getD i .f9=xs[i]:=by rw[ao,aa t];rfl
  rw[e];exact step i _ H R S (aa t) s E D
theorem JM{b d:Type}(xs:List b)(h:b->d):(av xs.length).filterMap (λi=>xs[i]?.map h)=xs.map h:=by
 have e:∀l:List b,l.filterMap (λx=>some (h x))=l.map h:=λl=>by
  induction l with
  |nil=>rfl
  |cons a l c=>rw[dS,c];rfl
 rw[<- e,<- sL xs (λx=>some (h x))];refine JK λi _=>?_;cases xs[i]? <;> rfl
inductive Role where
 |dG|c9|dP|gX (i:Nat)|vE|rows (g:Nat)|kK|book (g:Nat)|gj (g:Nat)
 |aE|groups|j7|handed (c:Nat)|cU|cC (i:Nat)|letter (i:Nat)|done (i:Nat)|aF (i:Nat)|fM
 deriving DecidableEq
structure wG(H:Hp)(loc:Role->Addr)(ob:Role->Option HO):Prop where
 get:∀r o,ob r=some o->H (loc r)=some o
 inj:∀r q,ob r≠none->ob q≠none->loc r=loc q->r=q
def iT(ob:Role->Option HO)(r:Role)(o:HO):Role->Option HO:=λq=>if q=r then some o else ob q
def rG(loc:Role->Addr)(r:Role)(a:Addr):Role->Addr:=λq=>if q=r then a else loc q
theorem d7:iT ob r o r=some o:=aq rfl
theorem c6{r q:Role}(h:q≠r):iT ob r o q=ob q:=b3 h
theorem gq:rG loc r a r=a:=aq rfl
theorem fN{r q:Role}(h:q≠r):rG loc r a q=loc q:=b3 h
def Fp(loc:Role->Addr)(ob:Role->Option HO)(b:Addr):Prop:=∃r,ob r≠none/\loc r=b
section
variable{H H':Hp}{loc:Role->Addr}{ob:Role->Option HO}
theorem wG.mono(h:wG H loc ob)(s:aG H H'):wG H' loc ob:=⟨λr o e=>s _ _ (h.get r o e),h.inj⟩
theorem wG.keep(h:wG H loc ob)(k:∀b o,H b=some o->Fp loc ob b->H' b=some o):wG H' loc ob :=
 ⟨λr o e=>k _ _ (h.get r o e) ⟨r,by rw[e];exact aW o,rfl⟩,h.inj⟩
theorem wG.set(h:wG H loc ob)(c:ob r≠none)(o:HO):wG (upd H (loc r) o) loc (iT ob r o):=by
 have b:∀q,iT ob r o q≠none->ob q≠none:=λq d=>by
  by_cases e:q=r
  ·rw[e];exact c
  ·rw[c6 e] at d;exact d
 refine⟨λq u e=>?_,λq a g f e=>h.inj q a (b q g) (b a f) e⟩;by_cases z:q=r
 ·subst z
  rw[d7] at e;cases e;exact ay
 ·rw[c6 z] at e
  rw[aO (λw=>z (h.inj q r (by rw[e];exact aW u) c w))];exact h.get q u e
theorem wG.new(h:wG H loc ob)(j:H p=none)(r:Role)(o:HO):wG (upd H p o) (rG loc r p) (iT ob r o):=by
 have g:∀q,q≠r->ob q≠none->loc q≠p:=λq k f e=>by
  cases i:ob q with
  |none=>exact f i
  |some u =>
   have:=h.get q u i
   rw[e,j] at this;cases this
 refine⟨λq u e=>?_,λq b d c e=>?_⟩
 ·by_cases z:q=r
  ·subst z
   rw[d7] at e;cases e;rw[gq];exact ay
  ·rw[c6 z] at e
   rw[fN z,aO (g q z (by rw[e];exact aW u))];exact h.get q u e
 ·by_cases z:q=r
  ·by_cases a:b=r
   ·rw[z,a]
   ·rw[z,gq,fN a] at e
    rw[c6 a] at c;exact cy e.symm (g b a c)
  ·by_cases a:b=r
   ·rw[a,gq,fN z] at e
    rw[c6 z] at d;exact cy e (g q z d)
   ·rw[fN z,fN a] at e
    rw[c6 z] at d;rw[c6 a] at c;exact h.inj q b d c e
theorem wG.ZH(h:wG H loc ob)(d:Fp (rG loc r p) (iT ob r o) b):Fp loc ob b∨b=p:=by
 obtain⟨q,c,a⟩:=d;by_cases z:q=r
 ·rw[z,gq] at a
  exact .inr a.symm
 ·rw[c6 z] at c
  rw[fN z] at a;exact .inl ⟨q,c,a⟩
theorem JN(d:ob r≠none):Fp loc (iT ob r o) b↔Fp loc ob b:=by
 constructor
 ·rintro⟨q,a,c⟩
  refine⟨q,?_,c⟩;by_cases z:q=r
  ·rw[z];exact d
  ·rw[c6 z] at a;exact a
 ·rintro⟨q,a,c⟩
  refine⟨q,?_,c⟩;by_cases z:q=r
  ·rw[z,d7];exact aW o
  ·rw[c6 z];exact a
end
inductive cV where
 |post (h:Nat)|p6 (h r:Nat)|hand (h c:Nat)|send (h r w:Nat)|twice (h r:Nat)|LZ (h r:Nat)
def cV.vs:cV->List V
 |.post h=>[.str "post",.int h]
 |.p6 h r=>[.str "come",.int h,.int r]
 |.hand h c=>[.str "hand",.int h,.int c]
 |.send h r w=>[.str "send",.int h,.int r,.int w]
 |.twice h r=>[.str "twice",.int h,.int r]
 |.LZ h r=>[.str "lost",.int h,.int r]
structure LS where
 s:Nat
 to:Nat
 kd:Int
 grp:Nat
 old:Bool
 done:List Nat
 aF:List cV
structure Cp where
 l:Nat
 r:Nat
 w:Nat
 h:Nat
def Cp.vs(c:Cp):List V:=[.int c.l,.int c.r,.int c.w,.int c.h]
structure NS where
 ws:List (List Nat)
 R:Nat->Nat->RM.Row
 ts:Nat->List T3
 aE:List Nat
 groups:List Nat
 had:List (List Nat)
 ls:List LS
 cps:List Cp
structure TQ where
 rq:Nat->List Addr
 dq:Nat->List Addr
 cq:List Addr
structure NC where
 dG:Addr
 str:Addr
 book:Addr
 post:Addr
 aqr:Addr
 let1:Addr
 ah2:Addr
def sM(c:NC)(dx:Addr)(l:LS):HO:=if l.kd=1 then .ins c.let1 dx [("sender",.int l.s),("to",.int l.to)] else .ins c.ah2 dx [("sender",.int l.s)]
def desc(c:NC)(dx:Role->Addr)(tp:Addr)(loc:Role->Addr)(q:TQ)(s:NS):Role->Option HO
 |.dG=>some (.ins c.dG (dx .dG) [("town",.ref tp),("strands",.ref (loc .c9)),("rows_by_group",.ref (loc .vE)),("books",.ref (loc .kK)),("homes",.ref (loc .aE)),("groups",.ref (loc .groups)),("handed",.ref (loc .j7)),("letters",.ref (loc .cU)),("copies",.ref (loc .fM))])
 |.c9=>some (.ins c.str (dx .c9) [("town",.ref tp),("upright",.ref (loc .dP))])
 |.dP=>some (.lst ((av s.ws.length).map λi=>.ref (loc (.gX i))))
 |.gX i=>s.ws[i]?.map λw=>.lst (bF w)
 |.vE=>some (.lst ((av 3).map λg=>.ref (loc (.rows g))))
 |.rows g=>if g<3 then some (.lst ((q.rq g).map V.ref)) else none
 |.kK=>some (.lst ((av 3).map λg=>.ref (loc (.book g))))
 |.book g=>if g<3 then some (.ins c.book (dx (.book g)) [("kept",.ref (loc (.gj g)))]) else none
 |.gj g=>if g<3 then some (.dT ((s.ts g).map nR)) else none
 |.aE=>some (.lst (bF s.aE))
 |.groups=>some (.lst (bF s.groups))
 |.j7=>some (.lst ((av s.had.length).map λi=>.ref (loc (.handed i))))
 |.handed i=>s.had[i]?.map λw=>.lst (bF w)
 |.cU=>some (.lst ((av s.ls.length).map λi=>.ref (loc (.cC i))))
 |.cC i=>s.ls[i]?.map λl=>.ins c.post (dx (.cC i)) [("letter",.ref (loc (.letter i))),("group",.int l.grp),("old",.bl l.old),("done_at",.ref (loc (.done i))),("deeds",.ref (loc (.aF i)))]
 |.letter i=>s.ls[i]?.map λl=>sM c (dx (.letter i)) l
 |.done i=>s.ls[i]?.map λl=>.dK (l.done.map λh:Nat=>(eT (h:Int),.bl true))
 |.aF i=>s.ls[i]?.map λl=>.lst ((q.dq i).map V.ref)
 |.fM=>some (.lst (q.cq.map V.ref))
mutual
def QD:PyData->Bool
 |.none=>true
 |.bool _=>true
 |.int _=>true
 |.str _=>true
 |.list _=>false
 |.tuple ds=>Gm ds
 |.dict _=>true
def Gm:List PyData->Bool
 |[]=>true
 |d::ds=>QD d&&Gm ds
end
structure dg(K:ah)(H:Hp)(qs:List Addr)(xs:List (List V)):Prop where
 len:qs.length=xs.length
 at':∀(i:Nat) q x,qs[i]?=some q->xs[i]?=some x->cX K H q x
theorem dg.mono{K:ah}(h:dg K H qs xs)(k:∀b x,cX K H b x->cX K H' b x):dg K H' qs xs:=⟨h.len,λi q x a b=>k _ _ (h.at' i q x a b)⟩
def iE(n:Nat)(R:Nat->RM.Row):List (List V):=(av n).map λi=>RM.c7 (R i)
structure ow(K:ah)(H:Hp)(n:Nat)(q:TQ)(s:NS):Prop where
 rows:∀g,g<3->dg K H (q.rq g) (iE n (s.R g))
 aF:∀i l,s.ls[i]?=some l->dg K H (q.dq i) (l.aF.map cV.vs)
 cps:dg K H q.cq (s.cps.map Cp.vs)
theorem ow.mono{K:ah}(h:ow K H n q s)(k:∀b x,cX K H b x->cX K H' b x):ow K H' n q s :=
 ⟨λg a=>(h.rows g a).mono k,λi l e=>(h.aF i l e).mono k,h.cps.mono k⟩
def dH(K:ah)(c:NC)(H:Hp)(F:Addr->Prop)(p tp:Addr)(n:Nat)(s:NS):Prop :=
 ∃loc dx q,loc .dG=p/\wG H loc (desc c dx tp loc q s)/\(∀b,F b↔Fp loc (desc c dx tp loc q s) b)/\ow K H n q s
structure Step(H:Hp)(F:Addr->Prop)(H':Hp)(F':Addr->Prop):Prop where
 kp:∀b o,H b=some o->¬F b->H' b=some o
 fr:∀b,F' b->F b∨H b=none
theorem Tj(h:desc c dx tp loc q s r=some o):AH o:=by
 have b:∀{g:Type} {f:g->HO} {x:Option g},(∀a,AH (f a))->x.map f=some o->AH o:=λ{g f x} j e=>by
  cases x with
  |none=>cases e
  |some a=>cases e;exact j a
 have ins:∀{C d:Addr} {i:List (Str×V)},AH (.ins C d i):=oq;cases r <;> simp only[desc] at h
 all_goals first
  | (cases h;exact oq)
  | (cases h;exact jf)
  |exact b (λ_=>jf) h
  |exact b (λ_=>oq) h
  | (split at h
     ·cases h;first|exact jf|exact oq|exact ah1
     ·cases h)
  | (refine b (λl=>?_) h;unfold sM;split <;> exact oq)
  | (refine b (λl=>?_) h;exact λk=>⟨λe=>(by cases e),λo e=>(by cases e)⟩)
section
variable{K:ah}{c:NC}{CT:Addr}{H H':Hp}{F F':Addr->Prop}{p tp ln lr:Addr}{n:Nat}{s s':NS}{ns:List Int}{rs:List R5}
theorem dH.mono(h:dH K c H F p tp n s)(e:aG H H'):dH K c H' F p tp n s:=by
 obtain⟨a,f,q,g,d,i,j⟩:=h;exact⟨a,f,q,g,d.mono e,i,j.mono λb x=>e.cz⟩
theorem dH.Vb(h:dH K c H F p tp n s)(g:F b)(e:H b=some o):AH o:=by
 obtain⟨a,i,q,l,f,j,m⟩:=h;obtain⟨r,k,rfl⟩:=(j b).mp g;cases d:desc c i tp a q s r with
 |none=>exact cy d k
 |some u =>
  have:=f.get r u d
  rw[e] at this;cases this;exact Tj d
theorem dH.there(h:dH K c H F p tp n s)(f:F b):∃o,H b=some o:=by
 obtain⟨a,g,q,k,e,i,l⟩:=h;obtain⟨r,j,rfl⟩:=(i b).mp f;cases d:desc c g tp a q s r with
 |none=>exact cy d j
 |some u=>exact⟨u,e.get r u d⟩
theorem dH.tup(h:dH K c H F p tp n s)(a:∀b o,H b=some o->¬F b->H' b=some o)(e:cX K H b x):cX K H' b x:=by
 rcases e with (e|⟨o,e⟩)|e
 ·exact .inl (.inl (a _ _ e λz=>(h.Vb z e x).1 rfl))
 ·exact .inl (.inr ⟨o,a _ _ e λz=>(h.Vb z e x).2 o rfl⟩)
 ·exact .inr e
theorem dH.keep(h:dH K c H F p tp n s)(l:∀b o,H b=some o->F b->H' b=some o)(i:∀b x,cX K H b x->cX K H' b x):dH K c H' F p tp n s:=by
 obtain⟨a,g,q,j,f,d,k⟩:=h;exact⟨a,g,q,j,f.keep λb o e z=>l b o e ((d b).mpr z),d,k.mono i⟩
end
mutual
theorem Rep.tups{K:ah}{H c:Hp}(g:∀b x,cX K H b x->cX K c b x):∀{d:PyData} {v:V},QD d=true->Rep K H d v->Rep K c d v
 |.none,_,_,h=>h
 |.bool _,_,_,h=>h
 |.int _,_,_,h=>h
 |.str _,_,_,h=>h
 |.list _,_,f,_=>by simp[QD] at f
 |.tuple ds,_,f,⟨a,vs,e,q,r⟩=>⟨a,vs,e,g _ _ q,dO.tups g f r⟩
 |.dict _,_,_,h=>h
theorem dO.tups{K:ah}{H a:Hp}(c:∀b x,cX K H b x->cX K a b x):∀{ds:List PyData} {vs:List V},Gm ds=true->dO K H ds vs->dO K a ds vs
 |[],_,_,h=>h
 |d::ds,_,f,⟨v,r,e,q,t⟩=>by
  have f:(QD d&&Gm ds)=true:=f;rw[dj] at f;exact⟨v,r,e,Rep.tups c f.1 q,dO.tups c f.2 t⟩
end
theorem JO:∀rs:List R5,Gm (rs.map R5.D)=true
 |[]=>rfl
 |r::rs=>by
  show (QD r.D&&Gm (rs.map R5.D))=true;rw[JO rs];rfl
section
variable{K:ah}{c:NC}{CT:Addr}{H H':Hp}{F F':Addr->Prop}{p tp ln lr:Addr}{n:Nat}{s s':NS}{ns:List Int}{rs:List R5}
theorem dM.keep(h:dM K CT H tp ln lr ns rs)(k1:∀b o,H b=some o->b=tp∨b=ln∨b=lr->H' b=some o)(e:∀b x,cX K H b x->cX K H' b x):dM K CT H' tp ln lr ns rs:=by
 obtain⟨⟨d,f⟩,a,c,g,i⟩:=h;exact⟨⟨d,k1 _ _ f (.inl rfl)⟩,k1 _ _ a (.inr (.inl rfl)),c,k1 _ _ g (.inr (.inr rfl)),dO.tups e (JO rs) i⟩
structure NW(K:ah)(c:NC)(CT:Addr)(H:Hp)(F:Addr->Prop)(p tp ln lr:Addr)(ns:List Int)(rs:List R5)(s:NS):Prop where
 dG:dH K c H F p tp ns.length s
 l5:dM K CT H tp ln lr ns rs
 o1:¬F tp
 o2:¬F ln
 o3:¬F lr
theorem NW.mono(h:NW K c CT H F p tp ln lr ns rs s)(e:aG H H'):NW K c CT H' F p tp ln lr ns rs s:=⟨h.dG.mono e,h.l5.mono e,h.o1,h.o2,h.o3⟩
theorem NW.done(h:NW K c CT H F p tp ln lr ns rs s)(st:Step H F H' F')(j:dH K c H' F' p tp ns.length s'):NW K c CT H' F' p tp ln lr ns rs s':=by
 have a:∀b x,cX K H b x->cX K H' b x:=λb x=>h.dG.tup st.kp;obtain⟨⟨l,i⟩,g,m,d,k⟩:=id h.l5;have nf:∀b o,H b=some o->¬F b->¬F' b:=λb o e f z=>by
  rcases st.fr b z with w|w
  ·exact f w
  ·rw[e] at w;cases w
 refine⟨j,h.l5.keep (λb o e q=>st.kp b o e ?_) a,nf _ _ i h.o1,nf _ _ g h.o2,nf _ _ d h.o3⟩;rcases q with rfl|rfl|rfl
 ·exact h.o1
 ·exact h.o2
 ·exact h.o3
theorem Step.refl'(e:aG H H'):Step H F H' F:=⟨λb o q _=>e _ _ q,λb z=>.inl z⟩
theorem Step.trans(a:Step H F H' F')(b:Step H' F' H'' F''):Step H F H'' F'':=by
 refine⟨λx o e nf=>b.kp x o (a.kp x o e nf) λz=>?_,λx z=>?_⟩
 ·rcases a.fr x z with w|w
  ·exact nf w
  ·rw[e] at w;cases w
 ·rcases b.fr x z with w|w
  ·exact a.fr x w
  ·by_cases q:F x
   ·exact .inl q
   ·refine .inr ?_
    cases c:H x with
    |none=>rfl
    |some o =>
     have:=a.kp x o c q
     rw[this] at w;cases w
end
theorem wG.join{H:Hp}{i j:Role->Addr}{k c:Role->Option HO}(a:wG H i k)(b:wG H j c)(l:∀r q,k r≠none->c q≠none->i r≠j q) :
 wG H (λr=>if (c r).isSome=true then j r else i r) (λr=>if (c r).isSome=true then c r else k r):=by
 have m:∀{r},(c r).isSome=true->c r≠none:=λ{r} h e=>by rw[e] at h;cases h
 refine⟨λr o e=>?_,λr q f d e=>?_⟩
 ·by_cases z:(c r).isSome=true
  ·rw[aq z] at e ⊢
   exact b.get r o e
  ·rw[b3 z] at e ⊢
   exact a.get r o e
 ·by_cases z:(c r).isSome=true
  ·by_cases g:(c q).isSome=true
   ·simp only[z,g,if_true] at f d e
    exact b.inj r q f d e
   ·simp only[z,g,if_true,if_false] at f d e
    exact cy e.symm (l q r (by simpa using d) (m z))
  ·by_cases g:(c q).isSome=true
   ·simp only[z,g,if_true,if_false] at f d e
    exact cy e (l r q (by simpa using f) (m g))
   ·simp only[z,g,if_false] at f d e
    exact a.inj r q (by simpa using f) (by simpa using d) e
structure Ik(H0 H:Hp)(p:Addr)(loc:Role->Addr)(ob:Role->Option HO):Prop where
 own:wG H loc ob
 np:loc .dG=p
 hn:ob .dG≠none
 kp:∀b o,H0 b=some o->b≠p->H b=some o
 fr:∀b,Fp loc ob b->b=p∨H0 b=none
section
variable{H0 H H':Hp}{p:Addr}{loc:Role->Addr}{ob:Role->Option HO}
theorem Ik.free(h:Ik H0 H p loc ob)(b:H a=none):H0 a=none:=by
 cases e:H0 a with
 |none=>rfl
 |some o =>
  by_cases z:a=p
  ·exfalso
   cases c:ob .dG with
   |none=>exact h.hn c
   |some u =>
    have:=h.own.get .dG u c
    rw[h.np,<- z,b] at this;cases this
  ·have:=h.kp a o e z
   rw[b] at this;cases this
theorem Ik.new(h:Ik H0 H p loc ob)(c:H a=none){r:Role}(d:r≠.dG)(o:HO):Ik H0 (upd H a o) p (rG loc r a) (iT ob r o):=by
 refine⟨h.own.new c r o,by rw[fN (bO d)];exact h.np,by rw[c6 (bO d)];exact h.hn,λb u e n=>?_,λb f=>?_⟩
 ·have:=h.kp b u e n
  rw[aO (aQ this c)];exact this
 ·rcases h.own.ZH f with z|rfl
  ·exact h.fr b z
  ·exact .inr (h.free c)
theorem Ik.put(h:Ik H0 H p loc ob)(o:HO):Ik H0 (upd H p o) p loc (iT ob .dG o):=by
 have e:=h.own.set (r:=.dG) h.hn o;rw[h.np] at e;refine⟨e,h.np,by rw[d7];exact aW o,λb u q n=>?_,λb a=>h.fr b ((JN h.hn).mp a)⟩;rw[aO n];exact h.kp b u q n
theorem wG.add{H H':Hp}{loc:Role->Addr}{ob:Role->Option HO}(h:wG H loc ob)(s:aG H H')(c:H a=none)(e:H' a=some o)(r:Role):wG H' (rG loc r a) (iT ob r o):=by
 have d:=h.new c r o;refine⟨λq u b=>?_,d.inj⟩;by_cases z:q=r
 ·subst z
  rw[d7] at b;cases b;rw[gq];exact e
 ·rw[c6 z] at b
  rw[fN z];exact s _ _ (h.get q u b)
theorem Ik.add(h:Ik H0 H p loc ob)(s:aG H H')(d:H a=none)(e:H' a=some o){r:Role}(f:r≠.dG):Ik H0 H' p (rG loc r a) (iT ob r o):=by
 have c:=h.new d f o;exact⟨h.own.add s d e r,c.np,c.hn,λb u q n=>s _ _ (h.kp b u q n),c.fr⟩
theorem Ik.afe(h:Ik H0 H p loc ob)(a:ob r≠none)(d:r≠.dG)(o:HO):Ik H0 (upd H (loc r) o) p loc (iT ob r o):=by
 refine⟨h.own.set a o,h.np,by rw[c6 (bO d)];exact h.hn,λb u e n=>?_,λb f=>h.fr b ((JN a).mp f)⟩;have c:b≠loc r:=λz=>by
  rcases h.fr (loc r) ⟨r,a,rfl⟩ with w|w
  ·exact n (z.trans w)
  ·rw[z,w] at e;cases e
 rw[aO c];exact h.kp b u e n
theorem Ik.ext{loc':Role->Addr}{Vc:Role->Option HO}(h:Ik H0 H p loc ob)(d:∀r,ob r=Vc r)(c:∀r,ob r≠none->loc r=loc' r):Ik H0 H p loc' Vc:=by
 have e:ob=Vc:=funext d;subst e;refine⟨⟨λr o e=>?_,λr q a b e=>h.own.inj r q a b ?_⟩,?_,h.hn,h.kp,λb f=>?_⟩
 ·rw[<- c r (by rw[e];exact aW o)]
  exact h.own.get r o e
 ·rw[c r a,c q b]
  exact e
 ·rw[<- c .dG h.hn]
  exact h.np
 ·obtain⟨r,a,e⟩:=f
  exact h.fr b ⟨r,a,(c r a).trans e⟩
theorem Ik.join{f:Role->Addr}{a:Role->Option HO}(h:Ik H0 H p loc ob)(b:wG H' f a)(i:a .dG=none)(fresh:∀r,a r≠none->H (f r)=none)(s:aG H H') :
 Ik H0 H' p (λr=>if (a r).isSome=true then f r else loc r) (λr=>if (a r).isSome=true then a r else ob r):=by
 refine⟨(h.own.mono s).join b λr q d c e=>?_,?_,?_,λb o e n=>s _ _ (h.kp b o e n),λx j=>?_⟩
 ·cases g:ob r with
  |none=>exact d g
  |some u =>
   have:=h.own.get r u g
   rw[e,fresh q c] at this;cases this
 ·show (if (a .dG).isSome=true then _ else _)=p
  rw[i];exact h.np
 ·show (if (a .dG).isSome=true then _ else _)≠none
  rw[i];exact h.hn
 ·obtain⟨r,d,c⟩:=j
  by_cases z:(a r).isSome=true
  ·simp only[z,if_true] at d c
   rw[<- c];exact .inr (h.free (fresh r d))
  ·simp only[z,if_false] at d c
   exact h.fr x ⟨r,by simpa using d,by simpa using c⟩
end
def An(ns:List Int)(i:Nat):RM.Row:=⟨ns.getD i 0,0,0,-1⟩
def S0(ns:List Int)(rs:List R5)(cl:List (Nat×Nat)):NS where
 ws:=rs.map λr=>av r.d.toNat
 R:=λ_=>An ns
 ts:=λ_=>[]
 aE:=cl.map (·.1)
 groups:=cl.map (·.2)
 had:=cl.map λ_=>[]
 ls:=[]
 cps:=[]
def Xe(C dx tp lu:Addr)(ls:List Addr)(ws:List (List Nat)):Role->Option HO
 |.c9=>some (.ins C dx [("town",.ref tp),("upright",.ref lu)])
 |.dP=>some (.lst (ls.map V.ref))
 |.gX i=>ws[i]?.map λw=>.lst (bF w)
 |_=>none
def abP(sp lu:Addr)(ls:List Addr):Role->Addr
 |.c9=>sp
 |.dP=>lu
 |.gX i=>ls.getD i 0
 |_=>0
theorem afg{H:Hp}{C sp m p d:Addr}{ls:List Addr}{ws:List (List Nat)}(n:H sp=some (.ins C m [("town",.ref p),("upright",.ref d)]))(v:H d=some (.lst (ls.map V.ref)))(hl:ls.length=ws.length)
 (t:∀(i:Nat) l w,ls[i]?=some l->ws[i]?=some w->H l=some (.lst (bF w))) (nd:ls.Nodup) (D:d∉ls):wG H (abP sp d ls) (Xe C m p d ls ws):=by
 have b:∀{i:Nat},Xe C m p d ls ws (.gX i)≠none->∃(a:i<ls.length),abP sp d ls (.gX i)=ls[i]:=λ{i} h=>by
  have a:i<ls.length:=by
   rw[hl];by_cases z:i<ws.length
   ·exact z
   ·exact cy (show (ws[i]?.map λw=>HO.lst (bF w))=none by rw[jH ∅];rfl) h
  refine⟨a,?_⟩;show ls.getD i 0=ls[i];rw[ao,aa a];rfl
 have A:∀{i:Nat} (a:i<ls.length),∃w,H ls[i]=some (.lst (bF w)):=λ{i} a=>⟨ws[i]'(hl▸a),t i _ _ (aa a) (aa (hl▸a))⟩;have x:sp≠d:=Ti n v (λe=>by cases e);have u:∀{i:Nat} (a:i<ls.length),sp≠ls[i]:=λ{i} a=>by
  obtain⟨w,f⟩:=A a;exact Ti n f (λe=>by cases e)
 have y:∀{i:Nat} (a:i<ls.length),d≠ls[i]:=λ{i} a e=>D (e▸aH a);refine⟨λr o e=>?_,λr q k g e=>?_⟩
 ·cases r <;> first|(cases e;done)|skip
  case c9=>cases e;exact n
  case dP=>cases e;exact v
  case gX i =>
   obtain⟨a,c⟩:=b (i:=i) (by rw[e];exact aW o);have f:=aa (hl▸a:i<ws.length);have e:(ws[i]?.map λw=>HO.lst (bF w))=some o:=e;rw[f] at e;cases e;rw[c];exact t i _ _ (aa a) f
 ·cases r <;> first|exact cy rfl k|skip
  all_goals cases q <;> first|exact cy rfl g|rfl|skip
  case c9.dP=>exact cy e x
  case c9.gX i =>
   obtain⟨a,c⟩:=b g;exact cy (e.trans c) (u a)
  case dP.c9=>exact cy e.symm x
  case dP.gX i =>
   obtain⟨a,c⟩:=b g;exact cy (e.trans c) (y a)
  case gX.c9 i =>
   obtain⟨a,c⟩:=b k;exact cy (e.symm.trans c) (u a)
  case gX.dP i =>
   obtain⟨a,c⟩:=b k;exact cy (e.symm.trans c) (y a)
  case gX.gX i j =>
   obtain⟨a,c⟩:=b k;obtain⟨B,s⟩:=b g;rw[c,s] at e;have q:ls[i]?=ls[j]?:=by rw[aa a,aa B,e]
   have:=(wm a nd).mp q
   rw[this]
structure cN(ns:List Int)(rs:List R5):Prop where
 nd:ns.Nodup
 ok:∀r∈rs,r.Ok ns.length
 n1:1<=ns.length
 Hx:ns.length<=10
 Wy:rs.length<=20
 pos:∀x∈ns,0<=x
structure Cv(ns:List Int)(rs:List R5)(s:NS):Prop where
 wl:s.ws.length=rs.length
 w4:∀w∈s.ws,w.length<=4
 fit:∀g,g<3->wB ns.length rs.length (s.R g)
abbrev tY(rs:List R5)(ws:List (List Nat))(g:Nat):List Nat:=pZ rs ws g rs.length
theorem xY:∀k∈tY rs ws g,k<rs.length:=λk a=>bB.mp (aT.mp a).1
def ju(ns:List Int)(rs:List R5)(o:cN ns rs)(ws:List (List Nat))(g:Nat):RM.Net:=aR ns rs (tY rs ws g) o.nd o.ok xY
section
variable{K:ah}{c:NC}{CT:Addr}{H H':Hp}{loc dx:Role->Addr}{q:TQ}{p tp ln lr:Addr}{n:Nat}{s:NS}{ns:List Int}{rs:List R5}
theorem wG.strAt(O:wG H loc (desc c dx tp loc q s)):vC c.str H (loc .c9) tp (loc .dP) s.ws:=by
 refine⟨⟨dx .c9,O.get .c9 _ rfl⟩,(av s.ws.length).map λi=>loc (.gX i),?_,by rw[af,be],λi l w b a=>?_⟩
 ·have:=O.get .dP _ rfl
  rw[this,bV];rfl
 ·have d:=(ai.mp a).1
  rw[ak,fV d] at b;cases b;exact O.get (.gX i) _ (by show (s.ws[i]?.map _)=_;rw[a];rfl)
theorem wG.Tn(O:wG H loc (desc c dx tp loc q s)){g:Nat}(a:g<3):tW c.book H (loc (.book g)) (loc (.gj g)) (s.ts g) :=
 ⟨⟨dx (.book g),O.get (.book g) _ (aq a)⟩,O.get (.gj g) _ (aq a)⟩
theorem rH{m g:Nat}(h:g<m):Aw ((av m).map f) (g:Int)=some (f g):=c5 (by rw[ak,fV h];rfl)
theorem dg.To(h:dg K H qs (iE n R))(hl:bN K H l (qs.map V.ref)):yK K H l n R:=by
 have e:qs.length=n:=by rw[h.len];simp[iE]
 refine⟨qs,hl,e,λi p a=>h.at' i p _ a ?_⟩;have b:=(ai.mp a).1;unfold iE;rw[ak,fV ∅];rfl
theorem oz{xs:List Nat}{i:Nat}(h:i<xs.length):Aw (bF xs) (i:Int)=some (.int (xs[i]:Nat)):=c5 (by rw[ak,aa h];rfl)
end
def gH{α:Type}(f:Nat->α)(i:Nat)(v:α):Nat->α:=λg=>if g=i then v else f g
theorem cQ{a:Type}{f:Nat->a}{i:Nat}{v:a}:gH f i v i=v:=aq rfl
theorem e9{a:Type}{f:Nat->a}{i g:Nat}{v:a}(h:g≠i):gH f i v g=f g:=b3 h
theorem wG.ext{loc':Role->Addr}{Vc:Role->Option HO}(h:wG H loc ob)(d:∀r,ob r=Vc r)(c:∀r,ob r≠none->loc r=loc' r):wG H loc' Vc/\∀b,Fp loc ob b↔Fp loc' Vc b:=by
 have e:ob=Vc:=funext d;subst e;refine⟨⟨λr o e=>?_,λr q a b e=>h.inj r q a b ?_⟩,λb=>⟨λ⟨r,a,e⟩=>⟨r,a,(c r a).symm.trans e⟩,λ⟨r,a,e⟩=>⟨r,a,(c r a).trans e⟩⟩⟩
 ·rw[<- c r (by rw[e];exact aW o)]
  exact h.get r o e
 ·rw[c r a,c q b]
  exact e
section
variable{K:ah}{c:NC}{H H':Hp}{F:Addr->Prop}{loc dx:Role->Addr}{q:TQ}{p tp:Addr}{n g:Nat}{s:NS}
theorem Tp(J:loc .dG=p)(O:wG H loc (desc c dx tp loc q s))(B:∀b,F b↔Fp loc (desc c dx tp loc q s) b)(j:ow K H n q s)(A:g<3){d' d:Addr}(t:H d'=none)
 (P:H' (loc (.book g))=some (.ins c.book d [("kept",.ref d')])) (N:H' d'=some (.dT [])) (I:∀b o,H b=some o->b≠loc (.book g)->H' b=some o) :
 ∃G,dH K c H' G p tp n {s with ts:=gH s.ts g []}/\Step H F H' G:=by
 have v:desc c dx tp loc q s (.book g)≠none:=by
  show (if g<3 then some _ else none)≠none;rw[aq A];exact aW _
 have C:F (loc (.book g)):=(B _).mpr ⟨.book g,v,rfl⟩;have h:∀b o,H b=some o->¬F b->H' b=some o:=λb o e z=>I b o e λw=>z (w▸C);have m:dH K c H F p tp n s:=⟨loc,dx,q,J,O,B,j⟩;have E:=O.set v (.ins c.book d [("kept",.ref d')]);have y:d'≠loc (.book g):=λz=>by
  have:=m.there C
  obtain⟨o,e⟩:=this;rw[z,e] at t;cases t
 have u:(upd H (loc (.book g)) (.ins c.book d [("kept",.ref d')])) d'=none:=by rw[aO y];exact t
 have L:=E.new u (.gj g) (.dT []);have R:wG H' (rG loc (.gj g) d') (iT (iT (desc c dx tp loc q s) (.book g) (.ins c.book d [("kept",.ref d')])) (.gj g) (.dT [])):=by
  refine L.keep λb o e _=>?_;by_cases z:b=d'
  ·rw[z,ay] at e
   cases e;rw[z];exact N
  ·rw[aO z] at e
   by_cases f:b=loc (.book g)
   ·rw[f,ay] at e
    cases e;rw[f];exact P
   ·rw[aO f] at e
    exact I b o e f
 obtain⟨S,Q⟩:=R.ext (Vc:=desc c (λr=>if r=.book g then d else dx r) tp (rG loc (.gj g) d') q {s with ts:=gH s.ts g []}) (loc':=rG loc (.gj g) d') (λr=>by
  cases r <;> first|rfl|skip
  ·rename_i k
   show iT (desc c dx tp loc q s) (.book g) _ (.book k)=(if k<3 then some (HO.ins c.book (if Role.book k=.book g then d else dx (.book k)) [("kept",.ref (rG loc (.gj g) d' (.gj k)))]) else none);by_cases z:k=g
   ·subst z
    rw[d7,aq A,aq rfl,gq]
   ·have D:Role.book k≠.book g:=λe=>z (by cases e;rfl)
    have a:Role.gj k≠.gj g:=λe=>z (by cases e;rfl);rw[c6 D,b3 D,fN a];rfl
  ·rename_i k
   show iT (iT (desc c dx tp loc q s) (.book g) _) (.gj g) _ (.gj k)=(if k<3 then some (HO.dT ((gH s.ts g [] k).map nR)) else none);by_cases z:k=g
   ·subst z
    rw[d7,aq A,cQ];rfl
   ·have a:Role.gj k≠.gj g:=λe=>z (by cases e;rfl)
    rw[c6 a,e9 z];rfl) (λr _=>rfl)
 refine⟨Fp _ _,⟨_,_,q,?_,S,λb=>Iff.rfl,⟨λk M=>(j.rows k M).mono λb x=>m.tup h,λi l e=>(j.aF i l e).mono λb x=>m.tup h,j.cps.mono λb x=>m.tup h⟩⟩,h,λb T=>?_⟩
 ·rw[fN (λz=>by cases z)]
  exact J
 ·rcases E.ZH ((Q b).mpr T) with z|rfl
  ·exact .inl ((B b).mpr ((JN v).mp z))
  ·exact .inr t
theorem abQ(G:loc .dG=p)(O:wG H loc (desc c dx tp loc q s))(A:∀b,F b↔Fp loc (desc c dx tp loc q s) b)(j:ow K H n q s)(E:g<3){x:Nat}(U:x<n){a:Addr}{d:RM.Row}(M:cX K H a (RM.c7 d)) :
 ∃D,dH K c (upd H (loc (.rows g)) (.lst (((q.rq g).map V.ref).set x (.ref a)))) D p tp n {s with R:=gH s.R g (RM.upd (s.R g) x d)}/\Step H F (upd H (loc (.rows g)) (.lst (((q.rq g).map V.ref).set x (.ref a)))) D:=by
 have u:desc c dx tp loc q s (.rows g)≠none:=by
  show (if g<3 then some _ else none)≠none;rw[aq E];exact aW _
 have L:F (loc (.rows g)):=(A _).mpr ⟨.rows g,u,rfl⟩;have C:∀b o,H b=some o->¬F b->(upd H (loc (.rows g)) (.lst (((q.rq g).map V.ref).set x (.ref a)))) b=some o:=λb o e z=>by
  have J:b≠loc (.rows g):=λw=>z (w▸L);rw[aO J];exact e
 have S:dH K c H F p tp n s:=⟨loc,dx,q,G,O,A,j⟩;have h:∀{b x},cX K H b x->_:=λ{b x} e=>S.tup C (b:=b) (x:=x) e;have N:=O.set u (.lst (((q.rq g).map V.ref).set x (.ref a)));obtain⟨Q,P⟩:=N.ext (Vc:=desc c dx tp loc {q with rq:=gH q.rq g ((q.rq g).set x a)} {s with R:=gH s.R g (RM.upd (s.R g) x d)}) (loc':=loc) (λr=>by
  cases r <;> first|rfl|skip
  rename_i k;show iT (desc c dx tp loc q s) (.rows g) _ (.rows k)=(if k<3 then some (HO.lst ((gH q.rq g ((q.rq g).set x a) k).map V.ref)) else none);by_cases z:k=g
  ·subst z
   rw[d7,aq E,cQ,jG]
  ·rw[c6 (λe=>z (by cases e;rfl)),e9 z]
   rfl) (λr _=>rfl)
 refine⟨Fp _ _,⟨loc,dx,_,G,Q,λb=>Iff.rfl,⟨λk B=>?_,λi l e=>(j.aF i l e).mono λb x=>h,j.cps.mono λb x=>h⟩⟩,C,λb T=>.inl ((A b).mpr ((JN u).mp ((P b).mpr T)))⟩;show dg K _ (gH q.rq g ((q.rq g).set x a) k) (iE n (gH s.R g (RM.upd (s.R g) x d) k));by_cases z:k=g
 ·subst z
  rw[cQ,cQ];have I:=j.rows k B;have t:(q.rq k).length=n:=by rw[I.len];simp[iE]
  refine⟨by rw[bg,t];simp[iE],λi b v f y=>?_⟩;have m:=(ai.mp f).1;rw[bg,t] at m;unfold iE at y;rw[ak,fV m] at y;cases y;rw[bZ] at f;by_cases w:x=i
  ·subst w
   rw[aq rfl,aq (by rw[t];exact m)] at f;cases f
   have:RM.upd (s.R k) x d x=d:=by unfold RM.upd;rw[aq rfl]
   show cX K _ a (RM.c7 (RM.upd (s.R k) x d x));rw[this];exact h M
  ·rw[b3 w] at f
   have:RM.upd (s.R k) x d i=s.R k i:=by unfold RM.upd;rw[b3 (bO w)]
   show cX K _ b (RM.c7 (RM.upd (s.R k) x d i));rw[this];exact h (I.at' i b _ f (by unfold iE;rw[ak,fV m];rfl))
 ·rw[e9 z,e9 z]
  exact (j.rows k B).mono λb x=>h
end
section
variable{K:ah}{c:NC}{H H':Hp}{F:Addr->Prop}{loc dx:Role->Addr}{q:TQ}{p tp:Addr}{n j:Nat}{s:NS}
theorem QE(G:loc .dG=p)(O:wG H loc (desc c dx tp loc q s))(y:∀b,F b↔Fp loc (desc c dx tp loc q s) b)(h:ow K H n q s)(S:j<s.ws.length){a:Addr}{w:List Nat}{ls:List Addr}(J:H (loc .dP)=some (.lst (ls.map V.ref)))(d:H a=none)
 (P:H' a=some (.lst (bF w))) (N:H' (loc .dP)=some (.lst ((ls.map V.ref).set j (.ref a)))) (E:∀b o,H b=some o->b≠loc .dP->H' b=some o) :
 ∃D,dH K c H' D p tp n {s with ws:=s.ws.set j w}/\Step H F H' D:=by
 have u:desc c dx tp loc q s .dP≠none:=aW _;have B:F (loc .dP):=(y _).mpr ⟨.dP,u,rfl⟩;have g:∀b o,H b=some o->¬F b->H' b=some o:=λb o e z=>E b o e λw=>z (w▸B);have m:dH K c H F p tp n s:=⟨loc,dx,q,G,O,y,h⟩;have t:ls.map V.ref=(av s.ws.length).map λi=>V.ref (loc (.gX i)):=by
  have:=O.get .dP _ rfl
  rw[J] at this;exact HO.lst.inj (aJ this)
 have C:=O.set u (.lst ((ls.map V.ref).set j (.ref a)));have A:a≠loc .dP:=λz=>by
  obtain⟨o,e⟩:=m.there B;rw[z,e] at d;cases d
 have v:(upd H (loc .dP) (.lst ((ls.map V.ref).set j (.ref a)))) a=none:=by rw[aO A];exact d
 have I:=C.new v (.gX j) (.lst (bF w));have R:wG H' (rG loc (.gX j) a) (iT (iT (desc c dx tp loc q s) .dP (.lst ((ls.map V.ref).set j (.ref a)))) (.gX j) (.lst (bF w))):=by
  refine I.keep λb o e _=>?_;by_cases z:b=a
  ·rw[z,ay] at e
   cases e;rw[z];exact P
  ·rw[aO z] at e
   by_cases f:b=loc .dP
   ·rw[f,ay] at e
    cases e;rw[f];exact N
   ·rw[aO f] at e
    exact E b o e f
 obtain⟨T,Q⟩:=R.ext (Vc:=desc c dx tp (rG loc (.gX j) a) q {s with ws:=s.ws.set j w}) (loc':=rG loc (.gX j) a) (λr=>by
  cases r <;> first|rfl|skip
  ·show some (HO.lst ((ls.map V.ref).set j (.ref a)))=some (HO.lst ((av (s.ws.set j w).length).map λi=>V.ref (rG loc (.gX j) a (.gX i))))
   rw[t,bg];congr 2;refine yE (-_) λi U X=>?_;simp only[bg,af,be] at U;rw[List.getElem_set];by_cases z:j=i
   ·subst z
    simp[gq]
   ·have L:Role.gX i≠.gX j:=λe=>z (by cases e;rfl)
    simp[z,fN L]
  ·rename_i i
   show iT (iT (desc c dx tp loc q s) .dP _) (.gX j) _ (.gX i)=((s.ws.set j w)[i]?.map λw=>HO.lst (bF w));by_cases z:i=j
   ·subst z
    rw[d7,bZ,aq rfl,aq S];rfl
   ·rw[c6 (λe=>z (by cases e;rfl)),bZ,b3 (bO z)]
    rfl) (λr _=>rfl)
 refine⟨Fp _ _,⟨_,dx,q,?_,T,λb=>Iff.rfl,⟨λk M=>(h.rows k M).mono λb x=>m.tup g,λi l e=>(h.aF i l e).mono λb x=>m.tup g,h.cps.mono λb x=>m.tup g⟩⟩,g,λb W=>?_⟩
 ·rw[fN (λz=>by cases z)]
  exact G
 ·rcases C.ZH ((Q b).mpr W) with z|rfl
  ·exact .inl ((y b).mpr ((JN u).mp z))
  ·exact .inr d
theorem Tq(t:loc .dG=p)(O:wG H loc (desc c dx tp loc q s))(u:∀b,F b↔Fp loc (desc c dx tp loc q s) b)(B:ow K H n q s){l:Addr}{qs:List Addr}{cps:List Cp}(hl:H l=some (.lst (qs.map V.ref)))(G:¬F l)(M:dg K H qs (cps.map Cp.vs)) :
 ∃I,dH K c (upd H p (.ins c.dG (dx .dG) [("town",.ref tp),("strands",.ref (loc .c9)),("rows_by_group",.ref (loc .vE)),("books",.ref (loc .kK)),("homes",.ref (loc .aE)),("groups",.ref (loc .groups)),("handed",.ref (loc .j7)),("letters",.ref (loc .cU)),("copies",.ref l)])) I p tp n {s with cps:=cps} /\
  (∀b o,H b=some o->b≠p->(upd H p (.ins c.dG (dx .dG) [("town",.ref tp),("strands",.ref (loc .c9)),("rows_by_group",.ref (loc .vE)),("books",.ref (loc .kK)),("homes",.ref (loc .aE)),("groups",.ref (loc .groups)),("handed",.ref (loc .j7)),("letters",.ref (loc .cU)),("copies",.ref l)])) b=some o)/\F p/\∀b,I b->F b∨b=l:=by
 generalize P:HO.ins c.dG (dx .dG) [("town",.ref tp),("strands",.ref (loc .c9)),("rows_by_group",.ref (loc .vE)),("books",.ref (loc .kK)),("homes",.ref (loc .aE)),("groups",.ref (loc .groups)),("handed",.ref (loc .j7)),("letters",.ref (loc .cU)),("copies",.ref l)]=o1;have j:desc c dx tp loc q s .dG≠none:=aW _;have f:F p:=(u _).mpr ⟨.dG,j,t⟩;have S:dH K c H F p tp n s:=⟨loc,dx,q,t,O,u,B⟩;have D:∀b o,H b=some o->b≠p->(upd H p o1) b=some o:=λb o e z=>by rw[aO z];exact e
 have v:∀{b x},cX K H b x->cX K (upd H p o1) b x:=λ{b x} e=>S.tup (λb o e z=>D b o e λw=>z (w▸f)) e;have A:=O.set j o1;rw[t] at A;have E:l≠p:=λz=>G (z▸f);have J:wG (upd H p o1) (rG loc .fM l) (iT (iT (desc c dx tp loc q s) .dG o1) .fM (.lst (qs.map V.ref))):=by
  refine⟨λr o e=>?_,λr y a b e=>?_⟩
  ·by_cases z:r=.fM
   ·subst z
    rw[d7] at e;cases e;rw[gq];exact D _ _ hl E
   ·rw[c6 z] at e
    rw[fN z];exact A.get r o e
  ·have g:∀{r:Role},r≠.fM->iT (desc c dx tp loc q s) .dG o1 r≠none->loc r≠l:=λ{r} z h e=>by
    refine G ((u _).mpr ⟨r,?_,e⟩);by_cases w:r=.dG
    ·rw[w];exact j
    ·rw[c6 w] at h;exact h
   by_cases z:r=.fM
   ·by_cases d:y=.fM
    ·rw[z,d]
    ·rw[z,gq,fN d] at e
     rw[c6 d] at b;exact cy e.symm (g d b)
   ·by_cases d:y=.fM
    ·rw[d,gq,fN z] at e
     rw[c6 z] at a;exact cy e (g z a)
    ·rw[fN z,fN d] at e
     rw[c6 z] at a;rw[c6 d] at b;exact A.inj r y a b e
 obtain⟨R,Q⟩:=J.ext (Vc:=desc c dx tp (rG loc .fM l) {q with cq:=qs} {s with cps:=cps}) (loc':=rG loc .fM l) (λr=>by
  subst P;cases r <;> rfl) (λr _=>rfl)
 refine⟨Fp _ _,⟨_,dx,_,?_,R,λb=>Iff.rfl,⟨λk N=>(B.rows k N).mono λb x=>v,λi l e=>(B.aF i l e).mono λb x=>v,M.mono λb x=>v⟩⟩,D,f,λb L=>?_⟩
 ·rw[fN (λz=>by cases z)]
  exact t
 ·obtain⟨r,C,m⟩:=(Q b).mpr L
  by_cases z:r=.fM
  ·rw[z,gq] at m
   exact .inr m.symm
  ·rw[fN z] at m
   rw[c6 z] at C;refine .inl ((u b).mpr ⟨r,?_,m⟩);by_cases w:r=.dG
   ·rw[w];exact j
   ·rw[c6 w] at C;exact C
end
end TW
namespace TW
open PySem L2 PyProof.Rows
open Classical in
def Off(H:Hp)(F:Addr->Prop):Hp:=λb=>if F b then none else H b
section
variable{K:ah}{c:NC}{CT:Addr}{H H':Hp}{F F' F1 F2 G:Addr->Prop}{p tp ln lr:Addr}{n:Nat}{s:NS}{ns:List Int}{rs:List R5}
theorem l6(h:Off H F b=some o):¬F b/\H b=some o:=by
 unfold Off at h;by_cases z:F b
 ·rw[aq z] at h;cases h
 ·rw[b3 z] at h;exact⟨z,h⟩
theorem tZ(z:¬F b)(h:H b=some o):Off H F b=some o:=by
 unfold Off;rw[b3 z];exact h
theorem cj:aG (Off H F) H:=λb o e=>(l6 e).2
theorem eu(st:Step H F H' F'):aG (Off H F) (Off H' F'):=λb o e=>by
 obtain⟨c,a⟩:=l6 e;refine tZ (λz=>?_) (st.kp b o a c);rcases st.fr b z with w|w
 ·exact c w
 ·rw[a] at w;cases w
theorem cT(e:aG H H'):aG (Off H F) (Off H' F):=eu (Step.refl' e)
theorem IT(a:¬F z):Off (upd H z o) F=upd (Off H F) z o:=by
 funext b;by_cases e:b=z
 ·subst e
  rw[ay];exact tZ a ay
 ·rw[aO e]
  unfold Off;rw[aO e]
theorem dH.afh(h:dH K c H F p tp n s)(e:cX K H b x):cX K (Off H F) b x:=by
 rcases e with (e|⟨o,e⟩)|e
 ·exact .inl (.inl (tZ (λz=>(h.Vb z e x).1 rfl) e))
 ·exact .inl (.inr ⟨o,tZ (λz=>(h.Vb z e x).2 o rfl) e⟩)
 ·exact .inr e
theorem dM.nw(a:dM K CT (Off H G) tp ln lr ns rs)(N:dH K c H F p tp ns.length s)(sub:∀b,F b->G b):NW K c CT H F p tp ln lr ns rs s:=by
 obtain⟨⟨h,e⟩,d,g,f,i⟩:=id a;exact⟨N,a.mono cj,λz=>(l6 e).1 (sub _ z),λz=>(l6 d).1 (sub _ z),λz=>(l6 f).1 (sub _ z)⟩
end
def JP(K:ah)(H:Hp)(l:Addr)(rs:List R5):Prop:=∃qs:List Addr,H l=some (.lst (qs.map V.ref))/\dg K H qs (rs.map R5.vs)
theorem JP.keep{K:ah}{a:Hp}(h:JP K H l rs)(k:∀o,H l=some o->a l=some o)(d:∀b x,cX K H b x->cX K a b x):JP K a l rs:=by
 obtain⟨f,e,c⟩:=h;exact⟨f,k _ e,c.mono d⟩
theorem JP.adw{K:ah}{H:Hp}{l:Addr}:∀{rs:List R5} {qs:List Addr},dg K H qs (rs.map R5.vs)->dO K H (rs.map R5.D) (qs.map V.ref)
 |[],[],_=>rfl
 |[],_::_,h=>by cases h.len
 |_::_,[],h=>by cases h.len
 |r::rs,q::qs,h=>⟨.ref q,qs.map V.ref,rfl,Rep.MR (ns:=r.ns) (h.at' 0 q _ rfl rfl),JP.adw (l:=l) ⟨Nat.succ.inj h.len,λi p x a b=>h.at' (i+1) p x a b⟩⟩
theorem ZJ{c:Hp}{F:Addr->Prop}(t:aG H H0)(a:H p=none)(f:∀b o,H0 b=some o->b≠p->c b=some o)(d:∀b,F b->b=p∨H0 b=none):aG H (Off c F):=λb o e=>tZ (λz=>by
 rcases d b z with rfl|w
 ·rw[e] at a;cases a
 ·rw[t _ _ e] at w;cases w) (f b o (t b o e) (aQ e a))
end TW
namespace L2
open PySem PySem.Spec PyProof.Rows
structure OA(K:ah)(x qual:Str)(st:Stmt)(f:Addr)(fd:FuncData)(dv:Value):Prop where
 ex:∃(oc:Value) (od:Option Addr) (T:Addr) (o:Obj) (n:Nat) (kV doc pm:Value) (an:Option Addr) (cdv ct:Value) (osl:Array (Option Value)),
  fd=fJ x qual (j6 st) (gM st) (aD st) (.ref T) kV doc pm an cdv ct/\K.lookup f=some ⟨oc,od,.func fd,osl⟩/\jX K cdv qual=true/\K.lookup T=some o/\o.data=.seq #[dv] n
 kp:eY K (.ref f)=true
section
variable{P:Program}{w:World}{K:ah}{mg:Str->Option Value}{base:Heap}
theorem OA.ok{x b:Str}{st:Stmt}{f:Addr}{i:FuncData}{p:Value}{N ps:List Str}{k:Nat}{sp:Sp}(F:OA K x b st f i p)(S:aP N ps (aD st))(g:∀vs H Q E,sp vs H Q E->vs.length=ps.length)
 (d:∀(c:Value) (A:Around) (a:List Env) (s:Shared) (H:Hp) (vs:List V) (Q:VK) (E:XK),kD k (A.deeper (envOfC b (aD st) s.heap.objs.size f c))->sp vs H Q E ->
  ∃t,iP (pX iS P w K mg base N b (aD st) f c A a s H E).n7 (gM st) t/\t {nx:=λ_ j=>Q .f9 j,rt:=Q} (start N vs) H):cH P w K mg base iS (k+1) f i ps sp:=by
 obtain⟨C,v,T,o,n,kV,u,z,B,c,y,m,rfl,lk,e,_⟩:=F.ex;refine YW lk e S g λA a s H vs Q E l r=>?_;obtain⟨t,h,q⟩:=d c A a s H vs Q E l r;exact⟨t,h.n7,q⟩
theorem OA.binds{x a:Str}{st:Stmt}{f:Addr}{g:FuncData}{i:Value}{ps:List Str}{ds:List Value}{m:Nat}(F:OA K x a st f g i)(w:m+ds.length=ps.length)
 (h:∀(T:Addr) (kV c d:Value) (e:Option Addr) (b ct:Value) (us:List Value),us.length=m ->
  ∃k,bindArgs (fJ x a (j6 st) (gM st) (aD st) (.ref T) kV c d e b ct) ⟨us,[]⟩=seqItems? (.ref T) >>= k/\k (some #[i])=pure (ps.zip (us++ds))):Binds K g ps ds:=by
 obtain⟨y,v,T,o,n,kV,c,d,e,b,ct,j,rfl,lk,q,lt,u⟩:=F.ex;intro s us l p;obtain⟨k,t,r⟩:=h T kV c d e b ct us (by rw[aB] at p;lia);exact PySem.W.binds_K l rfl lt u t r
theorem Ve{x a:Str}{st:Stmt}{f T:Addr}{o:Obj}{n:Nat}{i:Value}{m:Value}{j h:Option Addr}{e:Array (Option Value)}{kV d g b ct:Value}(l:K.lookup f=some ⟨m,j,.func (fJ x a (j6 st) (gM st) (aD st) (.ref T) kV d g h b ct),e⟩)
 (c:jX K b a=true) (k:eY K (.ref f)=true) (lt:K.lookup T=some o) (p:o.data=.seq #[i] n):OA K x a st f (fJ x a (j6 st) (gM st) (aD st) (.ref T) kV d g h b ct) i:=⟨⟨m,j,T,o,n,kV,d,g,h,b,ct,e,rfl,l,c,lt,p⟩,k⟩
end
end L2
namespace TW
open PySem L2 PyProof.Rows
structure j0(K:ah)(c:NC)(H:Hp)(F:Addr->Prop)(loc dx:Role->Addr)(q:TQ)(p tp:Addr)(n:Nat)(s:NS):Prop where
 hp:loc .dG=p
 own:wG H loc (desc c dx tp loc q s)
 fp:∀b,F b↔Fp loc (desc c dx tp loc q s) b
 tup:ow K H n q s
section
variable{K:ah}{c:NC}{H H':Hp}{F:Addr->Prop}{loc dx:Role->Addr}{q:TQ}{p tp:Addr}{n:Nat}{s:NS}
theorem j0.dG(h:j0 K c H F loc dx q p tp n s):dH K c H F p tp n s:=⟨loc,dx,q,h.hp,h.own,h.fp,h.tup⟩
theorem j0.mono(h:j0 K c H F loc dx q p tp n s)(e:aG H H'):j0 K c H' F loc dx q p tp n s:=⟨h.hp,h.own.mono e,h.fp,h.tup.mono λb x=>e.cz⟩
theorem yN(X:j0 K c H F loc dx q p tp n s){r:Role}(a:desc c dx tp loc q s r≠none){o:HO}{q':TQ}{s':NS}
 (j:∀x,iT (desc c dx tp loc q s) r o x=desc c dx tp loc q' s' x) (d:(∀b x,cX K H b x->cX K (upd H (loc r) o) b x)->ow K (upd H (loc r) o) n q' s') :
 j0 K c (upd H (loc r) o) F loc dx q' p tp n s'/\Step H F (upd H (loc r) o) F:=by
 obtain⟨h,O,f,k⟩:=X;have i:F (loc r):=(f _).mpr ⟨r,a,rfl⟩;have t:dH K c H F p tp n s:=⟨loc,dx,q,h,O,f,k⟩;have g:∀b u,H b=some u->¬F b->(upd H (loc r) o) b=some u:=λb u e z=>b9 b u e λw=>z (w▸i);obtain⟨m,l⟩:=(O.set a o).ext (Vc:=desc c dx tp loc q' s') (loc':=loc) j (λx _=>rfl);exact⟨⟨h,m,λb=>(f b).trans ((JN a).symm.trans (l b)),d λb x=>t.tup g⟩,g,λb z=>.inl z⟩
theorem fZ{ls:List LS}{i k:Nat}(a:i<ls.length):(ls.set i l')[k]?=if k=i then some l' else ls[k]?:=by
 rw[bZ];by_cases z:i=k
 ·subst z
  rw[aq rfl,aq a,aq rfl]
 ·rw[b3 z,b3 (bO z)]
def nS(c:NC)(dx:Role->Addr)(loc:Role->Addr)(i:Nat)(l:LS):HO:=.ins c.post (dx (.cC i)) [("letter",.ref (loc (.letter i))),("group",.int l.grp),("old",.bl l.old),("done_at",.ref (loc (.done i))),("deeds",.ref (loc (.aF i)))]
theorem abR(X:j0 K c H F loc dx q p tp n s){i:Nat}{l:LS}(hl:s.ls[i]?=some l) :
 j0 K c (upd H (loc (.cC i)) (nS c dx loc i {l with old:=true})) F loc dx q p tp n {s with ls:=s.ls.set i {l with old:=true}}/\Step H F (upd H (loc (.cC i)) (nS c dx loc i {l with old:=true})) F:=by
 have a:=(ai.mp hl).1;refine yN X (r:=.cC i) (q':=q) (by show (s.ls[i]?.map _)≠none;rw[hl];exact aW _) (λx=>?_) (λb=>⟨λg f=>(X.tup.rows g f).mono b,λk d e=>?_,X.tup.cps.mono b⟩)
 ·cases x <;> first|rfl|skip
  ·show some _=some (HO.lst ((av (s.ls.set i _).length).map _))
   rw[bg]
  all_goals rename_i k
  ·show iT (desc c dx tp loc q s) (.cC i) _ (.cC k)=((s.ls.set i _)[k]?.map λl=>nS c dx loc k l)
   rw[fZ a];by_cases z:k=i
   ·subst z
    rw[d7,aq rfl];rfl
   ·rw[c6 (λe=>z (by cases e;rfl)),b3 z]
    rfl
  ·show (s.ls[k]?.map λl=>sM c (dx (.letter k)) l)=((s.ls.set i _)[k]?.map λl=>sM c (dx (.letter k)) l)
   rw[fZ a];by_cases z:k=i
   ·subst z
    rw[aq rfl,hl];rfl
   ·rw[b3 z]
  ·show (s.ls[k]?.map λl=>HO.dK (l.done.map λh:Nat=>(eT (h:Int),.bl true)))=((s.ls.set i _)[k]?.map λl=>HO.dK (l.done.map λh:Nat=>(eT (h:Int),.bl true)))
   rw[fZ a];by_cases z:k=i
   ·subst z
    rw[aq rfl,hl];rfl
   ·rw[b3 z]
  ·show (s.ls[k]?.map λ_=>HO.lst ((q.dq k).map V.ref))=((s.ls.set i _)[k]?.map λ_=>HO.lst ((q.dq k).map V.ref))
   rw[fZ a];by_cases z:k=i
   ·subst z
    rw[aq rfl,hl];rfl
   ·rw[b3 z]
 ·have e:(s.ls.set i _)[k]?=some d:=e
  rw[fZ a] at e;by_cases z:k=i
  ·subst z
   rw[aq rfl] at e;cases e;exact (X.tup.aF k l hl).mono b
  ·rw[b3 z] at e
   exact (X.tup.aF k d e).mono b
theorem ZK(X:j0 K c H F loc dx q p tp n s){i:Nat}{l:LS}(hl:s.ls[i]?=some l)(ds:List Nat) :
 j0 K c (upd H (loc (.done i)) (.dK (ds.map λh:Nat=>(eT (h:Int),.bl true)))) F loc dx q p tp n {s with ls:=s.ls.set i {l with done:=ds}}/\Step H F (upd H (loc (.done i)) (.dK (ds.map λh:Nat=>(eT (h:Int),.bl true)))) F:=by
 have a:=(ai.mp hl).1;refine yN X (r:=.done i) (q':=q) (by show (s.ls[i]?.map _)≠none;rw[hl];exact aW _) (λx=>?_) (λb=>⟨λg f=>(X.tup.rows g f).mono b,λk d e=>?_,X.tup.cps.mono b⟩)
 ·cases x <;> first|rfl|skip
  ·show some _=some (HO.lst ((av (s.ls.set i _).length).map _))
   rw[bg]
  all_goals rename_i k
  ·show (s.ls[k]?.map λl=>nS c dx loc k l)=((s.ls.set i _)[k]?.map λl=>nS c dx loc k l)
   rw[fZ a];by_cases z:k=i
   ·subst z
    rw[aq rfl,hl];rfl
   ·rw[b3 z]
  ·show (s.ls[k]?.map λl=>sM c (dx (.letter k)) l)=((s.ls.set i _)[k]?.map λl=>sM c (dx (.letter k)) l)
   rw[fZ a];by_cases z:k=i
   ·subst z
    rw[aq rfl,hl];rfl
   ·rw[b3 z]
  ·show iT (desc c dx tp loc q s) (.done i) _ (.done k)=((s.ls.set i _)[k]?.map λl=>HO.dK (l.done.map λh:Nat=>(eT (h:Int),.bl true)))
   rw[fZ a];by_cases z:k=i
   ·subst z
    rw[d7,aq rfl];rfl
   ·rw[c6 (λe=>z (by cases e;rfl)),b3 z]
    rfl
  ·show (s.ls[k]?.map λ_=>HO.lst ((q.dq k).map V.ref))=((s.ls.set i _)[k]?.map λ_=>HO.lst ((q.dq k).map V.ref))
   rw[fZ a];by_cases z:k=i
   ·subst z
    rw[aq rfl,hl];rfl
   ·rw[b3 z]
 ·have e:(s.ls.set i _)[k]?=some d:=e
  rw[fZ a] at e;by_cases z:k=i
  ·subst z
   rw[aq rfl] at e;cases e;exact (X.tup.aF k l hl).mono b
  ·rw[b3 z] at e
   exact (X.tup.aF k d e).mono b
theorem AI(X:j0 K c H F loc dx q p tp n s){i:Nat}{l:LS}(hl:s.ls[i]?=some l){a:Addr}{d:cV}(w:cX K H a d.vs) :
 j0 K c (upd H (loc (.aF i)) (.lst ((q.dq i).map V.ref++[.ref a]))) F loc dx {q with dq:=gH q.dq i (q.dq i++[a])} p tp n {s with ls:=s.ls.set i {l with aF:=l.aF++[d]}}/\Step H F (upd H (loc (.aF i)) (.lst ((q.dq i).map V.ref++[.ref a]))) F:=by
 have m:=(ai.mp hl).1;refine yN X (r:=.aF i) (q':={q with dq:=gH q.dq i (q.dq i++[a])}) (by show (s.ls[i]?.map _)≠none;rw[hl];exact aW _) (λx=>?_) (λf=>⟨λg y=>(X.tup.rows g y).mono f,λk v e=>?_,X.tup.cps.mono f⟩)
 ·cases x <;> first|rfl|skip
  ·show some _=some (HO.lst ((av (s.ls.set i _).length).map _))
   rw[bg]
  all_goals rename_i k
  ·show (s.ls[k]?.map λl=>nS c dx loc k l)=((s.ls.set i _)[k]?.map λl=>nS c dx loc k l)
   rw[fZ m];by_cases z:k=i
   ·subst z
    rw[aq rfl,hl];rfl
   ·rw[b3 z]
  ·show (s.ls[k]?.map λl=>sM c (dx (.letter k)) l)=((s.ls.set i _)[k]?.map λl=>sM c (dx (.letter k)) l)
   rw[fZ m];by_cases z:k=i
   ·subst z
    rw[aq rfl,hl];rfl
   ·rw[b3 z]
  ·show (s.ls[k]?.map λl=>HO.dK (l.done.map λh:Nat=>(eT (h:Int),.bl true)))=((s.ls.set i _)[k]?.map λl=>HO.dK (l.done.map λh:Nat=>(eT (h:Int),.bl true)))
   rw[fZ m];by_cases z:k=i
   ·subst z
    rw[aq rfl,hl];rfl
   ·rw[b3 z]
  ·show iT (desc c dx tp loc q s) (.aF i) _ (.aF k)=((s.ls.set i _)[k]?.map λ_=>HO.lst ((gH q.dq i (q.dq i++[a]) k).map V.ref))
   rw[fZ m];by_cases z:k=i
   ·subst z
    rw[d7,aq rfl,cQ,aK];rfl
   ·rw[c6 (λe=>z (by cases e;rfl)),b3 z,e9 z]
    rfl
 ·show dg K _ (gH q.dq i (q.dq i++[a]) k) _
  have e:(s.ls.set i _)[k]?=some v:=e;rw[fZ m] at e;by_cases z:k=i
  ·subst z
   rw[aq rfl] at e;cases e;rw[cQ];show dg K _ _ ((l.aF++[d]).map cV.vs);rw[aK];have u:=(X.tup.aF k l hl).mono f;refine⟨by rw[aB,aB,u.len];rfl,λj b x t o=>?_⟩;rcases ER t with t|⟨rfl,rfl⟩
   ·have A:=(ai.mp t).1
    rw[bR (by rw[<- u.len];exact A)] at o;exact u.at' j b x t o
   ·rw[u.len,bT (az _)] at o
    rw[eV] at o;cases o;exact f _ _ w
  ·rw[b3 z] at e
   rw[e9 z];exact (X.tup.aF k v e).mono f
theorem Vf(X:j0 K c H F loc dx q p tp n s){qs:List Addr}{cps:List Cp}(d:dg K H qs (cps.map Cp.vs)) :
 j0 K c (upd H (loc .fM) (.lst (qs.map V.ref))) F loc dx {q with cq:=qs} p tp n {s with cps:=cps}/\Step H F (upd H (loc .fM) (.lst (qs.map V.ref))) F :=
 yN X (r:=.fM) (q':={q with cq:=qs}) (aW _) (λx=>by cases x <;> rfl) (λa=>⟨λg b=>(X.tup.rows g b).mono a,λk l e=>(X.tup.aF k l e).mono a,d.mono a⟩)
theorem ZL(X:j0 K c H F loc dx q p tp n s)(hs:List Nat) :
 j0 K c (upd H (loc .aE) (.lst (bF hs))) F loc dx q p tp n {s with aE:=hs}/\Step H F (upd H (loc .aE) (.lst (bF hs))) F :=
 yN X (r:=.aE) (q':=q) (aW _) (λx=>by cases x <;> rfl) (λa=>⟨λg b=>(X.tup.rows g b).mono a,λk l e=>(X.tup.aF k l e).mono a,X.tup.cps.mono a⟩)
theorem ZM(X:j0 K c H F loc dx q p tp n s){i:Nat}(d:i<s.had.length)(a:List Nat) :
 j0 K c (upd H (loc (.handed i)) (.lst (bF a))) F loc dx q p tp n {s with had:=s.had.set i a}/\Step H F (upd H (loc (.handed i)) (.lst (bF a))) F:=by
 refine yN X (r:=.handed i) (q':=q) (by show (s.had[i]?.map _)≠none;rw[aa d];exact aW _) (λx=>?_) (λb=>⟨λg f=>(X.tup.rows g f).mono b,λk l e=>(X.tup.aF k l e).mono b,X.tup.cps.mono b⟩);cases x <;> first|rfl|skip
 ·show some _=some (HO.lst ((av (s.had.set i _).length).map _))
  rw[bg]
 ·rename_i k
  show iT (desc c dx tp loc q s) (.handed i) _ (.handed k)=((s.had.set i a)[k]?.map λw=>HO.lst (bF w));rw[bZ];by_cases z:k=i
  ·subst z
   rw[d7,aq rfl,aq d];rfl
  ·rw[c6 (λe=>z (by cases e;rfl)),b3 (bO z)]
   rfl
end
theorem xZ{a:Type}{xs:List a}{i:Nat}{x:a}(h:xs[i]?=some x):xs.set i x=xs:=by
 obtain⟨b,rfl⟩:=ai.mp h;exact List.set_getElem_self b
def Ao(c:NC)(FU OB la da ea:Addr)(n:Nat)(l:LS):Role->Option HO
 |.cC i=>if i=n then some (.ins c.post FU [("letter",.ref la),("group",.int l.grp),("old",.bl l.old),("done_at",.ref da),("deeds",.ref ea)]) else none
 |.letter i=>if i=n then some (sM c OB l) else none
 |.done i=>if i=n then some (.dK (l.done.map λh:Nat=>(eT (h:Int),.bl true))) else none
 |.aF i=>if i=n then some (.lst []) else none
 |_=>none
def newL(pa la da ea:Addr):Role->Addr
 |.cC _=>pa
 |.letter _=>la
 |.done _=>da
 |.aF _=>ea
 |_=>0
section
variable{K:ah}{c:NC}{H H':Hp}{F:Addr->Prop}{loc dx:Role->Addr}{q:TQ}{p tp:Addr}{n:Nat}{s:NS}
theorem afi{FU OB pa la da ea:Addr}{l:LS}(x:H pa=some (.ins c.post FU [("letter",.ref la),("group",.int l.grp),("old",.bl l.old),("done_at",.ref da),("deeds",.ref ea)]))(w:H la=some (sM c OB l))(u:H da=some (.dK (l.done.map λh:Nat=>(eT (h:Int),.bl true))))(t:H ea=some (.lst []))
 (q:pa≠la) (p:pa≠da) (j:pa≠ea) (m:la≠da) (s:la≠ea) (k:da≠ea):wG H (newL pa la da ea) (Ao c FU OB la da ea n l):=by
 have d:∀{i:Nat} {o:HO} {g:HO},(if i=n then some o else none)=some g->o=g/\i=n:=λ{i o g} e=>by
  by_cases z:i=n
  ·rw[aq z] at e;cases e;exact⟨rfl,z⟩
  ·rw[b3 z] at e;cases e
 have f:∀{i:Nat} {o:HO},(if i=n then some o else none)≠none->i=n:=λ{i o} e=>by
  by_cases z:i=n
  ·exact z
  ·rw[b3 z] at e;exact cy rfl e
 refine⟨λr o e=>?_,λr v a b e=>?_⟩
 ·cases r <;> first|(cases e;done)|skip
  ·rw[<- (d e).1];exact x
  ·rw[<- (d e).1];exact w
  ·rw[<- (d e).1];exact u
  ·rw[<- (d e).1];exact t
 ·cases r <;> first|exact cy rfl a|skip
  all_goals cases v <;> first|exact cy rfl b|skip
  all_goals first
   | (rw[f a,f b];done)
   |exact cy e q
   |exact cy e.symm q
   |exact cy e p
   |exact cy e.symm p
   |exact cy e j
   |exact cy e.symm j
   |exact cy e m
   |exact cy e.symm m
   |exact cy e s
   |exact cy e.symm s
   |exact cy e k
   |exact cy e.symm k
theorem ZN(E:loc .dG=p)(O:wG H loc (desc c dx tp loc q s))(m:∀b,F b↔Fp loc (desc c dx tp loc q s) b)(j:ow K H n q s){FU OB pa la da ea:Addr}{l:LS}(hd:l.aF=[])
 (W:H pa=some (.ins c.post FU [("letter",.ref la),("group",.int l.grp),("old",.bl l.old),("done_at",.ref da),("deeds",.ref ea)])) (T:H la=some (sM c OB l)) (P:H da=some (.dK (l.done.map λh:Nat=>(eT (h:Int),.bl true)))) (L:H ea=some (.lst []))
 (d1:pa≠la) (U:pa≠da) (G:pa≠ea) (N:la≠da) (d5:la≠ea) (M:da≠ea) (n1:¬F pa) (n2:¬F la) (n3:¬F da) (n4:¬F ea) :
 ∃D,dH K c (upd H (loc .cU) (.lst (((av s.ls.length).map λi=>.ref (loc (.cC i)))++[.ref pa]))) D p tp n {s with ls:=s.ls++[l]} /\
  (∀b o,H b=some o->¬F b->(upd H (loc .cU) (.lst (((av s.ls.length).map λi=>.ref (loc (.cC i)))++[.ref pa]))) b=some o)/\∀b,D b->F b∨b=pa∨b=la∨b=da∨b=ea:=by
 have v:=afi (n:=s.ls.length) (c:=c) W T P L d1 U G N d5 M;have N0:dH K c H F p tp n s:=⟨loc,dx,q,E,O,m,j⟩;have y:desc c dx tp loc q s .cU≠none:=aW _;have I:F (loc .cU):=(m _).mpr ⟨.cU,y,rfl⟩;have A:∀r,Ao c FU OB la da ea s.ls.length l r≠none->¬F (newL pa la da ea r):=λr h=>by
  cases r <;> first|exact cy rfl h|assumption
 have B:∀b o,H b=some o->¬F b->(upd H (loc .cU) (.lst (((av s.ls.length).map λi=>.ref (loc (.cC i)))++[.ref pa]))) b=some o:=λb u e z=>b9 b u e λw=>z (w▸I);have t:∀b x,cX K H b x->cX K _ b x:=λb x=>N0.tup B;have J:=O.join v λr R a b e=>A R b (e▸(m _).mpr ⟨r,a,rfl⟩);have S:=J.set (r:=.cU) y (.lst (((av s.ls.length).map λi=>V.ref (loc (.cC i)))++[.ref pa]));have d:∀{k:Nat},k≠s.ls.length->(s.ls++[l])[k]?=s.ls[k]?:=λ{k} z=>by
  by_cases w:k<s.ls.length
  ·exact bR w
  ·rw[jH (by rw[aB];show s.ls.length+1<=k;lia),jH ∅]
 have f:(s.ls++[l])[s.ls.length]?=some l:=by rw[bT (az _),eV];rfl
 obtain⟨Z,X⟩:=S.ext (Vc:=desc c (λr=>if r=.cC s.ls.length then FU else if r=.letter s.ls.length then OB else dx r) tp (λr=>if (Ao c FU OB la da ea s.ls.length l r).isSome=true then newL pa la da ea r else loc r) {q with dq:=gH q.dq s.ls.length []} {s with ls:=s.ls++[l]})
  (loc':=λr=>if (Ao c FU OB la da ea s.ls.length l r).isSome=true then newL pa la da ea r else loc r) (λr=>by
   cases r <;> first|rfl|skip
   ·
    show some _=some (HO.lst ((av (s.ls++[l]).length).map _));rw[aB];show _=some (HO.lst ((av (s.ls.length+1)).map _));rw[gA,aK];congr 2;congr 1
    ·refine cY λi Q=>?_
     have z:i≠s.ls.length:=by have:=bB.mp Q;lia
     simp[Ao,z]
    ·simp[Ao,newL]
   all_goals rename_i k
   all_goals by_cases z:k=s.ls.length
   all_goals first|subst z|skip
   all_goals rw[c6 (λe=>by cases e)]
   ·simp[Ao,newL,desc,f]
   ·have:=d z
    simp[Ao,newL,desc,z,this]
   ·simp[Ao,newL,desc,f]
   ·have:=d z
    simp[Ao,newL,desc,z,this]
   ·simp[Ao,newL,desc,f]
   ·have:=d z
    simp[Ao,newL,desc,z,this]
   ·simp[Ao,newL,desc,f,cQ]
   ·have:=d z
    simp[Ao,newL,desc,z,this,e9 z]) (λr _=>rfl)
 refine⟨Fp _ _,⟨λr=>if (Ao c FU OB la da ea s.ls.length l r).isSome=true then newL pa la da ea r else loc r,_,_,E,Z,λb=>Iff.rfl,⟨λg Y=>(j.rows g Y).mono t,λk C e=>?_,j.cps.mono t⟩⟩,B,λb hb=>?_⟩
 ·have e:(s.ls++[l])[k]?=some C:=e
  show dg K _ (gH q.dq s.ls.length [] k) _;by_cases z:k=s.ls.length
  ·subst z
   rw[f] at e;cases e;rw[cQ,hd];exact⟨rfl,λi b x e=>by cases e⟩
  ·rw[d z] at e
   rw[e9 z];exact (j.aF k C e).mono t
 ·obtain⟨r,a,e⟩:=(JN (ob:=λr=>if (Ao c FU OB la da ea s.ls.length l r).isSome=true then Ao c FU OB la da ea s.ls.length l r else desc c dx tp loc q s r) (r:=.cU) y).mp ((X b).mpr hb)
  by_cases z:(Ao c FU OB la da ea s.ls.length l r).isSome=true
  ·simp only[z,if_true] at e
   subst e;right;cases r <;> first|(cases z;done)|skip
   ·exact .inl rfl
   ·exact .inr (.inl rfl)
   ·exact .inr (.inr (.inl rfl))
   ·exact .inr (.inr (.inr rfl))
  ·simp only[z,if_false] at a e
   exact .inl ((m b).mpr ⟨r,by simpa using a,by simpa using e⟩)
end
theorem Vg(a b x y:Int):PyData.eqv (.tuple (([a,b]:List Int).map .int)) (.tuple (([x,y]:List Int).map .int))=decide (a=x/\b=y):=by
 show (PyData.eqv (.int a) (.int x)&&(PyData.eqv (.int b) (.int y)&&true))=_;show ((a==x)&&((b==y)&&true))=_;rw[Bool.and_true,kC];simp
section
variable{K:ah}{c:NC}{H H':Hp}{F:Addr->Prop}{loc dx:Role->Addr}{q:TQ}{p tp:Addr}{n:Nat}{s:NS}
theorem j0.past(X:j0 K c H F loc dx q p tp n s)(f:H z=some u)(d:AH u)(g:¬F z)(a:∀b v,H b=some v->b≠z->H' b=some v):j0 K c H' F loc dx q p tp n s :=
 ⟨X.hp,X.own.keep λb o e y=>a b o e λw=>g (w▸(X.fp b).mpr y),X.fp,X.tup.mono λb x=>cX.past f d a⟩
end
def g4(i x:Nat)(c:Cp):Bool:=decide (c.r=i/\c.w=x)
def dQ(s:NS)(i:Nat)(d:cV):NS:=match s.ls[i]? with|some l=>{s with ls:=s.ls.set i {l with aF:=l.aF++[d]}}|none=>s
theorem fO{s:NS}{i:Nat}(h:s.ls[i]?=some l):dQ s i d={s with ls:=s.ls.set i {l with aF:=l.aF++[d]}}:=by
 unfold dQ;rw[h]
def pV(i x:Nat)(s:NS)(c:Cp):NS:=if g4 i x c=true then dQ s c.l (.LZ c.h i) else s
def jJ(s:NS)(i x:Nat)(m:Nat):NS:=(s.cps.take m).foldl (pV i x) s
def pW(s:NS)(i x:Nat):NS:={jJ s i x s.cps.length with cps:=s.cps.filter λc=>!g4 i x c}
theorem QF:(dQ s i d).ls.length=s.ls.length:=by
 unfold dQ;cases s.ls[i]? with
 |none=>rfl
 |some l=>exact bg
theorem Xf:(pV i x s c).ls.length=s.ls.length:=by
 unfold pV;split
 ·exact QF
 ·rfl
theorem QG:(dQ s i d).cps=s.cps:=by
 unfold dQ;cases s.ls[i]? <;> rfl
theorem Xg:(pV i x s c).cps=s.cps:=by
 unfold pV;split
 ·exact QG
 ·rfl
theorem M0{i x:Nat}:∀{cs:List Cp} {s:NS},(cs.foldl (pV i x) s).ls.length=s.ls.length
 |[],_=>rfl
 |c::cs,s=>by rw[jb,M0,Xf]
theorem M2{i x:Nat}:∀{cs:List Cp} {s:NS},(cs.foldl (pV i x) s).cps=s.cps
 |[],_=>rfl
 |c::cs,s=>by rw[jb,M2,Xg]
theorem yO:jJ s i x 0=s:=by unfold jJ;rw[List.take_zero];rfl
theorem yP{s:NS}{m:Nat}(h:m<s.cps.length):jJ s i x (m+1)=pV i x (jJ s i x m) s.cps[m]:=by
 unfold jJ;rw[dF h,pP];rfl
theorem M3:(jJ s i x m).ls.length=s.ls.length:=M0
theorem Xh:(jJ s i x m).cps=s.cps:=M2
theorem M4{a:Type}{f:a->Bool}{xs:List a}{i:Nat}(b:i<xs.length):(xs.take (i+1)).filter f=(xs.take i).filter f++if f xs[i]=true then [xs[i]] else []:=by
 rw[dF b,gB];congr 1;cases e:f xs[i]
 ·rw[b3 (!_),cS (by rw[e];decide)];rfl
 ·rw[aq rfl,cR e];rfl
theorem dg.snoc{K:ah}(h:dg K H qs xs)(e:cX K H a x):dg K H (qs++[a]) (xs++[x]):=by
 refine⟨by rw[aB,aB,h.len];rfl,λj b y d c=>?_⟩;rcases ER d with d|⟨rfl,rfl⟩
 ·have f:=(ai.mp d).1
  rw[bR (by rw[<- h.len];exact f)] at c;exact h.at' j b y d c
 ·rw[h.len,bT (az _),eV] at c
  cases c;exact e
end TW
namespace RM
variable{N:Net}{S:Nat->Row}
end RM
namespace Gr
structure g6(n:Nat)(M:List Int):Prop where
 le:∀x:Int,0<=x->x<n->0<=iY M x/\iY M x<=x
 id_:∀x:Int,0<=x->x<n->iY M (iY M x)=iY M x
theorem Gn{n:Nat}{x:Int}(b:0<=x)(a:x<n):iY ((av n).map λk=>((k:Nat):Int)) x=x:=by
 unfold iY;rw[ao,ak,fV ∅];show ((x.toNat:Nat):Int)=x;lia
theorem g6.nil(n:Nat):g6 n ((av n).map λk=>((k:Nat):Int)) :=
 ⟨λx b a=>(by rw[Gn b a];lia),λx b a=>(by rw[Gn b a,Gn b a])⟩
def mT(M:List Int)(a b:Int):List Int:=M.map λm=>if m=(if iY M b > iY M a then iY M b else iY M a) then (if iY M b<iY M a then iY M b else iY M a) else m
theorem Tr:(mT M a b=joinM M b a/\iY M a<=iY M b)∨(mT M a b=joinM M a b/\iY M b<=iY M a):=by
 by_cases h:iY M b<iY M a
 ·refine .inr ⟨?_,∅⟩
  unfold mT joinM;rw[aq h,b3 ∅]
 ·refine .inl ⟨?_,∅⟩
  unfold mT joinM;rw[b3 h];by_cases c:iY M b > iY M a
  ·rw[aq c]
  ·have e:iY M a=iY M b:=∅
   rw[b3 c,e]
theorem g6.join{a b:Int}(L:g6 n M)(hl:M.length=n)(r:0<=a)(p:a<n)(f:0<=b)(g:b<n)(m:iY M b<=iY M a):g6 n (joinM M a b):=by
 have e:∀{x:Int},0<=x->x<n->iY (joinM M a b) x=if iY M x=iY M a then iY M b else iY M x:=λi q=>EJ i ∅
 have o:=L.le b f g;refine⟨λx c d=>?_,λx c d=>?_⟩
 ·have l:=L.le x c d
  rw[e c d];split <;> lia
 ·have l:=L.le x c d
  have k:=L.id_ x c d;have j:=L.id_ b f g;rw[e c d];by_cases h:iY M x=iY M a
  ·rw[aq h,e ∅ ∅,j]
   split <;> rfl
  ·rw[b3 h,e ∅ ∅,k,b3 h]
theorem xV.flip{n:Nat}{M:List Int}(hl:M.length=n)(h:xV ps n (joinM M a b)):xV ps n (joinM M b a):=by
 refine⟨by have:=h.len;unfold joinM at this ⊢;rw[af] at this ⊢;exact this,λx y f k d l=>?_⟩;have e:=h.iff x y f k d l;rw[EJ f ∅,EJ d ∅] at e ⊢;rw[<- e];generalize iY M x=p;generalize iY M y=q;generalize iY M a=u;generalize iY M b=v;by_cases g:p=u <;> by_cases c:p=v <;> by_cases i:q=u <;> by_cases j:q=v <;> (first|rw[aq g]|rw[b3 g]) <;> (first|rw[aq c]|rw[b3 c]) <;> (first|rw[aq i]|rw[b3 i]) <;> (first|rw[aq j]|rw[b3 j]) <;> constructor <;> intro m <;> lia
theorem ZO{ps:Ps}{a b:Int}(A:xV (ps.take k) n M)(L:g6 n M)(R:su ps n)(e:ps[k]?=some (a,b)):xV (ps.take (k+1)) n (mT M a b)/\g6 n (mT M a b):=by
 obtain⟨d,g,i,f,_⟩:=R.h k a b e;have c:=A.len;have s:=A.step R e;rcases Tr (M:=M) (a:=a) (b:=b) with ⟨z,h⟩|⟨z,h⟩
 ·rw[z];exact⟨s.flip c,L.join c i f d g h⟩
 ·rw[z];exact⟨s,L.join c d g i f h⟩
theorem Xi(A:xV ps n M)(L:g6 n M)(R:su ps n):UZ ps n M:=by
 refine⟨A.len,λh g=>?_⟩;have i:=A.len;have b:(0:Int)<=(h:Int):=∅
 have a:(h:Int)<n:=∅
 obtain⟨c,j⟩:=L.le h b a;have f:M[h]?=some (iY M h):=by
  unfold iY;rw[cO,ao,aa ∅];rfl
 refine⟨iY M h,f,c,(A.iff _ _ c ∅ b a).mp (L.id_ h b a),λm r=>?_⟩;obtain⟨d,e⟩:=R.reach r b a
 have:=(A.iff _ _ b a d e).mpr r
 have:=(L.le m d e).2
 lia
end Gr
namespace L2
open PySem PySem.Spec PyProof.Rows
section
variable{X:Cx}{pos:Pos}
theorem sS(i:Nat){x:Str}{e:Expr}{b:TE}{a:Pos}{ps:List Str}{j:Scope}(S:aP X.N ps j)(h:PE X e b)(g:X.N[i]?=some x:=by rfl)(d:Loc X.env.scope x:=by first|exact Or.inl rfl|exact Or.inr rfl)(f:swapsWith e (some (.Name x a)) pos.line X.env=pure false:=by rfl)(c:X.fn x=true∨X.env.scope.names.lookup x=some .local:=by first|exact .inl rfl|exact .inr rfl|assumption) :
 PS X (.Assign [.Name x a] e pos) (abb b (iO i)):=aez S.nd g d h f c
theorem gS(i:Nat)(a:X.N.Nodup)(c:X.N[i]?=some x:=by rfl)(b:Loc X.env.scope x:=by first|exact Or.inl rfl|exact Or.inr rfl)(d:X.fn x=true∨X.env.scope.names.lookup x=some .local:=by first|exact .inl rfl|exact .inr rfl|assumption):PG X (.Name x pos) (iO i):=UH a c b d
theorem gT(i:Nat)(S:aP X.N ps sc)(b:X.N[i]?=some x:=by rfl)(a:Loc X.env.scope x:=by first|exact Or.inl rfl|exact Or.inr rfl)(c:X.fn x=true∨X.env.scope.names.lookup x=some .local:=by first|exact .inl rfl|exact .inr rfl|assumption):PG X (.Name x pos) (iO i):=UH S.nd b a c
theorem oR(a:PE X e te):iP X [.Return (some e) pos] (aeu te):=bz (Yz a)
theorem oB{b j pos'}:iP X [.Return (some (.Constant (.bool b) j pos')) pos] (aeu (tC (.bl b))):=bz (Yz Ep)
theorem oE(a:PE X e te)(hs:swapsWith e none pos.line X.env=pure false:=by rfl):iP X [.Expr e pos] (ac8 te):=bz (fD a hs)
theorem gE(a:PE X e1 t1)(b:fm e1=true:=by rfl):PA X [e1] (iB t1 Ex):=(oi a fX b)
theorem k9(a:PE X e1 t1)(c:PE X e2 t2)(d:fm e1=true:=by rfl)(b:fm e2=true:=by rfl):PA X [e1,e2] (iB t1 (iB t2 Ex)):=(oi a (oi c fX b) d)
theorem IU(b:PE X e1 t1)(a:PE X e2 t2)(c:PE X e3 t3)(d:fm e1=true:=by rfl)(f:fm e2=true:=by rfl)(e:fm e3=true:=by rfl):PA X [e1,e2,e3] (iB t1 (iB t2 (iB t3 Ex))):=(oi b (oi a (oi c fX e) f) d)
theorem ry(c:PE X e1 t1)(b:PE X e2 t2)(e:PE X e3 t3)(d:PE X e4 t4)(f:fm e1=true:=by rfl)(h:fm e2=true:=by rfl)(g:fm e3=true:=by rfl)(a:fm e4=true:=by rfl):PA X [e1,e2,e3,e4] (iB t1 (iB t2 (iB t3 (iB t4 Ex)))):=(oi c (oi b (oi e (oi d fX a) g) h) f)
theorem aN5(d:PE X e1 t1)(c:PE X e2 t2)(f:PE X e3 t3)(e:PE X e4 t4)(j:PE X e5 t5)(g:fm e1=true:=by rfl)(i:fm e2=true:=by rfl)(h:fm e3=true:=by rfl)(a:fm e4=true:=by rfl)(b:fm e5=true:=by rfl):PA X [e1,e2,e3,e4,e5] (iB t1 (iB t2 (iB t3 (iB t4 (iB t5 Ex))))):=(oi d (oi c (oi f (oi e (oi j fX b) a) h) i) g)
theorem aN6(d:PE X e1 t1)(c:PE X e2 t2)(f:PE X e3 t3)(e:PE X e4 t4)(l:PE X e5 t5)(i:PE X e6 t6)(g:fm e1=true:=by rfl)(k:fm e2=true:=by rfl)(j:fm e3=true:=by rfl)(a:fm e4=true:=by rfl)(b:fm e5=true:=by rfl)(h:fm e6=true:=by rfl):PA X [e1,e2,e3,e4,e5,e6] (iB t1 (iB t2 (iB t3 (iB t4 (iB t5 (iB t6 Ex)))))):=(oi d (oi c (oi f (oi e (oi l (oi i fX h) b) a) j) k) g)
theorem aN7(d:PE X e1 t1)(c:PE X e2 t2)(f:PE X e3 t3)(e:PE X e4 t4)(n:PE X e5 t5)(k:PE X e6 t6)(h:PE X e7 t7)(g:fm e1=true:=by rfl)(m:fm e2=true:=by rfl)(l:fm e3=true:=by rfl)(a:fm e4=true:=by rfl)(b:fm e5=true:=by rfl)(i:fm e6=true:=by rfl)(j:fm e7=true:=by rfl):PA X [e1,e2,e3,e4,e5,e6,e7] (iB t1 (iB t2 (iB t3 (iB t4 (iB t5 (iB t6 (iB t7 Ex))))))):=(oi d (oi c (oi f (oi e (oi n (oi k (oi h fX j) i) b) a) l) m) g)
theorem kO(S:aP N ps dsc)(b:List Str)(a:List (Option Nat))(d:X.env.scope=dsc:=by rfl)(c:X.N=N:=by rfl)(h:Ou scope dsc N b a=true:=by decide +kernel):kG X scope b a:=WC d c h
end
section
variable{X:Cx}{a b tg iter:Expr}{ta tb:TE}{pos:Pos}{op:CmpOp}{r:R2}{body:List Stmt}{wi:TI}{g:TG}{ts:TS}
theorem xL(c:PE X a ta)(d:PE X b tb)(hs:ED b:=by exact λ_ _=>rfl):PE X (.Subscript a b pos) (gF (SK X.K) ta tb):=UQ UR c d hs
theorem xT(c:PE X a ta)(d:PE X b tb)(hs:ED b:=by exact λ_ _=>rfl):PE X (.Subscript a b pos) (gF (Wp X.K) ta tb):=UQ Y4 c d hs
theorem yL(K:ah)(c:PE X a ta)(f:PE X b tb)(d:X.K=K:=by rfl)(e:ED b:=by exact λ_ _=>rfl):PE X (.Subscript a b pos) (gF (SK K) ta tb):=UQ (Zj K d) c f e
theorem yT(K:ah)(c:PE X a ta)(f:PE X b tb)(d:X.K=K:=by rfl)(e:ED b:=by exact λ_ _=>rfl):PE X (.Subscript a b pos) (gF (Wp K) ta tb):=UQ (abp K d) c f e
theorem qE(d:yH X (compareOp op) r)(c:PE X a ta)(g:PE X b tb)(f:op≠.In:=by decide)(e:op≠.NotIn:=by decide):PE X (.Compare a [op] [b] pos) (gF r ta tb):=UL d c g (YN b f e)
theorem qT(d:yH X (compareOp op) r)(c:PE X a ta)(g:PE X b tb)(f:op≠.In:=by decide)(e:op≠.NotIn:=by decide):PT X (.Compare a [op] [b] pos) (YO (gF r ta tb)):=i7 d c g (YN b f e)
theorem fS(d:PI X tg iter wi)(c:PG X tg g)(e:iP X body ts)(a:PassesOwn (model X.prog X.w) X.A X.env X.xe:=by exact PassesOwn.never)(f:X.calm=true:=by rfl)(b:∀x,foldedSetIterable iter X.env x=pure x:=by intro _;rfl):PS X (.For tg iter body [] pos) (aho wi g ts):=aeB a f d c e b
end
section
variable{X:Cx}{x:Str}{p pos:Pos}{e:Expr}{es:List Expr}{te:TE}{t:TA}{id:String}{r:List V->Hp->VK->Prop}
theorem cB(i:nN X (.builtin id) r)(d:X.mg x=none)(f:bootBuiltins x=some (.builtin id))(c:PA X (e::es) t)(g:Gl X x:=by rfl)(h:x≠"__name__" := by decide)(a:(x==("__debug__" : Str))=false:=by decide)
 (j:starEach (e::es) X.env=(false,eval e X.env)::starEach es X.env:=by rfl) (b:(backTo pos (starEach es X.env)).any (·.1)=false:=by rfl):PE X (.Call (.Name x p) (e::es) [] pos) (tCB r t):=P8 i g d f c h a j b
theorem lS(f:X.mg "len" = none)(d:PE X e te)(h:Gl X "len" := by rfl)(a:fm e=true:=by rfl)(i:starEach [e] X.env=(false,eval e X.env)::starEach [] X.env:=by rfl)(b:(backTo pos (starEach [] X.env)).any (·.1)=false:=by rfl) :
 PE X (.Call (.Name "len" p) [e] [] pos) (tCB (λg H Q=>∃p c,g=[.ref p]/\(bN X.K H p c∨cX X.K H p c)/\Q (.int c.length) H) (iB te Ex)):=P8 Om h f PySem.boot_len (oi d fX a) (!_) (!_) i b
end
theorem jr{N P:List Str}{a:Scope}(c:a.kind=.function:=by rfl)(b:a.isCoroutine=false:=by rfl)(d:a.isGenerator=false:=by rfl)(e:N.Nodup:=by decide +kernel)(h:N.take P.length=P:=by rfl)(g:∀x∈P,a.names.lookup x=some .local∨a.names.lookup x=some .cell:=by decide +kernel)(f:∀y∈a.names,y.2≠.free:=by decide +kernel):aP N P a:=⟨c,b,d,e,h,g,f⟩
structure lD(K:ah)(mg:Str->Option Value)(x key:Str)(st:Stmt)(f:Addr)(d:FuncData)(ps:List Str):Prop where
 F:Sk K x key st f d
 B:Binds K d ps []
 g:mg x=some (.ref f)
structure jg(K:ah)(C:Addr)(x key:Str)(st:Stmt)(f:Addr)(d:FuncData)(ps:List Str):Prop where
 F:Sk K x key st f d
 B:Binds K d ps []
 m:Og K C x f
structure QH(K:ah)(C:Addr)(key:Str)(st:Stmt)(f:Addr)(d:FuncData)(ps:List Str):Prop where
 F:Sk K "__init__" key st f d
 B:Binds K d ps []
 M:Mk K C f
def EG(K:ah)(mg:Str->Option Value)(x key:Str)(st:Stmt)(f:Addr):Prop:=∃d,Sk K x key st f d/\mg x=some (.ref f)
def EM(K:ah)(C:Addr)(x key:Str)(st:Stmt)(f:Addr):Prop:=∃d,Sk K x key st f d/\Og K C x f
structure EC(K:ah)(C:Addr):Prop where
 c:LI K C
 pH:PySem.W.makesIn K C=true
 kc:eY K (.ref C)=true
section
variable{K:ah}{h:Heap}{mg:Str->Option Value}{x key:Str}{st:Stmt}{C f:Addr}{oc:Value}{od an:Option Addr}{osl:Array (Option Value)}{kV doc pm cdv ct:Value}
theorem YF(X:K.In h)(G:h.Ns mainGlobals mg)(a:bS K mainGlobals x=some (some (.ref f)))(l:K.lookup f=some ⟨oc,od,.func (fJ x key (j6 st) (gM st) (aD st) .none kV doc pm an cdv ct),osl⟩)(c:jX K cdv key=true)(k:eY K (.ref f)=true):EG K mg x key st f:=⟨_,Zh l c k,dJ X G a⟩
theorem wZ(a:aM K (.ref C) x=some (some (.ref f)))(i:PySem.W.isFn K (.ref f)=true)(l:K.lookup f=some ⟨oc,od,.func (fJ x key (j6 st) (gM st) (aD st) .none kV doc pm an cdv ct),osl⟩)(c:jX K cdv key=true)(k:eY K (.ref f)=true):EM K C x key st f:=⟨_,Zh l c k,⟨a,i,k⟩⟩
theorem qo(b:yC K C Str.empty=true)(a:we K C=true)(d:PySem.W.plainOver K C=true)(c:aM K (.ref C) "__setattr__" = some (some (.builtin "object.__setattr__")))(f:PySem.W.makesIn K C=true)(e:eY K (.ref C)=true):EC K C:=⟨⟨b,a,d,c⟩,f,e⟩
end
section
variable{X:Cx}{k k':Nat}{f C:Addr}{fd:FuncData}{ps:List Str}{sp:Sp}{x m key:Str}{st:Stmt}{p pos apos:Pos}{e o:Expr}{es:List Expr}{ta:TE}{t:TA}
theorem cG(F:cH X.prog X.w X.K X.mg X.base iS k f fd ps sp)(i:kD k' X.A)(c:lD X.K X.mg x key st f fd ps)(h:PA X (e::es) t)(b:k<=k':=by decide)(j:Gl X x:=by rfl)
 (a:(x==("__debug__" : Str))=false:=by decide) (l:starEach (e::es) X.env=(false,eval e X.env)::starEach es X.env:=by rfl) (d:(backTo pos (starEach es X.env)).any (·.1)=false:=by rfl) :
 PE X (.Call (.Name x p) (e::es) [] pos) (adf sp [] E0 t):=Ey F (i.mono b) j c.g c.F.kp c.B .nil jv h a l d
theorem cM{pl:Sem Bool}(l:PE X o ta)(c:LI X.K C)(u:jg X.K C m key st f fd ps)(F:cH X.prog X.w X.K X.mg X.base iS k f fd ps sp)(h:kD k' X.A)(i:PA X (e::es) t)(a:k<=k':=by decide)
 (d:starEach (e::es) X.env=(false,eval e X.env)::starEach es X.env:=by rfl) (b:(backTo pos (starEach es X.env)).any (·.1)=false:=by rfl)
 (j:eval (.Call (.Attribute o m apos) (e::es) [] pos) X.env=(do
  let g <- eval o X.env
  standAt apos.atName
  let (f,first) <- holding [g] (getMethod g m pl)
  callWith pos f first (backTo pos (starEach (e::es) X.env)) (backToKw pos (keywordEach [] X.env))):=by rfl) :
 PE X (.Call (.Attribute o m apos) (e::es) [] pos) (Hr C m sp [] E0 ta t):=lg l c u.m F (h.mono a) u.B .nil jv i d b j
theorem cI(u:QH X.K C key st f fd ps)(F:cH X.prog X.w X.K X.mg X.base iS k f fd ps sp)(h:kD k' X.A)(g:X.mg x=some (.ref C))(d:PA X (e::es) t)(b:k+1<=k':=by decide)(i:Gl X x:=by rfl)
 (a:(x==("__debug__" : Str))=false:=by decide) (j:starEach (e::es) X.env=(false,eval e X.env)::starEach es X.env:=by rfl) (c:(backTo pos (starEach es X.env)).any (·.1)=false:=by rfl) :
 PE X (.Call (.Name x p) (e::es) [] pos) (YU C sp [] E0 t):=UM u.M F (h.mono b) i g u.B .nil jv d a j c
end
section
variable{P:Program}{w:World}{K:ah}{mg:Str->Option Value}{base:Heap}
theorem Sk.jK{x a:Str}{st:Stmt}{f:Addr}{e:FuncData}{N ps:List Str}{k:Nat}{sp:Sp}(F:Sk K x a st f e)(S:aP N ps (aD st))
 (j:∀{c:Value} {A:Around} {b:List Env} {s:Shared} {vs:List V} (H:Hp) (Q:VK) (E:XK),kD k (A.deeper (envOfC a (aD st) s.heap.objs.size f c))->sp vs H Q E ->
  ∃t,iP (pX iS P w K mg base N a (aD st) f c A b s H E).n7 (gM st) t/\t {nx:=λ_ g=>Q .f9 g,rt:=Q} (start N vs) H) (d:∀vs H Q E,sp vs H Q E->vs.length=ps.length:=by intro _ _ _ _ h;cases h;subst_vars;rfl):cH P w K mg base iS (k+1) f e ps sp:=F.ok S d λ_ _ _ _ H _ Q E i h=>j H Q E i h
theorem Sk.Xj{x a:Str}{st:Stmt}{f:Addr}{e:FuncData}{N ps:List Str}{k:Nat}{sp:Sp}(F:Sk K x a st f e)(S:aP N ps (aD st))
 (j:∀{c:Value} {A:Around} {b:List Env} {s:Shared} {vs:List V} (H:Hp) (Q:VK) (E:XK),kD k (A.deeper (envOfC a (aD st) s.heap.objs.size f c))->sp vs H Q E ->
  ∃t,iP (pX (FT P w) P w K mg base N a (aD st) f c A b s H E) (gM st) t/\t {nx:=λ_ g=>Q .f9 g,rt:=Q} (start N vs) H) (d:∀vs H Q E,sp vs H Q E->vs.length=ps.length:=by intro _ _ _ _ h;cases h;subst_vars;rfl):cH P w K mg base (FT P w) (k+1) f e ps sp:=F.okX S d λ_ _ _ _ H _ Q E i h=>j H Q E i h
theorem OA.jK{x a:Str}{st:Stmt}{f:Addr}{e:FuncData}{j:Value}{N ps:List Str}{k:Nat}{sp:Sp}(F:OA K x a st f e j)(S:aP N ps (aD st))
 (l:∀{c:Value} {A:Around} {b:List Env} {s:Shared} {vs:List V} (H:Hp) (Q:VK) (E:XK),kD k (A.deeper (envOfC a (aD st) s.heap.objs.size f c))->sp vs H Q E ->
  ∃t,iP (pX iS P w K mg base N a (aD st) f c A b s H E).n7 (gM st) t/\t {nx:=λ_ g=>Q .f9 g,rt:=Q} (start N vs) H) (d:∀vs H Q E,sp vs H Q E->vs.length=ps.length:=by intro _ _ _ _ h;cases h;subst_vars;rfl):cH P w K mg base iS (k+1) f e ps sp:=F.ok S d λ_ _ _ _ H _ Q E i h=>l H Q E i h
end
end L2
namespace L2
open PySem PySem.W PySem.Spec PyProof.Rows
section
variable{prog:Program}{w:World}{A:Around}{E:Value->Shared->Prop}{s:Shared}
theorem OC{a:Addr}{vs:List (Key×Value)}{ep:Nat}{R:Result->Shared->Prop}(p:A.handled=none)(lo:(a==sysModules)=false)(hm:s.heap.DictAt (eZ prog w) a vs ep)(r:vs.length<=sizeLine)
 (h:∀h' tk d c,(∀b o,s.heap.get? b=some o->h'.get? b=some o)->h'.get? s.heap.objs.size=some {cls:=.type "list",dict:=none,data:=.seq d c,slots:=#[]}->ItemsOf (λi v=>∃k x,vs[i]?=some (k,x)/\(eZ prog w).is k v=true) d vs.length->R (.ok (.ret (.ref s.heap.objs.size))) {s with heap:=h',toks:=tk}):codeAny (model prog w) A (.builtin "proto.collect" ⟨[.ref a],[]⟩) R s:=by
 refine codeAny_builtin F.entry_proto_collect ?_;rw[Around.under_plainId F.plain_proto_collect _];refine wpAny_bind (m:=newList []) (wpAny_newObj_type (wpAny_pure ⟨plainId_quiet F.plain_list_iadd _,codeAny_builtin F.entry_list_iadd ?_⟩));rw[Around.under_plainId F.plain_list_iadd _];have l:a<s.heap.objs.size:=hm.lt_size;have n:(s.heap.push {cls:=.type "list",data:=.seq ([]:List Value).toArray}).DictAt (eZ prog w) a vs ep:=hm.push _;have f:(s.heap.push {cls:=.type "list",data:=.seq ([]:List Value).toArray}).get? s.heap.objs.size=some {cls:=.type "list",data:=.seq ([]:List Value).toArray}:=Heap.get?_push_size _ rfl;have j:∀b o,s.heap.get? b=some o->(s.heap.push {cls:=.type "list",data:=.seq ([]:List Value).toArray}).get? b=some o:=λb o e=>Heap.get?_push_of_some _ e;generalize s.heap.push {cls:=.type "list",data:=.seq ([]:List Value).toArray}=h1 at n f j ⊢;exact kdl_extend (s:={s with heap:=h1}) (kdl_dict (ep:=ep) lo) p n s.heap.objs.size (Nat.ne_of_gt l) (Nat.ne_of_gt l) (.ref s.heap.objs.size) _ f (λh' tk d c t q g=>h h' tk d c (λb o e=>t b o (bH (Heap.lt_size e)) (j b o e)) q g) r
theorem OD{a:Addr}{vs:List (Key×Value)}{ep:Nat}{Q:List Value->Shared->Prop}(j:A.handled=none)(lo:(a==sysModules)=false)(l:s.heap.DictAt (eZ prog w) a vs ep)(m:vs.length<=sizeLine)
 (f:∀us h' tk,us.length=vs.length->(∀(i:Nat) (u:Value),us[i]?=some u->∃k x,vs[i]?=some (k,x)/\(eZ prog w).is k u=true)->(∀b o,s.heap.get? b=some o->h'.get? b=some o)->s.heap.objs.size<h'.objs.size->Q us {s with heap:=h',toks:=tk}):wpAny (model prog w) A (collect (.ref a)) Q E s:=by
 unfold collect;refine wpAny_bind (wpAny_runValue (OC j lo l m λh' tk g c n h d=>?_));refine wpAny_bind (wpAny_load (s:={s with heap:=h',toks:=tk}) h (wpAny_pure (f g.toList h' tk ?_ (λi u e=>?_) n (Heap.lt_size h))))
 ·rw[g9];exact d.1
 ·rw[xP] at e;exact d.2 i u e
theorem M5:∀{us:List Value} {ks:List Int},us.length=ks.length->(∀(i:Nat) (u:Value),us[i]?=some u->∃k,ks[i]?=some k/\∃t,u=Value.int k t)->IntsAre us ks
 |[],[],_,_=>.nil
 |[],_::_,h,_=>by cases h
 |_::_,[],h,_=>by cases h
 |u::us,k::ks,h,q=>by
  obtain⟨c,b,t,a⟩:=q 0 u rfl;cases b;subst a;exact .cons k t (M5 (Nat.succ.inj h) λi u e=>q (i+1) u e)
theorem QI{a:Addr}{vs:List (Key×Value)}{ks:List Int}{ep:Nat}{Q:Value->Shared->Prop}(F:A.handled=none)(lo:(a==sysModules)=false)(L:s.heap.DictAt (eZ prog w) a vs ep)(p:vs.length<64)(B:vs.map (·.1)=ks.map eT)
 (j:∀l out ns h' tk,IntsAre out.toList ns->ns.Perm ks->ns.Pairwise (·<=·)->s.heap.objs.size<=l->(∀b o,s.heap.get? b=some o->h'.get? b=some o)->(∃e,h'.get? l=some (seqObj "list" out e))->Q (.ref l) {s with heap:=h',toks:=tk}):wpAny (model prog w) A (call (.builtin "sorted") [.ref a]) Q E s:=by
 refine Calls.call_function_entry kind_sorted plain_sorted entry_sorted (args_sorted1 _) ?_;unfold Builtin.«sorted»;refine wpAny_bind (m:=checkCount "sorted" 1 1 _) (wpAny_pure ?_);refine wpAny_bind (OD (by simp[F]) lo L (aN (gI p) (!_)) λc g d v n M q=>?_);have S:ks.length=vs.length:=by
  have:=ff wk B
  rw[af,af] at this;exact this.symm
 have h:IntsAre c ks:=M5 ∅ λi u e=>by
  obtain⟨k,x,N,K⟩:=n i u e;have f:(vs.map (·.1))[i]?=some k:=by rw[ak,N];rfl
  rw[B,ak] at f;cases D:ks[i]? with
  |none=>rw[D] at f;cases f
  |some J =>
   rw[D] at f;cases f;obtain⟨t,O⟩:=ahL (P:=prog) (w:=w) K;exact⟨J,rfl,t,O⟩
 have C:c.length<64:=∅
 refine wpAny_bind (wpAny_newList ?_ (aN (gI C) (!_)));have r:(g.push (seqObj "list" c.toArray 0)).get? g.objs.size=some (seqObj "list" c.toArray 0):=Heap.get?_push_size _ rfl;refine wpAny_bind (wpAny_holding (wpAny_call_entry slot_list_sort (s:={s with heap:=g.push (seqObj "list" c.toArray 0),toks:=d}) ⟨_,r,rfl⟩ entry_list_sort (list_sort_tree r h C λout ns I G H=>⟨_,rfl,?_⟩) (args_list_sort _)));obtain⟨e,R⟩:=sortedHeap_at (vs:=c) (out:=out) r;refine wpAny_pure ⟨_,rfl,j g.objs.size out ns _ d I G H (gI q) (λb o z=>?_) ⟨e,R⟩⟩;have y:=M _ _ z;have lt:=Heap.lt_size y;rw[sortedHeap_old (bH lt) (by rw[size_push'];exact Nat.lt_succ_of_lt lt)];exact Heap.get?_push_of_some _ y
end
section
variable{X:Cx}
def ZP:List V->Hp->VK->Prop:=λxs H Q=>∃(a:Addr) (kvs:List (Key×V)) (ks:List Int),xs=[.ref a]/\H a=some (.dK kvs)/\kvs.map (·.1)=ks.map eT/\ks.length<64/\∀l (ns:List Int),H l=none->ns.Perm ks->ns.Pairwise (·<=·)->Q (.ref l) (upd H l (.lst (ns.map V.int)))
theorem OE(p:X.calm=true):nN X (.builtin "sorted") ZP:=by
 intro i s B H A D Q I r ⟨a,c,ks,e,m,h,x,q⟩;subst e;obtain⟨u,e,j⟩:=cF.one r;subst e;cases j;obtain⟨z,hd,E,rel,g⟩:=Y9 I.hok m;obtain⟨F,g⟩:=g.dictAt;have y:c.length=ks.length:=by
  have:=ff wk h
  rw[af,af] at this;exact this
 refine QI (I.ok.hd p) hd g (by rw[<- rel.length];lia) (ks:=ks) (by rw[<- rel.keys];exact h) λl out ns C k v a2 n b w d=>?_;obtain⟨t,f⟩:=d;refine⟨.ref l,_,I.laid (a:=l) (o:=.lst (ns.map V.int)) (t':=k) w b ⟨?_,out.toList,t,ES v,?_⟩,rfl,q l ns (I.hok.fresh b) a2 n⟩
 ·rw[af,a2.length_eq]
  exact gI (b4 ∅)
 ·rw[f]
end
abbrev T2:=Int×Int
def Gp(x y:T2):Bool:=decide (x.1<y.1) || (decide (x.1=y.1)&&decide (x.2<y.2))
theorem Cb:Gp x y=true↔x.1<y.1∨(x.1=y.1/\x.2<y.2):=by
 unfold Gp;simp[tL,dj]
theorem Xk(a:Gp x y=true)(b:Gp y z=true):Gp x z=true:=by
 rw[Cb] at *;lia
theorem abS(x:T2):Gp x x=false:=by
 rw[Bool.eq_false_iff];intro z;rw[Cb] at z;lia
theorem le2(a:Gp x y=false)(b:Gp z y=true):Gp z x=true:=by
 have c:¬Gp x y=true:=by rw[a];exact aI
 rw[Cb] at *;lia
def M6(ts:List T2)(x:T2):Int:=((ts.filter λz=>Gp z x).length:Nat)
theorem QJ{ts:List T2}{x:T2}(b:x∈ts):decide (M6 ts x<M6 ts y)=Gp x y:=by
 unfold M6;cases e:Gp x y with
 |true =>
  refine eH ?_
  have:=filter_lt (l:=ts) (p:=λz=>Gp z x) (q:=λz=>Gp z y) (x:=x) (λz a=>Xk a e) b (abS x) e
  lia
 |false =>
  refine e8 ?_
  have:=filter_le (l:=ts) (p:=λz=>Gp z y) (q:=λz=>Gp z x) (λz a=>le2 e a)
  lia
abbrev t2V(x:T2):List V:=[.int x.1,.int x.2]
def Duo(h:Heap)(v:Value)(x:T2):Prop:=∃(q:Addr) (o:Obj) (n:Nat) (t1 t2:Tok),v=.ref q/\h.get? q=some o/\o.cls=.type "tuple" /\ o.data=.seq #[.int x.1 t1,.int x.2 t2] n
section
variable{prog:Program}{w:World}{A:Around}{s:Shared}
theorem afk{C:Bool->Shared->Prop}(c:Duo s.heap u x)(d:Duo s.heap v y)(k:C (Gp x y) s):wpAny (model prog w) A (keyLt' (tuples' true) u v) C E s:=by
 obtain⟨p,o,n,l,m,rfl,h,B,j⟩:=c;obtain⟨q,t,D,r,F,rfl,f,G,g⟩:=d;refine kat_lt h j f g ?_;refine kat_cons (wpAny_eqBool_int (kat_go (λa=>kat_yes ?_) λa=>kat_no (oneLt_int ?_)))
 case refine_2 =>
  have i:¬x.1=y.1:=by simpa using a
  have e:Gp x y=decide (x.1<y.1):=by unfold Gp;rw[e8 i];simp
  rw[<- e];exact k
 have a:x.1=y.1:=by simpa using a
 refine kat_cons (wpAny_eqBool_int (kat_go (λb=>kat_yes (kat_nil ?_)) λb=>kat_no (kat_one _ _ (lt_int ?_))))
 ·have b:x.2=y.2:=by simpa using b
  have e:Gp x y=false:=by
   rw[Bool.eq_false_iff];intro z;rw[Cb] at z;lia
  rw[e] at k;exact k
 ·have e:Gp x y=decide (x.2<y.2):=by rw[kC,Cb,decide_eq_true_eq];lia
  rw[<- e];exact k
theorem JQ{h:Heap}:∀{vs:List Value} {ts:List T2},vs.length=ts.length->(∀(i:Nat) v x,vs[i]?=some v->ts[i]?=some x->Duo h v x)->∃d,KatTups h vs d/\d.length=vs.length/\∀f∈d,∃i t,f=Value.int i t
 |[],[],_,_=>⟨[],trivial,rfl,λ_ hf=>cy hf (-_)⟩
 |v::vs,x::ts,hl,h=>by
  obtain⟨d,a,b,c⟩:=JQ (vs:=vs) (ts:=ts) (by simpa using hl) λi v x l j=>h (i+1) v x (by simpa using l) (by simpa using j);obtain⟨q,o,n,e,p,rfl,k,g,m⟩:=h 0 v x rfl rfl;refine⟨.int x.1 e::d,KatTups.cons k g m rfl a,by simp[b],λf hf=>?_⟩;rcases bu.mp hf with rfl|hf
  ·exact⟨_,_,rfl⟩
  ·exact c f hf
end
def fP(K:ah)(H:Hp)(qs:List Addr)(ts:List T2):Prop:=qs.length=ts.length/\∀(i:Nat) q t,qs[i]?=some q->ts[i]?=some t->cX K H q (t2V t)
def IV(ts:List T2):Prop:=∀(i j:Nat) (x y:T2),i<j->ts[i]?=some x->ts[j]?=some y->Gp y x=false
section
variable{X:Cx}
def ZQ(K:ah):List V->Hp->VK->Prop:=λxs H Q=>∃(a:Addr) (qs:List Addr) (ts:List T2),xs=[.ref a]/\bN K H a (qs.map V.ref)/\fP K H qs ts/\ts.length<64 /\
 ∀l (LM:List Addr) (ts':List T2),H l=none->ts'.Perm ts->IV ts'->fP K H LM ts'->Q (.ref l) (upd H l (.lst (LM.map V.ref)))
theorem EX:nN X (.builtin "sorted") (ZQ X.K):=by
 intro U s σ H xs us Q I r ⟨a,w,ts,e,hq,ht,h64,q⟩;subst e;obtain⟨u,e,ru⟩:=cF.one r;subst e;cases ru;obtain⟨its,rv,p,hz⟩:=I.list hq;have alO:=U9 rv;subst alO;have Y:=ht.1;by_cases h0:ts.length=0
 ·have d:w=[]:=iX.mp ∅
  subst d;have B:ts=[]:=iX.mp h0;subst B;refine AG U s σ H [V.ref a] [Value.ref a] Q I (.cons rfl .nil) ⟨a,[],rfl,hq,!_,λl ns' hl P _=>?_⟩
  have:ns'=[]:=List.Perm.eq_nil P
  subst this;exact q l [] [] hl (List.Perm.refl _) (λi j x y _ h=>by simp at h) ⟨rfl,λi q t h=>by simp at h⟩
 by_cases h1:ts.length=1
 ·obtain⟨E,d⟩:∃E,w=[E]:=List.length_eq_one_iff.mp ∅
  subst d;refine Tg (v:=.ref E) p.isList ?_;obtain⟨e,he⟩:=sortedAll_at s.heap [.ref E] #[.ref E];refine⟨.ref (s.heap.objs.size+1),_,I.laid (a:=s.heap.objs.size+1) (o:=.lst [.ref E]) (t':=s.toks) (λb o e=>sortedAll_old e) (fU _) ⟨?_,[.ref E],e,.cons rfl .nil,he⟩,rfl,q _ [E] ts (I.hok.fresh (fU _)) (List.Perm.refl _) (λi j x y hij h1' O=>?_) ht⟩
  ·show 1<=sizeLine
   decide
  ·have:=(ai.mp O).1
   lia
 have h2:2<=ts.length:=∅
 obtain⟨m,F⟩:=I.fr;have alP:∀(i:Nat) v x,(w.map Value.ref)[i]?=some v->ts[i]?=some x->Duo s.heap v x:=λi v x d B=>by
  rw[ak] at d;cases e3:w[i]? with
  |none=>rw[e3] at d;cases d
  |some E =>
   rw[e3] at d;cases d;obtain⟨jt,rj,tp,_⟩:=I.tuple (ht.2 i E x e3 B);obtain⟨o,ho,hc,n,hd⟩:=tp;cases rj with
   |cons x1 r1=>cases r1 with
    |cons x2 r2 =>
     cases r2;obtain⟨t1,rfl⟩:=x1;obtain⟨t2,rfl⟩:=x2;exact⟨E,o,n,t1,t2,rfl,ho,hc,hd⟩
 have adA:∀{h':Heap} {m':Str->Option Value},Fr X.base X.env.locals h' m'->(∀p∈El X.base s.heap X.env.locals,h'.get? p.1=some p.2)->∀b o,b≠X.env.locals->s.heap.get? b=some o->h'.get? b=some o:=λ{h' m'} F' N' b o G e=>by
  cases g:X.base.get? b with
  |some u =>
   have:=I.bk b u g
   rw[e] at this;cases this;exact F'.keep b _ g
  |none=>exact N' (b,o) (Hl G g e)
 have alQ:∀{h':Heap},(∀b o,b≠X.env.locals->s.heap.get? b=some o->h'.get? b=some o)->∀(i:Nat) v x,(w.map Value.ref)[i]?=some v->ts[i]?=some x->Duo h' v x:=λ{h'} kp i v x d B=>by
  obtain⟨E,o,n,t1,t2,rfl,ho,hc,hd⟩:=alP i v x d B;refine⟨E,o,n,t1,t2,rfl,kp E o (λz=>?_) ho,hc,hd⟩;obtain⟨m0,⟨oL,es,ep,hoL,hdL,_⟩,_⟩:=I.loc;rw[z,hoL] at ho;cases ho;rw[hdL] at hd;cases hd
 refine kat_sorted (vs:=w.map Value.ref) F (Yu (g:=X.base) (h:=s.heap) (L:=X.env.locals)) p.isList (by rw[af];lia) (by rw[af];lia) λD d h' F' N' hD=>?_;have kp':=adA F' λp P=>(N' p (.tail _ P)).1;have Z:=alQ kp';obtain⟨fs,kt,fl,fi⟩:=JQ (h:=h') (vs:=w.map Value.ref) (ts:=ts) (by rw[af];exact Y) Z;refine kat_kind (s:={s with heap:=h'}) (T:=.type "int") kt (by rw[fl,af];lia) (λf hf=>?_) rfl ?_
 ·obtain⟨i,t,rfl⟩:=fi f hf
  exact Looks.of_pure rfl
 have alS:(Value.type "int" != Value.type "tuple")=true:=!_
 rw[alS];have hn:(w.map Value.ref).length=ts.length:=by rw[af];exact Y
 have A:∀i,i<ts.length->(w.map Value.ref)[i]?=some ((w.map Value.ref).getD i Value.none)/\ts[i]?=some (ts.getD i (0,0)):=λi S=>by
  constructor
  ·rw[ao,aa ∅];rfl
  ·rw[ao,aa S];rfl
 refine abO (n:=(w.map Value.ref).length) (r:=λi=>M6 ts (ts.getD i (0,0))) (λi j C S hj k=>?_) ∅ λpp P hu=>?_
 ·rw[hn] at S hj
  unfold kas_ask;refine afk (x:=ts.getD i (0,0)) (y:=ts.getD j (0,0)) (Z i _ _ (A i S).1 (A i S).2) (Z j _ _ (A j hj).1 (A j hj).2) ?_;rw[<- QJ (ts:=ts) (aC (A i S).2)];exact k
 have hDn:s.heap.get? D=none:=by
  cases g:s.heap.get? D with
  |none=>rfl
  |some o =>
   have hx:=N' (D,seqObj "list" #[] d) (.head _)
   have:=hD (D,o) (Hl hx.2.1 hx.2.2 g)
   exact cy this (iz _)
 have hHD:H D=none:=by
  cases g:H D with
  |none=>rfl
  |some o =>
   obtain⟨ob,hob⟩:=(I.hok D o g).there;rw[hDn] at hob;cases hob
 have J:pp.toList.Perm (av ts.length):=by
  have:=P.toList
  rw[hn] at this
  simpa using this
 refine KasFin.intro F' N' (UpdF.head λp P=>bH (hD p P)) λO c F2 N2=>?_;have Ot:=adA F2 λp P=>(N2 p (.tail _ P)).1;have hgD:=(N2 _ (.head _)).1;have alT:(pp.toList.map λi=>(w.map Value.ref).getD i Value.none)=(pp.toList.map λi=>w.getD i 0).map Value.ref:=by
  rw[bV];refine cY λi S=>?_;have hil:i<w.length:=by
   have:=(J.mem_iff).mp S
   rw[bB] at this;lia
  show (w.map Value.ref).getD i Value.none=Value.ref (w.getD i 0);rw[ao,ao,ak,aa hil];rfl
 rw[alT] at hgD;have aia:pp.toList.length=ts.length:=by rw[J.length_eq,be]
 have neD:∀b o,s.heap.get? b=some o->b≠D:=λb o e z=>by rw[z,hDn] at e;cases e
 have M:∀b o,H b=some o->b≠D:=λb o e=>aQ e hHD;have neL:∀b o,H b=some o->b≠X.env.locals:=λb o e=>aQ e I.free;refine⟨.ref D,upd H D (.lst ((pp.toList.map λi=>w.getD i 0).map V.ref)),?_,rfl,q D (pp.toList.map λi=>w.getD i 0) (pp.toList.map λi=>ts.getD i (0,0)) hHD ?_ ?_ ?_⟩
 ·show Inv X U σ _ {s with heap:=O,gens:=s.gens,drawn:=s.drawn,toks:=s.toks}
  refine I.step (s:=s) (t':=s.toks) (g':=s.gens) (d':=s.drawn) (h':=O) (ch:=[]) (λ_ z=>nomatch z) (λb o G _ _ e _=>Ot b o G e) (λb o G _ _ e _=>⟨o.slots,Ot b o G e⟩) (λb o _ e n=>by rw[aO (neD b o e)];exact n) (λb o _ e=>?_)
   (λb xs e=>by rw[aO (M b _ e)];exact e) (λb o u e=>by rw[aO (M b _ e)];exact e) (λb ps e=>⟨#[],by rw[aO (M b _ e),e];simp⟩) (λm' hm'=>?_) (λb o e=>?_) I.bare
  ·by_cases G:b=X.env.locals
   ·obtain⟨o',_,_,ho',_⟩:=F2.ns
    exact⟨o',by rw[G];exact ho'⟩
   ·exact⟨o,Ot b o G e⟩
  ·have em:m'=m:=by
    obtain⟨o1,es1,ep1,N,d1,k1,f1⟩:=hm';obtain⟨o2,es2,ep2,R,d2,k2,f2⟩:=F.ns;rw[N] at R;cases R;rw[d1] at d2;cases d2;funext x;rw[<- f1 x,<- f2 x]
   rw[em];exact F2.ns
  ·by_cases G:b=D
   ·subst G
    rw[ay] at e;cases e;refine⟨?_,(pp.toList.map λi=>w.getD i 0).map Value.ref,c,MX _,hgD⟩;rw[af,af,aia];exact gI (b4 ∅)
   ·rw[aO G] at e
    refine (I.hok b o e).stay (λc u hc r=>?_) (λc r=>by rw[aO (M c _ r)];exact r) λc xs r=>by rw[aO (M c _ r)];exact r
    rcases hc with z|z
    ·rw[z] at r ⊢
     exact Ot b u (neL b o e) r
    ·exact Ot c u (neL c _ z) r
 ·have:=J.map λi=>ts.getD i (0,0)
  rw[map_getD] at this;exact this
 ·intro i j x y hij d B
  rw[ak] at d B;cases N:pp.toList[i]? with
  |none=>rw[N] at d;cases d
  |some W =>
   cases R:pp.toList[j]? with
   |none=>rw[R] at B;cases B
   |some a2 =>
    rw[N] at d;rw[R] at B;cases d;cases B;have hj:=(ai.mp R).1;have z:=hu i j hij ∅;have z:M6 ts (ts.getD (pp.getD i 0) (0,0))<=M6 ts (ts.getD (pp.getD j 0) (0,0)):=z;show Gp (ts.getD a2 (0,0)) (ts.getD W (0,0))=false;have k1:pp.getD i 0=W:=by rw[nY,<- xP,N];rfl
    have k2:pp.getD j 0=a2:=by rw[nY,<- xP,R];rfl
    rw[k1,k2] at z;have m2:a2<ts.length:=by
     have:=(J.mem_iff).mp (aC R)
     rwa [bB] at this
    rw[<- QJ (ts:=ts) (aC (A a2 m2).2)];exact e8 ∅
 ·refine⟨by rw[af,af],λi E t0 d B=>?_⟩
  rw[ak] at d B;cases N:pp.toList[i]? with
  |none=>rw[N] at d;cases d
  |some W =>
   rw[N] at d B;cases d;cases B;have m1:W<ts.length:=by
    have:=(J.mem_iff).mp (aC N)
    rwa [bB] at this
   refine ht.2 W _ _ ?_ (A W m1).2;show w[W]?=some (w.getD W 0);rw[ao,aa ∅];rfl
end
end L2
namespace eK
open PySem L2
def top (i:Nat):Stmt:=PySem.Challenge.pw_knotless_k43_whole_calm_letters.main.body.getD i (.Pass ⟨0,0,0,0⟩)
abbrev wH:Stmt:=(inClass (top 2) 0)
abbrev yQ:Stmt:=(inClass (top 2) 1)
abbrev yR:Stmt:=(inClass (top 2) 2)
abbrev wI:Stmt:=(inClass (top 2) 4)
abbrev Gq:Stmt:=(top 4)
abbrev Dp:Stmt:=(top 5)
abbrev rJ:Stmt:=(inClass (top 17) 0)
abbrev ua:Stmt:=(inClass (top 17) 1)
abbrev uc:Stmt:=(inClass (top 17) 2)
abbrev rK:Stmt:=(inClass (top 17) 3)
abbrev ud:Stmt:=(inClass (top 18) 0)
abbrev wJ:Stmt:=(inClass (top 18) 1)
abbrev wK:Stmt:=(inClass (top 18) 2)
abbrev ue:Stmt:=(inClass (top 18) 3)
abbrev wL:Stmt:=(inClass (top 19) 0)
abbrev Gs:Stmt:=(top 21)
abbrev OF:Stmt:=(top 22)
abbrev ZR:Stmt:=(top 23)
abbrev ZS:Stmt:=(top 25)
abbrev OG:Stmt:=(top 26)
abbrev Gu:Stmt:=(top 28)
abbrev OH:Stmt:=(top 29)
abbrev wM:Stmt:=(inClass (top 36) 0)
abbrev AK:Stmt:=(inClass (top 36) 1)
abbrev AL:Stmt:=(inClass (top 36) 2)
abbrev rL:Stmt:=(inClass (top 36) 3)
abbrev uf:Stmt:=(inClass (top 36) 4)
abbrev AM:Stmt:=(inClass (top 36) 5)
abbrev wN:Stmt:=(top 37)
abbrev wO:Stmt:=(top 38)
abbrev yS:Stmt:=(top 39)
abbrev AN:Stmt:=(top 40)
abbrev p7:Stmt:=(inClass (top 42) 0)
abbrev ug:Stmt:=(inClass (top 42) 1)
abbrev wQ:Stmt:=(inClass (top 42) 2)
abbrev ny:Stmt:=(inClass (top 42) 3)
abbrev nA:Stmt:=(inClass (top 42) 4)
abbrev uh:Stmt:=(inClass (top 42) 5)
abbrev Dq:Stmt:=(top 43)
abbrev wR:Stmt:=(top 44)
abbrev rM:Stmt:=(inClass (top 47) 0)
abbrev yU:Stmt:=(inClass (top 48) 0)
abbrev Dr:Stmt:=(inClass (top 48) 1)
abbrev Dt:Stmt:=(inClass (top 48) 2)
abbrev AO:Stmt:=(inClass (top 48) 3)
abbrev yV:Stmt:=(inClass (top 48) 6)
abbrev Du:Stmt:=(inClass (top 48) 7)
abbrev Dv:Stmt:=(inClass (top 48) 8)
abbrev Gv:Stmt:=(inClass (top 48) 9)
abbrev Dw:Stmt:=(inClass (top 48) 12)
abbrev jw:Stmt:=(inClass (top 48) 13)
abbrev yW:Stmt:=(inClass (top 48) 14)
abbrev gx:Stmt:=(inClass (top 48) 15)
abbrev AQ:Stmt:=(inClass (top 48) 16)
abbrev wU:Stmt:=(inClass (top 48) 17)
abbrev rN:Stmt:=(inClass (top 48) 18)
abbrev p8:Stmt:=(inClass (top 48) 19)
abbrev Dy:Stmt:=(inClass (top 48) 20)
abbrev oA:Stmt:=(inClass (top 48) 21)
abbrev rO:Stmt:=(inClass (top 48) 22)
abbrev jh:Stmt:=(inClass (top 48) 23)
abbrev oF:Stmt:=(inClass (top 48) 24)
abbrev nB:Stmt:=(inClass (top 48) 25)
abbrev p9:Stmt:=(inClass (top 48) 26)
abbrev yX:Stmt:=(top 49)
abbrev rP:Stmt:=(top 50)
abbrev AR:Stmt:=(top 52)
abbrev Gw:Stmt:=(top 53)
abbrev Gx:Stmt:=(top 54)
abbrev Gy:Stmt:=(top 55)
abbrev AS:Stmt:=(top 56)
abbrev JR:Stmt:=(top 57)
abbrev Dz:Stmt:=(top 58)
abbrev DA:Stmt:=(top 59)
abbrev Tt:Stmt:=(top 60)
abbrev JS:Stmt:=(top 61)
abbrev DB:Stmt:=(top 62)
abbrev um:Stmt:=(top 63)
abbrev DC:Stmt:=(top 64)
abbrev Gz:Stmt:=(top 65)
abbrev DE:Stmt:=(top 66)
abbrev ZT:Stmt:=(top 67)
theorem JT:aP ["self"] ["self"] (aD wH):=jr
theorem L0:aP ["self","house","caller","rope"] ["self","house","caller","rope"] (aD yQ):=jr
theorem L1:aP ["self","house","caller"] ["self","house","caller"] (aD yR):=jr
theorem JU:aP ["self"] ["self"] (aD wI):=jr
theorem DF:aP ["book","letter","house","came","open_here","here","handed"] ["book","letter","house","came","open_here","here"] (aD Gq):=jr
theorem L3:(["caller","letter"]:List Str).Nodup:=by decide +kernel
theorem vF:aP ["book","sought","house","came","open_here","here","noted","leading"] ["book","sought","house","came","open_here","here"] (aD Dp):=jr
theorem JV:(["rope","came"]:List Str).Nodup:=by decide +kernel
theorem GA:aP ["self","sender"] ["self","sender"] (aD rJ):=jr
theorem Il:aP ["self","caller"] ["self","caller"] (aD ua):=jr
theorem Im:aP ["self"] ["self"] (aD uc):=jr
theorem GB:aP ["self"] ["self"] (aD rK):=jr
theorem Io:aP ["self","sender","to"] ["self","sender","to"] (aD ud):=jr
theorem JW:aP ["self","caller"] ["self","caller"] (aD wJ):=jr
theorem JX:aP ["self"] ["self"] (aD wK):=jr
theorem Ip:aP ["self"] ["self"] (aD ue):=jr
theorem JY:aP ["self","caller"] ["self","caller"] (aD wL):=jr
theorem Tu:aP ["town","house"] ["town","house"] (aD Gs):=jr
theorem QK:aP ["town","row","rope","hops"] ["town","row","rope"] (aD OF):=jr
theorem JZ:aP ["town","live","rows","house","least","rope","made"] ["town","live","rows","house"] (aD ZR):=jr
theorem ZU:aP ["town","live","rows"] ["town","live","rows"] (aD ZS):=jr
theorem Xl:(["house","live","rows","town"]:List Str).Nodup:=by decide +kernel
theorem QL:aP ["town","live","rows"] ["town","live","rows"] (aD OG):=jr
theorem QM:(["up"]:List Str).Nodup:=by decide +kernel
theorem DG:aP ["town","live","rows","house","joined"] ["town","live","rows","house"] (aD Gu):=jr
theorem L4:(["rope","joined"]:List Str).Nodup:=by decide +kernel
theorem J0:aP ["town","live","rows","house","rope","other"] ["town","live","rows","house"] (aD OH):=jr
theorem J1:aP ["self","names","ropes"] ["self","names","ropes"] (aD wM):=jr
theorem OI:aP ["self","house"] ["self","house"] (aD AK):=jr
theorem OJ:aP ["self","number"] ["self","number"] (aD AL):=jr
theorem x8:aP ["self","house"] ["self","house"] (aD rL):=jr
theorem sH:(["number","rope","house"]:List Str).Nodup:=by decide +kernel
theorem zW:aP ["self","rope","house","ends"] ["self","rope","house"] (aD uf):=jr
theorem OL:aP ["self","rope","group"] ["self","rope","group"] (aD AM):=jr
theorem J2:aP ["names"] ["names"] (aD wN):=jr
theorem AU:aP ["size","ropes","rope"] ["size","ropes"] (aD wO):=jr
theorem L5:aP ["size","rope"] ["size","rope"] (aD yS):=jr
theorem OM:aP ["size","one","other"] ["size","one","other"] (aD AN):=jr
theorem vG:aP ["self","town"] ["self","town"] (aD p7):=jr
theorem AV:(["rope","town"]:List Str).Nodup:=by decide +kernel
theorem rQ:aP ["self","rope","wire","ahead"] ["self","rope","wire"] (aD ug):=jr
theorem DH:(["each","wire"]:List Str).Nodup:=by decide +kernel
theorem AW:aP ["self","rope","wire","ahead"] ["self","rope","wire"] (aD wQ):=jr
theorem Cw:aP ["self","rope"] ["self","rope"] (aD ny):=jr
theorem sI:aP ["self","rope","number","stand"] ["self","rope","number"] (aD nA):=jr
theorem zX:aP ["self","group"] ["self","group"] (aD uh):=jr
theorem DI:(["rope","group","self"]:List Str).Nodup:=by decide +kernel
theorem QN:aP ["town","rope"] ["town","rope"] (aD Dq):=jr
theorem J3:aP ["group"] ["group"] (aD wR):=jr
theorem GC:aP ["self","letter","group"] ["self","letter","group"] (aD rM):=jr
theorem jU:aP ["self","town","callers"] ["self","town","callers"] (aD yU):=jr
theorem GD:(["bit","town"]:List Str).Nodup:=by decide +kernel
theorem GF:(["bit"]:List Str).Nodup:=by decide +kernel
theorem GG:(["caller"]:List Str).Nodup:=by decide +kernel
theorem GH:(["caller"]:List Str).Nodup:=by decide +kernel
theorem GI:(["caller"]:List Str).Nodup:=by decide +kernel
theorem QO:aP ["self","group"] ["self","group"] (aD Dr):=jr
theorem QS:aP ["self","group"] ["self","group"] (aD Dt):=jr
theorem ON:aP ["self","group"] ["self","group"] (aD AO):=jr
theorem L6:aP ["self","house","group"] ["self","house","group"] (aD yV):=jr
theorem AX:aP ["self","house","group","ahead","row"] ["self","house","group"] (aD Du):=jr
theorem Hz:aP ["self","rope","wire","ended"] ["self","rope","wire"] (aD Dv):=jr
theorem J4:aP ["self","rope","wire","began"] ["self","rope","wire"] (aD Gv):=jr
theorem QT:aP ["self","caller","house"] ["self","caller","house"] (aD Dw):=jr
theorem vH:aP ["self","sender","to","letter","number","house"] ["self","sender","to"] (aD jw):=jr
theorem L7:aP ["self"] ["self"] (aD yW):=jr
theorem iF:aP ["self","at","landed","number","rope","house","posted","fate"] ["self","at"] (aD gx):=jr
theorem OO:aP ["self","letter"] ["self","letter"] (aD AQ):=jr
theorem J5:aP ["self","posted","rope","house"] ["self","posted","rope","house"] (aD wU):=jr
theorem fB:aP ["self","number","house","came","posted","group","open_here","here","found","caller","rope"] ["self","number","house","came"] (aD rN):=jr
theorem oG:aP ["self","house","group","there"] ["self","house","group"] (aD p8):=jr
theorem AY:(["caller","self","there"]:List Str).Nodup:=by decide +kernel
theorem AZ:aP ["self","number","house","rope","posted","wire"] ["self","number","house","rope"] (aD Dy):=jr
theorem nC:aP ["self","rope","wire","left","flown"] ["self","rope","wire"] (aD oA):=jr
theorem x9:aP ["self","group","posted"] ["self","group"] (aD rO):=jr
theorem l9:aP ["self","rope","group"] ["self","rope"] (aD jh):=jr
theorem DJ:aP ["self","house"] ["self","house"] (aD oF):=jr
theorem Cy:aP ["self","caller"] ["self","caller"] (aD nB):=jr
theorem EY:aP ["self","sender","to"] ["self","sender","to"] (aD p9):=jr
theorem CH:aP ["town"] ["town"] (aD yX):=jr
theorem GJ:(["house","town"]:List Str).Nodup:=by decide +kernel
theorem ya:aP ["town","callers","caller"] ["town","callers"] (aD rP):=jr
theorem OP:aP ["_law_script","_law_k"] ["_law_script","_law_k"] (aD AR):=jr
theorem Tv:aP ["_law_found"] ["_law_found"] (aD Gw):=jr
theorem nD:aP ["_law_script","_law_size","_law_names_here","_law_k","_law_cell","_law_name"] ["_law_script","_law_size"] (aD Gx):=jr
theorem eB:aP ["_law_script","_law_size","_law_group","_law_ropes_here","_law_many","_law_k","_law_cell","_law_one","_law_other","_law_rest","_law_cost","_law_lets"] ["_law_script","_law_size","_law_group"] (aD Gy):=jr
theorem oH:aP ["_law_script","_law_size","_law_group","_law_callers_here","_law_k","_law_cell","_law_place"] ["_law_script","_law_size","_law_group"] (aD AS):=jr
theorem M7:aP ["_law_ropes_here","_law_stood","_law_group"] ["_law_ropes_here","_law_stood","_law_group"] (aD JR):=jr
theorem OQ:(["_law_k","_law_group","_law_ropes_here","_law_stood"]:List Str).Nodup:=by decide +kernel
theorem A0:aP ["_law_net","_law_size","_law_group","_law_turn","_law_house"] ["_law_net","_law_size","_law_group"] (aD Dz):=jr
theorem A1:aP ["_law_net","_law_ropes_here","_law_stood","_law_number","_law_rope","_law_wire"] ["_law_net","_law_ropes_here","_law_stood","_law_number"] (aD DA):=jr
theorem OR:aP ["_law_places","_law_sender","_law_number","_law_mates"] ["_law_places","_law_sender","_law_number"] (aD Tt):=jr
theorem Tw:(["_law_caller","_law_places","_law_sender"]:List Str).Nodup:=by decide +kernel
theorem Cc:aP ["_law_net","_law_size","_law_group","_law_ropes_here","_law_stood","_law_places","_law_cell","_law_deed_here","_law_more","_law_caller"] ["_law_net","_law_size","_law_group","_law_ropes_here","_law_stood","_law_places","_law_cell"] (aD JS):=jr
theorem kL:aP ["_law_size","_law_ropes_here","_law_some","_law_labels_here","_law_rope","_law_low","_law_high"] ["_law_size","_law_ropes_here","_law_some"] (aD DB):=jr
theorem J6:(["_law_label","_law_high","_law_low"]:List Str).Nodup:=by decide +kernel
theorem rR:aP ["_law_story","_law_row"] ["_law_story"] (aD um):=jr
theorem DK:(["_law_one"]:List Str).Nodup:=by decide +kernel
theorem qS:aP ["_law_ropes_here","_law_story","_law_came","_law_sent","_law_row","_law_far"] ["_law_ropes_here","_law_story"] (aD DC):=jr
theorem gu:aP ["_law_ropes_here","_law_labels_here","_law_places","_law_sender","_law_to_here","_law_story","_law_first","_law_group","_law_houses_here","_law_hands","_law_led","_law_caller","_law_ought"] ["_law_ropes_here","_law_labels_here","_law_places","_law_sender","_law_to_here","_law_story"] (aD Gz):=jr
theorem L8:(["_law_row"]:List Str).Nodup:=by decide +kernel
theorem Ma:(["_law_house","_law_first","_law_labels_here"]:List Str).Nodup:=by decide +kernel
theorem CI:(["_law_caller","_law_place","_law_led","_law_to_here"]:List Str).Nodup:=by decide +kernel
theorem Mb:(["_law_house","_law_led"]:List Str).Nodup:=by decide +kernel
theorem A2:aP ["_law_net","_law_first","_law_at","_law_letter","_law_word"] ["_law_net","_law_first","_law_at"] (aD DE):=jr
theorem iZ:aP ["_law_script","_law_size","_law_group","_law_ropes_here","_law_callers_here","_law_net","_law_stood","_law_places","_law_cell","_law_first","_law_letters","_law_flies","_law_sender","_law_k","_law_labels_here","_law_to_here"] ["_law_script"] (aD ZT):=jr
theorem Xm:(["_law_rope"]:List Str).Nodup:=by decide +kernel
set_option genInjectivity false in
structure Ad where
 (mh oJ oK mq yb uo fc kM iG gW kN mw mz kP mC yc EZ QU QV yY yd E1 mD qU qV jL kQ qW mE mF oM qX ji kR mG iH iI kT uq mH jM oN ur uu qY oO uv uw ye ux oQ qZ mJ jN jj uy iU jO fC iV iJ jk oS jP rm yf yg yh rz A3 uz uA J7 A4 uB kU uC yi uD QW:Addr)
 (qy sN sO qz Cd yZ mU oU oV mV oW qA qB oX qC Ce IW Vh Vi IX Cf IY qD vI vJ mW oY vK qF qG sP vL lE oZ qH jx jy o8 y9 qI mX sQ za zc vM sR zd ze Cg zf sU vN qJ mY lF zg j8 mZ gP j9 jz lG sV m5 vO Ci Cj Ck vP E3 zh zj OT E4 zk pq zl Cm zm QX:FuncData)
 jA:Addr
 zo:FuncData
 gy:Addr
 qK:FuncData
 jV:Tok
 jl:Addr
 gQ:Addr
 jB:Addr
 jQ:Addr
 bA:Addr
 dc:Addr
 gv:Addr
 c8:Addr
 yj:Addr
 Cn:Addr
 qL:Tok
 sW:Tok
 sX:Tok
 sY:Tok
 pA:Tok
 fh:Addr
structure Txt(K:ah)(mg:Str->Option Value)(t:Ad):Prop where
 wV:QH K t.gv "Book.__init__" wH t.mh t.qy ["self"]
 E5:jg K t.gv "learn" "Book.learn" yQ t.oJ t.sN ["self","house","caller","rope"]
 E6:jg K t.gv "known" "Book.known" yR t.oK t.sO ["self","house","caller"]
 wW:jg K t.gv "forget" "Book.forget" wI t.mq t.qz ["self"]
 M8:lD K mg "targets" "targets" Gq t.yb t.Cd ["book","letter","house","came","open_here","here"]
 J8:lD K mg "ropes_on" "ropes_on" Dp t.uo t.yZ ["book","sought","house","came","open_here","here"]
 rS:QH K t.jl "Letter.__init__" rJ t.fc t.mU ["self","sender"]
 A5:jg K t.jl "meant" "Letter.meant" ua t.kM t.oU ["self","caller"]
 pB:jg K t.jl "seeks" "Letter.seeks" uc t.iG t.oV ["self"]
 m6:jg K t.jl "number" "Letter.number" rK t.gW t.mV ["self"]
 A6:QH K t.gQ "ToOne.__init__" ud t.kN t.oW ["self","sender","to"]
 CJ:jg K t.gQ "meant" "ToOne.meant" wJ t.mw t.qA ["self","caller"]
 wX:jg K t.gQ "seeks" "ToOne.seeks" wK t.mz t.qB ["self"]
 uE:jg K t.gQ "number" "ToOne.number" ue t.kP t.oX ["self"]
 CK:jg K t.jB "meant" "ToAll.meant" wL t.mC t.qC ["self","caller"]
 GK:lD K mg "own_row" "own_row" Gs t.yc t.Ce ["town","house"]
 OU:lD K mg "offer" "offer" OF t.EZ t.IW ["town","row","rope"]
 adB:lD K mg "due" "due" ZR t.QU t.Vh ["town","live","rows","house"]
 adC:lD K mg "ups" "ups" ZS t.QV t.Vi ["town","live","rows"]
 E7:lD K mg "opens" "opens" OG t.yY t.IX ["town","live","rows"]
 M9:lD K mg "open_at" "open_at" Gu t.yd t.Cf ["town","live","rows","house"]
 Vj:lD K mg "up_of" "up_of" OH t.E1 t.IY ["town","live","rows","house"]
 CL:QH K t.bA "Town.__init__" wM t.mD t.qD ["self","names","ropes"]
 HA:jg K t.bA "name" "Town.name" AK t.qU t.vI ["self","house"]
 A7:jg K t.bA "rope" "Town.rope" AL t.qV t.vJ ["self","number"]
 m7:jg K t.bA "ropes_at" "Town.ropes_at" rL t.jL t.mW ["self","house"]
 pC:jg K t.bA "far_end" "Town.far_end" uf t.kQ t.oY ["self","rope","house"]
 A8:jg K t.bA "lets" "Town.lets" AM t.qW t.vK ["self","rope","group"]
 CM:lD K mg "check_names" "check_names" wN t.mE t.qF ["names"]
 CN:lD K mg "check_ropes" "check_ropes" wO t.mF t.qG ["size","ropes"]
 E8:lD K mg "check_rope" "check_rope" yS t.oM t.sP ["size","rope"]
 HB:lD K mg "joins_two" "joins_two" AN t.qX t.vL ["size","one","other"]
 yk:QH K t.dc "Strands.__init__" p7 t.ji t.lE ["self","town"]
 uF:jg K t.dc "fall" "Strands.fall" ug t.kR t.oZ ["self","rope","wire"]
 wY:jg K t.dc "lay" "Strands.lay" wQ t.mG t.qH ["self","rope","wire"]
 fq:jg K t.dc "standing" "Strands.standing" ny t.iH t.jx ["self","rope"]
 nG:jg K t.dc "wire_for" "Strands.wire_for" nA t.iI t.jy ["self","rope","number"]
 uG:jg K t.dc "live" "Strands.live" uh t.kT t.o8 ["self","group"]
 DL:lD K mg "wires_of" "wires_of" Dq t.uq t.y9 ["town","rope"]
 i0:lD K mg "check_group" "check_group" wR t.mH t.qI ["group"]
 zY:QH K t.jQ "Posted.__init__" rM t.jM t.mX ["self","letter","group"]
 E9:QH K t.c8 "Net.__init__" yU t.oN t.sQ ["self","town","callers"]
 uH:jg K t.c8 "rows" "Net.rows" Dr t.ur t.za ["self","group"]
 zp:jg K t.c8 "live" "Net.live" Dt t.uu t.zc ["self","group"]
 HC:jg K t.c8 "opens" "Net.opens" AO t.qY t.vM ["self","group"]
 Fb:jg K t.c8 "row_at" "Net.row_at" yV t.oO t.sR ["self","house","group"]
 DM:jg K t.c8 "call" "Net.call" Du t.uv t.zd ["self","house","group"]
 J9:jg K t.c8 "fall" "Net.fall" Dv t.uw t.ze ["self","rope","wire"]
 Na:jg K t.c8 "lay" "Net.lay" Gv t.ye t.Cg ["self","rope","wire"]
 Ka:jg K t.c8 "move" "Net.move" Dw t.ux t.zf ["self","caller","house"]
 uI:OA K "post" "Net.post" jw t.jA t.zo (.none)
 Tz:Binds K t.zo ["self","sender","to"] [.none]
 Kc:Binds K t.zo ["self","sender","to"] []
 DN:Og K t.c8 "post" t.jA
 d8:jg K t.c8 "flying" "Net.flying" yW t.oQ t.sU ["self"]
 mK:OA K "pass_on" "Net.pass_on" gx t.gy t.qK (.int 0 t.jV)
 aa3:Binds K t.qK ["self","at"] [.int 0 t.jV]
 CO:Binds K t.qK ["self","at"] []
 CP:Og K t.c8 "pass_on" t.gy
 HD:jg K t.c8 "story" "Net.story" AQ t.qZ t.vN ["self","letter"]
 CQ:jg K t.c8 "fate_of" "Net.fate_of" wU t.mJ t.qJ ["self","posted","rope","house"]
 rT:jg K t.c8 "do_letter" "Net.do_letter" rN t.jN t.mY ["self","number","house","came"]
 yl:jg K t.c8 "callers_at" "Net.callers_at" p8 t.jj t.lF ["self","house","group"]
 Kd:jg K t.c8 "send" "Net.send" Dy t.uy t.zg ["self","number","house","rope"]
 vQ:jg K t.c8 "lose_copies" "Net.lose_copies" oA t.iU t.j8 ["self","rope","wire"]
 m8:jg K t.c8 "take_news" "Net.take_news" rO t.jO t.mZ ["self","group"]
 jm:jg K t.c8 "take_news_of_rope" "Net.take_news_of_rope" jh t.fC t.gP ["self","rope"]
 pD:jg K t.c8 "check_house" "Net.check_house" oF t.iV t.j9 ["self","house"]
 jC:jg K t.c8 "check_caller" "Net.check_caller" nB t.iJ t.jz ["self","caller"]
 ym:jg K t.c8 "check_pair" "Net.check_pair" p9 t.jk t.lG ["self","sender","to"]
 Fc:lD K mg "first_rows" "first_rows" yX t.oS t.sV ["town"]
 zZ:lD K mg "check_callers" "check_callers" rP t.jP t.m5 ["town","callers"]
 iy:lD K mg "_law_cell_at" "_law_cell_at" AR t.rm t.vO ["_law_script","_law_k"]
 Nb:lD K mg "_law_whole" "_law_whole" Gw t.yf t.Ci ["_law_found"]
 Nc:lD K mg "_law_names" "_law_names" Gx t.yg t.Cj ["_law_script","_law_size"]
 Nd:lD K mg "_law_ropes" "_law_ropes" Gy t.yh t.Ck ["_law_script","_law_size","_law_group"]
 HE:lD K mg "_law_callers" "_law_callers" AS t.rz t.vP ["_law_script","_law_size","_law_group"]
 QY:lD K mg "_law_live" "_law_live" JR t.A3 t.E3 ["_law_ropes_here","_law_stood","_law_group"]
 Ke:lD K mg "_law_rounds" "_law_rounds" Dz t.uz t.zh ["_law_net","_law_size","_law_group"]
 Kf:lD K mg "_law_toggle" "_law_toggle" DA t.uA t.zj ["_law_net","_law_ropes_here","_law_stood","_law_number"]
 TF:lD K mg "_law_to" "_law_to" Tt t.J7 t.OT ["_law_places","_law_sender","_law_number"]
 QZ:lD K mg "_law_deed" "_law_deed" JS t.A4 t.E4 ["_law_net","_law_size","_law_group","_law_ropes_here","_law_stood","_law_places","_law_cell"]
 Kg:lD K mg "_law_labels" "_law_labels" DB t.uB t.zk ["_law_size","_law_ropes_here","_law_some"]
 A9:lD K mg "_law_story_kind" "_law_story_kind" um t.kU t.pq ["_law_story"]
 Kh:lD K mg "_law_houses" "_law_houses" DC t.uC t.zl ["_law_ropes_here","_law_story"]
 Ng:lD K mg "_law_right" "_law_right" Gz t.yi t.Cm ["_law_ropes_here","_law_labels_here","_law_places","_law_sender","_law_to_here","_law_story"]
 DO:lD K mg "_law_arrive" "_law_arrive" DE t.uD t.zm ["_law_net","_law_first","_law_at"]
 ZV:lD K mg "law" "law" ZT t.QW t.QX ["_law_script"]
 Kl:LI K t.jl
 ZW:mg "Letter" = some (.ref t.jl)
 Yk:dX K t.jl "sender"
 adD:dX K t.jl "to"
 qM:LI K t.gQ
 abT:mg "ToOne" = some (.ref t.gQ)
 uJ:dX K t.gQ "sender"
 zq:dX K t.gQ "to"
 zu:LI K t.jB
 abU:mg "ToAll" = some (.ref t.jB)
 pF:dX K t.jB "sender"
 afm:dX K t.jB "to"
 dR:LI K t.jQ
 ZX:mg "Posted" = some (.ref t.jQ)
 iR:dX K t.jQ "letter"
 kW:dX K t.jQ "group"
 zv:dX K t.jQ "old"
 qb:dX K t.jQ "done_at"
 iK:dX K t.jQ "deeds"
 f6:LI K t.bA
 afn:mg "Town" = some (.ref t.bA)
 uK:dX K t.bA "house_names"
 iL:dX K t.bA "rope_tuples"
 nU:dX K t.bA "size"
 vR:dX K t.bA "many"
 eS:LI K t.dc
 Xn:mg "Strands" = some (.ref t.dc)
 kX:dX K t.dc "town"
 gR:dX K t.dc "upright"
 DP:LI K t.gv
 afo:mg "Book" = some (.ref t.gv)
 vS:dX K t.gv "kept"
 bJ:LI K t.c8
 aic:mg "Net" = some (.ref t.c8)
 nH:dX K t.c8 "town"
 mL:dX K t.c8 "strands"
 lP:dX K t.c8 "rows_by_group"
 vU:dX K t.c8 "books"
 kY:dX K t.c8 "homes"
 lH:dX K t.c8 "groups"
 Fd:dX K t.c8 "handed"
 eX:dX K t.c8 "letters"
 jD:dX K t.c8 "copies"
 Ba:mg "opens_opens" = some (.ref t.yY)
 Mc:Og K t.jB "seeks" t.iG
 Km:Og K t.jB "number" t.gW
 abV:Mk K t.jB t.fc
 GL:adu K t.jl "__init__" t.fc
 Kn:mg "NoWire" = some (.ref t.yj)
 Ko:Zm K t.yj
 Xo:mg "NoGroup" = some (.ref t.Cn)
 Xp:Zm K t.Cn
 Me:mg "MOST_HOUSES" = some (.int 10 t.qL)
 OV:mg "MOST_ROPES" = some (.int 20 t.sW)
 OW:mg "MOST_WIRES" = some (.int 4 t.sX)
 OX:mg "ALL_GROUPS" = some (.int 7 t.sY)
 Kq:mg "MOST_CALLERS" = some (.int 20 t.pA)
 lI:mg "GROUP_BITS" = some (.ref t.fh)
 gz:∀H,cX K H t.fh [.int 1,.int 2,.int 4]
 fK:mg "len" = none
 pG:mg "isinstance" = none
 ZY:mg "int" = none
 afp:mg "bool" = none
 rV:mg "list" = none
 abW:mg "tuple" = none
 ig:mg "range" = none
 HF:mg "enumerate" = none
 adE:mg "min" = none
 aid:mg "max" = none
 aie:mg "set" = none
 aif:mg "str" = none
 adF:mg "all" = none
 Bb:mg "sorted" = none
theorem Vk{a:Type}{M:List a->Prop}(h:∀b,M [b]):∀us:List a,us.length=1->M us
 |[_],_=>h _
theorem FW{a:Type}{M:List a->Prop}(h:∀b c,M [b,c]):∀us:List a,us.length=2->M us
 |[_,_],_=>h _ _
theorem Ej{a:Type}{M:List a->Prop}(h:∀b d c,M [b,d,c]):∀us:List a,us.length=3->M us
 |[_,_,_],_=>h _ _ _
theorem qt{a:Type}{M:List a->Prop}(h:∀b d c e,M [b,d,c,e]):∀us:List a,us.length=4->M us
 |[_,_,_,_],_=>h _ _ _ _
theorem el6{a:Type}{M:List a->Prop}(h:∀b f c g d e,M [b,f,c,g,d,e]):∀us:List a,us.length=6->M us
 |[_,_,_,_,_,_],_=>h _ _ _ _ _ _
theorem el7{a:Type}{M:List a->Prop}(h:∀b g c i d e f,M [b,g,c,i,d,e,f]):∀us:List a,us.length=7->M us
 |[_,_,_,_,_,_,_],_=>h _ _ _ _ _ _ _
theorem afq{K:ah}{h:Heap}{b:Str->Option Value}(X:K.In h)(G:h.Ns mainGlobals b){mh oJ oK mq yb uo s kM L A kN mw mz kP mC yc EZ QU QV R yd E1 mD qU qV jL kQ qW mE mF oM qX ji kR mG iH iI kT uq mH jM oN ur uu qY oO uv uw ye ux oQ qZ mJ jN jj uy iU jO fC iV iJ jk oS jP rm yf yg yh rz A3 uz uA J7 A4 uB kU uC yi uD QW:Addr}
 {Q0 HG HH HJ D HK:Value} {Q3 HN:Option Addr} {Q4:Array (Option Value)} {p:Addr}
 {U:Addr} {OY:Option Addr} {Q5:Nat} {OZ:Array (Option Value)}
 {Kr Be Bf Bg w Bj:Value} {Ks Bk:Option Addr} {Ku:Array (Option Value)} {o:Addr}
 {I:Addr} {Iq:Option Addr} {Kv:Nat} {Ir:Array (Option Value)}
 {z:Tok}
 {e:Addr}
 {j:Addr}
 {g:Addr}
 {i:Addr}
 {d:Addr}
 {f:Addr}
 {k:Addr}
 {a:Addr}
 {C:Addr}
 {O:Addr}
 {qL:Tok}
 {sW:Tok}
 {sX:Tok}
 {sY:Tok}
 {pA:Tok}
 {T:Addr} {Mf:Option Addr} {O0:Nat} {Mg Mh Mi:Tok} {Mj:Array (Option Value)}
 (GO:bS K mainGlobals "Letter" = some (some (.ref e)))
 (Ky:bS K mainGlobals "ToOne" = some (some (.ref j)))
 (Kz:bS K mainGlobals "ToAll" = some (some (.ref g)))
 (GP:bS K mainGlobals "Posted" = some (some (.ref i)))
 (O6:bS K mainGlobals "Town" = some (some (.ref d)))
 (DR:bS K mainGlobals "Strands" = some (some (.ref f)))
 (O7:bS K mainGlobals "Book" = some (some (.ref k)))
 (TH:bS K mainGlobals "Net" = some (some (.ref a)))
 (w6:EM K k "__init__" "Book.__init__" wH mh)
 (zw:EM K k "learn" "Book.learn" yQ oJ)
 (zx:EM K k "known" "Book.known" yR oK)
 (w9:EM K k "forget" "Book.forget" wI mq)
 (GQ:EG K b "targets" "targets" Gq yb)
 (DS:EG K b "ropes_on" "ropes_on" Dp uo)
 (rW:EM K e "__init__" "Letter.__init__" rJ s)
 (uM:EM K e "meant" "Letter.meant" ua kM)
 (uN:EM K e "seeks" "Letter.seeks" uc L)
 (rX:EM K e "number" "Letter.number" rK A)
 (uO:EM K j "__init__" "ToOne.__init__" ud kN)
 (xg:EM K j "meant" "ToOne.meant" wJ mw)
 (xh:EM K j "seeks" "ToOne.seeks" wK mz)
 (uP:EM K j "number" "ToOne.number" ue kP)
 (xj:EM K g "meant" "ToAll.meant" wL mC)
 (GR:EG K b "own_row" "own_row" Gs yc)
 (O9:EG K b "offer" "offer" OF EZ)
 (ZZ:EG K b "due" "due" ZR QU)
 (Z0:EG K b "ups" "ups" ZS QV)
 (Pa:EG K b "opens" "opens" OG R)
 (GS:EG K b "open_at" "open_at" Gu yd)
 (Pb:EG K b "up_of" "up_of" OH E1)
 (xm:EM K d "__init__" "Town.__init__" wM mD)
 (Bm:EM K d "name" "Town.name" AK qU)
 (Bo:EM K d "rope" "Town.rope" AL qV)
 (rY:EM K d "ropes_at" "Town.ropes_at" rL jL)
 (uQ:EM K d "far_end" "Town.far_end" uf kQ)
 (Bp:EM K d "lets" "Town.lets" AM qW)
 (xo:EG K b "check_names" "check_names" wN mE)
 (xq:EG K b "check_ropes" "check_ropes" wO mF)
 (zy:EG K b "check_rope" "check_rope" yS oM)
 (Bq:EG K b "joins_two" "joins_two" AN qX)
 (qd:EM K f "__init__" "Strands.__init__" p7 ji)
 (uR:EM K f "fall" "Strands.fall" ug kR)
 (xr:EM K f "lay" "Strands.lay" wQ mG)
 (nJ:EM K f "standing" "Strands.standing" ny iH)
 (nK:EM K f "wire_for" "Strands.wire_for" nA iI)
 (uS:EM K f "live" "Strands.live" uh kT)
 (DT:EG K b "wires_of" "wires_of" Dq uq)
 (xu:EG K b "check_group" "check_group" wR mH)
 (rZ:EM K i "__init__" "Posted.__init__" rM jM)
 (zz:EM K a "__init__" "Net.__init__" yU oN)
 (DU:EM K a "rows" "Net.rows" Dr ur)
 (DV:EM K a "live" "Net.live" Dt uu)
 (Br:EM K a "opens" "Net.opens" AO qY)
 (zA:EM K a "row_at" "Net.row_at" yV oO)
 (DW:EM K a "call" "Net.call" Du uv)
 (DY:EM K a "fall" "Net.fall" Dv uw)
 (GU:EM K a "lay" "Net.lay" Gv ye)
 (DZ:EM K a "move" "Net.move" Dw ux)
 (D0:aM K (.ref a) "post" = some (some (.ref p)))
 (D3:PySem.W.isFn K (.ref p)=true)
 (D4:K.lookup p=some ⟨Q0,Q3,.func (fJ "post" "Net.post" (j6 jw) (gM jw) (aD jw) (.ref U) HG HH HJ HN D HK),Q4⟩)
 (D5:jX K D "Net.post" = true)
 (zB:eY K (.ref p)=true)
 (Bs:K.lookup U=some ⟨.type "tuple",OY,.seq #[.none] Q5,OZ⟩)
 (zC:EM K a "flying" "Net.flying" yW oQ)
 (xw:aM K (.ref a) "pass_on" = some (some (.ref o)))
 (xx:PySem.W.isFn K (.ref o)=true)
 (xA:K.lookup o=some ⟨Kr,Ks,.func (fJ "pass_on" "Net.pass_on" (j6 gx) (gM gx) (aD gx) (.ref I) Be Bf Bg Bk w Bj),Ku⟩)
 (xB:jX K w "Net.pass_on" = true)
 (qN:eY K (.ref o)=true)
 (uT:K.lookup I=some ⟨.type "tuple",Iq,.seq #[.int 0 z] Kv,Ir⟩)
 (Bt:EM K a "story" "Net.story" AQ qZ)
 (xC:EM K a "fate_of" "Net.fate_of" wU mJ)
 (r6:EM K a "do_letter" "Net.do_letter" rN jN)
 (qe:EM K a "callers_at" "Net.callers_at" p8 jj)
 (D6:EM K a "send" "Net.send" Dy uy)
 (pI:EM K a "lose_copies" "Net.lose_copies" oA iU)
 (r8:EM K a "take_news" "Net.take_news" rO jO)
 (jo:EM K a "take_news_of_rope" "Net.take_news_of_rope" jh fC)
 (pJ:EM K a "check_house" "Net.check_house" oF iV)
 (nL:EM K a "check_caller" "Net.check_caller" nB iJ)
 (qg:EM K a "check_pair" "Net.check_pair" p9 jk)
 (zD:EG K b "first_rows" "first_rows" yX oS)
 (r9:EG K b "check_callers" "check_callers" rP jP)
 (Bu:EG K b "_law_cell_at" "_law_cell_at" AR rm)
 (GV:EG K b "_law_whole" "_law_whole" Gw yf)
 (GW:EG K b "_law_names" "_law_names" Gx yg)
 (GX:EG K b "_law_ropes" "_law_ropes" Gy yh)
 (Bv:EG K b "_law_callers" "_law_callers" AS rz)
 (KA:EG K b "_law_live" "_law_live" JR A3)
 (D7:EG K b "_law_rounds" "_law_rounds" Dz uz)
 (D8:EG K b "_law_toggle" "_law_toggle" DA uA)
 (TJ:EG K b "_law_to" "_law_to" Tt J7)
 (KC:EG K b "_law_deed" "_law_deed" JS A4)
 (D9:EG K b "_law_labels" "_law_labels" DB uB)
 (uU:EG K b "_law_story_kind" "_law_story_kind" um kU)
 (Ea:EG K b "_law_houses" "_law_houses" DC uC)
 (GY:EG K b "_law_right" "_law_right" Gz yi)
 (Eb:EG K b "_law_arrive" "_law_arrive" DE uD)
 (Z1:EG K b "law" "law" ZT QW)
 (V:EC K e)
 (qi:aM K (.ref e) "sender" = some none)
 (zE:aM K (.ref e) "to" = some none)
 (F:EC K j)
 (se:aM K (.ref j) "sender" = some none)
 (Bx:aM K (.ref j) "to" = some none)
 (S:EC K g)
 (sf:aM K (.ref g) "sender" = some none)
 (By:aM K (.ref g) "to" = some none)
 (P:EC K i)
 (qj:aM K (.ref i) "letter" = some none)
 (sj:aM K (.ref i) "group" = some none)
 (xD:aM K (.ref i) "old" = some none)
 (pK:aM K (.ref i) "done_at" = some none)
 (sq:aM K (.ref i) "deeds" = some none)
 (Z:EC K d)
 (lQ:aM K (.ref d) "house_names" = some none)
 (lR:aM K (.ref d) "rope_tuples" = some none)
 (zF:aM K (.ref d) "size" = some none)
 (zG:aM K (.ref d) "many" = some none)
 (E:EC K f)
 (sr:aM K (.ref f) "town" = some none)
 (nM:aM K (.ref f) "upright" = some none)
 (M:EC K k)
 (zH:aM K (.ref k) "kept" = some none)
 (Q:EC K a)
 (BB:aM K (.ref a) "town" = some none)
 (uV:aM K (.ref a) "strands" = some none)
 (kZ:aM K (.ref a) "rows_by_group" = some none)
 (zI:aM K (.ref a) "books" = some none)
 (zJ:aM K (.ref a) "homes" = some none)
 (xE:aM K (.ref a) "groups" = some none)
 (xF:aM K (.ref a) "handed" = some none)
 (uW:aM K (.ref a) "letters" = some none)
 (xG:aM K (.ref a) "copies" = some none)
 (uX:bS K mainGlobals "opens_opens" = some (some (.ref R)))
 (uY:aM K (.ref g) "seeks" = some (some (.ref L)))
 (sy:aM K (.ref g) "number" = some (some (.ref A)))
 (KG:aM K (.ref g) "__init__" = some (some (.ref s)))
 (qk:PySem.W.specialIn K (.ref e) "__getattribute__" = some (some (.builtin "type.__getattribute__")))
 (ql:PySem.W.readsIn K e (.type "type")=true)
 (qm:PySem.W.findCls K (.ref e) (.type "type") "__init__" = some (.val (.ref s)))
 (GZ:bS K mainGlobals "NoWire" = some (some (.ref C)))
 (G0:Zm K C)
 (Ec:bS K mainGlobals "NoGroup" = some (some (.ref O)))
 (Ed:Zm K O)
 (xH:bS K mainGlobals "MOST_HOUSES" = some (some (.int 10 qL)))
 (zK:bS K mainGlobals "MOST_ROPES" = some (some (.int 20 sW)))
 (zL:bS K mainGlobals "MOST_WIRES" = some (some (.int 4 sX)))
 (zM:bS K mainGlobals "ALL_GROUPS" = some (some (.int 7 sY)))
 (uZ:bS K mainGlobals "MOST_CALLERS" = some (some (.int 20 pA)))
 (zN:bS K mainGlobals "GROUP_BITS" = some (some (.ref T)))
 (zO:K.lookup T=some ⟨.type "tuple",Mf,.seq #[.int 1 Mg,.int 2 Mh,.int 4 Mi] O0,Mj⟩)
 (Z2:bS K mainGlobals "len" = some none)
 (zP:bS K mainGlobals "isinstance" = some none)
 (Z3:bS K mainGlobals "int" = some none)
 (TL:bS K mainGlobals "bool" = some none)
 (TM:bS K mainGlobals "list" = some none)
 (Pc:bS K mainGlobals "tuple" = some none)
 (Pd:bS K mainGlobals "range" = some none)
 (BC:bS K mainGlobals "enumerate" = some none)
 (Z4:bS K mainGlobals "min" = some none)
 (Z5:bS K mainGlobals "max" = some none)
 (Z6:bS K mainGlobals "set" = some none)
 (Z7:bS K mainGlobals "str" = some none)
 (Z8:bS K mainGlobals "all" = some none)
 (KH:bS K mainGlobals "sorted" = some none):∃t,Txt K b t:=by
 obtain⟨qy,CS,CU⟩:=w6;obtain⟨sN,Fg,Pe⟩:=zw;obtain⟨sO,Fi,Pf⟩:=zx;obtain⟨qz,CV,Ml⟩:=w9;obtain⟨Cd,Nh,Xq⟩:=GQ;obtain⟨yZ,KI,TN⟩:=DS;obtain⟨mU,z6,u⟩:=rW;obtain⟨oU,BD,KJ⟩:=uM;obtain⟨oV,BE,u6⟩:=uN;obtain⟨mV,Aa,sA⟩:=rX;obtain⟨oW,BF,BG⟩:=uO;obtain⟨qA,CY,Mm⟩:=xg;obtain⟨qB,CZ,Mn⟩:=xh;obtain⟨oX,BH,KL⟩:=uP;obtain⟨qC,C0,Mp⟩:=xj;obtain⟨Ce,Ni,Xr⟩:=GR;obtain⟨IW,Vl,abX⟩:=O9;obtain⟨Vh,r,aih⟩:=ZZ;obtain⟨Vi,l,J⟩:=Z0;obtain⟨IX,Vm,x⟩:=Pa;obtain⟨Cf,Nj,Xs⟩:=GS;obtain⟨IY,Vn,v⟩:=Pb;obtain⟨qD,C1,C2⟩:=xm;obtain⟨vI,HQ,Q7⟩:=Bm;obtain⟨vJ,HR,Q8⟩:=Bo;obtain⟨mW,Ab,Iu⟩:=rY;obtain⟨oY,BI,KN⟩:=uQ;obtain⟨vK,HS,Q9⟩:=Bp;obtain⟨qF,C3,Mq⟩:=xo;obtain⟨qG,C4,Mr⟩:=xq;obtain⟨sP,Fj,Pg⟩:=zy;obtain⟨vL,HU,Ra⟩:=Bq;obtain⟨lE,yp,yq⟩:=qd;obtain⟨oZ,BJ,KO⟩:=uR;obtain⟨qH,C5,Ms⟩:=xr;obtain⟨jx,vc,Ef⟩:=nJ;obtain⟨jy,vd,Eg⟩:=nK;obtain⟨o8,BK,KP⟩:=uS;obtain⟨y9,KQ,TR⟩:=DT;obtain⟨qI,C6,Mt⟩:=xu;obtain⟨mX,Ac,Ae⟩:=rZ;obtain⟨sQ,Fk,Fl⟩:=zz;obtain⟨za,KR,TU⟩:=DU;obtain⟨zc,KS,TV⟩:=DV;obtain⟨vM,HV,Rb⟩:=Br;obtain⟨sR,Fq,Pj⟩:=zA;obtain⟨zd,KU,TY⟩:=DW;obtain⟨ze,KW,TZ⟩:=DY;obtain⟨Cg,Nk,Xu⟩:=GU;obtain⟨zf,KY,T4⟩:=DZ;have B:=Ve (st:=jw) D4 D5 zB Bs rfl;obtain⟨sU,Ft,Pk⟩:=zC;have mK:=Ve (st:=gx) xA xB qN uT rfl;obtain⟨vN,HW,Rc⟩:=Bt;obtain⟨qJ,C7,Mu⟩:=xC;obtain⟨mY,Af,Iv⟩:=r6;obtain⟨lF,yr,G1⟩:=qe;obtain⟨zg,KZ,T5⟩:=D6;obtain⟨j8,vV,Fv⟩:=pI;obtain⟨mZ,Ag,Iw⟩:=r8;obtain⟨gP,nV,yt⟩:=jo;obtain⟨j9,vW,Fw⟩:=pJ;obtain⟨jz,ve,Eh⟩:=nL;obtain⟨lG,yu,G2⟩:=qg;obtain⟨sV,Fx,Po⟩:=zD;obtain⟨m5,Ah,Iz⟩:=r9;obtain⟨vO,HX,Rf⟩:=Bu;obtain⟨Ci,Nl,Xv⟩:=GV;obtain⟨Cj,Nm,Xw⟩:=GW;obtain⟨Ck,Np,Xx⟩:=GX;obtain⟨vP,HY,Rg⟩:=Bv;obtain⟨E3,Rh,Z9⟩:=KA;obtain⟨zh,K0,T6⟩:=D7;obtain⟨zj,K1,T7⟩:=D8;obtain⟨OT,n,Y⟩:=TJ;obtain⟨E4,Ri,N⟩:=KC;obtain⟨zk,K2,T8⟩:=D9;obtain⟨pq,BL,K3⟩:=uU;obtain⟨zl,K4,T9⟩:=Ea;obtain⟨Cm,Nq,Xy⟩:=GY;obtain⟨zm,K5,Ua⟩:=Eb;obtain⟨QX,q,y⟩:=Z1;exact⟨⟨mh,oJ,oK,mq,yb,uo,s,kM,L,A,kN,mw,mz,kP,mC,yc,EZ,QU,QV,R,yd,E1,mD,qU,qV,jL,kQ,qW,mE,mF,oM,qX,ji,kR,mG,iH,iI,kT,uq,mH,jM,oN,ur,uu,qY,oO,uv,uw,ye,ux,oQ,qZ,mJ,jN,jj,uy,iU,jO,fC,iV,iJ,jk,oS,jP,rm,yf,yg,yh,rz,A3,uz,uA,J7,A4,uB,kU,uC,yi,uD,QW,qy,sN,sO,qz,Cd,yZ,mU,oU,oV,mV,oW,qA,qB,oX,qC,Ce,IW,Vh,Vi,IX,Cf,IY,qD,vI,vJ,mW,oY,vK,qF,qG,sP,vL,lE,oZ,qH,jx,jy,o8,y9,qI,mX,sQ,za,zc,vM,sR,zd,ze,Cg,zf,sU,vN,qJ,mY,lF,zg,j8,mZ,gP,j9,jz,lG,sV,m5,vO,Ci,Cj,Ck,vP,E3,zh,zj,OT,E4,zk,pq,zl,Cm,zm,QX,p,(fJ "post" "Net.post" (j6 jw) (gM jw) (aD jw) (.ref U) HG HH HJ HN D HK),o,(fJ "pass_on" "Net.pass_on" (j6 gx) (gM gx) (aD gx) (.ref I) Be Bf Bg Bk w Bj),z,e,j,g,i,d,f,k,a,C,O,qL,sW,sX,sY,pA,T⟩,⟨⟨CS,CS.binds λ_ _ _ _ _ _=>Vk λ_=>rfl,⟨M.pH,CU.at_,CU.fn,M.kc⟩⟩,
  ⟨Fg,Fg.binds λ_ _ _ _ _ _=>qt λ_ _ _ _=>rfl,Pe⟩,
  ⟨Fi,Fi.binds λ_ _ _ _ _ _=>Ej λ_ _ _=>rfl,Pf⟩,
  ⟨CV,CV.binds λ_ _ _ _ _ _=>Vk λ_=>rfl,Ml⟩,
  ⟨Nh,Nh.binds λ_ _ _ _ _ _=>el6 λ_ _ _ _ _ _=>rfl,Xq⟩,
  ⟨KI,KI.binds λ_ _ _ _ _ _=>el6 λ_ _ _ _ _ _=>rfl,TN⟩,
  ⟨z6,z6.binds λ_ _ _ _ _ _=>FW λ_ _=>rfl,⟨V.pH,u.at_,u.fn,V.kc⟩⟩,
  ⟨BD,BD.binds λ_ _ _ _ _ _=>FW λ_ _=>rfl,KJ⟩,
  ⟨BE,BE.binds λ_ _ _ _ _ _=>Vk λ_=>rfl,u6⟩,
  ⟨Aa,Aa.binds λ_ _ _ _ _ _=>Vk λ_=>rfl,sA⟩,
  ⟨BF,BF.binds λ_ _ _ _ _ _=>Ej λ_ _ _=>rfl,⟨F.pH,BG.at_,BG.fn,F.kc⟩⟩,
  ⟨CY,CY.binds λ_ _ _ _ _ _=>FW λ_ _=>rfl,Mm⟩,
  ⟨CZ,CZ.binds λ_ _ _ _ _ _=>Vk λ_=>rfl,Mn⟩,
  ⟨BH,BH.binds λ_ _ _ _ _ _=>Vk λ_=>rfl,KL⟩,
  ⟨C0,C0.binds λ_ _ _ _ _ _=>FW λ_ _=>rfl,Mp⟩,
  ⟨Ni,Ni.binds λ_ _ _ _ _ _=>FW λ_ _=>rfl,Xr⟩,
  ⟨Vl,Vl.binds λ_ _ _ _ _ _=>Ej λ_ _ _=>rfl,abX⟩,
  ⟨r,r.binds λ_ _ _ _ _ _=>qt λ_ _ _ _=>rfl,aih⟩,
  ⟨l,l.binds λ_ _ _ _ _ _=>Ej λ_ _ _=>rfl,J⟩,
  ⟨Vm,Vm.binds λ_ _ _ _ _ _=>Ej λ_ _ _=>rfl,x⟩,
  ⟨Nj,Nj.binds λ_ _ _ _ _ _=>qt λ_ _ _ _=>rfl,Xs⟩,
  ⟨Vn,Vn.binds λ_ _ _ _ _ _=>qt λ_ _ _ _=>rfl,v⟩,
  ⟨C1,C1.binds λ_ _ _ _ _ _=>Ej λ_ _ _=>rfl,⟨Z.pH,C2.at_,C2.fn,Z.kc⟩⟩,
  ⟨HQ,HQ.binds λ_ _ _ _ _ _=>FW λ_ _=>rfl,Q7⟩,
  ⟨HR,HR.binds λ_ _ _ _ _ _=>FW λ_ _=>rfl,Q8⟩,
  ⟨Ab,Ab.binds λ_ _ _ _ _ _=>FW λ_ _=>rfl,Iu⟩,
  ⟨BI,BI.binds λ_ _ _ _ _ _=>Ej λ_ _ _=>rfl,KN⟩,
  ⟨HS,HS.binds λ_ _ _ _ _ _=>Ej λ_ _ _=>rfl,Q9⟩,
  ⟨C3,C3.binds λ_ _ _ _ _ _=>Vk λ_=>rfl,Mq⟩,
  ⟨C4,C4.binds λ_ _ _ _ _ _=>FW λ_ _=>rfl,Mr⟩,
  ⟨Fj,Fj.binds λ_ _ _ _ _ _=>FW λ_ _=>rfl,Pg⟩,
  ⟨HU,HU.binds λ_ _ _ _ _ _=>Ej λ_ _ _=>rfl,Ra⟩,
  ⟨yp,yp.binds λ_ _ _ _ _ _=>FW λ_ _=>rfl,⟨E.pH,yq.at_,yq.fn,E.kc⟩⟩,
  ⟨BJ,BJ.binds λ_ _ _ _ _ _=>Ej λ_ _ _=>rfl,KO⟩,
  ⟨C5,C5.binds λ_ _ _ _ _ _=>Ej λ_ _ _=>rfl,Ms⟩,
  ⟨vc,vc.binds λ_ _ _ _ _ _=>FW λ_ _=>rfl,Ef⟩,
  ⟨vd,vd.binds λ_ _ _ _ _ _=>Ej λ_ _ _=>rfl,Eg⟩,
  ⟨BK,BK.binds λ_ _ _ _ _ _=>FW λ_ _=>rfl,KP⟩,
  ⟨KQ,KQ.binds λ_ _ _ _ _ _=>FW λ_ _=>rfl,TR⟩,
  ⟨C6,C6.binds λ_ _ _ _ _ _=>Vk λ_=>rfl,Mt⟩,
  ⟨Ac,Ac.binds λ_ _ _ _ _ _=>Ej λ_ _ _=>rfl,⟨P.pH,Ae.at_,Ae.fn,P.kc⟩⟩,
  ⟨Fk,Fk.binds λ_ _ _ _ _ _=>Ej λ_ _ _=>rfl,⟨Q.pH,Fl.at_,Fl.fn,Q.kc⟩⟩,
  ⟨KR,KR.binds λ_ _ _ _ _ _=>FW λ_ _=>rfl,TU⟩,
  ⟨KS,KS.binds λ_ _ _ _ _ _=>FW λ_ _=>rfl,TV⟩,
  ⟨HV,HV.binds λ_ _ _ _ _ _=>FW λ_ _=>rfl,Rb⟩,
  ⟨Fq,Fq.binds λ_ _ _ _ _ _=>Ej λ_ _ _=>rfl,Pj⟩,
  ⟨KU,KU.binds λ_ _ _ _ _ _=>Ej λ_ _ _=>rfl,TY⟩,
  ⟨KW,KW.binds λ_ _ _ _ _ _=>Ej λ_ _ _=>rfl,TZ⟩,
  ⟨Nk,Nk.binds λ_ _ _ _ _ _=>Ej λ_ _ _=>rfl,Xu⟩,
  ⟨KY,KY.binds λ_ _ _ _ _ _=>Ej λ_ _ _=>rfl,T4⟩,
  B,
  (B.binds (ps:=["self","sender","to"]) (ds:=[.none]) (m:=2) rfl λ_ _ _ _ _ _ _=>FW λ_ _=>⟨_,rfl,rfl⟩),
  (B.binds (ps:=["self","sender","to"]) (ds:=[]) (m:=3) rfl λ_ _ _ _ _ _ _=>Ej λ_ _ _=>⟨_,rfl,rfl⟩),
  ⟨D0,D3,zB⟩,
  ⟨Ft,Ft.binds λ_ _ _ _ _ _=>Vk λ_=>rfl,Pk⟩,
  mK,
  (mK.binds (ps:=["self","at"]) (ds:=[.int 0 z]) (m:=1) rfl λ_ _ _ _ _ _ _=>Vk λ_=>⟨_,rfl,rfl⟩),
  (mK.binds (ps:=["self","at"]) (ds:=[]) (m:=2) rfl λ_ _ _ _ _ _ _=>FW λ_ _=>⟨_,rfl,rfl⟩),
  ⟨xw,xx,qN⟩,
  ⟨HW,HW.binds λ_ _ _ _ _ _=>FW λ_ _=>rfl,Rc⟩,
  ⟨C7,C7.binds λ_ _ _ _ _ _=>qt λ_ _ _ _=>rfl,Mu⟩,
  ⟨Af,Af.binds λ_ _ _ _ _ _=>qt λ_ _ _ _=>rfl,Iv⟩,
  ⟨yr,yr.binds λ_ _ _ _ _ _=>Ej λ_ _ _=>rfl,G1⟩,
  ⟨KZ,KZ.binds λ_ _ _ _ _ _=>qt λ_ _ _ _=>rfl,T5⟩,
  ⟨vV,vV.binds λ_ _ _ _ _ _=>Ej λ_ _ _=>rfl,Fv⟩,
  ⟨Ag,Ag.binds λ_ _ _ _ _ _=>FW λ_ _=>rfl,Iw⟩,
  ⟨nV,nV.binds λ_ _ _ _ _ _=>FW λ_ _=>rfl,yt⟩,
  ⟨vW,vW.binds λ_ _ _ _ _ _=>FW λ_ _=>rfl,Fw⟩,
  ⟨ve,ve.binds λ_ _ _ _ _ _=>FW λ_ _=>rfl,Eh⟩,
  ⟨yu,yu.binds λ_ _ _ _ _ _=>Ej λ_ _ _=>rfl,G2⟩,
  ⟨Fx,Fx.binds λ_ _ _ _ _ _=>Vk λ_=>rfl,Po⟩,
  ⟨Ah,Ah.binds λ_ _ _ _ _ _=>FW λ_ _=>rfl,Iz⟩,
  ⟨HX,HX.binds λ_ _ _ _ _ _=>FW λ_ _=>rfl,Rf⟩,
  ⟨Nl,Nl.binds λ_ _ _ _ _ _=>Vk λ_=>rfl,Xv⟩,
  ⟨Nm,Nm.binds λ_ _ _ _ _ _=>FW λ_ _=>rfl,Xw⟩,
  ⟨Np,Np.binds λ_ _ _ _ _ _=>Ej λ_ _ _=>rfl,Xx⟩,
  ⟨HY,HY.binds λ_ _ _ _ _ _=>Ej λ_ _ _=>rfl,Rg⟩,
  ⟨Rh,Rh.binds λ_ _ _ _ _ _=>Ej λ_ _ _=>rfl,Z9⟩,
  ⟨K0,K0.binds λ_ _ _ _ _ _=>Ej λ_ _ _=>rfl,T6⟩,
  ⟨K1,K1.binds λ_ _ _ _ _ _=>qt λ_ _ _ _=>rfl,T7⟩,
  ⟨n,n.binds λ_ _ _ _ _ _=>Ej λ_ _ _=>rfl,Y⟩,
  ⟨Ri,Ri.binds λ_ _ _ _ _ _=>el7 λ_ _ _ _ _ _ _=>rfl,N⟩,
  ⟨K2,K2.binds λ_ _ _ _ _ _=>Ej λ_ _ _=>rfl,T8⟩,
  ⟨BL,BL.binds λ_ _ _ _ _ _=>Vk λ_=>rfl,K3⟩,
  ⟨K4,K4.binds λ_ _ _ _ _ _=>FW λ_ _=>rfl,T9⟩,
  ⟨Nq,Nq.binds λ_ _ _ _ _ _=>el6 λ_ _ _ _ _ _=>rfl,Xy⟩,
  ⟨K5,K5.binds λ_ _ _ _ _ _=>Ej λ_ _ _=>rfl,Ua⟩,
  ⟨q,q.binds λ_ _ _ _ _ _=>Vk λ_=>rfl,y⟩,
  V.c,
  (dJ X G GO),
  qi,
  zE,
  F.c,
  (dJ X G Ky),
  se,
  Bx,
  S.c,
  (dJ X G Kz),
  sf,
  By,
  P.c,
  (dJ X G GP),
  qj,
  sj,
  xD,
  pK,
  sq,
  Z.c,
  (dJ X G O6),
  lQ,
  lR,
  zF,
  zG,
  E.c,
  (dJ X G DR),
  sr,
  nM,
  M.c,
  (dJ X G O7),
  zH,
  Q.c,
  (dJ X G TH),
  BB,
  uV,
  kZ,
  zI,
  zJ,
  xE,
  xF,
  uW,
  xG,
  (dJ X G uX),
  ⟨uY,u6.fn,u6.kp⟩,
  ⟨sy,sA.fn,sA.kp⟩,
  ⟨S.pH,KG,u.fn,S.kc⟩,
  ⟨qk,ql,qm,u.kp⟩,
  (dJ X G GZ),
  G0,
  (dJ X G Ec),
  Ed,
  (dJ X G xH),
  (dJ X G zK),
  (dJ X G zL),
  (dJ X G zM),
  (dJ X G uZ),
  (dJ X G zN),
  (λH=>.inr ⟨_,_,_,zO,rfl,rfl,aap,(.cons ⟨_,rfl⟩ (.cons ⟨_,rfl⟩ (.cons ⟨_,rfl⟩ .nil)))⟩),
  (cW X G Z2),
  (cW X G zP),
  (cW X G Z3),
  (cW X G TL),
  (cW X G TM),
  (cW X G Pc),
  (cW X G Pd),
  (cW X G BC),
  (cW X G Z4),
  (cW X G Z5),
  (cW X G Z6),
  (cW X G Z7),
  (cW X G Z8),
  (cW X G KH)⟩⟩
end eK
namespace eK
open PySem L2 TW PyProof.Rows
open RM (c7 jF br bh)
seal L2.PE L2.PA L2.PT L2.PW L2.PS L2.iP L2.PG L2.kg L2.PI L2.kh
theorem bD{K:ah}:(pX CX P w K mg base N qual scope f cd A outer s H E).K=K:=rfl
local macro_rules|`(tactic|left)=>`(tactic|try dsimp only[bD])
section
variable{P:Program}{w:World}{K:ah}{mg:Str->Option Value}{base:Heap}
inductive Vo(vs:List V)(H:Hp)(Q:VK)(E:XK):Prop
 |mk (i:Int):vs=[.int i]->Q (.bl true) H->Vo  vs H Q E
theorem Ub(T:Txt K mg t):cH P w K mg base iS 1 t.yf t.Ci ["_law_found"]  Vo:=by
 refine T.Nb.F.jK Tv λH Q E a h=>?_
 ·obtain⟨i,rfl,k⟩:=h
  refine⟨_,(oR (F0 (cB Jv T.pG boot_isinstance (k9 (pv 0) (Et rfl T.ZY boot_int (v:=.ty "int") rfl))) (Jh (Yx (cB Jv T.pG boot_isinstance (k9 (pv 0) (Et rfl T.afp boot_bool (v:=.ty "bool") rfl))))))),?_⟩
  left
  refine⟨_,rfl,_,_,_,_,rfl,.int _,rfl,_,rfl,dZ ?_⟩;refine⟨_,rfl,_,_,_,_,rfl,.int _,rfl,_,rfl,?_⟩;exact k
inductive aac(K:ah)(vs:List V)(H:Hp)(Q:VK)(E:XK):Prop
 |mk (a:Addr) (ns:List Int) (k:Int):vs=[.ref a,.int k]->bN K H a (ns.map V.int)->0<=k->Q (.int (ns.getD k.toNat 0)) H->aac K vs H Q E
theorem ir(T:Txt K mg t):cH P w K mg base iS 1 t.rm t.vO ["_law_script","_law_k"]  (aac K):=by
 refine T.iy.F.jK OP λH Q E g h=>?_
 ·obtain⟨a,ns,i,rfl,b,f,k⟩:=h
  refine⟨_,(au (b6 (qT nZ (pv 1) (lS T.fK (pv 0))) (oR (xL (pv 0) (pv 1))) bw) (oR aA)),?_⟩
  left
  refine⟨_,rfl,_,rfl,a,_,rfl,.inl b,_,_,rfl,rfl,_,rfl,?_⟩;refine jd (λc=>?_) (λc=>?_)
  ·have d:i<ns.length:=by simpa using c
   refine⟨_,rfl,_,rfl,a,_,_,_,rfl,rfl,b,Qi f d,k⟩
  ·have d:¬i<ns.length:=by simpa using c
   have e:ns.getD i.toNat 0=0:=by
    rw[ao,jH ∅];rfl
   rw[e] at k;exact k
inductive Vp(vs:List V)(H:Hp)(Q:VK)(E:XK):Prop
 |mk (n a b:Int):vs=[.int n,.int a,.int b]->0<=a->a<n->0<=b->b<n->a≠b->Q (.bl true) H->Vp  vs H Q E
theorem Pp(T:Txt K mg t):cH P w K mg base iS 1 t.qX t.vL ["size","one","other"]  Vp:=by
 refine T.HB.F.jK OM λH Q E i h=>?_
 ·obtain⟨n,a,b,rfl,d,c,e,f,g,k⟩:=h
  refine⟨_,(oR (F0 (P5 qP nZ aA (pv 1) (pv 0)) (F0 (P5 qP nZ aA (pv 2) (pv 0)) (Jh (qE vz (pv 1) (pv 2)))))),?_⟩
  left
  refine⟨_,rfl,_,_,rfl,rfl,_,rfl,?_⟩;rw[eH d];refine dZ ⟨_,rfl,_,_,rfl,rfl,_,rfl,?_⟩;rw[eH c];refine dZ ⟨_,rfl,_,_,rfl,rfl,_,rfl,?_⟩;rw[eH e];refine dZ ⟨_,rfl,_,_,rfl,rfl,_,rfl,?_⟩;rw[eH f];refine dZ ⟨_,rfl,_,rfl,rfl,?_⟩;rw[e8 (λz=>g (V.int.inj z))];exact k
inductive HZ(K:ah)(vs:List V)(H:Hp)(Q:VK)(E:XK):Prop
 |mk (n:Int) (p:Addr) (a b c d e:Int):vs=[.int n,.ref p]->cX K H p (ahW a b c d e)->Zo n a b c d e->Q .f9 H->HZ K vs H Q E
theorem Mv(T:Txt K mg t):cH P w K mg base iS 2 t.oM t.sP ["size","rope"]  (HZ K):=by
 refine T.E8.F.jK L5 λH Q E j h=>?_
 ·obtain⟨n,p,a,b,c,d,e,rfl,f,x,k⟩:=h
  obtain⟨s,q,o,i,l,y,u,m,r,g⟩:=x;refine⟨_,(au (b6 (qT vz (lS T.fK (pv 1)) aA) eN bw) (au (b6 (iQ (lN (cG (Pp T) j T.HB (IU (pv 0) (xT (pv 1) aA) (xT (pv 1) aA))))) eN bw) (au (b6 (qT nZ (xT (pv 1) aA) aA) eN bw) (au (b6 (iQ (jI qP qP aA (xT (pv 1) aA) (mQ rfl T.OW (v:=.int 4) ⟨_,rfl⟩))) eN bw) (bz (b6 (iQ (jI qP qP aA (xT (pv 1) aA) (mQ rfl T.OX (v:=.int 7) ⟨_,rfl⟩))) eN bw)))))),?_⟩
  left
  refine⟨_,rfl,p,_,rfl,.inr f,rfl,_,rfl,dh ?_⟩;refine⟨_,rfl,_,rfl,p,_,_,_,rfl,rfl,f,rfl,_,rfl,p,_,_,_,rfl,rfl,f,rfl,?_⟩;refine⟨_,_,_,rfl,s,q,o,i,l,_,rfl,dh ?_⟩;refine⟨_,rfl,p,_,_,_,rfl,rfl,f,rfl,_,_,rfl,rfl,_,rfl,?_⟩;rw[e8 (show ¬c<1 by lia)];refine dh ?_;refine⟨_,rfl,p,_,_,_,rfl,rfl,f,rfl,_,_,rfl,rfl,_,rfl,?_⟩;rw[eH u];refine dZ ?_;refine⟨_,_,rfl,rfl,_,rfl,?_⟩;rw[eH m];refine dh ?_;refine⟨_,rfl,p,_,_,_,rfl,rfl,f,rfl,_,_,rfl,rfl,_,rfl,?_⟩;rw[eH r];refine dZ ?_;refine⟨_,_,rfl,rfl,_,rfl,?_⟩;rw[eH g];refine dh ?_;exact k
inductive Fy(K:ah)(vs:List V)(H:Hp)(Q:VK)(E:XK):Prop
 |mk (n:Int) (l:Addr) (rs:List R5):vs=[.int n,.ref l]->JA K H l rs->rs.length<=20->(∀r∈rs,r.Ok n)->Q .f9 H->Fy K vs H Q E
theorem K6(T:Txt K mg t):cH P w K mg base iS 3 t.mF t.qG ["size","ropes"]  (Fy K):=by
 refine T.CN.F.jK AU λH Q E q h=>?_
 ·obtain⟨n,l,g,rfl,x,B,z,k⟩:=h
  obtain⟨f,d,A,s⟩:=x.at;refine⟨_,(au (b6 (qT P4 (lS T.fK (pv 1)) (mQ rfl T.OV (v:=.int 20) ⟨_,rfl⟩)) eN bw) (bz (fS (fE (pv 1)) (gT 2 AU) (oE (cG (Mv T) q T.E8 (k9 (pv 0) (pv 2))))))),?_⟩
  left
  refine⟨_,rfl,l,_,rfl,.inl d,_,_,rfl,rfl,_,rfl,?_⟩;rw[e8 (show ¬(20:Int)<f.length by lia)];refine dh ?_;refine⟨_,rfl,l,rfl,⟨_,d⟩,tM (K:=K) (a:=l) (xs:=f) (λi b c=>c=H/\∃v,b=[some (.int n),some (.ref l),v]) ⟨rfl,_,rfl⟩ (λi b c _ ⟨e,_⟩=>by rw[e];exact d) ?_ ?_⟩
  ·rintro i y b c m ⟨rfl,v,rfl⟩
   have u:i<f.length:=(ai.mp m).1;have j:g[i]?=some g[i]:=-_
   obtain⟨p,o,r⟩:=s i _ j;rw[m] at o;cases o;refine⟨_,rfl,_,rfl,n,p,_,_,_,_,_,rfl,r,z _ (aC j),rfl,_,rfl⟩
  ·rintro b c ⟨rfl,v,rfl⟩
   exact k
inductive FA(K:ah)(vs:List V)(H:Hp)(Q:VK)(E:XK):Prop
 |mk (l:Addr) (ns:List Int):vs=[.ref l]->bN K H l (ns.map V.int)->1<=ns.length->ns.length<=10->(∀n∈ns,0<=n)->ns.Nodup->(∀H',aG H H'->Q .f9 H')->FA K vs H Q E
theorem K7(T:Txt K mg t):cH P w K mg base iS 1 t.mE t.qF ["names"]  (FA K):=by
 refine T.CM.F.jK J2 λH Q E n h=>?_
 ·obtain⟨l,ns,rfl,a,r,q,e,c,k⟩:=h
  refine⟨_,(au (b6 (iQ (jI qP qP aA (lS T.fK (pv 0)) (mQ rfl T.Me (v:=.int 10) ⟨_,rfl⟩))) eN bw) (au (b6 (qT nZ (cB (WB rfl) T.adE boot_min (gE (pv 0))) aA) eN bw) (bz (b6 (qT vz (cB WA T.fK PySem.boot_len (gE (fQ (Wz rfl) (by rfl) T.aie boot_set (gE (pv 0))))) (lS T.fK (pv 0))) eN bw)))),?_⟩
  left
  refine⟨_,rfl,l,_,rfl,.inl a,_,_,rfl,rfl,_,rfl,?_⟩;rw[eH (show (1:Int)<=(ns.map V.int).length by rw[af];lia)];refine dZ ?_;refine⟨_,_,rfl,rfl,_,rfl,?_⟩;rw[eH (show ((ns.map V.int).length:Int)<=10 by rw[af];lia)];refine dh ?_;refine⟨_,rfl,l,ns,rfl,a,∅,λm g d=>?_⟩;refine⟨_,_,rfl,rfl,_,rfl,?_⟩;rw[e8 (show ¬m<0 by have:=e m g;lia)];refine dh ?_;refine⟨_,rfl,l,ns,rfl,a,bU (show ns.length+1<100 by lia) (!_),λp b=>?_⟩;have j:=aG.new (o:=.set (λf=>(firstMet (λi=>ns.getD i 0) ns.length).any (·==f)) (firstMet (λi=>ns.getD i 0) ns.length).length) b;refine⟨p,_,_,rfl,ay,_,rfl,l,_,rfl,.inl (j.seq a),rfl,_,rfl,?_⟩;rw[JB ns c,af];simp only[decide_true,Bool.not_true];refine dh ?_;exact k _ (aG.new b)
inductive aad(K:ah)(C:Addr)(vs:List V)(H:Hp)(Q:VK)(E:XK):Prop
 |mk (p dx l1 l2:Addr) (ns:List Int) (rs:List R5):vs=[.ref p,.ref l1,.ref l2]->H p=some (.ins C dx [])->bN K H l1 (ns.map V.int)->JA K H l2 rs->1<=ns.length->ns.length<=10->(∀n∈ns,0<=n)->ns.Nodup->rs.length<=20->(∀r∈rs,r.Ok ns.length)->(∀ln lr H',H ln=none->H lr=none->dM K C H' p ln lr ns rs->(∀b o,H b=some o->b≠p->H' b=some o)->Q .f9 H')->aad K C vs H Q E
theorem K8(T:Txt K mg t):cH P w K mg base iS 4 t.mD t.qD ["self","names","ropes"]  (aad K t.bA):=by
 refine T.CL.F.jK J1 λH Q E hr h=>?_
 ·obtain⟨p,g,y,z,ns,rs,rfl,hp,X,hR,h1,h2,h3,h4,h5,h6,k⟩:=h
  refine⟨_,(au (fD (cG (K7 T) hr T.CM (gE (pv 1)))) (au (fD (cG (K6 T) hr T.CN (k9 (lS T.fK (pv 1)) (pv 2)))) (au (gC (pv 0) (fQ ic (by rfl) T.rV boot_list (gE (pv 1))) rfl) (au (gC (pv 0) (fQ ic (by rfl) T.rV boot_list (gE (pv 2))) rfl) (au (gC (pv 0) (lS T.fK (pv 1)) rfl) (bz (gC (pv 0) (lS T.fK (pv 2)) rfl))))))),?_⟩
  left
  refine⟨_,rfl,y,ns,rfl,X,h1,h2,h3,h4,λH1 r=>?_⟩;refine⟨_,rfl,y,_,rfl,.inl (r.seq X),?_⟩;refine⟨_,rfl,(ns.length:Int),z,rs,-_,hR.mono r,h5,h6,?_⟩;have d:=r _ _ hp;have hR1:=hR.mono r;have I:=r.seq X;obtain⟨_,i,e,hq,Yl⟩:=id hR1;cases e;refine⟨_,rfl,y,_,rfl,.inl I,λc N=>?_⟩;have l:p≠c:=aQ d N;have s2:=aG.new (o:=.lst (ns.map V.int)) N;refine⟨_,rfl,p,_,g,[],rfl,s2 _ _ d,T.f6,T.uK,!_,?_⟩;rw[d9 (names:=[]) rfl rfl];generalize m:upd (upd H1 c (.lst (ns.map V.int))) p (.ins t.bA g ([]++[(Str.ofString "house_names",V.ref c)]))=H2;have C:∀b o,H1 b=some o->b≠p->H2 b=some o:=λb o e a=>by rw[<- m,aO a];exact s2 _ _ e
  have f:H2 p=some (.ins t.bA g [(Str.ofString "house_names",V.ref c)]):=by rw[<- m];exact ay
  have O:H2 c=some (.lst (ns.map V.int)):=by rw[<- m,aO (bO l),ay]
  have fr2:∀{b:Addr},H1 b=none->b≠p->b≠c->H2 b=none:=λ{b} e n1 n2=>by rw[<- m,aO n1,aO n2];exact e
  have hL2:bN K H2 y (ns.map V.int):=BZ (λb o e a=>C b o e a) d I;have A:bN K H2 z i:=BZ (λb o e a=>C b o e a) d hq;have Z:dO K H2 (rs.map R5.D) i:=kI (λb o e a=>C b o e a) d Yl;refine⟨_,rfl,z,_,rfl,.inl A,λj v=>?_⟩;have n:p≠j:=aQ f v;have s3:=aG.new (o:=.lst i) v;refine⟨_,rfl,p,_,g,_,rfl,s3 _ _ f,T.f6,T.iL,(by show 1<1000;decide),?_⟩;rw[d9 (names:=["house_names"]) rfl (by decide +kernel)];generalize x:upd (upd H2 j (.lst i)) p (.ins t.bA g ([(Str.ofString "house_names",V.ref c)]++[(Str.ofString "rope_tuples",V.ref j)]))=H3;have G:∀b o,H2 b=some o->b≠p->H3 b=some o:=λb o e a=>by rw[<- x,aO a];exact s3 _ _ e
  have s:H3 p=some (.ins t.bA g [(Str.ofString "house_names",V.ref c),(Str.ofString "rope_tuples",V.ref j)]):=by rw[<- x];exact ay
  have M:H3 j=some (.lst i):=by rw[<- x,aO (bO n),ay]
  have hn3:=G _ _ O (bO l);have hL3:bN K H3 y (ns.map V.int):=BZ G f hL2;have S:bN K H3 z i:=BZ G f A;have Y:dO K H3 (rs.map R5.D) i:=kI G f Z;refine⟨_,rfl,y,_,rfl,.inl hL3,_,rfl,p,_,g,_,rfl,s,T.f6,T.nU,(by show 2<1000;decide),?_⟩;rw[d9 (names:=["house_names","rope_tuples"]) rfl (by decide +kernel)];generalize B:upd H3 p (.ins t.bA g ([(Str.ofString "house_names",V.ref c),(Str.ofString "rope_tuples",V.ref j)]++[(Str.ofString "size",V.int ((ns.map V.int).length:Nat))]))=H4;have J:∀b o,H3 b=some o->b≠p->H4 b=some o:=λb o e a=>by rw[<- B,aO a];exact e
  have Ym:H4 p=some (.ins t.bA g [(Str.ofString "house_names",V.ref c),(Str.ofString "rope_tuples",V.ref j),(Str.ofString "size",V.int ((ns.map V.int).length:Nat))]):=by rw[<- B];exact ay
  have R:bN K H4 z i:=BZ J s S;have U:dO K H4 (rs.map R5.D) i:=kI J s Y;refine⟨_,rfl,z,_,rfl,.inl R,_,rfl,p,_,g,_,rfl,Ym,T.f6,T.vR,(by show 3<1000;decide),?_⟩;rw[d9 (names:=["house_names","rope_tuples","size"]) rfl (by decide +kernel)];have L:∀b o,H4 b=some o->b≠p->∀u,(upd H4 p u) b=some o:=λb o e a u=>by rw[aO a];exact e
  have W:i.length=rs.length:=by rw[Yl.length,af]
  refine k c j _ (r.free N) ?_ ⟨⟨g,?_⟩,?_,i,?_,kI (λb o e a=>L b o e a _) Ym U⟩ ?_
  ·cases q:H j with
   |none=>rfl
   |some o =>
    have:=C j o (r _ _ q) (λe=>n e.symm)
    rw[v] at this;cases this
  ·rw[ay,W,af]
   rfl
  ·exact L _ _ (J _ _ hn3 (bO l)) (bO l) _
  ·exact L _ _ (J _ _ M (bO n)) (bO n) _
  ·exact λb o e a=>L _ _ (J _ _ (G _ _ (C _ _ (r _ _ e) a) a) a) a _
inductive aae(K:ah)(C:Addr)(vs:List V)(H:Hp)(Q:VK)(E:XK):Prop
 |mk (p ln lr:Addr) (ns:List Int) (rs:List R5) (i:Nat) (n:Int):vs=[.ref p,.int i]->dM K C H p ln lr ns rs->ns[i]?=some n->Q (.int n) H->aae K C vs H Q E
theorem Pq(T:Txt K mg t):cH P w K mg base iS 1 t.qU t.vI ["self","house"]  (aae K t.bA):=by
 refine T.HA.F.jK OI λH Q E l h=>?_
 ·obtain⟨p,b,m,o,j,i,n,rfl,e,c,k⟩:=h
  obtain⟨⟨d,f⟩,g,q,a,r⟩:=id e;refine⟨_,(oR (xL (bq (pv 0) rfl) (pv 1))),?_⟩
  left
  refine⟨_,rfl,p,_,d,_,_,rfl,f,T.f6,T.uK,rfl,_,rfl,b,_,_,_,rfl,rfl,bN.of g,c5 (v:=V.int n) (by rw[ak,c];rfl),k⟩
inductive aaf(K:ah)(C:Addr)(vs:List V)(H:Hp)(Q:VK)(E:XK):Prop
 |mk (p ln lr:Addr) (ns:List Int) (rs:List R5) (i:Nat) (r:R5):vs=[.ref p,.int i]->dM K C H p ln lr ns rs->rs[i]?=some r->(∀q,H q=some (.tup r.vs)∨cX K H q r.vs->Q (.ref q) H)->aaf K C vs H Q E
theorem FD(T:Txt K mg t):cH P w K mg base iS 1 t.qV t.vJ ["self","number"]  (aaf K t.bA):=by
 refine T.A7.F.jK OJ λH Q E u h=>?_
 ·obtain⟨p,x,g,ns,s,i,r,rfl,l,f,k⟩:=h
  obtain⟨⟨j,n⟩,z,y,a,m⟩:=id l;obtain⟨v,b,o⟩:=m.get (i:=i) (d:=r.D) (by rw[ak,f];rfl);obtain⟨q,e,c⟩:=Rep.AB (ns:=r.ns) o;subst e;refine⟨_,(oR (xL (bq (pv 0) rfl) (pv 1))),?_⟩
  left
  exact⟨_,rfl,p,_,j,_,_,rfl,n,T.f6,T.iL,rfl,_,rfl,g,_,_,_,rfl,rfl,bN.of a,c5 b,k q (.inr c)⟩
inductive adK(K:ah)(C:Addr)(vs:List V)(H:Hp)(Q:VK)(E:XK):Prop
 |mk (p ln lr:Addr) (ns:List Int) (rs:List R5) (i:Nat) (r:R5) (h:Int):vs=[.ref p,.int i,.int h]->dM K C H p ln lr ns rs->rs[i]?=some r->Q (.int (if h=r.a then r.b else r.a)) H->adK K C vs H Q E
theorem sC(T:Txt K mg t):cH P w K mg base iS 1 t.kQ t.oY ["self","rope","house"]  (adK K t.bA):=by
 refine T.pC.F.jK zW λH Q E A h=>?_
 ·obtain⟨p,B,m,ns,z,i,r,x,rfl,o,l,k⟩:=h
  obtain⟨⟨n,u⟩,G,C,b,s⟩:=id o;obtain⟨v,j,y⟩:=s.get (i:=i) (d:=r.D) (by rw[ak,l];rfl);obtain⟨q,e,f⟩:=Rep.AB (ns:=r.ns) y;subst e;refine⟨_,(au (sS 3 zW (xL (bq (pv 0) rfl) (pv 1))) (oR (xR (qT i6 (pv 2) (xT (pv 3) aA)) (xT (pv 3) aA) (xT (pv 3) aA)))),?_⟩
  left
  refine⟨_,rfl,p,_,n,_,_,rfl,u,T.f6,T.iL,rfl,_,rfl,m,_,_,_,rfl,rfl,bN.of b,c5 j,?_⟩;refine⟨_,rfl,_,rfl,q,_,_,_,rfl,rfl,f,rfl,rfl,_,rfl,?_⟩;refine jd (λc=>?_) (λc=>?_)
  ·have g:x=r.a:=by simpa using c
   rw[aq g] at k;exact⟨_,rfl,q,_,_,_,rfl,rfl,f,rfl,k⟩
  ·have g:¬x=r.a:=by simpa using c
   rw[b3 g] at k;exact⟨_,rfl,q,_,_,_,rfl,rfl,f,rfl,k⟩
inductive aik(K:ah)(C:Addr)(vs:List V)(H:Hp)(Q:VK)(E:XK):Prop
 |mk (p ln lr:Addr) (ns:List Int) (rs:List R5) (h:Int):vs=[.ref p,.int h]->dM K C H p ln lr ns rs->rs.length<=20->(∀l H',aG H H'->H l=none->H' l=some (.lst (bF (Yj rs h rs.length)))->Q (.ref l) H')->aik K C vs H Q E
theorem qu(T:Txt K mg t):cH P w K mg base iS 1 t.jL t.mW ["self","house"]  (aik K t.bA):=by
 refine T.m7.F.jK x8 λH Q E hr h=>?_
 ·obtain⟨p,ln,lr,ns,rs,x,rfl,hT,vq,k⟩:=h
  obtain⟨⟨dx,hp⟩,hn,B,g,R⟩:=id hT;have J:B.length=rs.length:=by rw[R.length,af]
  refine⟨_,(oR (gO (kO x8 ["number","rope","house"] [none,none,some 1]) rfl (UX rfl T.HF (gE (bq (pv 0) rfl))) (λ_ _ _ _=>by exact (UY K rfl (n:=2) rfl (qO (gS 0 sH) (qO (gS 1 sH) IJ)))) (λ_ _ _ _=>by exact (ly (i7 (tR K rfl) (pv 2) (fY (k9 (yT K (pv 1) aA) (yT K (pv 1) aA))) (by with_unfolding_all rfl)))) (λ_ _ _ _=>by exact (pv 0)))),?_⟩
  left
  refine⟨_,rfl,p,_,dx,_,_,rfl,hp,T.f6,T.iL,rfl,lr,B,rfl,bN.of g,λj f=>?_⟩;refine gf (n:=B.length) (λi r _=>r=bF (Yj rs x i)) f (Zi (bN.of g)) (Qh (bN.of g)) rfl ?_ ?_
  ·rintro i r A O l C m y H3 ⟨q,v,G,rfl,rfl,Z⟩
   have L:=Z B (l.seq (bN.of g));have N:rs[i]?=some rs[i]:=-_
   obtain⟨v',z,hD⟩:=R.get (i:=i) (d:=(rs[i]).D) (by rw[ak,N];rfl);rw[L] at z;cases z;obtain⟨b,e,X⟩:=Rep.AB (ns:=(rs[i]).ns) hD;subst e;have u:=(l.out (o:=.tup [.int (i:Nat),.ref b]) (l.free G)).cz X;have Y:j≠q:=aQ C G;refine⟨q,_,rfl,cX.of ay,rfl,_,_,rfl,_,_,rfl,rfl,?_⟩;refine⟨_,rfl,_,rfl,b,_,_,_,rfl,rfl,u,rfl,_,rfl,b,_,_,_,rfl,rfl,u,rfl,fy,λc W=>?_⟩;refine⟨c,_,rfl,.inr (cX.of ay),rfl,rfl,_,rfl,?_⟩;have eb:Ge (V.int x) [V.int rs[i].a,V.int rs[i].b]=isAt rs x i:=by
    unfold isAt;rw[N];exact ae6 _ _ _
   have U:=l.out (o:=.tup [.int (i:Nat),.ref b]) (l.free G);have M:=U.out (o:=.tup [V.int rs[i].a,V.int rs[i].b]) (U.free W);have s:(upd (upd A q (HO.tup [V.int (i:Nat),V.ref b])) c (HO.tup [V.int rs[i].a,V.int rs[i].b])) j=some (.lst r):=by
    have S:(upd A q (HO.tup [V.int (i:Nat),V.ref b])) j=some (.lst r):=by rw[aO Y];exact C
    rw[aO (aQ S W)];exact S
   try dsimp only
   rw[b3 aI,eb];have hl:r.length<sizeLine:=by rw[m,af];exact bX (aN (abH rs x i) ∅) (b4 (az _))
   refine jd (λI=>?_) (λI=>?_)
   ·exact⟨_,rfl,dY f O M s hl (by rw[m,Qq,aq I,iC])⟩
   ·exact gp O M s (by rw[m,Qq,b3 I,bQ])
  ·intro r A l C m
   rw[J] at m;exact k j A l f (by rw[C,m])
inductive Rj(K:ah)(C:Addr)(vs:List V)(H:Hp)(Q:VK)(E:XK):Prop
 |mk (p ln lr:Addr) (ns:List Int) (rs:List R5) (i:Nat) (n:Int):vs=[.ref p,.int i]->dM K C H p ln lr ns rs->ns[i]?=some n->(∀q H',aG H H'->cX K H' q (c7 ⟨n,0,0,-1⟩)->Q (.ref q) H')->Rj K C vs H Q E
theorem K9(T:Txt K mg t):cH P w K mg base iS 2 t.yc t.Ce ["town","house"]  (Rj K t.bA):=by
 refine T.GK.F.jK Tu λH Q E c h=>?_
 ·obtain⟨p,e,g,j,b,i,n,rfl,a,f,k⟩:=h
  obtain⟨⟨l,m⟩,_,_,_⟩:=id a;refine⟨_,(oR (fY (ry (cM (pv 0) T.f6 T.HA (Pq T) c (gE (pv 1))) aA aA lM))),?_⟩
  left
  refine⟨_,rfl,p,l,_,rfl,m,rfl,_,rfl,p,e,g,j,b,i,n,rfl,a,f,aau,λq d=>?_⟩;exact k q _ (aG.new d) (cX.of ay)
inductive Vq(K:ah)(C:Addr)(vs:List V)(H:Hp)(Q:VK)(E:XK):Prop
 |mk (p ln lr:Addr) (ns:List Int) (rs:List R5) (i:Nat) (x:R5) (a:Addr) (r:RM.Row):vs=[.ref p,.ref a,.int i]->dM K C H p ln lr ns rs->rs[i]?=some x->cX K H a (c7 r)->(¬r.ho+1<ns.length->∀H',aG H H'->Q .f9 H')->(r.ho+1<ns.length->∀q H',aG H H'->cX K H' q (c7 ⟨r.hd,r.co+x.c,r.ho+1,i⟩)->Q (.ref q) H')->Vq K C vs H Q E
theorem Rk(T:Txt K mg t):cH P w K mg base iS 2 t.EZ t.IW ["town","row","rope"]  (Vq K t.bA):=by
 refine T.OU.F.jK QK λH Q E m h=>?_
 ·obtain⟨p,v,B,ns,k,i,x,a,r,rfl,g,y,b,o,n⟩:=h
  obtain⟨⟨f,j⟩,_,_,_⟩:=id g;refine⟨_,(au (sS 3 QK (aY fH (xT (pv 1) aA) aA)) (au (b6 (qT ahs (pv 3) (bq (pv 0) rfl)) (oR lM) bw) (oR (fY (ry (xT (pv 1) aA) (aY fH (xT (pv 1) aA) (xT (cM (pv 0) T.f6 T.A7 (FD T) m (gE (pv 2))) aA)) (pv 3) (pv 2)))))),?_⟩
  left
  refine⟨_,rfl,a,_,_,_,rfl,rfl,b,rfl,_,_,rfl,rfl,?_⟩;refine⟨_,rfl,_,rfl,p,_,f,_,_,rfl,j,T.f6,T.nU,rfl,_,_,rfl,rfl,_,rfl,?_⟩;refine jd (λe=>?_) (λe=>?_)
  ·have A:(ns.length:Int)<=r.ho+1:=gh e
   exact o ∅ _ (aG.refl _)
  ·have A:¬(ns.length:Int)<=r.ho+1:=of_decide_eq_false (eq_false_of_ne_true e)
   refine⟨_,rfl,a,_,_,_,rfl,rfl,b,rfl,_,rfl,a,_,_,_,rfl,rfl,b,rfl,_,rfl,p,f,_,rfl,j,rfl,_,rfl,p,v,B,ns,k,i,x,rfl,g,y,λq s=>?_⟩;have d:cX K H q x.vs:=s.elim (λz=>cX.of z) id;refine⟨q,_,_,_,rfl,rfl,d,rfl,_,_,rfl,rfl,_,rfl,_,rfl,aau,λu l=>?_⟩;refine n ∅ u _ (aG.new l) (cX.of ?_);rw[ay];show some (HO.tup [.int r.hd,.int (r.co+x.c),.int (r.ho+1),.int (i:Int)])=some (HO.tup [.int r.hd,.int (r.co+x.c),.int (r.ho+1),jF (i:Int)]);rw[bh ∅]
inductive adL(K:ah)(C:Addr)(vs:List V)(H:Hp)(Q:VK)(E:XK):Prop
 |mk (p ln lr c b:Addr) (ns:List Int) (rs:List R5) (live:List Nat) (nd:ns.Nodup) (ok:∀r∈rs,r.Ok ns.length) (hl:∀k∈live,k<rs.length) (R:Nat->RM.Row) (h:Nat):vs=[.ref p,.ref c,.ref b,.int h]->dM K C H p ln lr ns rs->bN K H c (bF live)->yK K H b ns.length R->h<ns.length->rs.length<=20->RM.Sane (aR ns rs live nd ok hl) R->(∀q d H',aG H H'->cX K H' q (c7 d)->RM.xW (N:=aR ns rs live nd ok hl) ns.length R h d->Q (.ref q) H')->adL K C vs H Q E
theorem afu(T:Txt K mg t):cH P w K mg base iS 3 t.QU t.Vh ["town","live","rows","house"]  (adL K t.bA):=by
 refine T.adB.F.jK JZ λH Q E hr h=>?_
 ·obtain⟨p,ln,lr,c,b,ns,rs,e,n,i,m,R,x,rfl,hT,hC,hR,hx,vq,LX,k⟩:=h
  obtain⟨⟨dx,hp⟩,_,_,_⟩:=id hT;obtain⟨ps,hP,ePs,ab0⟩:=hR;have enm:(aR ns rs e n i m).nm x=ns[x]:=by show ns.getD x 0=_;simp[ao,hx]
  refine⟨_,(au (sS 4 JZ (cG (K9 T) hr T.GK (k9 (pv 0) (pv 3)))) (au (fS (fE (cM (pv 0) T.f6 T.m7 (qu T) hr (gE (pv 3)))) (gT 5 JZ) (bz (b6 (i7 pY (pv 5) (pv 1) (by with_unfolding_all rfl)) (au (sS 6 JZ (cG (Rk T) hr T.OU (IU (pv 0) (xL (pv 2) (cM (pv 0) T.f6 T.pC (sC T) hr (k9 (pv 5) (pv 3)))) (pv 5)))) (bz (b6 (PW.pt (Ar (qT IK (pv 6) lM) (yG (qT (ae4 (Nat.lt_of_succ_lt (CD hr))) (qQ Jp (pv 6) EB (mR aA)) (qQ Jp (pv 4) EB (mR aA)))))) (bz (sS 4 JZ (pv 6))) bw))) bw))) (oR (pv 4)))),?_⟩
  left
  refine⟨_,rfl,_,rfl,p,ln,lr,ns,rs,x,ns[x],rfl,hT,aa hx,λp0 H0 s0 hp0=>?_⟩;have hown:cX K H0 p0 (c7 (RM.own (aR ns rs e n i m) x)):=by unfold RM.own;rw[enm];exact hp0
  refine⟨_,rfl,p,dx,_,rfl,s0 _ _ hp,rfl,_,rfl,p,ln,lr,ns,rs,x,rfl,hT.mono s0,vq,λl H1 s1 UW W=>?_⟩;have s01:=s0.trans s1;refine⟨l,rfl,⟨_,bN.of W⟩,?_⟩;generalize O:Yj rs (x:Int) rs.length=v at W;refine tM (K:=K) (a:=l) (xs:=bF v) (λj σ H2=>aG H1 H2/\∃(q:Addr) (d:RM.Row) (v5 v6:Option V),σ=[some (.ref p),some (.ref c),some (.ref b),some (.int x),some (.ref q),v5,v6]/\cX K H2 q (c7 d) /\
   (d=RM.own (aR ns rs e n i m) x∨∃f g,f∈v.take j/\RM.Dm (aR ns rs e n i m) f x g/\(R g).ho+1<ns.length/\d=RM.over (aR ns rs e n i m) f (R g))/\RM.le d (RM.own (aR ns rs e n i m) x) /\
   ∀f g,f∈v.take j->RM.Dm (aR ns rs e n i m) f x g->(R g).ho+1<ns.length->RM.le d (RM.over (aR ns rs e n i m) f (R g)))
   ⟨aG.refl _,p0,RM.own (aR ns rs e n i m) x,_,_,rfl,s1.cz hown,.inl rfl,RM.le_refl _,λf g he=>by simp at he⟩ (λj σ H2 _ z=>bN.of (z.1 _ _ W)) ?_ ?_
  ·rintro j y σ H2 hj ⟨s2,q,d,v5,v6,rfl,hq,d1,d2,U⟩
   have J:j<v.length:=by
    have:=(ai.mp hj).1
    rw[af] at this;exact this
   rw[ak,aa J] at hj;cases hj;have et:v.take (j+1)=v.take j++[v[j]]:=by rw[List.take_add_one,aa J];rfl
   have X:v[j]∈v:=aH J;have adM:∀A∈v.take j,A<v[j]:=λA s=>abI (O▸Zq rs (x:Int) rs.length) J s;have G:(d=RM.own (aR ns rs e n i m) x∨∃f g,f∈v.take j++[v[j]]/\RM.Dm (aR ns rs e n i m) f x g/\(R g).ho+1<ns.length/\d=RM.over (aR ns rs e n i m) f (R g)):=d1.imp id λ⟨a1,a2,a3,a4⟩=>⟨a1,a2,bY _ a3,a4⟩;rw[et];show iO 5 (V.int ((v[j]:Nat):Int)) _ _ _;generalize v[j]=f at X adM G;rw[<- O,Ca] at X;obtain⟨Hv,hat⟩:=X;have B:=s01.trans s2;refine⟨_,rfl,_,rfl,c,_,rfl,.inl (B.seq hC),rfl,je e,_,rfl,?_⟩
   try dsimp only
   rw[b3 aI,om];refine jd (λN=>?_) (λN=>?_)
   case refine_2 =>
    have N:f∉e:=λz=>N (eH z);refine⟨s2,q,d,_,_,rfl,hq,G,d2,λA g s lZ Y=>?_⟩;rcases aU.mp s with z|z
    ·exact U A g z lZ Y
    ·rw[aS.mp z] at lZ
     exact cy lZ.1 N
   have N:f∈e:=gh N;have Z:rs[f]?=some rs[f]:=aa Hv;have lZ:RM.Dm (aR ns rs e n i m) f x (gD rs[f] x):=(vA N).mpr ⟨hat,rfl⟩;have hgn:gD rs[f] x<ns.length:=lZ.lt.2.1;have hgs:=LX _ hgn;have aah:(if (x:Int)=rs[f].a then rs[f].b else rs[f].a)=((gD rs[f] x:Nat):Int):=by
    have o:=i _ (aH Hv);have h1:=o.a0;have h2:=o.b0;unfold gD;split <;> lia
   have aai:(aR ns rs e n i m).c f=rs[f].c:=by show ((rs[f]?).map λr=>r.c).getD 0=_;rw[Z];rfl
   have fu:∀g,RM.Dm (aR ns rs e n i m) f x g->g=gD rs[f] x:=λg a=>((vA N).mp a).2;generalize gD rs[f] x=g at lZ hgn hgs aah fu;have hpg:ps[g]?=some ps[g]:=aa ∅;have afv:Aw (ps.map V.ref) (if (x:Int)=rs[f].a then rs[f].b else rs[f].a)=some (.ref ps[g]):=by rw[aah];exact c5 (by rw[ak,hpg];rfl)
   have hrg:=B.cz (ab0 g _ hpg);refine⟨_,rfl,_,rfl,_,rfl,p,dx,_,rfl,B _ _ hp,rfl,_,rfl,_,rfl,p,ln,lr,ns,rs,f,rs[f],x,rfl,hT.mono B,Z,b,_,_,_,rfl,rfl,B.seq hP,afv,_,rfl,?_⟩;refine⟨p,ln,lr,ns,rs,f,rs[f],ps[g],R g,rfl,hT.mono B,Z,hrg,λY H3 s3=>?_,λY u H3 s3 hu=>?_⟩
   ·refine⟨_,rfl,rfl,_,rfl,dh (dh ?_)⟩
    refine⟨s2.trans s3,q,d,_,_,rfl,s3.cz hq,G,d2,λA I s C S=>?_⟩;rcases aU.mp s with z|z
    ·exact U A I z C S
    ·rw[aS.mp z] at C
     rw[fu I C] at S;exact cy S Y
   have eov:(⟨(R g).hd,(R g).co+rs[f].c,(R g).ho+1,f⟩:RM.Row)=RM.over (aR ns rs e n i m) f (R g):=by unfold RM.over;rw[aai]
   rw[eov] at hu;have L:=s3.cz hq;have M:=s2.trans s3;refine⟨_,rfl,rfl,_,rfl,dZ ?_⟩;have lex:Jz [V.int (RM.over (aR ns rs e n i m) f (R g)).hd,V.int (RM.over (aR ns rs e n i m) f (R g)).co,V.int (RM.over (aR ns rs e n i m) f (R g)).ho] [V.int d.hd,V.int d.co,V.int d.ho] (decide (RM.lt (RM.over (aR ns rs e n i m) f (R g)) d)):=RM.abB (by
    rcases d1 with z|⟨A,I,s,_,_,z⟩
    ·rw[z]
     intro _ _ e3
     have:(R g).ho+1=0:=e3
     lia
    ·have hlt':=adM A s
     rw[z];intro e1 e2 e3 e4;rcases e4 with e4|⟨_,e4|⟨_,e4|⟨_,e4⟩⟩⟩
     ·lia
     ·lia
     ·lia
     ·have:((f:Nat):Int)<((A:Nat):Int):=e4
      lia)
   have nw:∀r:RM.Row,¬(HT.lX (c7 r).length 0 none=0/\HT.lX (c7 r).length (c7 r).length (some 3)=(c7 r).length):=λr z=>cy z.2 (by show HT.lX 4 4 (some 3)≠4;decide);have ct:∀r:RM.Row,Av (c7 r) none (some 3)=[V.int r.hd,V.int r.co,V.int r.ho]:=λr=>rfl;refine⟨_,rfl,_,rfl,u,_,rfl,hu,nw _,λz1 hz1=>?_⟩;rw[ct];have t1:=aG.new (o:=.tup [V.int (RM.over (aR ns rs e n i m) f (R g)).hd,V.int (RM.over (aR ns rs e n i m) f (R g)).co,V.int (RM.over (aR ns rs e n i m) f (R g)).ho]) hz1;refine⟨_,rfl,_,rfl,q,_,rfl,t1.cz L,nw _,λz2 hz2=>?_⟩;rw[ct];have t2:=aG.new (o:=.tup [V.int d.hd,V.int d.co,V.int d.ho]) hz2;have M:=M.trans (t1.trans t2);have hu:=(t1.trans t2).cz hu;have L:=(t1.trans t2).cz L;refine⟨z1,z2,_,_,_,rfl,rfl,cX.of (t2 _ _ ay),cX.of ay,rfl,lex,_,rfl,?_⟩;by_cases D:RM.lt (RM.over (aR ns rs e n i m) f (R g)) d
   ·rw[eH D]
    refine dZ ?_;refine⟨_,rfl,M,u,_,_,_,rfl,hu,.inr ⟨f,g,bP _ (aS.mpr rfl),lZ,Y,rfl⟩,RM.le_trans (RM.adq D) d2,λA I s C S=>?_⟩;rcases aU.mp s with z|z
    ·exact RM.le_trans (RM.adq D) (U A I z C S)
    ·rw[aS.mp z] at C ⊢
     rw[fu I C];exact RM.le_refl _
   ·rw[e8 D]
    refine dh ⟨M,q,d,_,_,rfl,L,G,d2,λA I s C S=>?_⟩;rcases aU.mp s with z|z
    ·exact U A I z C S
    ·rw[aS.mp z] at C ⊢
     rw[fu I C];exact D
  ·rintro σ H2 ⟨s2,q,d,v5,v6,rfl,hq,d1,d2,U⟩
   rw[af,ng (az _)] at U;refine⟨_,rfl,k q d H2 (s01.trans s2) hq ⟨d1.imp id λ⟨a1,a2,_,a4⟩=>⟨a1,a2,a4⟩,d2,λf g lZ Y=>U f g ?_ lZ Y⟩⟩;rw[<- O,Ca];exact⟨m f lZ.1,((vA lZ.1).mp lZ).1⟩
inductive aaj(K:ah)(C:Addr)(vs:List V)(H:Hp)(Q:VK)(E:XK):Prop
 |mk (p ln lr c b:Addr) (ns:List Int) (rs:List R5) (live:List Nat) (nd:ns.Nodup) (ok:∀r∈rs,r.Ok ns.length) (hl:∀k∈live,k<rs.length) (R:Nat->RM.Row) (h:Nat):vs=[.ref p,.ref c,.ref b,.int h]->dM K C H p ln lr ns rs->bN K H c (bF live)->yK K H b ns.length R->h<ns.length->rs.length<=20->wB ns.length rs.length R->(∀v H',aG H H'->wC K H' v (tU (aR ns rs live nd ok hl) R h)->Q v H')->aaj K C vs H Q E
theorem aak(T:Txt K mg t):cH P w K mg base iS 3 t.E1 t.IY ["town","live","rows","house"]  (aaj K t.bA):=by
 refine T.Vj.F.jK J0 λH Q E C h=>?_
 ·obtain⟨p,Y,S,c,b,ns,rs,live,nd,ok,s,R,i,rfl,N,hC,hRw,hin,vq,fit,k⟩:=h
  obtain⟨⟨dx,hp⟩,_,_,_⟩:=id N;obtain⟨o,M,ePs,J⟩:=id hRw;have y:o[i]?=some o[i]:=aa ∅;have x:Aw (o.map V.ref) (i:Int)=some (.ref o[i]):=c5 (by rw[ak,y];rfl);have WO:=J i _ y;have fi:=fit i hin;refine⟨_,(au (sS 4 J0 (xT (xL (pv 2) (pv 3)) aA)) (au (b6 (PW.pt (CB (i7 n9 (pv 4) (pv 1) (by with_unfolding_all rfl)) (De (i7 n9 (pv 4) (cM (pv 0) T.f6 T.m7 (qu T) C (gE (pv 3))) (by with_unfolding_all rfl))))) (oR lM) bw) (au (sS 5 J0 (cM (pv 0) T.f6 T.pC (sC T) C (k9 (pv 4) (pv 3)))) (au (b6 (qT Gf (cG (Rk T) C T.OU (IU (pv 0) (xL (pv 2) (pv 5)) (pv 4))) (xL (pv 2) (pv 3))) (oR lM) bw) (oR (fY (k9 (pv 4) (pv 5)))))))),?_⟩
  left
  refine⟨_,rfl,_,rfl,lO M x (ie WO rfl ?_)⟩;have f:∀{H3:Hp},aG H H3->(∀k g,¬RM.kH (aR ns rs live nd ok s) R k i g)->Q .f9 H3:=λs3 no=>k .f9 _ s3 (by rw[Qt no];rfl);show iO 4 (jF (R i).by_) _ _ _;rcases fi.by_ with O|⟨b0,b1⟩
  ·rw[show jF (R i).by_=V.f9 by rw[O];rfl]
   refine⟨_,rfl,_,rfl,c,_,rfl,.inl hC,rfl,je live,_,rfl,?_⟩
   try dsimp only
   rw[aq rfl,abK];refine dZ (dZ (f (aG.refl _) λn g t=>?_))
   have:=t.by
   lia
  obtain⟨d,ekk⟩:∃d:Nat,(R i).by_=(d:Int):=⟨(R i).by_.toNat,∅⟩;have B:d<rs.length:=∅
  rw[show jF (R i).by_=V.int (d:Nat) by rw[ekk,bh ∅]];have q:∀n g,RM.kH (aR ns rs live nd ok s) R n i g->n=d:=λn g t=>by have:=t.by;lia
  refine⟨_,rfl,_,rfl,c,_,rfl,.inl hC,rfl,je live,_,rfl,?_⟩
  try dsimp only
  rw[aq rfl,om];by_cases A:d∈live
  case neg =>
   rw[e8 A];refine dZ (dZ (f (aG.refl _) λn g t=>?_))
   have:=q n g t
   subst this;exact A t.lZ.1
  rw[eH A];refine dh ?_;refine⟨_,rfl,_,rfl,p,dx,_,rfl,hp,rfl,_,rfl,p,Y,S,ns,rs,i,rfl,N,vq,λl H1 v UW W=>?_⟩;refine⟨l,_,rfl,.inl (bN.of W),rfl,je _,_,rfl,?_⟩
  try dsimp only
  rw[aq rfl,om];by_cases m:d∈Yj rs (i:Int) rs.length
  case neg =>
   rw[e8 m];refine dZ (f v λn g t=>?_)
   have:=q n g t
   subst this;exact m (Ca.mpr ⟨B,((vA A).mp t.lZ).1⟩)
  rw[eH m];refine dh ?_;have m:=(Ca.mp m).2;have I:rs[d]?=some rs[d]:=aa B;have G:=U8 (h:=i) B ok;have X:gD rs[d] i<ns.length:=S5 B ok;have D:=Zu (ns:=ns) (rs:=rs) (live:=live) (nd:=nd) (ok:=ok) (hl:=s) (R:=R) (h:=i) A;have Z:=ahX (ns:=ns) (live:=live) (nd:=nd) (ok:=ok) (hl:=s) B;have r:∀g,RM.kH (aR ns rs live nd ok s) R d i g->g=gD rs[d] i:=λg t=>ae8 t;refine⟨_,rfl,p,dx,_,rfl,v _ _ hp,rfl,_,rfl,_,rfl,p,Y,S,ns,rs,d,rs[d],i,rfl,N.mono v,I,?_⟩;show iO 5 (V.int (if (i:Int)=rs[d].a then rs[d].b else rs[d].a)) _ _ _;rw[G];generalize gD rs[d] i=g at G X D r;have L:o[g]?=some o[g]:=aa ∅;have afv:Aw (o.map V.ref) (g:Int)=some (.ref o[g]):=c5 (by rw[ak,L];rfl);refine⟨_,rfl,_,rfl,_,rfl,lO (v.seq M) afv ⟨_,rfl,p,Y,S,ns,rs,d,rs[d],o[g],R g,rfl,N.mono v,I,v.cz (J g _ L),λLa H2 s2=>?_,λLa u H2 s2 hu=>?_⟩⟩
  ·have j:=v.trans s2
   refine⟨_,rfl,_,rfl,lO (j.seq M) x ⟨.none,RM.Gh (R i),rfl,RM.AE (j.cz WO),rfl,RM.AF _,bX (dB (aN (i9 _ _) (!_)) _) C.units,_,rfl,?_⟩⟩;refine dZ (f j λn z t=>?_);have e1:=q n z t;subst e1;have e2:=r z t;subst e2;exact La t.cut
  ·have j:=v.trans s2
   have eov:(⟨(R g).hd,(R g).co+rs[d].c,(R g).ho+1,d⟩:RM.Row)=RM.over (aR ns rs live nd ok s) d (R g):=by unfold RM.over;rw[Z]
   rw[eov] at hu;refine⟨_,rfl,_,rfl,lO (j.seq M) x ⟨RM.Gh (RM.over (aR ns rs live nd ok s) d (R g)),RM.Gh (R i),RM.AE hu,RM.AE (j.cz WO),RM.AF _,RM.AF _,bX (dB (aN (i9 _ _) (by rw[RM.MU];decide)) _) C.units,_,rfl,?_⟩⟩;rw[RM.Qp (show (-1:Int)<=(d:Nat) by lia) fi.by1];by_cases e:RM.over (aR ns rs live nd ok s) d (R g)=R i
   case neg =>
    rw[e8 e];refine dZ (f j λn z t=>?_);have e1:=q n z t;subst e1;have e2:=r z t;subst e2;exact e t.eq.symm
   rw[eH e];refine dh ?_;have hh:RM.kH (aR ns rs live nd ok s) R d i g:=by
    obtain⟨g2,t⟩:=D.mpr ⟨m,La,e.symm⟩
    have:=r g2 t
    subst this;exact t
   refine⟨_,rfl,_,rfl,fy,λo2 U=>?_⟩;exact k (.ref o2) _ (j.trans (aG.new U)) (by rw[nP.mpr hh];exact⟨o2,rfl,cX.of ay⟩)
inductive adN(K:ah)(C:Addr)(vs:List V)(H:Hp)(Q:VK)(E:XK):Prop
 |mk (p ln lr c b:Addr) (ns:List Int) (rs:List R5) (live:List Nat) (nd:ns.Nodup) (ok:∀r∈rs,r.Ok ns.length) (hl:∀k∈live,k<rs.length) (R:Nat->RM.Row):vs=[.ref p,.ref c,.ref b]->dM K C H p ln lr ns rs->bN K H c (bF live)->yK K H b ns.length R->ns.length<=12->rs.length<=20->wB ns.length rs.length R->(∀l H',aG H H'->H l=none->ae7 K H' l ns.length (tU (aR ns rs live nd ok hl) R)->Q (.ref l) H')->adN K C vs H Q E
theorem afz(T:Txt K mg t):cH P w K mg base iS 4 t.QV t.Vi ["town","live","rows"]  (adN K t.bA):=by
 refine T.adC.F.jK ZU λH Q E L h=>?_
 ·obtain⟨p,N,V,c,b,ns,A,d,C,G,D,R,rfl,B,I,u,J,X,s,k⟩:=h
  obtain⟨⟨W,Y⟩,_,_,_⟩:=id B;refine⟨_,(oR (gO (kO ZU ["house","live","rows","town"] [none,some 1,some 2,some 0]) rfl (fz rfl T.ig (gE (bq (pv 0) rfl))) (λ_ _ _ _=>by exact (gS 0 Xl)) (λ_ _ _ _=>by exact mS) (λ_ _ _ _=>by exact (cG (aak T) L T.Vj (ry (pv 3) (pv 1) (pv 2) (pv 0)))))),?_⟩
  left
  refine⟨_,rfl,p,_,W,_,_,rfl,Y,T.f6,T.nU,rfl,(ns.length:Int),rfl,∅,∅,λy a=>?_⟩;refine gf (n:=((ns.length:Int)).toNat) (λi l o=>l.length=i/\∀(j:Nat) v,l[j]?=some v->wC K o v (tU (aR ns A d C G D) R j)) a AD qR ⟨rfl,λj v e=>by simp at e⟩ ?_ ?_
  ·rintro i l o S g q ⟨r,f⟩ x H3 ⟨rfl,rfl⟩
   refine⟨_,rfl,_,rfl,_,rfl,_,rfl,p,N,V,c,b,ns,A,d,C,G,D,R,i,by rw[dw];rfl,B.mono g,g.seq I,u.mono g,∅,X,s,λv Z m M=>?_⟩;refine dY a S (g.trans m) (m _ _ q) (by rw[r];exact b4 ∅) ⟨by rw[aB,r];rfl,λj w e=>?_⟩;refine wC.lst (m _ _ q) ?_;rcases ER e with z|⟨O,U⟩
   ·exact (f j w z).mono m
   ·rw[O,U,r];exact M
  rintro l o g q ⟨r,f⟩;exact k y o g a ⟨l,q,∅,f⟩
inductive Vr(K:ah)(C:Addr)(vs:List V)(H:Hp)(Q:VK)(E:XK):Prop
 |mk (p ln lr c b:Addr) (ns:List Int) (rs:List R5) (live:List Nat) (nd:ns.Nodup) (ok:∀r∈rs,r.Ok ns.length) (hl:∀k∈live,k<rs.length) (R:Nat->RM.Row):vs=[.ref p,.ref c,.ref b]->dM K C H p ln lr ns rs->bN K H c (bF live)->yK K H b ns.length R->ns.length<=12->rs.length<=20->wB ns.length rs.length R->(∀l os H',aG H H'->H l=none->H' l=some (.lst (bF os))->fk (aR ns rs live nd ok hl) R os->os.length<=12->Q (.ref l) H')->Vr K C vs H Q E
theorem Rl(T:Txt K mg t):cH P w K mg base iS 5 t.yY t.IX ["town","live","rows"]  (Vr K t.bA):=by
 refine T.E7.F.jK QL λH Q E hr h=>?_
 ·obtain⟨p,ln,lr,c,b,ns,S,a,L,O,X,R,rfl,hT,hC,V,I,vq,U,k⟩:=h
  refine⟨_,(oR (cB AG T.Bb boot_sorted (gE (gO (kO QL ["up"] [none]) rfl (fE (cG (afz T) hr T.adC (IU (pv 0) (pv 1) (pv 2)))) (λ_ _ _ _=>by exact (gS 0 QM)) (λ_ _ _ _=>by exact (ly (qT IK (pv 0) lM))) (λ_ _ _ _=>by exact (yT K (pv 0) aA)))))),?_⟩
  left
  refine⟨_,rfl,_,rfl,_,rfl,p,ln,lr,c,b,ns,S,a,L,O,X,R,rfl,hT,hC,V,I,vq,U,λlu H2 s2 aqL hO=>?_⟩;obtain⟨Y,d,evs,J⟩:=hO;refine⟨lu,rfl,⟨_,bN.of d⟩,λW j=>?_⟩;refine gf (n:=Y.length) (λi M _=>∃f:List Nat,M=bF f/\f.length<=i/\f.Nodup/\∀k,k∈f↔∃h g,h<i/\RM.kH (aR ns S a L O X) R k h g) j (wA (bN.of d)) (lY (bN.of d)) ⟨[],rfl,aX _,jY,λk=>⟨λz=>cy z (-_),λ⟨_,_,z,_⟩=>cy z (ko _)⟩⟩ ?_ ?_
  ·rintro i M H3 D r C ⟨f,rfl,e1,G,u⟩ y H4 ⟨rfl,hv⟩
   have A:=hv _ (r.seq (bN.of d));rw[aa D] at A;cases A;have o:=(J i _ (aa D)).mono r;generalize Y[i]=v at o;cases x:tU (aR ns S a L O X) R i with
   |none =>
    rw[x] at o;have o:v=.f9:=o;subst o;refine⟨_,rfl,rfl,_,rfl,dh ?_⟩;refine gp D r C ⟨f,rfl,∅,G,λk=>(u k).trans ⟨λ⟨h,g,z,t⟩=>⟨h,g,∅,t⟩,λ⟨h,g,z,t⟩=>⟨h,g,?_,t⟩⟩⟩;by_cases e:h=i
    ·subst e
     rw[nP.mpr t] at x;cases x
    ·lia
   |some q =>
    rw[x] at o;obtain⟨t1,rfl,ht⟩:=o;have m:=(nP (k:=q.1) (g:=q.2)).mp x;refine⟨_,rfl,rfl,_,rfl,dZ ?_⟩;refine⟨_,rfl,t1,_,0,_,rfl,rfl,ht,rfl,?_⟩;refine dY j D r C (by rw[af];exact b4 ∅) ⟨f++[q.1],by rw[iC],by rw[aB];exact gG e1 1,Gr.Dl G λz=>?_,λk=>?_⟩
    ·obtain⟨h,g,z1,t⟩:=(u _).mp z
     have:=(t.one m).1
     lia
    ·rw[aU,aS,u]
     constructor
     ·rintro (⟨h,g,z,t⟩|rfl)
      ·exact⟨h,g,∅,t⟩
      ·exact⟨i,q.2,∅,m⟩
     ·rintro⟨h,g,z,t⟩
      by_cases e:h=i
      ·subst e
       exact .inr (t.uniq m).1
      ·exact .inl ⟨h,g,∅,t⟩
  rintro M H3 r C ⟨f,rfl,e1,G,u⟩;refine⟨W,f.map λk:Nat=>(k:Int),rfl,bN.of (by rw[C,fL]),by rw[af];lia,λl ms Z s pw=>?_⟩;obtain⟨os,N,o1,o2,o3⟩:=Qu s pw G;rw[N];have B:=s2.trans r;refine k l os _ (B.trans (aG.new Z)) (B.free Z) ay ⟨o1,λk=>?_⟩ ∅;rw[o2,u];constructor
  ·rintro⟨h,g,_,t⟩;exact⟨h,g,t⟩
  ·rintro⟨h,g,t⟩
   have:h<ns.length:=(kH.lt t).1
   exact⟨h,g,∅,t⟩
theorem Nr{xs:List Nat}{i:Nat}(a:i<xs.length):(xs.take (i+1)).filter p=(xs.take i).filter p++if p xs[i] then [xs[i]] else []:=by
 rw[dF a,gB];congr 1;cases e:p xs[i]
 ·rw[b3 (!_),cS (by rw[e];decide)];rfl
 ·rw[aq rfl,cR e];rfl
inductive Rm(K:ah)(C:Addr)(vs:List V)(H:Hp)(Q:VK)(E:XK):Prop
 |mk (p ln lr c b:Addr) (ns:List Int) (rs:List R5) (live:List Nat) (nd:ns.Nodup) (ok:∀r∈rs,r.Ok ns.length) (hl:∀k∈live,k<rs.length) (R:Nat->RM.Row) (h:Int):vs=[.ref p,.ref c,.ref b,.int h]->dM K C H p ln lr ns rs->bN K H c (bF live)->yK K H b ns.length R->ns.length<=12->rs.length<=20->wB ns.length rs.length R->(∀l os H',aG H H'->H l=none->H' l=some (.lst (bF (os.filter (isAt rs h))))->fk (aR ns rs live nd ok hl) R os->os.length<=12->Q (.ref l) H')->Rm K C vs H Q E
theorem Uc(T:Txt K mg t):cH P w K mg base iS 6 t.yd t.Cf ["town","live","rows","house"]  (Rm K t.bA):=by
 refine T.M9.F.jK DG λH Q E O h=>?_
 ·obtain⟨p,S,U,c,b,V,rs,j,nd,ok,X,R,x,rfl,I,Y,A,s,W,u,k⟩:=h
  refine⟨_,(au (sS 4 DG (cM (pv 0) T.f6 T.m7 (qu T) O (gE (pv 3)))) (oR (gO (kO DG ["rope","joined"] [none,some 4]) rfl (fE (Ey (Rl T) (O.mono (!_)) rfl T.Ba T.E7.F.kp T.E7.B .nil jv (IU (pv 0) (pv 1) (pv 2)))) (λ_ _ _ _=>by exact (gS 0 L4)) (λ_ _ _ _=>by exact (ly (i7 (tR K rfl) (pv 0) (pv 1) (by with_unfolding_all rfl)))) (λ_ _ _ _=>by exact (pv 0))))),?_⟩
  left
  obtain⟨⟨dx,hp⟩,_⟩:=id I;refine⟨_,rfl,p,dx,_,rfl,hp,rfl,_,rfl,p,S,U,V,rs,x,rfl,I,W,λlj H1 l aqO Z=>?_⟩;refine⟨_,rfl,_,rfl,_,rfl,p,S,U,c,b,V,rs,j,nd,ok,X,R,rfl,I.mono l,l.seq Y,A.mono l,s,W,u,λlo os H2 C afB d m L=>?_⟩;have v:=C _ _ Z;have D:∀k∈os,decide (k∈Yj rs x rs.length)=isAt rs x k:=λk hk=>by
   obtain⟨h,g,t⟩:=(m.2 k).mp hk;have M:k<rs.length:=X k t.lZ.1;by_cases z:isAt rs x k=true
   ·rw[z];exact eH (Ca.mpr ⟨M,z⟩)
   ·rw[Bool.not_eq_true] at z
    rw[z];refine e8 λy=>?_;rw[(Ca.mp y).2] at z;cases z
  refine⟨lo,rfl,⟨_,bN.of d⟩,λJ a=>?_⟩;refine gf (n:=(bF os).length) (λi G _=>G=bF ((os.take i).filter (isAt rs x))) a (wA (bN.of d)) (lY (bN.of d)) rfl ?_ ?_
  ·rintro i G H3 r f o rfl y H4 ⟨rfl,q⟩
   have q:=q _ (f.seq (bN.of d));have e:i<os.length:=by rw[af] at r;exact r
   rw[ak,aa e] at q;cases q;refine⟨_,rfl,_,rfl,lj,_,rfl,.inl (bN.of (f _ _ v)),rfl,je _,_,rfl,?_⟩
   try dsimp only
   rw[b3 aI,om,D _ (aH e)];refine jd (λN=>?_) (λN=>?_)
   ·refine⟨_,rfl,?_⟩
    refine dY a r f o ?_ ?_
    ·rw[af]
     refine b4 (aN (bx _ _) ?_);rw[cu];lia
    ·rw[Nr e,aq N,iC]
   ·refine gp r f o ?_
    rw[Nr e,b3 N,bQ]
  ·rintro G H3 f o rfl
   rw[af,gJ] at o;have Xz:=(l.trans C).trans f;exact k J os _ Xz ((l.trans C).free a) o m L
inductive aam(K:ah)(C:Addr)(vs:List V)(H:Hp)(Q:VK)(E:XK):Prop
 |mk (p ln lr:Addr) (ns:List Int) (rs:List R5) (i:Nat) (r:R5) (g:Nat) (z:Int):vs=[.ref p,.int i,.int g]->dM K C H p ln lr ns rs->rs[i]?=some r->([1,2,4]:List Int)[g]?=some z->Q (.bl (!decide (Builtin.bitAnd r.e z=0))) H->aam K C vs H Q E
theorem FE(T:Txt K mg t):cH P w K mg base iS 1 t.qW t.vK ["self","rope","group"]  (aam K t.bA):=by
 refine T.A8.F.jK OL λH Q E A h=>?_
 ·obtain⟨p,B,j,ns,y,i,r,g,z,rfl,m,f,n,k⟩:=h
  obtain⟨⟨l,s⟩,G,C,a,o⟩:=id m;obtain⟨v,b,u⟩:=o.get (i:=i) (d:=r.D) (by rw[ak,f];rfl);obtain⟨q,e,c⟩:=Rep.AB (ns:=r.ns) u;subst e;refine⟨_,(oR (qE vz (aY YJ (xT (xL (bq (pv 0) rfl) (pv 1)) aA) (xT (mQ rfl T.lI (v:=.ref t.fh) rfl) (pv 2))) aA)),?_⟩
  left
  refine⟨_,rfl,p,_,l,_,_,rfl,s,T.f6,T.iL,rfl,_,rfl,j,_,_,_,rfl,rfl,bN.of a,c5 b,?_⟩;refine⟨q,_,_,_,rfl,rfl,c,rfl,?_⟩;have x:([.int 1,.int 2,.int 4]:List V)[g]?=some (.int z):=by
   have e:([.int 1,.int 2,.int 4]:List V)=([1,2,4]:List Int).map V.int:=rfl;rw[e,ak,n];rfl
  refine⟨_,rfl,_,_,_,_,rfl,rfl,T.gz H,c5 x,_,_,rfl,rfl,rfl,?_⟩;have e:decide (V.int (Builtin.bitAnd r.e z)=V.int 0)=decide (Builtin.bitAnd r.e z=0):=-_
  rw[e];exact k
inductive Nt(K:ah)(C:Addr)(vs:List V)(H:Hp)(Q:VK)(E:XK):Prop
 |mk (p ln lr:Addr) (ns:List Int) (rs:List R5) (i:Nat) (r:R5):vs=[.ref p,.int i]->dM K C H p ln lr ns rs->rs[i]?=some r->Q (.int r.d) H->Nt K C vs H Q E
theorem Ia(T:Txt K mg t):cH P w K mg base iS 2 t.uq t.y9 ["town","rope"]  (Nt K t.bA):=by
 refine T.DL.F.jK QN λH Q E d h=>?_
 ·obtain⟨p,e,g,j,c,i,r,rfl,b,f,k⟩:=h
  obtain⟨⟨l,m⟩,_⟩:=id b;refine⟨_,(oR (xT (cM (pv 0) T.f6 T.A7 (FD T) d (gE (pv 1))) aA)),?_⟩
  left
  refine⟨_,rfl,p,l,_,rfl,m,rfl,_,rfl,p,e,g,j,c,i,r,rfl,b,f,λq a=>?_⟩;have a:cX K H q r.vs:=a.elim cX.of id;exact⟨q,_,_,_,rfl,rfl,a,rfl,k⟩
inductive Lc(K:ah)(CT C NW:Addr)(vs:List V)(H:Hp)(Q:VK)(E:XK):Prop
 |mk (p tp lu ln lr:Addr) (ns:List Int) (rs:List R5) (ws:List (List Nat)) (i:Int):vs=[.ref p,.int i]->dM K CT H tp ln lr ns rs->vC C H p tp lu ws->ws.length=rs.length->(∀(j:Nat) w l H',i=(j:Int)->ws[j]?=some w->aG H H'->H l=none->H' l=some (.lst (bF w))->Q (.ref l) H')->(¬(0<=i/\i<rs.length)->E (.ref NW) none H)->Lc K CT C NW vs H Q E
theorem lT(T:Txt K mg t):cH P w K mg base (FT P w) 1 t.iH t.jx ["self","rope"]  (Lc K t.bA t.dc t.yj):=by
 refine T.fq.F.Xj Cw λH Q E v h=>?_
 ·obtain⟨p,D,x,I,L,M,rs,f,i,rfl,B,A,J,k,s⟩:=h
  obtain⟨⟨q,r⟩,a,C,u,d⟩:=id A;obtain⟨⟨y,c⟩,_⟩:=id B;refine⟨_,(au (b6 (iQ (jI qP nZ aA (pv 1) (bq (bq (pv 0) rfl) rfl))) (bz (EK rfl T.Kn T.Ko v.hd gm)) bw) (oR (fQ ic (by rfl) T.rV boot_list (gE (xL (bq (pv 0) rfl) (pv 1)))))),?_⟩
  left
  refine⟨_,rfl,_,_,rfl,rfl,_,rfl,?_⟩;by_cases m:0<=i
  case neg =>
   rw[e8 m];exact dh ⟨_,rfl,dZ (s λz=>m z.1)⟩
  rw[eH m];refine dZ ?_;refine⟨_,rfl,p,_,q,_,_,rfl,r,T.eS,T.kX,rfl,D,_,y,_,_,rfl,c,T.f6,T.vR,rfl,_,_,rfl,rfl,_,rfl,?_⟩;by_cases g:i<(rs.length:Int)
  case neg =>
   rw[e8 g];exact dZ (s λz=>g z.2)
  rw[eH g];refine dh ?_;obtain⟨j,rfl⟩:∃j:Nat,i=(j:Int):=⟨i.toNat,∅⟩;have G:j<f.length:=∅
  have b:f[j]?=some f[j]:=aa G;have n:a[j]?=some a[j]:=aa ∅;have e:Aw (a.map V.ref) (j:Int)=some (.ref a[j]):=c5 (by rw[ak,n];rfl);refine⟨_,rfl,p,_,q,_,_,rfl,r,T.eS,T.gR,rfl,_,rfl,x,_,_,_,rfl,rfl,bN.of C,e,a[j],_,rfl,.inl (bN.of (d j _ _ n b)),λl o=>?_⟩;exact k j _ l _ rfl b (aG.new o) o ay
inductive Vs(K:ah)(CT C NW:Addr)(vs:List V)(H:Hp)(Q:VK)(E:XK):Prop
 |mk (p tp lu ln lr:Addr) (ns:List Int) (rs:List R5) (ws:List (List Nat)) (i x:Int):vs=[.ref p,.int i,.int x]->dM K CT H tp ln lr ns rs->vC C H p tp lu ws->ws.length=rs.length->(∀w∈ws,w.length<=4)->(∀(j k:Nat) w (ls:List Addr) (q:Addr) H',i=(j:Int)->x=(k:Int)->ws[j]?=some w->k∈w->H lu=some (.lst (ls.map V.ref))->H q=none->H' q=some (.lst (bF (w.filter λz=>decide (z≠k))))->H' lu=some (.lst ((ls.map V.ref).set j (.ref q)))->(∀b o,H b=some o->b≠lu->H' b=some o)->Q (.bl (w.filter λz=>decide (z≠k)).isEmpty) H')->(¬(0<=i/\i<rs.length)->E (.ref NW) none H)->(∀(j:Nat) w H',i=(j:Int)->ws[j]?=some w->(∀k∈w,x≠(k:Nat))->aG H H'->E (.ref NW) none H')->Vs K CT C NW vs H Q E
theorem IA(T:Txt K mg t):cH P w K mg base (FT P w) 2 t.kR t.oZ ["self","rope","wire"]  (Vs K t.bA t.dc t.yj):=by
 refine T.uF.F.Xj rQ λH Q E X h=>?_
 ·obtain⟨p,tp,C,ln,lr,ns,rs,ws,i,x,rfl,hT,Y,ew,h4,k,kx,ky⟩:=h
  obtain⟨⟨dx,hp⟩,U,LY,els,hls⟩:=id Y;refine⟨_,(au (sS 3 rQ (lg (pv 0) T.eS T.fq.m (lT T) (X.mono (!_)) T.fq.B .nil U0 (gE (pv 1)))) (au (b6 (i7 n9 (pv 2) (pv 3) (by with_unfolding_all rfl)) (bz (EK rfl T.Kn T.Ko X.hd gm)) bw) (au (Au (gO (kO rQ ["each","wire"] [none,some 2]) rfl (fE (pv 3)) (λ_ _ _ _=>by exact (gS 0 DH)) (λ_ _ _ _=>by exact (ly (qT vz (pv 0) (pv 1)))) (λ_ _ _ _=>by exact (pv 0))) (Ga (bq (pv 0) rfl) (pv 1) set_list)) (oR (qE wz (xL (bq (pv 0) rfl) (pv 1)) (gV fX)))))),?_⟩
  left
  refine⟨_,rfl,p,dx,_,rfl,hp,rfl,_,rfl,p,tp,C,ln,lr,ns,rs,ws,i,rfl,hT,Y,ew,λj c l H1 ej R s1 UW hl=>?_,kx⟩;subst ej;have hjl:=(ai.mp R).1;have w4:=h4 _ (aC R);refine⟨_,rfl,_,rfl,l,_,rfl,.inl (bN.of hl),rfl,je c,_,rfl,?_⟩
  try dsimp only
  rw[aq rfl,fL,tS];by_cases O:x∈c.map λk:Nat=>(k:Int)
  case neg =>
   rw[e8 O];exact dZ (ky j c H1 rfl R (λz D e=>O (aL.mpr ⟨z,D,e.symm⟩)) s1)
  rw[eH O];refine dh ?_;obtain⟨g,hkk,rfl⟩:=aL.mp O;refine⟨_,rfl,l,rfl,⟨_,bN.of hl⟩,λd f=>?_⟩;have hC:=bN.of (K:=K) hl;refine gf (n:=(bF c).length) (λi ys _=>ys=bF ((c.take i).filter λz=>decide (z≠g))) f (wA hC) (lY hC) rfl ?_ ?_
  ·rintro i ys H2 S I v rfl y N ⟨rfl,W⟩
   have W:=W _ (I.seq hC);have hi':i<c.length:=by rw[af] at S;exact S
   have J:c[i]?=some c[i]:=aa hi';rw[ak,J] at W;cases W;refine⟨_,rfl,_,rfl,rfl,_,rfl,?_⟩;have et:c.take (i+1)=c.take i++[c[i]]:=by rw[List.take_add_one,J];rfl
   by_cases D:c[i]=g
   ·have e1:decide (V.int (c[i]:Nat)=V.int (g:Nat))=true:=eH (by rw[D])
    rw[e1];refine dh (gp S I v ?_);rw[et,gB,D];simp
   ·have e1:decide (V.int (c[i]:Nat)=V.int (g:Nat))=false:=e8 λq=>D (by have:=V.int.inj q;lia)
    rw[e1];refine dZ ⟨_,rfl,dY f S I v ?_ ?_⟩
    ·rw[af]
     have:=bx (λz=>decide (z≠g)) (c.take i)
     rw[cu] at this;exact b4 ∅
    ·rw[et,gB,<- iC]
     simp[D]
  ·rintro ys H2 I v rfl
   rw[af,gJ] at v;have s:=s1.trans I;have A:=s _ _ LY;have Z:=s _ _ hp;have Ud:j<U.length:=∅
   refine⟨_,rfl,p,_,dx,_,_,rfl,Z,T.eS,T.gR,rfl,_,rfl,C,_,_,j,rfl,rfl,A,(by rw[af];exact yM Ud),?_⟩;have hW2:=Y.mono s;generalize L:upd H2 C (.lst ((U.map V.ref).set j (.ref d)))=N;have k3:∀b o,H2 b=some o->b≠C->N b=some o:=λb o e nb=>by rw[<- L,aO nb];exact e
   have u:N C=some (.lst ((U.map V.ref).set j (.ref d))):=by rw[<- L];exact ay
   have hW3:=hW2.put A v hjl k3 u;have G:N d=some (.lst (bF (c.filter λz=>decide (z≠g)))):=k3 _ _ v (pU v A λz=>xX (aa Ud) (HO.lst.inj z));obtain⟨⟨Pw,hp3⟩,_⟩:=id hW3;refine⟨_,rfl,p,_,Pw,_,_,rfl,hp3,T.eS,T.gR,rfl,_,rfl,C,_,_,V.ref d,rfl,rfl,bN.of u,c5 (by rw[bZ,aq rfl,aq (by rw[af];exact Ud)]),aX _,λq hq=>?_⟩;have M:=aG.new (o:=.lst []) hq;refine⟨.list (((c.filter λz=>decide (z≠g)).map λk:Nat=>(k:Int)).map .int),.list [],⟨d,_,rfl,bN.of (M _ _ G),(by rw[fL];exact iw _)⟩,⟨q,_,rfl,bN.of ay,rfl⟩,iD _,rfl,bX (dB (aN (Nat.min_le_right _ _) (!_)) _) X.units,?_⟩;have z:=k j g c U d _ rfl rfl R hkk LY (s1.free f) (M _ _ G) (M _ _ u) (λb o e nb=>M _ _ (k3 _ _ (s _ _ e) nb));cases e:c.filter λz=>decide (z≠g) with
   |nil=>rw[e] at z;exact z
   |cons a r=>rw[e] at z;exact z
inductive Vt(NG:Addr)(vs:List V)(H:Hp)(Q:VK)(E:XK):Prop
 |mk (g:Int):vs=[.int g]->(0<=g/\g<3->Q .f9 H)->(¬(0<=g/\g<3)->E (.ref NG) none H)->Vt NG vs H Q E
theorem BN(T:Txt K mg t):cH P w K mg base (FT P w) 1 t.mH t.qI ["group"]  (Vt t.Cn):=by
 refine T.i0.F.Xj J3 λH Q E d h=>?_
 ·obtain⟨g,rfl,k,c⟩:=h
  refine⟨_,(bz (b6 (iQ (jI qP nZ aA (pv 0) (lS T.fK (mQ rfl T.lI (v:=.ref t.fh) rfl)))) (bz (EK rfl T.Xo T.Xp d.hd gm)) bw)),?_⟩
  left
  refine⟨_,rfl,_,_,rfl,rfl,_,rfl,?_⟩;by_cases b:0<=g
  case neg =>
   rw[e8 b];exact dh ⟨_,rfl,dZ (c λz=>b z.1)⟩
  rw[eH b];refine dZ ?_;refine⟨_,_,rfl,.inr (T.gz H),_,_,rfl,rfl,_,rfl,?_⟩;by_cases a:g<3
  case neg =>
   have e:decide (g<((([.int 1,.int 2,.int 4]:List V).length:Nat):Int))=false:=e8 a;rw[e];exact dZ (c λz=>a z.2)
  have e:decide (g<((([.int 1,.int 2,.int 4]:List V).length:Nat):Int))=true:=eH a;rw[e];exact dh (k ⟨b,a⟩)
inductive aao(K:ah)(CT C NG:Addr)(vs:List V)(H:Hp)(Q:VK)(E:XK):Prop
 |mk (p tp lu ln lr:Addr) (ns:List Int) (rs:List R5) (ws:List (List Nat)) (g:Int):vs=[.ref p,.int g]->dM K CT H tp ln lr ns rs->vC C H p tp lu ws->ws.length=rs.length->rs.length<=20->(∀r∈rs,1<=r.e/\r.e<=7)->(∀(gg:Nat) l H',g=(gg:Int)->gg<3->aG H H'->H l=none->H' l=some (.lst (bF (pZ rs ws gg rs.length)))->Q (.ref l) H')->(¬(0<=g/\g<3)->E (.ref NG) none H)->aao K CT C NG vs H Q E
theorem IB(T:Txt K mg t):cH P w K mg base (FT P w) 2 t.kT t.o8 ["self","group"]  (aao K t.bA t.dc t.Cn):=by
 refine T.uG.F.Xj zX λH Q E M h=>?_
 ·obtain⟨p,u,X,Y,lr,ns,rs,d,g,rfl,O,hW,ew,vq,he,k,kx⟩:=h
  obtain⟨⟨I,L⟩,v,LY,W,D⟩:=id hW;obtain⟨⟨N,l⟩,_⟩:=id O;refine⟨_,(au (fD (Ey (BN T) (M.mono (!_)) rfl T.i0.g T.i0.F.kp T.i0.B .nil U0 (gE (pv 1)))) (oR (gO (kO zX ["rope","group","self"] [none,some 1,some 0]) rfl (fz rfl T.ig (gE (bq (bq (pv 0) rfl) rfl))) (λ_ _ _ _=>by exact (gS 0 DI)) (λ_ _ _ _=>by exact (ly (PW.pt (Ar (WV K rfl (yL K (IP K rfl (pv 2) rfl) (pv 0)) (λ_=>rfl)) (yG (lN (cM (IP K rfl (pv 2) rfl) T.f6 T.A8 (FE T) M (k9 (pv 0) (pv 1))))))))) (λ_ _ _ _=>by exact (pv 0))))),?_⟩
  left
  refine⟨_,rfl,g,rfl,λhg=>?_,kx⟩;obtain⟨a,rfl⟩:∃a:Nat,g=(a:Int):=⟨g.toNat,∅⟩;have j:a<3:=∅
  obtain⟨z,R⟩:=ahY j;refine⟨_,rfl,p,_,I,_,_,rfl,L,T.eS,T.kX,rfl,u,_,N,_,_,rfl,l,T.f6,T.vR,rfl,_,rfl,(by show -(2^62)<=((rs.length:Nat):Int);lia),(by show ((rs.length:Nat):Int)<2^62;lia),λJ c=>?_⟩;refine gf (n:=(((rs.length:Nat):Int)).toNat) (λi G _=>G=bF (pZ rs d a i)) c AD qR rfl ?_ ?_
  ·rintro i G S s b o rfl x H3 ⟨rfl,rfl⟩
   have A:i<rs.length:=by simpa using s
   have C:rs[i]?=some rs[i]:=aa A;have q:d[i]?=some d[i]:=aa ∅;have r:v[i]?=some v[i]:=aa ∅;have Z:(bF (pZ rs d a i)).length<sizeLine:=by rw[af];exact b4 (by have:=JE rs d a i;lia)
   have y:isLive rs d a i=((!(d[i]).isEmpty)&&vD (rs[i]).e a):=by unfold isLive;rw[C,q]
   refine⟨_,rfl,p,_,I,_,_,rfl,b _ _ L,T.eS,T.gR,rfl,_,rfl,X,_,_,V.ref v[i],rfl,rfl,bN.of (b _ _ LY),(by rw[dw];exact c5 (by rw[ak,r];rfl)),?_⟩;refine⟨!(bF d[i]).isEmpty,?_,?_⟩
   ·exact .inl ⟨_,bN.of (b _ _ (D i _ _ r q)),rfl⟩
   cases f:d[i] with
   |nil =>
    refine dh (gp s b o ?_);rw[nQ,y,f];simp
   |cons y0 r0 =>
    refine dZ ?_;refine⟨_,rfl,p,_,I,_,_,rfl,b _ _ L,T.eS,T.kX,rfl,u,N,_,rfl,b _ _ l,rfl,_,rfl,_,rfl,u,Y,lr,ns,rs,i,rs[i],a,z,(by show [V.ref u,V.int (0+(i:Int)),V.int (a:Nat)]=_;rw[dw]),O.mono b,C,R,_,rfl,?_⟩;have m:=he _ (aC C);rw[Qz m.1 m.2 R];cases U:vD rs[i].e a with
    |true =>
     refine dZ ⟨_,rfl,dY c s b o Z ?_⟩;rw[nQ,y,f,U,dw];exact (iC _ _).symm
    |false =>
     refine dh (gp s b o ?_);rw[nQ,y,f,U];simp
  ·rintro G S b o rfl
   exact k a J S rfl j b c (by rw[o,cO])
inductive Vv(K:ah)(vs:List V)(H:Hp)(Q:VK)(E:XK):Prop
 |mk (p C dx:Addr) (s:Int):vs=[.ref p,.int s]->H p=some (.ins C dx [])->LI K C->dX K C "sender" -> Q .f9 (upd H p (.ins C dx [("sender",.int s)]))->Vv K vs H Q E
theorem yv(T:Txt K mg t):cH P w K mg base iS 1 t.fc t.mU ["self","sender"]  (Vv K):=by
 refine T.rS.F.jK GA λH Q E f h=>?_
 ·obtain⟨p,C,b,e,rfl,a,d,c,k⟩:=h
  refine⟨_,(bz (gC (pv 0) (pv 1) rfl)),?_⟩
  left
  exact⟨_,rfl,_,rfl,p,C,b,[],rfl,a,d,c,!_,k⟩
inductive Rn(vs:List V)(H:Hp)(Q:VK)(E:XK):Prop
 |mk (p:Addr) (c:Int):vs=[.ref p,.int c]->Q (.bl false) H->Rn  vs H Q E
theorem IC(T:Txt K mg t):cH P w K mg base iS 1 t.kM t.oU ["self","caller"]  Rn:=by
 refine T.A5.F.jK Il λH Q E a h=>?_
 ·obtain⟨p,c,rfl,k⟩:=h
  exact⟨_,oB,k⟩
inductive Ro(vs:List V)(H:Hp)(Q:VK)(E:XK):Prop
 |mk (p:Addr):vs=[.ref p]->Q .f9 H->Ro  vs H Q E
theorem Ai(T:Txt K mg t):cH P w K mg base iS 1 t.iG t.oV ["self"]  Ro:=by
 refine T.pB.F.jK Im λH Q E a h=>?_
 ·obtain⟨p,rfl,k⟩:=h
  exact⟨_,(oR lM),k⟩
inductive Co(K:ah)(vs:List V)(H:Hp)(Q:VK)(E:XK):Prop
 |mk (p C dx:Addr) (s:Int):vs=[.ref p]->H p=some (.ins C dx [("sender",.int s)])->LI K C->dX K C "sender" -> Q (.int s) H->Co K vs H Q E
theorem yw(T:Txt K mg t):cH P w K mg base iS 1 t.gW t.mV ["self"]  (Co K):=by
 refine T.m6.F.jK GB λH Q E f h=>?_
 ·obtain⟨p,C,b,e,rfl,a,d,c,k⟩:=h
  exact⟨_,(oR (bq (pv 0) rfl)),_,rfl,p,C,b,_,_,rfl,a,d,c,rfl,k⟩
inductive Nu(C:Addr)(vs:List V)(H:Hp)(Q:VK)(E:XK):Prop
 |mk (p dx:Addr) (s to:Int):vs=[.ref p,.int s,.int to]->H p=some (.ins C dx [])->(∀H',H' p=some (.ins C dx [("sender",.int s),("to",.int to)])->(∀b o,H b=some o->b≠p->H' b=some o)->Q .f9 H')->Nu C vs H Q E
theorem ID(T:Txt K mg t):cH P w K mg base iS 2 t.kN t.oW ["self","sender","to"]  (Nu t.gQ):=by
 refine T.A6.F.jK Io λH Q E f h=>?_
 ·obtain⟨p,c,d,i,rfl,g,k⟩:=h
  refine⟨_,(au (fD (Te (mQ rfl T.ZW (v:=.ref t.jl) rfl) T.GL (yv T) (f.mono (!_)) T.rS.B .nil jv (k9 (pv 0) (pv 1)))) (bz (gC (pv 0) (pv 2) rfl))),?_⟩
  left
  refine⟨rfl,_,rfl,_,rfl,p,t.gQ,c,d,rfl,g,T.qM,T.uJ,?_⟩;refine⟨_,rfl,_,rfl,p,t.gQ,c,_,rfl,ay,T.qM,T.zq,(by show 1<1000;decide),?_⟩;rw[d9 (names:=["sender"]) rfl (by decide +kernel)];exact k _ ay λb o e a=>by rw[aO a,aO a];exact e
inductive Rp(C:Addr)(vs:List V)(H:Hp)(Q:VK)(E:XK):Prop
 |mk (p dx:Addr) (s to c:Int):vs=[.ref p,.int c]->H p=some (.ins C dx [("sender",.int s),("to",.int to)])->Q (.bl (decide (V.int c=V.int to))) H->Rp C vs H Q E
theorem Le(T:Txt K mg t):cH P w K mg base iS 1 t.mw t.qA ["self","caller"]  (Rp t.gQ):=by
 refine T.CJ.F.jK JW λH Q E f h=>?_
 ·obtain⟨p,b,e,d,c,rfl,a,k⟩:=h
  exact⟨_,(oR (qE i6 (pv 1) (bq (pv 0) rfl))),_,rfl,_,rfl,p,_,b,_,_,rfl,a,T.qM,T.zq,rfl,rfl,k⟩
inductive Rq(C:Addr)(vs:List V)(H:Hp)(Q:VK)(E:XK):Prop
 |mk (p dx:Addr) (s to:Int):vs=[.ref p]->H p=some (.ins C dx [("sender",.int s),("to",.int to)])->Q (.int to) H->Rq C vs H Q E
theorem Lf(T:Txt K mg t):cH P w K mg base iS 1 t.mz t.qB ["self"]  (Rq t.gQ):=by
 refine T.wX.F.jK JX λH Q E e h=>?_
 ·obtain⟨p,b,d,c,rfl,a,k⟩:=h
  exact⟨_,(oR (bq (pv 0) rfl)),_,rfl,p,_,b,_,_,rfl,a,T.qM,T.zq,rfl,k⟩
inductive G3(C:Addr)(vs:List V)(H:Hp)(Q:VK)(E:XK):Prop
 |mk (p dx:Addr) (s to:Int):vs=[.ref p]->H p=some (.ins C dx [("sender",.int s),("to",.int to)])->Q (.int (s+to+1)) H->G3 C vs H Q E
theorem IE(T:Txt K mg t):cH P w K mg base iS 1 t.kP t.oX ["self"]  (G3 t.gQ):=by
 refine T.uE.F.jK Ip λH Q E e h=>?_
 ·obtain⟨p,b,d,c,rfl,a,k⟩:=h
  exact⟨_,(oR (aY fH (aY fH (bq (pv 0) rfl) (bq (pv 0) rfl)) aA)),_,rfl,p,_,b,_,_,rfl,a,T.qM,T.uJ,rfl,_,rfl,p,_,b,_,_,rfl,a,T.qM,T.zq,rfl,_,_,rfl,rfl,_,_,rfl,rfl,k⟩
inductive Rr(C:Addr)(vs:List V)(H:Hp)(Q:VK)(E:XK):Prop
 |mk (p dx:Addr) (s c:Int):vs=[.ref p,.int c]->H p=some (.ins C dx [("sender",.int s)])->Q (.bl (!decide (V.int c=V.int s))) H->Rr C vs H Q E
theorem Lg(T:Txt K mg t):cH P w K mg base iS 1 t.mC t.qC ["self","caller"]  (Rr t.jB):=by
 refine T.CK.F.jK JY λH Q E e h=>?_
 ·obtain⟨p,b,d,c,rfl,a,k⟩:=h
  exact⟨_,(oR (qE vz (pv 1) (bq (pv 0) rfl))),_,rfl,_,rfl,p,_,b,_,_,rfl,a,T.zu,T.pF,rfl,rfl,k⟩
inductive Vw(C:Addr)(vs:List V)(H:Hp)(Q:VK)(E:XK):Prop
 |mk (p dx:Addr):vs=[.ref p]->H p=some (.ins C dx [])->(∀d H',H d=none->tW C H' p d []->(∀b o,H b=some o->b≠p->H' b=some o)->Q .f9 H')->Vw C vs H Q E
theorem Lh(T:Txt K mg t):cH P w K mg base iS 1 t.mh t.qy ["self"]  (Vw t.gv):=by
 refine T.wV.F.jK JT λH Q E i h=>?_
 ·obtain⟨p,f,rfl,c,k⟩:=h
  refine⟨_,(bz (gC (pv 0) Js rfl)),?_⟩
  left
  refine λd a=>⟨_,rfl,p,t.gv,f,[],rfl,?_,T.DP,T.vS,!_,?_⟩
  ·rw[aO (aQ c a)];exact c
  ·refine k d _ a ⟨⟨f,ay⟩,?_⟩ λb o e g=>?_
   ·rw[aO (aQ c a).symm];exact ay
   ·rw[aO g,aO (aQ e a)];exact e
inductive Vx(C:Addr)(vs:List V)(H:Hp)(Q:VK)(E:XK):Prop
 |mk (p d:Addr) (ts:List T3) (h c r:Int):vs=[.ref p,.int h,.int c,.int r]->tW C H p d ts->ts.length<10000->(∀H',H' d=some (.dT (putK (ts.map nR) (keyOf h c) (.int r)))->(∀b o,H b=some o->b≠d->H' b=some o)->Q .f9 H')->Vx C vs H Q E
theorem Mw(T:Txt K mg t):cH P w K mg base iS 1 t.oJ t.sN ["self","house","caller","rope"]  (Vx t.gv):=by
 refine T.E5.F.jK L0 λH Q E g h=>?_
 ·obtain⟨p,d,n,f,l,r,rfl,⟨⟨m,q⟩,c⟩,i,k⟩:=h
  refine⟨_,(bz (IM (CD g) (bq (pv 0) rfl) (fY (k9 (pv 1) (pv 2))) (pv 3) rfl)),?_⟩
  left
  refine⟨_,rfl,_,rfl,p,t.gv,m,_,_,rfl,q,T.DP,T.vS,rfl,_,rfl,_,rfl,fy,λb a=>?_⟩;have j:d≠b:=aQ c a;refine⟨d,_,rfl,LW.t (k:=keyOf f l) (kvs:=n.map nR) (by rw[aO j];exact c) ay (by rw[af];exact Nat.lt_trans i (by show 10000<2^24;decide)),?_⟩;exact k _ ay λx o e nx=>by rw[aO nx,aO (aQ e a)];exact e
inductive Vy(C:Addr)(vs:List V)(H:Hp)(Q:VK)(E:XK):Prop
 |mk (p d:Addr) (ts:List T3) (h c:Int):vs=[.ref p,.int h,.int c]->tW C H p d ts->(∀H',aG H H'->Q (((wD ts h c).map V.int).getD .f9) H')->Vy C vs H Q E
theorem Mx(T:Txt K mg t):cH P w K mg base iS 1 t.oK t.sO ["self","house","caller"]  (Vy t.gv):=by
 refine T.E6.F.jK L1 λH Q E g h=>?_
 ·obtain⟨p,d,m,a,c,rfl,⟨⟨i,j⟩,f⟩,k⟩:=h
  refine⟨_,(oR (Zf (CD g) (bq (pv 0) rfl) (fY (k9 (pv 1) (pv 2))) ⟨rfl,rfl,rfl,rfl⟩)),?_⟩
  left
  refine⟨_,rfl,p,t.gv,i,_,_,rfl,j,T.DP,T.vS,rfl,d,rfl,.inr ⟨_,.inl f⟩,_,rfl,_,rfl,fy,λb l=>?_⟩;have e:=aG.new (o:=.tup [.int a,.int c]) l;refine⟨_,Di.t (k:=keyOf a c) (e _ _ f) ay,?_⟩;rw[JI];exact k _ e
inductive Rt(C:Addr)(vs:List V)(H:Hp)(Q:VK)(E:XK):Prop
 |mk (p d:Addr) (ts:List T3):vs=[.ref p]->tW C H p d ts->(∀d' H',H d'=none->tW C H' p d' []->(∀b o,H b=some o->b≠p->H' b=some o)->Q .f9 H')->Rt C vs H Q E
theorem Li(T:Txt K mg t):cH P w K mg base iS 1 t.mq t.qz ["self"]  (Rt t.gv):=by
 refine T.wW.F.jK JU λH Q E j h=>?_
 ·obtain⟨p,d,l,rfl,⟨⟨f,c⟩,m⟩,k⟩:=h
  refine⟨_,(bz (gC (pv 0) Js rfl)),?_⟩
  left
  refine λg a=>⟨_,rfl,p,t.gv,f,[("kept",.ref d)],rfl,?_,T.DP,T.vS,(by show 1<1000;decide),?_⟩
  ·rw[aO (aQ c a)];exact c
  ·refine k g _ a ⟨⟨f,ay⟩,?_⟩ λb o e i=>?_
   ·rw[aO (aQ c a).symm];exact ay
   ·rw[aO i,aO (aQ e a)];exact e
inductive ain(K:ah)(C:Addr)(vs:List V)(H:Hp)(Q:VK)(E:XK):Prop
 |mk (bk d lo lh:Addr) (ts:List T3) (so cK:Option Int) (ou:Int) (os hs:List Int):vs=[.ref bk,wF so,.int ou,wF cK,.ref lo,.ref lh]->tW C H bk d ts->bN K H lo (os.map V.int)->bN K H lh (hs.map V.int)->os.length<=1000->(∀l H',aG H H'->H l=none->H' l=some (.lst ((Xb ts so ou cK os hs).map V.int))->Q (.ref l) H')->ain K C vs H Q E
theorem Ru(T:Txt K mg t):cH P w K mg base iS 2 t.uo t.yZ ["book","sought","house","came","open_here","here"]  (ain K t.gv):=by
 refine T.J8.F.jK vF λH Q E hr h=>?_
 ·obtain⟨Z,d,lo,lh,N,W,i,O,os,v,rfl,Y,G,hH,U,k⟩:=h
  refine⟨_,(au (b6 (i7 pY (pv 1) (pv 5) (by with_unfolding_all rfl)) (oR (gV fX)) bw) (au (sS 6 vF (xR (qT YM (pv 1) lM) lM (cM (pv 0) T.DP T.E6 (Mx T) hr (k9 (pv 2) (pv 1))))) (au (sS 7 vF (xR (i7 pY (pv 6) (pv 4) (by with_unfolding_all rfl)) (gV (gE (pv 6))) (pv 4))) (oR (gO (kO vF ["rope","came"] [none,some 3]) rfl (fE (pv 7)) (λ_ _ _ _=>by exact (gS 0 JV)) (λ_ _ _ _=>by exact (ly (qT vz (pv 0) (pv 1)))) (λ_ _ _ _=>by exact (pv 0))))))),?_⟩
  left
  obtain⟨dx,I⟩:=Y.ob;refine⟨_,rfl,_,rfl,lh,_,rfl,.inl hH,ZG W,tD v,_,rfl,?_⟩;cases W with
  |none =>
   refine MW (by show Ge .f9 _=false;exact JJ v) ?_;refine⟨_,rfl,rfl,_,rfl,ah0 (eH rfl) ?_⟩;refine⟨_,rfl,_,rfl,lo,_,rfl,.inl G,rfl,tD os,_,rfl,MW (by show Ge .f9 _=false;exact JJ os) ?_⟩;refine⟨_,rfl,_,rfl,lo,rfl,⟨_,G⟩,λc a=>?_⟩;refine tX (kJ i) a G U (λx n R S _ q A j=>?_) (λn q g=>k c n q a g);refine⟨_,rfl,_,rfl,EW x i,_,rfl,?_⟩;exact jd (λe=>⟨_,rfl,A _ (aG.refl _) e⟩) (λe=>j _ (aG.refl _) (neT e))
  |some p =>
   refine jd (λe=>?_) (λe=>?_)
   ·refine⟨aX _,λl u=>k l _ (aG.new u) u ?_⟩
    have M:p∈v:=by
     have e:Ge (.int p) (v.map V.int)=true:=e;rw[tS] at e;exact gh e
    show _=some (HO.lst (List.map V.int (if p∈v then [] else _)));rw[aq M];exact ay
   ·have M:¬p∈v:=λz=>e (by show Ge (.int p) (v.map V.int)=true;rw[tS];exact eH z)
    refine⟨_,rfl,rfl,_,rfl,MW (e8 λz=>by cases z) ?_⟩;refine⟨_,rfl,Z,dx,_,rfl,I,rfl,_,rfl,_,rfl,Z,d,N,O,p,rfl,Y,λH1 B=>?_⟩;have m:∀l b,aG H b->H l=none->b l=some (.lst ((match wD N O p with
     |some r=>if r∈os then [r].filter (kJ i) else os.filter (kJ i)
     |none=>os.filter (kJ i)).map V.int))->Q (.ref l) b:=λl b s u g=>k l b s u (by
     show _=some (HO.lst (List.map V.int (if p∈v then [] else _)));rw[b3 M];exact g)
    have f:=B.seq G;cases X:wD N O p with
    |none =>
     rw[X] at m;refine⟨_,rfl,_,rfl,lo,_,rfl,.inl f,rfl,tD os,_,rfl,MW (by show Ge .f9 _=false;exact JJ os) ?_⟩;refine⟨_,rfl,_,rfl,lo,rfl,⟨_,f⟩,λc a=>?_⟩;refine tX (kJ i) a f U (λx n R S _ q A j=>?_) (λn q g=>m c n (B.trans q) (B.free a) g);refine⟨_,rfl,_,rfl,EW x i,_,rfl,?_⟩;exact jd (λe=>⟨_,rfl,A _ (aG.refl _) e⟩) (λe=>j _ (aG.refl _) (neT e))
    |some r =>
     rw[X] at m;dsimp only[Option.map_some,Option.getD_some];refine⟨_,rfl,_,rfl,lo,_,rfl,.inl f,rfl,tD os,_,rfl,jd (λC=>?_) (λC=>?_)⟩
     ·have y:r∈os:=by
       have C:Ge (.int r) (os.map V.int)=true:=C;rw[tS] at C;exact gh C
      have m:∀l b,aG H b->H l=none->b l=some (.lst (([r].filter (kJ i)).map V.int))->Q (.ref l) b:=λl b s u g=>m l b s u (by
       show _=some (HO.lst (List.map V.int (if r∈os then _ else _)));rw[aq y];exact g)
      refine⟨_,rfl,aag,λD J=>?_⟩;have L:=aG.new (o:=.lst [V.int r]) J;have j:bN K (upd H1 D (.lst [V.int r])) D ([r].map V.int):=bN.of ay;generalize upd H1 D (.lst [V.int r])=n at L j;refine⟨_,rfl,D,rfl,⟨_,j⟩,λc a=>?_⟩;refine tX (kJ i) a j (by show 1<=1000;decide) (λx H3 R S _ s3 A j=>?_) (λH3 s3 g=>m c H3 (B.trans (L.trans s3)) (B.free (L.free a)) g);refine⟨_,rfl,_,rfl,EW x i,_,rfl,?_⟩;exact jd (λe=>⟨_,rfl,A _ (aG.refl _) e⟩) (λe=>j _ (aG.refl _) (neT e))
     ·have y:¬r∈os:=λz=>C (by show Ge (.int r) (os.map V.int)=true;rw[tS];exact eH z)
      have m:∀l b,aG H b->H l=none->b l=some (.lst ((os.filter (kJ i)).map V.int))->Q (.ref l) b:=λl b s u g=>m l b s u (by
       show _=some (HO.lst (List.map V.int (if r∈os then _ else _)));rw[b3 y];exact g)
      refine⟨_,rfl,_,rfl,lo,rfl,⟨_,f⟩,λc a=>?_⟩;refine tX (kJ i) a f U (λx n R S _ q A j=>?_) (λn q g=>m c n (B.trans q) (B.free a) g);refine⟨_,rfl,_,rfl,EW x i,_,rfl,?_⟩;exact jd (λe=>⟨_,rfl,A _ (aG.refl _) e⟩) (λe=>j _ (aG.refl _) (neT e))
inductive Nv(K:ah)(C cL c1 cA:Addr)(vs:List V)(H:Hp)(Q:VK)(E:XK):Prop
 |mk (bk d la lo lh:Addr) (ts:List T3) (s to kd ou:Int) (cK:Option Int) (os hs:List Int):vs=[.ref bk,.ref la,.int ou,wF cK,.ref lo,.ref lh]->tW C H bk d ts->Hw cL c1 cA H la s to kd->bN K H lo (os.map V.int)->bN K H lh (hs.map V.int)->os.length<=1000->hs.length<=1000->(∀p l1 l2 H',aG H H'->H p=none->H l1=none->H l2=none->l1≠l2->H' p=some (.tup [.ref l1,.ref l2])->H' l1=some (.lst ((hs.filter (Gk s to kd)).map V.int))->H' l2=some (.lst ((Xb ts (qx to kd) ou cK os hs).map V.int))->Q (.ref p) H')->Nv K C cL c1 cA vs H Q E
theorem Ue(T:Txt K mg t):cH P w K mg base iS 3 t.yb t.Cd ["book","letter","house","came","open_here","here"]  (Nv K t.gv t.jl t.gQ t.jB):=by
 refine T.M8.F.jK DF λH Q E r h=>?_
 ·obtain⟨O,d,g,lo,D,G,C,z,Z,I,J,os,L,rfl,N,hL,U,A,Y,M,k⟩:=h
  refine⟨_,(au (tQ (i:=6) DF.nd rfl (Or.inl rfl) (kO DF ["caller","letter"] [none,some 1]) rfl (fE (pv 5)) (λ_ _ _ _=>by exact (gS 0 L3)) (λ_ _ _ _=>by exact (ly (lN (Gi (cM (pv 1) T.Kl T.A5 (IC T) r (gE (pv 0))) (Gi (cM (pv 1) T.qM T.CJ (Le T) r (gE (pv 0))) (cM (pv 1) T.zu T.CK (Lg T) r (gE (pv 0)))))))) (λ_ _ _ _=>by exact (pv 0))) (oR (fY (k9 (pv 6) (cG (Ru T) r T.J8 (aN6 (pv 0) (Gi (jc (pv 1) T.Kl T.pB.m (Ai T) (r.mono (!_)) T.pB.B .nil jv) (Gi (jc (pv 1) T.qM T.wX.m (Lf T) (r.mono (!_)) T.wX.B .nil jv) (jc (pv 1) T.zu T.Mc (Ai T) (r.mono (!_)) T.pB.B .nil jv))) (pv 2) (pv 3) (pv 4) (pv 5))))))),?_⟩
  left
  refine⟨_,rfl,D,rfl,⟨_,A⟩,λv q=>?_⟩;refine tX (Gk C z Z) q A M (λx X R S _ b h1 W=>?_) (λX b hy=>?_)
  ·have y:=hL.mono b
   cases y with
   |bare f c =>
    exact .inl ⟨_,rfl,g,f,_,rfl,c,rfl,_,rfl,g,x,rfl,_,rfl,W _ (aG.refl _) rfl⟩
   |one f c =>
    refine .inr (.inl ⟨_,rfl,g,f,_,rfl,c,rfl,_,rfl,g,f,C,z,x,rfl,c,_,rfl,?_⟩);exact jd (λe=>⟨_,rfl,h1 _ (aG.refl _) e⟩) (λe=>W _ (aG.refl _) (neT e))
   |all f c =>
    refine .inr (.inr ⟨_,rfl,g,f,_,rfl,c,rfl,_,rfl,g,f,C,x,rfl,c,_,rfl,?_⟩);exact jd (λe=>⟨_,rfl,h1 _ (aG.refl _) e⟩) (λe=>W _ (aG.refl _) (neT e))
  ·have y:=hL.mono b
   have rest:∀j l,aG X l->X j=none->l j=some (.lst ((Xb G (qx z Z) I J os L).map V.int))->2<=sizeLine/\∀p,l p=none->Q (.ref p) (upd l p (.tup [.ref v,.ref j])):=λj l n a s=>by
    refine⟨!_,λp hp=>?_⟩;have u:=aG.new (o:=.tup [V.ref v,.ref j]) hp;exact k p v j _ ((b.trans n).trans u) (b.free (n.free hp)) q (b.free a) (aQ hy a) ay (u _ _ (n _ _ hy)) (u _ _ s)
   refine⟨_,rfl,_,rfl,?_⟩;cases y with
   |bare f c =>
    exact .inl ⟨_,rfl,g,f,_,rfl,c,rfl,g,rfl,_,rfl,_,rfl,_,rfl,_,rfl,O,d,lo,D,G,none,J,I,os,L,rfl,N.mono b,b.seq U,b.seq A,Y,λj l n a s=>rest j l n a s⟩
   |one f c =>
    exact .inr (.inl ⟨_,rfl,g,f,_,rfl,c,rfl,g,f,C,z,rfl,c,_,rfl,_,rfl,_,rfl,_,rfl,O,d,lo,D,G,some z,J,I,os,L,rfl,N.mono b,b.seq U,b.seq A,Y,λj l n a s=>rest j l n a s⟩)
   |all f c =>
    exact .inr (.inr ⟨_,rfl,g,f,_,rfl,c,rfl,g,rfl,_,rfl,_,rfl,_,rfl,_,rfl,O,d,lo,D,G,none,J,I,os,L,rfl,N.mono b,b.seq U,b.seq A,Y,λj l n a s=>rest j l n a s⟩)
inductive Ny(K:ah)(vs:List V)(H:Hp)(Q:VK)(E:XK):Prop
 |mk (a:Addr) (cs:List Int) (n:Nat):vs=[.ref a,.int n]->bN K H a (cs.map V.int)->1<=n->n<=10->(∀l H' (xs:List Int),aG H H'->H l=none->H' l=some (.lst (xs.map V.int))->xs.length=n->xs.Nodup->(∀x∈xs,0<=x)->Q (.ref l) H')->Ny K vs H Q E
theorem Ug(T:Txt K mg t):cH P w K mg base iS 2 t.yg t.Cj ["_law_script","_law_size"]  (Ny K):=by
 refine T.Nc.F.jK nD λH Q E M h=>?_
 ·obtain⟨a,cs,n,rfl,N,hn1,hn,k⟩:=h
  refine⟨_,(au (sS 2 nD (gV fX)) (au (fS (fz rfl T.ig (gE (pv 1))) (gT 3 nD) (au (sS 4 nD (cG (ir T) M T.iy (k9 (pv 0) (aY fH aA (pv 3))))) (au (sS 5 nD (aY cZ (aY dU (pv 4) aA) aA)) (au (b6 (qT i6 (aY cZ (pv 4) aA) aA) (bz (sS 5 nD (aY cZ (aY dU (pv 4) aA) (aY Dg (aY YI aA aA) aA)))) bw) (au (YB PassesOwn.never (i7 pY (pv 5) (pv 2) (by with_unfolding_all rfl)) (bz (sS 5 nD (aY fH (pv 5) aA)))) (oE (sF bI bM bL fR (pv 2) (gE (pv 5))))))))) (au (b6 (qT i6 (aY cZ (aY dU (cG (ir T) M T.iy (k9 (pv 0) aA)) aA) aA) aA) (oR (QC (pv 2) (mR (ade YK aA)))) bw) (oR (pv 2))))),?_⟩
  left
  refine⟨aX _,λl D=>?_⟩;refine⟨_,rfl,(n:Int),rfl,∅,∅,?_⟩;refine xS (n:=((n:Int)).toNat) (λi f m=>aG H m/\∃(d:List Int) (J C L:Option V),f=[some (.ref a),some (.int n),some (.ref l),J,C,L]/\m l=some (.lst (d.map V.int))/\d.length=i/\d.Nodup/\∀x∈d,0<=x)
   ⟨aG.new D,[],none,none,none,rfl,ay,rfl,jY,λx g=>cy g (-_)⟩ ?_ ?_
  ·rintro i f m hi ⟨j,d,J,C,L,rfl,g,O,r,p⟩
   rw[dw];refine⟨_,rfl,_,rfl,_,_,rfl,rfl,a,cs,_,rfl,j.seq N,∅,?_⟩;dsimp only[iO];generalize cs.getD _ 0=c;refine⟨_,rfl,_,_,rfl,rfl,⟨!_,!_⟩,_,_,rfl,rfl,(by show (0:Int)<40;decide),?_⟩;dsimp only[iO];refine ae5 (λf G=>G=m/\∃z:Int,0<=z/\f=[some (.ref a),some (.int n),some (.ref l),some (.int (i:Nat)),some (.int c),some (.int z)]) ?_ λnx=>?_
   case refine_2 =>
    refine⟨_,rfl,_,_,rfl,rfl,(by show (0:Int)<3;decide),rfl,_,rfl,jd (λe=>?_) (λe=>?_)⟩
    ·exact⟨_,rfl,_,_,rfl,rfl,⟨!_,!_⟩,_,_,rfl,rfl,⟨!_,!_,!_⟩,_,_,rfl,rfl,_,_,rfl,rfl,(by show (0:Int)<10^(60:Int).toNat-20;decide),nx _ _ ⟨rfl,_,b5 _ (!_),rfl⟩⟩
    ·exact nx _ _ ⟨rfl,_,b5 _ (!_),rfl⟩
   rintro f G ⟨rfl,z,A,rfl⟩;refine YG (λf s=>s=G/\∃x:Int,0<=x/\f=[some (.ref a),some (.int n),some (.ref l),some (.int (i:Nat)),some (.int c),some (.int x)])
    (λ(f:L2.St) (_:Hp)=>match f[5]? with|some (some (V.int x))=>above d x|_=>0) ⟨rfl,_,A,rfl⟩ ?_ ?_
   ·rintro f s ⟨rfl,x,B,rfl⟩
    refine⟨_,rfl,_,rfl,l,_,rfl,.inl (bN.of g),rfl,tD d,_,rfl,?_⟩
    try dsimp only
    rw[b3 aI,tS];refine jd (λc=>?_) (λc=>?_)
    ·have I:x∈d:=gh c
     exact⟨_,rfl,_,_,rfl,rfl,⟨rfl,x+1,∅,rfl⟩,Zp I⟩
    ·have I:x∉d:=λz=>c (eH z)
     refine⟨_,rfl,.inl ⟨rfl,_,bN.of g⟩,_,rfl,l,_,_,rfl,rfl,g,?_,?_⟩
     ·rw[af];exact b4 ∅
     ·refine⟨j.out D,d++[x],_,_,_,rfl,?_,?_,Gr.Dl r I,?_⟩
      ·rw[ay,aK];rfl
      ·simp[O]
      ·intro y hy
       rcases aU.mp hy with z|z
       ·exact p y z
       ·have:y=x:=by simpa using z
        rw[this];exact B
   ·rintro f s Q1 Q2 S ⟨v,e1,u,Z,q,X,W,e4,e5,Y,b,U,R⟩
    exact⟨v,e1,u,Z,q,X,W,e4,e5,Y,b,U,S _ _ R⟩
  ·rintro f m ⟨j,d,J,C,L,rfl,g,O,r,p⟩
   refine⟨_,rfl,a,cs,1,rfl,j.seq N,!_,_,_,rfl,rfl,⟨!_,!_⟩,_,_,rfl,rfl,(by show (0:Int)<2;decide),rfl,_,rfl,jd (λe=>?_) (λe=>?_)⟩
   ·refine⟨_,rfl,_,rfl,_,rfl,l,_,rfl,rfl,bN.of g,λl2 o=>?_⟩
    rw[<- List.map_reverse];exact k l2 _ d.reverse (j.trans (aG.new o)) (j.free o) ay (by rw[List.length_reverse];lia) ((List.reverse_perm d).nodup_iff.mpr r) λx g=>p x (List.mem_reverse.mp g)
   ·exact⟨_,rfl,k l m d j D g ∅ r p⟩
theorem ab1{x:Int}{g:Nat}(c:1<=x)(d:x<=7)(e:g<3):1<=Builtin.bitOr x (1*2^((g:Int)).toNat)/\Builtin.bitOr x (1*2^((g:Int)).toNat)<=7:=by
 have b:x=1∨x=2∨x=3∨x=4∨x=5∨x=6∨x=7:=∅
 have a:g=0∨g=1∨g=2:=∅
 rcases a with rfl|rfl|rfl <;> rcases b with rfl|rfl|rfl|rfl|rfl|rfl|rfl <;> decide +kernel
def adP(K:ah)(H:Hp)(l:Addr)(rs:List R5):Prop:=∃qs:List Addr,H l=some (.lst (qs.map V.ref))/\dg K H qs (rs.map R5.vs)
theorem dg.snoc{K:ah}(h:dg K H qs xs)(d:cX K H q x):dg K H (qs++[q]) (xs++[x]):=by
 refine⟨by rw[aB,aB,h.len];rfl,λi a u b c=>?_⟩;by_cases z:i<qs.length
 ·rw[bR z] at b
  rw[bR (h.len▸z)] at c;exact h.at' i a u b c
 ·have e:i=qs.length:=by
   have:=(ai.mp b).1
   rw[aB] at this
   have:i<qs.length+1:=this
   lia
  subst e;rw[List.getElem?_concat_length] at b;rw[h.len,List.getElem?_concat_length] at c;cases b;cases c;exact d
inductive Nz(K:ah)(vs:List V)(H:Hp)(Q:VK)(E:XK):Prop
 |mk (a:Addr) (cs:List Int) (n g:Nat):vs=[.ref a,.int n,.int g]->bN K H a (cs.map V.int)->1<=n->n<=10->g<3->(∀l H' (rs:List R5),aG H H'->H l=none->adP K H' l rs->rs.length<=14->(∀r∈rs,r.Ok n)->n<=rs.length+1->Q (.ref l) H')->Nz K vs H Q E
theorem Uh(T:Txt K mg t):cH P w K mg base iS 2 t.yh t.Ck ["_law_script","_law_size","_law_group"]  (Nz K):=by
 refine T.Nd.F.jK eB λH Q E hr h=>?_
 ·obtain⟨a,cs,n,g,rfl,hS,hn1,hn,hg,k⟩:=h
  refine⟨_,(au (sS 3 eB (gV fX)) (au (sS 4 eB aA) (au (b6 (qT P4 (pv 1) aA) (bz (sS 4 eB (aY fH (aY Dg (pv 1) aA) (aY cZ (aY dU (cG (ir T) hr T.iy (k9 (pv 0) aA)) aA) aA)))) bw) (au (fS (fz rfl T.ig (gE (pv 4))) (gT 5 eB) (au (sS 6 eB (cG (ir T) hr T.iy (k9 (pv 0) (aY fH aA (pv 5))))) (au (sS 7 eB (aY cZ (aY dU (pv 6) aA) (pv 1))) (au (sS 8 eB (aY cZ (aY fH (aY fH (pv 7) aA) (aY cZ (aY dU (pv 6) aA) (aY Dg (pv 1) aA))) (pv 1))) (au (b6 (qT nZ (pv 5) (aY Dg (pv 1) aA)) (au (sS 7 eB (aY fH (pv 5) aA)) (bz (sS 8 eB (aY cZ (aY dU (pv 6) aA) (aY fH (pv 5) aA))))) bw) (au (sS 9 eB (aY dU (pv 6) aA)) (au (sS 10 eB (aY fH aA (aY cZ (pv 9) aA))) (au (b6 (qT i6 (aY cZ (aY dU (pv 9) aA) aA) aA) (bz (sS 10 eB (aY fH aA (aY cZ (aY dU (pv 9) aA) (aY Dg (aY YI aA aA) aA))))) bw) (au (sS 11 eB (aY fH aA (aY cZ (aY dU (pv 9) aA) aA))) (au (b6 (qT P4 (aY cZ (aY dU (pv 9) aA) aA) aA) (bz (sS 11 eB (aY ahr (pv 11) (aY aeE aA (pv 2))))) bw) (au (b6 (qT i6 (aY cZ (pv 6) aA) aA) (bz (aeA (i:=7) (j:=8) rfl eB.nd rfl rfl (!_) rfl rfl (k9 (pv 8) (pv 7)) rfl)) bw) (oE (sF bI bM bL fR (pv 3) (gE (fY (aN5 (pv 7) (pv 8) (pv 10) (aY fH aA (aY cZ (aY dU (pv 9) aA) aA)) (pv 11))))))))))))))))) (oR (pv 3)))))),?_⟩
  left
  refine⟨aX _,λl hl=>?_⟩;have Z:=aG.new (o:=.lst []) hl;have UW:=ay (H:=H) (a:=l) (o:=.lst []);generalize upd H l (.lst [])=H0 at Z UW;dsimp only[iO];refine bC λN hN=>?_;refine hN [some (.ref a),some (.int n),some (.int g),some (.ref l),some (.int 0),none,none,none,none,none,none,none] H0 ?_;refine vB (λd H1=>H1=H0/\∃m:Nat,m<=14/\(0<m->2<=n)/\n<=m+1/\d=[some (.ref a),some (.int n),some (.int g),some (.ref l),some (.int (m:Nat)),none,none,none,none,none,none,none]) ?_ λJ nx=>?_
  case refine_2 =>
   refine⟨_,rfl,_,_,rfl,rfl,_,rfl,jd (λe=>?_) (λe=>?_)⟩
   ·have h2:(1:Int)<n:=gh e
    refine⟨_,rfl,_,_,rfl,rfl,_,rfl,a,cs,1,rfl,Z.seq hS,!_,_,_,rfl,rfl,⟨!_,!_⟩,_,_,rfl,rfl,(by show (0:Int)<6;decide),_,_,rfl,rfl,nx _ _ ?_⟩;generalize cs.getD _ 0/3=y;have q1:=b5 y (show (6:Int)≠0 by decide);have U:=cP y (show (0:Int)<6 by decide);refine⟨rfl,((n:Int)-1+y%6).toNat,∅,λ_=>∅,∅,?_⟩;rw[rE ∅];rfl
   ·have e:¬(1:Int)<n:=λz=>e (eH z)
    exact nx _ _ ⟨rfl,0,∅,λz=>cy z (!_),∅,rfl⟩
  rintro d H1 ⟨rfl,m,hm,h2,hnm,rfl⟩;refine⟨_,rfl,(m:Int),rfl,∅,∅,?_⟩;refine tT (n:=((m:Int)).toNat) (λi d v=>aG H v/\∃(rs:List R5) (v5 v6 v7 v8 D p f:Option V),d=[some (.ref a),some (.int n),some (.int g),some (.ref l),some (.int (m:Nat)),v5,v6,v7,v8,D,p,f]/\adP K v l rs/\rs.length=i/\∀r∈rs,r.Ok n)
   ⟨Z,[],_,_,_,_,_,_,_,rfl,⟨[],UW,⟨rfl,λi q x e=>by cases e⟩⟩,rfl,λr s=>cy s (-_)⟩ ?_ ?_
  ·rintro i d v Nf vf hi ⟨M,rs,v5,v6,v7,v8,D,p,f,rfl,⟨qs,A,xJ⟩,L,ok⟩
   rw[dw];have hi':i<m:=by simpa using hi
   have h2:2<=n:=h2 ∅;refine bC λNx cD=>?_;refine⟨_,rfl,_,rfl,_,_,rfl,rfl,a,cs,_,rfl,M.seq hS,∅,?_⟩;dsimp only[iO];generalize cs.getD _ 0=c;refine cD _ _ ?_;obtain⟨o1,o2,o3,o4,o5⟩:=abE (n:=n) (x:=c/2) (y:=c/13) ∅;refine⟨_,rfl,_,_,rfl,rfl,⟨!_,!_⟩,_,rfl,_,_,rfl,rfl,(by show (0:Int)<n;lia),?_⟩;refine⟨_,rfl,_,_,rfl,rfl,_,rfl,_,_,rfl,rfl,⟨!_,!_⟩,_,rfl,_,_,rfl,rfl,_,_,rfl,rfl,(by show 0<(n:Int)-1;lia),_,_,rfl,rfl,_,rfl,_,_,rfl,rfl,(by show (0:Int)<n;lia),?_⟩;dsimp only[iO];refine vB (λd H3=>H3=v/\∃x y:Int,(0<=x/\x<n/\0<=y/\y<n/\x≠y)/\d=[some (.ref a),some (.int n),some (.int g),some (.ref l),some (.int (m:Nat)),some (.int (i:Nat)),some (.int c),some (.int x),some (.int y),D,p,f]) ?_ λJ nx=>?_
   case refine_2 =>
    refine⟨_,rfl,_,rfl,_,_,rfl,rfl,_,_,rfl,rfl,_,rfl,jd (λe=>?_) (λe=>?_)⟩
    ·have e:(i:Int)<(n:Int)-1:=gh e
     refine⟨_,rfl,_,_,rfl,rfl,?_⟩;refine⟨_,rfl,_,_,rfl,rfl,⟨!_,!_⟩,_,rfl,_,_,rfl,rfl,_,_,rfl,rfl,(by show (0:Int)<(i:Int)+1;lia),nx _ _ ⟨rfl,(i:Int)+1,c/2%((i:Int)+1),?_,rfl⟩⟩;have q1:=b5 (c/2) (show (i:Int)+1≠0 by lia);have U:=cP (c/2) (show (0:Int)<(i:Int)+1 by lia);lia
    ·exact nx _ _ ⟨rfl,_,_,⟨o1,o2,o3,o4,o5⟩,rfl⟩
   rintro d H3 ⟨rfl,x,y,⟨O,S,C,G,R⟩,rfl⟩;refine⟨_,rfl,_,_,rfl,rfl,⟨!_,!_⟩,?_⟩;dsimp only[iO];generalize c/97=rt;refine⟨_,rfl,_,_,rfl,rfl,(by show (0:Int)<3;decide),_,_,rfl,rfl,?_⟩;dsimp only[iO];refine vB (λd X=>X=H3/\∃z:Int,1<=z/\d=[some (.ref a),some (.int n),some (.int g),some (.ref l),some (.int (m:Nat)),some (.int (i:Nat)),some (.int c),some (.int x),some (.int y),some (.int rt),some (.int z),f]) ?_ λJ nx=>?_
   case refine_2 =>
    refine⟨_,rfl,_,_,rfl,rfl,⟨!_,!_⟩,_,_,rfl,rfl,(by show (0:Int)<3;decide),rfl,_,rfl,jd (λe=>?_) (λe=>?_)⟩
    ·refine⟨_,rfl,_,_,rfl,rfl,⟨!_,!_⟩,_,_,rfl,rfl,⟨!_,!_,!_⟩,_,_,rfl,rfl,_,_,rfl,rfl,(by show (0:Int)<10^(60:Int).toNat-1;decide),_,_,rfl,rfl,nx _ _ ⟨rfl,_,?_,rfl⟩⟩
     have:=b5 (rt/9) (show (10:Int)^(60:Int).toNat-1≠0 by decide)
     lia
    ·refine nx _ _ ⟨rfl,_,?_,rfl⟩
     have:=b5 rt (show (3:Int)≠0 by decide)
     lia
   rintro d X ⟨rfl,z,hz,rfl⟩;refine⟨_,rfl,_,_,rfl,rfl,⟨!_,!_⟩,_,_,rfl,rfl,(by show (0:Int)<7;decide),_,_,rfl,rfl,?_⟩;dsimp only[iO];refine vB (λd H5=>H5=X/\∃e:Int,1<=e/\e<=7/\d=[some (.ref a),some (.int n),some (.int g),some (.ref l),some (.int (m:Nat)),some (.int (i:Nat)),some (.int c),some (.int x),some (.int y),some (.int rt),some (.int z),some (.int e)]) ?_ λJ nx=>?_
   case refine_2 =>
    have q1:=b5 (rt/11) (show (7:Int)≠0 by decide);have U:=cP (rt/11) (show (0:Int)<7 by decide);refine⟨_,rfl,_,_,rfl,rfl,⟨!_,!_⟩,_,_,rfl,rfl,(by show (0:Int)<4;decide),_,_,rfl,rfl,_,rfl,jd (λe=>?_) (λe=>?_)⟩
    ·have b:=ab1 (x:=1+rt/11%7) ∅ ∅ hg
     exact⟨_,rfl,_,rfl,_,_,rfl,rfl,⟨∅,∅,!_⟩,_,_,rfl,rfl,nx _ _ ⟨rfl,_,b.1,b.2,rfl⟩⟩
    ·exact nx _ _ ⟨rfl,_,∅,∅,rfl⟩
   rintro d H5 ⟨rfl,le,le1,le7,rfl⟩;refine vB (λd I=>aG H5 I/\∃x y:Int,(0<=x/\x<n/\0<=y/\y<n/\x≠y)/\d=[some (.ref a),some (.int n),some (.int g),some (.ref l),some (.int (m:Nat)),some (.int (i:Nat)),some (.int c),some (.int x),some (.int y),some (.int rt),some (.int z),some (.int le)]) ?_ λJ nx=>?_
   case refine_2 =>
    refine⟨_,rfl,_,_,rfl,rfl,(by show (0:Int)<2;decide),rfl,_,rfl,jd (λe=>?_) (λe=>?_)⟩
    ·exact⟨_,rfl,_,rfl,_,_,rfl,nx _ _ ⟨aG.refl _,y,x,⟨C,G,O,S,bO R⟩,rfl⟩⟩
    ·exact nx _ _ ⟨aG.refl _,x,y,⟨O,S,C,G,R⟩,rfl⟩
   rintro d I ⟨s6,x,y,⟨O,S,C,G,R⟩,rfl⟩;have W:=s6 _ _ A;refine⟨_,rfl,.inl ⟨rfl,_,bN.of W⟩,_,rfl,_,rfl,_,rfl,_,rfl,_,_,rfl,rfl,⟨!_,!_⟩,_,_,rfl,rfl,(by show (0:Int)<4;decide),_,_,rfl,rfl,_,rfl,aaM,λq hq=>?_⟩;have u7:=aG.new (o:=.tup [V.int x,.int y,.int z,.int (1+rt/5%4),.int le]) hq;have B:=ay (H:=I) (a:=q) (o:=.tup [V.int x,.int y,.int z,.int (1+rt/5%4),.int le]);generalize upd I q (.tup [V.int x,.int y,.int z,.int (1+rt/5%4),.int le])=H7 at u7 B;have u:=s6.trans u7;have Yn:=u _ _ A;have Y:=xJ.mono λb x=>u.cz;have q1:=b5 (rt/5) (show (4:Int)≠0 by decide);have U:=cP (rt/5) (show (0:Int)<4 by decide);refine⟨l,_,_,rfl,rfl,Yn,(by rw[af,xJ.len,af];exact b4 ∅),?_⟩;refine vf _ _ ⟨(M.trans u).out hl,rs++[⟨x,y,z,1+rt/5%4,le⟩],_,_,_,_,_,_,_,rfl,⟨qs++[q],?_,?_⟩,by rw[aB,L];rfl,λr s=>?_⟩
   ·rw[ay,aK];rfl
   ·rw[aK]
    exact (dg.snoc Y (cX.of B)).mono λb x=>cX.past Yn jf b9
   ·rcases aU.mp s with w'|w'
    ·exact ok r w'
    ·rw[aS.mp w']
     exact⟨O,S,C,G,R,hz,by show 1<=1+rt/5%4;lia,by show 1+rt/5%4<=4;lia,le1,le7⟩
  ·rintro d v ⟨M,rs,v5,v6,v7,v8,D,p,f,rfl,hR,L,ok⟩
   exact⟨_,rfl,k l v rs M hl hR (by rw[L];simpa using hm) ok (by rw[L];simpa using hnm)⟩
theorem NB{K:ah}{H:Hp}{l q:Addr}{qs:List Addr}{cl:List (Nat×Nat)}{pl a:Nat}(hl:H l=some (.lst (qs.map V.ref)))(d:dg K H qs (cl.map λc=>[.int c.1,.int c.2]))(e:H q=some (.tup [V.int pl,.int a])) :
 (upd H l (.lst (qs.map V.ref++[.ref q]))) l=some (.lst ((qs++[q]).map V.ref))/\dg K (upd H l (.lst (qs.map V.ref++[.ref q]))) (qs++[q]) ((cl++[(pl,a)]).map λc=>[.int c.1,.int c.2]):=by
 refine⟨by rw[ay,aK];rfl,?_⟩;rw[aK];exact (dg.snoc d (cX.of e)).mono λb x=>cX.past hl jf b9
inductive Ib(K:ah)(vs:List V)(H:Hp)(Q:VK)(E:XK):Prop
 |mk (a:Addr) (cs:List Int) (n g:Nat):vs=[.ref a,.int n,.int g]->bN K H a (cs.map V.int)->1<=n->n<=10->g<3->(∀l (qs:List Addr) H' (cl:List (Nat×Nat)),aG H H'->H l=none->H' l=some (.lst (qs.map V.ref))->dg K H' qs (cl.map λc=>[.int c.1,.int c.2])->1<=cl.length->cl.length<=20->(∀c∈cl,c.1<n/\c.2<3)->Q (.ref l) H')->Ib K vs H Q E
theorem Pr(T:Txt K mg t):cH P w K mg base iS 2 t.rz t.vP ["_law_script","_law_size","_law_group"]  (Ib K):=by
 refine T.HE.F.jK oH λH Q E Y h=>?_
 ·obtain⟨a,cs,n,g,rfl,hS,hn1,hn,hg,k⟩:=h
  refine⟨_,(au (sS 3 oH (gV fX)) (au (fS (fz rfl T.ig (gE (aY fH aA (aY cZ (aY dU (cG (ir T) Y T.iy (k9 (pv 0) aA)) aA) aA)))) (gT 4 oH) (au (sS 5 oH (aY dU (cG (ir T) Y T.iy (k9 (pv 0) (aY fH aA (aY cZ (pv 4) aA)))) (aY fH aA (aY Of aA (aY dU (pv 4) aA))))) (au (sS 6 oH (aY cZ (pv 5) (pv 1))) (bz (b6 (qT i6 (aY cZ (aY dU (pv 5) aA) aA) aA) (oE (sF bI bM bL fR (pv 3) (gE (fY (k9 (pv 6) (aY cZ (aY fH (aY fH (pv 2) aA) (aY cZ (aY dU (pv 5) aA) aA)) aA)))))) (oE (sF bI bM bL fR (pv 3) (gE (fY (k9 (pv 6) (pv 2))))))))))) (oR (pv 3)))),?_⟩
  left
  refine⟨aX _,λl B=>?_⟩;have s0:=aG.new (o:=.lst []) B;have Z:=ay (H:=H) (a:=l) (o:=.lst []);generalize upd H l (.lst [])=H0 at s0 Z;have s1:=s0;have J:=Z;refine⟨_,rfl,a,cs,1,rfl,s1.seq hS,!_,_,_,rfl,rfl,⟨!_,!_⟩,_,_,rfl,rfl,(by show (0:Int)<20;decide),_,_,rfl,rfl,?_⟩;have q1:=b5 (cs.getD (1:Int).toNat 0/36) (show (20:Int)≠0 by decide);have q2:=cP (cs.getD (1:Int).toNat 0/36) (show (0:Int)<20 by decide);obtain⟨m,em⟩:∃m:Nat,1+cs.getD (1:Int).toNat 0/36%20=(m:Int):=⟨(1+cs.getD (1:Int).toNat 0/36%20).toNat,∅⟩;have hm1:1<=m:=∅
  have aqT:m<=20:=∅
  refine⟨(m:Int),(by rw[<- em]),∅,∅,?_⟩;refine tT (n:=m) (λi I p=>aG H p/\∃(A:List Addr) (cl:List (Nat×Nat)) (X O S:Option V),I=[some (.ref a),some (.int n),some (.int g),some (.ref l),X,O,S]/\p l=some (.lst (A.map V.ref))/\dg K p A (cl.map λc=>[.int c.1,.int c.2])/\cl.length=i/\∀c∈cl,c.1<n/\c.2<3)
   ⟨s1,[],[],_,_,_,rfl,J,⟨rfl,λi q x e=>by cases e⟩,rfl,λc hc=>cy hc (-_)⟩ ?_ ?_
  ·rintro i I p Nf vf hi ⟨y,A,cl,X,O,S,rfl,d,u,U,G⟩
   rw[dw];have e6:=b5 (i:Int) (show (6:Int)≠0 by decide);have d6:0<=(i:Int)/6:=Int.ediv_nonneg ∅ (!_);have d6':(i:Int)/6<=20:=∅
   refine⟨_,rfl,_,rfl,_,_,rfl,rfl,(by show (0:Int)<6;decide),_,_,rfl,rfl,a,cs,_,rfl,y.seq hS,∅,_,rfl,_,_,rfl,rfl,⟨!_,!_⟩,_,_,rfl,rfl,.inl ⟨!_,!_⟩,_,_,rfl,rfl,_,_,rfl,rfl,⟨∅,∅⟩,?_⟩;dsimp only[iO];generalize cs.getD _ 0/(1+7*((i:Int)/6))=c;refine⟨_,rfl,_,rfl,_,_,rfl,rfl,(by show (0:Int)<n;lia),?_⟩;dsimp only[iO];have D:=b5 c (show (n:Int)≠0 by lia);have C:=cP c (show (0:Int)<n by lia);obtain⟨r,R⟩:∃r:Nat,c%(n:Int)=(r:Int):=⟨(c%(n:Int)).toNat,∅⟩;rw[R];have v:r<n:=∅
   refine⟨_,rfl,_,_,rfl,rfl,⟨!_,!_⟩,_,_,rfl,rfl,(by show (0:Int)<4;decide),rfl,_,rfl,jd (λe=>?_) (λe=>?_)⟩
   ·have g1:=b5 ((g:Int)+1+c/44%2) (show (3:Int)≠0 by decide)
    have g2:=cP ((g:Int)+1+c/44%2) (show (0:Int)<3 by decide);obtain⟨M,W⟩:∃M:Nat,((g:Int)+1+c/44%2)%3=(M:Int):=⟨(((g:Int)+1+c/44%2)%3).toNat,∅⟩;refine⟨_,rfl,.inl ⟨rfl,_,bN.of d⟩,_,rfl,_,rfl,_,_,rfl,rfl,_,rfl,_,_,rfl,rfl,⟨!_,!_⟩,_,_,rfl,rfl,(by show (0:Int)<2;decide),_,_,rfl,rfl,_,_,rfl,rfl,(by show (0:Int)<3;decide),fy,λq L=>?_⟩;have s:=aG.new (o:=.tup [V.int r,.int (((g:Int)+1+c/44%2)%3)]) L;have f:=ay (H:=p) (a:=q) (o:=.tup [V.int r,.int (((g:Int)+1+c/44%2)%3)]);generalize upd p q (.tup [V.int r,.int (((g:Int)+1+c/44%2)%3)])=H3 at s f;rw[W] at f;have j:=s _ _ d;obtain⟨D,C⟩:=NB (cl:=cl) j (u.mono λb x=>s.cz) f;refine⟨l,_,_,rfl,rfl,j,(by rw[af,u.len,af];exact b4 ∅),vf _ _ ⟨(y.trans s).out B,_,_,_,_,_,rfl,D,C,by rw[aB,U];rfl,λz N=>?_⟩⟩;rcases aU.mp N with w'|w'
    ·exact G z w'
    ·rw[aS.mp w']
     exact⟨v,by show M<3;lia⟩
   ·refine⟨_,rfl,.inl ⟨rfl,_,bN.of d⟩,_,rfl,_,rfl,fy,λq L=>?_⟩
    have s:=aG.new (o:=.tup [V.int r,.int g]) L;have f:=ay (H:=p) (a:=q) (o:=.tup [V.int r,.int g]);generalize upd p q (.tup [V.int r,.int g])=H3 at s f;have j:=s _ _ d;obtain⟨D,C⟩:=NB (cl:=cl) j (u.mono λb x=>s.cz) f;refine⟨l,_,_,rfl,rfl,j,(by rw[af,u.len,af];exact b4 ∅),vf _ _ ⟨(y.trans s).out B,_,_,_,_,_,rfl,D,C,by rw[aB,U];rfl,λz N=>?_⟩⟩;rcases aU.mp N with w'|w'
    ·exact G z w'
    ·rw[aS.mp w']
     exact⟨v,hg⟩
  ·rintro I p ⟨y,A,cl,X,O,S,rfl,d,u,U,G⟩
   exact⟨_,rfl,k l A p cl y B d u ∅ ∅ G⟩
inductive Lj(K:ah)(CT C:Addr)(vs:List V)(H:Hp)(Q:VK)(E:XK):Prop
 |mk (p dx tp ln lr:Addr) (ns:List Int) (rs:List R5):vs=[.ref p,.ref tp]->H p=some (.ins C dx [])->dM K CT H tp ln lr ns rs->rs.length<=20->(∀r∈rs,1<=r.d/\r.d<=4)->(∀lu (ls:List Addr) H',H lu=none->(∀l∈ls,H l=none)->lu∉ls->ls.Nodup->ls.length=rs.length->H' p=some (.ins C dx [("town",.ref tp),("upright",.ref lu)])->H' lu=some (.lst (ls.map V.ref))->(∀(j:Nat) l r,ls[j]?=some l->rs[j]?=some r->H' l=some (.lst (bF (av r.d.toNat))))->(∀b o,H b=some o->b≠p->H' b=some o)->Q .f9 H')->Lj K CT C vs H Q E
theorem FF(T:Txt K mg t):cH P w K mg base iS 3 t.ji t.lE ["self","town"]  (Lj K t.bA t.dc):=by
 refine T.yk.F.jK vG λH Q E hr h=>?_
 ·obtain⟨p,Y,B,ln,lr,ns,rs,rfl,hp,hT,vq,hw,k⟩:=h
  refine⟨_,(au (gC (pv 0) (pv 1) rfl) (bz (gC (pv 0) (gO (kO vG ["rope","town"] [none,some 1]) rfl (fz rfl T.ig (gE (bq (pv 1) rfl))) (λ_ _ _ _=>by exact (gS 0 AV)) (λ_ _ _ _=>by exact mS) (λ_ _ _ _=>by exact (fQ (Jw rfl) (by rfl) T.rV boot_list (gE (fQ Ht (by rfl) T.ig boot_range (gE (cG (Ia T) hr T.DL (k9 (pv 1) (pv 0))))))))) rfl))),?_⟩
  left
  obtain⟨⟨dt,htp⟩,_⟩:=id hT;have n6:B≠p:=pU htp hp λz=>by have:=(HO.ins.inj z).2.2;cases this
  refine⟨_,rfl,_,rfl,p,_,Y,[],rfl,hp,T.eS,T.kX,!_,?_⟩;rw[d9 (names:=[]) rfl rfl];generalize L:upd H p (.ins t.dc Y ([]++[(Str.ofString "town",V.ref B)]))=H1;have Z:∀b o,H b=some o->b≠p->H1 b=some o:=λb o e U=>by rw[<- L,aO U];exact e
  have v:H1 p=some (.ins t.dc Y [(Str.ofString "town",V.ref B)]):=by rw[<- L];exact ay
  have I:=hT.but Z hp n6;have f1:∀{l:Addr},H1 l=none->H l=none:=λ{l} e=>by
   cases q:H l with
   |none=>rfl
   |some o =>
    by_cases z:l=p
    ·rw[z,v] at e;cases e
    ·have:=Z _ _ q z
     rw[e] at this;cases this
  obtain⟨⟨dt,al9⟩,_⟩:=id I;refine⟨_,rfl,B,_,dt,_,_,rfl,al9,T.f6,T.vR,rfl,_,rfl,(by show -(2^62)<=((rs.length:Nat):Int);lia),(by show ((rs.length:Nat):Int)<2^62;lia),λc a=>?_⟩;refine gf (n:=(((rs.length:Nat):Int)).toNat) (λi ys S=>∃f:List Addr,ys=f.map V.ref/\f.length=i/\f.Nodup/\(∀l∈f,H l=none/\S l≠none)/\∀(j:Nat) l r,f[j]?=some l->rs[j]?=some r->S l=some (.lst (bF (av r.d.toNat)))/\l≠c) a AD qR ⟨[],rfl,rfl,jY,λl u=>(by cases u),λj l r e=>by simp at e⟩ ?_ ?_
  ·rintro i ys S R A O ⟨f,rfl,s,nd,m,g⟩ x H3 ⟨rfl,rfl⟩
   have R:i<rs.length:=by simpa using R
   have Fz:rs[i]?=some rs[i]:=aa R;have wi:=hw _ (aC Fz);obtain⟨d,ed⟩:∃d:Nat,rs[i].d=(d:Int):=⟨rs[i].d.toNat,∅⟩;refine⟨_,rfl,_,rfl,B,ln,lr,ns,rs,i,rs[i],(by show [V.ref B,V.int (0+(i:Int))]=_;rw[dw]),I.mono A,Fz,?_⟩;refine⟨rs[i].d,rfl,λq hq=>?_⟩;have W:=aG.new (o:=.Sn 0 rs[i].d) hq;refine⟨q,d,rfl,(by rw[ay,ed]),∅,λl u=>?_⟩;have UW:H l=none:=f1 ((A.trans W).free u);have nl:l∉f:=λz=>(m l z).2 (W.free u);have C:=W.trans (aG.new (o:=.lst ((av d).map λk=>V.int (k:Nat))) u);have J:=C _ _ O;have XA:(upd (upd H3 q (.Sn 0 rs[i].d)) l (.lst ((av d).map λk=>V.int (k:Nat)))) l=some (.lst (bF (av d))):=ay;have y:l≠c:=(aQ (W _ _ O) u).symm;generalize upd (upd H3 q (.Sn 0 rs[i].d)) l (.lst ((av d).map λk=>V.int (k:Nat)))=H4 at C J XA;refine dY a (by simpa using R) (A.trans C) J (by rw[af,s];exact b4 ∅) ⟨f++[l],by rw[aK];rfl,by rw[aB,s];rfl,Gr.Dl nd nl,λG hl'=>?_,λj G r N M=>?_⟩
   ·rcases aU.mp hl' with z|z
    ·obtain⟨z1,X⟩:=m G z
     refine⟨z1,?_⟩;by_cases q:G=c
     ·rw[q,ay];exact aW _
     ·rw[aO q]
      cases e:H3 G with
      |none=>exact cy e X
      |some o=>rw[C _ _ e];exact aW _
    ·rw[aS.mp z]
     exact⟨UW,by rw[aO y,XA];exact aW _⟩
   ·rcases ER N with N|⟨rfl,rfl⟩
    ·obtain⟨z1,X⟩:=g j G r N M
     exact⟨by rw[aO X];exact C _ _ z1,X⟩
    ·rw[s,Fz] at M
     cases M;rw[ed,cO];exact⟨by rw[aO y];exact XA,y⟩
  ·rintro ys S A O ⟨f,rfl,s,nd,m,g⟩
   have s:f.length=rs.length:=by simpa using s
   have npa:p≠c:=aQ v a;have D:=A _ _ v;refine⟨_,rfl,p,_,Y,_,rfl,D,T.eS,T.gR,(by show 1<1000;decide),?_⟩;rw[d9 (names:=["town"]) rfl (by decide +kernel)];refine k c f _ (f1 a) (λl u=>(m l u).1) (λz=>?_) nd s ay (by rw[aO (bO npa)];exact O) (λj l r N M=>?_) λb o e U=>by rw[aO U];exact A _ _ (Z _ _ e U)
   ·obtain⟨j,hj⟩:=cE z
    have hjl:=(ai.mp hj).1;exact (g j c _ hj (aa (s▸hjl))).2 rfl
   ·have z:=(g j l r N M).1
    rw[aO (pU z D (by intro z;cases z))];exact z
inductive Ic(K:ah)(C:Addr)(vs:List V)(H:Hp)(Q:VK)(E:XK):Prop
 |mk (tp ln lr:Addr) (ns:List Int) (rs:List R5):vs=[.ref tp]->dM K C H tp ln lr ns rs->ns.length<=12->(∀l (qs:List Addr) H',aG H H'->H l=none->H' l=some (.lst (qs.map V.ref))->dg K H' qs (iE ns.length (An ns))->Q (.ref l) H')->Ic K C vs H Q E
theorem My(T:Txt K mg t):cH P w K mg base iS 3 t.oS t.sV ["town"]  (Ic K t.bA):=by
 refine T.Fc.F.jK CH λH Q E z h=>?_
 ·obtain⟨v,B,D,ns,y,rfl,u,G,k⟩:=h
  refine⟨_,(oR (gO (kO CH ["house","town"] [none,some 0]) rfl (fz rfl T.ig (gE (bq (pv 0) rfl))) (λ_ _ _ _=>by exact (gS 0 GJ)) (λ_ _ _ _=>by exact mS) (λ_ _ _ _=>by exact (cG (K9 T) z T.GK (k9 (pv 1) (pv 0)))))),?_⟩
  left
  obtain⟨⟨C,m⟩,_⟩:=id u;refine⟨_,rfl,v,_,C,_,_,rfl,m,T.f6,T.nU,rfl,(ns.length:Int),rfl,∅,∅,λr a=>?_⟩;refine gf (n:=((ns.length:Int)).toNat) (λi p l=>∃c:List Addr,p=c.map V.ref/\dg K l c (iE i (An ns))) a AD qR ⟨[],rfl,⟨rfl,λi q x e=>by cases e⟩⟩ ?_ ?_
  ·rintro i p l g j s ⟨c,rfl,f⟩ x L ⟨rfl,rfl⟩
   have g:i<ns.length:=by simpa using g
   rw[dw];refine⟨_,rfl,_,rfl,v,B,D,ns,y,i,ns[i],rfl,u.mono j,aa g,λq I o A=>?_⟩;have d:=o _ _ s;have J:c.length=i:=by rw[f.len];simp[iE]
   refine dY a (by simpa using g) (j.trans o) d (by rw[af];exact b4 ∅) ⟨c++[q],by rw[aK];rfl,?_⟩;have e:iE (i+1) (An ns)=iE i (An ns)++[c7 ⟨ns[i],0,0,-1⟩]:=by
    unfold iE;rw[gA,aK,bG,xM];congr 3;unfold An;rw[ao,aa g];rfl
   rw[e];exact (dg.snoc (f.mono λb x=>o.cz) A).mono λb x=>cX.past d jf b9
  ·rintro p l j s ⟨c,rfl,f⟩
   rw[show ((ns.length:Int)).toNat=ns.length from rfl] at f;exact k r c l j a s f
inductive BO(K:ah)(C:Addr)(vs:List V)(H:Hp)(Q:VK)(E:XK):Prop
 |mk (tp ln lr lc:Addr) (ns:List Int) (rs:List R5) (qs:List Addr) (cl:List (Nat×Nat)):vs=[.ref tp,.ref lc]->dM K C H tp ln lr ns rs->bN K H lc (qs.map V.ref)->dg K H qs (cl.map λc=>[.int c.1,.int c.2])->cl.length<=20->(∀c∈cl,c.1<ns.length/\c.2<3)->Q .f9 H->BO K C vs H Q E
theorem G4(T:Txt K mg t):cH P w K mg base iS 1 t.jP t.m5 ["town","callers"]  (BO K t.bA):=by
 refine T.zZ.F.jK ya λH Q E M h=>?_
 ·obtain⟨B,N,O,l,ns,L,f,cl,rfl,I,p,x,R,s,k⟩:=h
  refine⟨_,(au (b6 (qT P4 (lS T.fK (pv 1)) (mQ rfl T.Kq (v:=.int 20) ⟨_,rfl⟩)) eN bw) (bz (fS (fE (pv 1)) (gT 2 ya) (au (b6 (qT vz (lS T.fK (pv 2)) aA) eN bw) (au (b6 (iQ (jI qP nZ aA (xT (pv 2) aA) (bq (pv 0) rfl))) eN bw) (bz (b6 (iQ (jI qP nZ aA (xT (pv 2) aA) (lS T.fK (mQ rfl T.lI (v:=.ref t.fh) rfl)))) eN bw))))))),?_⟩
  left
  obtain⟨⟨D,m⟩,_⟩:=id I;have J:f.length=cl.length:=by rw[x.len,af]
  refine⟨_,rfl,l,_,rfl,.inl p,_,_,rfl,rfl,_,rfl,MW (e8 (by rw[af];lia)) ?_⟩;refine⟨_,rfl,l,rfl,⟨_,p⟩,tM (K:=K) (a:=l) (xs:=f.map V.ref) (λi g e=>e=H/\∃r:Option V,g=[some (.ref B),some (.ref l),r]) ⟨rfl,_,rfl⟩ (λi g e _ z=>by rw[z.1];exact p) ?_ ?_⟩
  ·rintro i y g e o ⟨rfl,r,rfl⟩
   have b:=(ai.mp o).1;rw[af] at b;have c:i<cl.length:=J▸b;have C:y=.ref f[i]:=by
    rw[ak,aa b] at o;exact (aJ o).symm
   subst C;have d:cX K e f[i] [.int cl[i].1,.int cl[i].2]:=x.at' i _ _ (aa b) (by rw[ak,aa c];rfl);obtain⟨u,A⟩:=s _ (aH c);generalize f[i]=q at d;generalize cl[i]=cc at d u A;obtain⟨n,j⟩:=cc;refine⟨_,rfl,q,_,rfl,.inr d,rfl,_,rfl,MW (by show (!decide (V.int 2=V.int 2))=false;rw[eH rfl];rfl) ?_⟩;refine⟨_,rfl,q,_,_,_,rfl,rfl,d,rfl,_,_,rfl,rfl,_,rfl,?_⟩;rw[eH (show (0:Int)<=(n:Int) by lia)];refine dZ ⟨_,rfl,B,_,D,_,_,rfl,m,T.f6,T.nU,rfl,_,_,rfl,rfl,_,rfl,?_⟩;rw[eH (show (n:Int)<(ns.length:Int) by have:n<ns.length:=u;lia)];refine dh ?_;refine⟨_,rfl,q,_,_,_,rfl,rfl,d,rfl,_,_,rfl,rfl,_,rfl,?_⟩;rw[eH (show (0:Int)<=(j:Int) by lia)];refine dZ ⟨_,_,rfl,.inr (T.gz _),_,_,rfl,rfl,_,rfl,?_⟩;have G:decide ((j:Int)<((([.int 1,.int 2,.int 4]:List V).length:Nat):Int))=true:=eH (by show (j:Int)<3;have:j<3:=A;lia);rw[G];exact dh ⟨rfl,_,rfl⟩
  ·rintro g e ⟨rfl,r,rfl⟩
   exact k
end
abbrev nc(t:Ad):NC:=⟨t.c8,t.dc,t.gv,t.jQ,t.jl,t.gQ,t.jB⟩
section
variable{P:Program}{w:World}{K:ah}{mg:Str->Option Value}{base:Heap}
inductive ND(K:ah)(CT:Addr)(c:NC)(vs:List V)(H:Hp)(Q:VK)(E:XK):Prop
 |mk (p dx tp ln lr lc:Addr) (ns:List Int) (rs:List R5) (qs:List Addr) (cl:List (Nat×Nat)):vs=[.ref p,.ref tp,.ref lc]->H p=some (.ins c.dG dx [])->dM K CT H tp ln lr ns rs->ns.length<=12->rs.length<=20->(∀r∈rs,1<=r.d/\r.d<=4)->bN K H lc (qs.map V.ref)->dg K H qs (cl.map λc=>[.int c.1,.int c.2])->cl.length<=20->(∀c∈cl,c.1<ns.length/\c.2<3)->(∀F H',dH K c H' F p tp ns.length (S0 ns rs cl)->(∀b o,H b=some o->b≠p->H' b=some o)->(∀b,F b->b=p∨H b=none)->Q .f9 H')->ND K CT c vs H Q E
abbrev nf(fs:List (Str×V))(k:Str)(v:V):List (Str×V):=fs++[(k,v)]
structure Ie(K:ah)(CT:Addr)(H:Hp)(tp ln lr lc:Addr)(ns:List Int)(rs:List R5)(qs:List Addr)(cl:List (Nat×Nat)):Prop where
 l5:dM K CT H tp ln lr ns rs
 lC:bN K H lc (qs.map V.ref)
 tup:dg K H qs (cl.map λc=>[.int c.1,.int c.2])
theorem Ie.mono(h:Ie K CT H tp ln lr lc ns rs qs cl)(s:aG H H'):Ie K CT H' tp ln lr lc ns rs qs cl:=⟨h.l5.mono s,s.seq h.lC,h.tup.mono λb x=>s.cz⟩
theorem Ie.put(h:Ie K CT H tp ln lr lc ns rs qs cl)(a:H p=some (.ins C dx fs))(n:tp≠p):Ie K CT (upd H p o) tp ln lr lc ns rs qs cl :=
 ⟨h.l5.but (λb u e c=>by rw[aO c];exact e) a n,bN.past a ZF b9 h.lC,h.tup.mono λb x=>cX.past a oq b9⟩
theorem yx(la:Nat->Addr)(i:Nat)(l:Addr):(av (i+1)).map (λg=>V.ref (gH la i l g))=(av i).map (λg=>V.ref (la g))++[.ref l]:=by
 rw[gA,aK,bG,xM,cQ];congr 1;refine cY λg a=>?_;rw[e9 (bH (bB.mp a))]
def afC(loc:Role->Addr)(acc:Addr)(la:Nat->Addr):Role->Addr
 |.vE=>acc
 |.rows g=>la g
 |r=>loc r
def obR(ob:Role->Option HO)(la:Nat->Addr)(rq:Nat->List Addr)(i:Nat):Role->Option HO
 |.vE=>some (.lst ((av i).map λg=>.ref (la g)))
 |.rows g=>if g<i then some (.lst ((rq g).map V.ref)) else none
 |r=>ob r
def ab3(loc:Role->Addr)(acc:Addr)(lb ld:Nat->Addr):Role->Addr
 |.kK=>acc
 |.book g=>lb g
 |.gj g=>ld g
 |r=>loc r
def obB(C:Addr)(ob:Role->Option HO)(Ui lb ld:Nat->Addr)(i:Nat):Role->Option HO
 |.kK=>some (.lst ((av i).map λg=>.ref (lb g)))
 |.book g=>if g<i then some (.ins C (Ui g) [("kept",.ref (ld g))]) else none
 |.gj g=>if g<i then some (.dT []) else none
 |r=>ob r
def aip(loc:Role->Addr)(acc:Addr)(lh:Nat->Addr):Role->Addr
 |.j7=>acc
 |.handed g=>lh g
 |r=>loc r
def obH(ob:Role->Option HO)(lh:Nat->Addr)(i:Nat):Role->Option HO
 |.j7=>some (.lst ((av i).map λg=>.ref (lh g)))
 |.handed g=>if g<i then some (.lst []) else none
 |r=>ob r
def dxF(dx dxs:Addr)(Ui:Nat->Addr):Role->Addr
 |.dG=>dx
 |.c9=>dxs
 |.book g=>Ui g
 |_=>0
def aiq(p sp lu:Addr)(ls:List Addr)(acc:Addr)(la:Nat->Addr)(acb:Addr)(lb ld:Nat->Addr)(ach mj acd:Addr)(lh:Nat->Addr)(acl z0:Addr):Role->Addr
 |.dG=>p
 |.c9=>sp
 |.dP=>lu
 |.gX i=>ls.getD i 0
 |.vE=>acc
 |.rows g=>la g
 |.kK=>acb
 |.book g=>lb g
 |.gj g=>ld g
 |.aE=>ach
 |.groups=>mj
 |.j7=>acd
 |.handed i=>lh i
 |.cU=>acl
 |.fM=>z0
 |_=>0
theorem Mz(T:Txt K mg t):cH P w K mg base iS 5 t.oN t.sQ ["self","town","callers"]  (ND K t.bA (nc t)):=by
 refine T.E9.F.jK jU λH Q E hr h=>?_
 ·obtain⟨p,s,y,ln,lr,lc,ns,rs,qs,cl,rfl,hp,hT,h12,vq,hw,hL,xJ,ab6,hok,k⟩:=h
  refine⟨_,(au (fD (cG (G4 T) hr T.zZ (k9 (pv 1) (pv 2)))) (au (gC (pv 0) (pv 1) rfl) (au (gC (pv 0) (cI T.yk (FF T) hr T.Xn (gE (pv 1))) rfl) (au (gC (pv 0) (gO (kO jU ["bit","town"] [none,some 1]) rfl (Sv (mQ rfl T.lI (v:=.ref t.fh) rfl)) (λ_ _ _ _=>by exact (gS 0 GD)) (λ_ _ _ _=>by exact mS) (λ_ _ _ _=>by exact (cG (My T) hr T.Fc (gE (pv 1))))) rfl) (au (gC (pv 0) (gO (kO jU ["bit"] [none]) rfl (Sv (mQ rfl T.lI (v:=.ref t.fh) rfl)) (λ_ _ _ _=>by exact (gS 0 GF)) (λ_ _ _ _=>by exact mS) (λ_ _ _ _=>by exact (YV T.wV.M (Lh T) (hr.mono (!_)) rfl T.afo T.wV.B .nil jv))) rfl) (au (gC (pv 0) (gO (kO jU ["caller"] [none]) rfl (fE (pv 2)) (λ_ _ _ _=>by exact (gS 0 GG)) (λ_ _ _ _=>by exact mS) (λ_ _ _ _=>by exact (yT K (pv 0) aA))) rfl) (au (gC (pv 0) (gO (kO jU ["caller"] [none]) rfl (fE (pv 2)) (λ_ _ _ _=>by exact (gS 0 GH)) (λ_ _ _ _=>by exact mS) (λ_ _ _ _=>by exact (yT K (pv 0) aA))) rfl) (au (gC (pv 0) (gO (kO jU ["caller"] [none]) rfl (fE (pv 2)) (λ_ _ _ _=>by exact (gS 0 GI)) (λ_ _ _ _=>by exact mS) (λ_ _ _ _=>by exact (gV fX))) rfl) (au (gC (pv 0) (gV fX) rfl) (bz (gC (pv 0) (gV fX) rfl))))))))))),?_⟩
  left
  obtain⟨⟨dt,htp⟩,htn,vs,htr,_⟩:=id hT;have n6:y≠p:=pU htp hp λz=>by have:=(HO.ins.inj z).2.2;cases this
  refine bC λNx U=>?_;refine⟨_,rfl,_,rfl,y,ln,lr,lc,ns,rs,qs,cl,rfl,hT,hL,xJ,ab6,hok,U _ _ ?_⟩;have B0:Ik H H p (λ_=>p) (λr=>if r=.dG then some (.ins t.c8 s []) else none):=by
   refine⟨⟨λr o e=>?_,λr q h1 h2 _=>?_⟩,rfl,-_,λb o e _=>e,λb hb=>.inl ?_⟩
   ·by_cases z:r=.dG
    ·rw[aq z] at e;cases e;exact hp
    ·rw[b3 z] at e;cases e
   ·have g:∀{r:Role},(if r=Role.dG then some (HO.ins t.c8 s []) else none)≠none->r=.dG:=λ{r} h=>by
     by_cases z:r=.dG
     ·exact z
     ·rw[b3 z] at h;exact cy rfl h
    rw[g h1,g h2]
   ·obtain⟨_,_,e⟩:=hb
    exact e.symm
  refine bC λNx U=>?_;refine⟨_,rfl,_,rfl,p,_,s,[],rfl,hp,T.bJ,T.nH,!_,?_⟩;rw[d9 (names:=[]) rfl rfl];refine U _ _ ?_;have B1:=B0.put (.ins t.c8 s ([]++[(Str.ofString "town",V.ref y)]));have hT1:dM K t.bA (upd H p (.ins t.c8 s ([]++[(Str.ofString "town",V.ref y)]))) y ln lr ns rs:=hT.but (λb o e n=>by rw[aO n];exact e) hp n6;have hp1:=ay (H:=H) (a:=p) (o:=.ins t.c8 s ([]++[(Str.ofString "town",V.ref y)]));have kq1:∀b x,cX K H b x->cX K (upd H p (.ins t.c8 s ([]++[(Str.ofString "town",V.ref y)]))) b x:=λb x=>cX.past hp oq b9;have hL1:=bN.past hp ZF (b9 (o:=.ins t.c8 s ([]++[(Str.ofString "town",V.ref y)]))) hL;have aaq:=xJ.mono kq1;generalize upd H p (.ins t.c8 s ([]++[(Str.ofString "town",V.ref y)]))=H1 at B1 hT1 hp1 hL1 aaq;refine bC λNx U=>?_;refine⟨_,rfl,λJ I nsp Wv hne=>?_⟩;have t2:aG H1 (upd (upd H1 I (.own J)) J (.ins t.dc I [])):=(aG.new Wv).trans (aG.new (by rw[aO (bO hne)];exact nsp));refine⟨J,I,y,ln,lr,ns,rs,rfl,ay,hT1.mono t2,vq,hw,λlu L H2 LY hls nlu nd el h2p h2u h2w kp=>⟨rfl,?_⟩⟩;have s2:aG H1 H2:=λb o e=>kp b o (t2 b o e) (aQ e nsp);have ais:H1 lu=none:=t2.free LY;have ait:∀l∈L,H1 l=none:=λl hl=>t2.free (hls l hl);have OS:wG H2 (abP J lu L) (Xe t.dc I y lu L (rs.map λr=>av r.d.toNat)):=by
   refine afg h2p h2u (by rw[af];exact el) (λi l w' e1 e2=>?_) nd nlu;rw[ak] at e2;cases e3:rs[i]? with
   |none=>rw[e3] at e2;cases e2
   |some r=>rw[e3] at e2;cases e2;exact h2w i l r e1 e3
  have B2:=B1.join OS rfl (λr m=>by
   cases r <;> first|exact cy rfl m|skip
   ·exact nsp
   ·exact ais
   ·rename_i i
    show H1 (L.getD i 0)=none;by_cases z:i<L.length
    ·rw[ao,aa z]
     exact ait _ (aH z)
    ·exact cy (show ((rs.map λr:R5=>av r.d.toNat)[i]?.map λw=>HO.lst (bF w))=none by rw[jH (by rw[af];lia)];rfl) m) s2
  have aiu:Ie K t.bA H2 y ln lr lc ns rs qs cl:=⟨hT1.mono s2,s2.seq hL1,aaq.mono λb x=>s2.cz⟩;have hp2:=s2 _ _ hp1;refine⟨_,rfl,p,_,s,_,rfl,hp2,T.bJ,T.mL,(by show 1<1000;decide),?_⟩;rw[d9 (names:=["town"]) rfl (by decide +kernel)];refine U _ _ ?_;have B3:=B2.put (.ins t.c8 s (([]++[(Str.ofString "town",V.ref y)])++[(Str.ofString "strands",V.ref J)]));have afF:=aiu.put hp2 n6 (o:=.ins t.c8 s (([]++[(Str.ofString "town",V.ref y)])++[(Str.ofString "strands",V.ref J)]));have hp3:=ay (H:=H2) (a:=p) (o:=.ins t.c8 s (([]++[(Str.ofString "town",V.ref y)])++[(Str.ofString "strands",V.ref J)]));generalize upd H2 p (.ins t.c8 s (([]++[(Str.ofString "town",V.ref y)])++[(Str.ofString "strands",V.ref J)]))=H3 at B3 afF hp3;generalize amc:(λr=>if (Xe t.dc I y lu L (rs.map λr:R5=>av r.d.toNat) r).isSome=true then abP J lu L r else p)=IF at B3;generalize Y0:(iT (λr=>if (Xe t.dc I y lu L (rs.map λr:R5=>av r.d.toNat) r).isSome=true then Xe t.dc I y lu L (rs.map λr:R5=>av r.d.toNat) r else iT (λr=>if r=.dG then some (.ins t.c8 s []) else none) .dG (.ins t.c8 s ([]++[(Str.ofString "town",V.ref y)])) r) .dG (.ins t.c8 s (([]++[(Str.ofString "town",V.ref y)])++[(Str.ofString "strands",V.ref J)])))=GN at B3;refine bC λNx U=>?_;refine⟨_,rfl,⟨_,T.gz _⟩,λA hacc=>?_⟩;refine gf (n:=3) (λi ys Z=>∃(X:Nat->Addr) (G:Nat->List Addr),ys=(av i).map (λg=>.ref (X g))/\Ik H Z p (afC IF A X) (obR GN X G i)/\(∀g,g<i->dg K Z (G g) (iE ns.length (An ns)))) hacc (S4 (T.gz _)) (JC (T.gz _)) ?_ ?_ ?_
  ·refine⟨λ_=>0,λ_=>[],rfl,(B3.new hacc (r:=.vE) (!_) (.lst [])).ext (λr=>?_) (λr m=>?_),λg D=>cy D ∅⟩
   ·cases r <;> first|rfl|skip
    rename_i g;show GN (.rows g)=_;rw[show GN (.rows g)=none by rw[<- Y0];rfl];show none=(if g<0 then some (HO.lst (([]:List Addr).map V.ref)) else none);rw[b3 (ko g)]
   ·cases r <;> first|rfl|skip
    rename_i g;exact cy (show GN (.rows g)=none by rw[<- Y0];rfl) m
  ·rintro i ys Z hi sx Y ⟨X,G,rfl,B,hR⟩ x H4 ⟨rfl,hx⟩
   refine⟨_,rfl,y,ln,lr,ns,rs,rfl,(afF.mono sx).l5,h12,λl LM H5 s5 hl h5 ht=>?_⟩;have hy5:=s5 _ _ Y;have B5:=((B.add s5 hl h5 (r:=.rows i) (λz=>by cases z)).afe (r:=.vE) (aW _) (λz=>by cases z) (.lst ((av i).map (λg=>V.ref (X g))++[.ref l])));have hl5:l≠A:=(aQ Y hl).symm;refine dY hacc hi (sx.trans s5) hy5 (by rw[af,be];exact b4 ∅) ⟨gH X i l,gH G i LM,(yx X i l).symm,B5.ext (λr=>?_) (λr m=>?_),λg D=>?_⟩
   ·cases r <;> first|rfl|skip
    ·show some (HO.lst _)=some (HO.lst _)
     rw[yx]
    ·rename_i g
     show iT (obR GN X G i) (.rows i) _ (.rows g)=if g<i+1 then some (HO.lst ((gH G i LM g).map V.ref)) else none
     by_cases z:g=i
     ·subst z
      rw[d7,aq ∅,cQ]
     ·rw[c6 (λe=>z (by cases e;rfl)),e9 z]
      show (if g<i then some (HO.lst ((G g).map V.ref)) else none)=_;by_cases z2:g<i
      ·rw[aq z2,aq ∅]
      ·rw[b3 z2,b3 ∅]
   ·cases r <;> first|rfl|skip
    rename_i g;show rG (afC IF A X) (.rows i) l (.rows g)=gH X i l g;by_cases z:g=i
    ·subst z
     rw[gq,cQ]
    ·rw[fN (λe=>z (by cases e;rfl)),e9 z]
     rfl
   ·by_cases z:g=i
    ·subst z
     rw[cQ];exact ht.mono λb x=>cX.past hy5 jf b9
    ·rw[e9 z]
     exact ((hR g ∅).mono λb x=>s5.cz).mono λb x=>cX.past hy5 jf b9
  rintro ys H4 s4 Y ⟨X,G,rfl,B4,hR4⟩;have aiw:=afF.mono s4;have Ym:=s4 _ _ hp3;refine⟨_,rfl,p,_,s,_,rfl,Ym,T.bJ,T.lP,(by show 2<1000;decide),?_⟩;rw[d9 (names:=["town","strands"]) rfl (by decide +kernel)];refine U _ _ ?_;generalize eo5:HO.ins t.c8 s ((([]++[(Str.ofString "town",V.ref y)])++[(Str.ofString "strands",V.ref J)])++[(Str.ofString "rows_by_group",V.ref A)])=o5;have B5:=B4.put o5;have afG:=aiw.put Ym n6 (o:=o5);have hp5:=ay (H:=H4) (a:=p) (o:=o5);have hR5:∀g,g<3->dg K (upd H4 p o5) (G g) (iE ns.length (An ns)):=λg D=>(hR4 g D).mono λb x=>cX.past Ym oq b9;generalize upd H4 p o5=H5 at B5 afG hp5 hR5;generalize aix:afC IF A X=aar at B5;generalize afH:iT (obR GN X G 3) .dG o5=jn at B5;have n5:∀g,jn .kK=none/\jn (.book g)=none/\jn (.gj g)=none:=λg=>by rw[<- afH,<- Y0];exact⟨rfl,rfl,rfl⟩
  refine bC λNx U=>?_;refine⟨_,rfl,⟨_,T.gz _⟩,λC ab8=>?_⟩;refine gf (n:=3) (λi ys Z=>∃(O ld Ui:Nat->Addr),ys=(av i).map (λg=>.ref (O g))/\Ik H Z p (ab3 aar C O ld) (obB t.gv jn Ui O ld i)) ab8 (S4 (T.gz _)) (JC (T.gz _)) ?_ ?_ ?_
  ·refine⟨λ_=>0,λ_=>0,λ_=>0,rfl,(B5.new ab8 (r:=.kK) (λz=>by cases z) (.lst [])).ext (λr=>?_) (λr m=>?_)⟩
   ·cases r <;> first|rfl|skip
    ·rename_i g
     show jn (.book g)=(if g<0 then some (HO.ins t.gv 0 [("kept",.ref 0)]) else none);rw[b3 (ko g)];exact (n5 g).2.1
    ·rename_i g
     show jn (.gj g)=(if g<0 then some (HO.dT []) else none);rw[b3 (ko g)];exact (n5 g).2.2
   ·cases r <;> first|rfl|skip
    ·rename_i g
     exact cy (n5 g).2.1 m
    ·rename_i g
     exact cy (n5 g).2.2 m
  ·rintro i ys Z hi sx Y ⟨O,ld,Ui,rfl,B⟩ x H6 ⟨rfl,hx⟩
   refine λbp FU nbp amg hne=>?_;have t6:aG H6 (upd (upd H6 FU (.own bp)) bp (.ins t.gv FU [])):=(aG.new amg).trans (aG.new (by rw[aO (bO hne)];exact nbp));refine⟨bp,FU,rfl,ay,λd H7 hd hB kp=>⟨rfl,?_⟩⟩;have s7:aG H6 H7:=λb o e=>kp b o (t6 b o e) (aQ e nbp);have hd6:H6 d=none:=t6.free hd;obtain⟨⟨Vd,h7b⟩,h7d⟩:=hB;have nbd:bp≠d:=Ti h7b h7d (λe=>by cases e);have sm:aG H6 (hide H7 d):=λb o e=>by
    have nb:b≠d:=aQ e hd6;show (if b=d then none else H7 b)=some o;rw[b3 nb];exact s7 _ _ e
   have sm2:aG (hide H7 d) H7:=λb o e=>by
    have e:(if b=d then none else H7 b)=some o:=e;by_cases z:b=d
    ·rw[aq z] at e;cases e
    ·rw[b3 z] at e;exact e
   have hmb:(hide H7 d) bp=some (.ins t.gv Vd [("kept",.ref d)]):=by
    show (if bp=d then none else H7 bp)=_;rw[b3 nbd];exact h7b
   have hmd:(hide H7 d) d=none:=aq rfl;have B1:=B.add sm nbp hmb (r:=.book i) (λz=>by cases z);have B2:=B1.add sm2 hmd h7d (r:=.gj i) (λz=>by cases z);have B3:=B2.afe (r:=.kK) (aW _) (λz=>by cases z) (.lst ((av i).map (λg=>V.ref (O g))++[.ref bp]));refine dY ab8 hi (sx.trans s7) (s7 _ _ Y) (by rw[af,be];exact b4 ∅) ⟨gH O i bp,gH ld i d,gH Ui i Vd,(yx O i bp).symm,B3.ext (λr=>?_) (λr m=>?_)⟩
   ·cases r <;> first|rfl|skip
    ·show some (HO.lst _)=some (HO.lst _)
     rw[yx]
    ·rename_i g
     show iT (obB t.gv jn Ui O ld i) (.book i) _ (.book g)=if g<i+1 then some (HO.ins t.gv (gH Ui i Vd g) [("kept",.ref (gH ld i d g))]) else none
     by_cases z:g=i
     ·subst z
      rw[d7,aq ∅,cQ,cQ]
     ·rw[c6 (λe=>z (by cases e;rfl)),e9 z,e9 z]
      show (if g<i then some (HO.ins t.gv (Ui g) [("kept",.ref (ld g))]) else none)=_;by_cases z2:g<i
      ·rw[aq z2,aq ∅]
      ·rw[b3 z2,b3 ∅]
    ·rename_i g
     show iT (iT (obB t.gv jn Ui O ld i) (.book i) _) (.gj i) _ (.gj g)=if g<i+1 then some (HO.dT []) else none
     by_cases z:g=i
     ·subst z
      rw[d7,aq ∅];rfl
     ·rw[c6 (λe=>z (by cases e;rfl))]
      show (if g<i then some (HO.dT []) else none)=_;by_cases z2:g<i
      ·rw[aq z2,aq ∅]
      ·rw[b3 z2,b3 ∅]
   ·cases r <;> first|rfl|skip
    ·rename_i g
     show rG (ab3 aar C O ld) (.book i) bp (.book g)=gH O i bp g;by_cases z:g=i
     ·subst z
      rw[gq,cQ]
     ·rw[fN (λe=>z (by cases e;rfl)),e9 z]
      rfl
    ·rename_i g
     show rG (rG (ab3 aar C O ld) (.book i) bp) (.gj i) d (.gj g)=gH ld i d g;by_cases z:g=i
     ·subst z
      rw[gq,cQ]
     ·rw[fN (λe=>z (by cases e;rfl)),e9 z]
      rfl
  rintro ys H6 s6 Y ⟨O,ld,Ui,rfl,B6⟩;have aiy:=afG.mono s6;have hR6:∀g,g<3->dg K H6 (G g) (iE ns.length (An ns)):=λg D=>(hR5 g D).mono λb x=>s6.cz;have hp6:=s6 _ _ hp5;subst eo5;refine⟨_,rfl,p,_,s,_,rfl,hp6,T.bJ,T.vU,(by show 3<1000;decide),?_⟩;rw[d9 (names:=["town","strands","rows_by_group"]) rfl (by decide +kernel)];refine U _ _ ?_;generalize eo7:HO.ins t.c8 s (((([]++[(Str.ofString "town",V.ref y)])++[(Str.ofString "strands",V.ref J)])++[(Str.ofString "rows_by_group",V.ref A)])++[(Str.ofString "books",V.ref C)])=o7;have B7:=B6.put o7;have Uj:=aiy.put hp6 n6 (o:=o7);have hp7:=ay (H:=H6) (a:=p) (o:=o7);have hR7:∀g,g<3->dg K (upd H6 p o7) (G g) (iE ns.length (An ns)):=λg D=>(hR6 g D).mono λb x=>cX.past hp6 oq b9;generalize upd H6 p o7=H7 at B7 Uj hp7 hR7;have xy:(qs.map V.ref).length=cl.length:=by rw[af,Uj.tup.len,af]
  have aiz:∀{i:Nat} {x:V} {Z:Hp},(qs.map V.ref)[i]?=some x->Ie K t.bA Z y ln lr lc ns rs qs cl->∃(hi:i<cl.length) (q:Addr),x=.ref q/\cX K Z q [.int cl[i].1,.int cl[i].2]:=λ{i x Z} hx ev=>by
   have hi:=(ai.mp hx).1;rw[xy] at hi;have hq:i<qs.length:=by rw[<- af (f:=V.ref),xy];exact hi
   refine⟨hi,qs[i],?_,ev.tup.at' i _ _ (aa hq) (by rw[ak,aa hi];rfl)⟩;rw[ak,aa hq] at hx;exact (aJ hx).symm
  refine bC λNx U=>?_;refine⟨_,rfl,lc,rfl,⟨_,Uj.lC⟩,λN afJ=>?_⟩;refine Va (λi=>cl[i]?.map λc=>V.int (c.1:Nat)) afJ Uj.lC ∅ (λi x Z R S hx sx h1 h2=>?_) (λH8 s8 Y=>?_)
  ·obtain⟨hi,q,rfl,hq⟩:=aiz hx (Uj.mono sx)
   exact⟨_,rfl,q,_,_,_,rfl,rfl,hq,rfl,h1 _ _ (aG.refl _) (by rw[aa hi];rfl)⟩
  rw[xy,JM] at Y;have B8:=B7.add s8 afJ Y (r:=.aE) (λz=>by cases z);have aiA:=Uj.mono s8;have X7:=s8 _ _ hp7;subst eo7;refine⟨_,rfl,p,_,s,_,rfl,X7,T.bJ,T.kY,(by show 4<1000;decide),?_⟩;rw[d9 (names:=["town","strands","rows_by_group","books"]) rfl (by decide +kernel)];refine U _ _ ?_;generalize eo9:HO.ins t.c8 s ((((([]++[(Str.ofString "town",V.ref y)])++[(Str.ofString "strands",V.ref J)])++[(Str.ofString "rows_by_group",V.ref A)])++[(Str.ofString "books",V.ref C)])++[(Str.ofString "homes",V.ref N)])=o9;have B9:=B8.put o9;have XC:=aiA.put X7 n6 (o:=o9);have hp9:=ay (H:=H8) (a:=p) (o:=o9);have hR9:∀g,g<3->dg K (upd H8 p o9) (G g) (iE ns.length (An ns)):=λg D=>((hR7 g D).mono λb x=>s8.cz).mono λb x=>cX.past X7 oq b9;generalize upd H8 p o9=H9 at B9 XC hp9 hR9;refine bC λNx U=>?_;refine⟨_,rfl,lc,rfl,⟨_,XC.lC⟩,λmj afK=>?_⟩;refine Va (λi=>cl[i]?.map λc=>V.int (c.2:Nat)) afK XC.lC ∅ (λi x Z R S hx sx h1 h2=>?_) (λDk FQ Y=>?_)
  ·obtain⟨hi,q,rfl,hq⟩:=aiz hx (XC.mono sx)
   exact⟨_,rfl,q,_,_,_,rfl,rfl,hq,rfl,h1 _ _ (aG.refl _) (by rw[aa hi];rfl)⟩
  rw[xy,JM] at Y;have B10:=B9.add FQ afK Y (r:=.groups) (λz=>by cases z);have adS:=XC.mono FQ;have ab9:=FQ _ _ hp9;subst eo9;refine⟨_,rfl,p,_,s,_,rfl,ab9,T.bJ,T.lH,(by show 5<1000;decide),?_⟩;rw[d9 (names:=["town","strands","rows_by_group","books","homes"]) rfl (by decide +kernel)];refine U _ _ ?_;generalize aml:HO.ins t.c8 s (((((([]++[(Str.ofString "town",V.ref y)])++[(Str.ofString "strands",V.ref J)])++[(Str.ofString "rows_by_group",V.ref A)])++[(Str.ofString "books",V.ref C)])++[(Str.ofString "homes",V.ref N)])++[(Str.ofString "groups",V.ref mj)])=jR;have B11:=B10.put jR;have Vz:=adS.put ab9 n6 (o:=jR);have afL:=ay (H:=Dk) (a:=p) (o:=jR);have afM:∀g,g<3->dg K (upd Dk p jR) (G g) (iE ns.length (An ns)):=λg D=>((hR9 g D).mono λb x=>FQ.cz).mono λb x=>cX.past ab9 oq b9;generalize upd Dk p jR=Yh at B11 Vz afL afM;generalize afN:rG (rG (ab3 aar C O ld) .aE N) .groups mj=adT at B11;generalize adU:iT (iT (iT (iT (iT (obB t.gv jn Ui O ld 3) .dG _) .aE _) .dG _) .groups _) .dG jR=aas at B11;have n11:∀g,aas .j7=none/\aas (.handed g)=none:=λg=>by rw[<- adU,<- afH,<- Y0];exact⟨rfl,rfl⟩
  refine bC λNx U=>?_;refine⟨_,rfl,lc,rfl,⟨_,Vz.lC⟩,λW ace=>?_⟩;refine gf (n:=(qs.map V.ref).length) (λi ys Z=>∃lh:Nat->Addr,ys=(av i).map (λg=>.ref (lh g))/\Ik H Z p (aip adT W lh) (obH aas lh i)) ace (wA Vz.lC) (lY Vz.lC) ?_ ?_ ?_
  ·refine⟨λ_=>0,rfl,(B11.new ace (r:=.j7) (λz=>by cases z) (.lst [])).ext (λr=>?_) (λr m=>?_)⟩
   ·cases r <;> first|rfl|skip
    rename_i g;show aas (.handed g)=(if g<0 then some (HO.lst []) else none);rw[b3 (ko g)];exact (n11 g).2
   ·cases r <;> first|rfl|skip
    rename_i g;exact cy (n11 g).2 m
  ·rintro i ys Z hi sx Y ⟨lh,rfl,B⟩ x Rv ⟨rfl,hx⟩
   refine⟨aX _,λl hl=>?_⟩;have u:=aG.new (o:=.lst []) hl;have B3:=(B.new hl (r:=.handed i) (λz=>by cases z) (.lst [])).afe (r:=.j7) (aW _) (λz=>by cases z) (.lst ((av i).map (λg=>V.ref (lh g))++[.ref l]));refine dY ace hi (sx.trans u) (u _ _ Y) (by rw[af,be];exact b4 ∅) ⟨gH lh i l,(yx lh i l).symm,B3.ext (λr=>?_) (λr m=>?_)⟩
   ·cases r <;> first|rfl|skip
    ·show some (HO.lst _)=some (HO.lst _)
     rw[yx]
    ·rename_i g
     show iT (obH aas lh i) (.handed i) _ (.handed g)=if g<i+1 then some (HO.lst []) else none
     by_cases z:g=i
     ·subst z
      rw[d7,aq ∅]
     ·rw[c6 (λe=>z (by cases e;rfl))]
      show (if g<i then some (HO.lst []) else none)=_;by_cases z2:g<i
      ·rw[aq z2,aq ∅]
      ·rw[b3 z2,b3 ∅]
   ·cases r <;> first|rfl|skip
    rename_i g;show rG (aip adT W lh) (.handed i) l (.handed g)=gH lh i l g;by_cases z:g=i
    ·subst z
     rw[gq,cQ]
    ·rw[fN (λe=>z (by cases e;rfl)),e9 z]
     rfl
  rintro ys Rv s12 Y ⟨lh,rfl,B12⟩;rw[xy] at B12;have aiC:∀g,g<3->dg K Rv (G g) (iE ns.length (An ns)):=λg D=>(afM g D).mono λb x=>s12.cz;have afO:=s12 _ _ afL;subst aml;refine⟨_,rfl,p,_,s,_,rfl,afO,T.bJ,T.Fd,(by show 6<1000;decide),?_⟩;rw[d9 (names:=["town","strands","rows_by_group","books","homes","groups"]) rfl (by decide +kernel)];refine U _ _ ?_;generalize amn:HO.ins t.c8 s ((((((([]++[(Str.ofString "town",V.ref y)])++[(Str.ofString "strands",V.ref J)])++[(Str.ofString "rows_by_group",V.ref A)])++[(Str.ofString "books",V.ref C)])++[(Str.ofString "homes",V.ref N)])++[(Str.ofString "groups",V.ref mj)])++[(Str.ofString "handed",V.ref W)])=o13;have B13:=B12.put o13;have afP:=ay (H:=Rv) (a:=p) (o:=o13);have afQ:∀g,g<3->dg K (upd Rv p o13) (G g) (iE ns.length (An ns)):=λg D=>(aiC g D).mono λb x=>cX.past afO oq b9;generalize upd Rv p o13=H13 at B13 afP afQ;refine bC λNx U=>?_;refine⟨aX _,λacl afR=>?_⟩;have B14:=B13.new afR (r:=.cU) (λz=>by cases z) (.lst []);have u14:=aG.new (o:=.lst []) afR;have acf:=u14 _ _ afP;have afS:∀g,g<3->dg K (upd H13 acl (.lst [])) (G g) (iE ns.length (An ns)):=λg D=>(afQ g D).mono λb x=>u14.cz;generalize upd H13 acl (.lst [])=H14 at B14 acf afS;subst amn;refine⟨_,rfl,p,_,s,_,rfl,acf,T.bJ,T.eX,(by show 7<1000;decide),?_⟩;rw[d9 (names:=["town","strands","rows_by_group","books","homes","groups","handed"]) rfl (by decide +kernel)];refine U _ _ ?_;generalize amu:HO.ins t.c8 s (((((((([]++[(Str.ofString "town",V.ref y)])++[(Str.ofString "strands",V.ref J)])++[(Str.ofString "rows_by_group",V.ref A)])++[(Str.ofString "books",V.ref C)])++[(Str.ofString "homes",V.ref N)])++[(Str.ofString "groups",V.ref mj)])++[(Str.ofString "handed",V.ref W)])++[(Str.ofString "letters",V.ref acl)])=o15;have B15:=B14.put o15;have aiD:=ay (H:=H14) (a:=p) (o:=o15);have aiE:∀g,g<3->dg K (upd H14 p o15) (G g) (iE ns.length (An ns)):=λg D=>(afS g D).mono λb x=>cX.past acf oq b9;generalize upd H14 p o15=H15 at B15 aiD aiE;refine⟨aX _,λz0 aiF=>?_⟩;have B16:=B15.new aiF (r:=.fM) (λz=>by cases z) (.lst []);have u16:=aG.new (o:=.lst []) aiF;have afT:=u16 _ _ aiD;have aiG:∀g,g<3->dg K (upd H15 z0 (.lst [])) (G g) (iE ns.length (An ns)):=λg D=>(aiE g D).mono λb x=>u16.cz;generalize upd H15 z0 (.lst [])=H16 at B16 afT aiG;subst amu;refine⟨_,rfl,p,_,s,_,rfl,afT,T.bJ,T.jD,(by show 8<1000;decide),?_⟩;rw[d9 (names:=["town","strands","rows_by_group","books","homes","groups","handed","letters"]) rfl (by decide +kernel)];generalize amv:HO.ins t.c8 s ((((((((([]++[(Str.ofString "town",V.ref y)])++[(Str.ofString "strands",V.ref J)])++[(Str.ofString "rows_by_group",V.ref A)])++[(Str.ofString "books",V.ref C)])++[(Str.ofString "homes",V.ref N)])++[(Str.ofString "groups",V.ref mj)])++[(Str.ofString "handed",V.ref W)])++[(Str.ofString "letters",V.ref acl)])++[(Str.ofString "copies",V.ref z0)])=o17;have B17:=B16.put o17;have aiH:∀g,g<3->dg K (upd H16 p o17) (G g) (iE ns.length (An ns)):=λg D=>(aiG g D).mono λb x=>cX.past afT oq b9;generalize upd H16 p o17=H17 at B17 aiH;subst amv adU afN afH aix Y0 amc;have hws:(rs.map λr:R5=>av r.d.toNat).length=L.length:=by rw[af];exact el.symm
  have amx:L.map V.ref=(av (rs.map λr:R5=>av r.d.toNat).length).map λi=>V.ref (L.getD i 0):=by
   rw[hws];refine yE (-_) λi h1 h2=>?_;simp at h1;simp[h1]
  have B18:Ik H H17 p (aiq p J lu L A X C O ld N mj W lh acl z0) (desc (nc t) (dxF s I Ui) y (aiq p J lu L A X C O ld N mj W lh acl z0) ⟨G,λ_=>[],[]⟩ (S0 ns rs cl)):=by
   refine B17.ext (λr=>?_) (λr m=>?_)
   ·cases r <;> first|rfl|skip
    case dP =>
     show some (HO.lst (L.map V.ref))=some (HO.lst ((av (rs.map λr:R5=>av r.d.toNat).length).map λi=>V.ref (L.getD i 0)));rw[<- amx]
    case gX j =>
     show (if ((rs.map λr:R5=>av r.d.toNat)[j]?.map λw=>HO.lst (bF w)).isSome=true then ((rs.map λr:R5=>av r.d.toNat)[j]?.map λw=>HO.lst (bF w)) else none)=((rs.map λr:R5=>av r.d.toNat)[j]?.map λw=>HO.lst (bF w));cases (rs.map λr:R5=>av r.d.toNat)[j]? <;> rfl
    case aE =>
     show some (HO.lst _)=some (HO.lst ((cl.map (·.1)).map _));rw[bV];rfl
    case groups =>
     show some (HO.lst _)=some (HO.lst ((cl.map (·.2)).map _));rw[bV];rfl
    case j7 =>
     show some (HO.lst ((av cl.length).map λg=>V.ref (lh g)))=some (HO.lst ((av (cl.map λ_=>([]:List Nat)).length).map λg=>V.ref (lh g)));rw[af]
    case handed j =>
     show (if j<cl.length then some (HO.lst []) else none)=((cl.map λ_=>([]:List Nat))[j]?.map λw=>HO.lst (bF w));rw[ak];by_cases z:j<cl.length
     ·rw[aq z,aa z]
      rfl
     ·rw[b3 z,jH ∅]
      rfl
   ·cases r <;> first|rfl|exact cy rfl m|skip
    case gX j =>
     show (if ((rs.map λr:R5=>av r.d.toNat)[j]?.map λw=>HO.lst (bF w)).isSome=true then L.getD j 0 else p)=L.getD j 0;have m:(if ((rs.map λr:R5=>av r.d.toNat)[j]?.map λw=>HO.lst (bF w)).isSome=true then ((rs.map λr:R5=>av r.d.toNat)[j]?.map λw=>HO.lst (bF w)) else none)≠none:=m;cases e:(rs.map λr:R5=>av r.d.toNat)[j]? with
     |none=>rw[e] at m;exact cy rfl m
     |some w'=>rfl
  refine k _ H17 ⟨_,dxF s I Ui,⟨G,λ_=>[],[]⟩,B18.np,B18.own,λb=>Iff.rfl,⟨aiH,λi l e=>?_,⟨rfl,λi q x e=>by cases e⟩⟩⟩ B18.kp B18.fr;cases e
inductive VA(K:ah)(c:NC)(vs:List V)(H:Hp)(Q:VK)(E:XK):Prop
 |mk (F:Addr->Prop) (p tp:Addr) (n g:Nat) (s:NS):vs=[.ref p,.int g]->dH K c H F p tp n s->g<3->(∀l (qs:List Addr) H',aG H H'->H l=none->H' l=some (.lst (qs.map V.ref))->dg K H' qs (iE n (s.R g))->Q (.ref l) H')->VA K c vs H Q E
theorem vX(T:Txt K mg t):cH P w K mg base iS 2 t.ur t.za ["self","group"]  (VA K (nc t)):=by
 refine T.uH.F.jK QO λH Q E f h=>?_
 ·obtain⟨F,p,r,n,g,st,rfl,⟨a,m,q,j,O,s,i⟩,c,k⟩:=h
  refine⟨_,(au (fD (Ey (BN T) (f.mono (!_)) rfl T.i0.g T.i0.F.kp T.i0.B .nil Qn (gE (pv 1)))) (oR (fQ ic (by rfl) T.rV boot_list (gE (xL (bq (pv 0) rfl) (pv 1)))))),?_⟩
  left
  have e:=O.get .dG _ rfl;rw[j] at e;refine⟨_,rfl,g,rfl,λ_=>?_,λz=>cy ⟨∅,∅⟩ z⟩;refine⟨_,rfl,p,_,_,_,_,rfl,e,T.bJ,T.lP,rfl,_,rfl,a .vE,_,_,_,rfl,rfl,bN.of (O.get .vE _ rfl),rH c,a (.rows g),_,rfl,.inl (bN.of (O.get (.rows g) _ (aq c))),λl d=>?_⟩;have u:=aG.new (o:=.lst ((q.rq g).map V.ref)) d;exact k l (q.rq g) _ u d ay ((i.rows g c).mono λb x=>u.cz)
inductive VB(K:ah)(CT:Addr)(c:NC)(vs:List V)(H:Hp)(Q:VK)(E:XK):Prop
 |mk (F:Addr->Prop) (p tp ln lr:Addr) (ns:List Int) (rs:List R5) (s:NS) (g:Nat):vs=[.ref p,.int g]->NW K c CT H F p tp ln lr ns rs s->cN ns rs->Cv ns rs s->g<3->(∀l H',aG H H'->H l=none->H' l=some (.lst (bF (tY rs s.ws g)))->Q (.ref l) H')->VB K CT c vs H Q E
theorem BP(T:Txt K mg t):cH P w K mg base iS 3 t.uu t.zc ["self","group"]  (VB K t.bA (nc t)):=by
 refine T.zp.F.jK QS λH Q E f h=>?_
 ·obtain⟨F,p,A,n,v,x,e,st,g,rfl,N,ok,s,I,k⟩:=h
  refine⟨_,(oR (lg (bq (pv 0) rfl) T.eS T.uG.m (IB T) (f.mono (!_)) T.uG.B .nil Qn (gE (pv 1)))),?_⟩
  left
  obtain⟨a,y,q,C,O,J,G⟩:=N.dG;have c:=O.get .dG _ rfl;rw[C] at c;refine⟨_,rfl,p,_,_,_,_,rfl,c,T.bJ,T.mL,rfl,a .c9,y .c9,_,rfl,O.get .c9 _ rfl,rfl,_,rfl,a .c9,A,a .dP,n,v,x,e,st.ws,g,rfl,N.l5,O.strAt,s.wl,ok.Wy,(λr b=>⟨(ok.ok r b).e1,(ok.ok r b).e7⟩),λu l d D _ i o j=>?_,λz=>cy ⟨∅,∅⟩ z⟩
  have:u=g:=∅
  subst this;exact k l d i o j
inductive Rx(K:ah)(CT:Addr)(c:NC)(vs:List V)(H:Hp)(Q:VK)(E:XK):Prop
 |mk (F:Addr->Prop) (p tp ln lr:Addr) (ns:List Int) (rs:List R5) (s:NS) (o:cN ns rs) (g:Nat):vs=[.ref p,.int g]->NW K c CT H F p tp ln lr ns rs s->Cv ns rs s->g<3->(∀l os H',aG H H'->H l=none->H' l=some (.lst (bF os))->fk (ju ns rs o s.ws g) (s.R g) os->os.length<=12->Q (.ref l) H')->Rx K CT c vs H Q E
theorem Pu(T:Txt K mg t):cH P w K mg base iS 6 t.qY t.vM ["self","group"]  (Rx K t.bA (nc t)):=by
 refine T.HC.F.jK ON λH Q E d h=>?_
 ·obtain⟨F,p,f,m,o,ns,j,st,ok,g,rfl,N,n,e,k⟩:=h
  refine⟨_,(oR (Ey (Rl T) (d.mono (!_)) rfl T.Ba T.E7.F.kp T.E7.B .nil jv (IU (bq (pv 0) rfl) (cM (pv 0) T.bJ T.zp (BP T) d (gE (pv 1))) (cM (pv 0) T.bJ T.uH (vX T) d (gE (pv 1)))))),?_⟩
  left
  obtain⟨C,S,q,L,O,Y,U⟩:=id N.dG;have c:=O.get .dG _ rfl;rw[L] at c;refine⟨_,rfl,p,_,_,_,_,rfl,c,T.bJ,T.nH,rfl,?_⟩;refine⟨_,rfl,p,_,_,rfl,c,rfl,_,rfl,F,p,f,m,o,ns,j,st,g,rfl,N,ok,n,e,λx X b s J=>?_⟩;have r:=N.mono b;refine⟨_,rfl,p,_,_,rfl,b _ _ c,rfl,_,rfl,F,p,f,ns.length,g,st,rfl,r.dG,e,λM W V a y G A=>?_⟩;refine⟨f,m,o,x,M,ns,j,_,ok.nd,ok.ok,xY,st.R g,rfl,r.l5.mono a,bN.of (a _ _ J),A.To (bN.of G),by have:=ok.Hx;lia,ok.Wy,n.fit g e,λl os I D u v z i=>?_⟩;exact k l os I (b.trans (a.trans D)) ((b.trans a).free u) v z i
inductive Ry(K:ah)(CT:Addr)(c:NC)(vs:List V)(H:Hp)(Q:VK)(E:XK):Prop
 |mk (F:Addr->Prop) (p tp ln lr:Addr) (ns:List Int) (rs:List R5) (s:NS) (h:Nat):vs=[.ref p,.int h]->NW K c CT H F p tp ln lr ns rs s->h<ns.length->Q .f9 H->Ry K CT c vs H Q E
theorem vg(T:Txt K mg t):cH P w K mg base iS 1 t.iV t.j9 ["self","house"]  (Ry K t.bA (nc t)):=by
 refine T.pD.F.jK DJ λH Q E i h=>?_
 ·obtain⟨F,p,e,j,m,ns,g,st,x,rfl,N,l,k⟩:=h
  refine⟨_,(bz (b6 (iQ (jI qP nZ aA (pv 1) (bq (bq (pv 0) rfl) rfl))) eN bw)),?_⟩
  left
  obtain⟨d,n,q,f,O,r,o⟩:=id N.dG;obtain⟨⟨c,a⟩,_⟩:=id N.l5;have b:=O.get .dG _ rfl;rw[f] at b;refine⟨_,rfl,_,_,rfl,rfl,_,rfl,?_⟩;rw[eH (show (0:Int)<=(x:Int) by lia)];refine dZ ⟨_,rfl,p,_,_,_,_,rfl,b,T.bJ,T.nH,rfl,e,_,c,_,_,rfl,a,T.f6,T.nU,rfl,_,_,rfl,rfl,_,rfl,?_⟩;rw[eH (show (x:Int)<(ns.length:Int) by lia)];exact dh k
inductive NF(K:ah)(c:NC)(vs:List V)(H:Hp)(Q:VK)(E:XK):Prop
 |mk (F:Addr->Prop) (p tp:Addr) (n x:Nat) (s:NS):vs=[.ref p,.int x]->dH K c H F p tp n s->x<s.aE.length->Q .f9 H->NF K c vs H Q E
theorem lU(T:Txt K mg t):cH P w K mg base iS 1 t.iJ t.jz ["self","caller"]  (NF K (nc t)):=by
 refine T.jC.F.jK Cy λH Q E d h=>?_
 ·obtain⟨F,p,i,n,x,st,rfl,⟨a,f,q,c,O,j,g⟩,e,k⟩:=h
  refine⟨_,(bz (b6 (iQ (jI qP nZ aA (pv 1) (lS T.fK (bq (pv 0) rfl)))) eN bw)),?_⟩
  left
  have b:=O.get .dG _ rfl;rw[c] at b;refine⟨_,rfl,_,_,rfl,rfl,_,rfl,?_⟩;rw[eH (show (0:Int)<=(x:Int) by lia)];refine dZ ⟨_,rfl,p,_,_,_,_,rfl,b,T.bJ,T.kY,rfl,a .aE,_,rfl,.inl (bN.of (O.get .aE _ rfl)),_,_,rfl,rfl,_,rfl,?_⟩;rw[af,eH (show (x:Int)<(st.aE.length:Int) by lia)];exact dh k
inductive Rz(K:ah)(CT:Addr)(c:NC)(vs:List V)(H:Hp)(Q:VK)(E:XK):Prop
 |mk (F:Addr->Prop) (p tp ln lr:Addr) (ns:List Int) (rs:List R5) (s:NS) (h g:Nat):vs=[.ref p,.int h,.int g]->NW K c CT H F p tp ln lr ns rs s->h<ns.length->g<3->(∀q H',aG H H'->cX K H' q (c7 (s.R g h))->Q (.ref q) H')->Rz K CT c vs H Q E
theorem MA(T:Txt K mg t):cH P w K mg base iS 3 t.oO t.sR ["self","house","group"]  (Rz K t.bA (nc t)):=by
 refine T.Fb.F.jK L6 λH Q E d h=>?_
 ·obtain⟨F,p,i,n,s,ns,j,st,x,g,rfl,N,f,y,k⟩:=h
  refine⟨_,(au (fD (cM (pv 0) T.bJ T.pD (vg T) d (gE (pv 1)))) (oR (xL (cM (pv 0) T.bJ T.uH (vX T) d (gE (pv 2))) (pv 1)))),?_⟩
  left
  obtain⟨o,C,q,z,O,G,D⟩:=id N.dG;have c:=O.get .dG _ rfl;rw[z] at c;refine⟨_,rfl,p,_,_,rfl,c,rfl,_,rfl,F,p,i,n,s,ns,j,st,x,rfl,N,f,?_⟩;refine⟨_,rfl,p,_,_,rfl,c,rfl,_,rfl,F,p,i,ns.length,g,st,rfl,N.dG,y,λl b u m B r e=>?_⟩;have A:b.length=ns.length:=by rw[e.len];simp[iE]
  have a:x<b.length:=∅
  refine⟨_,rfl,l,_,_,_,rfl,rfl,bN.of r,c5 (v:=.ref b[x]) (by rw[ak,aa a];rfl),k _ u m (e.at' x _ _ (aa a) ?_)⟩;unfold iE;rw[ak,fV f];rfl
inductive NH(K:ah)(c:NC)(vs:List V)(H:Hp)(Q:VK)(E:XK):Prop
 |mk (F:Addr->Prop) (p tp:Addr) (n:Nat) (s:NS):vs=[.ref p]->dH K c H F p tp n s->(∀l (qs:List Addr) H',aG H H'->H l=none->H' l=some (.lst (qs.map V.ref))->dg K H' qs (s.cps.map Cp.vs)->Q (.ref l) H')->NH K c vs H Q E
theorem jW(T:Txt K mg t):cH P w K mg base iS 1 t.oQ t.sU ["self"]  (NH K (nc t)):=by
 refine T.d8.F.jK L7 λH Q E g h=>?_
 ·obtain⟨F,p,j,n,st,rfl,N,k⟩:=h
  refine⟨_,(oR (fQ ic (by rfl) T.rV boot_list (gE (bq (pv 0) rfl)))),?_⟩
  left
  obtain⟨a,i,q,f,O,m,e⟩:=id N;have d:=O.get .dG _ rfl;rw[f] at d;refine⟨_,rfl,p,_,_,_,_,rfl,d,T.bJ,T.jD,rfl,a .fM,_,rfl,.inl (bN.of (O.get .fM _ rfl)),λl c=>?_⟩;have u:=aG.new (o:=.lst (q.cq.map V.ref)) c;exact k l q.cq _ u c ay (e.cps.mono λb x=>u.cz)
def vt(g:Nat)(l:LS):LS:=if l.grp=g then {l with old:=true} else l
def Aj(s:NS)(g:Nat):NS:={s with ts:=gH s.ts g [],ls:=s.ls.map (vt g)}
inductive VC(K:ah)(c:NC)(vs:List V)(H:Hp)(Q:VK)(E:XK):Prop
 |mk (F:Addr->Prop) (p tp:Addr) (n g:Nat) (s:NS):vs=[.ref p,.int g]->dH K c H F p tp n s->g<3->(∀F' H',dH K c H' F' p tp n (Aj s g)->Step H F H' F'->Q .f9 H')->VC K c vs H Q E
theorem qv(T:Txt K mg t):cH P w K mg base iS 2 t.jO t.mZ ["self","group"]  (VC K (nc t)):=by
 refine T.m8.F.jK x9 λH Q E hr h=>?_
 ·obtain⟨F,p,Z,n,g,st,rfl,⟨c,dx,q,hp,O,hF,hT⟩,x,k⟩:=h
  refine⟨_,(au (fD (jc (xL (bq (pv 0) rfl) (pv 1)) T.DP T.wW.m (Li T) (hr.mono (!_)) T.wW.B .nil jv)) (bz (fS (fE (bq (pv 0) rfl)) (gT 2 x9) (bz (b6 (qT i6 (bq (pv 2) rfl) (pv 1)) (bz (gC (pv 2) Ep rfl)) bw))))),?_⟩
  left
  have cJ:=O.get .dG _ rfl;rw[hp] at cJ;refine⟨_,rfl,p,_,_,_,_,rfl,cJ,T.bJ,T.vU,rfl,_,rfl,c .kK,_,_,_,rfl,rfl,bN.of (O.get .kK _ rfl),rH x,c (.book g),dx (.book g),_,rfl,O.get (.book g) _ (aq x),rfl,c (.book g),c (.gj g),st.ts g,rfl,O.Tn x,λd' Y M hB kp=>?_⟩;obtain⟨⟨Vd,I⟩,J⟩:=hB;obtain⟨s,N',A⟩:=Tp hp O hF hT x M I J kp;obtain⟨b,S,U,u,D,C,L⟩:=N';have X:j0 K (nc t) Y s b S U p Z n {st with ts:=gH st.ts g []}:=⟨u,D,C,L⟩;have r:=D.get .dG _ rfl;rw[u] at r;have VD:=D.get .cU _ rfl;refine⟨_,rfl,p,_,_,_,_,rfl,r,T.bJ,T.eX,rfl,b .cU,rfl,⟨_,bN.of VD⟩,tM (K:=K) (a:=b .cU) (xs:=(av st.ls.length).map λi=>.ref (b (.cC i))) (λi v l=>j0 K (nc t) l s b S U p Z n {st with ts:=gH st.ts g [],ls:=(st.ls.take i).map (vt g)++st.ls.drop i}/\Step Y s l s/\∃R:Option V,v=[some (.ref p),some (.int g),R]) ⟨by rw[List.take_zero,List.drop_zero];exact X,Step.refl' (aG.refl _),_,rfl⟩ (λi v l _ z=>?_) ?_ ?_⟩
  ·have e:=z.1.own.get .cU _ rfl
   have el:((st.ls.take i).map (vt g)++st.ls.drop i).length=st.ls.length:=by
    rw[aB,af,<- aB,List.take_append_drop]
   refine bN.of (e.trans ?_);show some (HO.lst ((av ((st.ls.take i).map (vt g)++st.ls.drop i).length).map _))=_;rw[el]
  ·rintro i y v l G ⟨o,d,R,rfl⟩
   have f:i<st.ls.length:=by
    have:=(ai.mp G).1
    rw[af,be] at this;exact this
   rw[ak,fV f] at G;cases G;have j:((st.ls.take i).map (vt g)++st.ls.drop i)[i]?=some st.ls[i]:=by
    rw[bT (by rw[af,cu];lia),af,cu,Nat.min_eq_left ∅,eV,List.getElem?_drop,Nat.add_zero];exact aa f
   have W:=o.own.get (.cC i) (nS (nc t) S b i st.ls[i]) (by show (((st.ls.take i).map (vt g)++st.ls.drop i)[i]?.map _)=_;rw[j];rfl);have next:(st.ls.take (i+1)).map (vt g)++st.ls.drop (i+1)=((st.ls.take i).map (vt g)++st.ls.drop i).set i (vt g st.ls[i]):=by
    rw[List.take_add_one,aa f,aK,gi,nX _ _ (by rw[af,cu];lia),af,cu,Nat.min_eq_left ∅,eV,List.drop_eq_getElem_cons f];rfl
   rw[next];refine⟨_,rfl,_,_,_,_,_,rfl,W,T.dR,T.kW,rfl,_,rfl,rfl,_,rfl,jd (λe=>?_) (λe=>?_)⟩
   ·have e:(st.ls[i]).grp=g:=by
     have:=V.int.inj (gh e)
     lia
    refine⟨_,rfl,_,_,_,_,rfl,W,T.dR,T.zv,(by show 5<1000;decide),?_⟩;obtain⟨X3,N⟩:=abR o j;refine⟨?_,d.trans N,_,rfl⟩;unfold vt;rw[aq e];exact X3
   ·have e:¬(st.ls[i]).grp=g:=λz=>e (eH (by rw[z]))
    refine⟨?_,d,_,rfl⟩
    have:vt g st.ls[i]=st.ls[i]:=b3 e
    rw[this,xZ j];exact o
  ·rintro v l ⟨o,d,R,rfl⟩
   rw[af,be,ng (az _),List.drop_eq_nil_of_le (az _),bQ] at o;exact k s l o.dG (A.trans d)
def vh(s:NS)(g x:Nat)(d:RM.Row):NS:=if d=s.R g x then s else Aj {s with R:=gH s.R g (RM.upd (s.R g) x d)} g
inductive RA(K:ah)(CT:Addr)(c:NC)(vs:List V)(H:Hp)(Q:VK)(E:XK):Prop
 |mk (F:Addr->Prop) (p tp ln lr:Addr) (ns:List Int) (rs:List R5) (s:NS) (o:cN ns rs) (x g:Nat):vs=[.ref p,.int x,.int g]->NW K c CT H F p tp ln lr ns rs s->Cv ns rs s->x<ns.length->g<3->(∀d F' H',RM.xW (N:=ju ns rs o s.ws g) ns.length (s.R g) x d->Dn ns.length rs.length d->dH K c H' F' p tp ns.length (vh s g x d)->Step H F H' F'->(d=s.R g x->aG H H')->Q (.bl (!decide (d=s.R g x))) H')->RA K CT c vs H Q E
theorem Ig(T:Txt K mg t):cH P w K mg base iS 4 t.uv t.zd ["self","house","group"]  (RA K t.bA (nc t)):=by
 refine T.DM.F.jK AX λH Q E j h=>?_
 ·obtain⟨F,p,s,D,A,ns,S,st,ok,x,g,rfl,N,u,i,a,k⟩:=h
  refine⟨_,(au (sS 3 AX (cM (pv 0) T.bJ T.Fb (MA T) j (k9 (pv 1) (pv 2)))) (au (sS 4 AX (cG (afu T) j T.adB (ry (bq (pv 0) rfl) (cM (pv 0) T.bJ T.zp (BP T) j (gE (pv 2))) (cM (pv 0) T.bJ T.uH (vX T) j (gE (pv 2))) (pv 1)))) (au (b6 (qT wz (pv 4) (pv 3)) oB bw) (au (Au (pv 4) (Ga (xL (bq (pv 0) rfl) (pv 2)) (pv 1) set_list)) (au (fD (cM (pv 0) T.bJ T.m8 (qv T) j (gE (pv 2)))) oB))))),?_⟩
  left
  obtain⟨loc,dx,q,hp,O,hF,hT⟩:=id N.dG;have Y:=O.get .dG _ rfl;rw[hp] at Y;refine⟨_,rfl,p,_,_,rfl,Y,rfl,_,rfl,_,rfl,F,p,s,D,A,ns,S,st,x,g,rfl,N,i,a,λq1 H1 X I=>?_⟩;have N1:=N.mono X;have M:=X _ _ Y;refine⟨_,rfl,p,_,_,_,_,rfl,M,T.bJ,T.nH,rfl,?_⟩;refine⟨_,rfl,p,_,_,rfl,M,rfl,_,rfl,F,p,s,D,A,ns,S,st,g,rfl,N1,ok,u,a,λl2 H2 W hl2 h2=>?_⟩;have N2:=N1.mono W;refine⟨_,rfl,p,_,_,rfl,W _ _ M,rfl,_,rfl,F,p,s,ns.length,g,st,rfl,N2.dG,a,λl3 qs H3 L hl3 h3 ht=>?_⟩;have N3:=N2.mono L;refine⟨_,rfl,s,D,A,l2,l3,ns,S,_,ok.nd,ok.ok,xY,st.R g,x,rfl,N3.l5,bN.of (L _ _ h2),ht.To (bN.of h3),i,ok.Wy,(u.fit g a).LX,λq4 d Z s4 r c=>?_⟩;have C:=abG (u.fit g a) i ok.pos c;have N4:=N3.mono s4;have m:=W.trans (L.trans s4);have b:=X.trans m;refine⟨_,rfl,_,rfl,RM.Gh d,RM.Gh (st.R g x),RM.AE r,RM.AE (m.cz I),RM.AF _,RM.AF _,bX (dB (aN (i9 _ _) (by rw[RM.MU];decide:(RM.Gh d).depth<=64)) _) j.units,?_⟩;rw[RM.Qp C.by1 (u.fit g a x i).by1];refine⟨_,rfl,jd (λe=>?_) (λe=>?_)⟩
  ·have l:d=st.R g x:=gh e
   have:=k d F Z c C (by unfold vh;rw[aq l];exact N4.dG) (Step.refl' b) (λ_=>b)
   rw[eH l] at this;exact this
  ·have l:¬d=st.R g x:=λz=>e (eH z)
   obtain⟨f,dx4,o,Ym,v,G,n⟩:=id N4.dG;have BR:=v.get .dG _ rfl;rw[Ym] at BR;have U:(o.rq g).length=ns.length:=by rw[(n.rows g a).len];simp[iE]
   obtain⟨F5,B,LH⟩:=abQ Ym v G n a i r;refine⟨_,rfl,_,rfl,p,_,_,_,_,rfl,BR,T.bJ,T.lP,rfl,_,rfl,f .vE,_,_,_,rfl,rfl,bN.of (v.get .vE _ rfl),rH a,_,rfl,f (.rows g),_,_,_,rfl,rfl,v.get (.rows g) _ (aq a),yM (by rw[af,U];exact i),?_⟩;generalize upd Z (f (.rows g)) (.lst (((o.rq g).map V.ref).set x (.ref q4)))=H5 at B LH;obtain⟨aar,dx5,q5,y,O5,hF5,hT5⟩:=id B;have RB:=O5.get .dG _ rfl;rw[y] at RB;refine⟨_,rfl,p,_,_,rfl,RB,rfl,_,rfl,F5,p,s,ns.length,g,_,rfl,B,a,λF6 H6 N6 J=>?_⟩
   have:=k d F6 H6 c C (by unfold vh;rw[b3 l];exact N6) ((Step.refl' b).trans (LH.trans J)) (λz=>cy z l)
   rw[e8 l] at this;exact this
def k6(s:NS)(e:Int)(m:Nat):NS:=(av m).foldl (λs g=>if vD e g=true then Aj s g else s) s
theorem jE:k6 s e (m+1)=if vD e m=true then Aj (k6 s e m) m else k6 s e m:=by
 unfold k6;rw[gA,pP];rfl
inductive Ih(K:ah)(CT:Addr)(c:NC)(vs:List V)(H:Hp)(Q:VK)(E:XK):Prop
 |mk (F:Addr->Prop) (p tp ln lr:Addr) (ns:List Int) (rs:List R5) (s:NS) (i:Nat) (r:R5):vs=[.ref p,.int i]->NW K c CT H F p tp ln lr ns rs s->cN ns rs->rs[i]?=some r->(∀F' H',NW K c CT H' F' p tp ln lr ns rs (k6 s r.e 3)->Step H F H' F'->Q .f9 H')->Ih K CT c vs H Q E
theorem mO(T:Txt K mg t):cH P w K mg base iS 3 t.fC t.gP ["self","rope"]  (Ih K t.bA (nc t)):=by
 refine T.jm.F.jK l9 λH Q E y h=>?_
 ·obtain⟨F,p,l,B,C,ns,x,st,i,r,rfl,N,tok,A,k⟩:=h
  have j:=tok.ok r (aC A);refine⟨_,(bz (fS (fz rfl T.ig (gE (lS T.fK (mQ rfl T.lI (v:=.ref t.fh) rfl)))) (gT 2 l9) (bz (b6 (lN (cM (bq (pv 0) rfl) T.f6 T.A8 (FE T) y (k9 (pv 1) (pv 2)))) (oE (cM (pv 0) T.bJ T.m8 (qv T) y (gE (pv 2)))) bw)))),?_⟩
  left
  refine⟨_,_,rfl,.inr (T.gz _),(3:Int),rfl,∅,∅,?_⟩;refine xS (n:=3) (λg m d=>∃(c:Addr->Prop) (u:Option V),NW K (nc t) t.bA d c p l B C ns x (k6 st r.e g)/\Step H F d c/\m=[some (.ref p),some (.int i),u]) ⟨F,_,N,Step.refl' (aG.refl _),rfl⟩ ?_ ?_
  ·rintro g m d G ⟨c,u,b,a,rfl⟩
   rw[dw];obtain⟨L,U,q,R,O,X,W⟩:=id b.dG;obtain⟨⟨J,o⟩,_⟩:=id b.l5;have s:=O.get .dG _ rfl;rw[R] at s;obtain⟨z,D⟩:=ahY G;refine⟨_,rfl,p,_,_,_,_,rfl,s,T.bJ,T.nH,rfl,l,J,_,rfl,o,rfl,_,rfl,_,rfl,l,B,C,ns,x,i,r,g,z,rfl,b.l5,A,D,_,rfl,?_⟩;rw[Qz j.e1 j.e7 D];refine jd (λe=>?_) (λe=>?_)
   ·refine⟨_,rfl,p,_,_,rfl,s,rfl,_,rfl,c,p,l,ns.length,g,_,rfl,b.dG,G,λM S I f=>?_⟩
    refine⟨M,_,?_,a.trans f,rfl⟩;rw[jE,aq e];exact b.done f I
   ·refine⟨c,_,?_,a,rfl⟩
    rw[jE,b3 e];exact b
  ·rintro m d ⟨c,u,b,a,rfl⟩
   exact k c d b a
theorem xK{n:Nat}(h:n<=1000000):n<sizeLine:=bX h (by show 1000000<2^24;decide)
theorem Uk{s:NS}{B:Nat}(h:∀l∈s.ls,l.aF.length<=B):∀l∈(dQ s i d).ls,l.aF.length<=B+1:=by
 intro l a;unfold dQ at a;cases e:s.ls[i]? with
 |none=>rw[e] at a;exact kq (h l a)
 |some b =>
  rw[e] at a;rcases jZ a with z|rfl
  ·exact kq (h l z)
  ·show (b.aF++[d]).length<=B+1
   rw[aB];exact gG (h b (aC e)) 1
theorem RC{s:NS}{i x B:Nat}(h:∀l∈s.ls,l.aF.length<=B):∀m,m<=s.cps.length->∀l∈(jJ s i x m).ls,l.aF.length<=B+m
 |0,_=>by rw[yO];exact h
 |m+1,c=>by
  have a:=RC (i:=i) (x:=x) h m ∅;rw[yP ∅];unfold pV;split
  ·exact Uk a
  ·exact λl b=>kq (a l b)
inductive VE(K:ah)(c:NC)(vs:List V)(H:Hp)(Q:VK)(E:XK):Prop
 |mk (F:Addr->Prop) (p tp:Addr) (n:Nat) (i x:Nat) (s:NS) (B:Nat):vs=[.ref p,.int i,.int x]->dH K c H F p tp n s->(∀cp∈s.cps,cp.l<s.ls.length)->(∀l∈s.ls,l.aF.length<=B)->B+s.cps.length<=1000000->(∀F' H',dH K c H' F' p tp n (pW s i x)->Step H F H' F'->Q .f9 H')->VE K c vs H Q E
theorem Ei(T:Txt K mg t):cH P w K mg base iS 1 t.iU t.j8 ["self","rope","wire"]  (VE K (nc t)):=by
 refine T.vQ.F.jK nC λH Q E hr h=>?_
 ·obtain⟨F,p,tp,n,i,x,st,B,rfl,N,hc,hB,hBm,k⟩:=h
  refine⟨_,(au (sS 3 nC (gV fX)) (au (fS (fE (bq (pv 0) rfl)) (gT 4 nC) (bz (b6 (qT wz (qQ Jp (pv 4) (mR aA) (mR aA)) (fY (k9 (pv 1) (pv 2)))) (oE (sF bI bM bL fR (bq (xL (bq (pv 0) rfl) (xT (pv 4) aA)) rfl) (gE (fY (IU gm (xT (pv 4) aA) (pv 1)))))) (oE (sF bI bM bL fR (pv 3) (gE (pv 4))))))) (bz (gC (pv 0) (pv 3) rfl)))),?_⟩
  left
  refine bC λNx cD=>?_;refine⟨aX _,λl hl=>cD _ _ ?_⟩;have u1:=aG.new (o:=.lst []) hl;have h1:=ay (H:=H) (a:=l) (o:=.lst []);generalize upd H l (.lst [])=H1 at u1 h1;have nF:¬F l:=λz=>by
   obtain⟨o,e⟩:=N.there z;rw[hl] at e;cases e
  obtain⟨m,dx,q,hp,O,hF,hT⟩:=id (N.mono u1);have X:j0 K (nc t) H1 F m dx q p tp n st:=⟨hp,O,hF,hT⟩;have cJ:=O.get .dG _ rfl;rw[hp] at cJ;have hco:=O.get .fM _ rfl;have v:q.cq.length=st.cps.length:=by
   have:=hT.cps.len
   rw[af] at this;exact this
  refine bC λNx cD=>?_;refine⟨_,rfl,p,_,_,_,_,rfl,cJ,T.bJ,T.jD,rfl,m .fM,rfl,⟨_,bN.of hco⟩,tE (K:=K) (a:=m .fM) (xs:=q.cq.map V.ref) (λj σ D=>∃(R:TQ) (L:List Addr) (v4:Option V),j0 K (nc t) D F m dx R p tp n (jJ st i x j)/\R.cq=q.cq/\Step H F D F/\D l=some (.lst (L.map V.ref))/\dg K D L (((st.cps.take j).filter λc=>!g4 i x c).map Cp.vs)/\σ=[some (.ref p),some (.int i),some (.int x),some (.ref l),v4]) ⟨q,[],_,by rw[yO];exact X,rfl,Step.refl' u1,h1,⟨rfl,λi q x e=>by cases e⟩,rfl⟩ (λj σ D _ z=>?_) ?_ ?_⟩
  ·obtain⟨R,L,v4,s,eq,_⟩:=z
   have:=s.own.get .fM _ rfl
   refine bN.of (this.trans ?_);rw[eq]
  ·rintro j y σ D Nf M hj ⟨R,L,v4,s,eq,U,S,xJ,rfl⟩
   have hjl:j<q.cq.length:=by
    have:=(ai.mp hj).1
    rw[af] at this;exact this
   have G:j<st.cps.length:=∅
   rw[ak,aa hjl] at hj;cases hj;have A:cX K D q.cq[j] (st.cps[j]).vs:=s.tup.cps.at' j _ _ (by rw[eq];exact aa hjl) (by rw[Xh,ak,aa G];rfl);have hcm:=aH G;rw[yP G] at M;have ZI:=M4 (f:=λc:Cp=>!g4 i x c) G;rw[ZI] at M;generalize st.cps[j]=g at A hcm M;generalize q.cq[j]=a at A;have nw:¬(HT.lX g.vs.length 0 (some 1)=0/\HT.lX g.vs.length g.vs.length (some 3)=g.vs.length):=λz=>cy z.1 (by show HT.lX 4 0 (some 1)≠0;decide);refine⟨_,rfl,_,rfl,_,rfl,a,_,rfl,A,nw,λz1 hz1=>?_⟩;have ct:Av g.vs (some 1) (some 3)=[V.int g.r,V.int g.w]:=rfl;rw[ct];have v1:=aG.new (o:=.tup [V.int g.r,V.int g.w]) hz1;refine⟨_,rfl,_,rfl,fy,λz2 hz2=>?_⟩;have v2:=aG.new (o:=.tup [V.int i,V.int x]) hz2;refine⟨.tuple (([(g.r:Int),(g.w:Int)]:List Int).map .int),.tuple (([(i:Int),(x:Int)]:List Int).map .int),Rep.MR (ns:=[(g.r:Int),(g.w:Int)]) (cX.of (v2 _ _ ay)),Rep.MR (ns:=[(i:Int),(x:Int)]) (cX.of ay),iD _,iD _,bX (dB (aN (i9 _ _) (by show PyData.depthAll _+1<=64;rw[nO];decide)) _) hr.units,_,rfl,?_⟩;rw[Vg];have Lk:=v1.trans v2;have C:=s.mono Lk;have Z:=Lk _ _ S;have J:=Lk.cz A;have I:=xJ.mono λb x=>Lk.cz (a:=b) (xs:=x);have EI:=U.trans (Step.refl' (F:=F) Lk);generalize upd (upd D z1 (.tup [V.int g.r,V.int g.w])) z2 (.tup [V.int i,V.int x])=H4 at C Z J I EI;refine jd (λe=>?_) (λe=>?_)
   ·have on:g4 i x g=true:=by
     obtain⟨e1,e2⟩:=gh e;exact eH ⟨∅,∅⟩
    have v:g.l<(jJ st i x j).ls.length:=by rw[M3];exact hc g hcm
    have u:(jJ st i x j).ls[g.l]?=some (jJ st i x j).ls[g.l]:=aa v;have hdl:((jJ st i x j).ls[g.l]).aF.length<=B+j:=RC hB j ∅ _ (aH v);have BR:=C.own.get .dG _ rfl;rw[C.hp] at BR;have amA:=C.own.get .cU _ rfl;have amB:=C.own.get (.cC g.l) (nS (nc t) dx m g.l _) (by show ((jJ st i x j).ls[g.l]?.map _)=_;rw[u];rfl);have aiM:=C.own.get (.aF g.l) (.lst ((R.dq g.l).map V.ref)) (by show ((jJ st i x j).ls[g.l]?.map _)=_;rw[u];rfl);have PR:=(C.tup.aF g.l _ u).len;rw[af] at PR;unfold pV at M;rw[aq on,fO u,on] at M;refine⟨_,rfl,p,_,_,_,_,rfl,BR,T.bJ,T.eX,rfl,_,rfl,a,_,0,_,rfl,rfl,J,rfl,m .cU,_,_,_,rfl,rfl,bN.of amA,rH v,m (.cC g.l),_,_,_,_,rfl,amB,T.dR,T.iK,rfl,.inl ⟨rfl,_,bN.of aiM⟩,_,rfl,a,_,3,_,rfl,rfl,J,rfl,_,rfl,aap,λz3 Yo=>?_⟩;have v3:=aG.new (o:=.tup [V.str "lost",V.int g.h,V.int i]) Yo;have X5:=C.mono v3;refine⟨m (.aF g.l),_,_,rfl,rfl,v3 _ _ aiM,xK (by rw[af,PR];lia),?_⟩;obtain⟨X6,Y⟩:=AI X5 u (d:=.LZ g.h i) (cX.of ay);refine M _ _ ⟨_,L,_,X6,eq,(EI.trans (Step.refl' (F:=F) v3)).trans Y,Y.kp _ _ (v3 _ _ Z) nF,?_,rfl⟩;rw[b3 (!_),bQ];exact (I.mono λb x=>v3.cz (a:=b) (xs:=x)).mono λb x=>X5.dG.tup Y.kp
   ·have on:g4 i x g=false:=e8 λz=>e (eH ⟨∅,∅⟩)
    unfold pV at M;rw[on,b3 (!_)] at M;have hql:L.length<=j:=by
     rw[I.len,af];refine aN (bx _ _) ?_;rw[cu];exact i9 _ _
    refine⟨_,rfl,.inl ⟨rfl,_,bN.of Z⟩,_,rfl,l,_,_,rfl,rfl,Z,xK (by rw[af];lia),?_⟩;have W:=b9 (H:=H4) (z:=l) (o:=.lst (L.map V.ref++[.ref a]));have X5:=C.past Z jf nF W;refine M _ _ ⟨R,L++[a],_,X5,eq,⟨λb o e z=>W _ _ (EI.kp b o e z) (aQ e hl),EI.fr⟩,by rw[ay,aK];rfl,?_,rfl⟩;rw[aq (!_),aK];exact (I.snoc J).mono λb x=>cX.past Z jf W
  ·rintro σ D ⟨R,L,v4,s,eq,U,S,xJ,rfl⟩
   refine cD _ _ ?_;rw[af,v] at s xJ;rw[gJ] at xJ;obtain⟨F',N',kp,hpF,fr⟩:=Tq s.hp s.own s.fp s.tup S nF xJ;have vY:=s.own.get .dG _ rfl;rw[s.hp] at vY;refine⟨_,rfl,_,rfl,p,_,_,_,rfl,vY,T.bJ,T.jD,(by show 9<1000;decide),?_⟩;refine k F' _ N' ⟨λb o e z=>kp _ _ (U.kp _ _ e z) (λy=>z (y▸hpF)),λb z=>?_⟩;rcases fr b z with y|rfl
   ·exact .inl y
   ·exact .inr hl
def BS(s:NS)(i x:Nat)(w:List Nat)(e:Int):NS :=
 if (w.filter λz=>decide (z≠x)).isEmpty=true then k6 (pW {s with ws:=s.ws.set i (w.filter λz=>decide (z≠x))} i x) e 3 else pW {s with ws:=s.ws.set i (w.filter λz=>decide (z≠x))} i x
inductive RD(K:ah)(CT:Addr)(c:NC)(vs:List V)(H:Hp)(Q:VK)(E:XK):Prop
 |mk (F:Addr->Prop) (p tp ln lr:Addr) (ns:List Int) (rs:List R5) (s:NS) (i x:Nat) (w:List Nat) (r:R5) (B:Nat):vs=[.ref p,.int i,.int x]->NW K c CT H F p tp ln lr ns rs s->cN ns rs->Cv ns rs s->(∀cp∈s.cps,cp.l<s.ls.length)->(∀l∈s.ls,l.aF.length<=B)->B+s.cps.length<=1000000->s.ws[i]?=some w->rs[i]?=some r->x∈w->(∀F' H',NW K c CT H' F' p tp ln lr ns rs (BS s i x w r.e)->Step H F H' F'->Q (.bl (w.filter λz=>decide (z≠x)).isEmpty) H')->RD K CT c vs H Q E
theorem RE(T:Txt K mg t):cH P w K mg base iS 4 t.uw t.ze ["self","rope","wire"]  (RD K t.bA (nc t)):=by
 refine T.J9.F.jK Hz λH Q E L h=>?_
 ·obtain⟨F,p,y,M,J,ns,rs,st,i,x,A,r,B,rfl,N,I,G,hc,hB,V,l,WO,W,k⟩:=h
  refine⟨_,(au (sS 3 Hz (lg (bq (pv 0) rfl) T.eS T.uF.m (IA T) (L.mono (!_)) T.uF.B .nil Qn (k9 (pv 1) (pv 2)))) (au (fD (cM (pv 0) T.bJ T.vQ (Ei T) L (k9 (pv 1) (pv 2)))) (au (b6 (lN (pv 3)) (oE (cM (pv 0) T.bJ T.jm (mO T) L (gE (pv 1)))) bw) (oR (pv 3))))),?_⟩
  left
  obtain⟨f,dx,q,hp,O,hF,hT⟩:=id N.dG;have cJ:=O.get .dG _ rfl;rw[hp] at cJ;have v:=(ai.mp l).1;have Fz:i<rs.length:=by rw[<- G.wl];exact v
  refine⟨_,rfl,p,_,_,_,_,rfl,cJ,T.bJ,T.mL,rfl,f .c9,dx .c9,_,rfl,O.get .c9 _ rfl,rfl,_,rfl,_,rfl,f .c9,y,f .dP,M,J,ns,rs,st.ws,i,x,rfl,N.l5,O.strAt,G.wl,G.w4,λj b w2 ls a H1 ej ek u hk LY ha X Y kp=>?_,λz=>cy ⟨∅,∅⟩ z,λj w2 H1 ej u hk _=>?_⟩
  case refine_2 =>
   have:j=i:=∅
   subst this;rw[l] at u;cases u;exact cy rfl (hk x W)
  have:j=i:=∅
  subst this
  have:b=x:=∅
  subst this;rw[l] at u;cases u;obtain⟨F1,S,g⟩:=QE hp O hF hT v LY ha X Y kp;have U:=N.done g S;obtain⟨amG,Sl,q1,D,O1,hF1,hT1⟩:=id S;have gY:=O1.get .dG _ rfl;rw[D] at gY;dsimp only[iO];refine⟨_,rfl,p,_,_,rfl,gY,rfl,_,rfl,_,rfl,F1,p,y,ns.length,j,b,_,B,rfl,S,hc,hB,V,λF2 H2 N2 d=>?_⟩;have o:=U.done d N2;unfold BS at k;generalize (A.filter λz=>decide (z≠b)).isEmpty=eb at k;obtain⟨aq5,XD,q2,R,O2,hF2,hT2⟩:=id N2;have Z:=O2.get .dG _ rfl;rw[R] at Z
  try dsimp only
  refine vB (λσ s=>∃n:Addr->Prop,NW K (nc t) t.bA s n p y M J ns rs (if eb=true then k6 (pW {st with ws:=st.ws.set j (A.filter λz=>decide (z≠b))} j b) r.e 3 else pW {st with ws:=st.ws.set j (A.filter λz=>decide (z≠b))} j b)/\Step H F s n/\σ=[some (.ref p),some (.int j),some (.int b),some (.bl eb)]) ?_ λN' nx=>?_
  case refine_2 =>
   refine⟨_,rfl,_,rfl,jd (λe=>?_) (λe=>?_)⟩
   ·rw[aq e] at nx
    refine⟨_,rfl,p,_,_,rfl,Z,rfl,_,rfl,F2,p,y,M,J,ns,rs,_,j,r,rfl,o,I,WO,λn s C c=>?_⟩;exact nx _ _ ⟨n,C,g.trans (d.trans c),rfl⟩
   ·rw[b3 e] at nx
    exact nx _ _ ⟨F2,o,g.trans d,rfl⟩
  rintro σ s ⟨n,C,c,rfl⟩;exact⟨_,rfl,k n s C c⟩
inductive aat(K:ah)(CT C NW:Addr)(vs:List V)(H:Hp)(Q:VK)(E:XK):Prop
 |mk (p tp lu ln lr:Addr) (ns:List Int) (rs:List R5) (ws:List (List Nat)) (i x:Int):vs=[.ref p,.int i,.int x]->dM K CT H tp ln lr ns rs->vC C H p tp lu ws->ws.length=rs.length->(∀w∈ws,w.length<=4)->(∀(j k:Nat) w w' r (ls:List Addr) (q:Addr) H',i=(j:Int)->x=(k:Int)->ws[j]?=some w->rs[j]?=some r->x<r.d->k∉w->w'.Perm (w++[k])->w'.Pairwise (·<=·)->H lu=some (.lst (ls.map V.ref))->H q=none->H' q=some (.lst (bF w'))->H' lu=some (.lst ((ls.map V.ref).set j (.ref q)))->(∀b o,H b=some o->b≠lu->H' b=some o)->Q (.bl w.isEmpty) H')->(¬(0<=i/\i<rs.length)->E (.ref NW) none H)->(∀(j:Nat) w r H',i=(j:Int)->ws[j]?=some w->rs[j]?=some r->¬(0<=x/\x<r.d)∨(∃k∈w,x=(k:Nat))->aG H H'->E (.ref NW) none H')->aat K CT C NW vs H Q E
theorem Ll(T:Txt K mg t):cH P w K mg base (FT P w) 3 t.mG t.qH ["self","rope","wire"]  (aat K t.bA t.dc t.yj):=by
 refine T.wY.F.Xj AW λH Q E O h=>?_
 ·obtain⟨p,tp,G,ln,lr,ns,v,ws,i,x,rfl,hT,hW,ew,h4,k,kx,ky⟩:=h
  obtain⟨⟨dx,hp⟩,R,LY,els,hls⟩:=id hW;refine⟨_,(au (sS 3 AW (lg (pv 0) T.eS T.fq.m (lT T) (O.mono (!_)) T.fq.B .nil U0 (gE (pv 1)))) (au (b6 (PW.pt (CB (iQ (jI qP nZ aA (pv 2) (cG (Ia T) O T.DL (k9 (bq (pv 0) rfl) (pv 1))))) (De (i7 pY (pv 2) (pv 3) (by with_unfolding_all rfl))))) (bz (EK rfl T.Kn T.Ko O.hd gm)) bw) (au (Au (cB AG T.Bb boot_sorted (gE (aY aeP (pv 3) (gV (gE (pv 2)))))) (Ga (bq (pv 0) rfl) (pv 1) set_list)) (oR (qE wz (pv 3) (gV fX)))))),?_⟩
  left
  refine⟨_,rfl,p,dx,_,rfl,hp,rfl,_,rfl,p,tp,G,ln,lr,ns,v,ws,i,rfl,hT,hW,ew,λj c l J ej D A UW X=>?_,kx⟩;subst ej;have hjl:=(ai.mp D).1;have w4:=h4 _ (aC D);have g:v[j]?=some v[j]:=aa ∅;have hp1:=A _ _ hp;have hT1:=hT.mono A;refine⟨_,rfl,_,_,rfl,rfl,_,rfl,?_⟩;by_cases h0:0<=x
  case neg =>
   rw[e8 h0];exact dh ⟨_,rfl,dZ (dZ (ky j c _ J rfl D g (.inl λz=>h0 z.1) A))⟩
  rw[eH h0];refine dZ ?_;refine⟨_,rfl,p,_,dx,_,_,rfl,hp1,T.eS,T.kX,rfl,_,rfl,tp,ln,lr,ns,v,j,v[j],rfl,hT1,g,_,_,rfl,rfl,_,rfl,?_⟩;by_cases U:x<v[j].d
  case neg =>
   rw[e8 U];exact dZ (dZ (ky j c _ J rfl D g (.inl λz=>U z.2) A))
  rw[eH U];refine dh ?_;obtain⟨f,rfl⟩:∃f:Nat,x=(f:Int):=⟨x.toNat,∅⟩;refine⟨_,rfl,_,rfl,l,_,rfl,.inl (bN.of X),rfl,je c,_,rfl,?_⟩
  try dsimp only
  rw[b3 aI,om];by_cases N:f∈c
  case pos =>
   rw[eH N];exact dZ (ky j c _ J rfl D g (.inr ⟨f,N,rfl⟩) A)
  rw[e8 N];refine dh ?_;refine⟨_,rfl,_,rfl,aag,λq hq=>?_⟩;have s2:=aG.new (o:=.lst [.int (f:Nat)]) hq;refine⟨l,q,_,_,rfl,rfl,s2 _ _ X,ay,?_,λW h3=>?_⟩
  ·rw[af]
   exact gI (b4 (by show c.length+1<=1000;lia))
  have s3:=s2.trans (aG.new (o:=.lst (bF c++[.int (f:Nat)])) h3);have L:(upd (upd J q (.lst [.int (f:Nat)])) W (.lst (bF c++[.int (f:Nat)]))) W=some (.lst (((c++[f]).map λk:Nat=>(k:Int)).map V.int)):=by rw[ay,<- iC,fL]
  generalize upd (upd J q (.lst [.int (f:Nat)])) W (.lst (bF c++[.int (f:Nat)]))=H3 at s3 L;refine⟨W,_,rfl,bN.of L,(by rw[af,aB];show c.length+1<64;lia),λs xs XA aiN aiO=>?_⟩;obtain⟨C,rfl,hz1,hz2⟩:=Oz aiN aiO;have M:=s3.trans (aG.new (o:=.lst ((C.map λk:Nat=>(k:Int)).map V.int)) XA);have y:(upd H3 s (.lst ((C.map λk:Nat=>(k:Int)).map V.int))) s=some (.lst (bF C)):=by rw[ay,fL]
  generalize upd H3 s (.lst ((C.map λk:Nat=>(k:Int)).map V.int))=H4 at M y;have n:=A.trans M;have u:=n _ _ LY;have Ym:=n _ _ hp;have Ud:j<R.length:=∅
  refine⟨_,rfl,p,_,dx,_,_,rfl,Ym,T.eS,T.gR,rfl,_,rfl,G,_,_,j,rfl,rfl,u,(by rw[af];exact yM Ud),?_⟩;generalize I:upd H4 G (.lst ((R.map V.ref).set j (.ref s)))=H5;have k5:∀b o,H4 b=some o->b≠G->H5 b=some o:=λb o e nb=>by rw[<- I,aO nb];exact e
  have hu5:H5 G=some (.lst ((R.map V.ref).set j (.ref s))):=by rw[<- I];exact ay
  have Yn:H5 s=some (.lst (bF C)):=k5 _ _ y (pU y u λz=>xX (aa Ud) (HO.lst.inj z));have Z:H5 l=some (.lst (bF c)):=k5 _ _ (M _ _ X) (pU (M _ _ X) u λz=>xX (aa Ud) (HO.lst.inj z));refine⟨_,rfl,aX _,λq2 Y=>?_⟩;have S:=aG.new (o:=.lst []) Y;refine⟨.list ((c.map λk:Nat=>(k:Int)).map .int),.list [],⟨l,_,rfl,bN.of (S _ _ Z),(by rw[fL];exact iw _)⟩,⟨q2,_,rfl,bN.of ay,rfl⟩,iD _,rfl,bX (dB (aN (Nat.min_le_right _ _) (!_)) _) O.units,?_⟩;have z:=k j f c C v[j] R s _ rfl rfl D g U N hz1 hz2 LY ((A.trans s3).free XA) (S _ _ Yn) (S _ _ hu5) (λb o e nb=>S _ _ (k5 _ _ (n _ _ e) nb));cases c with
  |nil=>exact z
  |cons a r=>exact z
def Lm(s:NS)(i:Nat)(w w2:List Nat)(e:Int):NS :=
 if w.isEmpty=true then k6 {s with ws:=s.ws.set i w2} e 3 else {s with ws:=s.ws.set i w2}
inductive VF(K:ah)(CT:Addr)(c:NC)(vs:List V)(H:Hp)(Q:VK)(E:XK):Prop
 |mk (F:Addr->Prop) (p tp ln lr:Addr) (ns:List Int) (rs:List R5) (s:NS) (i x:Nat) (w:List Nat) (r:R5):vs=[.ref p,.int i,.int x]->NW K c CT H F p tp ln lr ns rs s->cN ns rs->Cv ns rs s->s.ws[i]?=some w->rs[i]?=some r->(x:Int)<r.d->x∉w->(∀w2 F' H',w2.Perm (w++[x])->w2.Pairwise (·<=·)->NW K c CT H' F' p tp ln lr ns rs (Lm s i w w2 r.e)->Step H F H' F'->Q (.bl w.isEmpty) H')->VF K CT c vs H Q E
theorem Ul(T:Txt K mg t):cH P w K mg base iS 4 t.ye t.Cg ["self","rope","wire"]  (VF K t.bA (nc t)):=by
 refine T.Na.F.jK J4 λH Q E Z h=>?_
 ·obtain⟨F,p,X,J,I,R,rs,st,i,x,w',r,rfl,N,G,D,g,WO,V,L,k⟩:=h
  refine⟨_,(au (sS 3 J4 (lg (bq (pv 0) rfl) T.eS T.wY.m (Ll T) (Z.mono (!_)) T.wY.B .nil Qn (k9 (pv 1) (pv 2)))) (au (b6 (lN (pv 3)) (oE (cM (pv 0) T.bJ T.jm (mO T) Z (gE (pv 1)))) bw) (oR (pv 3)))),?_⟩
  left
  obtain⟨d,dx,q,hp,O,hF,hT⟩:=id N.dG;have cJ:=O.get .dG _ rfl;rw[hp] at cJ;have u:=(ai.mp g).1;have Fz:i<rs.length:=by rw[<- D.wl];exact u
  refine⟨_,rfl,p,_,_,_,_,rfl,cJ,T.bJ,T.mL,rfl,d .c9,dx .c9,_,rfl,O.get .c9 _ rfl,rfl,_,rfl,_,rfl,d .c9,X,d .dP,J,I,R,rs,st.ws,i,x,rfl,N.l5,O.strAt,D.wl,D.w4,λj kk w1 v r2 ls a H1 ej ek o c hkd hk M W LY ha S U kp=>?_,λz=>cy ⟨∅,∅⟩ z,λj v r2 H1 ej o c hz _=>?_⟩
  case refine_2 =>
   have:j=i:=∅
   subst this;rw[g] at o;cases o;rw[WO] at c;cases c;rcases hz with z|⟨y,hy,e⟩
   ·exact cy ⟨∅,V⟩ z
   ·have:y=x:=∅
    subst this;exact cy hy L
  have:j=i:=∅
  subst this
  have:kk=x:=∅
  subst this;rw[g] at o;cases o;obtain⟨F1,N1,f⟩:=QE hp O hF hT u LY ha S U kp;have s:=N.done f N1;obtain⟨amG,Sl,q1,C,O1,hF1,hT1⟩:=id N1;have gY:=O1.get .dG _ rfl;rw[C] at gY;dsimp only[iO];have k:=k v;unfold Lm at k;generalize w'.isEmpty=eb at k;refine vB (λY n=>∃l:Addr->Prop,NW K (nc t) t.bA n l p X J I R rs (if eb=true then k6 {st with ws:=st.ws.set j v} r.e 3 else {st with ws:=st.ws.set j v})/\Step H F n l/\Y=[some (.ref p),some (.int j),some (.int kk),some (.bl eb)]) ?_ λN' nx=>?_
  case refine_2 =>
   refine⟨_,rfl,_,rfl,jd (λe=>?_) (λe=>?_)⟩
   ·rw[aq e] at nx
    refine⟨_,rfl,p,_,_,rfl,gY,rfl,_,rfl,F1,p,X,J,I,R,rs,_,j,r,rfl,s,G,WO,λl n A b=>?_⟩;exact nx _ _ ⟨l,A,f.trans b,rfl⟩
   ·rw[b3 e] at nx
    exact nx _ _ ⟨F1,s,f,rfl⟩
  rintro Y n ⟨l,A,b,rfl⟩;exact⟨_,rfl,k l n M W A b⟩
inductive VG(K:ah)(c:NC)(vs:List V)(H:Hp)(Q:VK)(E:XK):Prop
 |mk (F:Addr->Prop) (p tp:Addr) (n x:Nat) (to:Option Nat) (s:NS):vs=[.ref p,.int x,wF (to.map λy:Nat=>(y:Int))]->dH K c H F p tp n s->x<s.aE.length->s.groups.length=s.aE.length->(∀y,to=some y->y<s.aE.length/\s.groups[y]?=s.groups[x]?)->Q .f9 H->VG K c vs H Q E
theorem FG(T:Txt K mg t):cH P w K mg base iS 2 t.jk t.lG ["self","sender","to"]  (VG K (nc t)):=by
 refine T.ym.F.jK EY λH Q E g h=>?_
 ·obtain⟨F,p,l,n,x,r,st,rfl,N,o,m,f,k⟩:=h
  refine⟨_,(au (fD (cM (pv 0) T.bJ T.jC (lU T) g (gE (pv 1)))) (bz (b6 (qT IK (pv 2) lM) (au (fD (cM (pv 0) T.bJ T.jC (lU T) g (gE (pv 2)))) (bz (b6 (qT vz (xL (bq (pv 0) rfl) (pv 1)) (xL (bq (pv 0) rfl) (pv 2))) eN bw))) bw))),?_⟩
  left
  obtain⟨a,v,q,u,O,A,z⟩:=id N;have c:=O.get .dG _ rfl;rw[u] at c;refine⟨_,rfl,p,_,_,rfl,c,rfl,_,rfl,F,p,l,n,x,st,rfl,N,o,?_⟩;cases r with
  |none=>exact⟨_,rfl,rfl,_,rfl,dh k⟩
  |some y =>
   obtain⟨s,i⟩:=f y rfl;refine⟨_,rfl,rfl,_,rfl,dZ ?_⟩;refine⟨_,rfl,p,_,_,rfl,c,rfl,_,rfl,F,p,l,n,y,st,rfl,N,s,?_⟩;have b:=bN.of (K:=K) (O.get .groups _ rfl);have j:x<st.groups.length:=∅
   have d:y<st.groups.length:=∅
   have e:st.groups[y]=st.groups[x]:=by
    rw[aa d,aa j] at i;exact aJ i
   refine⟨_,rfl,p,_,_,_,_,rfl,c,T.bJ,T.lH,rfl,_,rfl,a .groups,_,_,_,rfl,rfl,b,oz j,_,rfl,p,_,_,_,_,rfl,c,T.bJ,T.lH,rfl,_,rfl,a .groups,_,_,_,rfl,rfl,b,oz d,rfl,_,rfl,?_⟩;rw[e,eH rfl];exact dh k
def BU(s:NS)(x h:Nat):NS:=if s.aE[x]?=some h then s else Aj {s with aE:=s.aE.set x h} (s.groups.getD x 0)
inductive VH(K:ah)(CT:Addr)(c:NC)(vs:List V)(H:Hp)(Q:VK)(E:XK):Prop
 |mk (F:Addr->Prop) (p tp ln lr:Addr) (ns:List Int) (rs:List R5) (s:NS) (x h:Nat):vs=[.ref p,.int x,.int h]->NW K c CT H F p tp ln lr ns rs s->x<s.aE.length->s.groups.length=s.aE.length->(∀g∈s.groups,g<3)->h<ns.length->(∀F' H',NW K c CT H' F' p tp ln lr ns rs (BU s x h)->Step H F H' F'->Q .f9 H')->VH K CT c vs H Q E
theorem RG(T:Txt K mg t):cH P w K mg base iS 3 t.ux t.zf ["self","caller","house"]  (VH K t.bA (nc t)):=by
 refine T.Ka.F.jK QT λH Q E m h=>?_
 ·obtain⟨F,p,j,B,C,ns,s,st,x,y,rfl,N,i,A,l,M,k⟩:=h
  refine⟨_,(au (fD (cM (pv 0) T.bJ T.jC (lU T) m (gE (pv 1)))) (au (fD (cM (pv 0) T.bJ T.pD (vg T) m (gE (pv 2)))) (bz (b6 (qT vz (pv 2) (xL (bq (pv 0) rfl) (pv 1))) (au (Au (pv 2) (Ga (bq (pv 0) rfl) (pv 1) set_list)) (oE (cM (pv 0) T.bJ T.m8 (qv T) m (gE (xL (bq (pv 0) rfl) (pv 1)))))) bw)))),?_⟩
  left
  obtain⟨a,D,q,hp,O,S,G⟩:=id N.dG;have X:j0 K (nc t) H F a D q p j ns.length st:=⟨hp,O,S,G⟩;have f:=O.get .dG _ rfl;rw[hp] at f;have g:=O.get .aE _ rfl;have n:x<st.groups.length:=∅
  refine⟨_,rfl,p,_,_,rfl,f,rfl,_,rfl,F,p,j,ns.length,x,st,rfl,N.dG,i,?_⟩;refine⟨_,rfl,p,_,_,rfl,f,rfl,_,rfl,F,p,j,B,C,ns,s,st,y,rfl,N,M,?_⟩;refine⟨_,rfl,_,rfl,p,_,_,_,_,rfl,f,T.bJ,T.kY,rfl,_,rfl,a .aE,_,_,_,rfl,rfl,bN.of g,oz i,rfl,_,rfl,?_⟩;unfold BU at k;rw[aa i] at k;by_cases e:st.aE[x]=y
  ·rw[aq (by rw[e])] at k
   rw[e,eH rfl];exact dh (k F H N (Step.refl' (aG.refl _)))
  ·rw[b3 (λz=>e (aJ z))] at k
   rw[e8 (λz=>e (by have:=V.int.inj z;lia))];refine dZ ?_;refine⟨_,rfl,_,rfl,p,_,_,_,_,rfl,f,T.bJ,T.kY,rfl,_,rfl,a .aE,_,_,x,rfl,rfl,g,(by rw[af];exact yM i),?_⟩;have v:(bF st.aE).set x (.int (y:Nat))=bF (st.aE.set x y):=by rw[bF,bF,jG]
   rw[v];obtain⟨c,b⟩:=ZL X (st.aE.set x y);generalize upd H (a .aE) (.lst (bF (st.aE.set x y)))=H1 at c b;have r:=c.own.get .dG _ rfl;rw[c.hp] at r;have o:=bN.of (K:=K) (c.own.get .groups _ rfl);have R:=N.done b c.dG;have u:st.groups.getD x 0=st.groups[x]:=by rw[ao,aa n];rfl
   rw[u] at k;refine⟨_,rfl,p,_,_,rfl,r,rfl,_,rfl,p,_,_,_,_,rfl,r,T.bJ,T.lH,rfl,_,rfl,a .groups,_,_,_,rfl,rfl,o,oz n,F,p,j,ns.length,st.groups[x],_,rfl,c.dG,l _ (aH n),λJ I L d=>?_⟩;exact k J I (R.done d L) (b.trans d)
def G5(s:NS)(h g x:Nat):Bool:=decide (s.aE[x]?=some h/\s.groups[x]?=some g)
def sJ(s:NS)(h g:Nat):List Nat:=(av s.aE.length).filter (G5 s h g)
theorem qw:(av (i+1)).filter f=(av i).filter f++if f i=true then [i] else []:=by
 rw[gA,gB];congr 1;cases e:f i
 ·rw[b3 (!_),cS (by rw[e];decide)];rfl
 ·rw[aq rfl,cR e];rfl
inductive VI(K:ah)(c:NC)(vs:List V)(H:Hp)(Q:VK)(E:XK):Prop
 |mk (F:Addr->Prop) (p tp:Addr) (n h g:Nat) (s:NS):vs=[.ref p,.int h,.int g]->dH K c H F p tp n s->s.groups.length=s.aE.length->s.aE.length<=20->(∀l H',aG H H'->H l=none->H' l=some (.lst (bF (sJ s h g)))->Q (.ref l) H')->VI K c vs H Q E
theorem FH(T:Txt K mg t):cH P w K mg base iS 1 t.jj t.lF ["self","house","group"]  (VI K (nc t)):=by
 refine T.yl.F.jK oG λH Q E W h=>?_
 ·obtain⟨F,p,tp,n,c,g,st,rfl,N,X,vq,k⟩:=h
  refine⟨_,(au (sS 3 oG (fY (k9 (pv 1) (pv 2)))) (oR (gO (kO oG ["caller","self","there"] [none,some 0,some 3]) rfl (fz rfl T.ig (gE (lS T.fK (bq (pv 0) rfl)))) (λ_ _ _ _=>by exact (gS 0 AY)) (λ_ _ _ _=>by exact (ly (qT (abz K rfl W.units) (fY (k9 (yL K (IP K rfl (pv 1) rfl) (pv 0)) (yL K (IP K rfl (pv 1) rfl) (pv 0)))) (pv 2)))) (λ_ _ _ _=>by exact (pv 0))))),?_⟩
  left
  refine⟨_,rfl,_,rfl,fy,λG u=>?_⟩;have r:=aG.new (o:=.tup [V.int c,V.int g]) u;have R:=ay (H:=H) (a:=G) (o:=.tup [V.int c,V.int g]);generalize upd H G (.tup [V.int c,V.int g])=H1 at r R;obtain⟨d,dx,q,Z,O,hF,hT⟩:=N.mono r;have C:=O.get .dG _ rfl;rw[Z] at C;have m:=bN.of (K:=K) (O.get .aE _ rfl);have A:=bN.of (K:=K) (O.get .groups _ rfl);refine⟨_,rfl,p,_,_,_,_,rfl,C,T.bJ,T.kY,rfl,d .aE,_,rfl,.inl m,(((bF st.aE).length:Nat):Int),rfl,∅,by rw[af];lia,λz b=>?_⟩;rw[af];refine gf (n:=((st.aE.length:Int)).toNat) (λi x _=>x=bF ((av i).filter (G5 st c g))) b AD qR rfl ?_ ?_
  ·rintro i x L J e B rfl y H4 ⟨rfl,rfl⟩
   rw[dw];have l:i<st.aE.length:=∅
   have j:i<st.groups.length:=∅
   have U:=e _ _ C;refine⟨_,rfl,p,_,_,_,_,rfl,U,T.bJ,T.kY,rfl,_,rfl,d .aE,_,_,_,rfl,rfl,e.seq m,oz l,_,rfl,p,_,_,_,_,rfl,U,T.bJ,T.lH,rfl,_,rfl,d .groups,_,_,_,rfl,rfl,e.seq A,oz j,fy,λz1 s=>?_⟩;have I:=aG.new (o:=.tup [V.int (st.aE[i]:Nat),V.int (st.groups[i]:Nat)]) s;have v:=e.trans I;have f:=I _ _ B;refine⟨_,rfl,.tuple (([(st.aE[i]:Int),(st.groups[i]:Int)]:List Int).map .int),.tuple (([(c:Int),(g:Int)]:List Int).map .int),Rep.MR (ns:=[(st.aE[i]:Int),(st.groups[i]:Int)]) (cX.of ay),Rep.MR (ns:=[(c:Int),(g:Int)]) (cX.of (v _ _ R)),iD _,iD _,(by show PyData.depthAll _+1<=64;rw[nO];decide),_,rfl,?_⟩
   try dsimp only
   have ei:G5 st c g i=decide ((st.aE[i]:Int)=(c:Int)/\(st.groups[i]:Int)=(g:Int)):=by
    unfold G5;rw[aa l,aa j,decide_eq_decide];constructor
    ·rintro⟨S,M⟩
     exact⟨by rw[aJ S],by rw[aJ M]⟩
    ·rintro⟨S,M⟩
     exact⟨ff some ∅,ff some ∅⟩
   rw[Vg,<- ei];refine jd (λD=>?_) (λD=>?_)
   ·refine⟨_,rfl,?_⟩
    refine dY b J v f ?_ ?_
    ·rw[af]
     refine b4 (aN (bx _ _) ?_);rw[be];lia
    ·rw[qw,aq D,iC]
   ·refine gp J v f ?_
    rw[qw,b3 D,bQ]
  ·rintro x L e B rfl
   have Y:=r.trans e;exact k z L Y (r.free b) B
inductive NJ(K:ah)(CT C NW:Addr)(vs:List V)(H:Hp)(Q:VK)(E:XK):Prop
 |mk (p tp lu ln lr:Addr) (ns:List Int) (rs:List R5) (ws:List (List Nat)) (i x:Int):vs=[.ref p,.int i,.int x]->dM K CT H tp ln lr ns rs->vC C H p tp lu ws->ws.length=rs.length->(∀(j:Nat) w H',i=(j:Int)->ws[j]?=some w->aG H H'->(w=[]->Q .f9 H')/\(∀k:Nat,w[(x%(w.length:Int)).toNat]?=some k->w≠[]->Q (.int (k:Nat)) H'))->(¬(0<=i/\i<rs.length)->E (.ref NW) none H)->NJ K CT C NW vs H Q E
theorem Cz(T:Txt K mg t):cH P w K mg base (FT P w) 2 t.iI t.jy ["self","rope","number"]  (NJ K t.bA t.dc t.yj):=by
 refine T.nG.F.Xj sI λH Q E f h=>?_
 ·obtain⟨p,X,A,G,M,N,s,R,i,x,rfl,S,n,L,k,Z⟩:=h
  obtain⟨⟨O,Y⟩,_⟩:=id n;refine⟨_,(au (sS 3 sI (lg (pv 0) T.eS T.fq.m (lT T) (f.mono (!_)) T.fq.B .nil U0 (gE (pv 1)))) (au (b6 (qT wz (pv 3) (gV fX)) (oR lM) bw) (oR (xL (pv 3) (aY cZ (pv 2) (lS T.fK (pv 3))))))),?_⟩
  left
  refine⟨_,rfl,p,O,_,rfl,Y,rfl,_,rfl,p,X,A,G,M,N,s,R,i,rfl,S,n,L,λj d l H1 U hj W UW I=>?_,Z⟩;refine⟨_,rfl,aX _,λq D=>?_⟩;have g:=aG.new (o:=.lst []) D;have c:=g _ _ I;refine⟨.list ((d.map λk:Nat=>(k:Int)).map .int),.list [],⟨l,_,rfl,bN.of c,(by rw[fL];exact iw _)⟩,⟨q,_,rfl,bN.of ay,rfl⟩,iD _,rfl,bX (dB (aN (Nat.min_le_right _ _) (!_)) _) f.units,_,rfl,?_⟩;obtain⟨v,C⟩:=k j d _ U hj (W.trans g);cases d with
  |nil=>exact dZ (v rfl)
  |cons y a =>
   refine dh ?_;have b:(0:Int)<(((y::a).length:Nat):Int):=by rw[aV];lia
   have u:=b5 x (show (((y::a).length:Nat):Int)≠0 by lia);have J:=cP x b;have e:(x%(((y::a).length:Nat):Int)).toNat<(y::a).length:=∅
   refine⟨_,rfl,_,rfl,_,rfl,l,_,rfl,.inl (bN.of c),_,_,rfl,(by rw[af]),b,?_⟩;obtain⟨z,r⟩:∃z,(y::a)[(x%(((y::a).length:Nat):Int)).toNat]?=some z:=⟨_,aa e⟩;refine⟨l,_,_,V.int (z:Nat),rfl,rfl,bN.of c,?_,C z r (by intro z;cases z)⟩;rw[show x%(((y::a).length:Nat):Int)=(((x%(((y::a).length:Nat):Int)).toNat:Nat):Int) by lia];exact c5 (by rw[ak,r];rfl)
def C8(l:LS)(h:Nat):Bool:=(yI (l.done.map λh:Nat=>((eT (h:Int):Key),V.bl true)) (eT (h:Int))).isSome
inductive VJ(K:ah)(CT:Addr)(c:NC)(vs:List V)(H:Hp)(Q:VK)(E:XK):Prop
 |mk (F:Addr->Prop) (loc dx:Role->Addr) (q:TQ) (p tp ln lr:Addr) (ns:List Int) (rs:List R5) (s:NS) (o:cN ns rs) (i r h:Nat) (l:LS):vs=[.ref p,.ref (loc (.cC i)),.int r,.int h]->j0 K c H F loc dx q p tp ns.length s->NW K c CT H F p tp ln lr ns rs s->Cv ns rs s->s.ls[i]?=some l->l.grp<3->(∀os H',aG H H'->fk (ju ns rs o s.ws l.grp) (s.R l.grp) os->os.length<=12->Q (.str (if r∈os then (if C8 l h=true then "twice" else "come") else "lost")) H')->VJ K CT c vs H Q E
theorem Ln(T:Txt K mg t):cH P w K mg base iS 7 t.mJ t.qJ ["self","posted","rope","house"]  (VJ K t.bA (nc t)):=by
 refine T.CQ.F.jK J5 λH Q E n h=>?_
 ·obtain⟨F,a,B,q,p,I,y,A,C,v,st,o,i,r,x,l,rfl,X,N,z,b,D,k⟩:=h
  refine⟨_,(au (b6 (i7 n9 (pv 2) (cM (pv 0) T.bJ T.HC (Pu T) n (gE (bq (pv 1) rfl))) (by with_unfolding_all rfl)) (oR gm) bw) (oR (xR (Od (Zb (CD n) (pv 3) (bq (pv 1) rfl)) (by with_unfolding_all rfl)) gm gm))),?_⟩
  left
  have u:=X.own.get .dG _ rfl;rw[X.hp] at u;have s:=X.own.get (.cC i) (nS (nc t) B a i l) (by show (st.ls[i]?.map _)=_;rw[b];rfl);have d:=X.own.get (.done i) (.dK (l.done.map λh:Nat=>(eT (h:Int),.bl true))) (by show (st.ls[i]?.map _)=_;rw[b];rfl);refine⟨_,rfl,_,rfl,p,_,_,rfl,u,rfl,_,rfl,a (.cC i),_,_,_,_,rfl,s,T.dR,T.kW,rfl,F,p,I,y,A,C,v,st,o,l.grp,rfl,N,z,D,λlo os G g J c j m=>⟨lo,_,rfl,.inl (bN.of c),rfl,je _,_,rfl,?_⟩⟩
  try dsimp only
  rw[aq rfl,om];have k:=k os G g j m;by_cases e:r∈os
  ·rw[aq e] at k
   rw[eH e];refine dh ?_;refine⟨_,rfl,_,rfl,a (.cC i),_,_,_,_,rfl,g _ _ s,T.dR,T.qb,rfl,a (.done i),_,rfl,Di.k (k:=.inl (x:Int)) (g _ _ d),_,rfl,?_⟩;unfold C8 at k;refine jd (λf=>?_) (λf=>?_)
   ·rw[aq f] at k
    exact k
   ·rw[b3 f] at k
    exact k
  ·rw[b3 e] at k
   rw[e8 e];exact dZ k
def j5(l:LS):Nat:=if l.kd=1 then l.s+l.to+1 else l.s
theorem acm{t:Ad}(T:Txt K mg t){b a:Role->Addr}{f:L2.St}{H:Hp}{Q:VK}{i:Nat}{l:LS}(h:∀Q:VK,Q (.ref (a (.cC i))) H->Oc 4 f H Q)(j:H (a (.cC i))=some (nS (nc t) b a i l))(c:H (a (.letter i))=some (sM (nc t) (b (.letter i)) l))(q:Q (.int (j5 l:Nat)) H) :
 Hr t.jl (Str.ofString "number") (Co K) [] E0 (Jm K (Oc 4) (Str.ofString "letter")) Ex f H Q∨Hr t.gQ (Str.ofString "number") (G3 t.gQ) [] E0 (Jm K (Oc 4) (Str.ofString "letter")) Ex f H Q∨Hr t.jB (Str.ofString "number") (Co K) [] E0 (Jm K (Oc 4) (Str.ofString "letter")) Ex f H Q:=by
 by_cases e:l.kd=1
 ·have d:H (a (.letter i))=some (.ins t.gQ (b (.letter i)) [("sender",.int l.s),("to",.int l.to)]):=by rw[c];unfold sM;rw[aq e]
  have g:V.int ((l.s:Int)+(l.to:Int)+1)=.int (j5 l:Nat):=by unfold j5;rw[aq e];rfl
  refine .inr (.inl ?_);unfold Hr Jm;exact (h _ ⟨a (.cC i),_,_,_,_,rfl,j,T.dR,T.iR,rfl,a (.letter i),b (.letter i),_,rfl,d,rfl,a (.letter i),b (.letter i),l.s,l.to,rfl,d,(by rw[g];exact q)⟩)
 ·have d:H (a (.letter i))=some (.ins t.jB (b (.letter i)) [("sender",.int l.s)]):=by rw[c];unfold sM;rw[b3 e]
  have g:V.int (l.s:Int)=.int (j5 l:Nat):=by unfold j5;rw[b3 e]
  refine .inr (.inr ?_);unfold Hr Jm;exact (h _ ⟨a (.cC i),_,_,_,_,rfl,j,T.dR,T.iR,rfl,a (.letter i),b (.letter i),_,rfl,d,rfl,a (.letter i),t.jB,b (.letter i),l.s,rfl,d,T.zu,T.pF,(by rw[g];exact q)⟩)
def RH(s:NS)(i h r x f:Nat):NS:={dQ s i (.send h r x) with cps:=s.cps++[⟨i,r,x,f⟩]}
inductive VL(K:ah)(CT:Addr)(c:NC)(vs:List V)(H:Hp)(Q:VK)(E:XK):Prop
 |mk (F:Addr->Prop) (p tp ln lr:Addr) (ns:List Int) (rs:List R5) (s:NS) (i h r:Nat) (l:LS) (re:R5) (w:List Nat) (x:Nat):vs=[.ref p,.int i,.int h,.int r]->NW K c CT H F p tp ln lr ns rs s->cN ns rs->Cv ns rs s->s.ls[i]?=some l->l.aF.length<1000000->s.cps.length<1000000->rs[r]?=some re->s.ws[r]?=some w->w[(((j5 l:Nat):Int)%(w.length:Int)).toNat]?=some x->w≠[]->(∀F' H',NW K c CT H' F' p tp ln lr ns rs (RH s i h r x (gD re h))->Step H F H' F'->Q .f9 H')->VL K CT c vs H Q E
theorem RI(T:Txt K mg t):cH P w K mg base iS 3 t.uy t.zg ["self","number","house","rope"]  (VL K t.bA (nc t)):=by
 refine T.Kd.F.jK AZ λH Q E n h=>?_
 ·obtain⟨F,p,D,ln,lr,ns,A,st,i,e,r,l,re,w',x,rfl,N,tok,BQ,b,hld,hcl,g,hw,S,M,k⟩:=h
  refine⟨_,(au (sS 4 AZ (xL (bq (pv 0) rfl) (pv 1))) (au (sS 5 AZ (lg (bq (pv 0) rfl) T.eS T.nG.m (Cz T) (n.mono (!_)) T.nG.B .nil Qn (k9 (pv 3) (Gi (jc (bq (pv 4) rfl) T.Kl T.m6.m (yw T) (n.mono (!_)) T.m6.B .nil jv) (Gi (jc (bq (pv 4) rfl) T.qM T.uE.m (IE T) (n.mono (!_)) T.uE.B .nil jv) (jc (bq (pv 4) rfl) T.zu T.Km (yw T) (n.mono (!_)) T.m6.B .nil jv)))))) (au (fD (sF bI bM bL fR (bq (pv 4) rfl) (gE (fY (ry gm (pv 2) (pv 3) (pv 5)))))) (oE (sF bI bM bL fR (bq (pv 0) rfl) (gE (fY (ry (pv 1) (pv 3) (pv 5) (cM (bq (pv 0) rfl) T.f6 T.pC (sC T) n (k9 (pv 3) (pv 2))))))))))),?_⟩
  left
  obtain⟨a,C,q,hp,O,hF,hT⟩:=id N.dG;have cJ:=O.get .dG _ rfl;rw[hp] at cJ;have X:=(ai.mp b).1;have Y:=(ai.mp g).1;have VD:=O.get .cU _ rfl;have NI:=O.get (.cC i) (nS (nc t) C a i l) (by show (st.ls[i]?.map _)=_;rw[b];rfl);have L:=O.get (.letter i) (sM (nc t) (C (.letter i)) l) (by show (st.ls[i]?.map _)=_;rw[b];rfl);refine⟨_,rfl,p,_,_,_,_,rfl,cJ,T.bJ,T.eX,rfl,_,rfl,a .cU,_,_,_,rfl,rfl,bN.of VD,rH X,?_⟩;refine⟨_,rfl,p,_,_,_,_,rfl,cJ,T.bJ,T.mL,rfl,a .c9,C .c9,_,rfl,O.get .c9 _ rfl,rfl,_,rfl,?_⟩;have u:=O.get (.aF i) (.lst ((q.dq i).map V.ref)) (by show (st.ls[i]?.map _)=_;rw[b];rfl);refine acm T (l:=l) (λQ q=>⟨_,rfl,q⟩) NI L ?_;refine⟨a .c9,D,a .dP,ln,lr,ns,A,st.ws,r,(j5 l:Nat),rfl,N.l5,O.strAt,BQ.wl,λj w2 H1 ej y v=>⟨λz=>?_,λkk hk _=>?_⟩,λz=>cy ⟨∅,∅⟩ z⟩
  ·have:j=r:=∅
   subst this;rw[hw] at y;cases y;exact cy z M
  have:j=r:=∅
  subst this;rw[hw] at y;cases y;rw[S] at hk;cases hk;have X1:j0 K (nc t) H1 F a C q p D ns.length st:=j0.mono ⟨hp,O,hF,hT⟩ v;have PR:=(X1.tup.aF i _ b).len;rw[af] at PR;refine⟨_,rfl,a (.cC i),_,_,_,_,rfl,v _ _ NI,T.dR,T.iK,rfl,.inl ⟨rfl,_,bN.of (v _ _ u)⟩,_,rfl,_,rfl,_,rfl,aau,λz1 J=>?_⟩;have I:=aG.new (o:=.tup [V.str "send",V.int e,V.int j,V.int x]) J;refine⟨a (.aF i),_,_,rfl,rfl,I _ _ (v _ _ u),xK (by rw[af,PR];lia),?_⟩;obtain⟨f,R⟩:=AI (X1.mono I) b (d:=.send e j x) (cX.of ay);have c:=(Step.refl' (F:=F) (v.trans I)).trans R;have N2:=N.done c f.dG;generalize upd (upd H1 z1 (.tup [V.str "send",V.int e,V.int j,V.int x])) (a (.aF i)) (.lst ((q.dq i).map V.ref++[.ref z1]))=H2 at f c N2;have G:=f.own.get .dG _ rfl;rw[f.hp] at G;have s:=f.own.get .fM _ rfl;obtain⟨⟨dt,W⟩,_⟩:=id N2.l5;have Z:q.cq.length=st.cps.length:=by
   have z:=f.tup.cps.len;rw[af] at z;exact z
  obtain⟨_,rfl⟩:=ai.mp g;refine⟨_,rfl,p,_,_,_,_,rfl,G,T.bJ,T.jD,rfl,.inl ⟨rfl,_,bN.of s⟩,_,rfl,_,rfl,_,rfl,_,rfl,p,_,_,_,_,rfl,G,T.bJ,T.nH,rfl,D,dt,_,rfl,W,rfl,_,rfl,_,rfl,D,ln,lr,ns,A,j,_,e,rfl,N2.l5,g,?_⟩;rw[U8 (h:=e) Y tok.ok];refine⟨aau,λz2 hz2=>?_⟩;have U:=aG.new (o:=.tup [V.int i,V.int j,V.int x,V.int (gD A[j] e:Nat)]) hz2;refine⟨a .fM,_,_,rfl,rfl,U _ _ s,xK (by rw[af,Z];lia),?_⟩;have X3:=f.mono U;obtain⟨X4,EI⟩:=Vf X3 (qs:=q.cq++[z2]) (cps:=st.cps++[⟨i,j,x,gD A[j] e⟩]) (by rw[aK];exact X3.tup.cps.snoc (cX.of ay));rw[aK] at X4 EI;have LH:=(c.trans (Step.refl' (F:=F) U)).trans EI;refine k F _ ?_ LH;unfold RH;rw[fO b];exact N.done LH X4.dG
end
section
def jS(ds:List Nat)(h:Nat):List Nat:=if h∈ds then ds else ds++[h]
theorem XE{ds:List Nat}{h:Nat}:putK (ds.map λh:Nat=>((eT (h:Int):Key),V.bl true)) (eT (h:Int)) (V.bl true)=(jS ds h).map λh:Nat=>((eT (h:Int):Key),V.bl true):=by
 have e:((ds.map λh:Nat=>((eT (h:Int):Key),V.bl true)).any λkv=>decide (kv.1=(eT (h:Int):Key)))=decide (h∈ds):=by
  rw[kC,List.any_map,lW,f5];constructor
  ·rintro⟨x,a,e⟩
   have e:=wc (gh e)
   have:x=h:=∅
   exact this▸a
  ·exact λa=>⟨h,a,eH rfl⟩
 unfold putK jS;rw[e];by_cases z:h∈ds
 ·rw[aq (eH z),aq z,bV]
  refine cY λx _=>?_;show (if _ then _ else _)=_;split <;> rfl
 ·rw[b3 (by rw[f5];exact z),b3 z,aK]
  rfl
structure Fr(s s':NS):Prop where
 ws:s'.ws=s.ws
 R:s'.R=s.R
 ts:s'.ts=s.ts
 aE:s'.aE=s.aE
 groups:s'.groups=s.groups
 lt:∀(i:Nat) (l:LS),s.ls[i]?=some l->∃l':LS,s'.ls[i]?=some l'/\l'.s=l.s/\l'.to=l.to/\l'.kd=l.kd/\l'.grp=l.grp/\l'.old=l.old
theorem Fr.refl(s:NS):Fr s s:=⟨rfl,rfl,rfl,rfl,rfl,λ_ l h=>⟨l,h,rfl,rfl,rfl,rfl,rfl⟩⟩
theorem Fr.trans(f:Fr a b)(g:Fr b c):Fr a c:=by
 refine⟨g.ws.trans f.ws,g.R.trans f.R,g.ts.trans f.ts,g.aE.trans f.aE,g.groups.trans f.groups,λi l h=>?_⟩;obtain⟨n,o,r,j,e,p,k⟩:=f.lt i l h;obtain⟨s,m,f1,f2,q,d,t⟩:=g.lt i n o;exact⟨s,m,f1.trans r,f2.trans j,q.trans e,d.trans p,t.trans k⟩
theorem Fr.ok(f:Fr s s')(h:Cv ns rs s):Cv ns rs s' :=
 ⟨by rw[f.ws];exact h.wl,by rw[f.ws];exact h.w4,by rw[f.R];exact h.fit⟩
theorem adX{s:NS}{i:Nat}{a:LS}{had:List (List Nat)}{cps:List Cp}(hl:s.ls[i]?=some l)(e:a.s=l.s)(c:a.to=l.to)(f:a.kd=l.kd)(g:a.grp=l.grp)(d:a.old=l.old):Fr s {s with ls:=s.ls.set i a,had:=had,cps:=cps}:=by
 refine⟨rfl,rfl,rfl,rfl,rfl,λk b h=>?_⟩;show ∃b,(s.ls.set i a)[k]?=some b/\_;rw[fZ (ai.mp hl).1];by_cases z:k=i
 ·subst z
  rw[hl] at h;cases h;exact⟨a,aq rfl,e,c,f,g,d⟩
 ·exact⟨b,by rw[b3 z];exact h,rfl,rfl,rfl,rfl,rfl⟩
theorem VM:Fr s (dQ s i d):=by
 cases h:s.ls[i]? with
 |none=>unfold dQ;rw[h];exact Fr.refl s
 |some l=>rw[fO h];exact adX h rfl rfl rfl rfl rfl
structure Bd(n m D:Nat)(s:NS):Prop where
 gl:s.groups.length=s.aE.length
 vq:s.aE.length<=20
 g3:∀g∈s.groups,g<3
 hm:∀h∈s.aE,h<n
 hl:s.had.length=s.aE.length
 hb:∀w∈s.had,w.length<=D
 ll:s.ls.length<=D
 lb:∀l∈s.ls,l.aF.length+s.cps.length<=D/\l.done.length<=D/\l.grp<3/\(l.kd=1∨l.kd=2)
 cb:s.cps.length<=D
 cl:∀c∈s.cps,c.l<s.ls.length/\c.r<m/\c.h<n
 tb:∀g,50*(s.ts g).length<=D/\fF (s.ts g)
theorem Bd.mono{a:Nat}(b:Bd n m D s)(h:D<=a):Bd n m a s :=
 ⟨b.gl,b.vq,b.g3,b.hm,b.hl,λw z=>aN (b.hb w z) h,aN b.ll h,λl z=>⟨aN (b.lb l z).1 h,aN (b.lb l z).2.1 h,(b.lb l z).2.2⟩,aN b.cb h,b.cl,λg=>⟨aN (b.tb g).1 h,(b.tb g).2⟩⟩
theorem Bd.set{n m D:Nat}{s:NS}{i:Nat}{l a:LS}(b:Bd n m D s)(k:Nat)(hl:s.ls[i]?=some l){cps:List Cp}{had:List (List Nat)}(v:cps.length<=s.cps.length+1)(k2:cps.length<=s.cps.length∨2<=k)(k1:1<=k)(u:a.aF.length+cps.length<=l.aF.length+s.cps.length+k)(t:a.done.length<=l.done.length+k)(o:a.grp=l.grp)(j:a.kd=l.kd)
 (p:∀c∈cps,c∈s.cps∨(c.l<s.ls.length/\c.r<m/\c.h<n)) (f:had.length=s.had.length) (q:∀w∈had,w.length<=D+k):Bd n m (D+k) {s with ls:=s.ls.set i a,had:=had,cps:=cps}:=by
 have d:=b.lb l (aC hl);refine⟨b.gl,b.vq,b.g3,b.hm,f.trans b.hl,q,?_,λe z=>?_,?_,λc z=>?_,λg=>⟨aN (b.tb g).1 (lV _ _),(b.tb g).2⟩⟩
 ·show (s.ls.set i a).length<=_
  rw[bg]
  have:=b.ll
  lia
 ·rcases jZ z with z|rfl
  ·have h:=b.lb e z
   refine⟨?_,?_,h.2.2⟩
   ·show e.aF.length+cps.length<=_
    have:=h.1
    lia
   ·have:=h.2.1
    lia
  ·refine⟨?_,?_,o▸d.2.2.1,j▸d.2.2.2⟩
   ·show e.aF.length+cps.length<=_
    have:=d.1
    lia
   ·have:=d.2.1
    lia
 ·show cps.length<=_
  have:=b.cb
  lia
 ·show c.l<(s.ls.set i a).length/\_
  rw[bg];rcases p c z with y|y
  ·exact b.cl c y
  ·exact y
theorem Bd.aq9(b:Bd n m D s)(i:Nat)(d:cV):Bd n m (D+1) (dQ s i d):=by
 cases h:s.ls[i]? with
 |none=>unfold dQ;rw[h];exact b.mono (fU D)
 |some l =>
  rw[fO h];refine b.set 1 h (fU _) (.inl (az _)) (az _) ?_ (fU _) rfl rfl (λc z=>.inl z) rfl (λw z=>kq (b.hb w z));show (l.aF++[d]).length+_<=_;rw[aB];show l.aF.length+1+_<=_;lia
def fG(s:NS)(i h:Nat)(l:LS):NS:={s with ls:=s.ls.set i {l with done:=jS l.done h}}
theorem Px{s:NS}{i:Nat}(hl:s.ls[i]?=some l):Fr s (fG s i h l):=adX hl rfl rfl rfl rfl rfl
theorem VN{i:Nat}(b:Bd n m D s)(hl:s.ls[i]?=some l):Bd n m (D+1) (fG s i h l):=by
 refine b.set 1 hl (fU _) (.inl (az _)) (az _) (fU _) ?_ rfl rfl (λc z=>.inl z) rfl (λw z=>kq (b.hb w z));show (jS l.done h).length<=_;unfold jS;split
 ·exact fU _
 ·rw[aB];exact az _
def vj(s:NS)(i c:Nat):NS:={s with had:=s.had.set c (s.had.getD c []++[i])}
def mP(i h:Nat)(s:NS)(c:Nat):NS:=dQ (vj s i c) i (.hand h c)
theorem IZ:Fr s (mP i h s c):=Fr.trans (b:=vj s i c) ⟨rfl,rfl,rfl,rfl,rfl,λ_ l h=>⟨l,h,rfl,rfl,rfl,rfl,rfl⟩⟩ VM
theorem Py(b:Bd n m D s):Bd n m (D+1) (mP i h s c):=by
 have q:∀w∈(vj s i c).had,w.length<=D+1:=λw z=>by
  rcases jZ z with y|rfl
  ·exact kq (b.hb w y)
  ·rw[aB]
   refine gG ?_ 1;rw[ao];cases e:s.had[c]? with
   |none=>exact aX _
   |some w=>exact b.hb w (aC e)
 unfold mP;cases d:s.ls[i]? with
 |none =>
  unfold dQ;rw[show (vj s i c).ls[i]?=none from d];have a:=b.mono (fU D);exact⟨a.gl,a.vq,a.g3,a.hm,by show (s.had.set _ _).length=_;rw[bg];exact a.hl,q,a.ll,a.lb,a.cb,a.cl,a.tb⟩
 |some l =>
  rw[fO (show (vj s i c).ls[i]?=some l from d)];refine b.set 1 d (fU _) (.inl (az _)) (az _) ?_ (fU _) rfl rfl (λc z=>.inl z) (by show (s.had.set _ _).length=_;rw[bg]) q;show (l.aF++[_]).length+s.cps.length<=_;rw[aB];show l.aF.length+1+s.cps.length<=_;lia
def jq(ws:List (List Nat))(r k:Nat):Nat:=match ws[r]? with|some w=>w.getD (k%w.length) 0|none=>0
def fj(rs:List R5)(r h:Nat):Nat:=match rs[r]? with|some re=>gD re h|none=>0
def XF(s:NS)(i:Nat):Nat:=match s.ls[i]? with|some l=>j5 l|none=>0
def vm(rs:List R5)(i h:Nat)(s:NS)(r:Nat):NS:=RH s i h r (jq s.ws r (XF s i)) (fj rs r h)
theorem I0:Fr s (vm rs i h s r):=Fr.trans (VM (i:=i) (d:=.send h r (jq s.ws r (XF s i)))) ⟨rfl,rfl,rfl,rfl,rfl,λ_ l h=>⟨l,h,rfl,rfl,rfl,rfl,rfl⟩⟩
theorem S5(o:cN ns rs){r:Nat}(a:r<rs.length):fj rs r h<ns.length:=by
 unfold fj;rw[aa a];have k:=o.ok _ (aH a);have c:=k.a0;have b:=k.b0;have d:=k.a1;have e:=k.b1;show gD _ _<_;unfold gD;split <;> lia
theorem VO(o:cN ns rs){i r:Nat}(b:Bd ns.length rs.length D s)(e:i<s.ls.length)(d:r<rs.length):Bd ns.length rs.length (D+2) (vm rs i h s r):=by
 have a:=aa e;unfold vm RH;rw[fO a];refine b.set 2 a (by rw[aB];exact az _) (.inr (az _)) (!_) ?_ (lV _ _) rfl rfl (λc z=>?_) rfl (λw z=>aN (b.hb w z) (lV _ _))
 ·show (s.ls[i].aF++[_]).length+(s.cps++[_]).length<=_
  rw[aB,aB];show s.ls[i].aF.length+1+(s.cps.length+1)<=_;lia
 ·rcases aU.mp z with y|y
  ·exact .inl y
  ·rw[aS] at y
   subst y;exact .inr ⟨e,d,S5 o d⟩
theorem zQ{f:NS->Nat->NS}(h:∀s x,Fr s (f s x)):∀(xs:List Nat) (s:NS),Fr s (xs.foldl f s)
 |[],s=>Fr.refl s
 |x::xs,s=>(h s x).trans (zQ h xs (f s x))
theorem Cq{n m k:Nat}{f:NS->Nat->NS}(I:NS->Prop):∀(xs:List Nat) (s:NS) (D:Nat),(∀s x D,x∈xs->I s->Bd n m D s->I (f s x)/\Bd n m (D+k) (f s x))->I s->Bd n m D s->Bd n m (D+k*xs.length) (xs.foldl f s)
 |[],s,D,_,_,b=>b
 |x::xs,s,D,h,i,b=>by
  obtain⟨a,c⟩:=h s x D bE i b
  have:=Cq I xs (f s x) (D+k) (λs y D z=>h s y D (bf _ z)) a c
  refine this.mono (Nat.le_of_eq ?_);rw[aV,Nat.mul_succ];lia
theorem NK{xs:List Nat}{j:Nat}(h:j<xs.length):(xs.take (j+1)).foldl f s=f ((xs.take j).foldl f s) xs[j]:=by
 rw[dF h,pP];rfl
def k7(s:NS)(l:LS)(h:Nat):List Nat:=(sJ s h l.grp).filter λc=>Gk l.s l.to l.kd c
def C9(rs:List R5)(s:NS)(l:LS)(h:Nat)(cK:Option Nat)(os:List Nat):List Nat:=(Xb (s.ts l.grp) (qx l.to l.kd) h (cK.map λk:Nat=>(k:Int)) ((os.filter (isAt rs h)).map λk:Nat=>(k:Int)) ((sJ s h l.grp).map λk:Nat=>(k:Int))).map xO
def XG(rs:List R5)(s:NS)(i h:Nat)(l:LS)(cK:Option Nat)(os:List Nat):NS:=(C9 rs s l h cK os).foldl (vm rs i h) ((k7 s l h).foldl (mP i h) (fG s i h l))
theorem FI{os:List Int}:(∀x∈Xb ts so ou cK os hs,x∈os)/\(Xb ts so ou cK os hs).length<=os.length:=by
 have f:(∀x∈os.filter (kJ cK),x∈os)/\(os.filter (kJ cK)).length<=os.length:=⟨λx z=>(aT.mp z).1,bx _ _⟩;unfold Xb;split
 ·exact f
 ·split
  ·exact⟨λx z=>cy z (-_),aX _⟩
  ·split
   ·split
    ·rename_i r _ a
     refine⟨λx z=>?_,?_⟩
     ·have:=(aT.mp z).1
      rw[aS] at this;exact this▸a
     ·refine aN (bx _ _) ?_
      show 1<=os.length;cases os with
      |nil=>cases a
      |cons=>simp
    ·exact f
   ·exact f
theorem acn{rs:List R5}{s:NS}{l:LS}{h:Nat}{cK:Option Nat}{os:List Nat}:(Xb (s.ts l.grp) (qx l.to l.kd) h (cK.map λk:Nat=>(k:Int)) ((os.filter (isAt rs h)).map λk:Nat=>(k:Int)) ((sJ s h l.grp).map λk:Nat=>(k:Int))).map V.int=bF (C9 rs s l h cK os):=by
 unfold C9;rw[bF,bV];refine cY λx a=>?_;obtain⟨k,_,rfl⟩:=aL.mp (FI.1 x a);rfl
theorem VP{os:List Nat}:(∀r∈C9 rs s l h cK os,r∈os)/\(C9 rs s l h cK os).length<=os.length:=by
 unfold C9;refine⟨λr c=>?_,?_⟩
 ·obtain⟨x,a,rfl⟩:=aL.mp c
  obtain⟨k,b,rfl⟩:=aL.mp (FI.1 x a);exact (aT.mp b).1
 ·rw[af]
  refine aN FI.2 ?_;rw[af];exact bx _ _
theorem RJ:(∀c∈k7 s l h,c<s.aE.length)/\(k7 s l h).length<=s.aE.length:=by
 unfold k7 sJ;refine⟨λc z=>bB.mp (aT.mp (aT.mp z).1).1,?_⟩;refine aN (bx _ _) (aN (bx _ _) ?_);rw[be];exact az _
theorem Cr{s:NS}{os:List Nat}(O:fk (ju ns rs o s.ws g) (s.R g) os){r:Nat}(d:r∈os):r<rs.length/\∃w,s.ws[r]?=some w/\w≠[]:=by
 obtain⟨a,b,t⟩:=(O.2 r).mp d;have m:r∈tY rs s.ws g:=t.lZ.1;refine⟨xY r m,?_⟩;have e:=(aT.mp m).2;unfold isLive at e;split at e
 ·rename_i h w f c
  refine⟨w,c,λz=>?_⟩;subst z;cases e
 ·cases e
theorem afW{s:NS}{i:Nat}{os:List Nat}(hl:s.ls[i]?=some l):Fr s (XG rs s i h l cK os):=((Px hl).trans (zQ (λ_ _=>IZ) _ _)).trans (zQ (λ_ _=>I0) _ _)
end
section
variable{P:Program}{w:World}{K:ah}{mg:Str->Option Value}{base:Heap}
theorem afX{H:Hp}(h:H a=some (sM c dx l))(k:l.kd=1∨l.kd=2):Hw cL c.let1 c.ah2 H a l.s l.to l.kd:=by
 rcases k with e|e
 ·rw[e]
  refine .one dx ?_;rw[h];unfold sM;rw[aq e]
 ·rw[e]
  refine .all dx ?_;rw[h];unfold sM;rw[b3 (by rw[e];decide)]
inductive adY(K:ah)(CT:Addr)(c:NC)(vs:List V)(H:Hp)(Q:VK)(E:XK):Prop
 |mk (F:Addr->Prop) (p tp ln lr:Addr) (ns:List Int) (rs:List R5) (s:NS) (o:cN ns rs) (i h:Nat) (cK:Option Nat) (l:LS) (D:Nat):vs=[.ref p,.int i,.int h,wF (cK.map λk:Nat=>(k:Int))]->NW K c CT H F p tp ln lr ns rs s->Cv ns rs s->Bd ns.length rs.length D s->D<=900000->s.ls[i]?=some l->(∀os F' H',fk (ju ns rs o s.ws l.grp) (s.R l.grp) os->os.length<=12->NW K c CT H' F' p tp ln lr ns rs (XG rs s i h l cK os)->Step H F H' F'->Q .f9 H')->adY K CT c vs H Q E
theorem yy(T:Txt K mg t):cH P w K mg base iS 7 t.jN t.mY ["self","number","house","came"]  (adY K t.bA (nc t)):=by
 refine T.rT.F.jK fB λH Q E hr h=>?_
 ·obtain⟨F,p,tp,ln,lr,ns,rs,st,o,i,f,U,l,D,rfl,N,BQ,bd,hD,I,k⟩:=h
  refine⟨_,(au (sS 4 fB (xL (bq (pv 0) rfl) (pv 1))) (au (sS 5 fB (bq (pv 4) rfl)) (au (IM (CD hr) (bq (pv 4) rfl) (pv 2) Ep rfl) (au (sS 6 fB (cG (Uc T) hr T.M9 (ry (bq (pv 0) rfl) (cM (pv 0) T.bJ T.zp (BP T) hr (gE (pv 5))) (cM (pv 0) T.bJ T.uH (vX T) hr (gE (pv 5))) (pv 2)))) (au (sS 7 fB (cM (pv 0) T.bJ T.yl (FH T) hr (k9 (pv 2) (pv 5)))) (au (sS 8 fB (cG (Ue T) hr T.M8 (aN6 (xL (bq (pv 0) rfl) (pv 5)) (bq (pv 4) rfl) (pv 2) (pv 3) (pv 6) (pv 7)))) (au (fS (fE (xT (pv 8) aA)) (gT 9 fB) (au (fD (sF bI bM bL fR (xL (bq (pv 0) rfl) (pv 9)) (gE (pv 1)))) (oE (sF bI bM bL fR (bq (pv 4) rfl) (gE (fY (IU gm (pv 2) (pv 9)))))))) (bz (fS (fE (xT (pv 8) aA)) (gT 10 fB) (oE (cM (pv 0) T.bJ T.Kd (RI T) hr (IU (pv 1) (pv 2) (pv 10))))))))))))),?_⟩
  left
  obtain⟨g,dx,q,hp,O,hF,hT⟩:=id N.dG;have X:j0 K (nc t) H F g dx q p tp ns.length st:=⟨hp,O,hF,hT⟩;have cJ:=O.get .dG _ rfl;rw[hp] at cJ;have hil:=(ai.mp I).1;obtain⟨lb1,lb2,hg,lkd⟩:=bd.lb l (aC I);have VD:=O.get .cU _ rfl;have NI:=O.get (.cC i) (nS (nc t) dx g i l) (by show (st.ls[i]?.map _)=_;rw[I];rfl);have hdo:=O.get (.done i) (.dK (l.done.map λh:Nat=>(eT (h:Int),.bl true))) (by show (st.ls[i]?.map _)=_;rw[I];rfl);refine bC λNx M=>?_;refine⟨_,rfl,p,_,_,_,_,rfl,cJ,T.bJ,T.eX,rfl,_,rfl,g .cU,_,_,_,rfl,rfl,bN.of VD,rH hil,M _ _ ?_⟩;refine bC λNx M=>?_;refine⟨_,rfl,g (.cC i),_,_,_,_,rfl,NI,T.dR,T.kW,rfl,M _ _ ?_⟩;refine bC λNx M=>?_;refine⟨_,rfl,g (.cC i),_,_,_,_,rfl,NI,T.dR,T.qb,rfl,_,rfl,g (.done i),_,rfl,LW.k (k:=.inl (f:Int)) hdo (xK (by rw[af];lia)),?_⟩;rw[XE];refine M _ _ ?_;obtain⟨X1,st1⟩:=ZK X I (jS l.done f);have N1:=N.done st1 X1.dG;generalize upd H (g (.done i)) (.dK ((jS l.done f).map λh:Nat=>((eT (h:Int):Key),V.bl true)))=H1 at X1 st1 N1;have fr1:=Px (h:=f) I;have v:=VN (h:=f) bd I;have es1:fG st i f l={st with ls:=st.ls.set i {l with done:=jS l.done f}}:=rfl;rw[<- es1] at X1 N1;have G6:(fG st i f l).ls[i]?=some {l with done:=jS l.done f}:=by
   show (st.ls.set i _)[i]?=_;rw[fZ hil,aq rfl]
  have ets:(fG st i f l).ts=st.ts:=rfl;have ehe:sJ (fG st i f l) f l.grp=sJ st f l.grp:=rfl;have k1:∀os F' H',fk (ju ns rs o (fG st i f l).ws l.grp) ((fG st i f l).R l.grp) os->os.length<=12->NW K (nc t) t.bA H' F' p tp ln lr ns rs ((C9 rs st l f U os).foldl (vm rs i f) ((k7 st l f).foldl (mP i f) (fG st i f l)))->Step H1 F H' F'->Q .f9 H':=λos F' H' a b c d=>k os F' H' a b c (st1.trans d);have XH:=fr1.ok BQ;have ehd:k7 st l f=(sJ (fG st i f l) f l.grp).filter λc:Nat=>Gk l.s l.to l.kd c:=rfl;have ego:∀os,C9 rs st l f U os=(Xb ((fG st i f l).ts l.grp) (qx l.to l.kd) f (U.map λk:Nat=>(k:Int)) ((os.filter (isAt rs f)).map λk:Nat=>(k:Int)) ((sJ (fG st i f l) f l.grp).map λk:Nat=>(k:Int))).map xO:=λos=>rfl;have hgi:∀os,(Xb ((fG st i f l).ts l.grp) (qx l.to l.kd) f (U.map λk:Nat=>(k:Int)) ((os.filter (isAt rs f)).map λk:Nat=>(k:Int)) ((sJ (fG st i f l) f l.grp).map λk:Nat=>(k:Int))).map V.int=bF (C9 rs st l f U os):=λos=>acn;have G:∀os,(∀r∈C9 rs st l f U os,r∈os)/\(C9 rs st l f U os).length<=os.length:=λos=>VP;have S:(∀c∈k7 st l f,c<(fG st i f l).aE.length)/\(k7 st l f).length<=(fG st i f l).aE.length:=RJ;have hhi:((sJ (fG st i f l) f l.grp).map λk:Nat=>(k:Int)).filter (Gk l.s l.to l.kd)=(k7 st l f).map λk:Nat=>(k:Int):=by
   rw[ehd,List.filter_map];rfl
  generalize C9 rs st l f U=L at k1 hgi G;generalize k7 st l f=n at k1 S hhi;generalize fG st i f l=m at X1 N1 v k1 G6 XH hgi S hhi;have arf:=(ai.mp G6).1;have gY:=X1.own.get .dG _ rfl;rw[X1.hp] at gY;refine bC λNx M=>?_;refine⟨_,rfl,p,_,_,_,_,rfl,gY,T.bJ,T.nH,rfl,?_⟩;refine⟨_,rfl,p,_,_,rfl,gY,rfl,_,rfl,F,p,tp,ln,lr,ns,rs,m,l.grp,rfl,N1,o,XH,hg,λa1 H2 t2 ha1 h1=>?_⟩;refine⟨_,rfl,p,_,_,rfl,t2 _ _ gY,rfl,_,rfl,F,p,tp,ns.length,l.grp,m,rfl,(N1.mono t2).dG,hg,λa2 qs H3 t3 ha2 h2 ht=>?_⟩;refine⟨_,rfl,tp,ln,lr,a1,a2,ns,rs,_,o.nd,o.ok,xY,m.R l.grp,f,rfl,(N1.mono (t2.trans t3)).l5,bN.of (t3 _ _ h1),ht.To (bN.of h2),by have:=o.Hx;lia,o.Wy,XH.fit l.grp hg,λlo os H4 t4 afB hlo hO h12=>M _ _ ?_⟩;have t14:=t2.trans (t3.trans t4);refine bC λNx M=>?_;refine⟨_,rfl,p,_,_,rfl,t14 _ _ gY,rfl,_,rfl,_,rfl,F,p,tp,ns.length,f,l.grp,m,rfl,(N1.mono t14).dG,v.gl,v.vq,λlh H5 t5 amN hlh=>M _ _ ?_⟩;have t15:=t14.trans t5;have X5:=X1.mono t15;have afY:=t5 _ _ hlo;have aiV:=X5.own.get (.cC i) (nS (nc t) dx g i {l with done:=jS l.done f}) (by show (m.ls[i]?.map _)=_;rw[G6];rfl);have aiW:=X5.own.get (.letter i) (sM (nc t) (dx (.letter i)) {l with done:=jS l.done f}) (by show (m.ls[i]?.map _)=_;rw[G6];rfl);rw[fL] at afY hlh;refine bC λNx M=>?_;refine⟨_,rfl,p,_,_,_,_,rfl,t15 _ _ gY,T.bJ,T.vU,rfl,_,rfl,g .kK,_,_,_,rfl,rfl,bN.of (X5.own.get .kK _ rfl),rH hg,_,rfl,g (.cC i),_,_,_,_,rfl,aiV,T.dR,T.iR,rfl,_,rfl,_,rfl,_,rfl,_,rfl,g (.book l.grp),g (.gj l.grp),g (.letter i),lo,lh,m.ts l.grp,l.s,l.to,l.kd,f,U.map λk:Nat=>(k:Int),_,_,rfl,X5.own.Tn hg,afX aiW lkd,bN.of afY,bN.of hlh,?_,?_,λtq b1 b2 H6 t6 amP amQ amR arh htq hb1 hb2=>M _ _ ?_⟩
  ·rw[af]
   have:=bx (isAt rs f) os
   lia
  ·rw[af]
   unfold sJ
   have:=bx (G5 m f l.grp) (av m.aE.length)
   rw[be] at this
   have:=v.vq
   lia
  rw[hhi,<- fL] at hb1;rw[hgi os] at hb2;have G:=G os;have k1:=k1 os;generalize L os=L at hb2 G k1;have t16:=t15.trans t6;have X6:=X1.mono t16;have nF:∀{b},H5 b=none->¬F b:=λ{b} e z=>by
   obtain⟨u,e'⟩:=X5.dG.there z;rw[e] at e';cases e'
  have nq:=nF amP;have n1:=nF amQ;have n2:=nF amR;have aiX:Step H1 F H6 F:=Step.refl' t16;refine bC λNx M=>?_;refine⟨_,rfl,tq,_,0,_,rfl,rfl,cX.of htq,rfl,b1,rfl,⟨_,bN.of hb1⟩,tE (K:=K) (a:=b1) (xs:=bF n) (λj Z H7=>∃(q7:TQ) (v9:Option V),j0 K (nc t) H7 F g dx q7 p tp ns.length ((n.take j).foldl (mP i f) m)/\Step H6 F H7 F/\Z=[some (.ref p),some (.int i),some (.int f),some (wF (U.map λk:Nat=>(k:Int))),some (.ref (g (.cC i))),some (.int l.grp),some (.ref lo),some (.ref lh),some (.ref tq),v9,none]) ⟨q,none,X6,Step.refl' (aG.refl _),rfl⟩ (λj Z H7 _ z=>?_) ?_ ?_⟩
  ·obtain⟨q7,v9,W,Qg,rfl⟩:=z
   exact bN.of (Qg.kp _ _ hb1 n1)
  ·rintro j y Z H7 Nf vf hj ⟨q7,v9,W,Qg,rfl⟩
   have C:j<n.length:=by
    have:=(ai.mp hj).1
    rw[af] at this;exact this
   rw[ak,aa C] at hj;cases hj;rw[NK C] at vf;have b7:Bd ns.length rs.length (D+1+1*(n.take j).length) ((n.take j).foldl (mP i f) m):=Cq (λ_=>True) _ _ _ (λs x D _ _ b=>⟨trivial,Py b⟩) trivial v;have f7:Fr m ((n.take j).foldl (mP i f) m):=zQ (λ_ _=>IZ) _ _;have hjt:(n.take j).length<=20:=by
    rw[cu]
    have:=S.2
    have:=v.vq
    lia
   obtain⟨l7,Yn,_⟩:=f7.lt i _ G6;have B:n[j]<((n.take j).foldl (mP i f) m).had.length:=by
    rw[b7.hl,f7.aE];exact S.1 _ (aH C)
   generalize (n.take j).foldl (mP i f) m=A at W b7 Yn B vf;show iO 9 (V.int ((n[j]:Nat):Int)) _ _ _;generalize n[j]=c at B vf;have VQ:=W.own.get .dG _ rfl;rw[W.hp] at VQ;have hhc:=W.own.get (.handed c) (.lst (bF A.had[c])) (by show (A.had[c]?.map _)=_;rw[aa B];rfl);have hwl:=b7.hb _ (aH B);have hdl:=(b7.lb l7 (aC Yn)).1;refine⟨_,rfl,p,_,_,_,_,rfl,VQ,T.bJ,T.Fd,rfl,_,rfl,g .j7,_,_,_,rfl,rfl,bN.of (W.own.get .j7 _ rfl),rH B,.inl ⟨rfl,_,bN.of hhc⟩,_,rfl,g (.handed c),_,_,rfl,rfl,hhc,xK (by rw[af];lia),?_⟩;obtain⟨X8,Yp⟩:=ZM W B (A.had[c]++[i]);rw[iC] at X8 Yp;generalize upd H7 (g (.handed c)) (.lst (bF A.had[c]++[V.int i]))=H8 at X8 Yp;have es:{A with had:=A.had.set c (A.had[c]++[i])}=vj A i c:=by
    unfold vj;rw[ao,aa B];rfl
   rw[es] at X8;have Y:(vj A i c).ls[i]?=some l7:=Yn;have amS:=X8.own.get (.cC i) (nS (nc t) dx g i l7) (by show ((vj A i c).ls[i]?.map _)=_;rw[Y];rfl);have aiY:=X8.own.get (.aF i) (.lst ((q7.dq i).map V.ref)) (by show ((vj A i c).ls[i]?.map _)=_;rw[Y];rfl);have PR:=(X8.tup.aF i _ Y).len;rw[af] at PR;refine⟨_,rfl,g (.cC i),_,_,_,_,rfl,amS,T.dR,T.iK,rfl,.inl ⟨rfl,_,bN.of aiY⟩,_,rfl,_,rfl,aap,λz1 hz1=>?_⟩;have u1:=aG.new (o:=.tup [V.str "hand",V.int f,V.int c]) hz1;refine⟨g (.aF i),_,_,rfl,rfl,u1 _ _ aiY,xK (by rw[af,PR];lia),?_⟩;obtain⟨X9,UO⟩:=AI (X8.mono u1) Y (d:=.hand f c) (cX.of ay);rw[<- fO Y] at X9;exact vf _ _ ⟨_,_,X9,(Qg.trans Yp).trans ((Step.refl' (F:=F) u1).trans UO),rfl⟩
  ·rintro Z H7 ⟨q7,v9,W,Qg,rfl⟩
   refine M _ _ ?_;rw[af,gJ] at W;have b7:Bd ns.length rs.length (D+1+1*n.length) (n.foldl (mP i f) m):=Cq (λ_=>True) _ _ _ (λs x D _ _ b=>⟨trivial,Py b⟩) trivial v;have f7:Fr m (n.foldl (mP i f) m):=zQ (λ_ _=>IZ) _ _;have hjt:n.length<=20:=by
    have:=S.2
    have:=v.vq
    lia
   have N7:=N1.done (aiX.trans Qg) W.dG;obtain⟨l7,Yn,_⟩:=f7.lt i _ G6;have aiZ:=f7.ok XH;have hO7:fk (ju ns rs o (n.foldl (mP i f) m).ws l.grp) ((n.foldl (mP i f) m).R l.grp) os:=by rw[f7.ws,f7.R];exact hO
   generalize n.foldl (mP i f) m=A at W b7 Yn N7 k1 aiZ hO7;refine⟨_,rfl,tq,_,1,_,rfl,rfl,cX.of (Qg.kp _ _ htq nq),rfl,b2,rfl,⟨_,bN.of (Qg.kp _ _ hb2 n2)⟩,tE (K:=K) (a:=b2) (xs:=bF L) (λj Z H8=>∃(F8:Addr->Prop) (v10:Option V),NW K (nc t) t.bA H8 F8 p tp ln lr ns rs ((L.take j).foldl (vm rs i f) A)/\Step H6 F H8 F8/\Z=[some (.ref p),some (.int i),some (.int f),some (wF (U.map λk:Nat=>(k:Int))),some (.ref (g (.cC i))),some (.int l.grp),some (.ref lo),some (.ref lh),some (.ref tq),v9,v10]) ⟨F,none,N7,Qg,rfl⟩ (λj Z H8 _ z=>?_) ?_ ?_⟩
   ·obtain⟨F8,v10,N8,Yp,rfl⟩:=z
    exact bN.of (Yp.kp _ _ hb2 n2)
   ·rintro j y Z H8 Nf vf hj ⟨F8,v10,N8,Yp,rfl⟩
    have C:j<L.length:=by
     have:=(ai.mp hj).1
     rw[af] at this;exact this
    rw[ak,aa C] at hj;cases hj;rw[NK C] at vf;have hgl:∀r∈L,r<rs.length:=λr hr=>(Cr hO7 (G.1 r hr)).1;have f8:Fr A ((L.take j).foldl (vm rs i f) A):=zQ (λ_ _=>I0) _ _;have b8:Bd ns.length rs.length (D+1+1*n.length+2*(L.take j).length) ((L.take j).foldl (vm rs i f) A):=Cq (λs=>i<s.ls.length) _ _ _ (λs x D hx hi b=>⟨by
     obtain⟨l',e,_⟩:=(I0 (rs:=rs) (h:=f) (i:=i) (r:=x) (s:=s)).lt i _ (aa hi);exact (ai.mp e).1,VO o b hi (hgl x (List.mem_of_mem_take hx))⟩) (ai.mp Yn).1 b7
    have arj:(L.take j).length<=12:=by
     rw[cu]
     have:=G.2
     lia
    obtain⟨hrl,J,hw,hwn⟩:=Cr hO7 (G.1 _ (aH C));rw[<- f8.ws] at hw;obtain⟨l8,Y,_⟩:=f8.lt i _ Yn;have ai0:=f8.ok aiZ;generalize (L.take j).foldl (vm rs i f) A=s8 at N8 b8 Y hw ai0 vf;show iO 10 (V.int ((L[j]:Nat):Int)) _ _ _;generalize L[j]=r at hrl hw vf;obtain⟨ark,kF,q8,X7,O8,hF8,hT8⟩:=id N8.dG;have NN:=O8.get .dG _ rfl;rw[X7] at NN;have hdl:=(b8.lb l8 (aC Y)).1;have B:=b8.cb;have hwl:j5 l8%J.length<J.length:=Nat.mod_lt _ (List.length_pos_iff.mpr hwn);have hwx:J[(((j5 l8:Nat):Int)%(J.length:Int)).toNat]?=some J[j5 l8%J.length]:=by
     rw[show (((j5 l8:Nat):Int)%(J.length:Int))=((j5 l8%J.length:Nat):Int) from rfl,cO];exact aa hwl
    have hre:=aa hrl;refine⟨_,rfl,p,_,_,rfl,NN,rfl,_,rfl,_,rfl,_,rfl,F8,p,tp,ln,lr,ns,rs,s8,i,f,r,l8,rs[r],J,_,rfl,N8,o,ai0,Y,∅,∅,hre,hw,hwx,hwn,λF9 H9 N9 UO=>?_⟩;refine vf _ _ ⟨F9,_,?_,Yp.trans UO,rfl⟩;have e1:jq s8.ws r (XF s8 i)=J[j5 l8%J.length]:=by
     unfold jq XF;rw[hw,Y];show J.getD (j5 l8%J.length) 0=_;rw[ao,aa hwl];rfl
    have e2:fj rs r f=gD rs[r] f:=by
     unfold fj;rw[hre]
    unfold vm;rw[e1,e2];exact N9
   ·rintro Z H8 ⟨F8,v10,N8,Yp,rfl⟩
    rw[af,gJ] at N8;exact k1 F8 H8 hO h12 N8 (aiX.trans Yp)
theorem afZ{a b:TS}{H:Hp}(J:L2.St->Hp->Prop)(d:∀c H,J c H->b D c H)(h:∀N:L2.St->Hp->Prop,(∀c H,J c H->N c H)->a {D with nx:=N} c H):Yy a b D c H:=h _ d
inductive VR(C:Addr)(vs:List V)(H:Hp)(Q:VK)(E:XK):Prop
 |mk (p dx la:Addr) (g:Int):vs=[.ref p,.ref la,.int g]->H p=some (.ins C dx [])->(∀da ea H',H da=none->H ea=none->da≠ea->H' p=some (.ins C dx [("letter",.ref la),("group",.int g),("old",.bl false),("done_at",.ref da),("deeds",.ref ea)])->H' da=some (.dK [])->H' ea=some (.lst [])->(∀b o,H b=some o->b≠p->H' b=some o)->Q .f9 H')->VR C vs H Q E
theorem G7(T:Txt K mg t):cH P w K mg base iS 1 t.jM t.mX ["self","letter","group"]  (VR t.jQ):=by
 refine T.zY.F.jK GC λH Q E s h=>?_
 ·obtain⟨p,i,u,g,rfl,r,k⟩:=h
  refine⟨_,(au (gC (pv 0) (pv 1) rfl) (au (gC (pv 0) (pv 2) rfl) (au (gC (pv 0) Ep rfl) (au (gC (pv 0) Zd rfl) (bz (gC (pv 0) (gV fX) rfl)))))),?_⟩
  left
  refine⟨_,rfl,_,rfl,p,_,i,_,rfl,r,T.dR,T.iR,(!_),?_⟩;rw[d9 (names:=[]) rfl rfl];refine⟨_,rfl,_,rfl,p,_,i,_,rfl,ay,T.dR,T.kW,(by show 1<1000;decide),?_⟩;rw[d9 (names:=["letter"]) rfl (by decide +kernel),NZ];refine⟨_,rfl,p,_,i,_,rfl,ay,T.dR,T.zv,(by show 2<1000;decide),?_⟩;rw[d9 (names:=["letter","group"]) rfl (by decide +kernel),NZ];intro j a;have f:H j=none:=by
   by_cases z:j=p
   ·subst z;rw[ay] at a;cases a
   ·rw[aO z] at a;exact a
  have q:p≠j:=aQ r f;refine⟨_,rfl,p,_,i,_,rfl,(by rw[aO q];exact ay),T.dR,T.qb,(by show 3<1000;decide),?_⟩;rw[d9 (names:=["letter","group","old"]) rfl (by decide +kernel)];refine⟨aX _,λm c=>?_⟩;have l:m≠p:=λz=>by subst z;rw[ay] at c;cases c
  rw[aO l] at c;have d:j≠m:=λz=>by subst z;rw[ay] at c;cases c
  rw[aO (bO d),aO l] at c;refine⟨_,rfl,p,_,i,_,rfl,(by rw[aO (bO l)];exact ay),T.dR,T.iK,(by show 4<1000;decide),?_⟩;rw[d9 (names:=["letter","group","old","done_at"]) rfl (by decide +kernel)];refine k j m _ f c d ay ?_ ?_ λb o e n=>?_
  ·rw[aO (bO q),aO d,aO (bO q)];exact ay
  ·rw[aO l];exact ay
  ·rw[aO n,aO (aQ e c),aO n,aO (aQ e f),aO n];exact e
def gk(s:NS)(x:Nat)(to:Option Nat):LS:={s:=x,to:=to.getD 0,kd:=if to.isSome=true then 1 else 2,grp:=s.groups.getD x 0,old:=false,done:=[],aF:=[]}
def NO(s:NS)(l:LS):NS:={s with ls:=s.ls++[l]}
def k8(s:NS)(x:Nat)(to:Option Nat):NS:={s with ls:=s.ls++[{gk s x to with aF:=[.post (s.aE.getD x 0)]}]}
def nW(rs:List R5)(s:NS)(x:Nat)(to:Option Nat)(os:List Nat):NS:=XG rs (k8 s x to) s.ls.length (s.aE.getD x 0) {gk s x to with aF:=[.post (s.aE.getD x 0)]} none os
theorem XJ:dQ (NO s (gk s x to)) s.ls.length (.post (s.aE.getD x 0))=k8 s x to:=by
 rw[fO (l:=gk s x to) (by show (s.ls++[_])[s.ls.length]?=_;rw[bT (az _),eV];rfl)];show {s with ls:=(s.ls++[_]).set s.ls.length _}={s with ls:=_};congr 1;rw[nX _ _ (az _),eV];rfl
theorem pL{s:NS}:(s.ls++[l])[s.ls.length]?=some l:=by rw[bT (az _),eV];rfl
theorem VS{x:Nat}(b:Bd n m D s)(e:x<s.aE.length):Bd n m (D+1) (k8 s x to):=by
 have a:=b.mono (fU D);refine⟨a.gl,a.vq,a.g3,a.hm,a.hl,a.hb,?_,λl z=>?_,a.cb,λc z=>?_,a.tb⟩
 ·show (s.ls++[_]).length<=_
  rw[aB];exact gG b.ll 1
 ·rcases aU.mp z with y|y
  ·exact a.lb l y
  ·rw[aS] at y
   subst y;refine⟨?_,aX _,?_,?_⟩
   ·show 1+s.cps.length<=D+1
    have:=b.cb
    lia
   ·show s.groups.getD x 0<3
    have d:x<s.groups.length:=by rw[b.gl];exact e
    rw[ao,aa d];exact b.g3 _ (aH d)
   ·show (if _ then (1:Int) else 2)=1∨(if _ then (1:Int) else 2)=2
    split
    ·exact .inl rfl
    ·exact .inr rfl
 ·obtain⟨g,f⟩:=b.cl c z
  refine⟨?_,f⟩;show c.l<(s.ls++[_]).length;rw[aB];exact bU g (lV _ _)
inductive VT(K:ah)(CT:Addr)(c:NC)(vs:List V)(H:Hp)(Q:VK)(E:XK):Prop
 |mk (F:Addr->Prop) (p tp ln lr:Addr) (ns:List Int) (rs:List R5) (s:NS) (o:cN ns rs) (x:Nat) (to:Option Nat) (D:Nat):vs=[.ref p,.int x,wF (to.map λy:Nat=>(y:Int))]->NW K c CT H F p tp ln lr ns rs s->Cv ns rs s->Bd ns.length rs.length D s->D<=800000->x<s.aE.length->(∀y,to=some y->y<s.aE.length/\s.groups[y]?=s.groups[x]?)->(∀os F' H',fk (ju ns rs o s.ws (s.groups.getD x 0)) (s.R (s.groups.getD x 0)) os->os.length<=12->NW K c CT H' F' p tp ln lr ns rs (nW rs s x to os)->Step H F H' F'->Q (.int s.ls.length) H')->VT K CT c vs H Q E
theorem BV(T:Txt K mg t):cH P w K mg base iS 8 t.jA t.zo ["self","sender","to"]  (VT K t.bA (nc t)):=by
 refine T.uI.jK vH λH Q E hr h=>?_
 ·obtain⟨F,p,tp,ln,lr,ns,rs,st,o,x,c,D,rfl,N,BQ,bd,hD,hx,hto,k⟩:=h
  refine⟨_,(au (fD (cM (pv 0) T.bJ T.ym (FG T) hr (k9 (pv 1) (pv 2)))) (au (sS 3 vH (xR (qT YM (pv 2) lM) (UM T.abV (yv T) (hr.mono (!_)) rfl T.abU T.rS.B .nil jv (gE (pv 1))) (cI T.A6 (ID T) hr T.abT (k9 (pv 1) (pv 2))))) (au (sS 4 vH (lS T.fK (bq (pv 0) rfl))) (au (fD (sF bI bM bL fR (bq (pv 0) rfl) (gE (cI T.zY (G7 T) hr T.ZX (k9 (pv 3) (xL (bq (pv 0) rfl) (pv 1))))))) (au (sS 5 vH (xL (bq (pv 0) rfl) (pv 1))) (au (fD (sF bI bM bL fR (bq (xL (bq (pv 0) rfl) (pv 4)) rfl) (gE (fY (k9 gm (pv 5)))))) (au (fD (cM (pv 0) T.bJ T.rT (yy T) hr (IU (pv 4) (pv 5) lM))) (oR (pv 4))))))))),?_⟩
  left
  obtain⟨j,dx,q,hp,O,hF,hT⟩:=id N.dG;have cJ:=O.get .dG _ rfl;rw[hp] at cJ;have PU:x<st.groups.length:=by rw[bd.gl];exact hx
  refine bC λZ n=>?_;refine⟨_,rfl,p,_,_,rfl,cJ,rfl,_,rfl,_,rfl,F,p,tp,ns.length,x,c,st,rfl,N.dG,hx,bd.gl,hto,n _ _ ?_⟩;refine afZ (λσ r=>∃la OB,aG H r/\H la=none/\r la=some (sM (nc t) OB (gk st x c))/\σ=[some (.ref p),some (.int x),some (wF (c.map λy:Nat=>(y:Int))),some (.ref la),none,none]) ?_ (λN hN=>?_)
  rotate_left
  ·cases c with
   |none =>
    refine⟨_,rfl,rfl,_,rfl,dZ ?_⟩;refine⟨_,rfl,λz dz Y L J=>⟨z,_,dz,x,rfl,ay,T.zu,T.pF,rfl,?_⟩⟩;exact hN _ _ ⟨z,dz,made Y L J,Y,ay,rfl⟩
   |some y =>
    refine⟨_,rfl,rfl,_,rfl,dh ?_⟩;refine⟨_,rfl,_,rfl,λz dz Y L J=>⟨z,dz,x,y,rfl,ay,λH3 hy3 kp=>⟨rfl,?_⟩⟩⟩;exact hN _ _ ⟨z,dz,λb u e=>kp b u (((aG.new L).trans (aG.new (by rw[aO (bO J)];exact Y))) b u e) (aQ e Y),Y,hy3,rfl⟩
  rintro σ r ⟨la,OB,s,af1,hla,rfl⟩;have gY:=s _ _ cJ;have N1:=N.mono s;obtain⟨O1,T1⟩:=And.intro (O.mono s) (hT.mono λb x=>s.cz (a:=b) (xs:=x));have M:=O1.get .cU _ rfl;refine bC λZ n=>?_;refine⟨_,rfl,p,_,_,_,_,rfl,gY,T.bJ,T.eX,rfl,j .cU,_,rfl,.inl (bN.of M),?_⟩;rw[af,be];refine n _ _ ?_;refine bC λZ n=>?_;refine⟨_,rfl,p,_,_,_,_,rfl,gY,T.bJ,T.eX,rfl,.inl ⟨rfl,_,bN.of M⟩,_,rfl,_,rfl,p,_,_,_,_,rfl,gY,T.bJ,T.lH,rfl,_,rfl,j .groups,_,_,_,rfl,rfl,bN.of (O1.get .groups _ rfl),oz PU,λpa FU f W S=>⟨pa,FU,la,_,rfl,ay,λda ea H2 I XI nde h2p h2d h2e Ot=>⟨rfl,?_⟩⟩⟩;have m:aG r H2:=λb u e=>Ot b u (((aG.new W).trans (aG.new (by rw[aO (bO S)];exact f))) b u e) (aQ e f);have v:r da=none:=by
   cases e:r da with
   |none=>rfl
   |some u =>
    have:=((aG.new (o:=.own pa) W).trans (aG.new (o:=.ins t.jQ FU []) (by rw[aO (bO S)];exact f))) _ _ e
    rw[I] at this;cases this
  have U:r ea=none:=by
   cases e:r ea with
   |none=>rfl
   |some u =>
    have:=((aG.new (o:=.own pa) W).trans (aG.new (o:=.ins t.jQ FU []) (by rw[aO (bO S)];exact f))) _ _ e
    rw[XI] at this;cases this
  have nF:∀{b},r b=none->¬F b:=λ{b} e z=>by
   obtain⟨u,e'⟩:=N1.dG.there z;rw[e] at e';cases e'
  have nFl:¬F la:=λz=>by
   obtain⟨u,e'⟩:=N.dG.there z;rw[af1] at e';cases e'
  have npd:pa≠da:=λz=>by rw[<- z,ay] at I;cases I
  have npe:pa≠ea:=λz=>by rw[<- z,ay] at XI;cases XI
  have C:∀{b},r b=none->la≠b:=λ{b} e=>aQ hla e;have eg:st.groups.getD x 0=st.groups[x]:=by rw[ao,aa PU];rfl
  have ai1:=m _ _ M;refine⟨j .cU,_,_,rfl,rfl,ai1,xK (by rw[af,be];have:=bd.ll;lia),?_⟩;obtain⟨F3,N3,Kw,fr3⟩:=ZN (l:=gk st x c) (FU:=FU) (OB:=OB) (pa:=pa) (la:=la) (da:=da) (ea:=ea) hp (O1.mono m) hF (T1.mono λb x=>m.cz (a:=b) (xs:=x)) rfl (by show _=some (HO.ins _ _ [_,(_,V.int ((st.groups.getD x 0:Nat):Int)),_,_,_]);rw[eg];exact h2p) (m _ _ hla) h2d h2e (bO (C f)) npd npe (C v) (C U) nde (nF f) nFl (nF v) (nF U);have G:Step H F _ F3:=⟨λb u e z=>Kw b u (m _ _ (s _ _ e)) z,λb z=>by
   rcases fr3 b z with y|rfl|rfl|rfl|rfl
   ·exact .inl y
   ·exact .inr (s.free f)
   ·exact .inr af1
   ·exact .inr (s.free v)
   ·exact .inr (s.free U)⟩
  have W3:=N.done G N3;generalize upd H2 (j .cU) (.lst (((av st.ls.length).map λi=>V.ref (j (.cC i)))++[.ref pa]))=H3 at G W3 N3;refine n _ _ ?_;obtain⟨R,Pw,q3,hp3,X,hF3,hT3⟩:=id W3.dG;have X3:j0 K (nc t) H3 F3 R Pw q3 p tp ns.length (NO st (gk st x c)):=⟨hp3,X,hF3,hT3⟩;have lJ:=X.get .dG _ rfl;rw[hp3] at lJ;have g:(NO st (gk st x c)).ls[st.ls.length]?=some (gk st x c):=pL;have acu:st.ls.length<(NO st (gk st x c)).ls.length:=(ai.mp g).1;have eh:st.aE.getD x 0=st.aE[x]:=by rw[ao,aa hx];rfl
  refine bC λZ n=>?_;refine⟨_,rfl,p,_,_,_,_,rfl,lJ,T.bJ,T.kY,rfl,_,rfl,R .aE,_,_,_,rfl,rfl,bN.of (X.get .aE _ rfl),oz hx,n _ _ ?_⟩;have aav:=X.get (.cC st.ls.length) (nS (nc t) Pw R st.ls.length (gk st x c)) (by show ((NO st (gk st x c)).ls[st.ls.length]?.map _)=_;rw[g];rfl);have ai2:=X.get (.aF st.ls.length) (.lst ((q3.dq st.ls.length).map V.ref)) (by show ((NO st (gk st x c)).ls[st.ls.length]?.map _)=_;rw[g];rfl);have PR:=(X3.tup.aF _ _ g).len;rw[af] at PR;refine bC λZ n=>?_;refine⟨_,rfl,p,_,_,_,_,rfl,lJ,T.bJ,T.eX,rfl,_,rfl,R .cU,_,_,_,rfl,rfl,bN.of (X.get .cU _ rfl),rH acu,R (.cC st.ls.length),_,_,_,_,rfl,aav,T.dR,T.iK,rfl,.inl ⟨rfl,_,bN.of ai2⟩,_,rfl,fy,λz1 hz1=>?_⟩;have u1:=aG.new (o:=.tup [V.str "post",V.int (st.aE[x]:Nat)]) hz1;refine⟨R (.aF st.ls.length),_,_,rfl,rfl,u1 _ _ ai2,xK (by rw[af,PR];exact aX _),?_⟩;obtain⟨X4,EI⟩:=AI (X3.mono u1) g (d:=.post st.aE[x]) (cX.of ay);rw[<- fO g,<- eh,XJ] at X4;rw[<- eh] at EI u1;rw[<- eh];have A:=G.trans ((Step.refl' (F:=F3) u1).trans EI);have W4:=N.done A X4.dG;generalize upd (upd H3 z1 (.tup [V.str "post",V.int (st.aE.getD x 0:Nat)])) (R (.aF st.ls.length)) (.lst ((q3.dq st.ls.length).map V.ref++[.ref z1]))=H4 at X4 A W4;refine n _ _ ?_;have BR:=X4.own.get .dG _ rfl;rw[X4.hp] at BR;have af4:Cv ns rs (k8 st x c):=⟨BQ.wl,BQ.w4,BQ.fit⟩;refine bC λZ n=>?_;refine⟨_,rfl,p,_,_,rfl,BR,rfl,_,rfl,_,rfl,F3,p,tp,ln,lr,ns,rs,k8 st x c,o,st.ls.length,st.aE.getD x 0,none,{gk st x c with aF:=[.post (st.aE.getD x 0)]},D+1,rfl,W4,af4,VS bd hx,∅,pL,λos F5 H5 hO h12 W5 LH=>?_⟩;exact n _ _ ⟨_,rfl,k os F5 H5 hO h12 W5 (A.trans LH)⟩
theorem ad0(o:cN ns rs){i:Nat}{os:List Nat}(b:Bd ns.length rs.length D s)(hl:s.ls[i]?=some l)(O:fk (ju ns rs o s.ws l.grp) (s.R l.grp) os)(n:os.length<=12):Bd ns.length rs.length (D+45) (XG rs s i h l cK os):=by
 have m:=VN (h:=h) b hl;have f1:=Px (h:=h) hl;have g:Bd ns.length rs.length (D+1+1*(k7 s l h).length) ((k7 s l h).foldl (mP i h) (fG s i h l)):=Cq (λ_=>True) _ _ _ (λs x D _ _ b=>⟨trivial,Py b⟩) trivial m;have p:Fr (fG s i h l) ((k7 s l h).foldl (mP i h) (fG s i h l)):=zQ (λ_ _=>IZ) _ _;obtain⟨y,a,_⟩:=(f1.trans p).lt i l hl;have w:=(RJ (s:=s) (l:=l) (h:=h)).2;have u:=b.vq;have d:=VP (rs:=rs) (s:=s) (l:=l) (h:=h) (cK:=cK) (os:=os);have t:=d.2;have q:=Cq (k:=2) (f:=vm rs i h) (λs=>i<s.ls.length) (C9 rs s l h cK os) _ _ (λs x D j c b=>⟨by
  obtain⟨v,e,_⟩:=(I0 (rs:=rs) (h:=h) (i:=i) (r:=x) (s:=s)).lt i _ (aa c);exact (ai.mp e).1,VO o b c (Cr O (d.1 x j)).1⟩) (ai.mp a).1 g
 exact q.mono ∅
def Ak(l:LS)(cp:Cp)(os:List Nat):Str:=if cp.r∈os then (if C8 l cp.h=true then "twice" else "come") else "lost"
def gU(l:LS)(cp:Cp)(os:List Nat):cV:=if cp.r∈os then (if C8 l cp.h=true then .twice cp.h cp.r else .p6 cp.h cp.r) else .LZ cp.h cp.r
theorem acv{os:List Nat}:(gU l cp os).vs=[.str (Ak l cp os),.int cp.h,.int cp.r]:=by
 unfold gU Ak;split
 ·split <;> rfl
 ·rfl
def comes(l:LS)(cp:Cp)(os:List Nat):Bool:=decide (cp.r∈os)&&!C8 l cp.h
theorem XM{os:List Nat}:decide (V.str (Ak l cp os)=V.str "come")=comes l cp os:=by
 unfold Ak comes;by_cases e:cp.r∈os
 ·rw[aq e,eH e]
  cases C8 l cp.h
  ·rw[b3 (!_)];decide +kernel
  ·rw[aq rfl];decide +kernel
 ·rw[b3 e,e8 e,Bool.false_and];decide +kernel
def RK(s:NS)(a:Nat):NS:={s with cps:=s.cps.eraseIdx a}
def Dc(s:NS)(g:Nat)(ts:List T3):NS:={s with ts:=gH s.ts g ts}
def i8(s:NS)(a:Nat)(cp:Cp)(l:LS)(os:List Nat):NS:={s with cps:=s.cps.eraseIdx a,ls:=s.ls.set cp.l {l with aF:=l.aF++[gU l cp os]}}
def ck(s:NS)(a:Nat)(cp:Cp)(l:LS)(os:List Nat)(ts:List T3):NS:=if l.old=true then i8 s a cp l os else Dc (i8 s a cp l os) l.grp ts
def gZ(rs:List R5)(s:NS)(a:Nat)(cp:Cp)(l:LS)(os:List Nat)(ts:List T3):NS :=
 if comes l cp os=true then XG rs (ck s a cp l os ts) cp.l cp.h {l with aF:=l.aF++[gU l cp os]} (some cp.r) os else i8 s a cp l os
theorem G8{a:Nat}{cp:Cp}{os:List Nat}(b:Bd n m D s)(hl:s.ls[cp.l]?=some l)(d:a<s.cps.length):Bd n m (D+1) (i8 s a cp l os):=by
 have e:(s.cps.eraseIdx a).length+1=s.cps.length:=by
  rw[List.length_eraseIdx,aq d];lia
 refine b.set 1 hl ∅ (.inl ∅) (az _) ?_ (fU _) rfl rfl (λc z=>.inl (List.mem_of_mem_eraseIdx z)) rfl (λw z=>kq (b.hb w z));show (l.aF++[_]).length+_<=_;rw[aB];show l.aF.length+1+_<=_;lia
theorem aaw{a:List T3}(p:a.Perm (put3 ts h c r)):a.length<=ts.length+1:=by
 rw[p.length_eq];unfold put3;rw[aB];exact gG (bx _ _) 1
theorem acw{ts:List T3}(b:Bd n m D s)(p:ts.Perm (put3 (s.ts g) h c r))(e:fF ts):Bd n m (D+50) (Dc s g ts):=by
 have a:=b.mono (lV D 50);refine⟨a.gl,a.vq,a.g3,a.hm,a.hl,a.hb,a.ll,a.lb,a.cb,a.cl,λd=>?_⟩;show 50*(gH s.ts g ts d).length<=_/\fF (gH s.ts g ts d);by_cases z:d=g
 ·subst z
  rw[cQ];refine⟨?_,e⟩
  have:=aaw p
  have:=(b.tb d).1
  lia
 ·rw[e9 z]
  exact a.tb d
theorem G9{s:NS}{cp:Cp}{os:List Nat}(hl:s.ls[cp.l]?=some l):(i8 s a cp l os).ls[cp.l]?=some {l with aF:=l.aF++[gU l cp os]}:=by
 show (s.ls.set cp.l _)[cp.l]?=_;rw[fZ (ai.mp hl).1,aq rfl]
theorem rA{s:NS}{cp:Cp}{os:List Nat}(hl:s.ls[cp.l]?=some l):(ck s a cp l os ts).ls[cp.l]?=some {l with aF:=l.aF++[gU l cp os]}:=by
 unfold ck;split
 ·exact G9 hl
 ·exact G9 (a:=a) hl
theorem BW{os:List Nat}:(ck s a cp l os ts).ws=s.ws/\(ck s a cp l os ts).R=s.R/\(ck s a cp l os ts).aE=s.aE/\(ck s a cp l os ts).groups=s.groups:=by
 unfold ck;split <;> exact⟨rfl,rfl,rfl,rfl⟩
theorem RL{a:Nat}{cp:Cp}{os:List Nat}{ts:List T3}(b:Bd n m D s)(hl:s.ls[cp.l]?=some l)(d:a<s.cps.length)(p:ts.Perm (put3 (s.ts l.grp) h c r))(e:fF ts):Bd n m (D+51) (ck s a cp l os ts):=by
 unfold ck;split
 ·exact (G8 b hl d).mono ∅
 ·exact (acw (h:=h) (c:=c) (r:=r) (G8 b hl d) p e).mono ∅
theorem acy(o:cN ns rs){a:Nat}{cp:Cp}{os:List Nat}{ts:List T3}(b:Bd ns.length rs.length D s)(hl:s.ls[cp.l]?=some l)(f:a<s.cps.length)(O:fk (ju ns rs o s.ws l.grp) (s.R l.grp) os)(d:os.length<=12)(p:ts.Perm (put3 (s.ts l.grp) h c r))(g:fF ts):Bd ns.length rs.length (D+100) (gZ rs s a cp l os ts):=by
 unfold gZ;split
 ·have e:=BW (s:=s) (a:=a) (cp:=cp) (l:=l) (os:=os) (ts:=ts)
  exact (ad0 o (RL (h:=h) (c:=c) (r:=r) b hl f p g) (rA hl) (by rw[e.1,e.2.1];exact O) d).mono ∅
 ·exact (G8 b hl f).mono ∅
theorem _root_.TW.dg.erase(h:dg K H qs xs)(a:Nat):dg K H (qs.eraseIdx a) (xs.eraseIdx a):=by
 refine⟨by rw[List.length_eraseIdx,List.length_eraseIdx,h.len],λi q x c b=>?_⟩;rw[List.getElem?_eraseIdx] at c b;by_cases z:i<a
 ·rw[aq z] at c b
  exact h.at' i q x c b
 ·rw[b3 z] at c b
  exact h.at' (i+1) q x c b
theorem Hf{b c:Type}(f:b->c):∀(xs:List b) (a:Nat),(xs.map f).eraseIdx a=(xs.eraseIdx a).map f
 |[],_=>rfl
 |_::_,0=>rfl
 |x::xs,a+1=>ff (f x::·) (Hf f xs a)
theorem aax{c:NC}{H d:Hp}{F:Addr->Prop}{a i:Role->Addr}{q:TQ}{p j:Addr}{n g:Nat}{s:NS}(X:j0 K c H F a i q p j n s)(f:g<3)(ts:List T3)(v:d (a (.gj g))=some (.dT (ts.map nR)))(w:∀b o,H b=some o->b≠a (.gj g)->d b=some o) :
 j0 K c d F a i q p j n (Dc s g ts)/\Step H F d F:=by
 obtain⟨y,m⟩:=yN X (r:=.gj g) (o:=.dT (ts.map nR)) (q':=q) (s':=Dc s g ts) (by show (if g<3 then some _ else none)≠none;rw[aq f];exact aW _) (λx=>by
  cases x <;> first|rfl|skip
  rename_i k;show iT (desc c i j a q s) (.gj g) _ (.gj k)=(if k<3 then some (HO.dT ((gH s.ts g ts k).map nR)) else none);by_cases z:k=g
  ·subst z
   rw[d7,aq f,cQ]
  ·rw[c6 (λe=>z (by cases e;rfl)),e9 z]
   rfl) (λh=>⟨λg f=>(X.tup.rows g f).mono h,λk l e=>(X.tup.aF k l e).mono h,X.tup.cps.mono h⟩)
 have t:aG (upd H (a (.gj g)) (.dT (ts.map nR))) d:=λb u e=>by
  by_cases z:b=a (.gj g)
  ·rw[z,ay] at e
   cases e;rw[z];exact v
  ·rw[aO z] at e
   exact w b u e z
 exact⟨y.mono t,m.trans (Step.refl' t)⟩
theorem acz{t:Ad}(T:Txt K mg t){b a:Role->Addr}{f:L2.St}{H:Hp}{Q:VK}{i:Nat}{l:LS}(g:∀Q:VK,Q (.ref (a (.cC i))) H->Oc 6 f H Q)(h:H (a (.cC i))=some (nS (nc t) b a i l))(c:H (a (.letter i))=some (sM (nc t) (b (.letter i)) l))(q:Q (.int l.s) H) :
 Jm K (Jm K (Oc 6) (Str.ofString "letter")) (Str.ofString "sender") f H Q:=by
 by_cases e:l.kd=1
 ·have d:H (a (.letter i))=some (.ins t.gQ (b (.letter i)) [("sender",.int l.s),("to",.int l.to)]):=by rw[c];unfold sM;rw[aq e]
  unfold Jm;exact (g _ ⟨a (.cC i),_,_,_,_,rfl,h,T.dR,T.iR,rfl,a (.letter i),_,b (.letter i),_,_,rfl,d,T.qM,T.uJ,rfl,q⟩)
 ·have d:H (a (.letter i))=some (.ins t.jB (b (.letter i)) [("sender",.int l.s)]):=by rw[c];unfold sM;rw[b3 e]
  unfold Jm;exact (g _ ⟨a (.cC i),_,_,_,_,rfl,h,T.dR,T.iR,rfl,a (.letter i),_,b (.letter i),_,_,rfl,d,T.zu,T.pF,rfl,q⟩)
inductive VU(K:ah)(CT:Addr)(c:NC)(vs:List V)(H:Hp)(Q:VK)(E:XK):Prop
 |mk (F:Addr->Prop) (p tp ln lr:Addr) (ns:List Int) (rs:List R5) (s:NS) (o:cN ns rs) (a D:Nat) (cp:Cp) (l:LS):vs=[.ref p,.int a]->NW K c CT H F p tp ln lr ns rs s->Cv ns rs s->Bd ns.length rs.length D s->D<=400000->s.cps[a]?=some cp->s.ls[cp.l]?=some l->(∀os ts F' H',fk (ju ns rs o s.ws l.grp) (s.R l.grp) os->os.length<=12->ts.Perm (put3 (s.ts l.grp) cp.h l.s cp.r)->fF ts->NW K c CT H' F' p tp ln lr ns rs (gZ rs s a cp l os ts)->Step H F H' F'->Q (.str (Ak l cp os)) H')->VU K CT c vs H Q E
theorem BX(T:Txt K mg t):cH P w K mg base iS 8 t.gy t.qK ["self","at"]  (VU K t.bA (nc t)):=by
 refine T.mK.jK iF λH Q E hr h=>?_
 ·obtain⟨F,p,tp,ln,lr,ns,B,st,o,a,D,cp,l,rfl,N,I,S,hD,Y,g,k⟩:=h
  refine⟨_,(au (b6 (iQ (jI qP nZ aA (pv 1) (lS T.fK (bq (pv 0) rfl)))) eN bw) (au (sS 2 iF (sF bI PySem.F.slot_list_pop PySem.F.type_list_pop Y8 (bq (pv 0) rfl) (gE (pv 1)))) (au (sS 3 iF (xT (pv 2) aA)) (au (sS 4 iF (xT (pv 2) aA)) (au (sS 5 iF (xT (pv 2) aA)) (au (sS 6 iF (xL (bq (pv 0) rfl) (pv 3))) (au (sS 7 iF (cM (pv 0) T.bJ T.CQ (Ln T) hr (IU (pv 6) (pv 4) (pv 5)))) (au (fD (sF bI bM bL fR (bq (pv 6) rfl) (gE (fY (IU (pv 7) (pv 5) (pv 4)))))) (au (b6 (qT i6 (pv 7) gm) (au (b6 (iQ (lN (bq (pv 6) rfl))) (oE (cM (xL (bq (pv 0) rfl) (bq (pv 6) rfl)) T.DP T.E5 (Mw T) hr (IU (pv 5) (bq (bq (pv 6) rfl) rfl) (pv 4)))) bw) (oE (cM (pv 0) T.bJ T.rT (yy T) hr (IU (pv 3) (pv 5) (pv 4))))) bw) (oR (pv 7))))))))))),?_⟩
  left
  obtain⟨b,C,q,hp,O,hF,hT⟩:=id N.dG;have X:j0 K (nc t) H F b C q p tp ns.length st:=⟨hp,O,hF,hT⟩;have cJ:=O.get .dG _ rfl;rw[hp] at cJ;have hal:=(ai.mp Y).1;have hil:=(ai.mp g).1;have hcb:=S.cb;obtain⟨lb1,lb2,Z,lkd⟩:=S.lb l (aC g);obtain⟨ts,ets,G,A⟩:=Th (h:=(cp.h:Int)) (c:=(l.s:Int)) (r:=(cp.r:Int)) (List.Perm.refl (st.ts l.grp)) (S.tb l.grp).2;have x:=O.get .fM _ rfl;have uL:q.cq.length=st.cps.length:=by
   have z:=hT.cps.len;rw[af] at z;exact z
  have haq:a<q.cq.length:=∅
  refine bC λv f=>?_;refine⟨_,rfl,_,_,rfl,rfl,_,rfl,?_⟩;rw[eH (show (0:Int)<=(a:Int) by lia)];refine dZ ⟨_,rfl,p,_,_,_,_,rfl,cJ,T.bJ,T.jD,rfl,b .fM,_,rfl,.inl (bN.of x),_,_,rfl,rfl,_,rfl,?_⟩;rw[af,uL,eH (show (a:Int)<(st.cps.length:Int) by lia)];refine dh (f _ _ ?_);refine bC λv f=>?_;refine⟨_,rfl,p,_,_,_,_,rfl,cJ,T.bJ,T.jD,rfl,.inl ⟨rfl,_,bN.of x⟩,_,rfl,b .fM,_,a,a,_,rfl,rfl,x,∅,∅,(Oi (by rw[af,uL];exact yM hal)).1,(by rw[ak,aa haq];rfl),?_⟩;have htu:cX K H q.cq[a] cp.vs:=hT.cps.at' a _ _ (aa haq) (by rw[ak,Y];rfl);obtain⟨m,n⟩:=Vf X (qs:=q.cq.eraseIdx a) (cps:=st.cps.eraseIdx a) (by rw[<- Hf];exact hT.cps.erase a);rw[Hf];have U:cX K _ q.cq[a] cp.vs:=N.dG.tup n.kp htu;generalize upd H (b .fM) (.lst ((q.cq.eraseIdx a).map V.ref))=H1 at m n U;generalize q.cq[a]=qa at U;refine f _ _ ?_;have es:{st with cps:=st.cps.eraseIdx a}=RK st a:=rfl;rw[es] at m;have G6:(RK st a).ls[cp.l]?=some l:=g;have N1:=N.done n m.dG;have gY:=m.own.get .dG _ rfl;rw[m.hp] at gY;have ai4:=m.own.get (.cC cp.l) (nS (nc t) C b cp.l l) (by show ((RK st a).ls[cp.l]?.map _)=_;rw[G6];rfl);refine bC λv f=>?_;refine⟨_,rfl,qa,_,0,_,rfl,rfl,U,rfl,f _ _ ?_⟩;refine bC λv f=>?_;refine⟨_,rfl,qa,_,1,_,rfl,rfl,U,rfl,f _ _ ?_⟩;refine bC λv f=>?_;refine⟨_,rfl,qa,_,3,_,rfl,rfl,U,rfl,f _ _ ?_⟩;refine bC λv f=>?_;refine⟨_,rfl,p,_,_,_,_,rfl,gY,T.bJ,T.eX,rfl,_,rfl,b .cU,_,_,_,rfl,rfl,bN.of (m.own.get .cU _ rfl),rH hil,f _ _ ?_⟩;have XH:Cv ns B (RK st a):=⟨I.wl,I.w4,I.fit⟩;refine bC λv f=>?_;refine⟨_,rfl,p,_,_,rfl,gY,rfl,_,rfl,_,rfl,_,rfl,F,b,C,_,p,tp,ln,lr,ns,B,RK st a,o,cp.l,cp.r,cp.h,l,rfl,m,N1,XH,G6,Z,λos H2 s2 hO h12=>?_⟩;have ef:(if cp.r∈os then (if C8 l cp.h=true then "twice" else "come") else "lost" : Str)=Ak l cp os:=rfl;rw[ef];refine f _ _ ?_;have k:=k os ts;have X2:=m.mono s2;have ai5:=s2 _ _ ai4;have af6:=X2.own.get (.aF cp.l) (.lst ((q.dq cp.l).map V.ref)) (by show ((RK st a).ls[cp.l]?.map _)=_;rw[G6];rfl);have PR:=(X2.tup.aF cp.l _ G6).len;rw[af] at PR;have PR:(q.dq cp.l).length=l.aF.length:=PR;refine bC λv f=>?_;refine⟨_,rfl,b (.cC cp.l),_,_,_,_,rfl,ai5,T.dR,T.iK,rfl,.inl ⟨rfl,_,bN.of af6⟩,_,rfl,_,rfl,_,rfl,aap,λz1 hz1=>?_⟩;have u1:=aG.new (o:=.tup [V.str (Ak l cp os),V.int cp.h,V.int cp.r]) hz1;refine⟨b (.aF cp.l),_,_,rfl,rfl,u1 _ _ af6,xK (by rw[af,PR];lia),?_⟩;obtain⟨i,st3⟩:=AI (X2.mono u1) G6 (d:=gU l cp os) (by rw[acv];exact cX.of ay);have j:=(n.trans (Step.refl' (F:=F) (s2.trans u1))).trans st3;generalize upd (upd H2 z1 (.tup [V.str (Ak l cp os),V.int cp.h,V.int cp.r])) (b (.aF cp.l)) (.lst ((q.dq cp.l).map V.ref++[.ref z1]))=H3 at i j;refine f _ _ ?_;have es:{RK st a with ls:=(RK st a).ls.set cp.l {l with aF:=l.aF++[gU l cp os]}}=i8 st a cp l os:=rfl;rw[es] at i;have lJ:=i.own.get .dG _ rfl;rw[i.hp] at lJ;have L:=G9 (a:=a) (os:=os) g;have y:=i.own.get (.cC cp.l) (nS (nc t) C b cp.l {l with aF:=l.aF++[gU l cp os]}) (by show ((i8 st a cp l os).ls[cp.l]?.map _)=_;rw[L];rfl);have amX:=i.own.get (.letter cp.l) (sM (nc t) (C (.letter cp.l)) {l with aF:=l.aF++[gU l cp os]}) (by show ((i8 st a cp l os).ls[cp.l]?.map _)=_;rw[L];rfl);have N3:=N.done j i.dG;refine⟨_,rfl,rfl,_,rfl,?_⟩;rw[XM];by_cases e:comes l cp os=true
  ·have k:∀F' M,NW K (nc t) t.bA M F' p tp ln lr ns B (XG B (ck st a cp l os ts) cp.l cp.h {l with aF:=l.aF++[gU l cp os]} (some cp.r) os)->Step H F M F'->Q (.str (Ak l cp os)) M:=λF' M W z=>k F' M hO h12 G A (by unfold gZ;rw[aq e];exact W) z
   rw[e];refine dZ ?_;refine vB (λσ H4=>j0 K (nc t) H4 F b C {q with cq:=q.cq.eraseIdx a,dq:=gH q.dq cp.l (q.dq cp.l++[z1])} p tp ns.length (ck st a cp l os ts)/\Step H F H4 F/\σ=[some (.ref p),some (.int a),some (.ref qa),some (.int cp.l),some (.int cp.r),some (.int cp.h),some (.ref (b (.cC cp.l))),some (.str (Ak l cp os))]) ?_ (λN' hN=>?_)
   ·rintro σ H4 ⟨J,EI,rfl⟩
    have BR:=J.own.get .dG _ rfl;rw[J.hp] at BR;have ew:=BW (s:=st) (a:=a) (cp:=cp) (l:=l) (os:=os) (ts:=ts);have af4:Cv ns B (ck st a cp l os ts):=⟨by rw[ew.1];exact I.wl,by rw[ew.1];exact I.w4,by rw[ew.2.1];exact I.fit⟩;refine⟨_,rfl,p,_,_,rfl,BR,rfl,_,rfl,_,rfl,_,rfl,F,p,tp,ln,lr,ns,B,ck st a cp l os ts,o,cp.l,cp.h,some cp.r,{l with aF:=l.aF++[gU l cp os]},D+51,rfl,N.done EI J.dG,af4,RL S g hal G A,∅,rA g,λos' F5 H5 u _ W5 LH=>?_⟩;have u:fk (ju ns B o (ck st a cp l os ts).ws l.grp) ((ck st a cp l os ts).R l.grp) os':=u;rw[ew.1,ew.2.1] at u;rw[u.uniq hO] at W5;exact⟨_,rfl,k F5 H5 W5 (EI.trans LH)⟩
   ·refine⟨_,rfl,b (.cC cp.l),_,_,_,_,rfl,y,T.dR,T.zv,rfl,_,rfl,?_⟩
    cases eo:l.old with
    |true =>
     refine dh ?_;refine hN _ _ ⟨?_,j,rfl⟩;unfold ck;rw[aq eo];exact i
    |false =>
     refine dZ ?_;refine⟨_,rfl,p,_,_,_,_,rfl,lJ,T.bJ,T.vU,rfl,_,rfl,b (.cC cp.l),_,_,_,_,rfl,y,T.dR,T.kW,rfl,b .kK,_,_,_,rfl,rfl,bN.of (i.own.get .kK _ rfl),rH Z,b (.book l.grp),C (.book l.grp),_,rfl,i.own.get (.book l.grp) _ (aq Z),rfl,_,rfl,?_⟩;refine acz T (λQ q=>⟨_,rfl,q⟩) y amX ?_;refine⟨_,rfl,b (.book l.grp),b (.gj l.grp),st.ts l.grp,cp.h,l.s,cp.r,rfl,i.own.Tn Z,?_,λH4 h4 kp4=>?_⟩
     ·have:=(S.tb l.grp).1
      lia
     ·rw[ets] at h4
      obtain⟨J,EI⟩:=aax i Z ts h4 kp4;refine hN _ _ ⟨?_,j.trans EI,rfl⟩;unfold ck;rw[b3 (by rw[eo];decide)];exact J
  ·have e':comes l cp os=false:=by simpa using e
   rw[e'];refine dh ?_;refine⟨_,rfl,k F H3 hO h12 G A ?_ j⟩;unfold gZ;rw[e',b3 (!_)];exact N3
end
section
inductive Rw(rs:List R5)(os:List Nat)(r0:Nat)(x:Nat):Nat->Prop
 |refl:Rw rs os r0 x x
 |step {y r:Nat} (t:Rw rs os r0 x y) (hr:r∈os) (ne:r≠r0) (ha:isAt rs (y:Int) r=true):Rw rs os r0 x (fj rs r y)
inductive Ds(N:RM.Net)(R:Nat->RM.Row)(c:Nat):Nat->Prop
 |self:Ds N R c c
 |on {r x y:Nat} (t:RM.kH N R r x y) (d:Ds N R c y):Ds N R c x
theorem Ds.rank(d:Ds N R c x):(R c).ho<=(R x).ho:=by
 induction d with
 |self=>exact rF _
 |on t _ a=>have:=t.ho;lia
variable{ns:List Int}{rs:List R5}{os:List Nat}{live:List Nat}{nd:ns.Nodup}{ok:∀r∈rs,r.Ok ns.length}{hl:∀k∈live,k<rs.length}{R:Nat->RM.Row}
theorem Um{r x:Nat}(a:r∈live)(b:isAt rs (x:Int) r=true):RM.Dm (aR ns rs live nd ok hl) r x (fj rs r x):=by
 refine (vA a).mpr ⟨b,?_⟩;unfold fj;rw[aa (hl r a)]
theorem VW(f:RM.Dm N r a b)(d:RM.Dm N r x y):(a=x/\b=y)∨(a=y/\b=x):=by
 rcases f.2 with ⟨e,c⟩|⟨e,c⟩ <;> rcases d.2 with ⟨g,h⟩|⟨g,h⟩ <;> lia
theorem RN{r x:Nat}(d:r<rs.length)(ok:∀r∈rs,r.Ok ns.length)(c:isAt rs (x:Int) r=true):isAt rs ((fj rs r x:Nat):Int) r=true/\fj rs r (fj rs r x)=x/\fj rs r x≠x/\fj rs r x<ns.length:=by
 have o:=ok _ (aH d);have n:=o.a0;have m:=o.b0;have i:=o.ab;have k:=o.a1;have l:=o.b1;have g:∀y,fj rs r y=gD rs[r] y:=λy=>by unfold fj;rw[aa d]
 have h:∀y:Int,isAt rs y r=(decide (y=rs[r].a) || decide (y=rs[r].b)):=λy=>by unfold isAt;rw[aa d]
 rw[g,g,h];rw[h] at c;have c:(decide ((x:Int)=rs[r].a) || decide ((x:Int)=rs[r].b))=true:=c;rw[tL,f5,f5] at c;show (decide _ || decide _)=true/\gD rs[r] (gD rs[r] x)=x/\gD rs[r] x≠x/\gD rs[r] x<_;rw[tL,f5,f5];unfold gD;rcases c with e|e
 ·rw[aq e]
  have f:((rs[r].b.toNat:Nat):Int)=rs[r].b:=∅
  rw[f,b3 (bO i)];lia
 ·have j:¬(x:Int)=rs[r].a:=∅
  rw[b3 j];have f:((rs[r].a.toNat:Nat):Int)=rs[r].a:=∅
  rw[f,aq rfl];lia
theorem VX(O:fk (aR ns rs live nd ok hl) R os)(j:RM.kH (aR ns rs live nd ok hl) R r0 c p){r:Nat}(f:r∈os)(i:r≠r0)(g:RM.Dm (aR ns rs live nd ok hl) r y z)(d:Ds (aR ns rs live nd ok hl) R c y):Ds (aR ns rs live nd ok hl) R c z:=by
 obtain⟨a,b,t⟩:=(O.2 r).mp f;rcases VW t.lZ g with ⟨rfl,rfl⟩|⟨rfl,rfl⟩
 ·cases d with
  |self=>exact cy (t.uniq j).1 i
  |on e h =>
   obtain⟨_,rfl⟩:=t.uniq e;exact h
 ·exact .on t d
theorem acA(O:fk (aR ns rs live nd ok hl) R os){r x:Nat}(f:r∈os)(g:isAt rs (x:Int) r=true):¬Rw rs os r x (fj rs r x):=by
 intro t;obtain⟨c,p,i⟩:=(O.2 r).mp f;have l:∀k∈os,k∈live:=λk n=>by
  obtain⟨a,b,t⟩:=(O.2 k).mp n;exact t.lZ.1
 have q:∀{y z:Nat},Rw rs os r y z->Ds (aR ns rs live nd ok hl) R c y->Ds (aR ns rs live nd ok hl) R c z:=λ{y z} t=>by
  induction t with
  |refl=>exact id
  |step t f m g j=>exact λd=>VX O i f m (Um (l _ f) g) (j d)
 have h:∀{y z:Nat},Rw rs os r y z->Ds (aR ns rs live nd ok hl) R c z->Ds (aR ns rs live nd ok hl) R c y:=λ{y z} t=>by
  induction t with
  |refl=>exact id
  |step t f m g j=>exact λd=>j (VX O i f m (Um (l _ f) g).symm d)
 have e:=i.ho;rcases VW i.lZ (Um (l r f) g) with ⟨rfl,o⟩|⟨s,rfl⟩
 ·have:=(q t .self).rank
  rw[<- o] at this;lia
 ·have:=(h t (s▸.self)).rank
  lia
theorem Rw.trans(a:Rw rs os r0 x y)(b:Rw rs os r0 y z):Rw rs os r0 x z:=by
 induction b with
 |refl=>exact a
 |step t e f c d=>exact .step d e f c
theorem Rw.symm(ok:∀r∈rs,r.Ok ns.length)(lt:∀k∈os,k<rs.length)(a:Rw rs os r0 x y):Rw rs os r0 y x:=by
 induction a with
 |refl=>exact .refl
 |@step y r t b g c f =>
  obtain⟨e,d,_⟩:=RN (lt r b) ok c
  have:Rw rs os r0 (fj rs r y) y:=by
   have:=Rw.step (rs:=rs) (os:=os) (r0:=r0) (x:=fj rs r y) .refl b g e
   rw[d] at this;exact this
  exact this.trans f
structure En where
 h:Nat
 fr:Option (Nat×Nat)
def En.by?(e:En):Option Nat:=e.fr.map (·.1)
def goes(rs:List R5)(os:List Nat)(e:En):List Nat:=os.filter λr=>isAt rs (e.h:Int) r&&!decide (some r=e.by?)
theorem jT:r∈goes rs os e↔r∈os/\isAt rs (e.h:Int) r=true/\some r≠e.by?:=by
 unfold goes;rw[aT,dj,pS,decide_eq_false_iff_not]
end
section
variable{P:Program}{w:World}{K:ah}{mg:Str->Option Value}{base:Heap}
inductive RO(K:ah)(c:NC)(vs:List V)(H:Hp)(Q:VK)(E:XK):Prop
 |mk (F:Addr->Prop) (p tp:Addr) (n i:Nat) (s:NS) (l:LS):vs=[.ref p,.int i]->dH K c H F p tp n s->s.ls[i]?=some l->(∀a (qs:List Addr) H',aG H H'->H a=none->H' a=some (.lst (qs.map V.ref))->dg K H' qs (l.aF.map cV.vs)->Q (.ref a) H')->RO K c vs H Q E
theorem Pz(T:Txt K mg t):cH P w K mg base iS 1 t.qZ t.vN ["self","letter"]  (RO K (nc t)):=by
 refine T.HD.F.jK OO λH Q E z h=>?_
 ·obtain⟨F,p,A,n,i,st,l,rfl,N,d,k⟩:=h
  refine⟨_,(au (b6 (iQ (jI qP nZ aA (pv 1) (lS T.fK (bq (pv 0) rfl)))) eN bw) (oR (fQ ic (by rfl) T.rV boot_list (gE (bq (xL (bq (pv 0) rfl) (pv 1)) rfl))))),?_⟩
  left
  obtain⟨c,s,q,y,O,B,v⟩:=id N;have g:=O.get .dG _ rfl;rw[y] at g;have f:=(ai.mp d).1;have m:=O.get .cU _ rfl;have r:=O.get (.cC i) (nS (nc t) s c i l) (by show (st.ls[i]?.map _)=_;rw[d];rfl);have e:=O.get (.aF i) (.lst ((q.dq i).map V.ref)) (by show (st.ls[i]?.map _)=_;rw[d];rfl);refine⟨_,rfl,_,_,rfl,rfl,_,rfl,?_⟩;rw[eH (show (0:Int)<=(i:Int) by lia)];refine dZ ⟨_,rfl,p,_,_,_,_,rfl,g,T.bJ,T.eX,rfl,c .cU,_,rfl,.inl (bN.of m),_,_,rfl,rfl,_,rfl,?_⟩;rw[af,be,eH (show (i:Int)<(st.ls.length:Int) by lia)];refine dh ?_;refine⟨_,rfl,p,_,_,_,_,rfl,g,T.bJ,T.eX,rfl,_,rfl,c .cU,_,_,_,rfl,rfl,bN.of m,rH f,c (.cC i),_,_,_,_,rfl,r,T.dR,T.iK,rfl,c (.aF i),_,rfl,.inl (bN.of e),λa j=>?_⟩;have u:=aG.new (o:=.lst ((q.dq i).map V.ref)) j;exact k a (q.dq i) _ u j ay ((v.aF i l d).mono λb x=>u.cz)
def dW:cV->Str
 |.post _=>"post"
 |.p6 _ _=>"come"
 |.hand _ _=>"hand"
 |.send _ _ _=>"send"
 |.twice _ _=>"twice"
 |.LZ _ _=>"lost"
def dI:cV->List Int
 |.post h=>[h]
 |.p6 h r=>[h,r]
 |.hand h c=>[h,c]
 |.send h r w=>[h,r,w]
 |.twice h r=>[h,r]
 |.LZ h r=>[h,r]
theorem PB(d:cV):d.vs=.str (dW d)::(dI d).map V.int:=by cases d <;> rfl
theorem acB(d:cV):1<=(dI d).length:=by cases d <;> simp[dI]
def zR:List V:=[.str "post",.str "come",.str "hand",.str "send",.str "twice",.str "lost"]
theorem acC(d:cV):Ge (.str (dW d)) zR=true:=by
 cases d
 ·exact (by decide +kernel:Ge (.str "post") zR=true)
 ·exact (by decide +kernel:Ge (.str "come") zR=true)
 ·exact (by decide +kernel:Ge (.str "hand") zR=true)
 ·exact (by decide +kernel:Ge (.str "send") zR=true)
 ·exact (by decide +kernel:Ge (.str "twice") zR=true)
 ·exact (by decide +kernel:Ge (.str "lost") zR=true)
theorem FJ(d:cV):Aw (V.str (dW d)::(dI d).map V.int) 0=some (V.str (dW d)):=c5 (j:=0) rfl
theorem aaz(d:cV):V.int ((((.str (dW d)::(dI d).map V.int:List V).length:Nat):Int))=V.int (2+(if (!decide (V.str (dW d)=V.str "post"))=true then 1 else 0)+(if decide (V.str (dW d)=V.str "send")=true then 1 else 0)):=by
 have a:∀h,(decide (V.str (dW (.post h))=V.str "post"))=true:=λh=>by show decide (V.str "post" = V.str "post")=true;decide +kernel
 cases d
 ·show V.int 2=V.int (2+(if (!decide (V.str "post" = V.str "post"))=true then 1 else 0)+(if decide (V.str "post" = V.str "send")=true then 1 else 0));decide +kernel
 ·show V.int 3=V.int (2+(if (!decide (V.str "come" = V.str "post"))=true then 1 else 0)+(if decide (V.str "come" = V.str "send")=true then 1 else 0));decide +kernel
 ·show V.int 3=V.int (2+(if (!decide (V.str "hand" = V.str "post"))=true then 1 else 0)+(if decide (V.str "hand" = V.str "send")=true then 1 else 0));decide +kernel
 ·show V.int 4=V.int (2+(if (!decide (V.str "send" = V.str "post"))=true then 1 else 0)+(if decide (V.str "send" = V.str "send")=true then 1 else 0));decide +kernel
 ·show V.int 3=V.int (2+(if (!decide (V.str "twice" = V.str "post"))=true then 1 else 0)+(if decide (V.str "twice" = V.str "send")=true then 1 else 0));decide +kernel
 ·show V.int 3=V.int (2+(if (!decide (V.str "lost" = V.str "post"))=true then 1 else 0)+(if decide (V.str "lost" = V.str "send")=true then 1 else 0));decide +kernel
inductive aaA(K:ah)(vs:List V)(H:Hp)(Q:VK)(E:XK):Prop
 |mk (a:Addr) (qs:List Addr) (ds:List cV):vs=[.ref a]->bN K H a (qs.map V.ref)->dg K H qs (ds.map cV.vs)->(∀H',aG H H'->Q (.bl true) H')->aaA K vs H Q E
theorem IG(T:Txt K mg t):cH P w K mg base iS 2 t.kU t.pq ["_law_story"]  (aaA K):=by
 refine T.A9.F.jK rR λH Q E hr h=>?_
 ·obtain⟨a,s,S,rfl,J,Y,k⟩:=h
  refine⟨_,(au (b6 (iQ (lN (cB WE T.pG boot_isinstance (k9 (pv 0) (Et rfl T.rV boot_list (v:=.ty "list") rfl))))) oB bw) (au (fS (fE (pv 0)) (gT 1 rR) (au (b6 (PW.pt (CB (iQ (lN (cB WD T.pG boot_isinstance (k9 (pv 1) (Et rfl T.abW boot_tuple (v:=.ty "tuple") rfl))))) (CB (qT nZ (lS T.fK (pv 1)) aA) (De (iQ (lN (cB Jv T.pG boot_isinstance (k9 (xT (pv 1) aA) (Et rfl T.aif boot_str (v:=.ty "str") rfl))))))))) oB bw) (au (b6 (iQ (lN (cB (Qk rfl) T.adF boot_all (gE (gO (kO rR ["_law_one"] [none]) rfl (Sv (qQ Jp (pv 1) (mR aA) EB)) (λ_ _ _ _=>by exact (gS 0 DK)) (λ_ _ _ _=>by exact mS) (λ_ _ _ _=>by exact (cG (Ub T) hr T.Nb (gE (pv 0))))))))) oB bw) (au (b6 (i7 n9 (xT (pv 1) aA) (fY (aN6 gm gm gm gm gm gm)) (by with_unfolding_all rfl)) oB bw) (bz (b6 (qT vz (lS T.fK (pv 1)) (aY fH (aY fH aA (fQ MG (by rfl) T.ZY boot_int (gE (qE vz (xT (pv 1) aA) gm)))) (fQ MG (by rfl) T.ZY boot_int (gE (qE i6 (xT (pv 1) aA) gm))))) oB bw)))))) oB)),?_⟩
  left
  have eq:s.length=S.length:=by rw[Y.len,af]
  refine⟨_,rfl,a,_,_,_,rfl,J,rfl,_,rfl,dh ?_⟩;refine⟨_,rfl,a,rfl,⟨_,J⟩,tM (K:=K) (a:=a) (xs:=s.map V.ref) (λi C g=>aG H g/\∃N:Option V,C=[some (.ref a),N]) ⟨aG.refl _,_,rfl⟩ (λi C g _ z=>z.1.seq J) ?_ ?_⟩
  ·rintro i y C g M ⟨D,N,rfl⟩
   have A:i<s.length:=by
    have:=(ai.mp M).1
    rw[af] at this;exact this
   rw[ak,aa A] at M;cases M;have c:=D.cz (Y.at' i s[i] (S[i]'∅).vs (aa A) (by rw[ak,aa ∅];rfl));generalize s[i]=q at c;generalize S[i]'∅=d at c;rw[PB] at c;have h1:=acB d;refine⟨_,rfl,q,_,_,_,rfl,c,rfl,_,rfl,dh ?_⟩;refine⟨_,rfl,q,_,rfl,.inr c,_,_,rfl,rfl,_,rfl,?_⟩;rw[e8 (show ¬(((V.str (dW d)::(dI d).map V.int).length:Nat):Int)<2 by rw[aV,af];lia)];refine dh ⟨_,rfl,q,_,0,_,rfl,rfl,c,FJ d,_,_,_,_,rfl,.str _,rfl,_,rfl,dh ?_⟩;have nw:¬(HT.lX (V.str (dW d)::(dI d).map V.int).length 0 (some 1)=0/\HT.lX (V.str (dW d)::(dI d).map V.int).length (V.str (dW d)::(dI d).map V.int).length none=(V.str (dW d)::(dI d).map V.int).length):=λz=>by
    have z1:=z.1;rw[show (1:Int)=((1:Nat):Int) from rfl,HT.Ez,aV] at z1;lia
   refine⟨_,rfl,_,rfl,q,_,rfl,c,nw,λz hz=>?_⟩;have ct:Av (V.str (dW d)::(dI d).map V.int) (some 1) none=(dI d).map V.int:=JD _ 1;rw[ct];have X:=aG.new (o:=.tup ((dI d).map V.int)) hz;have p:cX K _ z ((dI d).map V.int):=cX.of (ay (H:=g) (a:=z) (o:=.tup ((dI d).map V.int)));generalize upd g z (.tup ((dI d).map V.int))=H3 at X p;refine⟨z,rfl,⟨_,p⟩,λO e=>?_⟩;refine gf (n:=((dI d).map V.int).length) (λi L _=>∃f:List Bool,L=f.map V.bl/\f.length=i/\f.all id=true) e (S4 p) (JC p) ⟨[],rfl,rfl,rfl⟩ ?_ ?_
   ·rintro j L H4 W G R ⟨f,rfl,u,l⟩ x H5 ⟨rfl,I⟩
    have I:=I _ (G.cz p);have U:j<(dI d).length:=by rw[af] at W;exact W
    rw[ak,aa U] at I;cases I;have h3:(dI d).length<=3:=by cases d <;> simp[dI]
    refine⟨_,rfl,_,rfl,?_⟩;exact dY e W G R (by rw[af];exact b4 ∅) ⟨f++[true],-_,by simp[u],by simp[l]⟩
   rintro L H4 G R ⟨f,rfl,u,l⟩;refine⟨O,f,rfl,bN.of R,_,rfl,?_⟩;rw[l];refine dh ?_;have B:=X.trans G;have r:=B.cz c;refine⟨_,rfl,q,_,0,_,rfl,rfl,r,FJ d,aaN,λb hb=>?_⟩;have Z:=aG.new (o:=.tup zR) hb;refine⟨b,zR,rfl,.inr (cX.of ay),rfl,!_,_,rfl,?_⟩
   try dsimp only
   rw[aq rfl,acC];refine dh ?_;have m:=Z.cz r;refine⟨_,rfl,q,_,rfl,.inr m,_,rfl,q,_,0,_,rfl,rfl,m,FJ d,rfl,.inr ⟨_,rfl,_,_,rfl,rfl,_,rfl,q,_,0,_,rfl,rfl,m,FJ d,rfl,.inr ⟨_,rfl,_,_,rfl,rfl,rfl,_,rfl,?_⟩⟩⟩;rw[eH (aaz d)];exact dh ⟨(D.trans B).trans Z,_,rfl⟩
  ·rintro C g ⟨D,N,rfl⟩
   exact k g D
end
section
structure Fo(ns:List Int)(rs:List R5)(os:List Nat):Prop where
 lt:∀r∈os,r<rs.length
 ok:∀r∈rs,r.Ok ns.length
 cut:∀r∈os,∀x:Nat,isAt rs (x:Int) r=true->¬Rw rs os r x (fj rs r x)
 ri:os.Pairwise (·<·)
variable{ns:List Int}{rs:List R5}{os:List Nat}
theorem Fo.of{live:List Nat}{nd:ns.Nodup}{ok:∀r∈rs,r.Ok ns.length}{hl:∀k∈live,k<rs.length}{R:Nat->RM.Row}(O:fk (aR ns rs live nd ok hl) R os):Fo ns rs os:=⟨Zv O,ok,λ_ b _ a=>acA O b a,O.1⟩
theorem Fo.back(F:Fo ns rs os){r x:Nat}(b:r∈os)(a:isAt rs (x:Int) r=true):isAt rs ((fj rs r x:Nat):Int) r=true/\fj rs r (fj rs r x)=x/\fj rs r x≠x/\fj rs r x<ns.length:=RN (F.lt r b) F.ok a
theorem Fo.two(F:Fo ns rs os){r x y:Nat}(f:r∈os)(d:isAt rs (x:Int) r=true)(g:isAt rs (y:Int) r=true):y=x∨y=fj rs r x:=by
 have c:=F.lt r f;have o:=F.ok _ (aH c);have i:=o.a0;have h:=o.b0;have e:∀y:Int,isAt rs y r=(decide (y=rs[r].a) || decide (y=rs[r].b)):=λy=>by unfold isAt;rw[aa c]
 rw[e,tL,f5,f5] at d g;unfold fj;rw[aa c];show y=x∨y=gD rs[r] x;unfold gD;split <;> lia
theorem Fo.symm(F:Fo ns rs os)(a:Rw rs os r0 x y):Rw rs os r0 y x:=a.symm F.ok F.lt
theorem Fo.avoid(F:Fo ns rs os){q x:Nat}(f:q∈os)(g:isAt rs (x:Int) q=true)(a:isAt rs (x:Int) r'=true)(t:Rw rs os q (fj rs q x) z):Rw rs os r' (fj rs q x) z:=by
 induction t with
 |refl=>exact .refl
 |@step y r t b i c h =>
  refine .step h b (λe=>?_) c;subst e;rcases F.two b a c with e|e
  ·subst e
   exact F.cut q f y g (F.symm t)
  ·have d:=Rw.step t b i c
   rw[e,(F.back b a).2.1] at d;exact F.cut q f x g (F.symm d)
theorem Rw.first(F:Fo ns rs os)(t:Rw rs os r0 x z)(g:x≠z):∃a,a∈os/\a≠r0/\isAt rs (x:Int) a=true/\Rw rs os a (fj rs a x) z:=by
 induction t with
 |refl=>exact cy rfl g
 |@step y r t b k d l =>
  by_cases e:x=y
  ·subst e
   exact⟨r,b,k,d,.refl⟩
  ·obtain⟨a,j,i,c,h⟩:=l e
   refine⟨a,j,i,c,?_⟩;by_cases f:r=a
   ·subst f
    rcases F.two b c d with z|z
    ·exact cy z.symm e
    ·exact cy (by rw[z,(F.back b c).2.1]) g
   ·exact .step h b f d
theorem Fo.one(F:Fo ns rs os){q r x:Nat}(b:q∈os)(g:r∈os)(c:isAt rs (x:Int) q=true)(a:isAt rs (x:Int) r=true)(h:Rw rs os q (fj rs q x) z)(i:Rw rs os r (fj rs r x) z):q=r:=by
 by_cases e:q=r
 ·exact e
 ·have f:=F.avoid b c a h
  have d:Rw rs os r x (fj rs q x):=.step .refl b e c;exact cy ((d.trans f).trans (F.symm i)) (F.cut r g x a)
theorem Fo.all(F:Fo ns rs os)(t:Rw rs os r0 x z):Rw rs os rs.length x z:=by
 induction t with
 |refl=>exact .refl
 |step t a d c b=>exact .step b a (bH (F.lt _ a)) c
def nx(rs:List R5)(e:En)(r:Nat):En:=⟨fj rs r e.h,some (r,e.h)⟩
def Bh(rs:List R5)(os:List Nat)(e:En)(z:Nat):Prop:=Rw rs os (e.by?.getD rs.length) e.h z
structure WJ(ns:List Int)(rs:List R5)(os:List Nat)(f:Nat)(D Pn:List En):Prop where
 nd:((D++Pn).map (·.h)).Nodup
 fr:∀e∈D++Pn,∀r p,e.fr=some (r,p)->r∈os/\isAt rs (p:Int) r=true/\fj rs r p=e.h/\(∃e'∈D,e'.h=p)/\Rw rs os r f p
 f0:∀e∈D++Pn,e.fr=none->e.h=f
 lt:∀e∈D++Pn,e.h<ns.length
theorem WJ.zero{f:Nat}(b:f<ns.length):WJ ns rs os f [] [⟨f,none⟩] :=
 ⟨-_,λe a r p h=>(by rw[aS.mp a] at h;cases h),λe a _=>(by rw[aS.mp a]),λe a=>(by rw[aS.mp a];exact b)⟩
variable{f:Nat}{D Pn A B:List En}{e:En}
theorem WJ.side(F:Fo ns rs os)(w:WJ ns rs os f D Pn)(g:e∈D++Pn){r0:Nat}(n:r0∈os)(l:isAt rs (e.h:Int) r0=true)(m:some r0≠e.by?):Rw rs os r0 f e.h:=by
 cases z:e.fr with
 |none=>rw[w.f0 e g z];exact .refl
 |some q =>
  obtain⟨r,p⟩:=q;obtain⟨c,i,d,_,k⟩:=w.fr e g r p z;have a:r≠r0:=λq=>m (by unfold En.by?;rw[z,<- q];rfl);obtain⟨j,b,_⟩:=F.back c i;rw[d] at j b;have t:=F.avoid c j l (by rw[b];exact F.symm k);rw[b] at t
  have:=Rw.step (F.symm t) c a i
  rw[d] at this;exact this
theorem Lo(nd:((D++Pn).map (·.h)).Nodup)(c:e∈Pn):∀a∈D,a.h≠e.h:=λa b z=>by
 rw[aK,g8] at nd;exact nd.2.2 _ (bW b) _ (bW c) z
theorem WJ.next(F:Fo ns rs os)(w:WJ ns rs os f D (A++e::B)){gs:List Nat}(P:gs.Nodup)(t:∀r∈gs,r∈goes rs os e):WJ ns rs os f (D++[e]) (A++B++gs.map (nx rs e)):=by
 have m:e∈A++e::B:=-_
 have o:e∈D++(A++e::B):=bP _ m;have H:=Lo w.nd m;have pm:((D++[e])++(A++B++gs.map (nx rs e))).Perm ((D++(A++e::B))++gs.map (nx rs e)):=by
  have c:([e]++(A++B)).Perm (A++e::B):=by
   show (e::(A++B)).Perm _;exact List.perm_middle.symm
  have g:=(c.append_left D).append_right (gs.map (nx rs e))
  simpa [gi] using g
 have J:∀r∈gs,∀b∈D++(A++e::B),b.h≠fj rs r e.h:=λr j b i z=>by
  obtain⟨c,g,G⟩:=jT.mp (t r j);have S:=w.side F o c g G;obtain⟨R,O,W,_⟩:=F.back c g;by_cases q:some r=b.by?
  ·unfold En.by? at q
   cases y:b.fr with
   |none=>rw[y] at q;cases q
   |some v =>
    obtain⟨M,p⟩:=v;rw[y] at q;have q:r=M:=aJ q;subst q;obtain⟨_,n,u,⟨I,C,E⟩,_⟩:=w.fr b i r p y
    have:p=e.h:=by
     have:=(F.back c n).2.1
     rw[u,z,O] at this;exact this.symm
    exact H I C (E.trans this)
  ·have L:=w.side F i c (by rw[z];exact R) q
   rw[z] at L;exact F.cut r c e.h g ((F.symm S).trans L)
 have l:∀b,b∈(D++[e])++(A++B++gs.map (nx rs e))->b∈D++(A++e::B)∨∃r∈gs,b=nx rs e r:=λb i=>by
  rcases aU.mp (pm.mem_iff.mp i) with h|h
  ·exact .inl h
  ·obtain⟨r,j,z⟩:=aL.mp h
   exact .inr ⟨r,j,z.symm⟩
 refine⟨?_,λb i r p h=>?_,λb i h=>?_,λb i=>?_⟩
 ·rw[(pm.map (·.h)).nodup_iff,aK,g8]
  refine⟨w.nd,?_,λx Q y T=>?_⟩
  ·rw[bV]
   refine kr.mpr (List.Pairwise.imp_of_mem ?_ P);intro r k j d V z;obtain⟨c,g,_⟩:=jT.mp (t r j);obtain⟨K,n,_⟩:=jT.mp (t k d);have z:fj rs r e.h=fj rs k e.h:=z
   have:=Rw.step (rs:=rs) (os:=os) (r0:=r) (x:=e.h) .refl K (bO V) n
   rw[<- z] at this;exact F.cut r c e.h g this
  ·obtain⟨a,N,rfl⟩:=aL.mp Q
   obtain⟨b,i,rfl⟩:=aL.mp T;obtain⟨r,j,rfl⟩:=aL.mp i;exact J r j a N
 ·rcases l b i with s|⟨k,d,rfl⟩
  ·obtain⟨K,n,u,⟨I,C,E⟩,U⟩:=w.fr b s r p h
   exact⟨K,n,u,⟨I,bY _ C,E⟩,U⟩
  ·obtain⟨c,g,G⟩:=jT.mp (t k d)
   cases h;exact⟨c,g,rfl,⟨e,-_,rfl⟩,w.side F o c g G⟩
 ·rcases l b i with s|⟨k,d,rfl⟩
  ·exact w.f0 b s h
  ·cases h
 ·rcases l b i with s|⟨k,d,rfl⟩
  ·exact w.lt b s
  ·obtain⟨c,g,_⟩:=jT.mp (t k d)
   exact (F.back c g).2.2.2
structure EE where
 e:En
 gs:List Nat
 wf:Nat->Nat
def PD(e:En):cV:=match e.fr with|none=>.post e.h|some (r,_)=>.p6 e.h r
def EE.vn(hs:Nat->List Nat)(x:EE):List cV:=PD x.e::((hs x.e.h).map (cV.hand x.e.h)++x.gs.map λr=>.send x.e.h r (x.wf r))
def dN(rs:List R5)(r:Nat):Nat:=match rs[r]? with|some re=>re.d.toNat|none=>0
structure LJ(ns:List Int)(rs:List R5)(os:List Nat)(hs:Nat->List Nat)(one:Option Nat)(f:Nat)(dn:List Nat)(ds:List cV)(Pn:List En)(E:List EE):Prop where
 dn:dn=E.map (·.e.h)
 ds:ds=E.flatMap (EE.vn hs)
 wj:WJ ns rs os f (E.map (·.e)) Pn
 gs:∀x∈E,x.gs.Nodup/\∀r∈x.gs,r∈goes rs os x.e/\x.wf r<dN rs r/\nx rs x.e r∈E.map (·.e)++Pn
 od:∀(k:Nat) x,E[k]?=some x->∀r p,x.e.fr=some (r,p)->∃(j:Nat) (y:EE),j<k/\E[j]?=some y/\y.e.h=p/\r∈y.gs
 h0:∀(k:Nat) x,E[k]?=some x->(x.e.fr=none↔k=0)
 pf:∀e∈Pn,∀r p,e.fr=some (r,p)->∃y∈E,y.e.h=p/\r∈y.gs
 pn:∀e∈Pn,e.fr=none->E=[]
 al:one=none->∀x∈E,x.gs=goes rs os x.e
 to:∀z,one=some z->z∈E.map (·.e.h)∨(∃e∈Pn,Bh rs os e z)∨¬Rw rs os rs.length f z
theorem LJ.zero(a:f<ns.length):LJ ns rs os hs one f [] [] [⟨f,none⟩] [] :=
 ⟨rfl,rfl,WJ.zero a,λx h=>(by cases h),λk x h=>(by cases h),λk x h=>(by cases h),λe b r p h=>(by rw[aS.mp b] at h;cases h),λ_ _ _=>rfl,λ_ x h=>(by cases h),λz _=>(by
  by_cases h:Rw rs os rs.length f z
  ·exact .inr (.inl ⟨_,aS.mpr rfl,h⟩)
  ·exact .inr (.inr h))⟩
theorem LJ.next{hs:Nat->List Nat}{one:Option Nat}{dn:List Nat}{ds:List cV}{E:List EE}{gs:List Nat}{wf:Nat->Nat}(F:Fo ns rs os)(w:LJ ns rs os hs one f dn ds (A++e::B) E)(L:gs.Nodup)(D:∀r∈gs,r∈goes rs os e/\wf r<dN rs r)(al:one=none->gs=goes rs os e)(to:∀z,one=some z->Bh rs os e z->e.h=z∨∃r∈gs,Bh rs os (nx rs e r) z) :
 e.h∉dn/\LJ ns rs os hs one f (dn++[e.h]) (ds++EE.vn hs ⟨e,gs,wf⟩) (A++B++gs.map (nx rs e)) (E++[⟨e,gs,wf⟩]):=by
 have g:e∈A++e::B:=-_
 have C:=Lo w.wj.nd g;have sub:∀b,b∈E.map (·.e)++(A++e::B)->b∈(E.map (·.e)++[e])++(A++B++gs.map (nx rs e)):=λb hb=>by
  simp only[aU,bu] at hb ⊢;rcases hb with h|h|h|h
  ·exact .inl (.inl h)
  ·exact .inr (.inl (.inl h))
  ·exact .inl (.inr (.inl h))
  ·exact .inr (.inl (.inr h))
 have o:∀(k:Nat) x,(E++[(⟨e,gs,wf⟩:EE)])[k]?=some x->E[k]?=some x∨(k=E.length/\x=⟨e,gs,wf⟩):=λk x h=>by
  by_cases z:k<E.length
  ·rw[bR z] at h;exact .inl h
  ·have J:=(ai.mp h).1
   rw[aB] at J
   have:k=E.length:=by simp at J;lia
   subst this;rw[bT (az _),eV] at h;exact .inr ⟨rfl,(aJ h).symm⟩
 have M:∀{k:Nat} {x:EE},E[k]?=some x->(E++[(⟨e,gs,wf⟩:EE)])[k]?=some x:=λ{k x} h=>by rw[bR (ai.mp h).1];exact h
 have K:(E++[(⟨e,gs,wf⟩:EE)]).map (·.e)=E.map (·.e)++[e]:=by rw[aK];rfl
 refine⟨λz=>?_,⟨by rw[w.dn,aK];rfl,by rw[w.ds,List.flatMap_append];simp,by rw[K];exact w.wj.next F L λr l=>(D r l).1,λx t=>?_,λk x h r p i=>?_,λk x h=>?_,λb hb r p i=>?_,λb hb H=>?_,λd x t=>?_,λz N=>?_⟩⟩
 ·rw[w.dn] at z
  obtain⟨x,t,T⟩:=aL.mp z;exact C x.e (bW t) T
 ·rw[K]
  rcases aU.mp t with h|h
  ·exact⟨(w.gs x h).1,λr l=>let ⟨a,b,c⟩:=(w.gs x h).2 r l;⟨a,b,sub _ c⟩⟩
  ·rw[aS.mp h]
   exact⟨L,λr l=>⟨(D r l).1,(D r l).2,bP _ (bP _ (bW l))⟩⟩
 ·rcases o k x h with h|⟨rfl,rfl⟩
  ·obtain⟨j,y,d,m,u,Q⟩:=w.od k x h r p i
   exact⟨j,y,d,M m,u,Q⟩
  ·obtain⟨y,d,m,u⟩:=w.pf e g r p i
   obtain⟨j,P⟩:=cE d;exact⟨j,y,(ai.mp P).1,M P,m,u⟩
 ·rcases o k x h with h|⟨rfl,rfl⟩
  ·exact w.h0 k x h
  ·constructor
   ·intro z
    rw[w.pn e g z];rfl
   ·intro z
    cases q:e.fr with
    |none=>rfl
    |some v =>
     obtain⟨y,d,_⟩:=w.pf e g v.1 v.2 q;rw[iX.mp z] at d;cases d
 ·rcases aU.mp hb with h|h
  ·obtain⟨y,d,m⟩:=w.pf b (by simp only[aU,bu] at h ⊢;rcases h with h|h;exact .inl h;exact .inr (.inr h)) r p i
   exact⟨y,bY _ d,m⟩
  ·obtain⟨R,n,rfl⟩:=aL.mp h
   cases i;exact⟨⟨e,gs,wf⟩,-_,rfl,n⟩
 ·rcases aU.mp hb with h|h
  ·exfalso
   have s:b∈A++e::B:=by simp only[aU,bu] at h ⊢;rcases h with h|h;exact .inl h;exact .inr (.inr h)
   have d:=w.wj.f0 b (bP _ s) H;have I:=w.pn b s H;have nd:=w.wj.nd;rw[I] at nd;have nd:((A++e::B).map (·.h)).Nodup:=nd;have G:e.fr=none:=by
    cases q:e.fr with
    |none=>rfl
    |some v =>
     obtain⟨y,d,_⟩:=w.pf e g v.1 v.2 q;rw[I] at d;cases d
   have m:=w.wj.f0 e (bP _ g) G;rw[aK,bG,g8] at nd;obtain⟨_,O,S⟩:=nd;rw[dm] at O;rcases aU.mp h with h|h
   ·exact S _ (bW h) e.h (-_) (d.trans m.symm)
   ·exact O.1 (by rw[m,<- d];exact bW h)
  ·obtain⟨R,n,rfl⟩:=aL.mp h
   cases H
 ·rcases aU.mp t with h|h
  ·exact w.al d x h
  ·rw[aS.mp h];exact al d
 ·rw[aK]
  rcases w.to z N with h|⟨b,hb,h⟩|h
  ·exact .inl (bY _ h)
  ·by_cases q:b=e
   ·subst q
    rcases to z N h with h|⟨r,l,h⟩
    ·exact .inl (by rw[<- h];simp)
    ·exact .inr (.inl ⟨_,bP _ (bW l),h⟩)
   ·refine .inr (.inl ⟨b,bY _ ?_,h⟩)
    simp only[aU,bu] at hb ⊢;rcases hb with hb|hb|hb
    ·exact .inl hb
    ·exact cy hb q
    ·exact .inr hb
  ·exact .inr (.inr h)
theorem LJ.Uo{hs:Nat->List Nat}{one:Option Nat}{c:List Nat}{ds:List cV}{E:List EE}(F:Fo ns rs os)(w:LJ ns rs os hs one f c ds Pn E):∀x∈E,Rw rs os rs.length f x.e.h:=λx a=>by
 cases z:x.e.fr with
 |none=>rw[w.wj.f0 x.e (bY _ (bW a)) z];exact .refl
 |some q =>
  obtain⟨b,d,g,_,i⟩:=w.wj.fr x.e (bY _ (bW a)) q.1 q.2 z
  have:=Rw.step (F.all i) b (bH (F.lt _ b)) d
  rw[g] at this;exact this
theorem LJ.acD{hs:Nat->List Nat}{m:List Nat}{ds:List cV}{E:List EE}(F:Fo ns rs os)(w:LJ ns rs os hs none f m ds [] E)(B:E≠[]):∀z,Rw rs os rs.length f z->∃x∈E,x.e.h=z:=λz t=>by
 induction t with
 |refl =>
  cases E with
  |nil=>exact cy rfl B
  |cons x E =>
   have:=(w.h0 0 x rfl).mpr rfl
   exact⟨x,-_,w.wj.f0 x.e (-_) this⟩
 |@step y r t g C n A =>
  obtain⟨x,c,rfl⟩:=A;by_cases q:some r=x.e.by?
  ·unfold En.by? at q
   cases v:x.e.fr with
   |none=>rw[v] at q;cases q
   |some u =>
    obtain⟨j,p⟩:=u;rw[v] at q;have q:r=j:=aJ q;subst q;obtain⟨_,o,b,⟨i,k,l⟩,_⟩:=w.wj.fr x.e (bY _ (bW c)) r p v;obtain⟨d,a,rfl⟩:=aL.mp k;refine⟨d,a,?_⟩;rw[l,<- b,(F.back g o).2.1]
  ·have s:r∈x.gs:=by rw[w.al rfl x c];exact jT.mpr ⟨g,n,q⟩
   obtain⟨_,_,b⟩:=(w.gs x c).2 r s;rw[bQ] at b;obtain⟨d,a,i⟩:=aL.mp b;exact⟨d,a,by rw[i];rfl⟩
theorem LJ.acE{hs:Nat->List Nat}{a:List Nat}{ds:List cV}{E:List EE}{z:Nat}(w:LJ ns rs os hs (some z) f a ds [] E)(t:Rw rs os rs.length f z):∃x∈E,x.e.h=z:=by
 rcases w.to z rfl with h|⟨e,c,_⟩|h
 ·obtain⟨x,b,e⟩:=aL.mp h
  exact⟨x,b,e⟩
 ·cases c
 ·exact cy t h
end
section
variable{ns:List Int}{rs:List R5}{os:List Nat}{s:NS}{l:LS}{i h:Nat}
theorem RP:∀(cs:List Nat) (s:NS) (l:LS),s.ls[i]?=some l->∃had,cs.foldl (mP i h) s={s with had:=had,ls:=s.ls.set i {l with aF:=l.aF++cs.map (cV.hand h)}}
 |[],s,l,e=>⟨s.had,by
  show s={s with had:=s.had,ls:=s.ls.set i {l with aF:=l.aF++[]}};rw[bQ,xZ e]⟩
 |c::cs,s,l,e=>by
  have f:=(ai.mp e).1;have b:(vj s i c).ls[i]?=some l:=e;have a:mP i h s c={s with had:=s.had.set c (s.had.getD c []++[i]),ls:=s.ls.set i {l with aF:=l.aF++[.hand h c]}}:=by
   unfold mP;rw[fO b];rfl
  obtain⟨had,d⟩:=RP cs (mP i h s c) {l with aF:=l.aF++[.hand h c]} (by rw[a];show (s.ls.set i _)[i]?=_;rw[fZ f,aq rfl]);refine⟨had,?_⟩;rw[jb,d,a];show {s with had:=had,ls:=(s.ls.set i _).set i _}=_;rw[sD];simp only[gi,bG];rfl
theorem RQ:∀(gs:List Nat) (s:NS) (l:LS),s.ls[i]?=some l->gs.foldl (vm rs i h) s={s with cps:=s.cps++gs.map λr=>⟨i,r,jq s.ws r (j5 l),fj rs r h⟩,ls:=s.ls.set i {l with aF:=l.aF++gs.map λr=>.send h r (jq s.ws r (j5 l))}}
 |[],s,l,e=>by
  show s={s with cps:=s.cps++[],ls:=s.ls.set i {l with aF:=l.aF++[]}};rw[bQ,bQ,xZ e]
 |r::gs,s,l,e=>by
  have c:=(ai.mp e).1;have b:XF s i=j5 l:=by unfold XF;rw[e]
  have a:vm rs i h s r={s with cps:=s.cps++[⟨i,r,jq s.ws r (j5 l),fj rs r h⟩],ls:=s.ls.set i {l with aF:=l.aF++[.send h r (jq s.ws r (j5 l))]}}:=by
   unfold vm RH;rw[fO e,b]
  rw[jb,RQ gs (vm rs i h s r) {l with aF:=l.aF++[.send h r (jq s.ws r (j5 l))]} (by rw[a];show (s.ls.set i _)[i]?=_;rw[fZ c,aq rfl]),a];show {s with cps:=_,ls:=(s.ls.set i _).set i _}=_;rw[sD];simp only[gi,bG];rfl
theorem FL(e:s.ls[i]?=some l):∃had,XG rs s i h l cK os={s with had:=had,cps:=s.cps++(C9 rs s l h cK os).map λr=>⟨i,r,jq s.ws r (j5 l),fj rs r h⟩,ls:=s.ls.set i {l with done:=jS l.done h,aF:=l.aF++((k7 s l h).map (cV.hand h)++(C9 rs s l h cK os).map λr=>.send h r (jq s.ws r (j5 l)))}}:=by
 have a:=(ai.mp e).1;unfold XG;have c:(fG s i h l).ls[i]?=some {l with done:=jS l.done h}:=by
  show (s.ls.set i _)[i]?=_;rw[fZ a,aq rfl]
 obtain⟨had,b⟩:=RP (h:=h) (k7 s l h) (fG s i h l) _ c;refine⟨had,?_⟩;rw[b,RQ _ _ {l with done:=jS l.done h,aF:=l.aF++(k7 s l h).map (cV.hand h)} (by show ((s.ls.set i _).set i _)[i]?=_;rw[fZ (by rw[bg];exact a),aq rfl])];show {s with had:=had,cps:=_,ls:=((s.ls.set i _).set i _).set i _}=_;rw[sD,sD];simp only[gi];rfl
theorem RS{ds:List Nat}{h:Nat}{l:LS}(e:l.done=ds):C8 l h=decide (h∈ds):=by
 unfold C8;rw[e];clear e;induction ds with
 |nil=>rfl
 |cons d ds a =>
  rw[bG];by_cases z:d=h
  ·subst z
   rw[tO rfl];simp
  ·rw[tP (λe=>z (by have:=wc e;lia)),a]
   have:¬h=d:=λe=>z e.symm
   simp[this]
def NL(rs:List R5)(os:List Nat)(aE:List Nat)(ts:List T3):Prop:=∀t∈ts,∃h c r:Nat,t=((h:Int),(c:Int),(r:Int))/\r∈os/\isAt rs (h:Int) r=true/\Rw rs os r (fj rs r h) (aE.getD c 0)
theorem PF:((((os.filter (isAt rs e.h)).map λk:Nat=>(k:Int)).filter (kJ (e.by?.map λk:Nat=>(k:Int)))).map xO)=goes rs os e:=by
 unfold goes;rw[List.filter_map,bV,List.filter_filter]
 have:(xO∘λk:Nat=>(k:Int))=id:=by funext k;exact cO k
 rw[this,List.map_id];refine List.filter_congr λr _=>?_;rw[Bool.and_comm];congr 1;show kJ (e.by?.map λk:Nat=>(k:Int)) (r:Int)=_;unfold kJ;congr 1;rw[decide_eq_decide];cases e.by? with
 |none=>exact⟨λz=>(by cases z),λz=>(by cases z)⟩
 |some q=>exact⟨λz=>(by have z:V.int (r:Int)=V.int (q:Int):=z;have:=V.int.inj z;rw[show r=q by lia]),λz=>(by rw[aJ z];rfl)⟩
theorem VY(F:Fo ns rs os):(goes rs os e).Nodup:=tK fW (F.ri.imp λh=>bH h)
theorem aaB{c:Nat}:c∈sJ s h g↔s.aE[c]?=some h/\s.groups[c]?=some g:=by
 unfold sJ G5;rw[aT,f5,bB];exact⟨λz=>z.2,λz=>⟨(ai.mp z.1).1,z⟩⟩
theorem ad1(F:Fo ns rs os){e:En}(S:fF (s.ts l.grp))(I:NL rs os s.aE (s.ts l.grp))(kd:l.kd=1∨l.kd=2)(Q:l.kd=1->l.to<s.aE.length/\s.groups[l.to]?=some l.grp) :
 (C9 rs s l e.h e.by? os).Nodup/\(∀r∈C9 rs s l e.h e.by? os,r∈goes rs os e)/\(l.kd=2->C9 rs s l e.h e.by? os=goes rs os e)/\(l.kd=1->Bh rs os e (s.aE.getD l.to 0)->e.h=s.aE.getD l.to 0∨∃r∈C9 rs s l e.h e.by? os,Bh rs os (nx rs e r) (s.aE.getD l.to 0)):=by
 rcases kd with D|k2
 ·obtain⟨U,Z⟩:=Q D
  have C:s.aE[l.to]?=some (s.aE.getD l.to 0):=by rw[ao,aa U];rfl
  generalize R:s.aE.getD l.to 0=z at C;have x:¬l.kd=2:=∅
  have m:qx (l.to:Int) l.kd=some (l.to:Int):=by unfold qx;rw[aq D]
  have g:∀a,a=goes rs os e->a.Nodup/\(∀r∈a,r∈goes rs os e)/\(l.kd=2->a=goes rs os e)/\(l.kd=1->Bh rs os e z->e.h=z∨∃r∈a,Bh rs os (nx rs e r) z):=λa L=>by
   subst L;refine⟨VY F,λ_ h=>h,λ_=>rfl,λ_ b=>?_⟩;by_cases q:e.h=z
   ·exact .inl q
   ·obtain⟨r,t,f,o,j⟩:=Rw.first F b q
    refine .inr ⟨r,jT.mpr ⟨t,o,λy=>?_⟩,j⟩;rw[<- y] at f;exact f rfl
  unfold C9 Xb;rw[m]
  try dsimp only
  by_cases i:(l.to:Int)∈(sJ s e.h l.grp).map λk:Nat=>(k:Int)
  ·rw[aq i]
   obtain⟨c,X,B⟩:=aL.mp i;have B:c=l.to:=∅
   subst B
   have:=(aaB.mp X).1
   rw[C] at this;exact⟨jY,λr d=>(by cases d),λy=>cy y x,λ_ _=>.inl (aJ this).symm⟩
  ·rw[b3 i]
   cases K:wD (s.ts l.grp) e.h l.to with
   |none=>exact g _ PF
   |some q =>
    try dsimp only
    by_cases n:q∈(os.filter (isAt rs e.h)).map λk:Nat=>(k:Int)
    ·rw[aq n]
     obtain⟨k,M,W⟩:=aL.mp n;subst W;obtain⟨H,E⟩:=aT.mp M;obtain⟨N,O,J,A,r1,Y,v⟩:=I _ ((WZ S).mp K);have u:e.h=N:=by have:=ff (·.1) A;simp at this;lia
     have w:l.to=O:=by have:=ff (·.2.1) A;simp at this;lia
     have p:k=J:=by have:=ff (·.2.2) A;simp at this;lia
     subst u w p;rw[R] at v;have G:kJ (e.by?.map λk:Nat=>(k:Int)) (k:Int)=true↔some k≠e.by?:=by
      unfold kJ;rw[pS,decide_eq_false_iff_not];refine not_congr ?_;cases e.by? with
      |none=>exact⟨λz=>(by cases z),λz=>(by cases z)⟩
      |some q=>exact⟨λz=>(by have z:V.int (k:Int)=V.int (q:Int):=z;have:=V.int.inj z;rw[show k=q by lia]),λz=>(by rw[aJ z];rfl)⟩
     by_cases b:kJ (e.by?.map λk:Nat=>(k:Int)) (k:Int)=true
     ·rw[cR b]
      show [((k:Int)).toNat].Nodup/\_;rw[cO];refine⟨-_,λr d=>?_,λy=>cy y x,λ_ _=>.inr ⟨k,-_,v⟩⟩;rw[aS.mp d];exact jT.mpr ⟨H,E,G.mp b⟩
     ·rw[cS b]
      refine⟨jY,λr d=>(by cases d),λy=>cy y x,λ_ P=>?_⟩;by_cases y:e.h=z
      ·exact .inl y
      ·exfalso
       obtain⟨r,t,f,o,j⟩:=Rw.first F P y
       have:=F.one H t E o v j
       subst this;refine b (G.mpr λy=>?_);rw[<- y] at f;exact f rfl
    ·rw[b3 n]
     exact g _ PF
 ·have m:qx (l.to:Int) l.kd=none:=by unfold qx;rw[b3 ∅]
  have T:C9 rs s l e.h e.by? os=goes rs os e:=by
   unfold C9 Xb;rw[m];exact PF
  rw[T];exact⟨VY F,λ_ h=>h,λ_=>rfl,λy=>∅⟩
def LQ(aE groups:List Nat)(x:Nat)(to:Option Nat)(h:Nat):List Nat:=(av aE.length).filter λc=>decide (aE[c]?=some h/\groups[c]?=groups[x]?)&&match to with|none=>!decide (c=x)|some y=>decide (c=y)
structure LK(aE groups:List Nat)(x:Nat)(to:Option Nat)(l:LS):Prop where
 sn:l.s=x
 tt:l.to=to.getD 0
 kd:l.kd=if to.isSome=true then 1 else 2
 gr:groups[x]?=some l.grp
 hx:x<aE.length
 ht:∀y,to=some y->y<aE.length/\groups[y]?=groups[x]?
theorem LK.hand(k:LK s.aE s.groups x to l):k7 s l h=LQ s.aE s.groups x to h:=by
 unfold k7 sJ LQ;rw[List.filter_filter];refine List.filter_congr λc a=>?_;rw[Bool.and_comm,k.gr];congr 1;unfold Gk;rw[k.kd,k.tt,k.sn];cases to with
 |none =>
  rw[b3 (!_),aq (!_)];show (Bool.not _)=Bool.not _;congr 1;rw[decide_eq_decide];exact⟨λz=>by have:=V.int.inj z;lia,λz=>by rw[z]⟩
 |some y =>
  rw[aq (-_)];show _=decide (c=y);rw[decide_eq_decide];exact⟨λz=>by have:=V.int.inj z;simp at this;lia,λz=>by rw[z];rfl⟩
theorem LK.kinds(k:LK s.aE s.groups x to l):(l.kd=1∨l.kd=2)/\(l.kd=1->l.to<s.aE.length/\s.groups[l.to]?=some l.grp)/\(to=none->l.kd=2)/\∀y,to=some y->l.kd=1/\l.to=y:=by
 have c:=k.kd;have d:=k.tt;have e:=k.ht;cases to with
 |none=>exact⟨.inr c,λz=>by rw[c] at z;exact cy z (!_),λ_=>c,λy z=>(by cases z)⟩
 |some y =>
  obtain⟨a,b⟩:=e y rfl;have d:l.to=y:=d;exact⟨.inl c,λ_=>by rw[d];exact⟨a,b.trans k.gr⟩,λz=>(by cases z),λf z=>⟨c,by rw[d];exact aJ z⟩⟩
def af7(rs:List R5)(c:Cp):En:=⟨c.h,some (c.r,fj rs c.r c.h)⟩
def pend(rs:List R5)(cps:List Cp)(i:Nat):List En:=(cps.filter λc=>decide (c.l=i)).map (af7 rs)
theorem pM:pend rs (cps++cs) i=pend rs cps i++pend rs cs i:=by unfold pend;rw[gB,aK]
theorem FN(F:Fo ns rs os){gs:List Nat}{wf:Nat->Nat}(b:∀r∈gs,r∈goes rs os e):pend rs (gs.map λr=>(⟨i,r,wf r,fj rs r e.h⟩:Cp)) j=if j=i then gs.map (nx rs e) else []:=by
 unfold pend;rw[List.filter_map,bV];by_cases z:j=i
 ·subst z
  rw[aq rfl,List.filter_eq_self.mpr (λr _=>-_)];refine cY λr d=>?_;obtain⟨c,a,_⟩:=jT.mp (b r d);show (⟨fj rs r e.h,some (r,fj rs r (fj rs r e.h))⟩:En)=⟨fj rs r e.h,some (r,e.h)⟩;rw[(F.back c a).2.1]
 ·rw[b3 z,vv.mpr (λr _=>by simp[bO z])]
  rfl
theorem acF{cps:List Cp}{a:Nat}(h:cps[a]?=some cp):cps=cps.take a++cp::cps.drop (a+1)/\cps.eraseIdx a=cps.take a++cps.drop (a+1):=by
 obtain⟨b,rfl⟩:=ai.mp h;refine⟨?_,List.eraseIdx_eq_take_drop_succ ..⟩;rw[<- List.drop_eq_getElem_cons b,List.take_append_drop]
theorem RT{cps:List Cp}{a:Nat}(h:cps[a]?=some cp):∃A B,pend rs cps cp.l=A++af7 rs cp::B/\pend rs (cps.eraseIdx a) cp.l=A++B/\∀j,j≠cp.l->pend rs (cps.eraseIdx a) j=pend rs cps j:=by
 obtain⟨c,b⟩:=acF h;refine⟨pend rs (cps.take a) cp.l,pend rs (cps.drop (a+1)) cp.l,?_,by rw[b,pM],λj d=>?_⟩
 ·conv=>lhs;rw[c]
  rw[pM];congr 1;unfold pend;rw[cR (-_)];rfl
 ·rw[b]
  conv=>rhs;rw[c]
  rw[pM,pM];congr 1;unfold pend;rw[cS (by simp[bO d])]
end
section
variable{ns:List Int}{rs:List R5}{s:NS}{os:Nat->List Nat}{b:Nat}{Ls:List (Nat×Option Nat)}
structure AJ(ns:List Int)(rs:List R5)(os:Nat->List Nat)(b:Nat)(Ls:List (Nat×Option Nat))(s:NS):Prop where
 fo:∀g,g<3->Fo ns rs (os g)
 wr:∀g,g<3->∀r∈os g,∀k,jq s.ws r k<dN rs r
 ll:s.ls.length=b+Ls.length
 nl:∀g,g<3->NL rs (os g) s.aE (s.ts g)
 li:∀(i x:Nat) (to:Option Nat),Ls[i]?=some (x,to)->∃l E,s.ls[b+i]?=some l/\l.old=false/\LK s.aE s.groups x to l/\LJ ns rs (os l.grp) (LQ s.aE s.groups x to) (to.map λy=>s.aE.getD y 0) (s.aE.getD x 0) l.done l.aF (pend rs s.cps (b+i)) E/\E≠[]
theorem Uq(k:LK aE groups x to l){a:LS}(c:a.s=l.s)(b:a.to=l.to)(d:a.kd=l.kd)(e:a.grp=l.grp):LK aE groups x to a:=⟨c.trans k.sn,b.trans k.tt,d.trans k.kd,k.gr.trans (by rw[e]),k.hx,k.ht⟩
theorem VZ{aE:List Nat}{to:Option Nat}(h:(to.map λy=>aE.getD y 0)=some z):∃y,to=some y/\aE.getD y 0=z:=by
 cases to with
 |none=>cases h
 |some y=>exact⟨y,rfl,aJ h⟩
theorem AJ.post{x:Nat}{to:Option Nat}(j:Bd n m D s)(N:n=ns.length)(h:AJ ns rs os b Ls s)(p:x<s.aE.length)(V:∀y,to=some y->y<s.aE.length/\s.groups[y]?=s.groups[x]?):AJ ns rs os b (Ls++[(x,to)]) (nW rs s x to (os (s.groups.getD x 0))):=by
 have S:x<s.groups.length:=by rw[j.gl];exact p
 have eg:s.groups[x]?=some (s.groups.getD x 0):=by rw[ao,aa S];rfl
 have g3:s.groups.getD x 0<3:=j.g3 _ (aC eg);have K:s.aE.getD x 0<ns.length:=by
  rw[<- N];refine j.hm _ ?_;rw[ao,aa p];exact aH p
 generalize u:s.aE.getD x 0=f at K;generalize a:s.groups.getD x 0=g at eg g3;have F:=h.fo g g3;have d:LK s.aE s.groups x to {gk s x to with aF:=[.post f]}:=⟨rfl,rfl,rfl,eg.trans (by show some g=some (s.groups.getD x 0);rw[a]),p,V⟩;have go:=ad1 (s:=k8 s x to) (l:={gk s x to with aF:=[.post f]}) (e:=⟨f,none⟩) F (by show fF (s.ts (s.groups.getD x 0));exact (j.tb _).2) (by show NL rs (os g) s.aE (s.ts (s.groups.getD x 0));rw[a];exact h.nl g g3) d.kinds.1 d.kinds.2.1;obtain⟨had,T⟩:=FL (rs:=rs) (os:=os g) (h:=f) (cK:=none) (s:=k8 s x to) (i:=s.ls.length) (l:={gk s x to with aF:=[.post f]}) (by show (s.ls++[_])[s.ls.length]?=_;rw[u];exact pL);have ep:nW rs s x to (os g)=XG rs (k8 s x to) s.ls.length f {gk s x to with aF:=[.post f]} none (os g):=by unfold nW;rw[u]
 rw[ep,T];have L:k7 (k8 s x to) {gk s x to with aF:=[.post f]} f=LQ s.aE s.groups x to f:=LK.hand (s:=k8 s x to) d;rw[L];generalize eG:C9 rs (k8 s x to) {gk s x to with aF:=[.post f]} f none (os g)=gs;obtain⟨U,q,Z,o⟩:gs.Nodup/\(∀r∈gs,r∈goes rs (os g) ⟨f,none⟩)/\((gk s x to).kd=2->gs=goes rs (os g) ⟨f,none⟩)/\((gk s x to).kd=1->Bh rs (os g) ⟨f,none⟩ (s.aE.getD (gk s x to).to 0)->f=s.aE.getD (gk s x to).to 0∨∃r∈gs,Bh rs (os g) (nx rs ⟨f,none⟩ r) (s.aE.getD (gk s x to).to 0)):=by rw[<- eG];exact go
 have v:∀t,(k8 s x to).ls.set s.ls.length t=s.ls++[t]:=λt=>by
  show (s.ls++[_]).set s.ls.length t=_;rw[nX _ _ (az _),eV];rfl
 rw[v];have w:pend rs s.cps s.ls.length=[]:=by
  unfold pend;rw[vv.mpr λc hc=>?_]
  ·rfl
  ·have:=(j.cl c hc).1
   simp;lia
 obtain⟨_,J⟩:=(LJ.zero (os:=os g) (hs:=LQ s.aE s.groups x to) (one:=to.map λy=>s.aE.getD y 0) K).next (A:=[]) (B:=[]) (gs:=gs) (wf:=λr=>jq s.ws r (j5 {gk s x to with aF:=[.post f]})) F U (λr G=>⟨q r G,h.wr g g3 r (jT.mp (q r G)).1 _⟩) (λz=>Z (d.kinds.2.2.1 (by cases to with|none=>rfl|some y=>cases z))) (λz Y=>by
  obtain⟨y,e1,W⟩:=VZ Y;obtain⟨Q,M⟩:=d.kinds.2.2.2 y e1;have o:=o Q;rw[M] at o;rw[<- W];exact o)
 refine⟨h.fo,h.wr,?_,h.nl,λi x' C k=>?_⟩
 ·show (s.ls++[_]).length=_
  rw[aB,aB,h.ll];rfl
 ·by_cases z:i<Ls.length
  ·rw[bR z] at k
   obtain⟨l,E,I,X,R,O,P⟩:=h.li i x' C k;refine⟨l,E,?_,X,R,?_,P⟩
   ·show (s.ls++[_])[b+i]?=_
    rw[bR (ai.mp I).1];exact I
   ·show LJ ns rs _ _ _ _ _ _ (pend rs (s.cps++_) (b+i)) E
    rw[pM,FN F (e:=⟨f,none⟩) q,b3 (by have:=h.ll;lia),bQ];exact O
  ·have H:=(ai.mp k).1
   rw[aB] at H;have ei:i=Ls.length:=by simp at H;lia
   subst ei;rw[bT (az _),eV] at k;cases k;refine⟨{gk s x to with done:=jS [] f,aF:=[.post f]++((LQ s.aE s.groups x to f).map (cV.hand f)++gs.map λr=>.send f r (jq s.ws r (j5 {gk s x to with aF:=[.post f]})))},[⟨⟨f,none⟩,gs,λr=>jq s.ws r (j5 {gk s x to with aF:=[.post f]})⟩],?_,rfl,Uq d rfl rfl rfl rfl,?_,-_⟩
   ·show (s.ls++[_])[b+Ls.length]?=_
    rw[<- h.ll];exact pL
   ·show LJ ns rs (os (s.groups.getD x 0)) _ _ (s.aE.getD x 0) (jS [] f) _ (pend rs (s.cps++_) (b+Ls.length)) _
    rw[<- h.ll,pM,w,FN F (e:=⟨f,none⟩) q,aq rfl,a,u];exact J
theorem AJ.pass{n m D a i x:Nat}{to:Option Nat}{cp:Cp}{l:LS}{ts:List T3}(bd:Bd n m D s)(h:AJ ns rs os b Ls s)(V:s.cps[a]?=some cp)(hl:s.ls[cp.l]?=some l)(hi:Ls[i]?=some (x,to))(L:cp.l=b+i)(pt:ts.Perm (put3 (s.ts l.grp) cp.h l.s cp.r))(oe:fF ts) :
 comes l cp (os l.grp)=true/\AJ ns rs os b Ls (gZ rs s a cp l (os l.grp) ts):=by
 obtain⟨l0,E,h1,h2,I,o,h5⟩:=h.li i x to hi;rw[<- L,hl] at h1;cases h1;have PU:s.groups[x]?=some l.grp:=I.gr;have g3:l.grp<3:=bd.g3 _ (aC PU);have F:=h.fo l.grp g3;obtain⟨A,B,C,Y,Z⟩:=RT (rs:=rs) V;rw[<- L,C] at o;generalize ee:af7 rs cp=e at C o;have c:cp.h=e.h:=by rw[<- ee];rfl
 have R:e.fr=some (cp.r,fj rs cp.r cp.h):=by rw[<- ee];rfl
 have eb:e.by?=some cp.r:=by unfold En.by?;rw[R];rfl
 have Q:e∈E.map (·.e)++(A++e::B):=-_
 obtain⟨K,q2,q3,q4,q5⟩:=o.wj.fr e Q _ _ R;have q6:isAt rs (cp.h:Int) cp.r=true/\fj rs cp.r (fj rs cp.r cp.h)=cp.h:=by
  have:=F.back K q2
  rw[q3,<- c] at this;exact⟨this.1,q3.trans c.symm⟩
 have nd:e.h∉l.done:=λz=>by
  rw[o.dn] at z;obtain⟨y,hy,ey⟩:=aL.mp z;exact Lo o.wj.nd (-_) y.e (bW hy) ey
 have p:C8 l cp.h=false:=by rw[RS rfl,c];exact e8 nd
 have u:comes l cp (os l.grp)=true:=by
  unfold comes;rw[p,eH K];rfl
 refine⟨u,?_⟩;have v:gU l cp (os l.grp)=.p6 cp.h cp.r:=by
  unfold gU;rw[p,aq K,b3 (!_)]
 have H:=(ai.mp hl).1;have S:NL rs (os l.grp) s.aE ts:=λt N=>by
  have N:=pt.mem_iff.mp N;unfold put3 at N;rcases aU.mp N with z|z
  ·exact h.nl _ g3 t (aT.mp z).1
  ·refine⟨cp.h,l.s,cp.r,aS.mp z,K,q6.1,?_⟩
   rw[I.sn];exact F.symm q5
 have G:∀g,g<3->NL rs (os g) s.aE (gH s.ts l.grp ts g):=λg hg=>by
  by_cases z:g=l.grp
  ·subst z;rw[cQ];exact S
  ·rw[e9 z];exact h.nl g hg
 unfold gZ ck;rw[u,aq rfl,b3 (show ¬l.old=true by rw[h2];decide),v];have U:(Dc (i8 s a cp l (os l.grp)) l.grp ts).ls[cp.l]?=some {l with aF:=l.aF++[.p6 cp.h cp.r]}:=by
  show (s.ls.set cp.l {l with aF:=l.aF++[gU l cp (os l.grp)]})[cp.l]?=_;rw[v,fZ H,aq rfl]
 obtain⟨had,ed⟩:=FL (rs:=rs) (os:=os l.grp) (h:=cp.h) (cK:=some cp.r) U;have q:LK s.aE s.groups x to {l with aF:=l.aF++[.p6 cp.h cp.r]}:=Uq I rfl rfl rfl rfl;have W:=ad1 (s:=Dc (i8 s a cp l (os l.grp)) l.grp ts) (l:={l with aF:=l.aF++[.p6 cp.h cp.r]}) (e:=e) F (by show fF (gH s.ts l.grp ts l.grp);rw[cQ];exact oe) (G _ g3) q.kinds.1 q.kinds.2.1;have hh:k7 (Dc (i8 s a cp l (os l.grp)) l.grp ts) {l with aF:=l.aF++[.p6 cp.h cp.r]} cp.h=LQ s.aE s.groups x to cp.h:=LK.hand (s:=Dc (i8 s a cp l (os l.grp)) l.grp ts) q;rw[ed,hh];rw[eb,<- c] at W;generalize C9 rs (Dc (i8 s a cp l (os l.grp)) l.grp ts) {l with aF:=l.aF++[.p6 cp.h cp.r]} cp.h (some cp.r) (os l.grp)=gs at W;obtain⟨gn,O,ga,M⟩:=W;obtain⟨_,J⟩:=o.next (gs:=gs) (wf:=λr=>jq s.ws r (j5 {l with aF:=l.aF++[.p6 cp.h cp.r]})) F gn (λr hr=>⟨O r hr,h.wr _ g3 r (jT.mp (O r hr)).1 _⟩) (λz=>ga (q.kinds.2.2.1 (by cases to with|none=>rfl|some y=>cases z))) (λz hz=>by
  obtain⟨y,e1,e2⟩:=VZ hz;obtain⟨w1,w2⟩:=q.kinds.2.2.2 y e1;have M:=M w1;rw[w2] at M;rw[<- e2,<- c];exact M)
 have w:∀(k:Nat) (f:LS),((Dc (i8 s a cp l (os l.grp)) l.grp ts).ls.set cp.l f)[k]?=if k=cp.l then some f else s.ls[k]?:=λk f=>by
  show ((s.ls.set cp.l _).set cp.l f)[k]?=_;rw[sD,fZ H]
 refine⟨h.fo,h.wr,?_,G,λj x' T P=>?_⟩
 ·show ((s.ls.set cp.l _).set cp.l _).length=_
  rw[bg,bg];exact h.ll
 ·by_cases z:j=i
  ·subst z
   rw[hi] at P;cases P;refine⟨{l with done:=jS l.done cp.h,aF:=l.aF++[.p6 cp.h cp.r]++((LQ s.aE s.groups x to cp.h).map (cV.hand cp.h)++gs.map λr=>.send cp.h r (jq s.ws r (j5 {l with aF:=l.aF++[.p6 cp.h cp.r]})))},E++[⟨e,gs,λr=>jq s.ws r (j5 {l with aF:=l.aF++[.p6 cp.h cp.r]})⟩],by rw[<- L];refine (w cp.l _).trans ?_;rw[aq rfl];rfl,h2,Uq I rfl rfl rfl rfl,?_,-_⟩
   ·show LJ ns rs (os l.grp) _ _ _ (jS l.done cp.h) _ (pend rs (s.cps.eraseIdx a++gs.map λr=>(⟨cp.l,r,_,fj rs r cp.h⟩:Cp)) (b+j)) _
    have d:=FN (i:=cp.l) (j:=cp.l) (wf:=λr=>jq s.ws r (j5 {l with aF:=l.aF++[.p6 cp.h cp.r]})) F O;rw[aq rfl,<- c] at d;rw[<- L,pM,Y];unfold jS;rw[b3 (by rw[c];exact nd)];refine Eq.mp ?_ J;congr 1
    ·rw[c]
    ·show l.aF++(PD e::_)=l.aF++[.p6 cp.h cp.r]++_
     rw[gi];congr 1;unfold PD;rw[R];show _=cV.p6 cp.h cp.r::_;rw[c];rfl
    ·congr 1
     exact d.symm
  ·obtain⟨f,E',r1,r2,r3,r4,r5⟩:=h.li j x' T P
   have X:b+j≠cp.l:=∅
   refine⟨f,E',(w (b+j) _).trans ((b3 X).trans r1),r2,r3,?_,r5⟩;show LJ ns rs _ _ _ _ _ _ (pend rs (s.cps.eraseIdx a++gs.map λr=>(⟨cp.l,r,_,fj rs r cp.h⟩:Cp)) (b+j)) E';have d:=FN (i:=cp.l) (j:=b+j) (wf:=λr=>jq s.ws r (j5 {l with aF:=l.aF++[.p6 cp.h cp.r]})) F O;rw[b3 X,<- c] at d;rw[pM,Z _ X];have d:pend rs (gs.map λr=>(⟨cp.l,r,jq s.ws r (j5 {l with aF:=l.aF++[.p6 cp.h cp.r]}),fj rs r cp.h⟩:Cp)) (b+j)=[]:=d;refine Eq.mp ?_ r4;congr 1;exact (bQ _).symm.trans (ff _ d.symm)
end
section
def Ur(rs:List R5)(h:Nat):Nat:=((av rs.length).filter (isAt rs h)).length
def vZ(n:Nat)(rs:List R5)(done:List Nat):Nat:=(((av n).filter λh=>!decide (h∈done)).map (Ur rs)).sum
def Ph(n:Nat)(rs:List R5)(s:NS):Nat:=s.cps.length+(s.ls.map λl=>vZ n rs l.done).sum
theorem sum_set{b:Type}{f:b->Nat}:∀{xs:List b} {i:Nat} {x:b} (y:b),xs[i]?=some x->((xs.set i y).map f).sum+f x=(xs.map f).sum+f y
 |[],_,_,_,h=>by cases h
 |a::xs,0,x,y,h=>by
  cases h;show f y+(xs.map f).sum+f a=f a+(xs.map f).sum+f y;lia
 |a::xs,i+1,x,y,h=>by
  have:=sum_set (f:=f) (xs:=xs) (i:=i) y h
  show f a+((xs.set i y).map f).sum+f x=f a+(xs.map f).sum+f y;lia
theorem RU{f:Nat->Nat}{d:List Nat}{h:Nat}(c:h∉d):∀{L:List Nat},L.Nodup->(((L.filter λk=>!decide (k∈d++[h])).map f).sum+if h∈L then f h else 0)=((L.filter λk=>!decide (k∈d)).map f).sum
 |[],_=>rfl
 |a::L,nd=>by
  obtain⟨g,i⟩:=dm.mp nd;have b:=RU (f:=f) c i;by_cases z:a=h
  ·subst z
   rw[b3 g] at b;rw[aq bE,cS (-_),cR (by simp[c]),bG,List.sum_cons];lia
  ·have e:(if h∈a::L then f h else 0)=(if h∈L then f h else 0):=by
    have q:¬h=a:=λy=>z y.symm;simp[q]
   rw[e];by_cases y:a∈d
   ·rw[cS (by simp[y]),cS (by simp[y])]
    exact b
   ·rw[cR (by simp[y,z]),cR (by simp[y]),bG,bG,List.sum_cons,List.sum_cons]
    lia
theorem NP{n:Nat}{d:List Nat}{h:Nat}(b:h<n)(a:h∉d):vZ n rs (jS d h)+Ur rs h=vZ n rs d:=by
 unfold vZ jS;rw[b3 a]
 have:=RU (f:=Ur rs) a (rB (n:=n))
 rw[aq (bB.mpr b)] at this;exact this
theorem af8:((av n).filter λh:Nat=>isAt rs (h:Int) k).length<=2:=by
 cases e:rs[k]? with
 |none =>
  have:((av n).filter λh:Nat=>isAt rs (h:Int) k)=[]:=vv.mpr λh _=>by unfold isAt;rw[e];exact aI
  rw[this];decide
 |some r =>
  have:=Gr.lA (B:=[r.a.toNat,r.b.toNat]) (tK (l₁:=(av n).filter λh:Nat=>isAt rs (h:Int) k) fW rB) λx c=>by
   have c:=(aT.mp c).2;unfold isAt at c;rw[e] at c;have c:(decide ((x:Int)=r.a) || decide ((x:Int)=r.b))=true:=c;rw[tL,f5,f5] at c;rcases c with z|z
   ·rw[<- z];simp
   ·rw[<- z];simp
  exact this
theorem RV{n:Nat}{p:Nat->Nat->Bool}:∀m,((av n).map λh=>((av m).filter (p h)).length).sum=((av m).map λk=>((av n).filter λh=>p h k).length).sum
 |0=>by
  show ((av n).map λh=>0).sum=0;generalize av n=L;induction L with
  |nil=>rfl
  |cons a L b=>rw[bG,List.sum_cons,b];rfl
 |m+1=>by
  rw[gA,aK,List.sum_append,<- RV m];show _=_+(((av n).filter λh=>p h m).length+0);generalize av n=L;induction L with
  |nil=>rfl
  |cons a L b =>
   rw[bG,bG,List.sum_cons,List.sum_cons,b,gB,aB];by_cases z:p a m=true
   ·rw[cR z,cR (p:=λh=>p h m) z,aV,aV,List.filter_nil,List.length_nil]
    lia
   ·rw[cS z,cS (p:=λh=>p h m) z,List.filter_nil,List.length_nil]
    lia
theorem acG:((av n).map (Ur rs)).sum<=2*rs.length:=by
 have e:((av n).map (Ur rs)).sum=_:=RV (n:=n) (p:=λh k=>isAt rs (h:Int) k) rs.length;rw[e];generalize rs.length=m;induction m with
 |zero=>exact az _
 |succ m a =>
  rw[gA,aK,List.sum_append]
  have:((av n).filter λh:Nat=>isAt rs (h:Int) m).length<=2:=af8
  show _+(((av n).filter λh:Nat=>isAt rs (h:Int) m).length+0)<=_;lia
theorem aaD{os:List Nat}(F:Fo ns rs os):(C9 rs s l h cK os).length<=Ur rs h:=by
 unfold C9 Ur;rw[af];refine aN FI.2 ?_;rw[af];exact Gr.lA (tK fW (F.ri.imp λh=>bH h)) λx a=>aT.mpr ⟨bB.mpr (F.lt x (aT.mp a).1),(aT.mp a).2⟩
theorem acH{os:List Nat}(F:Fo ns rs os){s:NS}(g:s.aE.getD x 0<ns.length):Ph ns.length rs (nW rs s x to os)<=Ph ns.length rs s+2*rs.length:=by
 unfold nW;obtain⟨f,e⟩:=FL (rs:=rs) (os:=os) (h:=s.aE.getD x 0) (cK:=none) (s:=k8 s x to) (i:=s.ls.length) (l:={gk s x to with aF:=[.post (s.aE.getD x 0)]}) pL;rw[e];have c:=aaD (s:=k8 s x to) (l:={gk s x to with aF:=[.post (s.aE.getD x 0)]}) (h:=s.aE.getD x 0) (cK:=none) F;generalize C9 rs (k8 s x to) _ _ _ os=gs at c;have b:∀a,(k8 s x to).ls.set s.ls.length a=s.ls++[a]:=λa=>by
  show (s.ls++[_]).set s.ls.length a=_;rw[nX _ _ (az _),eV];rfl
 unfold Ph;rw[b];show (s.cps++_).length+((s.ls++[_]).map _).sum<=_;rw[aB,af,aK,List.sum_append];show s.cps.length+gs.length+(_+(vZ ns.length rs (jS [] (s.aE.getD x 0))+0))<=_;have k:=NP (rs:=rs) (d:=[]) g (-_);have j:vZ ns.length rs []<=2*rs.length:=by
  unfold vZ;rw[List.filter_eq_self.mpr (-_)];exact acG
 lia
theorem V0{os:List Nat}(F:Fo ns rs os){s:NS}{a:Nat}(e:s.cps[a]?=some cp)(hl:s.ls[cp.l]?=some l)(k:cp.h<ns.length):Ph ns.length rs (gZ rs s a cp l os ts)+1<=Ph ns.length rs s:=by
 have v:=(ai.mp hl).1;have g:=(ai.mp e).1;have w:(s.cps.eraseIdx a).length+1=s.cps.length:=by
  rw[List.length_eraseIdx,aq g];lia
 have n:∀b,((i8 s a cp l b).ls.map λl=>vZ ns.length rs l.done).sum=(s.ls.map λl=>vZ ns.length rs l.done).sum:=λb=>by
  have:=sum_set (f:=λl:LS=>vZ ns.length rs l.done) {l with aF:=l.aF++[gU l cp b]} hl
  show ((s.ls.set cp.l _).map _).sum=_;simp only at this;lia
 unfold gZ;split
 ·rename_i i
  have c:cp.h∉l.done:=λz=>by
   unfold comes at i;rw[RS rfl,eH z] at i;simp at i
  obtain⟨u,q⟩:=FL (rs:=rs) (os:=os) (h:=cp.h) (cK:=some cp.r) (rA (a:=a) (os:=os) (ts:=ts) hl);rw[q];have m:=aaD (s:=ck s a cp l os ts) (l:={l with aF:=l.aF++[gU l cp os]}) (h:=cp.h) (cK:=some cp.r) F;generalize C9 rs (ck s a cp l os ts) _ _ _ os=gs at m;have j:(ck s a cp l os ts).cps=s.cps.eraseIdx a:=by unfold ck;split <;> rfl
  have o:(ck s a cp l os ts).ls=s.ls.set cp.l {l with aF:=l.aF++[gU l cp os]}:=by unfold ck;split <;> rfl
  unfold Ph
  try dsimp only
  rw[j,o,sD,aB,af];have x:=NP (rs:=rs) (d:=l.done) k c;have t:=λy=>sum_set (f:=λl:LS=>vZ ns.length rs l.done) y hl;have p:=t {l with done:=jS l.done cp.h,aF:=l.aF++[gU l cp os]++((k7 (ck s a cp l os ts) {l with aF:=l.aF++[gU l cp os]} cp.h).map (cV.hand cp.h)++gs.map λr=>.send cp.h r (jq (ck s a cp l os ts).ws r (j5 {l with aF:=l.aF++[gU l cp os]})))};dsimp only at p;lia
 ·unfold Ph
  rw[n];show (s.cps.eraseIdx a).length+_+1<=_;lia
end
section
variable{P:Program}{w:World}{K:ah}{mg:Str->Option Value}{base:Heap}
theorem aaE{e:Int}{g:Nat}(f:1<=e)(h:e<=7)(d:g<3):decide (V.int (Builtin.bitAnd (e/2^g) 1)=V.int 1)=vD e g:=by
 obtain⟨k,rfl⟩:∃k:Nat,e=(k:Int):=⟨e.toNat,∅⟩;have c:∀a:Fin 8,∀b:Fin 3,decide (V.int (Builtin.bitAnd (((a:Nat):Int)/2^(b:Nat)) 1)=V.int 1)=vD ((a:Nat):Int) b:=!_
 exact c ⟨k,∅⟩ ⟨g,d⟩
theorem aaF(b:List Bool):Ge (.bl true) (b.map V.bl)=b.any id:=by
 unfold Ge;induction b with
 |nil=>rfl
 |cons e c a =>
  rw[bG,pR,pR,a];cases e <;> rfl
theorem aaG(b:List Bool):(b.map V.bl).all zV=true:=by
 rw[yF];intro x a;obtain⟨e,_,rfl⟩:=aL.mp a;rfl
inductive V1(K:ah)(vs:List V)(H:Hp)(Q:VK)(E:XK):Prop
 |mk (b0 ls:Addr) (rs:List R5) (lB:List Addr) (bs:List (List Bool)) (g:Nat):vs=[.ref b0,.ref ls,.int g]->JP K H b0 rs->mu H ls lB bs->bs.length=rs.length->rs.length<=20->(∀r∈rs,1<=r.e/\r.e<=7)->g<3->(∀l H',aG H H'->H l=none->H' l=some (.lst (bF (pZ rs (bs.map stand) g rs.length)))->Q (.ref l) H')->V1 K vs H Q E
theorem XO(T:Txt K mg t):cH P w K mg base iS 1 t.A3 t.E3 ["_law_ropes_here","_law_stood","_law_group"]  (V1 K):=by
 refine T.QY.F.jK M7 λH Q E W h=>?_
 ·obtain⟨L,M,rs,r,c,g,rfl,⟨d,o,I⟩,u,D,Y,l,R,k⟩:=h
  have A:d.length=rs.length:=by rw[I.len,af]
  refine⟨_,(oR (gO (kO M7 ["_law_k","_law_group","_law_ropes_here","_law_stood"] [none,some 2,some 0,some 1]) rfl (fz rfl T.ig (gE (lS T.fK (pv 0)))) (λ_ _ _ _=>by exact (gS 0 OQ)) (λ_ _ _ _=>by exact (ly (PW.pt (Ar (i7 (tR K rfl) Ep (yL K (pv 3) (pv 0)) (by with_unfolding_all rfl)) (yG (qT i6 (aY YJ (aY aeF (yT K (yL K (pv 2) (pv 0)) aA) (pv 1)) aA) aA)))))) (λ_ _ _ _=>by exact (pv 0)))),?_⟩
  left
  refine⟨_,rfl,L,_,rfl,.inl (bN.of o),_,rfl,(by show -(2^62)<=(((d.map V.ref).length:Nat):Int);lia),(by show (((d.map V.ref).length:Nat):Int)<2^62;rw[af];lia),λB a=>?_⟩;refine gf (n:=((((d.map V.ref).length:Nat):Int)).toNat) (λi z _=>z=bF (pZ rs (c.map stand) g i)) a AD qR rfl ?_ ?_
  ·rintro i z J q b m rfl x X ⟨rfl,rfl⟩
   have y:i<(d.map V.ref).length:=by simpa using q
   have f:i<rs.length:=by rw[af] at y;lia
   have G:rs[i]?=some rs[i]:=aa f;have j:c[i]?=some c[i]:=aa ∅;have S:=u.len;have p:r[i]?=some r[i]:=aa ∅;have O:(bF (pZ rs (c.map stand) g i)).length<sizeLine:=by rw[af];exact b4 (by have:=JE rs (c.map stand) g i;lia)
   have s:isLive rs (c.map stand) g i=((!(stand c[i]).isEmpty)&&vD (rs[i]).e g):=by unfold isLive;rw[G,ak,j];rfl
   have N:(d.map V.ref)[i]?=some (V.ref (d[i]'∅)):=by rw[ak,aa];rfl
   have C:=I.at' i (d[i]'∅) (rs[i]).vs (aa _) (by rw[ak,G];rfl);refine⟨_,rfl,_,rfl,M,_,_,V.ref r[i],rfl,rfl,bN.of (b _ _ u.at_),(by rw[dw];exact c5 (by rw[ak,p];rfl)),r[i],_,rfl,.inl (bN.of (b _ _ (u.it i _ _ p j))),rfl,aaG _,_,rfl,?_⟩
   try dsimp only
   rw[b3 aI,aaF,WW];cases v:stand c[i] with
   |nil =>
    refine dh (gp q b m ?_);rw[nQ,s,v];simp
   |cons U Z =>
    refine dZ ?_;refine⟨_,rfl,_,rfl,L,_,_,_,rfl,rfl,bN.of (b _ _ o),(by rw[dw];exact c5 N),_,_,_,_,rfl,rfl,b.cz C,rfl,_,rfl,_,_,rfl,rfl,(by show (0:Int)<=(g:Nat);lia),_,_,rfl,rfl,rfl,_,rfl,?_⟩
    try dsimp only
    rw[cO,aaE (l _ (aH f)).1 (l _ (aH f)).2 R];cases D:vD rs[i].e g with
    |true =>
     refine dZ ⟨_,rfl,dY a q b m O ?_⟩;rw[nQ,s,v,D,dw];exact (iC _ _).symm
    |false =>
     refine dh (gp q b m ?_);rw[nQ,s,v,D];simp
  ·rintro z J b m rfl
   exact k B J b a (by rw[m,cO,af,A])
end
section
structure SD(ns:List Int)(rs:List R5)(bs:List (List Bool))(cl:List (Nat×Nat))(D:Nat)(s:NS):Prop where
 ok:Cv ns rs s
 bd:Bd ns.length rs.length D s
 ws:s.ws=bs.map stand
 fit:Bl rs bs
 hm:s.aE=cl.map (·.1)
 gr:s.groups=cl.map (·.2)
variable{ns:List Int}{rs:List R5}{bs:List (List Bool)}{cl:List (Nat×Nat)}{D:Nat}{s:NS}
theorem SD.mono{a:Nat}(h:SD ns rs bs cl D s)(e:D<=a):SD ns rs bs cl a s:=⟨h.ok,h.bd.mono e,h.ws,h.fit,h.hm,h.gr⟩
theorem acI(b:Bd n m D s):Bd n m D (Aj s g):=by
 refine⟨b.gl,b.vq,b.g3,b.hm,b.hl,b.hb,by show (s.ls.map _).length<=D;rw[af];exact b.ll,λl z=>?_,b.cb,λc z=>by show c.l<(s.ls.map _).length/\_;rw[af];exact b.cl c z,λa=>?_⟩
 ·obtain⟨d,e,rfl⟩:=aL.mp z
  unfold vt;split
  ·exact b.lb d e
  ·exact b.lb d e
 ·show 50*(gH s.ts g [] a).length<=D/\fF (gH s.ts g [] a)
  by_cases z:a=g
  ·subst z
   rw[cQ];exact⟨aX _,jY⟩
  ·rw[e9 z]
   exact b.tb a
theorem SD.news(h:SD ns rs bs cl D s)(g:Nat):SD ns rs bs cl D (Aj s g):=⟨⟨h.ok.wl,h.ok.w4,h.ok.fit⟩,acI h.bd,h.ws,h.fit,h.hm,h.gr⟩
theorem SD.k6(h:SD ns rs bs cl D s)(e:Int):∀m,SD ns rs bs cl D (k6 s e m)
 |0=>h
 |m+1=>by
  rw[jE];split
  ·exact (h.k6 e m).news m
  ·exact h.k6 e m
theorem SD.call(h:SD ns rs bs cl D s)(c:Dn ns.length rs.length d):SD ns rs bs cl D (vh s g x d):=by
 unfold vh;split
 ·exact h
 ·refine SD.news (s:={s with R:=gH s.R g (RM.upd (s.R g) x d)}) ⟨⟨h.ok.wl,h.ok.w4,λk a=>?_⟩,⟨h.bd.gl,h.bd.vq,h.bd.g3,h.bd.hm,h.bd.hl,h.bd.hb,h.bd.ll,h.bd.lb,h.bd.cb,h.bd.cl,h.bd.tb⟩,h.ws,h.fit,h.hm,h.gr⟩ g
  show wB _ _ (gH s.R g (RM.upd (s.R g) x d) k);by_cases z:k=g
  ·subst z
   rw[cQ];intro i b;unfold RM.upd;split
   ·exact c
   ·exact h.ok.fit k a i b
  ·rw[e9 z]
   exact h.ok.fit k a
theorem SD.move{x y:Nat}(h:SD ns rs bs cl D s)(a:x<cl.length)(f:y<ns.length):SD ns rs bs (cl.set x (y,cl[x].2)) D (BU s x y):=by
 have g:x<s.aE.length:=by rw[h.hm,af];exact a
 have c:(cl.set x (y,cl[x].2)).map (·.2)=cl.map (·.2):=by
  rw[jG];refine xZ ?_;rw[ak,aa a];rfl
 unfold BU;split
 ·rename_i e
  refine⟨h.ok,h.bd,h.ws,h.fit,?_,by rw[c];exact h.gr⟩;rw[jG,<- h.hm];exact (xZ e).symm
 ·refine SD.news (s:={s with aE:=s.aE.set x y}) ⟨⟨h.ok.wl,h.ok.w4,h.ok.fit⟩,?_,h.ws,h.fit,by show s.aE.set x y=_;rw[jG,<- h.hm],by rw[c];exact h.gr⟩ _
  have b:=h.bd;refine⟨by show s.groups.length=(s.aE.set x y).length;rw[bg];exact b.gl,by show (s.aE.set x y).length<=20;rw[bg];exact b.vq,b.g3,λz d=>?_,by show s.had.length=(s.aE.set x y).length;rw[bg];exact b.hl,b.hb,b.ll,b.lb,b.cb,b.cl,b.tb⟩;rcases jZ d with w|rfl
  ·exact b.hm z w
  ·exact f
theorem RW{P Q:LS->Prop}{d:cV}(h:∀l∈s.ls,P l)(c:∀l,P l->Q l)(f:∀l,P l->Q {l with aF:=l.aF++[d]}):∀l∈(dQ s i d).ls,Q l:=by
 intro l a;unfold dQ at a;cases e:s.ls[i]? with
 |none=>rw[e] at a;exact c l (h l a)
 |some b =>
  rw[e] at a;rcases jZ a with z|rfl
  ·exact c l (h l z)
  ·exact f b (h b (aC e))
theorem Us:(dQ s i d).ws=s.ws/\(dQ s i d).R=s.R/\(dQ s i d).ts=s.ts/\(dQ s i d).aE=s.aE/\(dQ s i d).groups=s.groups/\(dQ s i d).had=s.had:=by
 unfold dQ;cases s.ls[i]? <;> exact⟨rfl,rfl,rfl,rfl,rfl,rfl⟩
theorem Lp{i x:Nat}:∀m,m<=s.cps.length->(jJ s i x m).ws=s.ws/\(jJ s i x m).R=s.R/\(jJ s i x m).ts=s.ts/\(jJ s i x m).aE=s.aE/\(jJ s i x m).groups=s.groups/\(jJ s i x m).had=s.had
 |0,_=>by rw[yO];exact⟨rfl,rfl,rfl,rfl,rfl,rfl⟩
 |m+1,k=>by
  have a:=Lp (i:=i) (x:=x) m ∅;rw[yP ∅];unfold pV;split
  ·obtain⟨c,b,f,e,j,g⟩:=Us (s:=jJ s i x m) (i:=(s.cps[m]).l) (d:=.LZ (s.cps[m]).h i)
   exact⟨c.trans a.1,b.trans a.2.1,f.trans a.2.2.1,e.trans a.2.2.2.1,j.trans a.2.2.2.2.1,g.trans a.2.2.2.2.2⟩
  ·exact a
theorem RX{i x:Nat}(h:∀l∈s.ls,l.aF.length+s.cps.length<=D/\l.done.length<=D/\l.grp<3/\(l.kd=1∨l.kd=2)):∀m,m<=s.cps.length->∀l∈(jJ s i x m).ls,l.aF.length+((s.cps.take m).filter λc=>!g4 i x c).length+s.cps.length<=D+m/\l.done.length<=D/\l.grp<3/\(l.kd=1∨l.kd=2)
 |0,_=>by rw[yO];exact h
 |m+1,j=>by
  have d:=RX (i:=i) (x:=x) h m ∅;have b:m<s.cps.length:=∅
  rw[yP b,M4 (f:=λc:Cp=>!g4 i x c) b,aB];unfold pV;cases e:g4 i x s.cps[m]
  ·rw[b3 (!_),aq (!_)]
   intro l a;obtain⟨k,g⟩:=d l a;exact⟨by show l.aF.length+(_+1)+_<=_;lia,g⟩
  ·rw[aq rfl,b3 (!_)]
   refine RW d (λl a=>⟨by have:=a.1;show l.aF.length+(_+0)+_<=_;lia,a.2⟩) (λl a=>⟨?_,a.2⟩)
   have:=a.1
   show (l.aF++[_]).length+(_+0)+_<=_;rw[aB];show l.aF.length+1+(_+0)+_<=_;lia
theorem SD.lose(h:SD ns rs bs cl D s)(i x:Nat):SD ns rs bs cl D (pW s i x):=by
 obtain⟨e,k,j,a,d,f⟩:=Lp (s:=s) (i:=i) (x:=x) s.cps.length (az _);have lb:=RX (i:=i) (x:=x) h.bd.lb s.cps.length (az _);have ll:=M3 (s:=s) (i:=i) (x:=x) (m:=s.cps.length);rw[gJ] at lb;unfold pW;generalize jJ s i x s.cps.length=s2 at e k j a d f lb ll;have b:=h.bd;refine⟨⟨e▸h.ok.wl,e▸h.ok.w4,k▸h.ok.fit⟩,⟨?_,?_,?_,?_,?_,?_,?_,λl hl=>?_,?_,λc o=>?_,?_⟩,e.trans h.ws,h.fit,a.trans h.hm,d.trans h.gr⟩
 ·show s2.groups.length=s2.aE.length;rw[a,d];exact b.gl
 ·show s2.aE.length<=20;rw[a];exact b.vq
 ·show ∀g∈s2.groups,g<3;rw[d];exact b.g3
 ·show ∀h∈s2.aE,h<ns.length;rw[a];exact b.hm
 ·show s2.had.length=s2.aE.length;rw[a,f];exact b.hl
 ·show ∀w∈s2.had,w.length<=D;rw[f];exact b.hb
 ·show s2.ls.length<=D;rw[ll];exact b.ll
 ·obtain⟨p,n⟩:=lb l hl
  exact⟨by show l.aF.length+(s.cps.filter λc=>!g4 i x c).length<=D;lia,n⟩
 ·exact aN (bx _ _) b.cb
 ·show c.l<s2.ls.length/\_
  rw[ll];exact b.cl c (aT.mp o).1
 ·show ∀g,50*(s2.ts g).length<=D/\fF (s2.ts g);rw[j];exact b.tb
theorem SD.gX{i:Nat}(o:cN ns rs)(h:SD ns rs bs cl D s)(hb:bs[i]?=some b):SD ns rs (bs.set i (b.set x v)) cl D {s with ws:=s.ws.set i (stand (b.set x v))}:=by
 have f:=h.fit.set hb (k:=x) (x:=v);have g:s.ws.set i (stand (b.set x v))=(bs.set i (b.set x v)).map stand:=by rw[h.ws,jG]
 refine⟨⟨by show (s.ws.set i _).length=_;rw[bg];exact h.ok.wl,λu c=>?_,h.ok.fit⟩,⟨h.bd.gl,h.bd.vq,h.bd.g3,h.bd.hm,h.bd.hl,h.bd.hb,h.bd.ll,h.bd.lb,h.bd.cb,h.bd.cl,h.bd.tb⟩,g,f,h.hm,h.gr⟩;have c:u∈s.ws.set i (stand (b.set x v)):=c;rw[g] at c;obtain⟨m,d,rfl⟩:=aL.mp c;obtain⟨j,l,e⟩:=lK d;have a:j<rs.length:=by rw[<- f.1];exact l
 have:=f.2 j _ _ (aa a) (aa l)
 have n:=(o.ok _ (aH a)).d4
 have:=WR m
 rw[e] at *;lia
theorem SD.Ut{i:Nat}(o:cN ns rs)(h:SD ns rs bs cl D s)(c:bs[i]?=some b)(e:Int):SD ns rs (bs.set i (b.set x false)) cl D (BS s i x (stand b) e):=by
 have a:=(h.gX (x:=x) (v:=false) o c).lose i x;unfold BS;rw[Tc];split
 ·exact a.k6 e 3
 ·exact a
theorem SD.lay{i:Nat}(o:cN ns rs)(h:SD ns rs bs cl D s)(c:bs[i]?=some b)(e:Int):SD ns rs (bs.set i (b.set x true)) cl D (Lm s i (stand b) (stand (b.set x true)) e):=by
 have a:=h.gX (x:=x) (v:=true) o c;unfold Lm;split
 ·exact a.k6 e 3
 ·exact a
theorem PJ{i:Nat}{os:List Nat}(hl:s.ls[i]?=some l):(XG rs s i h l cK os).ws=s.ws/\(XG rs s i h l cK os).R=s.R/\(XG rs s i h l cK os).aE=s.aE/\(XG rs s i h l cK os).groups=s.groups:=by
 have f:=afW (rs:=rs) (h:=h) (cK:=cK) (os:=os) hl;exact⟨f.ws,f.R,f.aE,f.groups⟩
theorem SD.post{x:Nat}{os:List Nat}(o:cN ns rs)(h:SD ns rs bs cl D s)(e:x<s.aE.length)(O:fk (ju ns rs o s.ws (s.groups.getD x 0)) (s.R (s.groups.getD x 0)) os)(a:os.length<=12):SD ns rs bs cl (D+100) (nW rs s x to os):=by
 obtain⟨b,f,d,j⟩:=PJ (rs:=rs) (h:=s.aE.getD x 0) (cK:=none) (os:=os) (s:=k8 s x to) (i:=s.ls.length) (l:={gk s x to with aF:=[.post (s.aE.getD x 0)]}) pL;have g:=ad0 o (h:=s.aE.getD x 0) (cK:=none) (VS (to:=to) h.bd e) pL O a;exact⟨⟨(ff wk b).trans h.ok.wl,λw c=>h.ok.w4 w (by rw[show (nW rs s x to os).ws=s.ws from b] at c;exact c),by rw[show (nW rs s x to os).R=s.R from f];exact h.ok.fit⟩,g.mono ∅,b.trans h.ws,h.fit,d.trans h.hm,j.trans h.gr⟩
theorem SD.pass{a:Nat}{cp:Cp}{os:List Nat}{ts:List T3}(o:cN ns rs)(h:SD ns rs bs cl D s)(hl:s.ls[cp.l]?=some l)(n:a<s.cps.length)(O:fk (ju ns rs o s.ws l.grp) (s.R l.grp) os)(i:os.length<=12)(p:ts.Perm (put3 (s.ts l.grp) h' c r))(t:fF ts):SD ns rs bs cl (D+100) (gZ rs s a cp l os ts):=by
 have q:=acy o (a:=a) (cp:=cp) h.bd hl n O i p t;have e:(gZ rs s a cp l os ts).ws=s.ws/\(gZ rs s a cp l os ts).R=s.R/\(gZ rs s a cp l os ts).aE=s.aE/\(gZ rs s a cp l os ts).groups=s.groups:=by
  unfold gZ;split
  ·obtain⟨k,v,u,m⟩:=BW (s:=s) (a:=a) (cp:=cp) (l:=l) (os:=os) (ts:=ts)
   obtain⟨b,f,d,g⟩:=PJ (rs:=rs) (h:=cp.h) (cK:=some cp.r) (os:=os) (rA (a:=a) (os:=os) (ts:=ts) hl);exact⟨b.trans k,f.trans v,d.trans u,g.trans m⟩
  ·exact⟨rfl,rfl,rfl,rfl⟩
 obtain⟨b,f,d,g⟩:=e;exact⟨⟨(ff wk b).trans h.ok.wl,λw j=>h.ok.w4 w (by rw[b] at j;exact j),by rw[f];exact h.ok.fit⟩,q,b.trans h.ws,h.fit,d.trans h.hm,g.trans h.gr⟩
end
section
variable{ns:List Int}{rs:List R5}{os:List Nat}{s s':NS}{g:Nat}
def Led(rs:List R5)(os:List Nat)(s:NS)(g h c r:Nat):Prop:=r∈os/\isAt rs (h:Int) r=true/\s.groups[c]?=some g/\Rw rs os r (fj rs r h) (s.aE.getD c 0)
structure FO(rs:List R5)(os:List Nat)(g:Nat)(s:NS):Prop where
 nt:∀t∈s.ts g,∃h c r:Nat,t=((h:Int),(c:Int),(r:Int))/\Led rs os s g h c r
 cp:∀c∈s.cps,∀l,s.ls[c.l]?=some l->l.grp=g->l.old=false->Led rs os s g c.h l.s c.r
def g5(s:NS):Prop:=∀l∈s.ls,s.groups[l.s]?=some l.grp
structure Ld(o:cN ns rs)(s:NS):Prop where
 sd:g5 s
 ld:∀g,g<3->∀os,fk (ju ns rs o s.ws g) (s.R g) os->FO rs os g s
theorem Led.of(a:Led rs os s g h c r)(b:s'.groups=s.groups)(d:∀c,s.groups[c]?=some g->s'.aE.getD c 0=s.aE.getD c 0):Led rs os s' g h c r:=⟨a.1,a.2.1,by rw[b];exact a.2.2.1,by rw[d c a.2.2.1];exact a.2.2.2⟩
theorem FO.of(a:FO rs os g s)(o:∀t∈s'.ts g,t∈s.ts g)(d:s'.groups=s.groups)(f:∀c,s.groups[c]?=some g->s'.aE.getD c 0=s.aE.getD c 0)(w:∀c∈s'.cps,∀b,s'.ls[c.l]?=some b->b.grp=g->b.old=false->c∈s.cps/\∃l,s.ls[c.l]?=some l/\l.s=b.s/\l.grp=g/\l.old=false):FO rs os g s':=by
 refine⟨λt h=>?_,λc h b u p n=>?_⟩
 ·obtain⟨h,c,r,e,q⟩:=a.nt t (o t h)
  exact⟨h,c,r,e,q.of d f⟩
 ·obtain⟨j,l,i,k,v,m⟩:=w c h b u p n
  have:=(a.cp c j l i v m).of d f
  rw[k] at this;exact this
theorem Uu(h:g5 s)(f:s'.groups=s.groups)(hl:∀a∈s'.ls,∃l∈s.ls,a.s=l.s/\a.grp=l.grp):g5 s':=λa c=>by
 obtain⟨l,e,d,b⟩:=hl a c;rw[f,d,b];exact h l e
theorem aaH:(vt k l).s=l.s/\(vt k l).grp=l.grp:=by unfold vt;split <;> exact⟨rfl,rfl⟩
theorem news_at{i:Nat}(h:(Aj s k).ls[i]?=some l'):∃l,s.ls[i]?=some l/\l'=vt k l:=by
 have h:(s.ls.map (vt k))[i]?=some l':=h;rw[ak] at h;cases e:s.ls[i]? with
 |none=>rw[e] at h;cases h
 |some l=>rw[e] at h;exact⟨l,rfl,(aJ h).symm⟩
theorem Lq(h:g5 s)(k:Nat):g5 (Aj s k):=Uu h rfl λc a=>by
 obtain⟨l,b,rfl⟩:=aL.mp a;exact⟨l,b,aaH⟩
theorem Cs(h:g5 s)(e:Int):∀m,g5 (k6 s e m)
 |0=>h
 |m+1=>by
  rw[jE];split
  ·exact Lq (Cs h e m) m
  ·exact Cs h e m
theorem FO.V2:FO rs os g (Aj s g):=by
 refine⟨λt h=>?_,λc _ e d a b=>?_⟩
 ·have h:t∈gH s.ts g [] g:=h
  rw[cQ] at h;cases h
 ·exfalso
  obtain⟨l,f,rfl⟩:=news_at d;unfold vt at a b;split at b
  ·cases b
  ·rename_i z
   rw[b3 z] at a;exact z a
theorem FO.news(a:FO rs os g s)(k:Nat):FO rs os g (Aj s k):=by
 by_cases z:g=k
 ·subst z
  exact FO.V2
 ·refine a.of (λt h=>?_) rfl (λ_ _=>rfl) λc h m i d b=>?_
  ·have h:t∈gH s.ts k [] g:=h
   rw[e9 z] at h;exact h
  ·obtain⟨l,j,rfl⟩:=news_at i
   have e:=aaH (l:=l) (k:=k);have f:¬l.grp=k:=λq=>z (by rw[<- d,e.2,q]);unfold vt at b;rw[b3 f] at b;exact⟨h,l,j,e.1.symm,e.2▸d,b⟩
theorem FO.nwR(a:FO rs os g s)(e:Int):∀m,FO rs os g (k6 s e m)
 |0=>a
 |m+1=>by
  rw[jE];split
  ·exact (a.nwR e m).news m
  ·exact a.nwR e m
theorem FO.af9{e:Int}(hl:vD e g=true):∀m,g<m->FO rs os g (k6 s e m)
 |0,h=>cy h (ko _)
 |m+1,h=>by
  rw[jE];by_cases z:g=m
  ·subst z
   rw[aq hl];exact FO.V2
  ·have a:=FO.af9 hl m ∅
   split
   ·exact a.news m
   ·exact a
theorem Lr{e:Int}:∀m:Nat,(k6 s e m).ws=s.ws/\(k6 s e m).R=s.R
 |0=>⟨rfl,rfl⟩
 |m+1=>by
  have a:=Lr (e:=e) m;rw[jE];split <;> exact a
theorem Ld.call{o:cN ns rs}{x:Nat}{d:RM.Row}(h:Ld o s):Ld o (vh s g x d):=by
 unfold vh;split
 ·exact h
 ·refine⟨Lq (s:={s with R:=gH s.R g (RM.upd (s.R g) x d)}) h.sd g,λk a os O=>?_⟩
  by_cases z:k=g
  ·subst z
   exact FO.V2
  ·have O:fk (ju ns rs o s.ws k) (gH s.R g (RM.upd (s.R g) x d) k) os:=O
   rw[e9 z] at O;exact FO.news (s:={s with R:=gH s.R g (RM.upd (s.R g) x d)}) ((h.ld k a os O).of (λt h=>h) rfl (λ_ _=>rfl) λc h f i e b=>⟨h,f,i,rfl,e,b⟩) g
theorem Ld.move{x:Nat}(h:Ld o s)(j:x<s.groups.length):Ld o (BU s x y):=by
 unfold BU;split
 ·exact h
 ·refine⟨Lq (s:={s with aE:=s.aE.set x y}) h.sd _,λk a os O=>?_⟩
  by_cases z:k=s.groups.getD x 0
  ·subst z
   exact FO.V2
  ·refine FO.news (s:={s with aE:=s.aE.set x y}) ((h.ld k a os O).of (λt h=>h) rfl (λc i=>?_) λc h e f d b=>⟨h,e,f,rfl,d,b⟩) _
   show (s.aE.set x y).getD c 0=s.aE.getD c 0;have g:x≠c:=λq=>by
    subst q;rw[ao,i] at z;exact z rfl
   rw[ao,ao,bZ,b3 g]
theorem RY{i:Nat}(a:rs[i]?=some r)(b:vD r.e g=false):tY rs (s.ws.set i w) g=tY rs s.ws g:=by
 unfold tY pZ;refine List.filter_congr λk c=>?_;unfold isLive;by_cases e:i=k
 ·subst e
  rw[a];cases f:(s.ws.set i w)[i]? <;> cases d:s.ws[i]? <;> simp[b]
 ·rw[bZ,b3 e]
theorem RZ{i:Nat}{f:List Nat}(h:s.ws[i]?=some w)(j:w≠[])(l:f≠[]):tY rs (s.ws.set i f) g=tY rs s.ws g:=by
 unfold tY pZ;refine List.filter_congr λk m=>?_;unfold isLive;by_cases e:i=k
 ·subst e
  rw[bZ,aq rfl,aq (ai.mp h).1,h];cases rs[i]? with
  |none=>rfl
  |some r =>
   cases w with
   |nil=>exact cy rfl j
   |cons a b =>
    cases f with
    |nil=>exact cy rfl l
    |cons c d=>rfl
 ·rw[bZ,b3 e]
theorem zS(e:tY rs ws' g=tY rs ws g)(O:fk (ju ns rs o ws' g) R os):fk (ju ns rs o ws g) R os:=by
 have:ju ns rs o ws' g=ju ns rs o ws g:=by
  unfold ju;congr 1
 rw[<- this];exact O
theorem V3{k:Nat}(h:(pW s i x).ls[k]?=some b):∃l,s.ls[k]?=some l/\b.s=l.s/\b.grp=l.grp/\b.old=l.old:=by
 have m:∀(cs:List Cp) (d:NS) (b:LS),(cs.foldl (pV i x) d).ls[k]?=some b->∃l,d.ls[k]?=some l/\b.s=l.s/\b.grp=l.grp/\b.old=l.old:=λcs=>by
  induction cs with
  |nil=>exact λd b h=>⟨b,h,rfl,rfl,rfl⟩
  |cons c cs o =>
   intro d b h;obtain⟨e,a,j,g,f⟩:=o (pV i x d c) b h;unfold pV at a;split at a
   ·unfold dQ at a
    cases q:d.ls[c.l]? with
    |none=>rw[q] at a;exact⟨e,a,j,g,f⟩
    |some n =>
     rw[q] at a;have a:(d.ls.set c.l _)[k]?=some e:=a;rw[fZ (ai.mp q).1] at a;by_cases z:k=c.l
     ·rw[aq z] at a
      cases a;exact⟨n,by rw[z];exact q,j,g,f⟩
     ·rw[b3 z] at a
      exact⟨e,a,j,g,f⟩
   ·exact⟨e,a,j,g,f⟩
 exact m s.cps s b (by rw[<- gJ (l:=s.cps)];exact h)
theorem Hg:(pW s i x).ws=s.ws/\(pW s i x).R=s.R/\(pW s i x).ts=s.ts/\(pW s i x).aE=s.aE/\(pW s i x).groups=s.groups:=by
 obtain⟨c,a,d,e,b,_⟩:=Lp (s:=s) (i:=i) (x:=x) s.cps.length (az _);exact⟨c,a,d,e,b⟩
theorem FO.lose(a:FO rs os g s):FO rs os g (pW s i x):=by
 obtain⟨_,_,j,o,k⟩:=Hg (s:=s) (i:=i) (x:=x);refine a.of (λt h=>by rw[j] at h;exact h) k (λ_ _=>by rw[o]) λc h q n m f=>?_;obtain⟨l,d,b,e,p⟩:=V3 n;exact⟨(aT.mp h).1,l,d,b.symm,e▸m,p▸f⟩
theorem R0(h:g5 s):g5 (pW s i x):=Uu h (Hg (s:=s) (i:=i) (x:=x)).2.2.2.2 λf b=>by
 obtain⟨k,a⟩:=cE b;obtain⟨l,c,d,e,_⟩:=V3 a;exact⟨l,aC c,d,e⟩
theorem FO.ws(a:FO rs os g s)(ws:List (List Nat)):FO rs os g {s with ws:=ws}:=a.of (λt h=>h) rfl (λ_ _=>rfl) λc h d e b f=>⟨h,d,e,rfl,b,f⟩
theorem Ld.Ut{o:cN ns rs}{i x:Nat}{w:List Nat}{r:R5}(h:Ld o s)(d:rs[i]?=some r)(f:s.ws[i]?=some w):Ld o (BS s i x w r.e):=by
 have c:=Hg (s:={s with ws:=s.ws.set i (w.filter λz=>decide (z≠x))}) (i:=i) (x:=x);unfold BS;split
 ·obtain⟨j,k⟩:=Lr (s:=pW {s with ws:=s.ws.set i (w.filter λz=>decide (z≠x))} i x) (e:=r.e) 3
  refine⟨Cs (R0 (s:={s with ws:=s.ws.set i (w.filter λz=>decide (z≠x))}) h.sd) _ _,λg b os O=>?_⟩;rw[j,k,c.1,c.2.1] at O;cases q:vD r.e g with
  |true=>exact FO.af9 q 3 b
  |false=>exact ((((h.ld g b os (zS (RY d q) O)).ws _).lose).nwR _ _)
 ·rename_i l
  have a:(w.filter λz=>decide (z≠x))≠[]:=λz=>l (by rw[z];rfl);refine⟨R0 (s:={s with ws:=s.ws.set i (w.filter λz=>decide (z≠x))}) h.sd,λg b os O=>?_⟩;rw[c.1,c.2.1] at O;exact ((h.ld g b os (zS (RZ f (λz=>a (by rw[z];rfl)) a) O)).ws _).lose
theorem Ld.lay{o:cN ns rs}{i:Nat}{w a:List Nat}{r:R5}(h:Ld o s)(c:rs[i]?=some r)(l:s.ws[i]?=some w)(j:a≠[]):Ld o (Lm s i w a r.e):=by
 unfold Lm;split
 ·obtain⟨d,f⟩:=Lr (s:={s with ws:=s.ws.set i a}) (e:=r.e) 3
  refine⟨Cs (s:={s with ws:=s.ws.set i a}) h.sd _ _,λg b os O=>?_⟩;rw[d,f] at O;cases q:vD r.e g with
  |true=>exact FO.af9 q 3 b
  |false=>exact ((h.ld g b os (zS (RY c q) O)).ws _).nwR _ _
 ·rename_i k
  exact⟨h.sd,λg b os O=>(h.ld g b os (zS (RZ l (λz=>k (by rw[z];rfl)) j) O)).ws _⟩
end
section
variable{ns:List Int}{rs:List R5}{os:List Nat}{s:NS}{g:Nat}
theorem ad3:∀r∈C9 rs s l h cK os,r∈os/\isAt rs (h:Int) r=true/\some r≠cK:=λr d=>by
 unfold C9 at d;obtain⟨x,a,rfl⟩:=aL.mp d;have b:kJ (cK.map λk:Nat=>(k:Int)) x=true:=by
  unfold Xb at a;split at a
  ·exact (aT.mp a).2
  ·split at a
   ·cases a
   ·split at a
    ·split at a
     ·exact (aT.mp a).2
     ·exact (aT.mp a).2
    ·exact (aT.mp a).2
 obtain⟨k,c,rfl⟩:=aL.mp (FI.1 x a);rw[cO];refine⟨(aT.mp c).1,(aT.mp c).2,λz=>?_⟩;rw[<- z] at b;unfold kJ at b;rw[pS,decide_eq_false_iff_not] at b;exact b rfl
theorem Ld.post{x:Nat}(h:Ld o s)(M:x<s.aE.length)(E:x<s.groups.length)(m:∀c∈s.cps,c.l<s.ls.length)(D:fk (ju ns rs o s.ws (s.groups.getD x 0)) (s.R (s.groups.getD x 0)) os):Ld o (nW rs s x to os):=by
 have n:s.groups[x]?=some (s.groups.getD x 0):=by rw[ao,aa E];rfl
 unfold nW;generalize p:s.aE.getD x 0=f;obtain⟨K,G⟩:=FL (rs:=rs) (os:=os) (h:=f) (cK:=none) (s:=k8 s x to) (i:=s.ls.length) (l:={gk s x to with aF:=[.post f]}) (by show (s.ls++[_])[s.ls.length]?=_;rw[p];exact pL);rw[G];have q:=ad3 (rs:=rs) (os:=os) (s:=k8 s x to) (l:={gk s x to with aF:=[.post f]}) (h:=f) (cK:=none);generalize C9 rs (k8 s x to) {gk s x to with aF:=[.post f]} f none os=gs at q;have j:∀b,(k8 s x to).ls.set s.ls.length b=s.ls++[b]:=λb=>by
  show (s.ls++[_]).set s.ls.length b=_;rw[nX _ _ (az _),eV];rfl
 rw[j];refine⟨λb y=>?_,λk A g O=>?_⟩
 ·rcases aU.mp y with z|z
  ·exact h.sd b z
  ·rw[aS.mp z]
   exact n
 ·have a:=h.ld k A g O
  refine⟨λt I=>a.nt t I,λc L b d e C=>?_⟩;have d:(s.ls++[_])[c.l]?=some b:=d;rcases aU.mp L with z|z
  ·rw[bR (m c z)] at d
   exact a.cp c z b d e C
  ·obtain⟨r,v,rfl⟩:=aL.mp z
   rw[pL] at d;cases d;have e:s.groups.getD x 0=k:=e;subst e;have H:=D.uniq O;subst H;have F:=Fo.of O;obtain⟨u,w,_⟩:=q r v;obtain⟨J,B,_⟩:=F.back u w;refine⟨u,J,n,?_⟩;show Rw rs os r (fj rs r (fj rs r f)) (s.aE.getD x 0);rw[B,p];exact .refl
theorem Ld.pass{a:Nat}{ts:List T3}(h:Ld o s)(hcl:∀c∈s.cps,c.l<s.ls.length)(J:s.cps[a]?=some cp)(hl:s.ls[cp.l]?=some l)(hg:l.grp<3)(N:fk (ju ns rs o s.ws l.grp) (s.R l.grp) os)(pt:ts.Perm (put3 (s.ts l.grp) cp.h l.s cp.r)):Ld o (gZ rs s a cp l os ts):=by
 have K:=(ai.mp hl).1;have y:=aC J;have F:=Fo.of N;have m:∀(n:NS) (A:LS),A.s=l.s->A.grp=l.grp->A.old=l.old->n.ls=s.ls.set cp.l A->∀(i:Nat) d,n.ls[i]?=some d->∃e,s.ls[i]?=some e/\e.s=d.s/\e.grp=d.grp/\e.old=d.old:=λn A e1 e2 V G i d p=>by
  rw[G,fZ K] at p;by_cases z:i=cp.l
  ·rw[aq z] at p
   cases p;exact⟨l,by rw[z];exact hl,e1.symm,e2.symm,V.symm⟩
  ·rw[b3 z] at p
   exact⟨d,p,rfl,rfl,rfl⟩
 have x:∀n:NS,n.groups=s.groups->(∀(i:Nat) d,n.ls[i]?=some d->∃e,s.ls[i]?=some e/\e.s=d.s/\e.grp=d.grp/\e.old=d.old)->g5 n:=λn T st=>Uu h.sd T λd H=>by
  obtain⟨i,p⟩:=cE H;obtain⟨e,j,w,v,_⟩:=st i d p;exact⟨e,aC j,w.symm,v.symm⟩
 unfold gZ;split
 ·have le:=BW (s:=s) (a:=a) (cp:=cp) (l:=l) (os:=os) (ts:=ts)
  have ec:(ck s a cp l os ts).cps=s.cps.eraseIdx a:=by unfold ck;split <;> rfl
  have G:(ck s a cp l os ts).ls=s.ls.set cp.l {l with aF:=l.aF++[gU l cp os]}:=by unfold ck;split <;> rfl
  obtain⟨had,ed⟩:=FL (rs:=rs) (os:=os) (h:=cp.h) (cK:=some cp.r) (rA (a:=a) (os:=os) (ts:=ts) hl);rw[ed];have Q:=ad3 (rs:=rs) (os:=os) (s:=ck s a cp l os ts) (l:={l with aF:=l.aF++[gU l cp os]}) (h:=cp.h) (cK:=some cp.r);generalize C9 rs (ck s a cp l os ts) {l with aF:=l.aF++[gU l cp os]} cp.h (some cp.r) os=gs at Q;have st:=m {ck s a cp l os ts with had:=had,cps:=(ck s a cp l os ts).cps++gs.map λr=>(⟨cp.l,r,jq (ck s a cp l os ts).ws r (j5 {l with aF:=l.aF++[gU l cp os]}),fj rs r cp.h⟩:Cp),ls:=(ck s a cp l os ts).ls.set cp.l {l with done:=jS l.done cp.h,aF:=l.aF++[gU l cp os]++((k7 (ck s a cp l os ts) {l with aF:=l.aF++[gU l cp os]} cp.h).map (cV.hand cp.h)++gs.map λr=>.send cp.h r (jq (ck s a cp l os ts).ws r (j5 {l with aF:=l.aF++[gU l cp os]})))}} {l with done:=jS l.done cp.h,aF:=l.aF++[gU l cp os]++((k7 (ck s a cp l os ts) {l with aF:=l.aF++[gU l cp os]} cp.h).map (cV.hand cp.h)++gs.map λr=>.send cp.h r (jq (ck s a cp l os ts).ws r (j5 {l with aF:=l.aF++[gU l cp os]})))} rfl rfl rfl (by rw[G,sD]);refine⟨x _ le.2.2.2 st,λk L g O=>?_⟩;have O:fk (ju ns rs o (ck s a cp l os ts).ws k) ((ck s a cp l os ts).R k) g:=O;rw[le.1,le.2.1] at O;have b:=h.ld k L g O;have B:∀c,s.groups[c]?=some k->(ck s a cp l os ts).aE.getD c 0=s.aE.getD c 0:=λc _=>by rw[le.2.2.1]
  refine⟨λt f=>?_,λc u d I E D=>?_⟩
  ·have old:t∈s.ts k->∃h c r:Nat,t=((h:Int),(c:Int),(r:Int))/\Led rs g _ k h c r:=λz=>by
    obtain⟨H,U,S,e',q⟩:=b.nt t z;exact⟨H,U,S,e',q.of le.2.2.2 B⟩
   have f:t∈(ck s a cp l os ts).ts k:=f;unfold ck at f;split at f
   ·exact old f
   ·rename_i no
    have f:t∈gH s.ts l.grp ts k:=f;by_cases z:k=l.grp
    ·subst z
     rw[cQ] at f;have f:=pt.mem_iff.mp f;unfold put3 at f;rcases aU.mp f with w'|w'
     ·exact old (aT.mp w').1
     ·refine⟨cp.h,l.s,cp.r,aS.mp w',?_⟩
      exact (b.cp cp y l hl rfl (by simpa using no)).of le.2.2.2 B
    ·rw[e9 z] at f
     exact old f
  ·obtain⟨e,j,w,v,C⟩:=st c.l d I
   have u:c∈(ck s a cp l os ts).cps++_:=u;rw[ec] at u;rcases aU.mp u with z|z
   ·have:=(b.cp c (List.mem_of_mem_eraseIdx z) e j (v.trans E) (C.trans D)).of le.2.2.2 B
    rw[w] at this;exact this
   ·obtain⟨r,Z,rfl⟩:=aL.mp z
    have j:s.ls[cp.l]?=some e:=j;rw[hl] at j;cases j;have ek:l.grp=k:=v.trans E;subst ek;have eo:=N.uniq O;subst eo;have q:=b.cp cp y l hl rfl (C.trans D);obtain⟨P,M,Y⟩:=Q r Z;obtain⟨W,b2,_⟩:=F.back P M;have X:cp.r≠r:=λz=>Y (by rw[z]);have t1:=F.avoid q.1 q.2.1 M q.2.2.2;have t2:Rw rs os r cp.h (fj rs cp.r cp.h):=.step .refl q.1 X q.2.1;have q':Led rs os s l.grp (fj rs r cp.h) l.s r:=⟨P,W,q.2.2.1,by rw[b2];exact t2.trans t1⟩
    have:=q'.of le.2.2.2 B
    rw[w] at this;exact this
 ·have st:=m (i8 s a cp l os) {l with aF:=l.aF++[gU l cp os]} rfl rfl rfl rfl
  refine⟨x _ rfl st,λk L g O=>?_⟩;refine (h.ld k L g O).of (λt h=>h) rfl (λ_ _=>rfl) λc u d I E D=>?_;obtain⟨e,j,w,v,C⟩:=st c.l d I;exact⟨List.mem_of_mem_eraseIdx u,e,j,w,v.trans E,C.trans D⟩
theorem ajc:Ld o (S0 ns rs cl):=⟨λl h=>(by cases h),λg _ os _=>⟨λt h=>(by cases h),λc h=>(by cases h)⟩⟩
end
section
variable{ns:List Int}{rs:List R5}{s s':NS}{n:Nat}
def R3(s:NS):List (List Nat):=s.ls.map λl=>l.done
theorem acJ:R3 (dQ s i d)=R3 s:=by
 unfold dQ;cases e:s.ls[i]? with
 |none=>rfl
 |some l =>
  show (s.ls.set i _).map (λl=>l.done)=_;rw[jG];exact xZ (by rw[ak,e];rfl)
theorem FP:R3 (Aj s g)=R3 s:=by
 show (s.ls.map (vt g)).map (λl=>l.done)=s.ls.map λl=>l.done;rw[bV];refine cY λl _=>?_;show (vt g l).done=l.done;unfold vt;split <;> rfl
theorem BY{e:Int}:∀m,R3 (k6 s e m)=R3 s
 |0=>rfl
 |m+1=>by
  have a:=BY (e:=e) m;rw[jE];split
  ·rw[FP];exact a
  ·exact a
theorem V4:R3 (pW s i x)=R3 s:=by
 have b:∀(cs:List Cp) (a:NS),R3 (cs.foldl (pV i x) a)=R3 a:=λcs=>by
  induction cs with
  |nil=>exact λ_=>rfl
  |cons c cs d =>
   intro a;rw[jb,d];unfold pV;split
   ·exact acJ
   ·rfl
 exact b (s.cps.take s.cps.length) s
def Hh(n:Nat)(rs:List R5)(s:NS):Prop:=Ph n rs s<=2*rs.length*s.ls.length
theorem Hh.of(h:Hh n rs s)(d:s'.cps.length<=s.cps.length)(a:R3 s'=R3 s):Hh n rs s':=by
 have b:s'.ls.length=s.ls.length:=by
  have:=ff wk a
  unfold R3 at this;rw[af,af] at this;exact this
 have c:(s'.ls.map λl=>vZ n rs l.done).sum=(s.ls.map λl=>vZ n rs l.done).sum:=by
  have:=ff (λL=>(L.map (vZ n rs)).sum) a
  unfold R3 at this;simp only[bV] at this;exact this
 unfold Hh Ph at h ⊢;rw[b,c];lia
theorem Hi{e:Int}:∀m,(k6 s e m).cps=s.cps
 |0=>rfl
 |m+1=>by
  have a:=Hi (e:=e) m;rw[jE];split <;> exact a
theorem Hh.call(h:Hh n rs s):Hh n rs (vh s g x d):=by
 unfold vh;split
 ·exact h
 ·exact h.of (az _) FP
theorem Hh.move(h:Hh n rs s):Hh n rs (BU s x y):=by
 unfold BU;split
 ·exact h
 ·exact h.of (az _) FP
theorem Hh.Ut(h:Hh n rs s):Hh n rs (BS s i x w e):=by
 have a:Hh n rs (pW {s with ws:=s.ws.set i (w.filter λz=>decide (z≠x))} i x):=h.of (bx _ _) (V4 (s:={s with ws:=s.ws.set i (w.filter λz=>decide (z≠x))}));unfold BS;split
 ·exact a.of (by rw[Hi];exact az _) (BY 3)
 ·exact a
theorem Hh.lay(h:Hh n rs s):Hh n rs (Lm s i w w2 e):=by
 unfold Lm;split
 ·exact h.of (by rw[Hi];exact az _) (BY (s:={s with ws:=s.ws.set i w2}) 3)
 ·exact h
theorem Lu(e:R3 s'=R3 s):s'.ls.length=s.ls.length:=by
 have:=ff wk e
 unfold R3 at this;rw[af,af] at this;exact this
theorem acK:(vh s g x d).ls.length=s.ls.length:=by
 unfold vh;split
 ·rfl
 ·exact Lu FP
theorem acL:(BU s x y).ls.length=s.ls.length:=by
 unfold BU;split
 ·rfl
 ·exact Lu FP
theorem acM:(BS s i x w e).ls.length=s.ls.length:=by
 have a:=Lu (V4 (s:={s with ws:=s.ws.set i (w.filter λz=>decide (z≠x))}) (i:=i) (x:=x));unfold BS;split
 ·exact (Lu (BY 3)).trans a
 ·exact a
theorem agb:(Lm s i w w2 e).ls.length=s.ls.length:=by
 unfold Lm;split
 ·exact Lu (BY (s:={s with ws:=s.ws.set i w2}) 3)
 ·rfl
theorem R4{os:List Nat}:(nW rs s x to os).ls.length=s.ls.length+1:=by
 unfold nW;obtain⟨a,b⟩:=FL (rs:=rs) (os:=os) (h:=s.aE.getD x 0) (cK:=none) (s:=k8 s x to) (i:=s.ls.length) (l:={gk s x to with aF:=[.post (s.aE.getD x 0)]}) pL;rw[b];show ((s.ls++[_]).set _ _).length=_;rw[bg,aB];rfl
theorem Lv{cp:Cp}{os:List Nat}(hl:s.ls[cp.l]?=some l):(gZ rs s a cp l os ts).ls.length=s.ls.length:=by
 unfold gZ;split
 ·obtain⟨b,c⟩:=FL (rs:=rs) (os:=os) (h:=cp.h) (cK:=some cp.r) (rA (a:=a) (os:=os) (ts:=ts) hl)
  rw[c];show ((ck s a cp l os ts).ls.set _ _).length=_;rw[bg];unfold ck;split <;> exact bg
 ·exact bg
theorem Hh.post{os:List Nat}(F:Fo ns rs os)(h:Hh ns.length rs s)(a:s.aE.getD x 0<ns.length):Hh ns.length rs (nW rs s x to os):=by
 have:=acH (to:=to) F a
 unfold Hh at h ⊢;rw[R4,Nat.mul_add,Nat.mul_one];lia
theorem Hh.pass{os:List Nat}{a:Nat}(F:Fo ns rs os)(h:Hh ns.length rs s)(b:s.cps[a]?=some cp)(hl:s.ls[cp.l]?=some l)(c:cp.h<ns.length):Hh ns.length rs (gZ rs s a cp l os ts):=by
 have:=V0 (ts:=ts) F b hl c
 unfold Hh at h ⊢;rw[Lv hl];lia
end
section
structure Al(ns:List Int)(rs:List R5)(bs:List (List Bool))(cl:List (Nat×Nat))(D:Nat)(s:NS):Prop extends SD ns rs bs cl D s where
 ld:∀o:cN ns rs,Ld o s
 ph:Hh ns.length rs s
 ln:100*s.ls.length<=D
variable{ns:List Int}{rs:List R5}{bs:List (List Bool)}{cl:List (Nat×Nat)}{D:Nat}{s:NS}
theorem Al.b0(h:Al ns rs bs cl D s):SD ns rs bs cl D s:=⟨h.ok,h.bd,h.ws,h.fit,h.hm,h.gr⟩
theorem Al.mono{a:Nat}(h:Al ns rs bs cl D s)(e:D<=a):Al ns rs bs cl a s:=⟨h.b0.mono e,h.ld,h.ph,aN h.ln e⟩
theorem Al.call(h:Al ns rs bs cl D s)(a:Dn ns.length rs.length d):Al ns rs bs cl D (vh s g x d):=⟨h.b0.call a,λo=>(h.ld o).call,h.ph.call,by rw[acK];exact h.ln⟩
theorem Al.move{x y:Nat}(h:Al ns rs bs cl D s)(a:x<cl.length)(b:y<ns.length):Al ns rs bs (cl.set x (y,cl[x].2)) D (BU s x y):=⟨h.b0.move a b,λo=>(h.ld o).move (by rw[h.gr,af];exact a),h.ph.move,by rw[acL];exact h.ln⟩
theorem Al.ad4(h:Al ns rs bs cl D s){i:Nat}(a:bs[i]?=some b):s.ws[i]?=some (stand b):=by rw[h.ws,ak,a];rfl
theorem Al.Ut{i:Nat}(o:cN ns rs)(h:Al ns rs bs cl D s)(a:bs[i]?=some b)(c:rs[i]?=some r):Al ns rs (bs.set i (b.set x false)) cl D (BS s i x (stand b) r.e):=⟨h.b0.Ut o a r.e,λo=>(h.ld o).Ut c (h.ad4 a),h.ph.Ut,by rw[acM];exact h.ln⟩
theorem Al.lay{i x:Nat}(o:cN ns rs)(h:Al ns rs bs cl D s)(a:bs[i]?=some b)(d:rs[i]?=some r)(c:b[x]?=some v):Al ns rs (bs.set i (b.set x true)) cl D (Lm s i (stand b) (stand (b.set x true)) r.e):=⟨h.b0.lay o a r.e,λo=>(h.ld o).lay d (h.ad4 a) (λz=>by
 have:x∈stand (b.set x true):=iA.mpr (by rw[bZ,aq rfl,aq (ai.mp c).1])
 rw[z] at this;cases this),h.ph.lay,by rw[agb];exact h.ln⟩
theorem Al.post{x:Nat}{os:List Nat}(o:cN ns rs)(h:Al ns rs bs cl D s)(a:x<s.aE.length)(O:fk (ju ns rs o s.ws (s.groups.getD x 0)) (s.R (s.groups.getD x 0)) os)(b:os.length<=12):Al ns rs bs cl (D+100) (nW rs s x to os):=⟨h.b0.post o a O b,λd=>(h.ld d).post a (by rw[h.bd.gl];exact a) (λc e=>(h.bd.cl c e).1) O,h.ph.post (Fo.of O) (h.bd.hm _ (by rw[ao,aa a];exact aH a)),by rw[R4,Nat.mul_add];exact gG h.ln 100⟩
theorem Al.pass{a:Nat}{cp:Cp}{os:List Nat}{ts:List T3}(o:cN ns rs)(h:Al ns rs bs cl D s)(hl:s.ls[cp.l]?=some l)(b:s.cps[a]?=some cp)(O:fk (ju ns rs o s.ws l.grp) (s.R l.grp) os)(d:os.length<=12)(p:ts.Perm (put3 (s.ts l.grp) cp.h l.s cp.r))(f:fF ts):Al ns rs bs cl (D+100) (gZ rs s a cp l os ts):=⟨h.b0.pass o hl (ai.mp b).1 O d p f,λe=>(h.ld e).pass (λc g=>(h.bd.cl c g).1) b hl (h.bd.lb l (aC hl)).2.2.1 O p,h.ph.pass (Fo.of O) b hl (h.bd.cl cp (aC b)).2.2,by rw[Lv hl];exact aN h.ln (lV _ _)⟩
end
section
variable{P:Program}{w:World}{K:ah}{mg:Str->Option Value}{base:Heap}
abbrev XQ(cl:List (Nat×Nat)):List (List V):=cl.map λc=>[.int c.1,.int c.2]
structure DX(K:ah)(CT:Addr)(h:Hp)(tp ln lr b0 ls:Addr)(lB:List Addr)(pl:Addr)(ns:List Int)(rs:List R5)(bs:List (List Bool))(cl:List (Nat×Nat)):Prop where
 l5:dM K CT h tp ln lr ns rs
 nu:JP K h b0 rs
 sts:mu h ls lB bs
 Vu:∃qp:List Addr,h pl=some (.lst (qp.map V.ref))/\dg K h qp (XQ cl)
 nl:∀l∈lB,l≠tp/\l≠ln/\l≠lr/\l≠b0/\l≠ls/\l≠pl
 np:pl≠tp/\pl≠ln/\pl≠lr/\pl≠b0/\pl≠ls
def Kp(h h':Hp)(lB:List Addr)(pl:Addr):Prop:=∀b o,h b=some o->b∉lB->b≠pl->h' b=some o
section
variable{CT:Addr}{h h' h2:Hp}{tp ln lr b0 ls pl:Addr}{lB:List Addr}{ns:List Int}{rs:List R5}{bs:List (List Bool)}{cl:List (Nat×Nat)}
theorem Kp.of(s:aG h h'):Kp h h' lB pl:=λb o e _ _=>s b o e
theorem Kp.trans(a:Kp h h' lB pl)(b:Kp h' h2 lB pl):Kp h h2 lB pl:=λx o e c d=>b x o (a x o e c d) c d
theorem DX.mono(d:DX K CT h tp ln lr b0 ls lB pl ns rs bs cl)(s:aG h h'):DX K CT h' tp ln lr b0 ls lB pl ns rs bs cl:=by
 obtain⟨a,c,h2⟩:=d.Vu;exact⟨d.l5.mono s,d.nu.keep (λo z=>s _ _ z) (λb x=>s.cz),d.sts.mono s,⟨a,s _ _ c,h2.mono λb x=>s.cz⟩,d.nl,d.np⟩
theorem DX.am2(d:DX K CT h tp ln lr b0 ls lB pl ns rs bs cl){i:Nat}(hl:lB[i]?=some l)(u:bs[i]?=some b):DX K CT (upd h l (.lst ((b.map V.bl).set x (V.bl v)))) tp ln lr b0 ls lB pl ns rs (bs.set i (b.set x v)) cl:=by
 obtain⟨j,s,k,p,f,n⟩:=d.nl l (aC hl);have t:=d.sts.it i l b hl u;have a:∀c y,cX K h c y->cX K (upd h l (.lst ((b.map V.bl).set x (V.bl v)))) c y:=λc y=>cX.past t jf b9;obtain⟨g,r,m⟩:=d.Vu;refine⟨d.l5.keep (λc o e q=>b9 c o e ?_) a,d.nu.keep (λo e=>b9 _ o e (bO p)) a,d.sts.put hl b9 (by rw[ay,jG]) (bO f),⟨g,b9 _ _ r (bO n),m.mono a⟩,d.nl,d.np⟩;rcases q with rfl|rfl|rfl
 ·exact bO j
 ·exact bO s
 ·exact bO k
theorem DX.am3(d:DX K CT h tp ln lr b0 ls lB pl ns rs bs cl){g:List Addr}{c:Nat×Nat}(w:h pl=some (.lst (g.map V.ref)))(k:dg K h g (XQ cl))(n:cX K h q [.int c.1,.int c.2]):DX K CT (upd h pl (.lst ((g.map V.ref).set x (.ref q)))) tp ln lr b0 ls lB pl ns rs bs (cl.set x c):=by
 obtain⟨p,v,s,t,m⟩:=d.np;have j:∀c y,cX K h c y->cX K (upd h pl (.lst ((g.map V.ref).set x (.ref q)))) c y:=λc y=>cX.past w jf b9;refine⟨d.l5.keep (λc o e q=>b9 c o e ?_) j,d.nu.keep (λo e=>b9 _ o e (bO t)) j,⟨b9 _ _ d.sts.at_ (bO m),d.sts.len,d.sts.nd,λi l b a f=>b9 _ _ (d.sts.it i l b a f) (d.nl l (aC a)).2.2.2.2.2⟩,⟨g.set x q,by rw[ay,jG],?_⟩,d.nl,d.np⟩
 ·rcases q with rfl|rfl|rfl
  ·exact bO p
  ·exact bO v
  ·exact bO s
 ·refine⟨by rw[bg,k.len];simp,λi r y a f=>?_⟩
  rw[ak] at f;rw[bZ] at a f;have A:g.length=cl.length:=by rw[k.len,af]
  by_cases z:x=i
  ·rw[aq z] at a f
   by_cases u:i<cl.length
   ·rw[z,aq ∅] at a
    rw[z,aq u] at f;cases a;cases f;exact j _ _ n
   ·rw[z,b3 ∅] at a
    cases a
  ·rw[b3 z] at a f
   exact j _ _ (k.at' i r y a (by rw[ak];exact f))
theorem _root_.TW.dH.past(N:dH K c H F p tp n s)(g:Off H F z=some u)(d:AH u):dH K c (upd H z o) F p tp n s:=by
 obtain⟨nf,a⟩:=l6 g;exact N.keep (λb v e f=>b9 b v e λw=>nf (w▸f)) (λb x=>cX.past a d b9)
theorem Kp.upd{H:Hp}{F:Addr->Prop}{z:Addr}{o u:HO}(d:Off H F z=some u)(c:z∈lB∨z=pl):Kp (Off H F) (Off (upd H z o) F) lB pl:=λb v e a f=>by
 rw[IT (l6 d).1];refine b9 b v e λw=>?_;rcases c with y|y
 ·exact a (w▸y)
 ·exact f (w.trans y)
end
inductive R6(K:ah)(CT:Addr)(c:NC)(vs:List V)(H:Hp)(Q:VK)(E:XK):Prop
 |mk (F:Addr->Prop) (p tp ln lr b0 ls:Addr) (lB:List Addr) (pl:Addr) (ns:List Int) (rs:List R5) (bs:List (List Bool)) (cl:List (Nat×Nat)) (D:Nat) (s:NS) (kk:Int):vs=[.ref p,.ref b0,.ref ls,.int kk]->cN ns rs->dH K c H F p tp ns.length s->DX K CT (Off H F) tp ln lr b0 ls lB pl ns rs bs cl->Al ns rs bs cl D s->D<=40000->rs≠[]->(∀v s' bs' F' H',dH K c H' F' p tp ns.length s'->DX K CT (Off H' F') tp ln lr b0 ls lB pl ns rs bs' cl->Al ns rs bs' cl D s'->Kp (Off H F) (Off H' F') lB pl->Q (.bl v) H')->R6 K CT c vs H Q E
theorem R7(T:Txt K mg t):cH P w K mg base iS 5 t.uA t.zj ["_law_net","_law_ropes_here","_law_stood","_law_number"]  (R6 K t.bA (nc t)):=by
 refine T.Kf.F.jK A1 λH Q E hr h=>?_
 ·obtain⟨F,p,tp,ln,Y,b0,ls,lB,pl,ns,rs,bs,cl,D,st,L,rfl,o,N,I,j,hD,hne,k⟩:=h
  refine⟨_,(au (sS 4 A1 (aY cZ (pv 3) (lS T.fK (pv 1)))) (au (sS 5 A1 (aY cZ (aY dU (pv 3) (lS T.fK (pv 1))) (xT (xL (pv 1) (pv 4)) aA))) (au (Au (Yx (xL (xL (pv 2) (pv 4)) (pv 5))) (Ga (xL (pv 2) (pv 4)) (pv 5) set_list)) (au (b6 (lN (xL (xL (pv 2) (pv 4)) (pv 5))) (oR (cM (pv 0) T.bJ T.Na (Ul T) hr (k9 (pv 4) (pv 5)))) bw) (oR (cM (pv 0) T.bJ T.J9 (RE T) hr (k9 (pv 4) (pv 5)))))))),?_⟩
  left
  obtain⟨y,X,A⟩:=I.nu;have Z:=cj _ _ X;have eus:y.length=rs.length:=by rw[A.len,af]
  have hrl:0<rs.length:=List.length_pos_iff.mpr hne;have f:(((y.map V.ref).length:Nat):Int)=(rs.length:Int):=by rw[af,eus]
  refine⟨_,rfl,_,rfl,b0,_,rfl,.inl (bN.of Z),_,_,rfl,rfl,(by rw[f];lia),?_⟩
  try dsimp only
  rw[f];obtain⟨i,ei⟩:∃i:Nat,L%(rs.length:Int)=(i:Int):=⟨_,(rE (b5 _ ∅)).symm⟩;have hi:i<rs.length:=by
   have:=cP L (show (0:Int)<(rs.length:Int) by lia)
   lia
  rw[ei];have s:rs[i]?=some rs[i]:=aa hi;have oki:=o.ok _ (aH hi);have hq:(y.map V.ref)[i]?=some (V.ref (y[i]'∅)):=by rw[ak,aa];rfl
  have hqt:cX K H (y[i]'∅) (rs[i]).vs:=cj.cz (A.at' i (y[i]'∅) (rs[i]).vs (aa _) (by rw[ak,s];rfl));refine⟨_,rfl,_,rfl,b0,_,rfl,.inl (bN.of Z),_,_,rfl,rfl,(by rw[f];exact⟨∅,by have:=o.Wy;lia⟩),?_⟩
  try dsimp only
  rw[f];have d1:=oki.d1;refine⟨_,rfl,_,rfl,b0,_,_,_,rfl,rfl,bN.of Z,c5 hq,_,_,3,_,rfl,rfl,hqt,rfl,_,_,rfl,rfl,(by show (0:Int)<rs[i].d;lia),?_⟩
  try dsimp only
  obtain⟨x,ex⟩:∃x:Nat,L/(rs.length:Int)%rs[i].d=(x:Int):=⟨_,(rE (b5 _ (show rs[i].d≠0 by lia))).symm⟩;have hx:(x:Int)<rs[i].d:=by
   have:=cP (L/(rs.length:Int)) (show (0:Int)<rs[i].d by lia)
   lia
  rw[ex];obtain⟨b,u,hbl⟩:=j.fit.at s;have g:x<b.length:=∅
  have S:=(ai.mp u).1;obtain⟨l,M⟩:∃l,lB[i]?=some l:=⟨_,aa (by rw[I.sts.len];exact S)⟩;have hsl:=I.sts.at_;have R:=I.sts.it i l b M u;have r:Aw (lB.map V.ref) (i:Int)=some (.ref l):=c5 (by rw[ak,M];rfl);have am5:Aw (b.map V.bl) (x:Int)=some (V.bl b[x]):=c5 (by rw[ak,aa g];rfl);have B:=cj _ _ hsl;have J:=cj _ _ R;refine⟨_,rfl,_,rfl,ls,_,_,_,rfl,rfl,bN.of B,r,_,rfl,l,_,_,_,rfl,rfl,bN.of J,am5,_,rfl,?_⟩;refine⟨_,rfl,_,rfl,ls,_,_,_,rfl,rfl,bN.of B,r,_,rfl,l,_,_,x,rfl,rfl,J,(by rw[af];exact yM g),?_⟩;have N1:=N.past (o:=.lst ((b.map V.bl).set x (V.bl (!b[x])))) R jf;have m:=I.am2 (x:=x) (v:=!b[x]) M u;rw[<- IT (l6 R).1] at m;have n:Kp (Off H F) (Off (upd H l (.lst ((b.map V.bl).set x (V.bl (!b[x]))))) F) lB pl:=Kp.upd R (.inl (aC M));have C:(upd H l (.lst ((b.map V.bl).set x (V.bl (!b[x]))))) l=some (.lst ((b.set x (!b[x])).map V.bl)):=by rw[ay,jG]
  generalize upd H l (.lst ((b.map V.bl).set x (V.bl (!b[x]))))=H1 at N1 m n C;have am7:=cj _ _ m.sts.at_;have W:Aw ((b.set x (!b[x])).map V.bl) (x:Int)=some (V.bl (!b[x])):=c5 (by rw[ak,bZ,aq rfl,aq g];rfl);refine⟨_,rfl,_,rfl,ls,_,_,_,rfl,rfl,bN.of am7,r,_,rfl,l,_,_,_,rfl,rfl,bN.of C,W,_,rfl,?_⟩;obtain⟨loc,Vd,q,hp,O,hF,hT⟩:=id N1;have cJ:=O.get .dG _ rfl;rw[hp] at cJ;have W1:NW K (nc t) t.bA H1 F p tp ln Y ns rs st:=m.l5.nw N1 λb z=>z;have G:st.ws[i]?=some (stand b):=by rw[j.ws,ak,u];rfl
  have a:b[x]?=some b[x]:=aa g;cases e:b[x] with
  |true =>
   rw[e] at m a;refine dh ?_;have hc:∀cp∈st.cps,cp.l<st.ls.length:=λcp z=>(j.bd.cl cp z).1;have hB:∀l∈st.ls,l.aF.length<=D:=λl z=>by have:=(j.bd.lb l z).1;lia
   have hcb:=j.bd.cb;refine⟨_,rfl,p,_,_,rfl,cJ,rfl,_,rfl,_,rfl,F,p,tp,ln,Y,ns,rs,st,i,x,stand b,rs[i],D,rfl,W1,o,j.ok,hc,hB,∅,G,s,iA.mpr a,λF2 H2 U c=>?_⟩;exact k _ _ _ F2 H2 U.dG (m.mono (eu c)) (j.Ut o u s) (n.trans (Kp.of (eu c)))
  |false =>
   rw[e] at m a;refine dZ ?_;refine⟨_,rfl,p,_,_,rfl,cJ,rfl,_,rfl,_,rfl,F,p,tp,ln,Y,ns,rs,st,i,x,stand b,rs[i],rfl,W1,o,j.ok,G,s,hx,λz=>?_,λw2 F2 H2 hp2 hs2 U c=>?_⟩
   ·rw[iA,a] at z
    cases z
   ·have ew:=WT a hp2 hs2
    subst ew;exact k _ _ _ F2 H2 U.dG (m.mono (eu c)) (j.lay o u s a) (n.trans (Kp.of (eu c)))
def CA(x:List Int):PyData:=.tuple (x.map .int)
theorem vo{H:Hp}:∀{qs:List Addr} {xs:List (List Int)},dg K H qs (xs.map λx=>x.map V.int)->dO K H (xs.map CA) (qs.map V.ref)
 |[],[],_=>rfl
 |[],_::_,h=>by cases h.len
 |_::_,[],h=>by cases h.len
 |q::qs,x::xs,h=>⟨.ref q,qs.map V.ref,rfl,Rep.MR (ns:=x) (h.at' 0 q _ rfl rfl),vo ⟨Nat.succ.inj h.len,λi p y a b=>h.at' (i+1) p y a b⟩⟩
theorem pN:∀xs:List (List Int),PyData.canLayAll0 (xs.map CA)=true
 |[]=>rfl
 |x::xs=>by
  show (PyData.canLayAll0 (x.map .int)&&PyData.canLayAll0 (xs.map CA))=true;rw[pN xs,iD];rfl
theorem yz:∀xs:List (List Int),PyData.depthAll (xs.map CA)<=1
 |[]=>!_
 |x::xs=>by
  show max (PyData.depthAll (x.map .int)+1) (PyData.depthAll (xs.map CA))<=1
  have:=yz xs
  have:=nO x
  lia
theorem Ja:(PyData.list ds).eqv (.list [])=ds.isEmpty:=by cases ds <;> rfl
theorem aaI{u:TS}(rest:∀a,aG H a->u D σ a)(h:(∀a,aG H a->u D σ a)->So c t u D σ H):So c t u D σ H:=h rest
theorem pO(y:Int){n:Nat}(h:0<n):∃x:Nat,y%(n:Int)=(x:Int)/\x<n:=by
 have b:=b5 y (show (n:Int)≠0 by lia);have a:=cP y (show (0:Int)<(n:Int) by lia);exact⟨(y%(n:Int)).toNat,∅,∅⟩
def cpI(c:Cp):List Int:=[c.l,c.r,c.w,c.h]
theorem agd(cps:List Cp):cps.map Cp.vs=(cps.map cpI).map λx=>x.map V.int:=by rw[bV];rfl
theorem ajh(rs:List R5):rs.map R5.vs=(rs.map R5.ns).map λx=>x.map V.int:=by rw[bV];rfl
def NQ(cl:List (Nat×Nat))(x y:Nat):Bool:=decide ((cl.getD y (0,0)).2=(cl.getD x (0,0)).2)
inductive aji(K:ah)(vs:List V)(H:Hp)(Q:VK)(E:XK):Prop
 |mk (pl:Addr) (qp:List Addr) (cl:List (Nat×Nat)) (x:Nat) (kk:Int):vs=[.ref pl,.int x,.int kk]->bN K H pl (qp.map V.ref)->dg K H qp (XQ cl)->x<cl.length->cl.length<=20->(∀(to:Option Nat) H',aG H H'->(∀y,to=some y->y<cl.length/\(cl.map (·.2))[y]?=(cl.map (·.2))[x]?)->Q (wF (to.map λy:Nat=>(y:Int))) H')->aji K vs H Q E
theorem V5(T:Txt K mg t):cH P w K mg base iS 1 t.J7 t.OT ["_law_places","_law_sender","_law_number"]  (aji K):=by
 refine T.TF.F.jK OR λH Q E W h=>?_
 ·obtain⟨q,g,cl,x,J,rfl,s,B,l,Y,k⟩:=h
  refine⟨_,(au (tQ (i:=3) OR.nd rfl (Or.inl rfl) (kO OR ["_law_caller","_law_places","_law_sender"] [none,some 0,some 1]) rfl (fz rfl T.ig (gE (lS T.fK (pv 0)))) (λ_ _ _ _=>by exact (gS 0 Tw)) (λ_ _ _ _=>by exact (ly (qT i6 (yT K (yL K (pv 1) (pv 0)) aA) (yT K (yL K (pv 1) (pv 2)) aA)))) (λ_ _ _ _=>by exact (pv 0))) (au (b6 (qT i6 (aY cZ (pv 2) aA) aA) (oR lM) bw) (oR (xL (pv 3) (aY cZ (aY dU (pv 2) aA) (lS T.fK (pv 3))))))),?_⟩
  left
  have U:g.length=cl.length:=by rw[B.len,af]
  have at':∀{y:Nat} (a:y<cl.length),Aw (g.map V.ref) (y:Int)=some (.ref (g[y]'∅))/\cX K H (g[y]'∅) [.int cl[y].1,.int cl[y].2]:=λ{y} a=>⟨c5 (by rw[ak,aa];rfl),B.at' y _ _ (aa _) (by rw[ak,aa a];rfl)⟩;have p:∀{y:Nat} (a:y<cl.length),(cl.getD y (0,0))=cl[y]:=λ{y} a=>by rw[ao,aa a];rfl
  refine⟨_,rfl,q,_,rfl,.inl s,(((g.map V.ref).length:Nat):Int),rfl,∅,by rw[af];lia,λm d=>?_⟩;rw[af,U];refine gf (n:=((cl.length:Int)).toNat) (λi u _=>u=bF ((av i).filter (NQ cl x))) d AD qR rfl ?_ ?_
  ·rintro i u v C b a rfl y X ⟨rfl,rfl⟩
   rw[dw];have f:i<cl.length:=∅
   obtain⟨M,L⟩:=at' f;obtain⟨I,G⟩:=at' l;refine⟨_,rfl,_,rfl,q,_,_,_,rfl,rfl,b.seq s,M,_,_,1,_,rfl,rfl,b.cz L,rfl,_,rfl,_,rfl,q,_,_,_,rfl,rfl,b.seq s,I,_,_,1,_,rfl,rfl,b.cz G,rfl,rfl,_,rfl,?_⟩;have O:decide (V.int ((cl[i].2:Nat):Int)=V.int ((cl[x].2:Nat):Int))=NQ cl x i:=by
    unfold NQ;rw[p f,p l,decide_eq_decide];exact⟨λz=>by have:=V.int.inj z;lia,λz=>by rw[z]⟩
   try dsimp only
   rw[O];refine jd (λA=>?_) (λA=>?_)
   ·refine⟨_,rfl,?_⟩
    refine dY d C b a ?_ ?_
    ·rw[af]
     refine b4 (aN (bx _ _) ?_);rw[be];lia
    ·rw[qw,aq A,iC]
   ·refine gp C b a ?_
    rw[qw,b3 A,bQ]
  rintro u v b a rfl;rw[cO] at a;have c:∀y∈(av cl.length).filter (NQ cl x),y<cl.length/\(cl.map (·.2))[y]?=(cl.map (·.2))[x]?:=λy z=>by
   obtain⟨N,R⟩:=aT.mp z;have a:=bB.mp N;refine⟨a,?_⟩
   have:=gh R
   rw[p a,p l] at this;rw[ak,ak,aa a,aa l];exact ff some this
  have o:x∈(av cl.length).filter (NQ cl x):=aT.mpr ⟨bB.mpr l,eH rfl⟩;generalize (av cl.length).filter (NQ cl x)=ms at a c o;refine⟨_,rfl,_,_,rfl,rfl,(by show (0:Int)<2;decide),rfl,_,rfl,jd (λe=>?_) (λe=>?_)⟩
  ·exact k none v b (λy z=>by cases z)
  ·have r:0<ms.length:=List.length_pos_of_mem o
   obtain⟨j,S,D⟩:=pO (J/2) r;refine⟨_,rfl,_,rfl,_,_,rfl,rfl,⟨!_,!_⟩,_,rfl,m,_,rfl,.inl (bN.of a),_,_,rfl,rfl,(by show (0:Int)<(((bF ms).length:Nat):Int);rw[af];lia),?_⟩
   try dsimp only
   rw[af,S];refine⟨m,_,_,_,rfl,rfl,bN.of a,oz D,?_⟩;exact k (some ms[j]) v b (λy z=>by cases z;exact c _ (aH D))
inductive aaJ(K:ah)(CT:Addr)(c:NC)(vs:List V)(H:Hp)(Q:VK)(E:XK):Prop
 |mk (F:Addr->Prop) (p tp ln lr b0 ls:Addr) (lB:List Addr) (pl:Addr) (ns:List Int) (rs:List R5) (bs:List (List Bool)) (cl:List (Nat×Nat)) (D:Nat) (s:NS) (g:Nat) (kk:Int):vs=[.ref p,.int (ns.length:Nat),.int g,.ref b0,.ref ls,.ref pl,.int kk]->cN ns rs->dH K c H F p tp ns.length s->DX K CT (Off H F) tp ln lr b0 ls lB pl ns rs bs cl->Al ns rs bs cl D s->D<=30000->g<3->0<cl.length->(∀s' bs' cl' F' H',dH K c H' F' p tp ns.length s'->DX K CT (Off H' F') tp ln lr b0 ls lB pl ns rs bs' cl'->Al ns rs bs' cl' (D+100) s'->cl'.length=cl.length->Kp (Off H F) (Off H' F') lB pl->Q .f9 H')->aaJ K CT c vs H Q E
theorem XS(T:Txt K mg t):cH P w K mg base iS 9 t.A4 t.E4 ["_law_net","_law_size","_law_group","_law_ropes_here","_law_stood","_law_places","_law_cell"]  (aaJ K t.bA (nc t)):=by
 refine T.QZ.F.jK Cc λH Q E I h=>?_
 ·obtain⟨F,p,G,S,R,b0,ls,lB,n,ns,rs,bs,cl,D,st,g,kk,rfl,o,N,dx,f,hD,hg,hcl,k⟩:=h
  refine⟨_,(au (sS 7 Cc (aY cZ (pv 6) aA)) (au (sS 8 Cc (aY dU (pv 6) aA)) (bz (b6 (qT nZ (pv 7) aA) (oE (cM (pv 0) T.bJ T.DM (Ig T) I (k9 (aY cZ (pv 8) (pv 1)) (xL (gV (IU (pv 2) (pv 2) (aY cZ (aY dU (pv 8) aA) aA))) (aY cZ (aY dU (pv 8) aA) aA))))) (bz (b6 (PW.pt (Ar (qT nZ (pv 7) aA) (yG (qT Gf (pv 3) (gV fX))))) (oE (cG (R7 T) I T.Kf (ry (pv 0) (pv 3) (pv 4) (pv 8)))) (bz (b6 (qT i6 (pv 7) aA) (au (sS 9 Cc (aY cZ (pv 8) (lS T.fK (pv 5)))) (au (Au (fY (k9 (aY cZ (aY dU (pv 8) aA) (pv 1)) (xT (xL (pv 5) (pv 9)) aA))) (Ga (pv 5) (pv 9) set_list)) (oE (cM (pv 0) T.bJ T.Ka (RG T) I (k9 (pv 9) (xT (xL (pv 5) (pv 9)) aA)))))) (bz (b6 (qT i6 (pv 7) aA) (oE (lg (pv 0) T.bJ T.DN (BV T) (I.mono (!_)) T.Kc .nil jv (k9 (aY cZ (pv 8) (lS T.fK (pv 5))) (cG (V5 T) I T.TF (IU (pv 5) (aY cZ (pv 8) (lS T.fK (pv 5))) (aY dU (pv 8) aA)))))) (bz (b6 (qT Gf (jc (pv 0) T.bJ T.d8.m (jW T) (I.mono (!_)) T.d8.B .nil jv) (gV fX)) (oE (lg (pv 0) T.bJ T.CP (BX T) (I.mono (!_)) T.CO .nil jv (gE (aY cZ (pv 8) (lS T.fK (jc (pv 0) T.bJ T.d8.m (jW T) (I.mono (!_)) T.d8.B .nil jv)))))) bw)))))))))))),?_⟩
  left
  have Hx:=o.Hx;have n1:=o.n1;have vq:cl.length<=20:=by have:=f.bd.vq;rw[f.hm,af] at this;exact this
  have hml:st.aE.length=cl.length:=by rw[f.hm,af]
  have k0:∀s' F' W,dH K (nc t) W F' p G ns.length s'->Al ns rs bs cl (D+100) s'->Step H F W F'->Q .f9 W:=λs' F' W N' Y st'=>k s' bs cl F' W N' (dx.mono (eu st')) Y rfl (Kp.of (eu st'));refine⟨_,rfl,_,_,rfl,rfl,(by show (0:Int)<9;decide),?_⟩;show iO 7 (V.int (kk%9)) _ _ _;refine⟨_,rfl,_,_,rfl,rfl,⟨!_,!_⟩,?_⟩;show iO 8 (V.int (kk/9)) _ _ _;generalize kk%9=dd;generalize kk/9=m;obtain⟨loc,dxx,q,hp,O,hF,hT⟩:=id N;have cJ:=O.get .dG _ rfl;rw[hp] at cJ;refine⟨_,rfl,_,_,rfl,rfl,_,rfl,jd (λe=>?_) (λe=>?_)⟩
  ·
   obtain⟨x,ex,hx⟩:=pO m (show 0<ns.length by lia);obtain⟨y,ey,hy⟩:=pO (m/18) (show 0<3 by decide);obtain⟨z,ez,hz⟩:=pO (m/6) (show 0<3 by decide);refine⟨_,rfl,p,_,_,rfl,cJ,rfl,_,rfl,_,rfl,_,_,rfl,rfl,(by show (0:Int)<(ns.length:Int);lia),?_⟩
   try dsimp only
   rw[ex];refine⟨_,rfl,_,rfl,_,rfl,_,_,rfl,rfl,⟨!_,!_⟩,_,_,rfl,rfl,(by show (0:Int)<3;decide),aap,λa Z=>?_⟩
   try dsimp only
   rw[show m/18%3=(y:Int) from ey];have r:=aG.new (o:=.lst [V.int g,V.int g,V.int y]) Z;have C:=ay (H:=H) (a:=a) (o:=.lst [V.int g,V.int g,V.int y]);generalize upd H a (.lst [V.int g,V.int g,V.int y])=L at r C;obtain⟨g',eg',hg'⟩:∃g':Nat,Aw [V.int g,V.int g,V.int y] (z:Int)=some (.int g')/\g'<3:=by
    have:z=0∨z=1∨z=2:=∅
    rcases this with rfl|rfl|rfl
    ·exact⟨g,rfl,hg⟩
    ·exact⟨g,rfl,hg⟩
    ·exact⟨y,rfl,hy⟩
   refine⟨_,rfl,_,_,rfl,rfl,⟨!_,!_⟩,_,_,rfl,rfl,(by show (0:Int)<3;decide),?_⟩
   try dsimp only
   rw[show m/6%3=(z:Int) from ez];have N1:=N.mono r;have W1:NW K (nc t) t.bA L F p G S R ns rs st:=(dx.mono (cT r)).l5.nw N1 λb z=>z;refine⟨a,_,_,_,rfl,rfl,bN.of C,eg',F,p,G,S,R,ns,rs,st,o,x,g',rfl,W1,f.ok,hx,hg',λd F2 u _ hf N2 st2 _=>?_⟩;exact k0 _ F2 u N2 ((f.call hf).mono ∅) ((Step.refl' r).trans st2)
  refine aaI ?_ (λrest=>?_)
  rotate_left
  ·refine⟨_,rfl,_,_,rfl,rfl,_,rfl,jd (λe2=>?_) (λe2=>rest _ (aG.refl _))⟩
   obtain⟨us,hL0,acN⟩:=dx.nu;refine⟨_,rfl,aX _,λa Z=>?_⟩;have r:=aG.new (o:=.lst []) Z;have C:=ay (H:=H) (a:=a) (o:=.lst []);generalize upd H a (.lst [])=L at r C;have aaq:dg K L us ((rs.map R5.ns).map λx=>x.map V.int):=by
    rw[<- ajh];exact acN.mono λb x z=>r.cz (cj.cz z)
   have eR:rs.map R5.D=(rs.map R5.ns).map CA:=by rw[bV];rfl
   refine⟨.list ((rs.map R5.ns).map CA),.list [],⟨b0,_,rfl,bN.of (r _ _ (cj _ _ hL0)),vo aaq⟩,⟨a,[],rfl,bN.of C,rfl⟩,pN _,rfl,bX (dB (aN (i9 _ _) (by show PyData.depthAll _+1<=64;have:=yz (rs.map R5.ns);lia)) _) I.units,_,rfl,?_⟩;rw[Ja];by_cases er:rs=[]
   ·subst er
    exact dh (rest L r)
   ·have:((rs.map R5.ns).map CA).isEmpty=false:=by cases rs with
     |nil=>exact cy rfl er
     |cons=>rfl
    rw[this];refine dZ ?_;have Sl:=dx.mono (cT (F:=F) r);refine⟨_,rfl,_,rfl,_,rfl,_,rfl,F,p,G,S,R,b0,ls,lB,n,ns,rs,bs,cl,D,st,m,rfl,o,N.mono r,Sl,f,∅,er,λv s' bs' F' W N' Vd Y kp'=>?_⟩;exact k s' bs' cl F' W N' Vd (Y.mono ∅) rfl ((Kp.of (cT r)).trans kp')
  intro L s1;have N1:=N.mono s1;have Sl:=dx.mono (cT (F:=F) s1);have gY:=s1 _ _ cJ;have st1:Step H F L F:=Step.refl' s1;have W1:NW K (nc t) t.bA L F p G S R ns rs st:=Sl.l5.nw N1 λb z=>z;obtain⟨s,aaK,aaL⟩:=Sl.Vu;have i:=cj _ _ aaK;have XR:=aaL.mono λb x z=>cj.cz z;have eqp:s.length=cl.length:=by rw[XR.len,af]
  have XT:(((s.map V.ref).length:Nat):Int)=(cl.length:Int):=by rw[af,eqp]
  obtain⟨x,ex,hx⟩:=pO m hcl;refine⟨_,rfl,rfl,_,rfl,jd (λe3=>?_) (λe3=>?_)⟩
  ·
   obtain⟨y,ey,hy⟩:=pO (m/6) (show 0<ns.length by lia);have anb:Aw (s.map V.ref) (x:Int)=some (.ref (s[x]'∅)):=c5 (by rw[ak,aa];rfl);have hqx:=XR.at' x (s[x]'∅) [.int cl[x].1,.int cl[x].2] (aa _) (by rw[ak,aa hx];rfl);refine⟨_,rfl,_,rfl,n,_,rfl,.inl (bN.of i),_,_,rfl,rfl,(by rw[XT];lia),?_⟩
   try dsimp only
   rw[XT,ex];refine⟨_,rfl,_,_,rfl,rfl,⟨!_,!_⟩,_,rfl,_,_,rfl,rfl,(by show (0:Int)<(ns.length:Int);lia),?_⟩
   try dsimp only
   rw[ey];refine⟨_,rfl,_,rfl,n,_,_,_,rfl,rfl,bN.of i,anb,_,_,1,_,rfl,rfl,hqx,rfl,fy,λa Z=>?_⟩;have U:=aG.new (o:=.tup [V.int y,V.int (cl[x].2:Nat)]) Z;have X:=ay (H:=L) (a:=a) (o:=.tup [V.int y,V.int (cl[x].2:Nat)]);generalize upd L a (.tup [V.int y,V.int (cl[x].2:Nat)])=u at U X;have N2:=N1.mono U;have XD:=Sl.mono (cT (F:=F) U);have M:=cT (F:=F) U _ _ aaK;have anc:=aaL.mono λb x=>(cT (F:=F) U).cz (a:=b) (xs:=x);refine⟨_,rfl,_,rfl,n,_,_,x,rfl,rfl,U _ _ i,(by rw[af];exact yM ∅),?_⟩;have N3:=N2.past (o:=.lst ((s.map V.ref).set x (.ref a))) M jf;have J:=XD.am3 (x:=x) (c:=(y,cl[x].2)) M anc (N2.afh (cX.of X));rw[<- IT (l6 M).1] at J;have Kw:Kp (Off u F) (Off (upd u n (.lst ((s.map V.ref).set x (.ref a)))) F) lB n:=Kp.upd M (.inr rfl);have XU:=ay (H:=u) (a:=n) (o:=.lst ((s.map V.ref).set x (.ref a)));have A:cX K (upd u n (.lst ((s.map V.ref).set x (.ref a)))) a [V.int y,V.int (cl[x].2:Nat)]:=cX.past (U _ _ i) jf b9 (cX.of X);generalize upd u n (.lst ((s.map V.ref).set x (.ref a)))=H3 at N3 J Kw XU A;have W3:NW K (nc t) t.bA H3 F p G S R ns rs st:=J.l5.nw N3 λb z=>z;obtain⟨IF,arz,q3,hp3,O3,hF3,hT3⟩:=id N3;have lJ:=O3.get .dG _ rfl;rw[hp3] at lJ;have ane:Aw ((s.map V.ref).set x (.ref a)) (x:Int)=some (.ref a):=c5 (by rw[bZ,aq rfl,aq (by rw[af];lia)]);refine⟨_,rfl,p,_,_,rfl,lJ,rfl,_,rfl,_,rfl,_,rfl,n,_,_,_,rfl,rfl,bN.of XU,ane,a,_,0,_,rfl,rfl,A,rfl,F,p,G,S,R,ns,rs,st,x,y,rfl,W3,∅,f.bd.gl,f.bd.g3,hy,λF4 H4 W4 EI=>?_⟩;exact k _ bs (cl.set x (y,cl[x].2)) F4 H4 W4.dG (J.mono (eu EI)) ((f.move hx hy).mono ∅) bg (((Kp.of (cT (s1.trans U))).trans Kw).trans (Kp.of (eu EI)))
  refine⟨_,rfl,rfl,_,rfl,jd (λe4=>?_) (λe4=>?_)⟩
  ·
   refine⟨_,rfl,p,_,_,rfl,gY,rfl,_,rfl,_,rfl,n,_,rfl,.inl (bN.of i),_,_,rfl,rfl,(by rw[XT];lia),?_⟩
   try dsimp only
   rw[XT,ex];refine⟨_,rfl,_,rfl,_,rfl,n,_,rfl,.inl (bN.of i),_,_,rfl,rfl,(by rw[XT];lia),?_⟩
   try dsimp only
   rw[XT,ex];refine⟨_,rfl,_,_,rfl,rfl,⟨!_,!_⟩,n,s,cl,x,m/6,rfl,bN.of i,XR,hx,vq,λto u s2 hto=>?_⟩;have eto:∀y,to=some y->y<st.aE.length/\st.groups[y]?=st.groups[x]?:=λy z=>by
    obtain⟨h1,h2⟩:=hto y z;rw[f.gr];exact⟨∅,h2⟩
   refine⟨F,p,G,S,R,ns,rs,st,o,x,to,D,rfl,W1.mono s2,f.ok,f.bd,∅,∅,eto,λos F3 H3 hO h12 W3 st3=>?_⟩;exact k0 _ F3 H3 W3.dG (f.post o ∅ hO h12) ((Step.refl' (s1.trans s2)).trans st3)
  refine⟨_,rfl,p,_,_,rfl,gY,rfl,F,p,G,ns.length,st,rfl,N1,λlf qf u s2 Uv Yq XW=>?_⟩;refine⟨aX _,λa Z=>?_⟩;have u3:=aG.new (o:=.lst []) Z;have A:=ay (H:=u) (a:=a) (o:=.lst []);generalize upd u a (.lst [])=H3 at u3 A;have anf:dg K H3 qf ((st.cps.map cpI).map λx=>x.map V.int):=by
   rw[<- agd];exact XW.mono λb x z=>u3.cz z
  refine⟨.list ((st.cps.map cpI).map CA),.list [],⟨lf,_,rfl,bN.of (u3 _ _ Yq),vo anf⟩,⟨a,[],rfl,bN.of A,rfl⟩,pN _,rfl,bX (dB (aN (i9 _ _) (by show PyData.depthAll _+1<=64;have:=yz (st.cps.map cpI);lia)) _) I.units,_,rfl,?_⟩;rw[Ja];have Xz:=s1.trans (s2.trans u3);cases ec:st.cps with
  |nil =>
   exact dh (k0 st F H3 (N.mono Xz) (f.mono ∅) (Step.refl' Xz))
  |cons c0 cs0 =>
   rw[<- ec]
   have:((st.cps.map cpI).map CA).isEmpty=false:=by rw[ec];rfl
   rw[this];refine dZ ?_;have ang:0<st.cps.length:=by rw[ec];exact Nat.zero_lt_succ _
   obtain⟨j,ej,hj⟩:=pO m ang;refine⟨_,rfl,p,_,_,rfl,Xz _ _ cJ,rfl,_,rfl,_,rfl,p,_,_,rfl,Xz _ _ cJ,rfl,F,p,G,ns.length,st,rfl,N.mono Xz,λlf2 qf2 H4 s4 ape anh ani=>?_⟩;have eqf:qf2.length=st.cps.length:=by rw[ani.len,af]
   refine⟨lf2,_,rfl,.inl (bN.of anh),_,_,rfl,rfl,(by show (0:Int)<(((qf2.map V.ref).length:Nat):Int);rw[af];lia),?_⟩
   try dsimp only
   rw[af,eqf,ej];have s14:=Xz.trans s4;have hcj:=aa hj;have Ud:=(f.bd.cl _ (aH hj)).1;refine⟨F,p,G,S,R,ns,rs,st,o,j,D,st.cps[j],st.ls[st.cps[j].l],rfl,(W1.mono (s2.trans u3)).mono s4,f.ok,f.bd,∅,hcj,aa Ud,λos ts F5 H5 hO h12 pts oe W5 LH=>?_⟩;exact k0 _ F5 H5 W5.dG (f.pass o (aa Ud) hcj hO h12 pts oe) ((Step.refl' s14).trans LH)
theorem acQ:(vh s g x d).R g=RM.upd (s.R g) x d/\(vh s g x d).ws=s.ws:=by
 unfold vh;split
 ·rename_i e
  refine⟨?_,rfl⟩;funext y;unfold RM.upd;split
  ·rename_i z
   rw[z,e]
  ·rfl
 ·exact⟨cQ,rfl⟩
inductive Lw(K:ah)(CT:Addr)(c:NC)(vs:List V)(H:Hp)(Q:VK)(E:XK):Prop
 |mk (F:Addr->Prop) (p tp ln lr:Addr) (ns:List Int) (rs:List R5) (o:cN ns rs) (bs:List (List Bool)) (cl:List (Nat×Nat)) (D:Nat) (s:NS) (g:Nat):vs=[.ref p,.int (ns.length:Nat),.int g]->NW K c CT H F p tp ln lr ns rs s->Al ns rs bs cl D s->g<3->(∀s' F' H',NW K c CT H' F' p tp ln lr ns rs s'->Al ns rs bs cl D s'->RM.Rest (ju ns rs o s'.ws g) (s'.R g)->Step H F H' F'->Q .f9 H')->Lw K CT c vs H Q E
theorem R8(T:Txt K mg t):cH P w K mg base iS 5 t.uz t.zh ["_law_net","_law_size","_law_group"]  (Lw K t.bA (nc t)):=by
 refine T.Ke.F.jK A0 λH Q E hr h=>?_
 ·obtain⟨F,p,tp,ln,lr,ns,M,o,bs,cl,D,st,g,rfl,N,sd,hg,k⟩:=h
  refine⟨_,(bz (fS (fz rfl T.ig (gE (aY Of aA (pv 1)))) (gT 3 A0) (bz (fS (fz rfl T.ig (gE (pv 1))) (gT 4 A0) (oE (cM (pv 0) T.bJ T.DM (Ig T) hr (k9 (aY cZ (aY fH (pv 4) (pv 3)) (pv 1)) (pv 2)))))))),?_⟩
  left
  have Hx:=o.Hx;have n1:=o.n1;refine⟨_,rfl,_,_,rfl,rfl,.inl ⟨!_,!_⟩,2*(ns.length:Int),rfl,∅,∅,xS (n:=(2*(ns.length:Int)).toNat) (λi v H2=>∃(u:NS) (X:Addr->Prop) (Y:List Nat) (v3 I:Option V),NW K (nc t) t.bA H2 X p tp ln lr ns M u/\Al ns M bs cl D u/\Step H F H2 X/\u.ws=st.ws/\RM.Run (ju ns M o st.ws g) (st.R g) Y (u.R g)/\RM.oj ns.length i Y/\(∀c∈Y,c<ns.length)/\v=[some (.ref p),some (.int (ns.length:Nat)),some (.int g),v3,I]) ⟨st,F,[],_,_,N,sd,Step.refl' (aG.refl _),rfl,.nil _,trivial,λc B=>(by cases B),rfl⟩ ?_ ?_⟩
  ·rintro i v H2 hi ⟨u,X,Y,v3,I,N2,S,G,C,J,L,W,rfl⟩
   refine⟨_,rfl,(ns.length:Int),rfl,∅,∅,xS (n:=(ns.length:Int).toNat) (λj v H3=>∃(r:NS) (Z:Addr->Prop) (os:List Nat) (I:Option V),NW K (nc t) t.bA H3 Z p tp ln lr ns M r/\Al ns M bs cl D r/\Step H F H3 Z/\r.ws=st.ws/\RM.Run (ju ns M o st.ws g) (u.R g) os (r.R g)/\(∀c∈os,c<ns.length)/\(∀b:Nat,b<j->(b+i)%ns.length∈os)/\v=[some (.ref p),some (.int (ns.length:Nat)),some (.int g),some (.int (0+(i:Int))),I]) ⟨u,X,[],_,N2,S,G,C,.nil _,λc B=>(by cases B),λb hb=>cy hb (ko _),rfl⟩ ?_ ?_⟩
   ·rintro j v H3 hj ⟨r,Z,os,I,N3,l,A,f,U,y,a,rfl⟩
    obtain⟨loc,dx,q,hp,O,hF,hT⟩:=id N3.dG;have cJ:=O.get .dG _ rfl;rw[hp] at cJ;have ex:(0+(j:Int)+(0+(i:Int)))%(ns.length:Int)=(((j+i)%ns.length:Nat):Int):=by
     rw[dw,dw,Int.natCast_emod,Int.natCast_add]
    have hx:(j+i)%ns.length<ns.length:=Nat.mod_lt _ ∅;refine⟨_,rfl,p,_,_,rfl,cJ,rfl,_,rfl,_,rfl,_,_,rfl,rfl,_,rfl,_,_,rfl,rfl,∅,?_⟩
    try dsimp only
    rw[ex];refine⟨_,rfl,Z,p,tp,ln,lr,ns,M,r,o,(j+i)%ns.length,g,rfl,N3,l.ok,hx,hg,λd F4 H4 hd hf N4 EI _=>?_⟩;obtain⟨r1,r2⟩:=acQ (s:=r) (g:=g) (x:=(j+i)%ns.length) (d:=d);rw[f] at hd;refine⟨_,F4,os++[(j+i)%ns.length],_,N3.done EI N4,l.call hf,A.trans EI,r2.trans f,?_,λc B=>?_,λb hb=>?_,rfl⟩
    ·rw[r1]
     exact U.append (.cons hd (.nil _))
    ·rcases aU.mp B with z|z
     ·exact y c z
     ·rw[aS.mp z];exact hx
    ·by_cases z:b=j
     ·subst z;simp
     ·exact bY _ (a b ∅)
   ·rintro v H3 ⟨r,Z,os,I,N3,l,A,f,U,y,a,rfl⟩
    rw[cO] at a;refine⟨r,Z,Y++os,_,_,N3,l,A,f,J.append U,oj.snoc (λh hh=>?_) L,λc B=>?_,rfl⟩
    ·
     have hlt:(h+(ns.length-i%ns.length))%ns.length<ns.length:=Nat.mod_lt _ ∅
     have:=a _ hlt
     have e:((h+(ns.length-i%ns.length))%ns.length+i)%ns.length=h:=by
      have hi2:i%ns.length<ns.length:=Nat.mod_lt _ ∅;rw[Nat.mod_add_mod]
      have:h+(ns.length-i%ns.length)+i=h+ns.length*(i/ns.length+1):=by
       have:=Nat.div_add_mod i ns.length
       rw[Nat.mul_add,Nat.mul_one];lia
      rw[this,Nat.add_mul_mod_self_left,Nat.mod_eq_of_lt hh]
     rw[e] at this;exact this
    ·rcases aU.mp B with z|z
     ·exact W c z
     ·exact y c z
  ·rintro v H2 ⟨u,X,Y,v3,I,N2,S,G,C,J,L,W,rfl⟩
   refine k u X H2 N2 S ?_ G;rw[C];exact Zr (m:=(2*(ns.length:Int)).toNat) ∅ L W J (sd.ok.fit g hg)
section
variable{ns:List Int}{rs:List R5}{os:List Nat}{f:Nat}{L:List Nat}
def V6(rs:List R5)(r:Nat):Nat:=match rs[r]? with|some re=>re.a.toNat|none=>0
def V7(rs:List R5)(r:Nat):Nat:=match rs[r]? with|some re=>re.b.toNat|none=>0
theorem Fo.ends(F:Fo ns rs os){r:Nat}(g:r∈os):isAt rs (V6 rs r:Int) r=true/\isAt rs (V7 rs r:Int) r=true/\fj rs r (V6 rs r)=V7 rs r/\fj rs r (V7 rs r)=V6 rs r/\V6 rs r<ns.length/\V7 rs r<ns.length/\∀x:Nat,isAt rs (x:Int) r=true->x=V6 rs r∨x=V7 rs r:=by
 have c:=F.lt r g;have o:=F.ok _ (aH c);have n:=o.a0;have m:=o.b0;have l:=o.ab;have j:=o.a1;have k:=o.b1;have d:∀y:Int,isAt rs y r=(decide (y=rs[r].a) || decide (y=rs[r].b)):=λy=>by unfold isAt;rw[aa c]
 have f:V6 rs r=rs[r].a.toNat:=by unfold V6;rw[aa c]
 have i:V7 rs r=rs[r].b.toNat:=by unfold V7;rw[aa c]
 have e:∀y,fj rs r y=gD rs[r] y:=λy=>by unfold fj;rw[aa c]
 rw[e,e,d,d,f,i];unfold gD;refine⟨by simp;lia,by simp;lia,?_,?_,∅,∅,λx h=>?_⟩
 ·rw[aq ∅]
 ·rw[b3 ∅]
 ·rw[d,tL,f5,f5] at h
  lia
end
end
section
variable{ns:List Int}{rs:List R5}{bs:List (List Bool)}{cl:List (Nat×Nat)}{os:Nat->List Nat}{Ls:List (Nat×Option Nat)}{b D:Nat}{s:NS}
theorem ad6{g:Nat}{os:List Nat}(h:Ld o s)(b:g<3)(O:fk (ju ns rs o s.ws g) (s.R g) os):NL rs os s.aE (s.ts g):=λt d=>by
 obtain⟨a,c,r,e,q⟩:=(h.ld g b os O).nt t d;exact⟨a,c,r,e,q.1,q.2.1,q.2.2.2⟩
theorem XX{cp:Cp}{os:List Nat}(hl:s.ls[cp.l]?=some l):(gZ rs s a cp l os ts).ws=s.ws/\(gZ rs s a cp l os ts).R=s.R/\(gZ rs s a cp l os ts).aE=s.aE/\(gZ rs s a cp l os ts).groups=s.groups:=by
 unfold gZ;by_cases c:comes l cp os=true
 ·rw[aq c]
  obtain⟨b,k,i,d⟩:=BW (s:=s) (a:=a) (cp:=cp) (l:=l) (os:=os) (ts:=ts);obtain⟨j,f,e,g⟩:=PJ (rs:=rs) (h:=cp.h) (cK:=some cp.r) (os:=os) (rA (a:=a) (os:=os) (ts:=ts) hl);exact⟨j.trans b,f.trans k,e.trans i,g.trans d⟩
 ·rw[b3 c]
  exact⟨rfl,rfl,rfl,rfl⟩
theorem Uw{a:Nat}{os:List Nat}(e:s.cps[a]?=some cp)(hl:s.ls[cp.l]?=some l){j:Nat}(d:j≠cp.l):(gZ rs s a cp l os ts).ls[j]?=s.ls[j]?/\pend rs (gZ rs s a cp l os ts).cps j=pend rs s.cps j:=by
 have b:=(ai.mp hl).1;obtain⟨_,_,_,_,f⟩:=RT (rs:=rs) e;unfold gZ;by_cases c:comes l cp os=true
 ·rw[aq c]
  have i:(ck s a cp l os ts).cps=s.cps.eraseIdx a:=by unfold ck;split <;> rfl
  have k:(ck s a cp l os ts).ls=s.ls.set cp.l {l with aF:=l.aF++[gU l cp os]}:=by unfold ck;split <;> rfl
  obtain⟨n,m⟩:=FL (rs:=rs) (os:=os) (h:=cp.h) (cK:=some cp.r) (rA (a:=a) (os:=os) (ts:=ts) hl);rw[m];refine⟨?_,?_⟩
  ·show ((ck s a cp l os ts).ls.set cp.l _)[j]?=_
   rw[k,sD,fZ b,b3 d]
  ·show pend rs ((ck s a cp l os ts).cps++_) j=_
   rw[i,pM,f j d]
   have:∀g:List Nat,pend rs (g.map λr=>(⟨cp.l,r,jq (ck s a cp l os ts).ws r (j5 {l with aF:=l.aF++[gU l cp os]}),fj rs r cp.h⟩:Cp)) j=[]:=λg=>by
    unfold pend;rw[vv.mpr λc o=>?_]
    ·rfl
    ·obtain⟨r,_,rfl⟩:=aL.mp o
     simp[bO d]
   rw[this,bQ]
 ·rw[b3 c]
  refine⟨?_,f j d⟩;show (s.ls.set cp.l _)[j]?=_;rw[fZ b,b3 d]
structure Ux(ns:List Int)(rs:List R5)(o:cN ns rs)(bs:List (List Bool))(cl:List (Nat×Nat))(os:Nat->List Nat)(b:Nat)(Ls:List (Nat×Option Nat))(D:Nat)(s:NS):Prop where
 sd:Al ns rs bs cl D s
 aj:AJ ns rs os b Ls s
 op:∀g,g<3->fk (ju ns rs o s.ws g) (s.R g) (os g)
 nT:∀g,g<3->(os g).length<=12
theorem Ux.start(h:Al ns rs bs cl D s)(op:∀g,g<3->fk (ju ns rs o s.ws g) (s.R g) (os g))(l:∀g,g<3->(os g).length<=12):Ux ns rs o bs cl os s.ls.length [] D s:=by
 have t:∀g,g<3->Fo ns rs (os g):=λg b=>Fo.of (op g b);refine⟨h,⟨t,λg b r q k=>?_,rfl,λg b=>ad6 (h.ld o) b (op g b),λi x y u=>(by cases u)⟩,op,l⟩;obtain⟨f,w,p,j⟩:=Cr (op g b) q;have a:=p;rw[h.ws,ak] at a;cases e:bs[r]? with
 |none=>rw[e] at a;cases a
 |some c =>
  rw[e] at a;cases a;unfold jq dN;rw[p,aa f];show (stand c).getD (k%(stand c).length) 0<rs[r].d.toNat;have n:k%(stand c).length<(stand c).length:=Nat.mod_lt _ (List.length_pos_iff.mpr j);rw[ao,aa n];have m:=iA.mp (aH n);have z:=(ai.mp m).1;have v:=h.fit.2 r _ _ (aa f) e;show (stand c)[k%(stand c).length]<_;lia
theorem Ux.post{x:Nat}{to:Option Nat}(h:Ux ns rs o bs cl os b Ls D s)(a:x<s.aE.length)(j:∀y,to=some y->y<s.aE.length/\s.groups[y]?=s.groups[x]?)(O:fk (ju ns rs o s.ws (s.groups.getD x 0)) (s.R (s.groups.getD x 0)) os'):Ux ns rs o bs cl os b (Ls++[(x,to)]) (D+100) (nW rs s x to os'):=by
 have e:x<s.groups.length:=by rw[h.sd.bd.gl];exact a
 have g3:s.groups.getD x 0<3:=h.sd.bd.g3 _ (by rw[ao,aa e];exact aH e);have f:=O.uniq (h.op _ g3);subst f;obtain⟨d,c,_,_⟩:=PJ (rs:=rs) (h:=s.aE.getD x 0) (cK:=none) (os:=os (s.groups.getD x 0)) (s:=k8 s x to) (i:=s.ls.length) (l:={gk s x to with aF:=[.post (s.aE.getD x 0)]}) pL;have d:(nW rs s x to (os (s.groups.getD x 0))).ws=s.ws:=d;have c:(nW rs s x to (os (s.groups.getD x 0))).R=s.R:=c;exact⟨h.sd.post o a O (h.nT _ g3),h.aj.post h.sd.bd rfl a j,λg k=>by rw[d,c];exact h.op g k,h.nT⟩
theorem Ux.pass{a:Nat}{ts:List T3}(h:Ux ns rs o bs cl os b Ls D s)(c:s.cps[a]?=some cp)(hl:s.ls[cp.l]?=some l)(O:fk (ju ns rs o s.ws l.grp) (s.R l.grp) os')(p:ts.Perm (put3 (s.ts l.grp) cp.h l.s cp.r))(w:fF ts):(cp.l<b∨Ak l cp os' = "come")/\Ux ns rs o bs cl os b Ls (D+100) (gZ rs s a cp l os' ts)/\Ph ns.length rs (gZ rs s a cp l os' ts)+1<=Ph ns.length rs s:=by
 have N:=(ai.mp hl).1;have n:l.grp<3:=(h.sd.bd.lb l (aC hl)).2.2.1;have K:=O.uniq (h.op _ n);subst K;obtain⟨y,L,u,v⟩:=XX (rs:=rs) (a:=a) (os:=os l.grp) (ts:=ts) hl;have d:=h.sd.pass o hl c O (h.nT _ n) p w;have e:∀g,g<3->fk (ju ns rs o (gZ rs s a cp l (os l.grp) ts).ws g) ((gZ rs s a cp l (os l.grp) ts).R g) (os g):=λg f=>by rw[y,L];exact h.op g f
 have t:=V0 (ts:=ts) (h.aj.fo _ n) c hl (h.sd.bd.cl cp (aC c)).2.2;by_cases z:cp.l<b
 ·refine⟨.inl z,⟨d,⟨h.aj.fo,λg f r B k=>by rw[y];exact h.aj.wr g f r B k,by rw[Lv hl];exact h.aj.ll,λg f=>ad6 (d.ld o) f (e g f),λi x M q=>?_⟩,e,h.nT⟩,t⟩
  obtain⟨J,E,F,C,G,P,H⟩:=h.aj.li i x M q;obtain⟨I,A⟩:=Uw (rs:=rs) (os:=os l.grp) (ts:=ts) c hl (j:=b+i) ∅;refine⟨J,E,by rw[I];exact F,C,by rw[u,v];exact G,?_,H⟩;rw[A,u,v];exact P
 ·have q:cp.l-b<Ls.length:=by have:=h.aj.ll;lia
  obtain⟨m,aj⟩:=h.aj.pass h.sd.bd c hl (aa q) ∅ p w;refine⟨.inr ?_,⟨d,aj,e,h.nT⟩,t⟩;unfold comes at m;rw[dj,f5,pS] at m;unfold Ak;rw[aq m.1,m.2,b3 (!_)]
theorem aaO{os:List Nat}(F:Fo ns rs os):Rw rs os rs.length x z↔Gr.Reach (gw rs os) (x:Int) (z:Int):=by
 have d:∀{k:Nat} {r:Nat},os[k]?=some r->(gw rs os)[k]?=some ((V6 rs r:Int),(V7 rs r:Int)):=λ{k r} e=>by
  have c:=F.lt r (aC e);have o:=F.ok _ (aH c);have G:=o.a0;have D:=o.b0;show (os.map (pairOf rs))[k]?=_;rw[ak,e];show some (pairOf rs r)=_;rw[tF c];unfold V6 V7;rw[aa c];show some (rs[r].a,rs[r].b)=some (((rs[r].a.toNat:Nat):Int),((rs[r].b.toNat:Nat):Int));rw[rE G,rE D]
 constructor
 ·intro t
  induction t with
  |refl=>exact .refl _
  |@step y r t c J C i =>
   obtain⟨k,m⟩:=cE c;obtain⟨_,_,f,g,_,_,B⟩:=F.ends c;refine .step (k:=k) i ?_;rcases B y C with e|e
   ·rw[e,f];exact .inl (d m)
   ·rw[e,g];exact .inr (d m)
 ·intro t
  have h:∀{u v:Int},Gr.Reach (gw rs os) u v->∀x:Nat,u=(x:Int)->∃z:Nat,v=(z:Int)/\Rw rs os rs.length x z:=λ{u v} t=>by
   induction t with
   |refl=>exact λx e=>⟨x,e,.refl⟩
   |@step y v k t ad i =>
    intro x e;obtain⟨n,I,p⟩:=i x e;cases q:os[k]? with
    |none =>
     exfalso
     have:(gw rs os)[k]?=none:=by show (os.map (pairOf rs))[k]?=none;rw[ak,q];rfl
     rcases ad with w|w <;> (rw[this] at w;cases w)
    |some r =>
     have c:=aC q;obtain⟨H,E,f,g,_⟩:=F.ends c;have j:=bH (F.lt r c);rcases ad with w|w
     ·rw[d q] at w
      obtain⟨s,l⟩:=Prod.mk.inj (aJ w)
      have:n=V6 rs r:=∅
      subst this;exact⟨V7 rs r,l.symm,f▸.step p c j H⟩
     ·rw[d q] at w
      obtain⟨s,l⟩:=Prod.mk.inj (aJ w)
      have:n=V7 rs r:=∅
      subst this;exact⟨V6 rs r,s.symm,g▸.step p c j E⟩
  obtain⟨A,e,q⟩:=h t x rfl
  have:z=A:=∅
  rw[this];exact q
theorem XY{os:List Nat}(i:RM.Rest (ju ns rs o ws g) R)(sS:RM.Sane (ju ns rs o ws g) R)(O:fk (ju ns rs o ws g) R os)(L:Gr.UZ (gw rs (tY rs ws g)) ns.length M){f z:Nat}(h:f<ns.length)(k:z<ns.length):M.getD z 0=M.getD f 0↔Rw rs os rs.length f z:=by
 rw[aaO (Fo.of O),S9 i sS O h];obtain⟨a,n,_,d,l⟩:=L.at_ z k;obtain⟨c,j,_,b,m⟩:=L.at_ f h;rw[ao,ao,n,j];show a=c↔_;constructor
 ·intro e
  subst e;exact b.symm.trans d
 ·intro t
  have q:=l c (t.symm.trans b.symm);have p:=m a (t.trans d.symm);lia
end
section
variable{P:Program}{w:World}{K:ah}{mg:Str->Option Value}{base:Heap}
section
variable{ns:List Int}{rs:List R5}{os:List Nat}{f:Nat}
abbrev WS:=List (Nat×Option Nat)×List (Nat×Nat)
def iW(st:WS):cV->WS
 |.p6 h r=>(st.1++[(h,some r)],st.2)
 |.send h r _=>(st.1,st.2++[(h,r)])
 |_=>st
def okW(rs:List R5)(os:List Nat)(st:WS):cV->Prop
 |.p6 h r=>h∉st.1.map (·.1)/\∃p,(p,r)∈st.2/\r<rs.length/\(V6 rs r:Int)+V7 rs r-h=p
 |.send h r x=>r∈os/\isAt rs (h:Int) r=true/\(h,r)∉st.2/\x<dN rs r/\∃o,(h,o)∈st.1/\o≠some r
 |.hand h _=>h∈st.1.map (·.1)
 |_=>False
def zT(rs:List R5)(os:List Nat):WS->List cV->Prop
 |_,[]=>True
 |st,d::ds=>okW rs os st d/\zT rs os (iW st d) ds
theorem zT.app:∀{ds a:List cV} {st:WS},zT rs os st ds->zT rs os (ds.foldl iW st) a->zT rs os st (ds++a)
 |[],_,_,_,h=>h
 |d::ds,a,st,b,c=>⟨b.1,zT.app (ds:=ds) b.2 c⟩
theorem zT.at_:∀{ds:List cV} {st:WS} {j:Nat} {d:cV},zT rs os st ds->ds[j]?=some d->okW rs os ((ds.take j).foldl iW st) d
 |d::ds,st,0,d',h,e=>by cases e;exact h.1
 |d::ds,st,j+1,d',h,e=>zT.at_ (ds:=ds) (j:=j) h.2 e
theorem XZ{st:WS}:(iW st d).1.length<=st.1.length+1/\(iW st d).2.length<=st.2.length+1:=by
 cases d <;> simp[iW]
theorem NR:∀{ds:List cV} {st:WS},(ds.foldl iW st).1.length<=st.1.length+ds.length/\(ds.foldl iW st).2.length<=st.2.length+ds.length
 |[],st=>⟨az _,az _⟩
 |d::ds,st=>by
  have b:=XZ (st:=st) (d:=d);have a:=NR (ds:=ds) (st:=iW st d);rw[jb,aV];lia
def Lx(E:List EE):List (Nat×Option Nat):=E.map λx=>(x.e.h,x.e.by?)
def II(E:List EE):List (Nat×Nat):=E.flatMap λx=>x.gs.map λr=>(x.e.h,r)
theorem PK{h:Nat}:∀{cs:List Nat} {st:WS},h∈st.1.map (·.1)->zT rs os st (cs.map (cV.hand h))/\(cs.map (cV.hand h)).foldl iW st=st
 |[],_,_=>⟨trivial,rfl⟩
 |_::cs,_,a=>⟨⟨a,(PK (cs:=cs) a).1⟩,(PK (cs:=cs) a).2⟩
theorem V8{h:Nat}{o:Option Nat}{wf:Nat->Nat}:∀{gs:List Nat} {st:WS},(h,o)∈st.1->gs.Nodup->(∀r∈gs,r∈os/\isAt rs (h:Int) r=true/\wf r<dN rs r/\o≠some r/\(h,r)∉st.2)->zT rs os st (gs.map λr=>cV.send h r (wf r))/\(gs.map λr=>cV.send h r (wf r)).foldl iW st=(st.1,st.2++gs.map λr=>(h,r))
 |[],st,_,_,_=>⟨trivial,by show st=_;rw[xM,bQ]⟩
 |r::gs,st,b,nd,d=>by
  obtain⟨l,u⟩:=dm.mp nd;obtain⟨q,n,m,f,g⟩:=d r bE;obtain⟨s,p⟩:=V8 (wf:=wf) (gs:=gs) (st:=(st.1,st.2++[(h,r)])) b u λc a=>by
   obtain⟨t,i,e,j,k⟩:=d c (bf _ a);refine⟨t,i,e,j,λz=>?_⟩;rcases aU.mp z with z|z
   ·exact k z
   ·have:=ff (·.2) (aS.mp z)
    have:c=r:=this
    exact l (this▸a)
  refine⟨⟨⟨q,n,g,m,o,b,f⟩,s⟩,?_⟩;show ((gs.map λr=>cV.send h r (wf r)).foldl iW (st.1,st.2++[(h,r)]))=_;rw[p,gi];rfl
theorem acR(F:Fo ns rs os)(w:LJ ns rs os hs one f dn ds Pn E):∀k,k<=E.length->∀n E0,E.take k=n::E0->(((n::E0).flatMap (EE.vn hs)).drop 1).foldl iW ([(n.e.h,none)],[])=(Lx (n::E0),II (n::E0))/\zT rs os ([(n.e.h,none)],[]) (((n::E0).flatMap (EE.vn hs)).drop 1):=by
 have t:(E.map (·.e.h)).Nodup:=by
  have:=w.wj.nd
  rw[aK,g8,bV] at this;exact this.1
 have s:∀(k:Nat) (x:EE) (c:List (Nat×Option Nat)),E[k]?=some x->(x.e.h,x.e.by?)∈c->zT rs os (c,II (E.take k)) ((hs x.e.h).map (cV.hand x.e.h)++x.gs.map λr=>cV.send x.e.h r (x.wf r))/\((hs x.e.h).map (cV.hand x.e.h)++x.gs.map λr=>cV.send x.e.h r (x.wf r)).foldl iW (c,II (E.take k))=(c,II (E.take k)++x.gs.map λr=>(x.e.h,r)):=λk x c N R=>by
  have G:=aC N;obtain⟨g1,g2⟩:=w.gs x G;obtain⟨a1,T⟩:=PK (rs:=rs) (os:=os) (h:=x.e.h) (cs:=hs x.e.h) (st:=(c,II (E.take k))) (aL.mpr ⟨_,R,rfl⟩);obtain⟨b1,b2⟩:=V8 (rs:=rs) (os:=os) (wf:=x.wf) (gs:=x.gs) (st:=(c,II (E.take k))) R g1 λr hr=>by
   obtain⟨q1,V,_⟩:=g2 r hr;obtain⟨Y,q4,q5⟩:=jT.mp q1;refine⟨Y,q4,V,λz=>q5 z.symm,λz=>?_⟩;obtain⟨y,hy,z⟩:=List.mem_flatMap.mp z;obtain⟨r',_,z⟩:=aL.mp z;have z:y.e.h=x.e.h:=ff (·.1) z;obtain⟨j,H⟩:=cE hy;have L:=(ai.mp H).1;rw[cu] at L;rw[eF ∅] at H;have q:(E.map (·.e.h))[j]?=(E.map (·.e.h))[k]?:=by
    rw[ak,ak,H,N];exact ff some z
   have:=(wm (by rw[af];lia) t).mp q
   lia
  refine⟨zT.app a1 (by rw[T];exact b1),?_⟩;rw[pP,T,b2]
 intro k;induction k with
 |zero=>intro _ n E0 h;rw[List.take_zero] at h;cases h
 |succ k ih =>
  intro N n E0 o;have S:k<E.length:=∅
  have g:E[k]?=some E[k]:=aa S;rw[dF S] at o;cases k with
  |zero =>
   rw[List.take_zero] at o;have o:[E[0]]=n::E0:=o;cases o;have h0:=(w.h0 0 _ g).mpr rfl;have A:(E[0]).e.by?=none:=by unfold En.by?;rw[h0];rfl
   obtain⟨B,u⟩:=s 0 E[0] [((E[0]).e.h,none)] g (by rw[A];simp);rw[List.take_zero] at B u;have I:([E[0]].flatMap (EE.vn hs)).drop 1=(hs (E[0]).e.h).map (cV.hand (E[0]).e.h)++(E[0]).gs.map λr=>cV.send (E[0]).e.h r ((E[0]).wf r):=by
    rw[wu,List.flatMap_nil,bQ];rfl
   rw[I];refine⟨?_,B⟩;rw[show ([]:List (Nat×Nat))=II [] from rfl,u];show ([((E[0]).e.h,none)],_)=([((E[0]).e.h,(E[0]).e.by?)],_);rw[A];unfold II;rw[List.flatMap_nil,wu,List.flatMap_nil,bQ];rfl
  |succ k =>
   obtain⟨d,l,D⟩:∃d l,E.take (k+1)=d::l:=by
    cases q:E.take (k+1) with
    |nil =>
     have:=ff wk q
     rw[cu,List.length_nil] at this;lia
    |cons a b=>exact⟨a,b,rfl⟩
   obtain⟨Q,i2⟩:=ih ∅ d l D;rw[D] at o;have o:d::(l++[E[k+1]])=n::E0:=o;have e1:d=n:=(pQ o).1;have e2:=(pQ o).2;subst e1 e2;generalize ex:E[k+1]=x at g;have G:=aC g;have m:∃r p,x.e.fr=some (r,p):=by
    cases q:x.e.fr with
    |none=>have:=(w.h0 _ x g).mp q;lia
    |some v=>exact⟨v.1,v.2,rfl⟩
   obtain⟨r,p,m⟩:=m;obtain⟨P,f2,U,_,_⟩:=w.wj.fr x.e (bY _ (bW G)) r p m;obtain⟨j,y,j1,j2,j3,j4⟩:=w.od _ x g r p m;have A:x.e.by?=some r:=by unfold En.by?;rw[m];rfl
   have nh:x.e.h∉(Lx (d::l)).map (·.1):=λz=>by
    unfold Lx at z;rw[bV] at z;obtain⟨y',C,z⟩:=aL.mp z;have z:y'.e.h=x.e.h:=z;rw[<- D] at C;obtain⟨i,K⟩:=cE C;have M:=(ai.mp K).1;rw[cu] at M;rw[eF ∅] at K;have q:(E.map (·.e.h))[i]?=(E.map (·.e.h))[k+1]?:=by
     rw[ak,ak,K,g];exact ff some z
    have:=(wm (by rw[af];lia) t).mp q
    lia
   have J:(p,r)∈II (d::l):=by
    rw[<- D];refine List.mem_flatMap.mpr ⟨y,?_,aL.mpr ⟨r,j4,by rw[j3]⟩⟩;refine aC (i:=j) ?_;rw[eF j1];exact j2
   have O:(V6 rs r:Int)+V7 rs r-x.e.h=p:=by
    obtain⟨_,_,Z,e4,_,_,W⟩:=F.ends P;rcases W p f2 with z|z
    ·rw[z,Z] at U;lia
    ·rw[z,e4] at U;lia
   have X:okW rs os (Lx (d::l),II (d::l)) (.p6 x.e.h r):=⟨nh,p,J,F.lt r P,O⟩;obtain⟨B,u⟩:=s (k+1) x (Lx (d::l)++[(x.e.h,some r)]) g (by rw[A];simp);rw[D] at B u;have I:((d::(l++[x])).flatMap (EE.vn hs)).drop 1=((d::l).flatMap (EE.vn hs)).drop 1++(cV.p6 x.e.h r::((hs x.e.h).map (cV.hand x.e.h)++x.gs.map λr=>cV.send x.e.h r (x.wf r))):=by
    have:(d::(l++[x])).flatMap (EE.vn hs)=(d::l).flatMap (EE.vn hs)++EE.vn hs x:=by
     rw[<- List.cons_append,List.flatMap_append,wu (xs:=[]),List.flatMap_nil,bQ]
    rw[this,List.drop_append_of_le_length (by rw[wu,aB];show 1<=(PD d.e::_).length+_;rw[aV];lia)];congr 1;unfold EE.vn PD;rw[m]
   rw[I];refine⟨?_,zT.app i2 (by rw[Q];exact⟨X,B⟩)⟩;rw[pP,Q,jb];show ((hs x.e.h).map (cV.hand x.e.h)++x.gs.map λr=>cV.send x.e.h r (x.wf r)).foldl iW (Lx (d::l)++[(x.e.h,some r)],II (d::l))=_;rw[u];unfold Lx II;rw[<- List.cons_append,aK,List.flatMap_append,<- A];simp
end
def MB(S:List (Nat×Nat)):List (List Key×V):=S.map λp=>(keyOf p.1 p.2,V.bl true)
theorem Uy{h r:Nat}:∀{S:List (Nat×Nat)},(yI (MB S) (keyOf h r)).isSome=decide ((h,r)∈S)
 |[]=>rfl
 |p::S=>by
  show (yI ((keyOf p.1 p.2,_)::MB S) _).isSome=_;by_cases e:p=(h,r)
  ·subst e
   rw[tO rfl];simp
  ·rw[tP (λz=>e (by
    have c:=wc (pQ z).1;have b:=wc (pQ (pQ z).2).1;rw[Prod.ext_iff];exact⟨∅,∅⟩)),Uy (S:=S)]
   have a:¬(h,r)=p:=λz=>e z.symm;simp[a]
theorem none_of{o:Option V}(h:o.isSome=false):o=none:=by cases o with|none=>rfl|some v=>cases h
theorem NT{rs:List R5}{os:List Nat}:∀{ds:List cV} {st:WS} (j:Nat),zT rs os st ds->zT rs os st (ds.take j)
 |[],st,j,h=>by rw[List.take_nil];exact h
 |d::ds,st,0,h=>trivial
 |d::ds,st,j+1,h=>⟨h.1,NT j h.2⟩
end
section
variable{ns:List Int}{rs:List R5}{os:List Nat}{aE groups:List Nat}{x f:Nat}{E:List EE}
def PL:cV->Option T2
 |.hand h c=>some ((h:Int),(c:Int))
 |_=>none
def zU(hs:Nat->List Nat)(E:List EE):List T2:=E.flatMap λy=>(hs y.e.h).map λc:Nat=>((y.e.h:Int),(c:Int))
theorem R9:(E.flatMap (EE.vn hs)).filterMap PL=zU hs E:=by
 unfold zU;rw[List.filterMap_flatMap];congr 1;funext y;unfold EE.vn;have d:PL (PD y.e)=none:=by unfold PD;split <;> rfl
 rw[List.filterMap_cons_none d,xN];have b:((hs y.e.h).map (cV.hand y.e.h)).filterMap PL=(hs y.e.h).map λc:Nat=>((y.e.h:Int),(c:Int)):=by
  rw[List.filterMap_map]
  have:(PL∘cV.hand y.e.h)=some∘λc:Nat=>((y.e.h:Int),(c:Int)):=rfl
  rw[this,List.filterMap_eq_map]
 have a:(y.gs.map λr=>cV.send y.e.h r (y.wf r)).filterMap PL=[]:=by
  rw[List.filterMap_map];exact List.filterMap_eq_nil_iff.mpr λr _=>rfl
 rw[b,a,bQ]
theorem Jb{c:Nat}:c∈LQ aE groups x to h↔aE[c]?=some h/\groups[c]?=groups[x]?/\match to with|none=>c≠x|some y=>c=y:=by
 unfold LQ;rw[aT,bB,dj,f5];cases to with
 |none =>
  show c<aE.length/\(_/\_)/\(!decide (c=x))=true↔_;rw[pS,decide_eq_false_iff_not];exact⟨λz=>⟨z.2.1.1,z.2.1.2,z.2.2⟩,λz=>⟨(ai.mp z.1).1,⟨z.1,z.2.1⟩,z.2.2⟩⟩
 |some y =>
  show c<aE.length/\(_/\_)/\decide (c=y)=true↔_;rw[f5];exact⟨λz=>⟨z.2.1.1,z.2.1.2,z.2.2⟩,λz=>⟨(ai.mp z.1).1,⟨z.1,z.2.1⟩,z.2.2⟩⟩
theorem Ly{p:T2}:p∈zU (LQ aE groups x to) E↔∃h c:Nat,p=((h:Int),(c:Int))/\h∈E.map (·.e.h)/\c∈LQ aE groups x to h:=by
 unfold zU;rw[List.mem_flatMap];constructor
 ·rintro⟨y,a,d⟩
  obtain⟨c,b,rfl⟩:=aL.mp d;exact⟨y.e.h,c,rfl,bW a,b⟩
 ·rintro⟨h,c,rfl,f,b⟩
  obtain⟨y,a,rfl⟩:=aL.mp f;exact⟨y,a,aL.mpr ⟨c,b,rfl⟩⟩
theorem NU(nd:(E.map (·.e.h)).Nodup):(zU (LQ aE groups x to) E).Nodup:=by
 refine List.pairwise_flatMap.mpr ⟨λy _=>?_,?_⟩
 ·refine kr.mpr (List.Pairwise.imp_of_mem ?_ (tK (l₁:=LQ aE groups x to y.e.h) fW rB))
  intro a b _ _ f z;exact f (by have:=ff (·.2) z;simp at this;lia)
 ·refine List.Pairwise.imp ?_ (kr.mp nd)
  intro a b f p g q i z;obtain⟨c,_,rfl⟩:=aL.mp g;obtain⟨d,_,rfl⟩:=aL.mp i;exact f (by have:=ff (·.1) z;simp at this;lia)
theorem Lz(h:IV ts):ts.Pairwise λx y=>Gp y x=false:=List.pairwise_iff_getElem.mpr λi j b c a=>h i j _ _ a (aa b) (aa c)
theorem PM(f:IV xs)(e:IV ys)(p:xs.Perm ys):xs=ys:=by
 refine p.eq_of_pairwise (λa b _ _ d c=>?_) (Lz f) (Lz e);have d:¬Gp b a=true:=by rw[d];exact aI
 have c:¬Gp a b=true:=by rw[c];exact aI
 rw[Cb] at d c;exact Prod.ext_iff.mpr ⟨∅,∅⟩
theorem X0{y:Nat}(nd:(E.map (·.e.h)).Nodup)(f:aE[y]?=some z)(j:groups[y]?=groups[x]?):(zU (LQ aE groups x (some y)) E).Perm (if z∈E.map (·.e.h) then [((z:Int),(y:Int))] else []):=by
 refine (List.perm_ext_iff_of_nodup (NU nd) (by split <;> simp)).mpr λp=>?_;rw[Ly];constructor
 ·rintro⟨h,c,rfl,g,k⟩
  obtain⟨d,_,b⟩:=Jb.mp k;have b:c=y:=b;subst b;rw[f] at d;cases d;rw[aq g];simp
 ·intro a
  split at a
  ·rename_i i
   rw[aS.mp a];exact⟨z,y,rfl,i,Jb.mpr ⟨f,j,rfl⟩⟩
  ·cases a
def vp(aE groups:List Nat)(x:Nat)(L:List Nat)(k:Nat):List T2:=(av k).filterMap λc:Nat=>if c≠x/\groups[c]?=groups[x]?/\aE.getD c 0∈L then some ((aE.getD c 0:Int),(c:Int)) else none
theorem Yb{L:List Nat}(nd:(E.map (·.e.h)).Nodup)(l:∀z,z∈L↔z∈E.map (·.e.h)):(zU (LQ aE groups x none) E).Perm (vp aE groups x L aE.length):=by
 have m:∀p,p∈vp aE groups x L aE.length↔∃c:Nat,c<aE.length/\(c≠x/\groups[c]?=groups[x]?/\aE.getD c 0∈L)/\p=((aE.getD c 0:Int),(c:Int)):=λp=>by
  unfold vp;rw[iM];constructor
  ·rintro⟨c,d,e⟩
   split at e
   ·rename_i q
    exact⟨c,bB.mp d,q,(aJ e).symm⟩
   ·cases e
  ·rintro⟨c,d,q,rfl⟩
   exact⟨c,bB.mpr d,aq q⟩
 refine (List.perm_ext_iff_of_nodup (NU nd) ?_).mpr λp=>?_
 ·refine List.pairwise_filterMap.mpr (List.Pairwise.imp ?_ rB)
  intro a b o p j q g z;split at j
  ·split at g
   ·cases j
    cases g;exact o (by have:=ff (·.2) z;simp at this;lia)
   ·cases g
  ·cases j
 ·rw[Ly,m]
  constructor
  ·rintro⟨h,c,rfl,n,d⟩
   obtain⟨f,k,i⟩:=Jb.mp d;have e:aE.getD c 0=h:=by rw[ao,f];rfl
   exact⟨c,(ai.mp f).1,⟨i,k,by rw[e];exact (l h).mpr n⟩,by rw[e]⟩
  ·rintro⟨c,d,⟨f,k,i⟩,rfl⟩
   refine⟨aE.getD c 0,c,rfl,(l _).mp i,Jb.mpr ⟨?_,k,f⟩⟩;rw[ao,aa d];rfl
end
section
variable{P:Program}{w:World}{K:ah}{mg:Str->Option Value}{base:Heap}
def LA(C:List (Nat×Option Nat)):List (Key×V):=C.map λp=>(eT (p.1:Int),V.bl true)
theorem Jc{h:Nat}:∀{C:List (Nat×Option Nat)},(yI (LA C) (eT (h:Int))).isSome=decide (h∈C.map (·.1))
 |[]=>rfl
 |p::C=>by
  show (yI ((eT (p.1:Int),_)::LA C) _).isSome=_;by_cases e:p.1=h
  ·subst e
   rw[tO rfl];simp
  ·rw[tP (λz=>e (by have:=wc z;lia)),Jc (C:=C)]
   have a:¬h=p.1:=λz=>e z.symm;simp[a]
theorem ad7{rs:List R5}{os:List Nat}:∀{ds:List cV} {st:WS},zT rs os st ds->(∀q∈st.2,q.1∈st.1.map (·.1))->∀q∈(ds.foldl iW st).2,q.1∈(ds.foldl iW st).1.map (·.1)
 |[],_,_,h=>h
 |d::ds,st,a,h=>by
  refine ad7 (ds:=ds) a.2 ?_;have e:=a.1;cases d with
  |p6 c r =>
   intro q b;show q.1∈List.map (λp:Nat×Option Nat=>p.1) (st.1++[(c,some r)]);rw[aK];exact bY _ (h q b)
  |send c r x =>
   intro q b;rcases aU.mp b with z|z
   ·exact h q z
   ·rw[aS.mp z]
    obtain⟨_,_,_,_,o,f,_⟩:=e;exact aL.mpr ⟨_,f,rfl⟩
  |post _=>exact h
  |hand _ _=>exact h
  |twice _ _=>exact h
  |LZ _ _=>exact h
inductive Sa(K:ah)(vs:List V)(H:Hp)(Q:VK)(E:XK):Prop
 |mk (b a:Addr) (qs:List Addr) (n:Nat) (rs:List R5) (os:List Nat) (f:Nat) (ds:List cV):vs=[.ref b,.ref a]->JP K H b rs->bN K H a (qs.map V.ref)->dg K H qs ((cV.post f::ds).map cV.vs)->(∀r∈rs,r.Ok n)->(∀r∈os,r<rs.length)->zT rs os ([(f,none)],[]) ds->ds.length<=900000->(ds.foldl iW ([(f,none)],[])).1.length<64->(∀l (ms:List Int) H',aG H H'->H l=none->H' l=some (.lst (ms.map V.int))->ms.Perm ((ds.foldl iW ([(f,none)],[])).1.map λp=>(p.1:Int))->ms.Pairwise (·<=·)->Q (.ref l) H')->Sa K vs H Q E
theorem Sb(T:Txt K mg t):cH P w K mg base iS 1 t.uC t.zl ["_law_ropes_here","_law_story"]  (Sa K):=by
 refine T.Kh.F.jK qS λH Q E hr h=>?_
 ·obtain⟨b,a,qs,n,rs,os,f,ds,rfl,⟨us,hL,xJ⟩,hA,M,rok,olt,all,hdl,h64,k⟩:=h
  have eus:us.length=rs.length:=by rw[xJ.len,af]
  have eqs:qs.length=ds.length+1:=by rw[M.len,af];rfl
  refine⟨_,(au (sS 2 qS (abn (Ze (xT (xL (pv 1) aA) aA) Ep abm) rfl rfl (by intro z;cases z) (by show 1<=15;decide))) (au (sS 3 qS Js) (au (fS (fE (qQ Ol (pv 1) (mR aA) EB)) (gT 4 qS) (au (b6 (qT i6 (xT (pv 4) aA) gm) (bz (IM (CD hr) (pv 3) (fY (k9 (xT (pv 4) aA) (xT (pv 4) aA))) Ep rfl)) bw) (au (b6 (qT i6 (xT (pv 4) aA) gm) (au (sS 5 qS (aY Dg (aY fH (xT (xL (pv 0) (xT (pv 4) aA)) aA) (xT (xL (pv 0) (xT (pv 4) aA)) aA)) (xT (pv 4) aA))) (au (b6 (PW.pt (CB (Od (Zb (CD hr) (xT (pv 4) aA) (pv 2)) (by with_unfolding_all rfl)) (CB (Od (MP (CD hr) (fY (k9 (pv 5) (xT (pv 4) aA))) (pv 3)) (by with_unfolding_all rfl)) (De (Od (MP (CD hr) (pv 5) (pv 2)) (by with_unfolding_all rfl)))))) (oR (gV fX)) bw) (bz (IM (CD hr) (pv 2) (xT (pv 4) aA) Ep rfl)))) bw) (bz (b6 (PW.pt (CB (qT i6 (xT (pv 4) aA) gm) (De (qT i6 (xT (pv 4) aA) gm)))) (oR (gV fX)) bw))))) (oR (cB (OE rfl) T.Bb boot_sorted (gE (pv 2))))))),?_⟩
  left
  obtain⟨q0,u,rfl⟩:∃q0 u,qs=q0::u:=by cases qs with|nil=>cases eqs|cons q qs=>exact⟨q,qs,rfl⟩
  have Lb:=M.at' 0 q0 _ rfl rfl;have hqt:dg K H u (ds.map cV.vs):=⟨Nat.succ.inj M.len,λi q x e1 e2=>M.at' (i+1) q x e1 e2⟩;have eq':u.length=ds.length:=Nat.succ.inj eqs;refine bC λR g=>?_;refine λm N=>?_;have u0:=aG.new (o:=.dK []) N;refine⟨_,rfl,a,_,0,_,rfl,rfl,u0.seq hA,c5 (j:=0) rfl,q0,_,1,_,rfl,rfl,u0.cz Lb,rfl,?_⟩;refine⟨ay,[(eT (f:Int),.bl true)],rfl,(by show 1<=15;decide),?_⟩;have s1:aG H (upd (upd H m (.dK [])) m (.dK (Az [] [(eT (f:Int),.bl true)]))):=u0.out N;have agj:upd (upd H m (.dK [])) m (.dK (Az [] [(eT (f:Int),.bl true)])) m=some (.dK (LA [(f,none)])):=ay;refine g _ _ ?_;generalize upd (upd H m (.dK [])) m (.dK (Az [] [(eT (f:Int),.bl true)]))=H1 at s1 agj;refine bC λR g=>?_;refine λB U=>g _ _ ?_;have n1:H B=none:=s1.free U;have X:m≠B:=aQ agj U;have s2:=s1.trans (aG.new (o:=.dT []) U);have agk:upd H1 B (.dT []) B=some (.dT (MB [])):=ay;have Y:upd H1 B (.dT []) m=some (.dK (LA [(f,none)])):=by rw[aO X];exact agj
  generalize upd H1 B (.dT [])=H2 at s2 agk Y;refine bC λR g=>?_;refine⟨_,rfl,_,rfl,a,_,rfl,s2.seq hA,λlt J=>?_⟩;have ct:Av ((q0::u).map V.ref) (some 1) none=u.map V.ref:=JD _ 1;rw[ct];have s3:=s2.trans (aG.new (o:=.lst (u.map V.ref)) J);have Hj:=ay (H:=H2) (a:=lt) (o:=.lst (u.map V.ref));have ajn:=aG.new (o:=.lst (u.map V.ref)) J _ _ agk;have ajo:=aG.new (o:=.lst (u.map V.ref)) J _ _ Y;have ntc:lt≠m:=bO (aQ Y J);have nts:lt≠B:=bO (aQ agk J);generalize upd H2 lt (.lst (u.map V.ref))=H3 at s3 Hj ajn ajo;refine⟨lt,rfl,⟨_,bN.of Hj⟩,tE (K:=K) (a:=lt) (xs:=u.map V.ref) (λj σ s=>aG H s/\s lt=some (.lst (u.map V.ref))/\s m=some (.dK (LA ((ds.take j).foldl iW ([(f,none)],[])).1))/\s B=some (.dT (MB ((ds.take j).foldl iW ([(f,none)],[])).2))/\∃v4 v5:Option V,σ=[some (.ref b),some (.ref a),some (.ref m),some (.ref B),v4,v5]) ⟨s3,Hj,ajo,ajn,_,_,rfl⟩ (λj σ s _ z=>bN.of z.2.1) ?_ ?_⟩
  ·rintro j y σ s Nf vf hj ⟨L,Uz,S,D,v4,v5,rfl⟩
   have hjq:j<u.length:=by
    have:=(ai.mp hj).1
    rw[af] at this;exact this
   have Z:j<ds.length:=∅
   rw[ak,aa hjq] at hj;cases hj;have G:=hqt.at' j u[j] (ds[j]).vs (aa hjq) (by rw[ak,aa Z];rfl);have e:=L.cz G;have v:=all.at_ (aa Z);have sub:=ad7 (NT j all) (by intro q e;cases e);have fl:=NR (ds:=ds.take j) (st:=([(f,none)],[]));have ftl:(ds.take j).length<=900000:=by rw[cu];lia
   have enx:(ds.take (j+1)).foldl iW ([(f,none)],[])=iW ((ds.take j).foldl iW ([(f,none)],[])) ds[j]:=by
    rw[dF Z,pP];rfl
   rw[enx] at vf;have fl1:((ds.take j).foldl iW ([(f,none)],[])).1.length<=900001:=aN fl.1 (by show 1+_<=_;lia);have fl2:((ds.take j).foldl iW ([(f,none)],[])).2.length<=900001:=aN fl.2 (by show 0+_<=_;lia);generalize (ds.take j).foldl iW ([(f,none)],[])=W at S D v sub fl1 fl2 vf;generalize ds[j]=d at e G v vf;generalize u[j]=q at e G;cases d with
   |post h=>exact v.elim
   |twice h r=>exact v.elim
   |LZ h r=>exact v.elim
   |hand h c =>
    have e:cX K s q [.str "hand",.int h,.int c]:=e;refine bC λR g=>?_;refine⟨_,rfl,q,_,0,_,rfl,rfl,e,rfl,rfl,_,rfl,?_⟩;rw[show decide (V.str "hand" = V.str (Str.ofString "send"))=false from by decide +kernel];refine dh (g _ _ ?_);refine bC λR g=>?_;refine⟨_,rfl,q,_,0,_,rfl,rfl,e,rfl,rfl,_,rfl,?_⟩;rw[show decide (V.str "hand" = V.str (Str.ofString "come"))=false from by decide +kernel];refine dh (g _ _ ?_);refine⟨_,rfl,q,_,0,_,rfl,rfl,e,rfl,rfl,_,rfl,?_⟩;rw[show decide (V.str "hand" = V.str (Str.ofString "twice"))=false from by decide +kernel];refine dh ⟨_,rfl,q,_,0,_,rfl,rfl,e,rfl,rfl,_,rfl,?_⟩;rw[show decide (V.str "hand" = V.str (Str.ofString "lost"))=false from by decide +kernel];exact dh (vf _ _ ⟨L,Uz,S,D,_,_,rfl⟩)
   |p6 h r =>
    have e:cX K s q [.str "come",.int h,.int r]:=e;obtain⟨nh,p,pin,hrl,O⟩:=v;have pc:=sub _ pin;have pc:p∈W.1.map (·.1):=pc;have okr:=rok _ (aH hrl);have hrk:rs[r]?=some rs[r]:=aa hrl;have PN:Aw (us.map V.ref) (r:Int)=some (.ref (us[r]'∅)):=c5 (by rw[ak,aa];rfl);have hpt:cX K s (us[r]'∅) (rs[r]).vs:=L.cz (xJ.at' r (us[r]'∅) (rs[r]).vs (aa _) (by rw[ak,hrk];rfl));generalize us[r]'∅=pt at PN hpt;have ano:rs[r].a+rs[r].b-(h:Int)=(p:Int):=by
     have h1:=okr.a0;have h2:=okr.b0;unfold V6 V7 at O;rw[hrk] at O;have O:((rs[r].a.toNat:Nat):Int)+((rs[r].b.toNat:Nat):Int)-h=p:=O;lia
    have hL4:bN K s b (us.map V.ref):=bN.of (L _ _ hL);refine bC λR g=>?_;refine⟨_,rfl,q,_,0,_,rfl,rfl,e,rfl,rfl,_,rfl,?_⟩;rw[show decide (V.str "come" = V.str (Str.ofString "send"))=false from by decide +kernel];refine dh (g _ _ ?_);refine bC λR g=>?_;refine⟨_,rfl,q,_,0,_,rfl,rfl,e,rfl,rfl,_,rfl,?_⟩;rw[show decide (V.str "come" = V.str (Str.ofString "come"))=true from by decide +kernel];refine dZ ⟨_,rfl,_,rfl,ie e rfl (lO hL4 PN (ie hpt rfl ⟨_,rfl,_,rfl,ie e rfl (lO hL4 PN (ie hpt rfl ⟨_,_,rfl,rfl,_,rfl,ie e rfl ⟨_,_,rfl,rfl,?_⟩⟩))⟩))⟩;show iO 5 (V.int (rs[r].a+rs[r].b-(h:Int))) _ _ _;rw[ano];refine⟨_,rfl,ie e rfl ⟨_,rfl,m,_,rfl,Di.k (k:=.inl (h:Int)) S,_,rfl,?_⟩⟩;rw[Jc,e8 nh];refine dh ⟨_,rfl,_,rfl,ie e rfl ⟨fy,λz hz=>?_⟩⟩;have C:=aG.new (o:=.tup [V.int (p:Int),V.int (r:Int)]) hz;have I:=ay (H:=s) (a:=z) (o:=.tup [V.int (p:Int),V.int (r:Int)]);generalize upd s z (.tup [V.int (p:Int),V.int (r:Int)])=H5 at C I;have s5:=L.trans C;have ajq:=C _ _ D;have ajr:=C _ _ S;have MC:=C _ _ Uz;have hq5:=C.cz e;refine⟨_,rfl,B,_,rfl,Di.t (k:=keyOf p r) ajq I,_,rfl,?_⟩;rw[Uy,eH pin];refine dh ⟨_,rfl,_,rfl,m,_,rfl,Di.k (k:=.inl (p:Int)) ajr,_,rfl,?_⟩;rw[Jc,eH pc];refine dh ⟨_,rfl,_,rfl,ie hq5 rfl ⟨m,_,rfl,LW.k (k:=.inl (h:Int)) ajr (bX (by unfold LA;rw[af];exact fl1) (by show 900001<2^24;decide)),g _ _ ?_⟩⟩;have A:cX K (upd H5 m (.dK (putK (LA W.1) (.inl (h:Int)) (.bl true)))) q [.str "come",.int h,.int r]:=(s5.out N (o:=.dK (putK (LA W.1) (.inl (h:Int)) (.bl true)))).cz G;refine⟨_,rfl,q,_,0,_,rfl,rfl,A,rfl,rfl,_,rfl,?_⟩;rw[show decide (V.str "come" = V.str (Str.ofString "twice"))=false from by decide +kernel];refine dh ⟨_,rfl,q,_,0,_,rfl,rfl,A,rfl,rfl,_,rfl,?_⟩;rw[show decide (V.str "come" = V.str (Str.ofString "lost"))=false from by decide +kernel];refine dh (vf _ _ ⟨s5.out N,by rw[aO ntc];exact MC,?_,by rw[aO (bO X)];exact ajq,_,_,rfl⟩);rw[ay,Qa _ (none_of (by rw[Jc];exact e8 nh))];show _=some (HO.dK (LA (W.1++[(h,some r)])));unfold LA;rw[aK];rfl
   |send h r x =>
    have e:cX K s q [.str "send",.int h,.int r,.int x]:=e;obtain⟨hro,hat,nsn,hxd,o,hmo,hno⟩:=v;refine bC λR g=>?_;refine⟨_,rfl,q,_,0,_,rfl,rfl,e,rfl,rfl,_,rfl,?_⟩;rw[show decide (V.str "send" = V.str (Str.ofString "send"))=true from by decide +kernel];refine dZ ⟨_,rfl,_,rfl,ie e rfl ⟨_,rfl,ie e rfl ⟨fy,λz hz=>?_⟩⟩⟩;have C:=aG.new (o:=.tup [V.int (h:Int),V.int (r:Int)]) hz;have I:=ay (H:=s) (a:=z) (o:=.tup [V.int (h:Int),V.int (r:Int)]);generalize upd s z (.tup [V.int (h:Int),V.int (r:Int)])=H5 at C I;have s5:=L.trans C;refine⟨B,_,rfl,LW.t (k:=keyOf h r) (kvs:=MB W.2) (C _ _ D) I (bX (by unfold MB;rw[af];exact fl2) (by show 900001<2^24;decide)),g _ _ ?_⟩;have A:cX K (upd H5 B (.dT (putK (MB W.2) (keyOf h r) (.bl true)))) q [.str "send",.int h,.int r,.int x]:=(s5.out n1 (o:=.dT (putK (MB W.2) (keyOf h r) (.bl true)))).cz G;refine bC λR g=>?_;refine⟨_,rfl,q,_,0,_,rfl,rfl,A,rfl,rfl,_,rfl,?_⟩;rw[show decide (V.str "send" = V.str (Str.ofString "come"))=false from by decide +kernel];refine dh (g _ _ ?_);refine⟨_,rfl,q,_,0,_,rfl,rfl,A,rfl,rfl,_,rfl,?_⟩;rw[show decide (V.str "send" = V.str (Str.ofString "twice"))=false from by decide +kernel];refine dh ⟨_,rfl,q,_,0,_,rfl,rfl,A,rfl,rfl,_,rfl,?_⟩;rw[show decide (V.str "send" = V.str (Str.ofString "lost"))=false from by decide +kernel];refine dh (vf _ _ ⟨s5.out n1,by rw[aO nts];exact C _ _ Uz,by rw[aO X];exact C _ _ S,?_,_,_,rfl⟩);rw[ay,Qa _ (none_of (by rw[Uy];exact e8 nsn))];show _=some (HO.dT (MB (W.2++[(h,r)])));unfold MB;rw[aK];rfl
  rintro σ s ⟨L,Uz,S,D,v4,v5,rfl⟩;refine g _ _ ?_;rw[af,eq',gJ] at S;refine⟨_,rfl,m,_,((ds.foldl iW ([(f,none)],[])).1.map λp=>(p.1:Int)),rfl,S,?_,by rw[af];exact h64,λl ms hl p1 p2=>k l ms _ (L.trans (aG.new hl)) (L.free hl) ay p1 p2⟩;unfold LA;rw[bV,bV];rfl
inductive LB(K:ah)(CT:Addr)(c:NC)(vs:List V)(H:Hp)(Q:VK)(E:XK):Prop
 |mk (F:Addr->Prop) (p tp ln lr:Addr) (ns:List Int) (rs:List R5) (o:cN ns rs) (bs:List (List Bool)) (cl:List (Nat×Nat)) (os:Nat->List Nat) (b:Nat) (Ls:List (Nat×Option Nat)) (D:Nat) (s:NS) (a:Nat):vs=[.ref p,.int b,.int a]->NW K c CT H F p tp ln lr ns rs s->Ux ns rs o bs cl os b Ls D s->D<=390000->a<s.cps.length->(∀s' F' H',NW K c CT H' F' p tp ln lr ns rs s'->Ux ns rs o bs cl os b Ls (D+100) s'->Ph ns.length rs s'+1<=Ph ns.length rs s->Step H F H' F'->Q (.bl true) H')->LB K CT c vs H Q E
theorem Ii(T:Txt K mg t):cH P w K mg base iS 9 t.uD t.zm ["_law_net","_law_first","_law_at"]  (LB K t.bA (nc t)):=by
 refine T.DO.F.jK A2 λH Q E r h=>?_
 ·obtain⟨F,p,u,L,X,ns,y,o,bs,cl,os,b,Ls,D,st,a,rfl,N,z,hD,I,k⟩:=h
  refine⟨_,(au (sS 3 A2 (xT (xL (jc (pv 0) T.bJ T.d8.m (jW T) (r.mono (!_)) T.d8.B .nil jv) (pv 2)) aA)) (au (sS 4 A2 (lg (pv 0) T.bJ T.CP (BX T) (r.mono (!_)) T.CO .nil jv (gE (pv 2)))) (oR (ahj (qE nZ (pv 3) (pv 1)) (Jh (qE i6 (pv 4) gm)))))),?_⟩
  left
  obtain⟨S,dx,q,hp,O,hF,hT⟩:=id N.dG;have j:=O.get .dG _ rfl;rw[hp] at j;obtain⟨d,c⟩:∃d,st.cps[a]?=some d:=⟨_,aa I⟩;obtain⟨l,s⟩:∃l,st.ls[d.l]?=some l:=⟨_,aa (z.sd.bd.cl d (aC c)).1⟩;refine bC λG g=>?_;refine⟨_,rfl,p,_,_,rfl,j,rfl,F,p,u,ns.length,st,rfl,N.dG,λlf Y H1 n Uv M v=>?_⟩;have x:Y.length=st.cps.length:=by rw[v.len,af]
  refine⟨_,rfl,lO (bN.of M) (c5 (by rw[ak,aa ∅];rfl)) (ie (v.at' a _ _ (aa _) (by rw[ak,c];rfl)) rfl (g _ _ ?_))⟩;have N1:=N.mono n;refine bC λG g=>?_;refine⟨_,rfl,p,_,_,rfl,n _ _ j,rfl,_,rfl,F,p,u,L,X,ns,y,st,o,a,D,d,l,rfl,N1,z.sd.ok,z.sd.bd,∅,c,s,λos' ts F2 Z W h12 R oe C i=>g _ _ ?_⟩;obtain⟨J,U,A⟩:=z.pass c s W R oe;have f:=k _ F2 Z C U A ((Step.refl' n).trans i);refine⟨_,rfl,_,rfl,_,_,rfl,rfl,_,rfl,?_⟩;by_cases e:d.l<b
  ·rw[eH (show ((d.l:Nat):Int)<(b:Int) by lia)]
   exact dZ f
  ·rw[e8 (show ¬((d.l:Nat):Int)<(b:Int) by lia)]
   rw[J.resolve_left e];refine dh ⟨_,rfl,rfl,?_⟩;rw[show decide (V.str "come" = V.str (Str.ofString "come"))=true from by decide +kernel];exact f
def dD(d:cV):PyData:=.tuple (.str (dW d)::(dI d).map .int)
theorem NV{H:Hp}:∀{qs:List Addr} {ds:List cV},dg K H qs (ds.map cV.vs)->dO K H (ds.map dD) (qs.map V.ref)
 |[],[],_=>rfl
 |[],_::_,h=>by cases h.len
 |_::_,[],h=>by cases h.len
 |q::qs,d::ds,h=>⟨.ref q,qs.map V.ref,rfl,⟨q,V.str (dW d)::(dI d).map V.int,rfl,by rw[<- PB];exact h.at' 0 q _ rfl rfl,⟨_,_,rfl,rfl,iw _⟩⟩,NV ⟨Nat.succ.inj h.len,λi p x a b=>h.at' (i+1) p x a b⟩⟩
theorem acT(d:cV):PyData.strOk (dW d)=true:=by
 cases d
 ·exact (by decide +kernel:PyData.strOk "post" = true)
 ·exact (by decide +kernel:PyData.strOk "come" = true)
 ·exact (by decide +kernel:PyData.strOk "hand" = true)
 ·exact (by decide +kernel:PyData.strOk "send" = true)
 ·exact (by decide +kernel:PyData.strOk "twice" = true)
 ·exact (by decide +kernel:PyData.strOk "lost" = true)
theorem NX:∀ds:List cV,PyData.canLayAll0 (ds.map dD)=true
 |[]=>rfl
 |d::ds=>by
  show ((PyData.strOk (dW d)&&PyData.canLayAll0 ((dI d).map .int))&&PyData.canLayAll0 (ds.map dD))=true;rw[NX ds,iD,acT];rfl
theorem LC:∀ds:List cV,PyData.depthAll (ds.map dD)<=1
 |[]=>!_
 |d::ds=>by
  show max (max 0 (PyData.depthAll ((dI d).map .int))+1) (PyData.depthAll (ds.map dD))<=1
  have:=LC ds
  have:=nO (dI d)
  lia
theorem UA{a u:Nat}(h:a<=64)(c:u+64<cLine):u+min a b<cLine:=bX (dB (aN (i9 _ _) h) _) c
def pr(p:T2):List Int:=[p.1,p.2]
theorem Jd(h:fP K H qs ts):dg K H qs ((ts.map pr).map λx=>x.map V.int):=by
 refine⟨by rw[h.1,af,af],λi q x b a=>?_⟩;rw[ak,ak] at a;cases e:ts[i]? with
 |none=>rw[e] at a;cases a
 |some p =>
  rw[e] at a;cases a;exact h.2 i q p b e
theorem acU(d:cV):decide (V.str (dW d)=V.str "hand")=(PL d).isSome:=by
 cases d
 ·exact (by decide +kernel:decide (V.str "post" = V.str "hand")=false)
 ·exact (by decide +kernel:decide (V.str "come" = V.str "hand")=false)
 ·exact (by decide +kernel:decide (V.str "hand" = V.str "hand")=true)
 ·exact (by decide +kernel:decide (V.str "send" = V.str "hand")=false)
 ·exact (by decide +kernel:decide (V.str "twice" = V.str "hand")=false)
 ·exact (by decide +kernel:decide (V.str "lost" = V.str "hand")=false)
theorem acV{a b:Type}{f:a->Option b}{xs:List a}{i:Nat}(h:i<xs.length):(xs.take (i+1)).filterMap f=(xs.take i).filterMap f++(f xs[i]).toList:=by
 rw[dF h,xN];congr 1
theorem fP.snoc(h:fP K H qs ts)(e:cX K H q (t2V p)):fP K H (qs++[q]) (ts++[p]):=by
 refine⟨by rw[aB,aB,h.1];rfl,λi d g a b=>?_⟩;by_cases z:i<qs.length
 ·rw[bR z] at a
  rw[bR (by rw[<- h.1];exact z)] at b;exact h.2 i d g a b
 ·have c:=(ai.mp a).1
  rw[aB] at c;have f:i=qs.length:=by simp at c;lia
  subst f;rw[bT (az _),eV] at a;rw[h.1,bT (az _),eV] at b;cases a;cases b;exact e
theorem fP.keep(h:fP K H qs ts)(c:∀b x,cX K H b x->cX K H' b x):fP K H' qs ts:=⟨h.1,λi q p a b=>c _ _ (h.2 i q p a b)⟩
theorem ad8{os:List Nat}(F:Fo ns rs os)(t:Rw rs os rs.length f z)(j:f<ns.length):z<ns.length:=by
 induction t with
 |refl=>exact j
 |@step y r t a l c k =>
  obtain⟨_,_,d,i,h,g,b⟩:=F.ends a;rcases b y c with e|e
  ·rw[e,d];exact g
  ·rw[e,i];exact h
def MD(M:List Int)(f z:Nat):Bool:=decide (M.getD z 0=M.getD f 0)
theorem acW(M:List Int)(f n:Nat):(((av n).filter (MD M f)).map λk:Nat=>(k:Int)).Pairwise (·<=·):=by
 rw[kr];exact (ni.sublist fW).imp λh=>∅
inductive NY(K:ah)(vs:List V)(H:Hp)(Q:VK)(E:XK):Prop
 |mk (b lo cb a:Addr) (Se qs:List Addr) (ns:List Int) (rs:List R5) (os:List Nat) (M:List Int) (cl:List (Nat×Nat)) (x:Nat) (to:Option Nat) (dn:List Nat) (ds:List cV) (Es:List EE):vs=[.ref b,.ref lo,.ref cb,.int x,wF (to.map λy:Nat=>(y:Int)),.ref a]->JP K H b rs->bN K H lo (M.map V.int)->bN K H cb (Se.map V.ref)->dg K H Se (cl.map λc=>[.int c.1,.int c.2])->bN K H a (qs.map V.ref)->dg K H qs (ds.map cV.vs)->Fo ns rs os->ns.length<=10->rs.length<=20->M.length=ns.length->(∀f z,f<ns.length->z<ns.length->(M.getD z 0=M.getD f 0↔Rw rs os rs.length f z))->cl.length<=20->x<cl.length->(∀c∈cl,c.1<ns.length)->(∀y,to=some y->y<cl.length/\(cl.map (·.2))[y]?=(cl.map (·.2))[x]?)->ds.length<=800000->LJ ns rs os (LQ (cl.map (·.1)) (cl.map (·.2)) x to) (to.map λy=>(cl.map (·.1)).getD y 0) ((cl.map (·.1)).getD x 0) dn ds [] Es->Es≠[]->(∀H',aG H H'->Q (.bl true) H')->NY K vs H Q E
theorem UB(T:Txt K mg t):cH P w K mg base iS 3 t.yi t.Cm ["_law_ropes_here","_law_labels_here","_law_places","_law_sender","_law_to_here","_law_story"]  (NY K):=by
 refine T.Ng.F.jK gu λH Q E hr h=>?_
 ·obtain⟨b,lo,cb,a,R,qs,ns,rs,os,M,cl,x,to,dn,ds,Es,rfl,hB,hO,hC,uL,hA,W2,F,hn,hm,eM,hLM,vq,hx,hc1,hto,hdl,J,ne,k⟩:=h
  refine⟨_,(au (Au (xL (pv 2) (pv 3)) (Sq (n:=2) rfl (qO (gT 6 gu) (qO (gT 7 gu) IJ)))) (au (b6 (PW.pt (CB (iQ (lN (cG (IG T) hr T.A9 (gE (pv 5))))) (CB (qT wz (pv 5) (gV fX)) (De (qT Gf (xL (pv 5) aA) (fY (k9 gm (pv 6)))))))) oB bw) (au (sS 8 gu (cG (Sb T) hr T.Kh (k9 (pv 0) (pv 5)))) (au (sS 9 gu (cB EX T.Bb boot_sorted (gE (gO (kO gu ["_law_row"] [none]) rfl (fE (pv 5)) (λ_ _ _ _=>by exact (gS 0 L8)) (λ_ _ _ _=>by exact (ly (qT i6 (yT K (pv 0) aA) gm))) (λ_ _ _ _=>by exact (qQ (abq K rfl) (pv 0) (mR aA) EB)))))) (au (sS 10 gu (gO (kO gu ["_law_house","_law_first","_law_labels_here"] [none,some 6,some 1]) rfl (fz rfl T.ig (gE (lS T.fK (pv 1)))) (λ_ _ _ _=>by exact (gS 0 Ma)) (λ_ _ _ _=>by exact (ly (qT i6 (yL K (pv 2) (pv 0)) (yL K (pv 2) (pv 1))))) (λ_ _ _ _=>by exact (pv 0)))) (au (b6 (qT IK (pv 4) lM) (au (tQ (i:=12) gu.nd rfl (Or.inl rfl) (kO gu ["_law_caller","_law_place","_law_led","_law_to_here"] [none,none,some 10,some 4]) rfl (UX rfl T.HF (gE (pv 2))) (λ_ _ _ _=>by exact (UY K rfl (n:=2) rfl (qO (gS 0 CI) (qO (gS 1 CI) IJ)))) (λ_ _ _ _=>by exact (ly (PW.pt (Ar (qT i6 (pv 0) (pv 3)) (yG (i7 (tR K rfl) (yT K (pv 1) aA) (pv 2) (by with_unfolding_all rfl))))))) (λ_ _ _ _=>by exact (fY (k9 (yT K (pv 1) aA) (pv 0))))) (oR (F0 (qE Gf (pv 8) (gV fX)) (F0 (cB (Qk rfl) T.adF boot_all (gE (gO (kO gu ["_law_house","_law_led"] [none,some 10]) rfl (fE (pv 8)) (λ_ _ _ _=>by exact (gS 0 Mb)) (λ_ _ _ _=>by exact mS) (λ_ _ _ _=>by exact (UL (tR K rfl) (pv 0) (pv 1) (by with_unfolding_all rfl)))))) (Jh (qE wz (pv 9) (pv 12))))))) bw) (au (sS 12 gu (gV fX)) (au (fS (fz rfl T.ig (gE (lS T.fK (pv 2)))) (gT 11 gu) (bz (b6 (PW.pt (Ar (qT vz (pv 11) (pv 3)) (Ar (qT i6 (xT (xL (pv 2) (pv 11)) aA) (pv 7)) (yG (i7 pY (xT (xL (pv 2) (pv 11)) aA) (pv 10) (by with_unfolding_all rfl)))))) (oE (sF bI bM bL fR (pv 12) (gE (fY (k9 (xT (xL (pv 2) (pv 11)) aA) (pv 11)))))) bw))) (oR (F0 (qE wz (pv 8) (pv 10)) (Jh (qE wz (pv 9) (cB EX T.Bb boot_sorted (gE (pv 12))))))))))))))),?_⟩
  left
  have ecq:R.length=cl.length:=by rw[uL.len,af]
  have eqd:qs.length=ds.length:=by rw[W2.len,af]
  have aaQ:∀(i:Nat) (c:i<cl.length),Aw (R.map V.ref) (i:Int)=some (.ref (R[i]'∅))/\cX K H (R[i]'∅) [.int (cl[i].1:Int),.int (cl[i].2:Int)]:=λi c=>⟨c5 (by rw[ak,aa ∅];rfl),uL.at' i _ _ (aa _) (by rw[ak,aa c];rfl)⟩;have Sf:∀(i:Nat) (c:i<cl.length),(cl.map (·.1)).getD i 0=cl[i].1:=λi c=>by rw[ao,ak,aa c];rfl
  have hfn:cl[x].1<ns.length:=hc1 _ (aH hx);rw[Sf x hx] at J;obtain⟨x0,E0,eE⟩:∃x0 E0,Es=x0::E0:=by cases Es with|nil=>exact cy rfl ne|cons x0 E0=>exact⟨x0,E0,rfl⟩
  obtain⟨w1,w2⟩:=acR F J Es.length (az _) x0 E0 (by rw[gJ];exact eE);have x0n:x0.e.fr=none:=(J.h0 0 x0 (by rw[eE];rfl)).mpr rfl;have x0h:x0.e.h=cl[x].1:=J.wj.f0 x0.e (bY _ (by rw[eE];simp)) x0n;have Y:ds=.post cl[x].1::(((x0::E0).flatMap (EE.vn (LQ (cl.map (·.1)) (cl.map (·.2)) x to))).drop 1):=by
   rw[J.ds,eE,wu];show PD x0.e::_++_=_;unfold PD;rw[x0n,<- x0h];rfl
  rw[<- eE] at Y w1 w2;rw[x0h] at w1 w2;have ndh:(Es.map (·.e.h)).Nodup:=by
   have:=J.wj.nd
   rw[bQ,bV] at this;exact this
  have hlt:∀y∈Es,y.e.h<ns.length:=λy l=>J.wj.lt y.e (bY _ (bW l));have hEl:Es.length<=ns.length:=by
   have:=Gr.lA (B:=av ns.length) ndh λz hz=>by
    obtain⟨y,l,rfl⟩:=aL.mp hz;exact bB.mpr (hlt y l)
   rw[af,be] at this;exact this
  have ad9:=R9 (hs:=LQ (cl.map (·.1)) (cl.map (·.2)) x to) (E:=Es);rw[<- J.ds] at ad9;generalize arI:(Es.flatMap (EE.vn (LQ (cl.map (·.1)) (cl.map (·.2)) x to))).drop 1=ds' at Y w1 w2;have arJ:ds'.length+1=ds.length:=by rw[Y];rfl
  obtain⟨hax,htx⟩:=aaQ x hx;refine bC λNx A=>?_;refine⟨_,rfl,_,rfl,lO hC hax ⟨_,_,rfl,htx,rfl,_,_,rfl,_,_,rfl,rfl,A _ _ ?_⟩⟩;refine bC λNx A=>?_;refine⟨_,rfl,a,qs,ds,rfl,hA,W2,λH1 s1=>⟨_,rfl,dh ?_⟩⟩;refine⟨_,rfl,aX _,λz1 hz1=>?_⟩;have s2:=s1.trans (aG.new (o:=.lst []) hz1);have hz2:=ay (H:=H1) (a:=z1) (o:=.lst []);generalize upd H1 z1 (.lst [])=H2 at s2 hz2;have agm:dg K H2 qs (ds.map cV.vs):=W2.mono λb x=>s2.cz;refine⟨.list (ds.map dD),.list [],⟨a,_,rfl,s2.seq hA,NV agm⟩,⟨z1,[],rfl,bN.of hz2,rfl⟩,NX _,rfl,UA (by show PyData.depthAll _+1<=64;have:=LC ds;lia) hr.units,_,rfl,?_⟩;rw[Ja,show (ds.map dD).isEmpty=false by rw[Y];rfl];refine dh ?_;have Lb:∃q0,qs[0]?=some q0:=⟨qs[0]'∅,aa _⟩;obtain⟨q0,Lb⟩:=Lb;have ht0:cX K H2 q0 (cV.post cl[x].1).vs:=agm.at' 0 q0 _ Lb (by rw[Y];rfl);refine⟨_,rfl,abJ (s2.seq hA) (c5 (j:=0) (by rw[ak,Lb];rfl)) ⟨_,rfl,fy,λz3 Yo=>?_⟩⟩;have u3:=aG.new (o:=.tup [V.str "post",V.int (cl[x].1:Int)]) Yo;have agn:=ay (H:=H2) (a:=z3) (o:=.tup [V.str "post",V.int (cl[x].1:Int)]);have s3:=s2.trans u3;have ht3:=u3.cz ht0;generalize upd H2 z3 (.tup [V.str "post",V.int (cl[x].1:Int)])=H3 at u3 agn s3 ht3;have acX:(dD (.post cl[x].1)).canLay0=true:=by
   show (PyData.strOk "post" && PyData.canLayAll0 (([(cl[x].1:Int)]:List Int).map .int))=true;rw[iD,show PyData.strOk "post" = true from by decide +kernel];rfl
  have rep:∀q,cX K H3 q [V.str "post",V.int (cl[x].1:Int)]->Rep K H3 (dD (.post cl[x].1)) (.ref q):=λq h=>⟨q,V.str "post" :: ([(cl[x].1:Int)]:List Int).map V.int,rfl,h,⟨_,_,rfl,rfl,iw [(cl[x].1:Int)]⟩⟩;refine⟨dD (.post cl[x].1),dD (.post cl[x].1),rep q0 ht3,rep z3 (cX.of agn),acX,acX,UA (by show PyData.depthAll (.str "post" :: ([(cl[x].1:Int)]:List Int).map .int)+1<=64;have:=nO [(cl[x].1:Int)];show max 0 _+1<=64;lia) hr.units,_,rfl,?_⟩;rw[SeqAt.eqv_refl _ acX];refine dh (A _ _ ?_);have e64:(ds'.foldl iW ([(cl[x].1,none)],[])).1.length<64:=by
   rw[w1];show (Lx Es).length<64;unfold Lx;rw[af];lia
  refine bC λNx A=>?_;refine⟨_,rfl,_,rfl,b,a,qs,ns.length,rs,os,cl[x].1,ds',rfl,hB.keep (λo z=>s3 _ _ z) (λb x=>s3.cz),s3.seq hA,by rw[<- Y];exact W2.mono λb x=>s3.cz,F.ok,F.lt,w2,∅,e64,λl1 I H6 s4 ago g pm pw=>A _ _ ?_⟩;rw[w1] at pm;have pm:I.Perm (Es.map λy=>(y.e.h:Int)):=by
   have:(Lx Es).map (λp=>(p.1:Int))=Es.map λy=>(y.e.h:Int):=by unfold Lx;rw[bV];rfl
   rw[<- this];exact pm
  have t6:=s3.trans s4;have hml:I.length=Es.length:=by rw[pm.length_eq,af]
  have LO:∀z,z∈(av ns.length).filter (MD M cl[x].1)↔Rw rs os rs.length cl[x].1 z:=λz=>by
   rw[aT,bB];unfold MD;rw[f5];exact⟨λq=>(hLM _ _ hfn q.1).mp q.2,λq=>⟨ad8 F q hfn,(hLM _ _ hfn (ad8 F q hfn)).mpr q⟩⟩
  have LP:=acW M cl[x].1 ns.length;have LN:((av ns.length).filter (MD M cl[x].1)).Nodup:=rB.sublist fW;have LL:((av ns.length).filter (MD M cl[x].1)).length<=ns.length:=by
   have:=bx (MD M cl[x].1) (av ns.length)
   rw[be] at this;exact this
  generalize eL:(av ns.length).filter (MD M cl[x].1)=L at LO LP LN LL;have inL:∀y∈Es,y.e.h∈L:=λy l=>(LO _).mpr (J.Uo F y l);have hol:∀i,i<=cl.length->(vp (cl.map (·.1)) (cl.map (·.2)) x L i).length<=20:=λi c=>by
   refine aN (sE _ _) ?_;rw[be];lia
  have HP:(zU (LQ (cl.map (·.1)) (cl.map (·.2)) x to) Es).Perm (match to with|some y=>if (cl.map (·.1)).getD y 0∈L then [((((cl.map (·.1)).getD y 0:Nat):Int),(y:Int))] else []|none=>vp (cl.map (·.1)) (cl.map (·.2)) x L cl.length)/\(to=none->∀z,z∈L↔z∈Es.map (·.e.h)):=by
   cases to with
   |some y =>
    refine⟨?_,λz=>by cases z⟩;obtain⟨U,hyg⟩:=hto y rfl;have eyh:(cl.map (·.1))[y]?=some cl[y].1:=by rw[ak,aa U];rfl
    have h1:=X0 (aE:=cl.map (·.1)) (groups:=cl.map (·.2)) (x:=x) (y:=y) ndh eyh hyg;have eLE:cl[y].1∈Es.map (·.e.h)↔cl[y].1∈L:=by
     rw[LO];constructor
     ·intro z
      obtain⟨y',r,e⟩:=aL.mp z;rw[<- e];exact J.Uo F y' r
     ·intro z
      have J':=J;rw[show (Option.map (λy=>(cl.map (·.1)).getD y 0) (some y))=some cl[y].1 by rw[<- Sf y U];rfl] at J';obtain⟨y',r,e⟩:=J'.acE z;rw[<- e];exact bW r
    show List.Perm _ (if (cl.map (·.1)).getD y 0∈L then [((((cl.map (·.1)).getD y 0:Nat):Int),(y:Int))] else []);rw[Sf y U];by_cases z:cl[y].1∈L
    ·rw[aq z]
     rw[aq (eLE.mpr z)] at h1;exact h1
    ·rw[b3 z]
     rw[b3 λq=>z (eLE.mp q)] at h1;exact h1
   |none =>
    have eEL:∀z,z∈L↔z∈Es.map (·.e.h):=λz=>by
     rw[LO];constructor
     ·intro q
      obtain⟨y',r,e⟩:=J.acD F ne z q;rw[<- e];exact bW r
     ·intro q
      obtain⟨y',r,e⟩:=aL.mp q;rw[<- e];exact J.Uo F y' r
    refine⟨?_,λ_=>eEL⟩;have h1:=Yb (aE:=cl.map (·.1)) (groups:=cl.map (·.2)) (x:=x) ndh eEL;rw[af] at h1;exact h1
  obtain⟨HP,EL⟩:=HP;have anr:(zU (LQ (cl.map (·.1)) (cl.map (·.2)) x to) Es).length<64:=by
   rw[HP.length_eq];cases to with
   |some y =>
    show (if (cl.map (·.1)).getD y 0∈L then [((((cl.map (·.1)).getD y 0:Nat):Int),(y:Int))] else []).length<64;split <;> simp
   |none =>
    have:=hol cl.length (az _)
    show (vp (cl.map (·.1)) (cl.map (·.2)) x L cl.length).length<64;lia
  have hA6:=t6.seq hA;have ans:dg K H6 qs (ds.map cV.vs):=W2.mono λb x=>t6.cz;refine bC λNx A=>?_;refine⟨_,rfl,a,rfl,⟨_,hA6⟩,λac hac=>?_⟩;refine gf (n:=(qs.map V.ref).length) (λi G H8=>∃qp:List Addr,G=qp.map V.ref/\fP K H8 qp ((ds.take i).filterMap PL)) hac (wA hA6) (lY hA6) ⟨[],rfl,rfl,λi q x e=>by cases e⟩ ?_ ?_
  ·rintro i G H0 c s8 l ⟨qp,rfl,XR⟩ y H8 ⟨rfl,hx'⟩
   have hx':=hx' _ (s8.seq hA6);have hi':i<qs.length:=by rw[af] at c;exact c
   have his:i<ds.length:=∅
   rw[ak,aa hi'] at hx';cases hx';have hd:=s8.cz (ans.at' i qs[i] (ds[i]).vs (aa hi') (by rw[ak,aa his];rfl));have ZI:=acV (f:=PL) his;have hql:qp.length<=800000:=by
    rw[XR.1];refine aN (sE _ _) ?_;rw[cu];lia
   generalize ds[i]=d at hd ZI;have hd2:=hd;rw[PB] at hd2;refine⟨_,rfl,qs[i],_,0,_,rfl,rfl,hd2,FJ d,rfl,_,rfl,?_⟩;rw[show decide (V.str (dW d)=V.str (Str.ofString "hand"))=(PL d).isSome from acU d];cases d with
   |hand hh cc =>
    have hd:cX K H8 qs[i] (V.str "hand" :: [V.int (hh:Int),V.int (cc:Int)]):=hd;have nw:¬(HT.lX (V.str "hand" :: [V.int (hh:Int),V.int (cc:Int)]).length 0 (some 1)=0/\HT.lX (V.str "hand" :: [V.int (hh:Int),V.int (cc:Int)]).length (V.str "hand" :: [V.int (hh:Int),V.int (cc:Int)]).length none=(V.str "hand" :: [V.int (hh:Int),V.int (cc:Int)]).length):=λz=>by
     have z1:=z.1;rw[show (1:Int)=((1:Nat):Int) from rfl,HT.Ez,aV] at z1;simp at z1
    refine dZ ⟨_,rfl,_,rfl,qs[i],_,rfl,hd,nw,λz hz=>?_⟩;rw[show Av (V.str "hand" :: [V.int (hh:Int),V.int (cc:Int)]) (some 1) none=[V.int (hh:Int),V.int (cc:Int)] from JD _ 1];have u9:=aG.new (o:=.tup [V.int (hh:Int),V.int (cc:Int)]) hz;have hz9:=ay (H:=H8) (a:=z) (o:=.tup [V.int (hh:Int),V.int (cc:Int)]);generalize upd H8 z (.tup [V.int (hh:Int),V.int (cc:Int)])=H9 at u9 hz9;refine dY hac c (s8.trans u9) (u9 _ _ l) (bX (by rw[af];exact hql) (by show 800000<2^24;decide)) ⟨qp++[z],by rw[aK];rfl,?_⟩;rw[ZI];exact fP.keep (fP.snoc (p:=((hh:Int),(cc:Int))) (fP.keep XR λb x z=>u9.cz z) (cX.of hz9)) λb x=>cX.past (u9 _ _ l) jf b9
   |post _|p6 _ _|send _ _ _|twice _ _|LZ _ _ =>
    refine dh (gp c s8 l ⟨qp,rfl,?_⟩);rw[ZI];exact (bQ _).symm▸XR
  rintro G H7 s7 l ⟨qp,rfl,XR⟩;rw[af,eqd,gJ,ad9] at XR;have t7:=t6.trans s7;have g:=s7 _ _ g;have hL7:bN K H7 cb (R.map V.ref):=t7.seq hC;have arN:∀(i:Nat) (c:i<cl.length),cX K H7 (R[i]'∅) [.int (cl[i].1:Int),.int (cl[i].2:Int)]:=λi c=>t7.cz (aaQ i c).2;refine⟨ac,qp,_,rfl,bN.of l,XR,anr,λlh qh W hlh Yr soh duh=>A _ _ ?_⟩;have Yr:=Yr.trans HP;have u8:=aG.new (o:=.lst (qh.map V.ref)) hlh;have agp:=ay (H:=H7) (a:=lh) (o:=.lst (qh.map V.ref));have du8:=fP.keep duh λb x z=>u8.cz (a:=b) (xs:=x) z;generalize upd H7 lh (.lst (qh.map V.ref))=H8 at u8 agp du8;have t8:=t7.trans u8;have g:=u8 _ _ g;have hO8:=t8.seq hO;have atM:∀z:Nat,z<ns.length->Aw (M.map V.int) (z:Int)=some (.int (M.getD z 0)):=λz hz=>c5 (by rw[ak,ao,aa ∅];rfl);refine bC λNx A=>?_;refine⟨_,rfl,lo,_,rfl,.inl hO8,(ns.length:Int),(by rw[af,eM]),∅,∅,λl2 ajs=>?_⟩;refine gf (n:=((ns.length:Int)).toNat) (λi G _=>G=bF ((av i).filter (MD M cl[x].1))) ajs AD qR rfl ?_ ?_
  ·rintro i G H9 c s9 l rfl v s ⟨rfl,rfl⟩
   rw[dw];have hin:i<ns.length:=∅
   refine⟨_,rfl,_,rfl,lO (s9.seq hO8) (atM i hin) ⟨_,rfl,_,rfl,lO (s9.seq hO8) (atM _ hfn) ⟨rfl,_,rfl,?_⟩⟩⟩;rw[show decide (V.int (M.getD i 0)=V.int (M.getD cl[x].1 0))=MD M cl[x].1 i from by unfold MD;rw[decide_eq_decide];exact⟨λz=>V.int.inj z,λz=>by rw[z]⟩];refine jd (λhc=>?_) (λhc=>?_)
   ·refine⟨_,rfl,?_⟩
    refine dY ajs c s9 l ?_ ?_
    ·rw[af]
     refine b4 (aN (bx _ _) ?_);rw[be];lia
    ·rw[qw,aq hc,iC]
   ·refine gp c s9 l ?_
    rw[qw,b3 hc,bQ]
  rintro G H9 s9 l rfl;rw[cO,eL] at l;refine A _ _ ?_;have t9:=t8.trans s9;have g:=s9 _ _ g;have S:=l;have ajt:=s9 _ _ agp;have du9:=fP.keep du8 λb x z=>s9.cz (a:=b) (xs:=x) z;cases to with
  |some y =>
   obtain⟨U,hyg⟩:=hto y rfl;have Yr:W.Perm (if (cl.map (·.1)).getD y 0∈L then [((((cl.map (·.1)).getD y 0:Nat):Int),(y:Int))] else []):=Yr;rw[Sf y U] at Yr;have eth:W=if cl[y].1∈L then [((cl[y].1:Int),(y:Int))] else []:=by
    by_cases z:cl[y].1∈L
    ·rw[aq z] at Yr ⊢
     exact List.perm_singleton.mp Yr
    ·rw[b3 z] at Yr ⊢
     exact Yr.eq_nil
   rw[show wF (Option.map (λy:Nat=>(y:Int)) (some y))=V.int (y:Int) from rfl];refine⟨_,rfl,rfl,_,rfl,dZ ?_⟩;have hC9:=t9.seq hC;refine bC λNx A=>?_;refine⟨_,rfl,cb,_,rfl,hC9,λad had=>?_⟩;refine gf (n:=(R.map V.ref).length) (λi G Yh=>∃C:List Addr,G=C.map V.ref/\C.length<=i/\fP K Yh C (if y<i/\cl[y].1∈L then [((cl[y].1:Int),(y:Int))] else [])) had (Zi hC9) (Qh hC9) ⟨[],rfl,az _,by rw[b3 (λq=>ko _ q.1)];exact⟨rfl,λi q u e=>by cases e⟩⟩ ?_ ?_
   ·rintro i G H0 c N l ⟨C,rfl,anu,Ys⟩ v Yh ⟨q,v',hq,rfl,rfl,hv⟩
    have hv:=hv _ (N.seq hC9);have hic:i<R.length:=by rw[af] at c;exact c
    have X:i<cl.length:=∅
    rw[ak,aa hic] at hv;cases hv;have nq:ad≠q:=aQ l hq;have O:=aG.new (o:=.tup [.int (i:Nat),.ref R[i]]) hq;have aju:=ay (H:=H0) (a:=q) (o:=.tup [.int (i:Nat),.ref R[i]]);have Yc:=O _ _ l;generalize upd H0 q (.tup [.int (i:Nat),.ref R[i]])=Rv at O aju Yc;have m:=N.trans O;have Z:cX K Rv R[i] [.int (cl[i].1:Int),.int (cl[i].2:Int)]:=(t9.trans m).cz (aaQ i X).2;have LD:=fP.keep Ys λb x z=>O.cz (a:=b) (xs:=x) z;refine⟨q,_,rfl,cX.of aju,rfl,_,_,rfl,_,_,rfl,rfl,?_⟩;refine⟨_,rfl,_,rfl,rfl,_,rfl,?_⟩;by_cases e:i=y
    case neg =>
     rw[show decide (V.int (i:Int)=V.int (y:Int))=false from e8 λq=>e (by have:=V.int.inj q;lia)];refine dh (gp c m Yc ⟨C,rfl,∅,?_⟩);by_cases z:y<i/\cl[y].1∈L
     ·rw[aq z] at LD
      rw[aq ⟨∅,z.2⟩];exact LD
     ·rw[b3 z] at LD
      rw[b3 λq=>z ⟨∅,q.2⟩];exact LD
    subst e;rw[b3 λq=>iz _ q.1] at LD;rw[show decide (V.int (i:Int)=V.int (i:Int))=true from eH rfl];refine dZ ⟨_,rfl,ie Z rfl ⟨_,rfl,l2,_,rfl,.inl (bN.of (m _ _ S)),rfl,je _,_,rfl,?_⟩⟩
    try dsimp only
    rw[b3 aI,om];by_cases z:cl[i].1∈L
    ·rw[eH z]
     refine dZ ⟨_,rfl,ie Z rfl ⟨_,rfl,fy,λz3 Yo=>?_⟩⟩;have u13:=aG.new (o:=.tup [V.int (cl[i].1:Int),V.int (i:Int)]) Yo;have ajv:=ay (H:=Rv) (a:=z3) (o:=.tup [V.int (cl[i].1:Int),V.int (i:Int)]);generalize upd Rv z3 (.tup [V.int (cl[i].1:Int),V.int (i:Int)])=H13 at u13 ajv;have ajw:=u13 _ _ Yc;refine dY had c (m.trans u13) ajw (by rw[af];exact b4 ∅) ⟨C++[z3],by rw[aK];rfl,by rw[aB];exact gG anu 1,?_⟩;rw[aq ⟨yD _,z⟩];exact fP.keep (fP.snoc (p:=((cl[i].1:Int),(i:Int))) (fP.keep LD λb x z=>u13.cz z) (cX.of ajv)) λb x=>cX.past ajw jf b9
    ·rw[e8 z]
     refine dh (gp c m Yc ⟨C,rfl,∅,?_⟩);rw[b3 λq=>z q.2];exact LD
   rintro G s D l ⟨C,rfl,_,Ys⟩;rw[af,ecq] at Ys;refine A _ _ ?_;have anv:(if y<cl.length/\cl[y].1∈L then [((cl[y].1:Int),(y:Int))] else [])=W:=by
    rw[eth];by_cases z:cl[y].1∈L
    ·rw[aq z,aq ⟨U,z⟩]
    ·rw[b3 z,b3 λq=>z q.2]
   rw[anv] at Ys;have t10:=t9.trans D;refine⟨_,rfl,aX _,λzb hzb=>?_⟩;have UC:=aG.new (o:=.lst []) hzb;have aea:=ay (H:=s) (a:=zb) (o:=.lst []);generalize upd s zb (.lst [])=Yh at UC aea;have N:=D.trans UC;have t11:=t10.trans UC;refine⟨.list (I.map .int),.list [],⟨l1,_,rfl,bN.of (N _ _ g),iw _⟩,⟨zb,[],rfl,bN.of aea,rfl⟩,iD _,rfl,UA (by show PyData.depthAll (I.map .int)+1<=64;rw[nO];decide) hr.units,_,rfl,?_⟩;have e0:(I.map PyData.int).isEmpty=false:=by
    cases I with
    |nil=>rw[eE] at hml;cases hml
    |cons=>rfl
   rw[Ja,e0];refine dZ ⟨_,rfl,l1,rfl,⟨_,bN.of (N _ _ g)⟩,λacc hacc=>?_⟩;have hM1:bN K Yh l1 (I.map V.int):=bN.of (N _ _ g);refine gf (n:=(I.map V.int).length) (λi G _=>∃bs:List Bool,G=bs.map V.bl/\bs.length=i/\bs.all id=true) hacc (wA hM1) (lY hM1) ⟨[],rfl,rfl,rfl⟩ ?_ ?_
   ·rintro i G H6 c s6 l ⟨bs,rfl,hbl,hba⟩ z H7 ⟨rfl,hz⟩
    have hz:=hz _ (s6.seq hM1);have hi':i<I.length:=by rw[af] at c;exact c
    rw[ak,aa hi'] at hz;cases hz;obtain⟨y,r,ey⟩:=aL.mp (pm.mem_iff.mp (aH hi'));rw[<- ey];refine⟨_,rfl,_,rfl,l2,_,rfl,.inl (bN.of (s6 _ _ (N _ _ S))),rfl,je _,?_⟩
    try dsimp only
    rw[b3 aI,om,eH (inL y r)];exact dY hacc c s6 l (by rw[af];exact b4 ∅) ⟨bs++[true],-_,by simp[hbl],by simp[hba]⟩
   rintro G Rv m Yc ⟨bs,rfl,hbl,hba⟩;refine⟨acc,bs,rfl,bN.of Yc,_,rfl,?_⟩;rw[hba];have O:=UC.trans m;have m:=D.trans O;have agq:=fP.keep du9 λb x z=>m.cz (a:=b) (xs:=x) z;have r1:Rep K Rv (.list ((W.map pr).map CA)) (.ref lh):=⟨lh,_,rfl,bN.of (m _ _ ajt),vo (Jd agq)⟩;have r2:Rep K Rv (.list ((W.map pr).map CA)) (.ref ad):=⟨ad,_,rfl,bN.of (O _ _ l),vo (Jd (fP.keep Ys λb x z=>O.cz (a:=b) (xs:=x) z))⟩;refine dZ ⟨_,rfl,_,rfl,_,_,r1,r2,pN _,pN _,UA (by show PyData.depthAll _+1<=64;have:=yz (W.map pr);lia) hr.units,?_⟩;rw[SeqAt.eqv_refl (.list ((W.map pr).map CA)) (pN _)];exact k _ (t10.trans O)
  |none =>
   have Yr:W.Perm (vp (cl.map (·.1)) (cl.map (·.2)) x L cl.length):=Yr;have eEL:=EL rfl;refine bC λNx A=>?_;refine⟨_,rfl,rfl,_,rfl,dh (A _ _ ?_)⟩;refine bC λNx A=>?_;refine⟨aX _,λlu LY=>A _ _ ?_⟩;have u9:=aG.new (o:=.lst []) LY;have ajy:=ay (H:=H9) (a:=lu) (o:=.lst []);generalize upd H9 lu (.lst [])=H90 at u9 ajy;have anx:H9 lu=none:=LY;refine bC λNx A=>?_;refine⟨_,rfl,cb,_,rfl,.inl ((t9.trans u9).seq hC),(cl.length:Int),(by rw[af,ecq]),∅,∅,tT (n:=((cl.length:Int)).toNat) (λi σ s=>aG H9 s/\∃(C:List Addr) (Lk:Option V),s lu=some (.lst (C.map V.ref))/\fP K s C (vp (cl.map (·.1)) (cl.map (·.2)) x L i)/\σ=[some (.ref b),some (.ref lo),some (.ref cb),some (.int (x:Nat)),some .f9,some (.ref a),some (.int (cl[x].1:Int)),some (.int (cl[x].2:Int)),some (.ref l1),some (.ref lh),some (.ref l2),Lk,some (.ref lu)]) ⟨u9,[],_,ajy,⟨rfl,λi q u e=>by cases e⟩,rfl⟩ ?_ ?_⟩
   ·rintro i σ s Nf vf c ⟨D,C,Lk,Sg,Ys,rfl⟩
    rw[dw];have X:i<cl.length:=∅
    have e1:vp (cl.map (·.1)) (cl.map (·.2)) x L (i+1)=vp (cl.map (·.1)) (cl.map (·.2)) x L i++(if i≠x/\cl[i].2=cl[x].2/\cl[i].1∈L then [((cl[i].1:Int),(i:Int))] else []):=by
     unfold vp;rw[gA,xN];congr 1;have g1:(cl.map (·.2))[i]?=some cl[i].2:=by rw[ak,aa X];rfl
     have g2:(cl.map (·.2))[x]?=some cl[x].2:=by rw[ak,aa hx];rfl
     rw[dS,Sf i X,g1,g2];by_cases z:i≠x/\cl[i].2=cl[x].2/\cl[i].1∈L
     ·rw[aq z,aq ⟨z.1,ff some z.2.1,z.2.2⟩]
      rfl
     ·rw[b3 z,b3 (λq=>z ⟨q.1,aJ q.2.1,q.2.2⟩)]
      rfl
    rw[e1] at vf;have hql:=hol i ∅;rw[<- Ys.1] at hql;obtain⟨hai,_⟩:=aaQ i X;have agr:bN K s cb (R.map V.ref):=(t9.trans D).seq hC;have Z:cX K s (R[i]'∅) [.int (cl[i].1:Int),.int (cl[i].2:Int)]:=(t9.trans D).cz (aaQ i X).2;have stay:¬(i≠x/\cl[i].2=cl[x].2/\cl[i].1∈L)->Nf [some (.ref b),some (.ref lo),some (.ref cb),some (.int (x:Nat)),some .f9,some (.ref a),some (.int (cl[x].1:Int)),some (.int (cl[x].2:Int)),some (.ref l1),some (.ref lh),some (.ref l2),some (.int (i:Int)),some (.ref lu)] s:=λz=>vf _ _ ⟨D,C,_,Sg,by rw[b3 z,bQ];exact Ys,rfl⟩;refine⟨_,rfl,_,rfl,rfl,_,rfl,?_⟩;by_cases z1:i=x
    ·rw[show decide (V.int (i:Int)=V.int (x:Int))=true from eH (by rw[z1])]
     exact dh (stay λq=>q.1 z1)
    rw[show decide (V.int (i:Int)=V.int (x:Int))=false from e8 λq=>z1 (by have:=V.int.inj q;lia)];refine dZ ⟨_,rfl,_,rfl,lO agr hai (ie Z rfl ⟨_,rfl,rfl,_,rfl,?_⟩)⟩;by_cases z2:cl[i].2=cl[x].2
    case neg =>
     rw[show decide (V.int (cl[i].2:Int)=V.int (cl[x].2:Int))=false from e8 λq=>z2 (by have:=V.int.inj q;lia)];exact dh (stay λq=>z2 q.2.1)
    rw[show decide (V.int (cl[i].2:Int)=V.int (cl[x].2:Int))=true from eH (by rw[z2])];refine dZ ⟨_,rfl,_,rfl,lO agr hai (ie Z rfl ⟨_,rfl,l2,_,rfl,.inl (bN.of (D _ _ S)),rfl,je _,_,rfl,?_⟩)⟩
    try dsimp only
    rw[b3 aI,om];by_cases z3:cl[i].1∈L
    case neg =>
     rw[e8 z3];exact dh (stay λq=>z3 q.2.2)
    rw[eH z3];rw[aq ⟨z1,z2,z3⟩] at vf;refine dZ ⟨_,rfl,.inl ⟨rfl,_,bN.of Sg⟩,_,rfl,_,rfl,lO agr hai (ie Z rfl ⟨_,rfl,fy,λz hz=>?_⟩)⟩;have UC:=aG.new (o:=.tup [V.int (cl[i].1:Int),V.int (i:Int)]) hz;have ajz:=ay (H:=s) (a:=z) (o:=.tup [V.int (cl[i].1:Int),V.int (i:Int)]);generalize upd s z (.tup [V.int (cl[i].1:Int),V.int (i:Int)])=Yh at UC ajz;have aeb:=UC _ _ Sg;refine⟨lu,_,_,rfl,rfl,aeb,(by rw[af];exact b4 ∅),vf _ _ ⟨(D.trans UC).out anx,C++[z],_,by rw[ay,aK];rfl,?_,rfl⟩⟩;exact fP.keep (fP.snoc (p:=((cl[i].1:Int),(i:Int))) (fP.keep Ys λb x z=>UC.cz z) (cX.of ajz)) λb x=>cX.past aeb jf b9
   ·rintro σ s ⟨D,C,Lk,Sg,Ys,rfl⟩
    refine A _ _ ?_;rw[cO] at Ys;have g:=D _ _ g;have S:=D _ _ S;have anz:=fP.keep du9 λb x z=>D.cz (a:=b) (xs:=x) z;have pp:I.Perm (L.map λk:Nat=>(k:Int)):=by
     refine pm.trans ?_
     have:(Es.map (·.e.h)).Perm L:=(List.perm_ext_iff_of_nodup ndh LN).mpr λz=>(eEL z).symm
     have:=this.map (λk:Nat=>(k:Int))
     rw[bV] at this;exact this
    have em:I=L.map λk:Nat=>(k:Int):=pp.eq_of_pairwise (λ_ _ _ _ h1 h2=>Int.le_antisymm h1 h2) pw LP;have r1:Rep K s (.list (I.map .int)) (.ref l1):=⟨l1,_,rfl,bN.of g,iw _⟩;have r2:Rep K s (.list (I.map .int)) (.ref l2):=⟨l2,_,rfl,bN.of S,by rw[em,fL];exact iw _⟩;refine⟨_,rfl,_,rfl,_,_,r1,r2,iD _,iD _,UA (by show PyData.depthAll (I.map .int)+1<=64;rw[nO];decide) hr.units,_,rfl,?_⟩;rw[SeqAt.eqv_refl (.list (I.map .int)) (iD _)];refine dZ ⟨_,rfl,_,rfl,lu,C,_,rfl,bN.of Sg,Ys,by have:=hol cl.length (az _);lia,λlq qq tq Nn pmq soq duq=>?_⟩;have O:=aG.new (o:=.lst (qq.map V.ref)) Nn;have aec:=ay (H:=s) (a:=lq) (o:=.lst (qq.map V.ref));have aed:=fP.keep duq λb x z=>O.cz (a:=b) (xs:=x) z;generalize upd s lq (.lst (qq.map V.ref))=Rv at O aec aed;have et:W=tq:=by
     refine PM soh soq (Yr.trans pmq.symm)
    have agq:=fP.keep anz λb x z=>O.cz (a:=b) (xs:=x) z;have r3:Rep K Rv (.list ((W.map pr).map CA)) (.ref lh):=⟨lh,_,rfl,bN.of (O _ _ (D _ _ ajt)),vo (Jd agq)⟩;have r4:Rep K Rv (.list ((W.map pr).map CA)) (.ref lq):=⟨lq,_,rfl,bN.of aec,by rw[et];exact vo (Jd aed)⟩;refine⟨_,_,r3,r4,pN _,pN _,UA (by show PyData.depthAll _+1<=64;have:=yz (W.map pr);lia) hr.units,?_⟩;rw[SeqAt.eqv_refl (.list ((W.map pr).map CA)) (pN _)];exact k _ ((t9.trans D).trans O)
inductive LF(K:ah)(vs:List V)(H:Hp)(Q:VK)(E:XK):Prop
 |mk (n:Nat) (b c:Addr) (rs:List R5) (ks:List Nat):vs=[.int n,.ref b,.ref c]->JP K H b rs->bN K H c (bF ks)->(∀k∈ks,k<rs.length)->(∀r∈rs,r.Ok n)->n<=12->(∀l (M:List Int) H',aG H H'->H l=none->H' l=some (.lst (M.map V.int))->Gr.UZ (gw rs ks) n M->Q (.ref l) H')->LF K vs H Q E
theorem Sh(T:Txt K mg t):cH P w K mg base iS 1 t.uB t.zk ["_law_size","_law_ropes_here","_law_some"]  (LF K):=by
 refine T.Kg.F.jK kL λH Q E hr h=>?_
 ·obtain⟨n,b,c,rs,l,rfl,hB,hC,Z,ok,aal,k⟩:=h
  refine⟨_,(au (sS 3 kL (fQ (Jw rfl) (by rfl) T.rV boot_list (gE (fQ Ht (by rfl) T.ig boot_range (gE (pv 0)))))) (au (fS (fE (pv 2)) (gT 4 kL) (au (sS 5 kL (cB (Wk rfl) T.adE boot_min (k9 (xL (pv 3) (xT (xL (pv 1) (pv 4)) aA)) (xL (pv 3) (xT (xL (pv 1) (pv 4)) aA))))) (au (sS 6 kL (cB (Wj rfl) T.aid boot_max (k9 (xL (pv 3) (xT (xL (pv 1) (pv 4)) aA)) (xL (pv 3) (xT (xL (pv 1) (pv 4)) aA))))) (bz (tQ (i:=3) kL.nd rfl (Or.inl rfl) (kO kL ["_law_label","_law_high","_law_low"] [none,some 6,some 5]) rfl (fE (pv 3)) (λ_ _ _ _=>by exact (gS 0 J6)) (λ_ _ _ _=>by exact mS) (λ_ _ _ _=>by exact (xR (qT i6 (pv 0) (pv 1)) (pv 2) (pv 0)))))))) (oR (pv 3)))),?_⟩
  left
  have inR:=Qv ok Z;obtain⟨B,hL,xJ⟩:=id hB;have eus:B.length=rs.length:=by rw[xJ.len,af]
  refine⟨_,rfl,_,rfl,λr J=>?_⟩;refine⟨r,n,rfl,ay,∅,λf X=>?_⟩;have s2:=(aG.new (o:=.Sn 0 (n:Int)) J).trans (aG.new (o:=.lst (bF (av n))) X);have s:H f=none:=(aG.new (o:=.Sn 0 (n:Int)) J).free X;have O:upd (upd H r (.Sn 0 (n:Int))) f (.lst (bF (av n))) f=some (.lst (((av n).map λk=>((k:Nat):Int)).map V.int)):=by rw[ay,fL]
  generalize upd (upd H r (.Sn 0 (n:Int))) f (.lst (bF (av n)))=H2 at s2 O;refine⟨_,rfl,c,rfl,⟨_,s2.seq hC⟩,tM (K:=K) (a:=c) (xs:=bF l) (λi σ u=>aG H u/\∃(f:Addr) (M:List Int) (v4 v5 v6:Option V),σ=[some (.int (n:Nat)),some (.ref b),some (.ref c),some (.ref f),v4,v5,v6]/\H f=none/\u f=some (.lst (M.map V.int))/\Gr.xV ((gw rs l).take i) n M/\Gr.g6 n M) ⟨s2,f,_,_,_,_,rfl,s,O,Gr.xV.nil n,Gr.g6.nil n⟩ (λi σ u _ z=>z.1.seq hC) ?_ ?_⟩
  ·rintro i y σ u hi ⟨D,f,M,v4,v5,v6,rfl,s,C,G,A⟩
   have v:i<l.length:=by
    have:=(ai.mp hi).1
    rw[af] at this;exact this
   rw[ak,aa v] at hi;cases hi;have Hv:=Z _ (aH v);have Y:(gw rs l)[i]?=some (rs[l[i]].a,rs[l[i]].b):=by
    show (l.map (pairOf rs))[i]?=_;rw[ak,aa v];show some (pairOf rs l[i])=_;rw[tF Hv]
   show iO 4 (V.int ((l[i]:Nat):Int)) _ _ _;generalize l[i]=d at Hv Y;have hp:(B.map V.ref)[d]?=some (V.ref (B[d]'∅)):=by rw[ak,aa];rfl
   have U:=xJ.at' d (B[d]'∅) (rs[d]).vs (aa _) (by rw[ak,aa Hv];rfl);have N:Aw (B.map V.ref) (d:Int)=some (.ref (B[d]'∅)):=c5 hp;generalize B[d]'∅=pt at N U;have q:=ok _ (aH Hv);have hl:=G.len;have a0:=q.a0;have a1:=q.a1;have b0:=q.b0;have b1:=q.b1;have g:bN K u f (M.map V.int):=bN.of C;have p:=bN.of (K:=K) (D _ _ hL);have m:=D.cz U;refine⟨_,rfl,_,rfl,_,rfl,b,_,_,_,rfl,rfl,p,N,pt,_,0,_,rfl,rfl,m,rfl,f,_,_,_,rfl,rfl,g,Ox a0 ∅,_,rfl,_,rfl,_,rfl,b,_,_,_,rfl,rfl,p,N,pt,_,1,_,rfl,rfl,m,rfl,f,_,_,_,rfl,rfl,g,Ox b0 ∅,_,_,rfl,?_⟩;refine⟨_,rfl,_,rfl,_,rfl,b,_,_,_,rfl,rfl,p,N,pt,_,0,_,rfl,rfl,m,rfl,f,_,_,_,rfl,rfl,g,Ox a0 ∅,_,rfl,_,rfl,_,rfl,b,_,_,_,rfl,rfl,p,N,pt,_,1,_,rfl,rfl,m,rfl,f,_,_,_,rfl,rfl,g,Ox b0 ∅,_,_,rfl,?_⟩;obtain⟨hM2,hL2⟩:=Gr.ZO G A inR Y;have hjl:(Gr.mT M rs[d].a rs[d].b).length=M.length:=by unfold Gr.mT;rw[af]
   refine⟨_,rfl,f,rfl,⟨_,g⟩,λanB V9=>?_⟩;refine gf (n:=(M.map V.int).length) (λj ys _=>ys=((Gr.mT M rs[d].a rs[d].b).take j).map V.int) V9 (wA g) (lY g) rfl ?_ ?_
   ·rintro j ys H6 hj R hy I x H7 ⟨rfl,hx⟩
    have W:=hx _ (R.seq g);have S:=hj;rw[af] at hj;rw[ak,aa hj] at W;cases W;have L:ys.length<sizeLine:=by
     rw[I,af]
     have:=List.length_take_le j (Gr.mT M rs[d].a rs[d].b)
     exact b4 ∅
    have ej:(Gr.mT M rs[d].a rs[d].b)[j]?=some (if M[j]=(if Gr.iY M rs[d].b > Gr.iY M rs[d].a then Gr.iY M rs[d].b else Gr.iY M rs[d].a) then (if Gr.iY M rs[d].b<Gr.iY M rs[d].a then Gr.iY M rs[d].b else Gr.iY M rs[d].a) else M[j]):=by
     unfold Gr.mT;rw[ak,aa hj];rfl
    refine⟨_,rfl,_,rfl,rfl,_,rfl,?_⟩;refine jd (λc=>?_) (λc=>?_)
    ·have ce:=V.int.inj (gh c)
     rw[aq ce] at ej;exact⟨_,rfl,dY V9 S R hy L (by rw[I];exact (CG ej).symm)⟩
    ·have ce:¬M[j]=(if Gr.iY M rs[d].b > Gr.iY M rs[d].a then Gr.iY M rs[d].b else Gr.iY M rs[d].a):=λz=>c (eH (ff V.int z))
     rw[b3 ce] at ej;exact⟨_,rfl,dY V9 S R hy L (by rw[I];exact (CG ej).symm)⟩
   ·rintro ys H6 R hy I
    rw[af,ng ∅] at I;exact⟨D.trans R,anB,_,_,_,_,rfl,D.free V9,by rw[hy,I],hM2,hL2⟩
  ·rintro σ u ⟨D,f,M,v4,v5,v6,rfl,s,C,G,A⟩
   rw[af] at G;have e:(gw rs l).take l.length=gw rs l:=ng (by show (l.map _).length<=_;rw[af];exact az _);rw[e] at G;exact⟨_,rfl,k f M u D s C (Gr.Xi G A inR)⟩
theorem acZ(rs:List R5):(rs.map λr=>bK r.d.toNat true).map stand=rs.map λr=>av r.d.toNat:=by
 rw[bV];exact cY λr _=>Td _
theorem aaR{rs:List R5}(ok:∀r∈rs,r.Ok n):Bl rs (rs.map λr=>bK r.d.toNat true):=by
 refine⟨af _,λi r b c a=>?_⟩;rw[ak,c] at a;cases a;rw[List.length_replicate]
 have:=(ok r (aC c)).d1
 lia
theorem ajB{cl:List (Nat×Nat)}(o:cN ns rs)(k:cl.length<=20)(e:∀c∈cl,c.1<ns.length/\c.2<3):SD ns rs (rs.map λr=>bK r.d.toNat true) cl 0 (S0 ns rs cl):=by
 refine⟨⟨af _,λw a=>?_,λg _ i b=>⟨?_,rF _,⟨rF _,by show (0:Int)<(ns.length:Int);lia⟩,.inl rfl⟩⟩,⟨?_,?_,λg m=>?_,λh f=>?_,?_,λw a=>?_,aX _,λl z=>(by cases z),aX _,λc z=>(by cases z),λg=>⟨aX _,jY⟩⟩,(acZ rs).symm,aaR o.ok,rfl,rfl⟩
 ·obtain⟨r,j,rfl⟩:=aL.mp a
  rw[be]
  have:=(o.ok r j).d4
  lia
 ·show 0<=ns.getD i 0
  rw[ao,aa b];exact o.pos _ (aH b)
 ·show (cl.map _).length=(cl.map _).length
  rw[af,af]
 ·show (cl.map _).length<=20
  rw[af];exact k
 ·obtain⟨c,z,rfl⟩:=aL.mp m
  exact (e c z).2
 ·obtain⟨c,z,rfl⟩:=aL.mp f
  exact (e c z).1
 ·show (cl.map _).length=(cl.map _).length
  rw[af,af]
 ·obtain⟨c,z,rfl⟩:=aL.mp a
  exact aX _
def ltV(p:Nat×Option Nat):List V:=[.int p.1,wF (p.2.map λy:Nat=>(y:Int))]
theorem or2{b:Bool}{A R:Prop}(a:Prop)(c:a->A)(d:b=true->a)(f:(a->A)->¬b=true->R):if b=true then A else R:=jd (λe=>c (d e)) (λe=>f c e)
theorem aaS(R:Nat->RM.Row):∃os,fk (aR ns rs live nd ok hl) R os/\os.length<=ns.length:=by
 refine⟨(av rs.length).filter λk=>decide (k∈(av ns.length).filterMap λh=>(tU (aR ns rs live nd ok hl) R h).map (·.1)),⟨ni.sublist fW,λk=>?_⟩,?_⟩
 ·rw[aT,bB,f5,iM]
  constructor
  ·rintro⟨_,h,_,e⟩
   cases q:tU (aR ns rs live nd ok hl) R h with
   |none=>rw[q] at e;cases e
   |some p =>
    rw[q] at e;cases e;exact⟨h,p.2,nP.mp q⟩
  ·rintro⟨h,g,t⟩
   exact⟨hl k t.lZ.1,h,bB.mpr (kH.lt t).1,by rw[nP.mpr t];rfl⟩
 ·refine aN (Gr.lA (B:=(av ns.length).filterMap λh=>(tU (aR ns rs live nd ok hl) R h).map (·.1)) (rB.sublist fW) λk a=>?_) (aN (sE _ _) (Nat.le_of_eq be))
  exact gh (aT.mp a).2
theorem agu{cl:List (Nat×Nat)}(o:cN ns rs)(a:cl.length<=20)(b:∀c∈cl,c.1<ns.length/\c.2<3):Al ns rs (rs.map λr=>bK r.d.toNat true) cl 0 (S0 ns rs cl):=⟨ajB o a b,λ_=>ajc,aX _,az _⟩
inductive aaT(K:ah)(vs:List V)(H:Hp)(Q:VK)(E:XK):Prop
 |mk (a:Addr) (ns:List Int):vs=[.ref a]->bN K H a (ns.map V.int)->ns.length<=63->(∀H',Q (.bl true) H')->aaT K vs H Q E
theorem agv(T:Txt K mg t):cH P w K mg base iS 10 t.QW t.QX ["_law_script"]  (aaT K):=by
 refine T.ZV.F.jK iZ λH Q E X h=>?_
 ·obtain⟨a,cs,rfl,hS,hlen,k⟩:=h
  refine⟨_,(au (sS 1 iZ (aY fH aA (aY cZ (cG (ir T) X T.iy (k9 (pv 0) aA)) aA))) (au (sS 2 iZ (aY cZ (cG (ir T) X T.iy (k9 (pv 0) aA)) aA)) (au (sS 3 iZ (cG (Uh T) X T.Nd (IU (pv 0) (pv 1) (pv 2)))) (au (sS 4 iZ (cG (Pr T) X T.HE (IU (pv 0) (pv 1) (pv 2)))) (au (sS 5 iZ (cI T.E9 (Mz T) X T.aic (k9 (cI T.CL (K8 T) X T.afn (k9 (cG (Ug T) X T.Nc (k9 (pv 0) (pv 1))) (fQ ic (by rfl) T.rV boot_list (gE (pv 3))))) (fQ ic (by rfl) T.rV boot_list (gE (pv 4)))))) (au (tQ (i:=6) iZ.nd rfl (Or.inl rfl) (kO iZ ["_law_rope"] [none]) rfl (fE (pv 3)) (λ_ _ _ _=>by exact (gS 0 Xm)) (λ_ _ _ _=>by exact mS) (λ_ _ _ _=>by exact (aY aeQ (gV (gE Ep)) (yT K (pv 0) aA)))) (au (sS 7 iZ (fQ ic (by rfl) T.rV boot_list (gE (pv 4)))) (au (fS (fE (qQ Ol (pv 0) (mR aA) (mR aA))) (gT 8 iZ) (oE (cG (XS T) X T.QZ (aN7 (pv 5) (pv 1) (pv 2) (pv 3) (pv 6) (pv 7) (pv 8))))) (au (fD (cG (R8 T) X T.Ke (IU (pv 5) (pv 1) (pv 2)))) (au (sS 9 iZ (lg (pv 5) T.bJ T.DN (BV T) (X.mono (!_)) T.Tz (show cF [V.f9] [Value.none] from .cons rfl .nil) jv (gE aA))) (au (sS 10 iZ (gV (gE (fY (k9 aA lM))))) (au (fS (fE (qQ Ol (pv 0) (mR aA) (mR aA))) (gT 8 iZ) (au (sS 11 iZ (lS T.fK (jc (pv 5) T.bJ T.d8.m (jW T) (X.mono (!_)) T.d8.B .nil jv))) (bz (b6 (PW.pt (CB (qT i6 (aY cZ (pv 8) aA) aA) (De (qT i6 (pv 11) aA)))) (au (sS 12 iZ (aY cZ (aY dU (pv 8) aA) (lS T.fK (pv 7)))) (au (fD (sF bI bM bL fR (pv 10) (gE (fY (k9 (pv 12) (cG (V5 T) X T.TF (IU (pv 7) (pv 12) (aY dU (pv 8) aA)))))))) (bz (b6 (qT vz (lg (pv 5) T.bJ T.DN (BV T) (X.mono (!_)) T.Kc .nil jv (k9 (pv 12) (xT (xL (pv 10) (ade YK aA)) aA))) (aY Dg (aY fH (pv 9) (lS T.fK (pv 10))) aA)) oB bw)))) (bz (b6 (iQ (lN (cG (Ii T) X T.DO (IU (pv 5) (pv 9) (aY cZ (aY dU (pv 8) aA) (pv 11)))))) oB bw)))))) (au (fS (fz rfl T.ig (gE (aY Of (aY Of aA (lS T.fK (pv 3))) (aY fH (pv 9) (lS T.fK (pv 10)))))) (gT 13 iZ) (au (sS 11 iZ (lS T.fK (jc (pv 5) T.bJ T.d8.m (jW T) (X.mono (!_)) T.d8.B .nil jv))) (bz (b6 (PW.pt (Ar (qT P4 (pv 11) aA) (yG (iQ (lN (cG (Ii T) X T.DO (IU (pv 5) (pv 9) (aY cZ (cG (ir T) X T.iy (k9 (pv 0) (aY fH aA (aY cZ (pv 13) aA)))) (pv 11))))))))) oB bw)))) (au (b6 (qT Gf (jc (pv 5) T.bJ T.d8.m (jW T) (X.mono (!_)) T.d8.B .nil jv) (gV fX)) oB bw) (au (sS 14 iZ (cG (Sh T) X T.Kg (IU (pv 1) (pv 3) (cG (XO T) X T.QY (IU (pv 3) (pv 6) (pv 2)))))) (au (fS (fz rfl T.ig (gE (lS T.fK (pv 10)))) (gT 13 iZ) (au (Au (xL (pv 10) (pv 13)) (Sq (n:=2) rfl (qO (gT 12 iZ) (qO (gT 15 iZ) IJ)))) (bz (b6 (qT i6 (xT (xL (pv 7) (pv 12)) aA) (pv 2)) (bz (b6 (iQ (lN (cG (UB T) X T.Ng (aN6 (pv 3) (pv 14) (pv 7) (pv 12) (pv 15) (cM (pv 5) T.bJ T.HD (Pz T) X (gE (aY fH (pv 9) (pv 13)))))))) oB bw)) bw)))) oB)))))))))))))))),?_⟩
  left
  refine bC λNx s=>?_;refine⟨_,rfl,a,cs,0,rfl,hS,!_,_,_,rfl,rfl,(by show (0:Int)<10;decide),_,_,rfl,rfl,?_⟩;obtain⟨n,hn,hn1,Yd⟩:∃n:Nat,1+cs.getD (0:Int).toNat 0%10=(n:Int)/\1<=n/\n<=10:=by
   have h1:=b5 (cs.getD (0:Int).toNat 0) (show (10:Int)≠0 by decide);have h2:=cP (cs.getD (0:Int).toNat 0) (show (0:Int)<10 by decide);exact⟨(1+cs.getD (0:Int).toNat 0%10).toNat,∅,∅,∅⟩
  show iO 1 (V.int (1+cs.getD (0:Int).toNat 0%10)) _ _ _;rw[hn];refine s _ _ ?_;refine bC λNx s=>?_;refine⟨_,rfl,a,cs,1,rfl,hS,!_,_,_,rfl,rfl,(by show (0:Int)<3;decide),?_⟩;obtain⟨g,hge,hg⟩:∃g:Nat,cs.getD (1:Int).toNat 0%3=(g:Int)/\g<3:=pO _ (!_);show iO 2 (V.int (cs.getD (1:Int).toNat 0%3)) _ _ _;rw[hge];refine s _ _ ?_;refine bC λNx s=>?_;refine⟨_,rfl,_,rfl,_,rfl,a,cs,n,g,rfl,hS,hn1,Yd,hg,λb0 H1 rs s1 hb0 hR1 l14 ok hnm=>s _ _ ?_⟩;refine bC λNx s=>?_;refine⟨_,rfl,_,rfl,_,rfl,a,cs,n,g,rfl,s1.seq hS,hn1,Yd,hg,λcb qs H2 cl G anC hcb uL hc1 ab6 ajC=>s _ _ ?_⟩;have s12:=s1.trans G;refine bC λNx s=>?_;refine⟨_,rfl,_,rfl,a,cs,n,rfl,s12.seq hS,hn1,Yd,λa0 H3 ns I ha0 hA3 eln nd nn=>?_⟩;subst eln;have Xz:=s12.trans I;obtain⟨us,hB1,ajD⟩:=hR1;have hB3:=(G.trans I) _ _ hB1;have aaU:dg K H3 us (rs.map R5.vs):=ajD.mono λb x=>(G.trans I).cz;have agw:=I _ _ hcb;have agx:dg K H3 qs (XQ cl):=uL.mono λb x=>I.cz;have hS3:=Xz.seq hS;have J:cN ns rs:=⟨nd,ok,hn1,Yd,∅,nn⟩;have hw4:∀r∈rs,1<=r.d/\r.d<=4:=λr hr'=>⟨(ok r hr').d1,(ok r hr').d4⟩;have he7:∀r∈rs,1<=r.e/\r.e<=7:=λr hr'=>⟨(ok r hr').e1,(ok r hr').e7⟩;refine⟨_,rfl,b0,_,rfl,.inl (bN.of hB3),λl2 h2=>?_⟩;have t2:=aG.new (o:=.lst (us.map V.ref)) h2;have hl2:=ay (H:=H3) (a:=l2) (o:=.lst (us.map V.ref));generalize upd H3 l2 (.lst (us.map V.ref))=H4 at t2 hl2;refine λY dx np Wv nep=>?_;have t7:aG H4 (upd (upd H4 dx (.own Y)) Y (.ins t.bA dx [])):=(aG.new Wv).trans (aG.new (by rw[aO (bO nep)];exact np));refine⟨Y,dx,a0,l2,ns,rs,rfl,ay,bN.of (t7 _ _ (t2 _ _ hA3)),⟨l2,_,rfl,bN.of (t7 _ _ hl2),JP.adw (l:=l2) (aaU.mono λb x=>(t2.trans t7).cz)⟩,hn1,Yd,nn,nd,∅,ok,λln lr H5 hln hlr hT kp=>⟨rfl,?_⟩⟩;have t5:aG H3 H5:=t2.trans λb o e=>kp b o (t7 b o e) (aQ e np);refine⟨_,rfl,cb,_,rfl,.inl (bN.of (t5 _ _ agw)),λl3 h3=>?_⟩;have t6:=aG.new (o:=.lst (qs.map V.ref)) h3;have hl3:=ay (H:=H5) (a:=l3) (o:=.lst (qs.map V.ref));have hT6:=hT.mono t6;have t36:=t5.trans t6;generalize upd H5 l3 (.lst (qs.map V.ref))=H6 at t6 hl3 hT6 t36;refine λp FU npp Wv nep=>?_;have t7:aG H6 (upd (upd H6 FU (.own p)) p (.ins t.c8 FU [])):=(aG.new Wv).trans (aG.new (by rw[aO (bO nep)];exact npp));refine⟨p,FU,Y,ln,lr,l3,ns,rs,qs,cl,rfl,ay,hT6.mono t7,∅,∅,hw4,bN.of (t7 _ _ hl3),agx.mono λb x=>(t36.trans t7).cz,ab6,ajC,λF H7 N kp fr=>⟨rfl,s _ _ ?_⟩⟩;have S7:aG H6 (Off H7 F):=ZJ t7 npp kp fr;have hT7:=hT6.mono S7;have S37:=t36.trans S7;have s37:=S37.trans cj;have hB7:=s37 _ _ hB3;have ajI:dg K H7 us (rs.map R5.vs):=aaU.mono λb x=>s37.cz;have eus:us.length=rs.length:=by rw[aaU.len,af]
  refine bC λNx s=>?_;refine⟨_,rfl,b0,rfl,⟨_,bN.of hB7⟩,λls hls=>?_⟩;have XN:=bN.of (K:=K) hB7;refine gf (n:=(us.map V.ref).length) (λi ys H8=>∃lB:List Addr,ys=lB.map V.ref/\lB.length=i/\lB.Nodup/\∀(j:Nat) l r,lB[j]?=some l->rs[j]?=some r->H8 l=some (.lst ((bK r.d.toNat true).map V.bl))/\l≠ls/\H7 l=none) hls (wA XN) (lY XN) ⟨[],rfl,rfl,jY,λj l r e=>by simp at e⟩ ?_ ?_
  ·rintro i ys H8 hi S hy ⟨lB,rfl,el,hnd,Si⟩ x H9 ⟨rfl,hx⟩
   have hx:=hx _ (S.seq XN);have hi':i<us.length:=by rw[af] at hi;exact hi
   have Fz:rs[i]?=some rs[i]:=aa ∅;have hq:=ajI.at' i us[i] (rs[i]).vs (aa hi') (by rw[ak,Fz];rfl);rw[ak,aa hi'] at hx;cases hx;have w4:=hw4 _ (aC Fz);refine⟨aag,λl1 h1=>?_⟩;have s9:=aG.new (o:=.lst [.bl true]) h1;refine⟨_,rfl,us[i],_,_,_,rfl,rfl,(S.trans s9).cz hq,rfl,l1,rs[i].d,_,rfl,rfl,ay,∅,∅,(by show 1*rs[i].d.toNat<=sizeLine;exact gI (b4 ∅)),λl2 h2=>?_⟩;rw[TW.ae9];have FQ:=s9.trans (aG.new (o:=.lst ((bK rs[i].d.toNat true).map V.bl)) h2);have ago:=ay (H:=upd H9 l1 (.lst [.bl true])) (a:=l2) (o:=.lst ((bK rs[i].d.toNat true).map V.bl));have ajJ:=FQ _ _ hy;have nl2:l2≠ls:=(aQ (s9 _ _ hy) h2).symm;have hn8:H9 l2=none:=s9.free h2;have hn7:H7 l2=none:=S.free hn8;generalize upd (upd H9 l1 (.lst [.bl true])) l2 (.lst ((bK rs[i].d.toNat true).map V.bl))=Dk at FQ ago ajJ;refine dY hls hi (S.trans FQ) ajJ (by rw[af,el];exact b4 ∅) ⟨lB++[l2],by rw[aK];rfl,by rw[aB,el];rfl,?_,λj l' r e1 e2=>?_⟩
   ·rw[g8]
    refine⟨hnd,-_,λx hx y hy'=>?_⟩
    have:y=l2:=by simpa using hy'
    subst this;obtain⟨j,hj⟩:=cE hx;have W:=(ai.mp hj).1;exact aQ (Si j x _ hj (aa ∅)).1 hn8
   ·rcases ER e1 with e1|⟨rfl,rfl⟩
    ·obtain⟨z1,z2⟩:=Si j l' r e1 e2
     exact⟨by rw[aO z2.1];exact FQ _ _ z1,z2⟩
    ·rw[el,Fz] at e2
     cases e2;exact⟨by rw[aO nl2];exact ago,nl2,hn7⟩
  rintro ys H8 S hy ⟨lB,rfl,el,hnd,Si⟩;refine s _ _ ?_;rw[af] at el;have nF:∀b,H7 b=none->¬F b:=λb e z=>by
   obtain⟨o,h⟩:=N.there z;rw[e] at h;cases h
  have new:∀l∈lB,H7 l=none/\l≠ls:=λl hl=>by
   obtain⟨j,hj⟩:=cE hl;have W:=(ai.mp hj).1;exact⟨(Si j l _ hj (aa ∅)).2.2,(Si j l _ hj (aa ∅)).2.1⟩
  have hX8:mu (Off H8 F) ls lB (rs.map λr=>bK r.d.toNat true):=by
   refine⟨tZ (nF ls hls) hy,by rw[af];lia,hnd,λi l b e1 e2=>?_⟩;rw[ak] at e2;cases e3:rs[i]? with
   |none=>rw[e3] at e2;cases e2
   |some r =>
    rw[e3] at e2;cases e2;exact tZ (nF l (Si i l r e1 e3).2.2) (Si i l r e1 e3).1
  have N8:=N.mono S;have S78:=cT (F:=F) S;have hT8:=hT7.mono S78;have S38:=S37.trans S78;have s38:=S38.trans cj;refine bC λNx s=>?_;refine⟨_,rfl,cb,_,rfl,.inl (bN.of (s38 _ _ agw)),λZ hpl=>s _ _ ?_⟩;have s9:=aG.new (o:=.lst (qs.map V.ref)) hpl;have agy:=ay (H:=H8) (a:=Z) (o:=.lst (qs.map V.ref));generalize upd H8 Z (.lst (qs.map V.ref))=H9 at s9 agy;have N9:=N8.mono s9;have S89:=cT (F:=F) s9;have S39:=S38.trans S89;have S79:=S78.trans S89;have UD:=S.free hpl;have LG:∀{b o},Off H7 F b=some o->∀l,H7 l=none->l≠b:=λ{b o} e l hl z=>by
   have:=cj _ _ e
   rw[<- z,hl] at this;cases this
  have nb:∀b o,Off H7 F b=some o->b∉lB/\b≠Z:=λb o e=>⟨λz=>LG e b (new b z).1 rfl,λz=>LG e Z UD z.symm⟩;obtain⟨⟨dt,htp⟩,hln,_,hlr,_⟩:=id hT7;have agz:=S37 _ _ hB3;have dx9:DX K t.bA (Off H9 F) Y ln lr b0 ls lB Z ns rs (rs.map λr=>bK r.d.toNat true) cl:=by
   refine⟨hT8.mono S89,⟨us,S39 _ _ hB3,aaU.mono λb x=>S39.cz⟩,hX8.mono S89,⟨qs,tZ (nF Z UD) agy,agx.mono λb x=>S39.cz⟩,λl hl=>?_,⟨LG htp Z UD,LG hln Z UD,LG hlr Z UD,LG agz Z UD,(aQ (cj _ _ hX8.at_) hpl).symm⟩⟩;obtain⟨z1,z2⟩:=new l hl;obtain⟨j,hj⟩:=cE hl;have W:=(ai.mp hj).1;rw[hX8.len] at W;exact⟨LG htp l z1,LG hln l z1,LG hlr l z1,LG agz l z1,z2,aQ (cj _ _ (hX8.it j l _ hj (aa W))) hpl⟩
  have sd9:=agu J ab6 ajC;have hS7:bN K (Off H7 F) a (cs.map V.int):=S37.seq hS3;generalize S0 ns rs cl=st at N9 sd9;generalize (rs.map λr=>bK r.d.toNat true)=bs at dx9 sd9;generalize Off H7 F=hb at nb S79 hS7;obtain⟨ys,eys,lys⟩:∃ys:List Int,Av (cs.map V.int) (some 30) (some 45)=ys.map V.int/\ys.length<=15:=Qs cs 30 45;refine bC λNx s=>?_;refine⟨_,rfl,_,rfl,_,rfl,a,_,rfl,cj.seq (S79.seq hS7),λlq Nn=>?_⟩;rw[eys];have u3:=aG.new (o:=.lst (ys.map V.int)) Nn;have ac0:=ay (H:=H9) (a:=lq) (o:=.lst (ys.map V.int));have nFq:¬F lq:=λz=>by
   obtain⟨o,h⟩:=N9.there z;rw[Nn] at h;cases h
  have nlq:lq∉lB:=λz=>by
   obtain⟨j,hj⟩:=cE z;have W:=(ai.mp hj).1;rw[dx9.sts.len] at W;exact aQ (cj _ _ (dx9.sts.it j lq _ hj (aa W))) Nn rfl
  have npq:lq≠Z:=λz=>by
   obtain⟨qp,h1,_⟩:=dx9.Vu;exact aQ (cj _ _ h1) Nn z.symm
  generalize upd H9 lq (.lst (ys.map V.int))=Dk at u3 ac0;have ajM:Off Dk F lq=some (.lst (ys.map V.int)):=tZ nFq ac0;have N10:=N9.mono u3;have ajN:=dx9.mono (cT (F:=F) u3);have ajO:=S79.trans (cT (F:=F) u3);refine⟨lq,rfl,⟨_,bN.of ac0⟩,tE (K:=K) (a:=lq) (xs:=ys.map V.int) (λj σ H2=>∃(G:NS) (u:Addr->Prop) (Sm:List (List Bool)) (A:List (Nat×Nat)) (v9:Option V),dH K (nc t) H2 u p Y ns.length G/\DX K t.bA (Off H2 u) Y ln lr b0 ls lB Z ns rs Sm A/\Al ns rs Sm A (100*j) G/\A.length=cl.length/\Kp (Off Dk F) (Off H2 u) lB Z/\σ=[some (.ref a),some (.int (ns.length:Nat)),some (.int g),some (.ref b0),some (.ref cb),some (.ref p),some (.ref ls),some (.ref Z),v9,none,none,none,none,none,none,none])
   ⟨st,F,bs,cl,_,N10,ajN,sd9,rfl,Kp.of (aG.refl _),rfl⟩ (λj σ H2 _ z=>?_) ?_ ?_⟩
  ·obtain⟨G,u,Sm,A,v9,_,_,_,_,kp,_⟩:=z
   exact bN.of (cj _ _ (kp _ _ ajM nlq npq))
  ·rintro j y σ H2 Nf vf hj ⟨G,u,Sm,A,v9,N2,XD,Ct,xy,Ot,rfl⟩
   have W:j<ys.length:=by
    have:=(ai.mp hj).1
    rw[af] at this;exact this
   rw[ak,aa W] at hj;cases hj;generalize ys[j]=cell;refine⟨_,rfl,_,rfl,_,rfl,_,rfl,_,rfl,_,rfl,_,rfl,u,p,Y,ln,lr,b0,ls,lB,Z,ns,rs,Sm,A,100*j,G,g,cell,rfl,J,N2,XD,Ct,∅,hg,∅,λI bs3 cl3 F3 H3 N3 Pw sd3 ar2 Kw=>?_⟩;exact vf _ _ ⟨I,F3,bs3,cl3,_,N3,Pw,sd3.mono ∅,∅,Ot.trans Kw,rfl⟩
  rintro σ H2 ⟨G,u,Sm,A,v9,N2,XD,Ct,xy,Ot,rfl⟩;refine s _ _ ?_;rw[af] at Ct;have hDD:100*ys.length<=1500:=∅
  have S2:aG hb (Off H2 u):=λb o e=>Ot b o (ajO b o e) (nb b o e).1 (nb b o e).2;generalize 100*ys.length=D at Ct hDD;generalize hst:G=st2 at N2 Ct;obtain⟨qp,aaK,aaL⟩:=XD.Vu;have vq:A.length<=20:=∅
  have ajP:0<A.length:=∅
  refine bC λNx s=>?_;refine⟨_,rfl,_,rfl,_,rfl,u,p,Y,ln,lr,ns,rs,J,Sm,A,D,st2,g,rfl,XD.l5.nw N2 (λb z=>z),Ct,hg,λS F8 H8 W8 UT rest Yp=>s _ _ ?_⟩;have N8:=W8.dG;have S28:=eu Yp;have kF:=XD.mono S28;have S8:=S2.trans S28;have agA:=S28 _ _ aaK;have ac1:dg K (Off H8 F8) qp (XQ A):=aaL.mono λb x=>S28.cz;have anI:S.ls.length<=15:=by have:=UT.ln;lia
  obtain⟨os,hos⟩:=Classical.axiomOfChoice (r:=λ(g:Nat) (os':List Nat)=>fk (ju ns rs J S.ws g) (S.R g) os'/\os'.length<=ns.length) (λg=>aaS (S.R g));have z8:Ux ns rs J Sm A os S.ls.length [] D S:=Ux.start UT (λg _=>(hos g).1) (λg _=>by have:=(hos g).2;lia);have LX:RM.Sane (ju ns rs J S.ws g) (S.R g):=(UT.ok.fit g hg).LX;have HL:∀M,Gr.UZ (gw rs (tY rs (Sm.map stand) g)) ns.length M->∀f z,f<ns.length->z<ns.length->(M.getD z 0=M.getD f 0↔Rw rs (os g) rs.length f z):=λM L f z hf hz=>by
   rw[<- UT.ws] at L;exact XY rest LX (hos g).1 L hf hz
  have fo:Fo ns rs (os g):=Fo.of (hos g).1;generalize ebb:S.ls.length=bb at z8 anI;obtain⟨loc,dxx,q,hp,O,hF,hT⟩:=id N8;have NN:=O.get .dG _ rfl;rw[hp] at NN;have hx0:0<S.aE.length:=by rw[UT.hm,af];exact ajP
  have agB:∀y,(none:Option Nat)=some y->y<S.aE.length/\S.groups[y]?=S.groups[0]?:=λy e=>by cases e
  refine bC λNx s=>?_;refine⟨_,rfl,p,_,_,rfl,NN,rfl,F8,p,Y,ln,lr,ns,rs,S,J,0,none,D,rfl,kF.l5.nw N8 (λb z=>z),z8.sd.ok,z8.sd.bd,∅,hx0,agB,λos' F9 H9 hO h12 W9 UO=>?_⟩;rw[ebb];refine s _ _ ?_;have z9:Ux ns rs J Sm A os bb [(0,none)] (D+100) (nW rs S 0 none os'):=z8.post hx0 agB hO;have N9:=W9.dG;generalize nW rs S 0 none os'=s9 at z9 N9;have o9:=eu UO;have hS8:bN K (Off H8 F8) a (cs.map V.int):=S8.seq hS7;have nF9:∀b,H9 b=none->¬F9 b:=λb e z=>by
   obtain⟨o,h⟩:=N9.there z;rw[e] at h;cases h
  refine bC λNx s=>?_;refine⟨fy,λzt hzt=>⟨aag,λlt hlt=>s _ _ ?_⟩⟩;have hlt:upd H9 zt (.tup [V.int 0,V.f9]) lt=none:=hlt;have u10:=aG.new (o:=.tup [V.int 0,V.f9]) hzt;have aaV:=ay (H:=H9) (a:=zt) (o:=.tup [V.int 0,V.f9]);generalize upd H9 zt (.tup [V.int 0,V.f9])=Dk at u10 aaV hlt;have ac2:H9 lt=none:=u10.free hlt;have UC:=u10.trans (aG.new (o:=.lst [V.ref zt]) hlt);have Wa:=tZ (F:=F9) (nF9 lt ac2) (ay (H:=Dk) (a:=lt) (o:=.lst [V.ref zt]));have aaW:=aG.new (o:=.lst [V.ref zt]) hlt _ _ aaV;generalize upd Dk lt (.lst [V.ref zt])=Yh at UC Wa aaW;have N11:=N9.mono UC;have anL:Off H8 F8 lt=none:=by
   cases e:Off H8 F8 lt with
   |none=>rfl
   |some o=>rw[cj _ _ (o9 _ _ e)] at ac2;cases ac2
  have jR:=o9.trans (cT (F:=F9) UC);have aef:dg K (Off Yh F9) [zt] ([((0:Nat),(none:Option Nat))].map ltV):=dg.snoc (qs:=[]) (xs:=[]) ⟨rfl,λi q x e=>by cases e⟩ (N11.afh (cX.of aaW));have ajR:∀b,Yh b=none->¬F9 b:=λb e=>nF9 b (UC.free e);obtain⟨zs,ezs,hzl⟩:∃zs:List Int,Av (cs.map V.int) (some 45) (some 63)=zs.map V.int/\zs.length<=18:=Qs cs 45 63;refine bC λNx s=>?_;refine⟨_,rfl,_,rfl,_,rfl,a,_,rfl,(jR.trans cj).seq hS8,λlz hlz=>?_⟩;rw[ezs];have nlz:lz≠lt:=bO (aQ (cj _ _ Wa) hlz);have LR:=aG.new (o:=.lst (zs.map V.int)) hlz;have Wb:Off (upd Yh lz (.lst (zs.map V.int))) F9 lz=some (.lst (zs.map V.int)):=tZ (ajR lz hlz) ay;generalize upd Yh lz (.lst (zs.map V.int))=Rv at LR Wb;have N12:=N11.mono LR;have nT:=jR.trans (cT (F:=F9) LR);have aeg:=cT (F:=F9) LR _ _ Wa;have aeh:dg K (Off Rv F9) [zt] ([((0:Nat),(none:Option Nat))].map ltV):=aef.mono λb x=>(cT (F:=F9) LR).cz;have eqp:qp.length=A.length:=by rw[ac1.len,af]
  have ajS:(((qp.map V.ref).length:Nat):Int)=(A.length:Int):=by rw[af,eqp]
  have atc:∀{y:Nat} (hy:y<A.length),Aw (qp.map V.ref) (y:Int)=some (.ref (qp[y]'∅))/\cX K (Off H8 F8) (qp[y]'∅) [.int A[y].1,.int A[y].2]:=λ{y} hy=>⟨c5 (by rw[ak,aa];rfl),ac1.at' y _ _ (aa _) (by rw[ak,aa hy];rfl)⟩;refine⟨lz,rfl,⟨_,bN.of (cj _ _ Wb)⟩,tE (K:=K) (a:=lz) (xs:=zs.map V.int) (λj σ H2=>∃(G:NS) (u:Addr->Prop) (v:List (Nat×Option Nat)) (C:List Addr) (v8 U Lk:Option V),dH K (nc t) H2 u p Y ns.length G/\Ux ns rs J Sm A os bb v (D+100*(j+1)) G/\v.length<=j+1/\aG (Off H8 F8) (Off H2 u)/\Off H2 u lz=some (.lst (zs.map V.int))/\Off H2 u lt=some (.lst (C.map V.ref))/\dg K (Off H2 u) C (v.map ltV)/\σ=[some (.ref a),some (.int (ns.length:Nat)),some (.int g),some (.ref b0),some (.ref cb),some (.ref p),some (.ref ls),some (.ref Z),v8,some (.int (bb:Nat)),some (.ref lt),U,Lk,none,none,none]) ⟨s9,F9,[(0,none)],[zt],_,_,_,N12,z9,az _,nT,Wb,aeg,aeh,rfl⟩ (λj σ H2 _ z=>?_) ?_ ?_⟩
  ·obtain⟨G,u,v,C,v8,U,Lk,_,_,_,_,h6,_⟩:=z
   exact bN.of (cj _ _ h6)
  ·rintro j y σ H2 Nf vf hj ⟨G,u,v,C,v8,U,Lk,N2,z2,hLj,o2,ac3,aaX,aaY,rfl⟩
   have W:j<zs.length:=by
    have:=(ai.mp hj).1
    rw[af] at this;exact this
   rw[ak,aa W] at hj;cases hj;generalize zs[j]=cell;obtain⟨loc,dxx,q,hp,O,hF,hT⟩:=id N2;have vY:=O.get .dG _ rfl;rw[hp] at vY;refine bC λNx s=>?_;refine⟨_,rfl,p,_,_,rfl,vY,rfl,u,p,Y,ns.length,G,rfl,N2,λlf qf H3 w3 Uv Yq XW=>⟨lf,_,rfl,.inl (bN.of Yq),?_⟩⟩;rw[af,show qf.length=G.cps.length by rw[XW.len,af]];refine s _ _ ?_;have N3:=N2.mono w3;have o3:=o2.trans (cT (F:=u) w3);have agC:=cT (F:=u) w3 _ _ ac3;have Hj:=cT (F:=u) w3 _ _ aaX;have Sj:dg K (Off H3 u) C (v.map ltV):=aaY.mono λb x=>(cT (F:=u) w3).cz;have lJ:=w3 _ _ vY;have XU:H3 Z=some (.lst (qp.map V.ref)):=cj _ _ (o3 _ _ agA);have ajT:dg K H3 qp (XQ A):=ac1.mono λb x z=>cj.cz (o3.cz z);have W3:NW K (nc t) t.bA H3 u p Y ln lr ns rs G:=(kF.mono o3).l5.nw N3 (λb z=>z);refine⟨_,rfl,_,_,rfl,rfl,(by show (0:Int)<3;decide),rfl,_,rfl,or2 True (λ_=>?_) (λ_=>trivial) (λia e=>?_)⟩
   ·
    obtain⟨x,ex,hx⟩:=pO (cell/3) ajP;refine dZ ?_;refine bC λNx s=>?_;refine⟨_,rfl,_,_,rfl,rfl,⟨!_,!_⟩,_,rfl,Z,_,rfl,.inl (bN.of XU),_,_,rfl,rfl,(by rw[ajS];lia),?_⟩
    try dsimp only
    rw[ajS,ex];refine s _ _ ?_;refine bC λNx s=>?_;refine⟨_,rfl,.inl ⟨rfl,_,bN.of (cj _ _ Hj)⟩,_,rfl,_,rfl,_,rfl,_,rfl,_,_,rfl,rfl,⟨!_,!_⟩,Z,qp,A,x,cell/18,rfl,bN.of XU,ajT,hx,vq,λto H4 w4 hto=>⟨fy,λz hz=>?_⟩⟩;have u5:=w4.trans (aG.new (o:=.tup [V.int (x:Nat),wF (to.map λy:Nat=>(y:Int))]) hz);have hz5:=ay (H:=H4) (a:=z) (o:=.tup [V.int (x:Nat),wF (to.map λy:Nat=>(y:Int))]);generalize upd H4 z (.tup [V.int (x:Nat),wF (to.map λy:Nat=>(y:Int))])=H5 at u5 hz5;have N5:=N3.mono u5;have o5:=o3.trans (cT (F:=u) u5);have ajU:=cT (F:=u) u5 _ _ agC;have MC:=cT (F:=u) u5 _ _ Hj;have Ye:dg K (Off H5 u) C (v.map ltV):=Sj.mono λb x=>(cT (F:=u) u5).cz;have O4:C.length=v.length:=by rw[Ye.len,af]
    refine⟨lt,_,_,rfl,rfl,cj _ _ MC,(by rw[af];exact b4 ∅),s _ _ ?_⟩;have eO:=IT (H:=H5) (o:=.lst (C.map V.ref++[.ref z])) (l6 MC).1;have N6:=N5.past (o:=.lst (C.map V.ref++[.ref z])) MC jf;have o6:aG (Off H8 F8) (Off (upd H5 lt (.lst (C.map V.ref++[.ref z]))) u):=by rw[eO];exact o5.out anL
    have ajV:Off (upd H5 lt (.lst (C.map V.ref++[.ref z]))) u lz=some (.lst (zs.map V.int)):=by rw[eO,aO nlz];exact ajU
    have agD:Off (upd H5 lt (.lst (C.map V.ref++[.ref z]))) u lt=some (.lst ((C++[z]).map V.ref)):=by rw[eO,ay,aK];rfl
    have agE:dg K (Off (upd H5 lt (.lst (C.map V.ref++[.ref z]))) u) (C++[z]) ((v++[(x,to)]).map ltV):=by
     rw[eO,aK];exact (Ye.snoc (N5.afh (cX.of hz5))).mono λb x=>cX.past MC jf b9
    generalize upd H5 lt (.lst (C.map V.ref++[.ref z]))=H6 at N6 o6 ajV agD agE;have hxh:x<G.aE.length:=by rw[z2.sd.hm,af];exact hx
    have ajW:∀y,to=some y->y<G.aE.length/\G.groups[y]?=G.groups[x]?:=λy e=>by
     rw[z2.sd.hm,af,z2.sd.gr];exact hto y e
    obtain⟨loc,dxx,q,hp,O,hF,hT⟩:=id N6;have aei:=O.get .dG _ rfl;rw[hp] at aei;have W6:NW K (nc t) t.bA H6 u p Y ln lr ns rs G:=(kF.mono o6).l5.nw N6 (λb z=>z);have htz:cX K H6 z [.int (x:Int),wF (to.map λy:Nat=>(y:Int))]:=cj.cz (agE.at' C.length z _ (-_) (by rw[aK,O4,bT (by rw[af];exact az _),af,eV];rfl));have atz:Aw ((C++[z]).map V.ref) (-1)=some (.ref z):=by
     rw[aK];exact Y3 _ _
    refine⟨_,rfl,p,_,_,rfl,aei,rfl,_,rfl,_,rfl,_,rfl,lO (bN.of (cj _ _ agD)) atz (ie htz rfl ⟨u,p,Y,ln,lr,ns,rs,G,J,x,to,D+100*(j+1),rfl,W6,z2.sd.ok,z2.sd.bd,∅,hxh,ajW,λos' F7 H7 hO h12 W7 Qg=>?_⟩)⟩;have z7:=z2.post hxh ajW hO;have o7:=o6.trans (eu Qg);have anN:=eu Qg _ _ ajV;have aaZ:=eu Qg _ _ agD;have agF:dg K (Off H7 F7) (C++[z]) ((v++[(x,to)]).map ltV):=agE.mono λb x=>(eu Qg).cz;have ell:G.ls.length=bb+v.length:=z2.aj.ll;refine⟨_,rfl,_,rfl,lt,_,rfl,.inl (bN.of (cj _ _ aaZ)),_,_,rfl,rfl,_,_,rfl,rfl,rfl,_,rfl,?_⟩;have edd:decide (V.int ((G.ls.length:Nat):Int)=V.int ((bb:Int)+((((C++[z]).map V.ref).length:Nat):Int)-1))=true:=eH (by
     rw[af,aB,List.length_singleton,O4,ell];congr 1;lia)
    try dsimp only
    rw[edd];refine dh (vf _ _ ⟨_,F7,v++[(x,to)],C++[z],_,_,_,W7.dG,?_,by rw[aB];exact gG hLj 1,o7,anN,aaZ,agF,rfl⟩);exact z7
   ·refine⟨_,rfl,rfl,_,rfl,jd (λe2=>ia trivial) (λe2=>?_)⟩
    have hc0:0<G.cps.length:=by
     rcases Nat.eq_zero_or_pos G.cps.length with z|z
     ·exact cy (eH (by rw[z];rfl)) e2
     ·exact z
    obtain⟨a1,ea,ha1⟩:=pO (cell/3) hc0;refine⟨_,rfl,_,rfl,_,rfl,_,_,rfl,rfl,⟨!_,!_⟩,_,rfl,_,_,rfl,rfl,(by show (0:Int)<(G.cps.length:Int);lia),?_⟩
    try dsimp only
    rw[ea];refine⟨u,p,Y,ln,lr,ns,rs,J,Sm,A,os,bb,v,D+100*(j+1),G,a1,rfl,W3,z2,∅,ha1,λs4 F4 H4 W4 z4 ph4 EI=>⟨_,rfl,dh (vf _ _ ⟨s4,F4,v,C,_,_,_,W4.dG,z4,∅,o3.trans (eu EI),eu EI _ _ agC,eu EI _ _ Hj,Sj.mono λb x=>(eu EI).cz,rfl⟩)⟩⟩
  ·rintro σ H2 ⟨G,u,v,C,v8,U,Lk,N2,z2,hLj,o2,ac3,aaX,aaY,rfl⟩
   refine s _ _ ?_;rw[af] at z2 hLj;have hLb:v.length<=19:=∅
   have hD2:D+100*(zs.length+1)<=3400:=∅
   generalize D+100*(zs.length+1)=D2 at z2 hD2;have O4:C.length=v.length:=by rw[aaY.len,af]
   obtain⟨us2,hB2,anO⟩:=kF.nu;have anP:us2.length=rs.length:=by rw[anO.len,af]
   have hph:=z2.sd.ph;unfold Hh at hph;rw[z2.aj.ll] at hph;have hmul:2*rs.length*(bb+v.length)<=952:=aN (Nat.mul_le_mul (Nat.mul_le_mul_left 2 l14) (show bb+v.length<=34 by lia)) (!_);generalize en2:2*rs.length*(bb+v.length)=n2 at hph hmul;have anQ:2*(((us2.map V.ref).length:Nat):Int)*((bb:Int)+(((C.map V.ref).length:Nat):Int))=(n2:Int):=by
    rw[af,af,anP,O4,<- en2];simp
   refine bC λNx s=>?_;refine⟨_,rfl,b0,_,rfl,.inl (bN.of (cj _ _ (o2 _ _ hB2))),_,_,rfl,rfl,.inl ⟨!_,!_⟩,_,rfl,_,rfl,lt,_,rfl,.inl (bN.of (cj _ _ aaX)),_,_,rfl,rfl,_,_,rfl,rfl,?_,(n2:Int),ff (λz=>[V.int z]) anQ,∅,∅,tT (n:=((n2:Int)).toNat) (λi σ H3=>∃(I:NS) (F3:Addr->Prop) (v8 U Lk sZ:Option V),dH K (nc t) H3 F3 p Y ns.length I/\Ux ns rs J Sm A os bb v (D2+100*i) I/\(I.cps=[]∨Ph ns.length rs I+i<=n2)/\aG (Off H8 F8) (Off H3 F3)/\Off H3 F3 lt=some (.lst (C.map V.ref))/\dg K (Off H3 F3) C (v.map ltV)/\σ=[some (.ref a),some (.int (ns.length:Nat)),some (.int g),some (.ref b0),some (.ref cb),some (.ref p),some (.ref ls),some (.ref Z),v8,some (.int (bb:Nat)),some (.ref lt),U,Lk,sZ,none,none]) ⟨G,u,_,_,_,_,N2,z2,.inr hph,o2,aaX,aaY,rfl⟩ ?_ ?_⟩
   ·refine .inr ⟨?_,?_⟩ <;> rw[af,O4] <;> lia
   ·rintro i σ H3 Nf vf hi ⟨I,F3,v8,U,Lk,sZ,N3,z3,hc3,o3,Hj,Sj,rfl⟩
    rw[dw];have hi':i<n2:=by simpa using hi
    obtain⟨loc,dxx,q,hp,O,hF,hT⟩:=id N3;have lJ:=O.get .dG _ rfl;rw[hp] at lJ;refine bC λNx s=>?_;refine⟨_,rfl,p,_,_,rfl,lJ,rfl,F3,p,Y,ns.length,I,rfl,N3,λlf qf H4 w4 Uv Yq XW=>⟨lf,_,rfl,.inl (bN.of Yq),?_⟩⟩;rw[af,show qf.length=I.cps.length by rw[XW.len,af]];refine s _ _ ?_;have N4:=N3.mono w4;have o4:=o3.trans (cT (F:=F3) w4);have Uz:=cT (F:=F3) w4 _ _ Hj;have ajX:dg K (Off H4 F3) C (v.map ltV):=Sj.mono λb x=>(cT (F:=F3) w4).cz;have W4:NW K (nc t) t.bA H4 F3 p Y ln lr ns rs I:=(kF.mono o4).l5.nw N4 (λb z=>z);refine⟨_,rfl,_,_,rfl,rfl,_,rfl,?_⟩;by_cases hc0:0<I.cps.length
    case neg =>
     have ec:I.cps=[]:=iX.mp ∅;rw[show decide ((0:Int)<((I.cps.length:Nat):Int))=false from e8 ∅];exact dh (vf _ _ ⟨I,F3,_,_,_,_,N4,⟨z3.sd.mono ∅,z3.aj,z3.op,z3.nT⟩,.inl ec,o4,Uz,ajX,rfl⟩)
    rw[show decide ((0:Int)<((I.cps.length:Nat):Int))=true from eH ∅];have asc:=b5 (i:Int) (show (33:Int)≠0 by decide);refine dZ ⟨_,rfl,_,rfl,_,rfl,_,rfl,_,_,rfl,rfl,(by show (0:Int)<33;decide),_,_,rfl,rfl,a,cs,_,rfl,(o4.trans cj).seq hS8,?_,_,rfl,_,_,rfl,rfl,(by show (0:Int)<(I.cps.length:Int);lia),?_⟩
    ·show (0:Int)<=30+(i:Int)%33
     lia
    try dsimp only
    generalize cs.getD _ 0=cell;obtain⟨a1,ea,ha1⟩:=pO cell hc0;rw[ea];refine⟨F3,p,Y,ln,lr,ns,rs,J,Sm,A,os,bb,v,D2+100*i,I,a1,rfl,W4,z3,∅,ha1,λs5 F5 H5 W5 z5 ph5 LH=>⟨_,rfl,dh (vf _ _ ⟨s5,F5,_,_,_,_,W5.dG,z5,.inr ?_,o4.trans (eu LH),eu LH _ _ Uz,ajX.mono λb x=>(eu LH).cz,rfl⟩)⟩⟩;rcases hc3 with z|z
    ·rw[z] at hc0
     exact cy hc0 (!_)
    ·lia
   ·rintro σ H3 ⟨I,F3,v8,U,Lk,sZ,N3,z3,hc3,o3,Hj,Sj,rfl⟩
    refine s _ _ ?_;rw[cO] at z3 hc3;have ec:I.cps=[]:=by
     rcases hc3 with z|z
     ·exact z
     ·have:I.cps.length<=Ph ns.length rs I:=lV _ _
      exact iX.mp ∅
    have hD3:D2+100*n2<=100000:=∅
    obtain⟨loc,dxx,q,hp,O,hF,hT⟩:=id N3;have lJ:=O.get .dG _ rfl;rw[hp] at lJ;refine bC λNx s=>?_;refine⟨_,rfl,p,_,_,rfl,lJ,rfl,F3,p,Y,ns.length,I,rfl,N3,λlf qf H4 w4 Uv Yq XW=>⟨aX _,λzb hzb=>?_⟩⟩;have u5:=w4.trans (aG.new (o:=.lst []) hzb);have agH:=ay (H:=H4) (a:=zb) (o:=.lst []);have agI:=aG.new (o:=.lst []) hzb _ _ Yq;generalize upd H4 zb (.lst [])=H5 at u5 agH agI;have eqf:qf=[]:=iX.mp (by rw[XW.len,ec];rfl);subst eqf;refine⟨.list [],.list [],⟨lf,[],rfl,bN.of agI,rfl⟩,⟨zb,[],rfl,bN.of agH,rfl⟩,rfl,rfl,UA (!_) X.units,_,rfl,?_⟩;rw[show PyData.eqv (.list []) (.list [])=true from rfl];refine dh (s _ _ ?_);have N5:=N3.mono u5;have o5:=o3.trans (cT (F:=F3) u5);have MC:=cj _ _ (cT (F:=F3) u5 _ _ Hj);have Ye:dg K H5 C (v.map ltV):=Sj.mono λb x z=>cj.cz ((cT (F:=F3) u5).cz z);have S85:aG (Off H8 F8) H5:=o5.trans cj;have RB:=u5 _ _ lJ;have hB5:=kF.nu.keep (λo z=>S85 _ _ z) (λb x=>S85.cz);refine bC λNx s=>?_;refine⟨_,rfl,_,rfl,_,rfl,_,rfl,_,rfl,b0,ls,rs,lB,Sm,g,rfl,hB5,kF.sts.mono S85,z3.sd.fit.1,∅,he7,hg,λlv H6 s6 anS tG=>⟨ns.length,b0,lv,rs,tY rs (Sm.map stand) g,rfl,hB5.keep (λo z=>s6 _ _ z) (λb x=>s6.cz),bN.of tG,xY,ok,∅,λlb M H7 s7 asd hlb hM=>s _ _ ?_⟩⟩;have UU:=s6.trans s7;have HM:=HL M hM;have eM:M.length=ns.length:=hM.len;have aaZ:=UU _ _ MC;have agF:dg K H7 C (v.map ltV):=Ye.mono λb x=>UU.cz;have S87:=S85.trans UU;have VQ:=UU _ _ RB;have N7:=N5.mono UU;refine bC λNx s=>?_;refine⟨_,rfl,lt,_,rfl,.inl (bN.of aaZ),(v.length:Int),(by rw[af,O4]),∅,∅,tT (n:=((v.length:Int)).toNat) (λi σ H6=>aG H7 H6/\∃(v8 U Lk sZ v15:Option V),σ=[some (.ref a),some (.int (ns.length:Nat)),some (.int g),some (.ref b0),some (.ref cb),some (.ref p),some (.ref ls),some (.ref Z),v8,some (.int (bb:Nat)),some (.ref lt),U,Lk,sZ,some (.ref lb),v15]) ⟨aG.refl _,_,_,_,_,_,rfl⟩ ?_ ?_⟩
    ·rintro i σ H6 Nf vf hi ⟨s6,v8,U,Lk,sZ,v15,rfl⟩
     rw[dw];have hiL:i<v.length:=by simpa using hi
     have hpi:v[i]?=some (v[i].1,v[i].2):=aa hiL;obtain⟨l,E2,hl,hold,lk,lj,hne⟩:=z3.aj.li i _ _ hpi;have hqi:Aw (C.map V.ref) (i:Int)=some (.ref (C[i]'∅)):=c5 (by rw[ak,aa];rfl);have hti:cX K H6 (C[i]'∅) [.int (v[i].1:Int),wF (v[i].2.map λy:Nat=>(y:Int))]:=s6.cz (agF.at' i _ _ (aa _) (by rw[ak,aa hiL];rfl));generalize v[i].1=x at lk lj hti hpi;generalize v[i].2=to at lk lj hti hpi;have pe:pend rs I.cps (bb+i)=[]:=by rw[ec];rfl
     rw[pe,z3.sd.hm,z3.sd.gr] at lj;have hx:x<A.length:=by have:=lk.hx;rw[z3.sd.hm,af] at this;exact this
     have egr:l.grp=A[x].2:=by
      have:=lk.gr
      rw[z3.sd.gr,ak,aa hx] at this;exact (aJ this).symm
     have hto:∀y,to=some y->y<A.length/\(A.map (·.2))[y]?=(A.map (·.2))[x]?:=λy e=>by
      have:=lk.ht y e
      rw[z3.sd.hm,af,z3.sd.gr] at this;exact this
     have hdl:l.aF.length<=800000:=by
      have:=(z3.sd.bd.lb l (aC hl)).1
      lia
     have hc1:∀c∈A,c.1<ns.length:=λc hc=>z3.sd.bd.hm c.1 (by rw[z3.sd.hm];exact bW hc);refine bC λNx s=>?_;refine⟨_,rfl,_,rfl,lO (bN.of (s6 _ _ aaZ)) hqi ⟨_,_,rfl,hti,rfl,_,_,rfl,_,_,rfl,rfl,s _ _ ?_⟩⟩;have S86:=S87.trans s6;refine⟨_,rfl,_,rfl,lO (bN.of (S86 _ _ agA)) (atc hx).1 (ie (S86.cz (atc hx).2) rfl ⟨_,rfl,rfl,_,rfl,?_⟩)⟩;by_cases eg:A[x].2=g
     case neg =>
      rw[show decide (V.int (A[x].2:Int)=V.int (g:Int))=false from e8 λq=>eg (by have:=V.int.inj q;lia)];exact dh (vf _ _ ⟨s6,_,_,_,_,_,rfl⟩)
     rw[show decide (V.int (A[x].2:Int)=V.int (g:Int))=true from eH (by rw[eg])];rw[egr,eg] at lj;refine dZ ⟨_,rfl,_,rfl,_,rfl,_,rfl,_,rfl,_,rfl,p,_,_,rfl,s6 _ _ VQ,rfl,_,rfl,_,rfl,_,_,rfl,rfl,F3,p,Y,ns.length,bb+i,I,l,rfl,N7.mono s6,hl,λa7 q7 H8' w7 ash ha7 XN=>?_⟩;have S97:=S86.trans w7;refine⟨b0,lb,Z,a7,qp,q7,ns,rs,os g,M,A,x,to,l.done,l.aF,E2,rfl,kF.nu.keep (λo z=>S97 _ _ z) (λb x=>S97.cz),bN.of ((s6.trans w7) _ _ hlb),bN.of (S97 _ _ agA),ac1.mono λb x=>S97.cz,bN.of ha7,XN,fo,Yd,∅,eM,HM,vq,hx,hc1,hto,hdl,lj,hne,λH9' w8=>⟨_,rfl,dh (vf _ _ ⟨(s6.trans w7).trans w8,_,_,_,_,_,rfl⟩)⟩⟩
    ·rintro σ H6 ⟨s6,v8,U,Lk,sZ,v15,rfl⟩
     exact s _ _ (k H6)
end
theorem walk{l:PySem.W.OpenLaw}{q:Program}{b:List Str}{XP:(Str->Option Value)->Heap->Prop}{o:World->Heap->Prop}{d:DefRec}{K:Params->ah}(r:l.most=some 63)(j:d.params.defaults=[])(m:d.name = "law")
 (C:∀(w:World) (h:Heap),o w h->(K w.params).In h)
 (F:∀(w:World) (i:Str->Option Value) (h:Heap),(K w.params).In h->h.Ns mainGlobals i->∃t,Txt (K w.params) i t) :
 PySem.W.WalkO q b XP o l.row.toRowW d [] (λf vs=>PySem.call f vs) :=
 L2.abo (n:=63) (k:=10) (x:="_law_script") (CX:=λ_=>iS) (sp:=λw=>aaT (K w.params)) r (!_) j ⟨rfl,!_,!_⟩ C
  (λw i D h u G c=>by
   obtain⟨t,T⟩:=F w i h u G;rw[m] at c;have e:=c.symm.trans T.ZV.g;cases e;refine⟨t.QX,λs v=>?_,λp _ _=>agv T⟩;obtain⟨_,_,_,_,_,_,_,_,_,e,_⟩:=T.ZV.F.ex;rw[e];exact .of_eq rfl)
  (λ_ _ a B A _ y=>⟨a,B,rfl,y,A,λ_=>rfl⟩) λ_ _ _ _ _ z=>z
end eK
end
structure PySem.W.Fast:Prop where(tw3072359406040583379 tw10225113165094063699 tw18371142774865168972 tw17884798042179585378 tw9352928489849323992 tw18276042480146694186 tw12203558725620214204 tw7478695892409110231 tw12134322997308987785 tw10996155381923267633 tw8991286945453725802 tw11361071903409748960 tw16993442006671095906 tw7779675305849537389 tw4851797648223821729 tw16311062979051528976 tw7504514775131908510 tw16734715621856283077 tw9787159569760959601 tw9298846509755591917 tw1456830781958678446 tw9576420691708544015 tw15564682592264430089 tw8982228465868242792 tw7582392760576111887 tw12974334377663971410 tw9691757173748128446 tw2747399783743747236 tw14369888064127754195 tw5891514594039841046 tw12311227007432269234 tw12519655760939923615 tw16433699171304482199 tw13375111497148208759 tw15806308180266604429 tw17364276597153234972 tw3929328947050688897 tw446149899852746156 tw5292275425110937785 tw12388929502472424831 tw8182797438345354999 tw8173370565265499953 tw13057208582404985464 tw14740934070996782993 tw11974150087832007348 tw15550005423875356030 tw11412751339535468418 tw391771411458391185 tw12681428844638060321 tw11445903719974301970 tw1184203845241885342 tw1226308408774671926 tw17548927185153915599 tw11146824844380263648 tw11271991943327170373 tw17845525557595903812 tw7562493229795409717 tw16499835889072925201 tw5699005049944711633 tw15958712081659736294 tw17514971175885333174 tw6373928134021360778 tw14219609342254773901 tw2305398302838248660 tw10167611505540339377 tw10449509955260317165 tw4606079761312064356 tw1409027340193454003 tw162830325159457262 tw16133503153005491064 tw12722202853157336513 tw191137607058642306 tw13174761947413104057 tw6376957512008065226 tw7028353991420925980 tw18119457363956488987 tw17509690530644384311 tw12189705153628742210 tw5313870272909731349 tw4768557178325026705 tw13589374251291477843 tw4167629204768935903 tw11456031170313384348 tw17863710090713833629 tw18139759947336898579 tw6775929920358742922 tw16989200535608059833 tw14358788388566914562 tw16110656608693217430 tw7707520345160517737 tw8760231268921660975 tw4742781065439047791 tw10309003490243873408 tw3224421626235439635 tw5073765502128632929 tw2394934543857049355 tw7604346552822437569 tw17427629632770461811 tw17171229372654058945 tw2884216775164999590 tw5758493245567022920 tw398515162858553357 tw12313110895234147928 tw1937190798339300551 tw7863601467568923251 tw9863665628486491224 tw8975539487654963762 tw2181416892528378905 tw14790633571416254297 tw15735949750795847357 tw5117783152301493444 tw17009110892581440044 tw3188189695525363836 tw12609371683574331890 tw18095407650507824190 tw3276633185265211060 tw4148609154448239663 tw13184584547382218246 tw8419752581192632860 tw7055512938984845103 tw10151066811868702768 tw5963935373648063986 tw2609448522324391018 tw323098980582327896 tw4420873753248898636 tw11403324918446088619 tw5846522721349463504 tw3395317092783839412 tw2442934584625826369 tw220250810301621519 tw4839072157280895028 tw1199871208424539467 tw8645179931478316109 tw10642891313999294475 tw972136665835411041 tw18439611740389993654 tw13714610072110871541 tw3837150535346267008 tw10364747305810632935 tw8537544447569808383 tw9477862036569752528 tw15053598975845400180 tw7061020544752138033 tw8072822170557294302 tw3998837260032115288 tw11717189348137657662 tw7336131736322883014 tw3840758776963248643 tw2472941416150893629 tw13550967971414070305 tw11849610180908436130 tw12404322580500775834 tw13880564711731865106 tw64858188342737043 tw10334578109375842073 tw10077792892833363078 tw13679673127632414728 tw13901454586665473205 tw219636724632067944 tw18211378385649557053 tw6648078120216585768 tw5652352242929656619 tw636566071794839068 tw16835824409915336970 tw3510256098305401911 tw9968814827683688225 tw15343336471901005898 tw12187995989245075937 tw2086720192457154418 tw15986625659905260994 tw14845221087389665824 tw16104868454383065811 tw2876653241399302093 tw12187929315206888420 tw8370348760718430022 tw15305714934173363855 tw1936134974295607135 tw9043306668154176440 tw13489395604541092215 tw851538890046309978 tw4683863477116392206 tw17428875003211643596 tw14283710705601143775 tw13654177008195551728 tw16065733496519468508 tw3802904041315193473 tw13371246784173821102 tw4322948258462004382 tw18407909208777168033 tw14641990897262226194 tw14578072830473845565 tw4258544902588284385 tw13008548702459848398 tw8754844147376762467 tw8735835838327958912 tw17698271849010995976 tw14521824063529729866 tw2240222940800622584 tw18237839397309257880 tw9593914682846715127 tw9819564940767460146 tw5891377271684930122 tw2775980865191423427 tw931277742197308110 tw7279541385594419862 tw6798967698492503 tw14886978460419608441 tw16005407974336567061 tw16993369622776847160 tw4525756486950299083 tw11691686552083658308 tw10143101827554180552 tw9854546638801104554 tw3451765120113072873 tw10650764820220325091 tw7984873432792751829 tw6548701045066849624 tw5987700136286474718 tw1971197740214073868 tw3360794980490792812 tw9530968164147403213 tw3709634031376764436 tw34474643832955609 tw7666816442116947309 tw6101435521338159835 tw16914217147515202574 tw10394872413175818401 tw3597039610436431808 tw10340976900814785162 tw6456579464778346139 tw13471735513101252946 tw13920844809340589069 tw9545423933773022676 tw3820754038151003358 tw18326411333532383866 tw3873138591175770255 tw14888075774501173678 tw11127872745563829359 tw16095068670446716472 tw13336306749038331777 tw5335756175545256380 tw9416979828484127010 tw10133049839586435779 tw7706646693759779859 tw13280368794931350719 tw12899752217469114764 tw2843594018211888034 tw3256461424913928835 tw1598536334726737526 tw16796294124110776711 tw2453774193067062593 tw15096257620184799047 tw18230010439920649148 tw16161499077836671346 tw4645902382391173020 tw11958147347561025729 tw889415278487541739 tw5645354123659656041 tw11180354113034505749 tw16484336242165117302 tw751788330500685676 tw4873938401334186697 tw6298332252755052149 tw5700265083336051473 tw17417320346620426716 tw744423629888896143 tw3531193154862857866 tw12583053580659361368 tw9449739273736526182 tw1979156595798523419 tw18247010486042727089 tw12637988377450726498 tw13189257937739207756 tw2639478744636169655 tw6915030531661975663 tw8643045002362641792 tw10936905938842384104 tw5971560152160806992:True)
open PySem PySem.W PyProof.Rows
set_option maxRecDepth 100000 in
set_option maxHeartbeats 0 in
theorem PySem.Challenge.cw_knotless_k43_whole_calm_letters_holds : PySem.Challenge.rw_knotless_k43_whole_calm_letters.Holds := by
 w_on;o_law;k_head;(case hw=>w_witness2)
 k_fill
 refine eK.walk (l:=PySem.Challenge.rw_knotless_k43_whole_calm_letters) rfl rfl rfl (fun w h Y=>PySem.W.kIn_of Y) ?F
 case F =>
  intro w mg h KX G
  refine' eK.afq KX G ?GO ?Ky ?Kz ?GP ?O6 ?DR ?O7 ?TH ?w6 ?zw ?zx ?w9 ?GQ ?DS ?rW ?uM ?uN ?rX ?uO ?xg ?xh ?uP ?xj ?GR ?O9 ?ZZ ?Z0 ?Pa ?GS ?Pb ?xm ?Bm ?Bo ?rY ?uQ ?Bp ?xo ?xq ?zy ?Bq ?qd ?uR ?xr ?nJ ?nK ?uS ?DT ?xu ?rZ ?zz ?DU ?DV ?Br ?zA ?DW ?DY ?GU ?DZ ?D0 ?D3 ?D4 ?D5 ?zB ?Bs ?zC ?xw ?xx ?xA ?xB ?qN ?uT ?Bt ?xC ?r6 ?qe ?D6 ?pI ?r8 ?jo ?pJ ?nL ?qg ?zD ?r9 ?Bu ?GV ?GW ?GX ?Bv ?KA ?D7 ?D8 ?TJ ?KC ?D9 ?uU ?Ea ?GY ?Eb ?Z1 ?Bw ?qi ?zE ?Fe ?se ?Bx ?Ff ?sf ?By ?BA ?qj ?sj ?xD ?pK ?sq ?KD ?lQ ?lR ?zF ?zG ?yo ?sr ?nM ?KE ?zH ?Q6 ?BB ?uV ?kZ ?zI ?zJ ?xE ?xF ?uW ?xG ?uX ?uY ?sy ?KG ?qk ?ql ?qm ?GZ ?G0 ?Ec ?Ed ?xH ?zK ?zL ?zM ?uZ ?zN ?zO ?Z2 ?zP ?Z3 ?TL ?TM ?Pc ?Pd ?BC ?Z4 ?Z5 ?Z6 ?Z7 ?Z8 ?KH
  case GO|Ky|Kz|GP|O6|DR|O7|TH | D0|D3|D4|D5|zB|Bs | xw|xx|xA|xB|qN|uT | qi|zE | se|Bx | sf|By | qj|sj|xD|pK|sq | lQ|lR|zF|zG | sr|nM | zH | BB|uV|kZ|zI|zJ|xE|xF|uW|xG|uX|uY|sy|KG|qk|ql|qm|GZ | Ec | xH|zK|zL|zM|uZ|zN|zO|Z2|zP|Z3|TL|TM|Pc|Pd|BC|Z4|Z5|Z6|Z7|Z8|KH=>k_is
  case w6|zw|zx|w9 | rW|uM|uN|rX|uO|xg|xh|uP|xj | xm|Bm|Bo|rY|uQ|Bp | qd|uR|xr|nJ|nK|uS | rZ|zz|DU|DV|Br|zA|DW|DY|GU|DZ | zC | Bt|xC|r6|qe|D6|pI|r8|jo|pJ|nL|qg=>exact L2.wZ (by k_is) (by k_is) (by k_is) (by k_is) (by k_is)
  case GQ|DS | GR|O9|ZZ|Z0|Pa|GS|Pb | xo|xq|zy|Bq | DT|xu | zD|r9|Bu|GV|GW|GX|Bv|KA|D7|D8|TJ|KC|D9|uU|Ea|GY|Eb|Z1=>exact L2.YF KX G (by k_is) (by k_is) (by k_is) (by k_is)
  case Bw | Fe | Ff | BA | KD | yo | KE | Q6=>exact L2.qo (by k_is) (by k_is) (by k_is) (by k_is) (by k_is) (by k_is)
  case G0 | Ed=>exact⟨by k_exc,by k_is,by k_is,by k_is,by k_is,by k_is,by k_is,by k_is,by k_is⟩
#print axioms PySem.Challenge.cw_knotless_k43_whole_calm_letters_holds
